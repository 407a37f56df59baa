/- The scheduler: New. -/
import Derived.Test.YtaloafihbdamiaaSI
namespace Go.Proofs.Ytaloafihbdamiaa
open Go.ChangeShapes Go.WideShapes Go.ChangeAt Go.RowKit
theorem info63 : (Try.prog.info? 63).map (fun i => (i.zero, i.size, i.bytes)) = some (some (.agg #[.int .i64 0, .int .i64 0]), 2, 16) := by kernel_rfl
theorem made_two (m : Nat) : madeCells (Value.agg #[.int .i64 0, .int .i64 0]).cells (m * 2) = fcells (m * 2) (fun _ => .int .i64 0) := by
  unfold madeCells fcells
  congr 1
  funext x
  show (#[Value.int .i64 0, .int .i64 0])[x % 2]! = _
  have : x % 2 = 0 ∨ x % 2 = 1 := by omega
  rcases this with e | e <;> rw [e] <;> rfl
theorem mk_two (m : Nat) (hm : m ≤ 1000000) (W : World) : (Instr.makeSlice 58 (.int .i64 (m : Int)) (.int .i64 (m : Int))).run Try.prog W = .ok (.slice (some ⟨W.heap.size, 0, none⟩) m m) (W.alloc (.cells (fcells (m * 2) (fun _ => .int .i64 0)) 63)) := by
  obtain ⟨i, hi, hz, hs, hb⟩ := info_parts info63
  have h := run_make (P := Try.prog) W 58 63 i _ Try.underlying58 hi hz .i64 .i64 (m : Int) (m : Int) (by omega) (by omega) (by rw [hb]; omega) (by omega)
  rw [hs, Int.toNat_natCast, made_two] at h
  exact h
/-- Of so many processors the first ones have been told that they have none. -/
def prN (n j : Nat) : List (Int × Int) := (List.range n).map fun i => if i < j then (-1, 0) else (0, 0)
theorem prN_len (n j : Nat) : (prN n j).length = n := by simp [prN]
theorem prN_at (n j i : Nat) : (prN n j)[i]? = if i < n then some (if i < j then (-1, 0) else (0, 0)) else none := by
  by_cases c : i < n
  · rw [if_pos c]; simp [prN, c]
  · rw [if_neg c]; simp [prN]; omega
theorem prN_get (n j i : Nat) (h : i < n) : (prN n j).getD i (-1, 0) = if i < j then (-1, 0) else (0, 0) := by
  rw [List.getD, prN_at, if_pos h]; rfl
theorem prN_set (n j : Nat) (h : j < n) : (prN n j).set j (-1, 0) = prN n (j + 1) := by
  apply List.ext_getElem?
  intro i
  rw [List.getElem?_set, prN_at, prN_at, prN_len]
  by_cases e : j = i
  · subst e; rw [if_pos rfl, if_pos h, if_pos h, if_pos (by omega)]
  · rw [if_neg e]
    by_cases c : i < j
    · rw [if_pos c, if_pos (show i < j + 1 by omega)]
    · rw [if_neg c, if_neg (show ¬ i < j + 1 by omega)]
theorem prN_all (n : Nat) : prN n n = List.replicate n (-1, 0) := by
  apply List.ext_getElem?
  intro i
  rw [prN_at, List.getElem?_replicate]
  by_cases c : i < n
  · rw [if_pos c, if_pos c, if_pos c]
  · rw [if_neg c, if_neg c]
def Sx.ini (n : Nat) : Sx := ⟨Go.Proofs.Ytaloafihbdamiaa.ini n, List.replicate n [], 0, List.replicate n (-1, 0), [], 0⟩
theorem schnew_bad (n : Int) (w : World) (h : n < 1 ∨ 8 < n) : Calls Try.prog 10 #[.int .i64 n] w fun e w' => e = .returned (.tuple #[.pointer none, .int .i64 1]) ∧ w = w' := by
  have C := Lib.hid (new_bad n w h)
  clear h
  go_enter Try.func10, Try.ntmps10
  go_wp2_with (go_at_call 24; ((with_reducible refine (C.out).mono ?_); rintro e w1 ⟨rfl, rfl⟩))
  go_returns
  exact ⟨rfl, rfl⟩
set_option maxHeartbeats 1000000 in
theorem schnew_ok (n : Nat) (w : World) (h1 : 1 ≤ n) (h2 : n ≤ 8) : Calls Try.prog 10 #[.int .i64 (n : Int)] w fun e w' => ∃ bs bq bt b3, e = .returned (.tuple #[.pointer (some ⟨bs, 0, none⟩), .int .i64 0]) ∧ Mine w (ScA bs bq bt b3 (Sx.ini n)) w' := by
  have C1 : Hid (Calls Try.prog 24 #[.int .i64 (n : Int)] w fun e w' => e = .returned (.tuple #[.pointer (some ⟨w.heap.size + 1, 0, none⟩), .int .i64 0]) ∧ Mine w (QuA (w.heap.size + 1) (Go.Proofs.Ytaloafihbdamiaa.ini n)) w') := Lib.hid
    ((new_ok n w h1 h2).mono fun e w' ⟨a, q, c⟩ => ⟨a, _, ⟨_, _, _, q⟩, c, fun i hi => by omega⟩)
  have C2 : Hid (∀ w1, Calls Try.prog 25 #[.int .i64 (n : Int)] w1 fun e w' => e = .returned (.tuple #[.pointer (some ⟨w1.heap.size + 1, 0, none⟩), .int .i64 0]) ∧ Mine w1 (TiA (w1.heap.size + 1) (List.replicate n []) 0) w') := Lib.hid fun w1 =>
    ((tnew_ok n w1 h1 h2).mono fun e w' ⟨a, q, c⟩ => ⟨a, _, ⟨_, _, q⟩, c, fun i hi => by omega⟩)
  have HM := Lib.hid fun W => mk_two n (by omega) W
  have HO : Hid (∀ (w2 : World) (bq bt : Nat), Mine w2 (OwA (w2.heap.size + 1) bq bt w2.heap.size (prN n 0) [] 0) ((w2.alloc (.cells (fcells (n * 2) fun _ => .int .i64 0) 63)).alloc (.cells #[.pointer (some ⟨bq, 0, none⟩), .pointer (some ⟨bt, 0, none⟩), .slice (some ⟨w2.heap.size, 0, none⟩) n n, .slice none 0 0, .int .u64 0] 61))) := Lib.hid fun w2 bq bt => by
    have hd := heap_alloc2_new w2 (.cells (fcells (n * 2) fun _ => .int .i64 0) 63) (.cells #[.pointer (some ⟨bq, 0, none⟩), .pointer (some ⟨bt, 0, none⟩), .slice (some ⟨w2.heap.size, 0, none⟩) n n, .slice none 0 0, .int .u64 0] 61)
    refine ⟨fun i => i = w2.heap.size ∨ i = w2.heap.size + 1, ⟨.slice none 0 0, { head := by rw [prN_len]; exact hd, prs := ?_, gls := En.Lies.nil _ _, ne := by omega, gb := fun b e => (by cases e), fs := .inr rfl, f3 := .inl rfl, n8 := by rw [prN_len]; exact h2, g64 := by decide, c0 := by decide, c1 := by decide, old := fun i hi => ?_ }⟩, ((Cha.refl _ w2).alloc _).alloc _, fun i hi => by omega⟩
    · rw [prN_len]
      refine (show FRow 63 _ w2.heap.size (n * 2) (fun _ => .int .i64 0) from heap_alloc2_old w2 _ _).congr fun i hi => ?_
      unfold prV
      rw [prN_get n 0 (i / 2) (by omega), if_neg (Nat.not_lt_zero _)]
      split <;> rfl
    · have := (Array.getElem?_eq_some_iff.1 hd).1; omega
  have HF : Hid (∀ (bs bq bt b3 : Nat) (W : World), Mine w (ScA bs bq bt b3 { Sx.ini n with pr := prN n n }) W → Mine w (ScA bs bq bt b3 (Sx.ini n)) W) := Lib.hid fun bs bq bt b3 W h => by rw [prN_all] at h; exact h
  go_enter Try.func10, Try.ntmps10
  go_wp2_with (first
    | (go_at_call 24; ((with_reducible refine (C1.out).mono ?_); rintro e w1 ⟨rfl, hM⟩; have M1 := Lib.hid hM; clear hM))
    | (go_at_call 25; ((with_reducible refine (C2.out w1).mono ?_); rintro e w2 ⟨rfl, hM⟩; have M2 := Lib.hid ((M1.out.star fit_qu fit_ti hM).star (fit_qu.star fit_ti) fit_ow (HO.out w2 (w.heap.size + 1) (w1.heap.size + 1))); clear hM))
    | (rw [HM.out]))
  generalize w.heap.size + 1 = bq at *
  generalize w1.heap.size + 1 = bt at *
  generalize hbs : w2.heap.size + 1 = bs at *
  generalize hb3 : w2.heap.size = b3 at *
  have M3 : Hid (Mine w (ScA bs bq bt b3 { Sx.ini n with pr := prN n 0 }) _) := M2
  clear M1 M2 HO C1 C2 HM hbs
  go_loopw [8, 36] (fun _ i wr => ∃ j : Nat, j ≤ n ∧ i = .int .i64 (j : Int) ∧ Mine w (ScA bs bq bt b3 { Sx.ini n with pr := prN n j }) wr) (fun _ i _ => n - (intOf i).toNat)
  case atStart => exact ⟨0, Nat.zero_le _, rfl, M3.out⟩
  case round =>
    clear M3
    obtain ⟨j, hj, rfl, hM⟩ := hrel
    have HM := Lib.hid hM
    obtain ⟨F, q, -, -⟩ := hM
    obtain ⟨F2, gv, o, -, -⟩ := Sc.own q
    obtain ⟨-, -, c2', -, -, -⟩ := o.facts
    have c2 : wr.cell? ⟨bs, 2, none⟩ = some (.slice (some ⟨b3, 0, none⟩) n n) := by rw [c2']; show some (Value.slice _ (prN n j).length (prN n j).length) = _; rw [prN_len]
    by_cases hlt : j < n
    · have hl : j < (prN n j).length := by rw [prN_len]; exact hlt
      obtain ⟨d0, -, df⟩ := Sc.pcs (p := j) q hl
      have HN : Hid (Mine w (ScA bs bq bt b3 { Sx.ini n with pr := prN n (j + 1) }) (wr.setCell ⟨b3, j * 2, none⟩ (.int .i64 (-1)))) := Lib.hid (HM.out.goes fun F q => by
        have := (Sc.clearP (p := j) q hl).2.2
        have e : Sx.runs { Sx.ini n with pr := prN n j } j = 0 := by
          show ((prN n j).getD j (-1, 0)).2 = 0
          rw [prN_get n j j hlt]; split <;> rfl
        rw [e] at this
        dsimp only at this
        rw [prN_set n j hlt] at this
        exact this)
      clear o q HM hl c2'
      go_wp2
      go_roundw
      case rel => exact ⟨j + 1, by omega, by go_num, HN.out⟩
      case measure => simp [intOf]; omega
    · obtain rfl : j = n := by omega
      have HQ := Lib.hid (HF.out _ _ _ _ _ HM.out)
      clear o q HM c2'
      go_wp2
      go_returns
      first | exact ⟨bs, bq, bt, b3, rfl, HQ.out⟩ | exact ⟨bs, rfl, bq, bt, b3, HQ.out⟩
end Go.Proofs.Ytaloafihbdamiaa
