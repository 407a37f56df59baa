/- Contracts of layer 3's parts that ask for words: need, wake, word. -/
import Derived.Test.YtbkpbineagfbgaaC
namespace Go.Proofs.Ytbkpbineagfbgaa
open Go.ChangeShapes Go.WideShapes Go.ChangeAt Go.RowKit

abbrev faults (y : Int) : Ending := .panicked [{ v := .iface 85 (.agg #[.int .i64 y]), recovered := false }]
theorem build73 (s : Int) (w : World) : (Instr.build 73 #[(0, .int .i64 s)]).run Try.prog w = .ok (.agg (pageOf s)) w := by kernel_rfl
theorem info73 : (Try.prog.info? 73).map (·.size) = some 65 := by kernel_rfl
theorem one_pageOf (s : Int) : (pageOf s).all (·.oneCell') = true := by kernel_rfl

theorem wpList_page {ops : Array Oper} {rest : List Oper} {op : Oper} {a : Act} {w : World} {Q : Exit → Act → World → Prop} (hgd : op.guard = none) (x : Operand) (ho : op.op = .build 73 #[(0, x)]) (s : Int) (hx : a.eval x = .int .i64 s) (c : Array Value) (hc : Hid (c = pageOf s))
    (h : wpList Try.prog ops Q rest (a.put op.dst (.agg c)) w) : wpList Try.prog ops Q (op :: rest) a w :=
  wpList_plain hgd fun _ hK => by
    have k := build73 s w
    rw [← hc.out] at k
    unfold Oper.wp execOp
    simp only [ho, List.map_toArray, List.map_cons, List.map_nil, hx, Sem.run_bind, k, Result.andThen_ok]
    exact hK _ _ h

/-- The pages in which n words from a on lie. -/
def np (a n : Nat) : Nat := (a + n - 1) / 64 - a / 64 + 1

theorem need_out (a : Int) (k : Nat) {w : World} {bm bp n : Nat} {st wd : Nat → Int} (h : Mem w bm bp n st wd) (hk : 1 ≤ k) (hk2 : (k : Int) ≤ 9223372036854775807) (ha : a < 0 ∨ (n : Int) * 64 - k < a) :
    Calls Try.prog 38 #[.pointer (some ⟨bm, 0, none⟩), .int .i64 a, .int .i64 (k : Int)] w fun e w' => e = faults 6 ∧ w = w' := by
  have hp := h.ptr
  have hl := h.le
  have C := Lib.hid (within_no a k ((n : Int) * 64) w ha (by omega) (by omega) (by omega) (by omega))
  clear h ha
  go_enter Try.func38, Try.ntmps38
  go_wp2_with (go_at_call 32; ((with_reducible refine (C.out).mono ?_); rintro e w1 ⟨rfl, rfl⟩))
  exact ⟨rfl, rfl, rfl⟩
theorem need_no (a k : Nat) {w : World} {bm bp n : Nat} {st wd : Nat → Int} (h : Mem w bm bp n st wd) (hk : 1 ≤ k) (ha : a + k ≤ n * 64) (hall : allB st (a / 64) [1, 2] (np a k) = false) :
    Calls Try.prog 38 #[.pointer (some ⟨bm, 0, none⟩), .int .i64 (a : Int), .int .i64 (k : Int)] w fun e w' => e = faults 6 ∧ w' = w.alloc (.cells #[.int .i64 1, .int .i64 2] 69) := by
  have hp := h.ptr
  have hl := h.le
  have C := Lib.hid (within_yes a k ((n : Int) * 64) w (by omega) (by omega) (by omega) (by omega) (by omega) (by omega))
  have C2 := Lib.hid (pagesOf_any a k w hk (by omega))
  have hm : Mem (w.alloc (.cells #[.int .i64 1, .int .i64 2] 69)) bm bp n st wd := h.chg ((Chg.refl (fun _ => False) w).alloc _ _) (fun x => x) (fun x => x)
  have C3 := Lib.hid (allIn_two (a / 64) (np a k) 1 2 w.heap.size hm (by unfold np; omega) (by rw [World.cell?_alloc_new]; rfl) (by rw [World.cell?_alloc_new]; rfl))
  rw [hall] at C3
  have e1 : (a + k - 1) / 64 - a / 64 + 1 = np a k := rfl
  rw [e1] at C2
  clear h hm hall e1
  have ha' : (a : Int) + k ≤ n * 64 := by omega
  clear ha
  generalize np a k = m at *
  generalize a / 64 = b at *
  go_enter Try.func38, Try.ntmps38
  go_wp2_with (first
    | (go_at_call 32; ((with_reducible refine (C.out).mono ?_); rintro e w1 ⟨rfl, rfl⟩))
    | (go_at_call 46; ((with_reducible refine (C2.out).mono ?_); rintro e w1 ⟨rfl, rfl⟩))
    | (go_at_call 45; ((with_reducible refine (C3.out).mono ?_); rintro e w1 ⟨rfl, rfl⟩)))
  exact ⟨rfl, rfl, rfl⟩
theorem need_yes (a k : Nat) {w : World} {bm bp n : Nat} {st wd : Nat → Int} (h : Mem w bm bp n st wd) (hk : 1 ≤ k) (ha : a + k ≤ n * 64) (hall : allB st (a / 64) [1, 2] (np a k) = true) :
    Calls Try.prog 38 #[.pointer (some ⟨bm, 0, none⟩), .int .i64 (a : Int), .int .i64 (k : Int)] w fun e w' => e = .returned (.tuple #[]) ∧ w' = w.alloc (.cells #[.int .i64 1, .int .i64 2] 69) := by
  have hp := h.ptr
  have hl := h.le
  have C := Lib.hid (within_yes a k ((n : Int) * 64) w (by omega) (by omega) (by omega) (by omega) (by omega) (by omega))
  have C2 := Lib.hid (pagesOf_any a k w hk (by omega))
  have hm : Mem (w.alloc (.cells #[.int .i64 1, .int .i64 2] 69)) bm bp n st wd := h.chg ((Chg.refl (fun _ => False) w).alloc _ _) (fun x => x) (fun x => x)
  have C3 := Lib.hid (allIn_two (a / 64) (np a k) 1 2 w.heap.size hm (by unfold np; omega) (by rw [World.cell?_alloc_new]; rfl) (by rw [World.cell?_alloc_new]; rfl))
  rw [hall] at C3
  have e1 : (a + k - 1) / 64 - a / 64 + 1 = np a k := rfl
  rw [e1] at C2
  clear h hm hall e1
  have ha' : (a : Int) + k ≤ n * 64 := by omega
  clear ha
  generalize np a k = m at *
  generalize a / 64 = b at *
  go_enter Try.func38, Try.ntmps38
  go_wp2_with (first
    | (go_at_call 32; ((with_reducible refine (C.out).mono ?_); rintro e w1 ⟨rfl, rfl⟩))
    | (go_at_call 46; ((with_reducible refine (C2.out).mono ?_); rintro e w1 ⟨rfl, rfl⟩))
    | (go_at_call 45; ((with_reducible refine (C3.out).mono ?_); rintro e w1 ⟨rfl, rfl⟩)))
  go_end0
  exact ⟨rfl, rfl⟩

def wst (st : Nat → Int) (b k : Nat) : Nat → Int := fun p => if b ≤ p ∧ p < b + k ∧ st p = 2 then 1 else st p
def wwd (st wd : Nat → Int) (b k : Nat) : Nat → Int := fun a => if b ≤ a / 64 ∧ a / 64 < b + k ∧ st (a / 64) = 2 then 0 else wd a
theorem wst_zero (st : Nat → Int) (b : Nat) : wst st b 0 = st := by funext p; unfold wst; rw [if_neg (by omega)]
theorem wwd_zero (st wd : Nat → Int) (b : Nat) : wwd st wd b 0 = wd := by funext p; unfold wwd; rw [if_neg (by omega)]
theorem wst_stay {st : Nat → Int} {b k : Nat} (h : st (b + k) ≠ 2) : wst st b (k + 1) = wst st b k := by
  funext p; unfold wst
  by_cases e : p = b + k
  · subst e; rw [if_neg (by omega), if_neg (by omega)]
  · by_cases c : b ≤ p ∧ p < b + k ∧ st p = 2
    · rw [if_pos c, if_pos (by omega)]
    · rw [if_neg c, if_neg (by omega)]
theorem wwd_stay {st wd : Nat → Int} {b k : Nat} (h : st (b + k) ≠ 2) : wwd st wd b (k + 1) = wwd st wd b k := by
  funext a; unfold wwd
  by_cases e : a / 64 = b + k
  · rw [e, if_neg (by omega), if_neg (by omega)]
  · by_cases c : b ≤ a / 64 ∧ a / 64 < b + k ∧ st (a / 64) = 2
    · rw [if_pos c, if_pos (by omega)]
    · rw [if_neg c, if_neg (by omega)]
theorem wst_turn {st : Nat → Int} {b k : Nat} (h : st (b + k) = 2) : wst st b (k + 1) = upd (wst st b k) (b + k) 1 := by
  funext p; unfold wst upd
  by_cases e : p = b + k
  · subst e; rw [if_pos (by omega), if_pos rfl]
  · rw [if_neg e]
    dsimp only
    by_cases c : b ≤ p ∧ p < b + k ∧ st p = 2
    · rw [if_pos c, if_pos (by omega)]
    · rw [if_neg c, if_neg (by omega)]
theorem wwd_turn {st wd : Nat → Int} {b k : Nat} (h : st (b + k) = 2) : wwd st wd b (k + 1) = clr (wwd st wd b k) (b + k) := by
  funext a; unfold wwd clr
  by_cases e : a / 64 = b + k
  · rw [e, if_pos (by omega), if_pos rfl]
  · rw [if_neg e]
    dsimp only
    by_cases c : b ≤ a / 64 ∧ a / 64 < b + k ∧ st (a / 64) = 2
    · rw [if_pos c, if_pos (by omega)]
    · rw [if_neg c, if_neg (by omega)]

set_option maxHeartbeats 1000000 in
theorem wake_any (a k : Nat) {w : World} {bm bp n : Nat} {st wd : Nat → Int} (h : Mem w bm bp n st wd) (hk : 1 ≤ k) (ha : a + k ≤ n * 64) :
    Calls Try.prog 39 #[.pointer (some ⟨bm, 0, none⟩), .int .i64 (a : Int), .int .i64 (k : Int)] w fun e w' =>
      e = .returned (.tuple #[]) ∧ Mem w' bm bp n (wst st (a / 64) (np a k)) (wwd st wd (a / 64) (np a k)) ∧ Chg (· = bp) w w' := by
  have hl := h.le
  have C2 := Lib.hid (pagesOf_any a k w hk (by omega))
  have e1 : (a + k - 1) / 64 - a / 64 + 1 = np a k := rfl
  rw [e1] at C2
  have hb : a / 64 + np a k ≤ n := by unfold np; omega
  have M0 := Lib.hid (show Mem w bm bp n (wst st (a / 64) 0) (wwd st wd (a / 64) 0) by rw [wst_zero, wwd_zero]; exact h)
  clear h ha e1
  generalize np a k = m at *
  generalize a / 64 = b at *
  go_enter Try.func39, Try.ntmps39
  go_wp2_with (go_at_call 46; ((with_reducible refine (C2.out).mono ?_); rintro e w1 ⟨rfl, rfl⟩))
  go_loopw [16] (fun i wr => ∃ j : Nat, j ≤ m ∧ i = .int .i64 (j : Int) ∧ Mem wr bm bp n (wst st b j) (wwd st wd b j) ∧ Chg (· = bp) w wr) (fun i _ => m - (intOf i).toNat)
  case atStart => exact ⟨0, Nat.zero_le _, rfl, M0.out, Chg.refl _ _⟩
  case round =>
    obtain ⟨j, hj, rfl, hM, hC⟩ := hrel
    have hp := hM.ptr
    by_cases hlt : j < m
    · have hs := hM.state (p := b + j) (by omega)
      have es : wst st b j (b + j) = st (b + j) := by unfold wst; rw [if_neg (by omega)]
      rw [es] at hs
      by_cases he : st (b + j) = 2
      · have ht := hM.there (p := b + j) (by omega) 1
        have hM2 := Lib.hid (hM.setPage (p := b + j) (by omega) 1 (by omega))
        obtain ⟨c, hc0⟩ : ∃ c, c = pageOf 1 := ⟨_, rfl⟩
        rw [← wst_turn he, ← wwd_turn he, ← hc0] at hM2
        have hC2 := Lib.hid (hC.setCells (g := bp) (fun _ => rfl) ((b + j) * 65) (pageOf 1).toList)
        rw [← hc0] at hC2 ht
        have hc := Lib.hid hc0
        clear hc0
        have HM := Lib.hid hM
        have HT := Lib.hid ht
        rw [he] at hs
        clear hM he es ht hC
        go_wp2_with (first | (refine wpList_page rfl (.const (.int .i64 1)) rfl 1 rfl c hc ?_) | refine wpList_store_mid rfl 73 (.tmp 38) (.tmp 37) rfl bp ((b + j) * 65) c rfl rfl HT.out (by rw [hc.out, size_pageOf]; exact info73) (by rw [hc.out]; exact one_pageOf 1) ?_)
        go_roundw
        case rel => exact ⟨j + 1, by omega, by go_num, hM2.out, hC2.out⟩
        case measure => simp [intOf]; omega
      · have HM := Lib.hid hM
        have es1 := Lib.hid (wst_stay he)
        have es2 := Lib.hid (wwd_stay (wd := wd) he)
        clear hM es
        go_wp2
        go_roundw
        case rel => exact ⟨j + 1, by omega, by go_num, by rw [es1.out, es2.out]; exact HM.out, hC⟩
        case measure => simp [intOf]; omega
    · obtain rfl : j = m := by omega
      go_wp2
      go_end0
      exact ⟨rfl, hM, hC⟩
end Go.Proofs.Ytbkpbineagfbgaa
