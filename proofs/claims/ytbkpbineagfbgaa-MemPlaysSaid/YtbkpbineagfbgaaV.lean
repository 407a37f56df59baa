/- The contract of layer 3's Copy. -/
import Derived.Test.YtbkpbineagfbgaaR
namespace Go.Proofs.Ytbkpbineagfbgaa
open Go.ChangeShapes Go.WideShapes Go.ChangeAt Go.RowKit

/-- k words of a block. -/
def rcells (k : Nat) (r : Nat → Int) : Array Value := (Array.range k).map fun i => .int .u64 (r i)
theorem get_rcells (k i : Nat) (r : Nat → Int) : (rcells k r)[i]? = if i < k then some (.int .u64 (r i)) else none := by
  unfold rcells
  by_cases h : i < k
  · simp [h]
  · rw [if_neg h, Array.getElem?_eq_none (by simp; omega)]
def Row (t : TypeId) (W : World) (g k : Nat) (r : Nat → Int) : Prop := W.heap[g]? = some (.cells (rcells k r) t (0, 0))
theorem Row.cell {t : TypeId} {W : World} {g k i : Nat} {r : Nat → Int} (h : Row t W g k r) (hi : i < k) : W.cell? ⟨g, i, none⟩ = some (.int .u64 (r i)) := by
  rw [cell_of_row W g i _ t (0, 0) h, get_rcells, if_pos hi]
theorem Row.free {t : TypeId} {W : World} {g k : Nat} {r : Nat → Int} (h : Row t W g k r) (i : Nat) : W.frozen? ⟨g, i, none⟩ = false := frozen_of_row W g i _ t h
theorem Row.lt {t : TypeId} {W : World} {g k : Nat} {r : Nat → Int} (h : Row t W g k r) : g < W.heap.size := by
  by_cases hl : g < W.heap.size
  · exact hl
  · unfold Row at h; rw [Array.getElem?_eq_none (by omega)] at h; cases h
theorem Row.chg {t : TypeId} {S : Nat → Prop} {W W' : World} {g k : Nat} {r : Nat → Int} (h : Row t W g k r) (c : Chg S W W') (hs : ¬ S g) : Row t W' g k r := (c.old _ h.lt hs).trans h
theorem Row.set {t : TypeId} {W : World} {g k i : Nat} {r : Nat → Int} (h : Row t W g k r) (v : Int) : Row t (W.setCell ⟨g, i, none⟩ (.int .u64 v)) g k (upd r i v) := by
  have e := heap_setCell_same W g i _ t (.int .u64 v) h
  have e2 : (rcells k r).setIfInBounds i (.int .u64 v) = rcells k (upd r i v) := by
    apply Array.ext_getElem?
    intro x
    rw [Array.getElem?_setIfInBounds, get_rcells, get_rcells]
    have hs : (rcells k r).size = k := by simp [rcells]
    rw [hs]
    by_cases ex : i = x
    · subst ex; rw [if_pos rfl, upd_same]
    · rw [if_neg ex, upd_other _ _ (fun c => ex c.symm)]
  rw [e2] at e
  exact e
theorem Row.congr {t : TypeId} {W : World} {g k : Nat} {r r' : Nat → Int} (h : Row t W g k r) (he : ∀ i, i < k → r i = r' i) : Row t W g k r' := by
  have e : rcells k r = rcells k r' := by
    apply Array.ext_getElem?
    intro x
    rw [get_rcells, get_rcells]
    split
    · rw [he x (by assumption)]
    · rfl
  unfold Row
  rw [← e]
  exact h

theorem info31 : (Try.prog.info? 31).map (fun i => (i.zero, i.size, i.bytes)) = some (some (.int .u64 0), 1, 8) := by kernel_rfl
theorem made_words (m : Nat) : madeCells (Value.int .u64 0).cells (m * 1) = rcells m zro := by
  rw [Nat.mul_one]
  unfold madeCells rcells
  congr 1
  funext x
  show (#[Value.int .u64 0])[x % 1]! = _
  rw [Nat.mod_one]
  rfl
theorem mk_words (m : Nat) (hm : m ≤ 1000000) (W : World) : (Instr.makeSlice 79 (.int .i64 (m : Int)) (.int .i64 (m : Int))).run Try.prog W = .ok (.slice (some ⟨W.heap.size, 0, none⟩) m m) (W.alloc (.cells (rcells m zro) 31)) := by
  obtain ⟨i, hi, hz, hs, hb⟩ := info_parts info31
  have h := run_make (P := Try.prog) W 79 31 i _ Try.underlying79 hi hz .i64 .i64 (m : Int) (m : Int) (by omega) (by omega) (by rw [hb]; omega) (by omega)
  rw [hs, Int.toNat_natCast, made_words] at h
  exact h

/-- The words behind a copy of the first j. -/
def cpy (wd : Nat → Int) (t f j : Nat) : Nat → Int := fun x => if t ≤ x ∧ x < t + j then wd (x - t + f) else wd x
theorem cpy_zero (wd : Nat → Int) (t f : Nat) : cpy wd t f 0 = wd := by funext x; unfold cpy; rw [if_neg (by omega)]
theorem cpy_step (wd : Nat → Int) (t f j : Nat) : upd (cpy wd t f j) (t + j) (wd (f + j)) = cpy wd t f (j + 1) := by
  funext x; unfold upd cpy
  by_cases e : x = t + j
  · rw [if_pos e, if_pos (by omega)]
    congr 1; omega
  · rw [if_neg e]
    by_cases c : t ≤ x ∧ x < t + j
    · rw [if_pos c, if_pos (by omega)]
    · rw [if_neg c, if_neg (by omega)]
theorem Zer.wake {n : Nat} {st wd : Nat → Int} (h : Zer n st wd) (b k : Nat) : Zer n (wst st b k) wd := fun a ha hs => by
  unfold wst at hs
  by_cases c : b ≤ a / 64 ∧ a / 64 < b + k ∧ st (a / 64) = 2
  · rw [if_pos c] at hs; omega
  · rw [if_neg c] at hs; exact h a ha hs
theorem Mem.alloc {w : World} {bm bp n : Nat} {st wd : Nat → Int} (h : Mem w bm bp n st wd) (c : Array Value) (t : TypeId) : Mem (w.alloc (.cells c t)) bm bp n st wd := h.chg ((Chg.refl (fun _ => False) w).alloc _ _) (fun x => x) (fun x => x)

/-- What is known behind the pages' waking. -/
structure Cp (w W : World) (bm bp n : Nat) (st wd : Nat → Int) : Prop where
  mem : Mem W bm bp n st wd
  chg : Chg (· = bp) w W
  var : Var w W 0
  lt : bp < w.heap.size
  lt2 : bm < w.heap.size
variable {w W : World} {bm bp n : Nat} {st wd : Nat → Int}
theorem Cp.same {W' : World} (h : Cp w W bm bp n st wd) (c : Chg (fun _ => False) W W') : Cp w W' bm bp n st wd :=
  ⟨h.mem.chg c (fun x => x) (fun x => x), h.chg.trans (c.wide), h.var.chg c (fun x => x), h.lt, h.lt2⟩
theorem Cp.turn {W' : World} {st' wd' : Nat → Int} (h : Cp w W bm bp n st wd) (c : Chg (· = bp) W W') (m : Mem W' bm bp n st' wd') : Cp w W' bm bp n st' wd' :=
  ⟨m, h.chg.trans c, h.var.chg c (by have := h.lt; omega), h.lt, h.lt2⟩
theorem Cp.setRow {g : Nat} (h : Cp w W bm bp n st wd) (hg : w.heap.size < g) (i : Nat) (v : Value) : Cp w (W.setCell ⟨g, i, none⟩ v) bm bp n st wd :=
  ⟨h.mem.setOther (by have := h.lt2; show ¬ g = bm; omega) (by have := h.lt; show ¬ g = bp; omega) v, h.chg.setCell (fun hl => absurd hl (by show ¬ g < _; omega)) v,
   h.var.chg ((Chg.refl (· = g) W).setCell (p := ⟨g, i, none⟩) (fun _ => rfl) v) (by omega), h.lt, h.lt2⟩
theorem Cp.setWord (h : Cp w W bm bp n st wd) {a : Nat} (ha : a < n * 64) (v : Int) : Cp w (W.setCell ⟨bp, a / 64 * 65 + 1 + a % 64, none⟩ (.int .u64 v)) bm bp n st (upd wd a v) :=
  h.turn ((Chg.refl (· = bp) W).setCell (p := ⟨bp, a / 64 * 65 + 1 + a % 64, none⟩) (fun _ => rfl) _) (h.mem.setWord ha v)

theorem at_sum (a b : Nat) {w : World} {bm bp n : Nat} {st wd : Nat → Int} (h : Mem w bm bp n st wd) (ha : a + b < n * 64) :
    Calls Try.prog 40 #[.pointer (some ⟨bm, 0, none⟩), .int .i64 ((a : Int) + (b : Int))] w fun e w' => e = .returned (.pointer (some ⟨bp, (a + b) / 64 * 65 + 1 + (a + b) % 64, none⟩)) ∧ w = w' := by
  have h := at_any (a + b) h ha
  rwa [Int.natCast_add] at h

set_option maxHeartbeats 4000000 in
theorem copy_ok (t f k : Nat) {w : World} {bm bp n : Nat} {st wd : Nat → Int} (h : Mem w bm bp n st wd) (hz : Zer n st wd) (hk : 1 ≤ k) (hf : Thr n st f k) (ht : Thr n st t k) :
    Calls Try.prog 19 #[.pointer (some ⟨bm, 0, none⟩), .int .i64 (t : Int), .int .i64 (f : Int), .int .i64 (k : Int)] w fun e w' =>
      e = .returned (.int .i64 0) ∧ Mem w' bm bp n (wst (wst st (f / 64) (np f k)) (t / 64) (np t k)) (cpy wd t f k) ∧ Chg (· = bp) w w' := by
  have hmf := mkfun
  have hn := h.le
  have hkb : k ≤ 1000000 := by have := hf.1; omega
  have hmk := mk_words k hkb
  have hkz : ((k : Int) == 0) = false := by simp; omega
  have hk0 : decide ((k : Int) < 0) = false := by simp
  have hfk := hf.1
  have htk := ht.1
  have P0 : Cp w (w.alloc (.cells #[.int .i64 0] 24)) bm bp n st wd := ⟨h.alloc _ _, (Chg.refl _ w).alloc _ _, Var.new w 0, h.lt.2, h.lt.1⟩
  have P0 := Lib.hid P0
  have CN : ∀ W a, Thr n st a k → Cp w W bm bp n st wd → Calls Try.prog 38 #[.pointer (some ⟨bm, 0, none⟩), .int .i64 (a : Int), .int .i64 (k : Int)] W fun e W' => e = .returned (.tuple #[]) ∧ Cp w W' bm bp n st wd :=
    fun W a ha hc => (need_good a k hc.mem hk ha).mono fun _ _ ⟨he, hd⟩ => ⟨he, hc.same hd⟩
  have CN := Lib.hid CN
  have CW : ∀ W a st, Zer n st wd → a + k ≤ n * 64 → Cp w W bm bp n st wd → Calls Try.prog 39 #[.pointer (some ⟨bm, 0, none⟩), .int .i64 (a : Int), .int .i64 (k : Int)] W fun e W' => e = .returned (.tuple #[]) ∧ Cp w W' bm bp n (wst st (a / 64) (np a k)) wd :=
    fun W a st hz ha hc => (wake_any a k hc.mem hk ha).mono fun _ _ ⟨he, hm, hd⟩ => ⟨he, hc.turn hd (hm.wwd hz)⟩
  have CW := Lib.hid CW
  have HF := Lib.hid hf
  have HT := Lib.hid ht
  have HZ := Lib.hid hz
  clear h hf ht hz
  go_enter_defers Try.func19, Try.ntmps19
  go_wp2_with (first
    | (go_at_call 38; ((with_reducible refine (CN.out _ f HF.out P0.out).mono ?_); rintro e w1 ⟨rfl, hc⟩; have P1 := Lib.hid hc; clear hc))
    | (go_at_call 38; ((with_reducible refine (CN.out _ t HT.out P1.out).mono ?_); rintro e w2 ⟨rfl, hc⟩; have P2 := Lib.hid hc; clear hc))
    | (go_at_call 39; ((with_reducible refine (CW.out _ f st HZ.out hfk P2.out).mono ?_); rintro e w3 ⟨rfl, hc⟩; have P3 := Lib.hid hc; clear hc))
    | (go_at_call 39; ((with_reducible refine (CW.out _ t _ (HZ.out.wake _ _) htk P3.out).mono ?_); rintro e w4 ⟨rfl, hc⟩; have P4 := Lib.hid hc; clear hc)))
  have P5 : Cp w (w4.alloc (.cells (rcells k zro) 31)) bm bp n (wst (wst st (f / 64) (np f k)) (t / 64) (np t k)) wd := P4.out.same ((Chg.refl _ _).alloc _ _)
  have R5 : Row 31 (w4.alloc (.cells (rcells k zro) 31)) w4.heap.size k (fun i => if i < 0 then wd (f + i) else 0) := (show Row 31 _ w4.heap.size k zro from heap_alloc_new w4 _).congr fun i _ => by rw [if_neg (by omega)]; rfl
  have hg : w.heap.size < w4.heap.size := P4.out.var.lt
  have P5 := Lib.hid P5
  have R5 := Lib.hid R5
  obtain ⟨st', hst⟩ : ∃ s, s = wst (wst st (f / 64) (np f k)) (t / 64) (np t k) := ⟨_, rfl⟩
  rw [← hst] at P5
  have HS := Lib.hid hst
  clear hst
  clear P4 P3 P2 P1 CN CW HF HT HZ
  generalize w4.heap.size = g at *
  go_loopw [40] (fun i wr => ∃ j : Nat, j ≤ k ∧ i = .int .i64 (j : Int) ∧ Cp w wr bm bp n st' wd ∧ Row 31 wr g k (fun i => if i < j then wd (f + i) else 0)) (fun i _ => k - (intOf i).toNat)
  case atStart => exact ⟨0, Nat.zero_le _, rfl, P5.out, R5.out⟩
  case round =>
    obtain ⟨j, hj, rfl, hC, hR⟩ := hrel
    by_cases hlt : j < k
    · have C1 := Lib.hid (at_sum f j hC.mem (by omega))
      have hw := hC.mem.word (a := f + j) (by omega)
      have hr := hR.cell hlt
      have hrf := hR.free j
      have HC := Lib.hid (hC.setRow (g := g) hg j (.int .u64 (wd (f + j))))
      have HR := Lib.hid ((hR.set (i := j) (wd (f + j))).congr (r' := fun i => if i < j + 1 then wd (f + i) else 0) fun i hi => by
        by_cases e : i = j
        · subst e; rw [upd_same, if_pos (by omega)]
        · rw [upd_other _ _ e]
          by_cases c : i < j
          · rw [if_pos c, if_pos (by omega)]
          · rw [if_neg c, if_neg (by omega)])
      clear hC hR
      go_wp2_with (go_at_call 40; ((with_reducible refine (C1.out).mono ?_); rintro e w5 ⟨rfl, rfl⟩))
      go_roundw
      case rel => exact ⟨j + 1, by omega, by go_num, HC.out, HR.out⟩
      case measure => simp [intOf]; omega
    · obtain rfl : j = k := by omega
      have HC := Lib.hid (show Cp w wr bm bp n st' (cpy wd t f 0) by rw [cpy_zero]; exact hC)
      have HR := Lib.hid (hR.congr (r' := fun i => wd (f + i)) fun i hi => by rw [if_pos hi])
      clear hC hR
      go_wp2
      go_loopw [56] (fun i wy => ∃ i' : Nat, i' ≤ j ∧ i = .int .i64 (i' : Int) ∧ Cp w wy bm bp n st' (cpy wd t f i') ∧ Row 31 wy g j (fun i => wd (f + i))) (fun i _ => j - (intOf i).toNat)
      case atStart => exact ⟨0, Nat.zero_le _, rfl, HC.out, HR.out⟩
      case round =>
        clear HC HR
        obtain ⟨i, hi, rfl, hC, hR⟩ := hrel
        by_cases hlt2 : i < j
        · have C1 := Lib.hid (at_sum t i hC.mem (by omega))
          have hw := hC.mem.word (a := t + i) (by omega)
          have hwf := hC.mem.free ((t + i) / 64 * 65 + 1 + (t + i) % 64)
          have hr := hR.cell hlt2
          have HC := hC.setWord (a := t + i) (by omega) (wd (f + i))
          rw [cpy_step] at HC
          have HC := Lib.hid HC
          have HR := Lib.hid (hR.chg ((Chg.refl (· = bp) _).setCell (p := ⟨bp, (t + i) / 64 * 65 + 1 + (t + i) % 64, none⟩) (fun _ => rfl) (.int .u64 (wd (f + i)))) (by have := hC.lt; omega))
          clear hC hR
          go_wp2_with (go_at_call 40; ((with_reducible refine (C1.out).mono ?_); rintro e w5 ⟨rfl, rfl⟩))
          go_roundw
          case rel => exact ⟨i + 1, by omega, by go_num, HC.out, HR.out⟩
          case measure => simp [intOf]; omega
        · obtain rfl : i = j := by omega
          have hvc := hC.var.cell
          have hvf := hC.var.free
          have HC := Lib.hid hC
          clear hC hR
          go_wp2
          have hv := HC.out.var.set 0
          refine leaves_cons (f := 37) (args := #[.pointer (some ⟨w.heap.size, 0, none⟩)]) (by simp) (by simp [go_sem]) ?_
          refine (catch37_idle ⟨w.heap.size, 0, none⟩ 0 _ hv.cell hv.free).mono ?_
          rintro e u' w'' ⟨rfl, rfl, rfl⟩
          have hv2 := (hv.set 0).cell
          simp [Leaves, settle, results, Try.results19, go_sem, hv2]
          have ne1 : ¬ w.heap.size = bm := by have := HC.out.lt2; omega
          have ne2 : ¬ w.heap.size = bp := by have := HC.out.lt; omega
          rw [← HS.out]
          exact ⟨((HC.out.mem.setOther ne1 ne2 _).setOther ne1 ne2 _).drew, ((HC.out.chg.setCell (fun h => absurd h (Nat.lt_irrefl _)) _).setCell (fun h => absurd h (Nat.lt_irrefl _)) _).drew⟩
end Go.Proofs.Ytbkpbineagfbgaa
