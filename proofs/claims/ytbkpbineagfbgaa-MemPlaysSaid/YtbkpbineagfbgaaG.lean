/- Contracts of layer 3's words: Cas. -/
import Derived.Test.YtbkpbineagfbgaaF
namespace Go.Proofs.Ytbkpbineagfbgaa
open Go.ChangeShapes Go.WideShapes Go.ChangeAt Go.RowKit

theorem cas_nil (a o v : Int) (w : World) : Calls Try.prog 21 #[.pointer none, .int .i64 a, .int .u64 o, .int .u64 v] w fun e w' => e = .returned (.tuple #[.bool false, .int .i64 5]) ∧ Chg (fun _ => False) w w' := by
  have hmf := mkfun
  have HV := (Var.new w 0).set 5
  go_enter_defers Try.func21, Try.ntmps21
  go_wp2
  refine ⟨.tuple #[.bool false, .int .i64 5], ?_, rfl, ?_⟩
  · have := HV.cell
    simp [results, Try.results21, go_sem]
  · exact (Chg.refl _ w).alloc _ _
theorem cas_no (a o v : Int) {w : World} {bm bp n : Nat} {st wd : Nat → Int} (h : Mem w bm bp n st wd) (ha : a < 0 ∨ ¬ There n st a.toNat) :
    Calls Try.prog 21 #[.pointer (some ⟨bm, 0, none⟩), .int .i64 a, .int .u64 o, .int .u64 v] w fun e w' => e = .returned (.tuple #[.bool false, .int .i64 6]) ∧ Chg (fun _ => False) w w' := by
  have hmf := mkfun
  have hc : Chg (fun _ => False) w (w.alloc (.cells #[.int .i64 0] 24)) := (Chg.refl _ w).alloc _ _
  have hm : Mem (w.alloc (.cells #[.int .i64 0] 24)) bm bp n st wd := h.chg hc (fun x => x) (fun x => x)
  have C1 := Lib.hid (word_no a hm ha)
  have HC := Lib.hid hc
  clear h ha hm hc
  go_enter_defers Try.func21, Try.ntmps21
  go_wp2_with (first
    | (go_at_call 36; ((with_reducible refine (C1.out).mono ?_); rintro e w1 ⟨rfl, hc⟩; have HD := Lib.hid hc; clear hc)))
  have hv := (Var.new w 0).chg HD.out (fun x => x)
  refine leaves_cons (f := 42) (args := #[.pointer (some ⟨w.heap.size, 0, none⟩)]) (by simp) (by simp [go_sem]) ?_
  refine (catch42_fault ⟨w.heap.size, 0, none⟩ 0 6 [] _ hv.cell hv.free hv.lt).mono ?_
  rintro e u' w'' ⟨rfl, rfl, rfl⟩
  have hv2 := ((hv.alloc (.cells #[.int .i64 6] 85)).set 6).cell
  simp [Leaves, settle, results, Try.results21, go_sem, hv2]
  exact ((HC.out.trans HD.out).alloc _ _).setCell (fun h => absurd h (by simp)) _ |>.drew
theorem cas_miss (a : Nat) (o v : Int) {w : World} {bm bp n : Nat} {st wd : Nat → Int} (h : Mem w bm bp n st wd) (hz : Zer n st wd) (ha : There n st a) (ho : wd a ≠ o) :
    Calls Try.prog 21 #[.pointer (some ⟨bm, 0, none⟩), .int .i64 (a : Int), .int .u64 o, .int .u64 v] w fun e w' =>
      e = .returned (.tuple #[.bool false, .int .i64 0]) ∧ Mem w' bm bp n (upd st (a / 64) 1) wd ∧ Chg (· = bp) w w' := by
  have hmf := mkfun
  have hlt := ha.1
  have hob : (wd a != o) = true := by simpa using ho
  clear ho
  have hne : ¬ w.heap.size = bp := by have := h.lt; omega
  have hne1 : ¬ w.heap.size = bm := by have := h.lt; omega
  have hc : Chg (fun _ => False) w (w.alloc (.cells #[.int .i64 0] 24)) := (Chg.refl _ w).alloc _ _
  have hm : Mem (w.alloc (.cells #[.int .i64 0] 24)) bm bp n st wd := h.chg hc (fun x => x) (fun x => x)
  have C1 := Lib.hid (word_yes a hm hz ha)
  have HC := Lib.hid (hc.mono (T := (· = bp)) (fun _ _ f => f.elim))
  clear h ha hm hc hz
  go_enter_defers Try.func21, Try.ntmps21
  go_wp2_with (first
    | (go_at_call 36; ((with_reducible refine (C1.out).mono ?_); rintro e w1 ⟨rfl, hm, hc⟩; have hw := hm.word hlt; have hv := (Var.new w 0).chg hc hne; have hvc := hv.cell; have hvf := hv.free; have HV := Lib.hid hv; have HM := Lib.hid hm; have HD := Lib.hid hc; clear hc hm hv)))
  have hv := HV.out.set 0
  refine leaves_cons (f := 42) (args := #[.pointer (some ⟨w.heap.size, 0, none⟩)]) (by simp) (by simp [go_sem]) ?_
  refine (catch42_idle ⟨w.heap.size, 0, none⟩ 0 _ hv.cell hv.free).mono ?_
  rintro e u' w'' ⟨rfl, rfl, rfl⟩
  have hv2 := (hv.set 0).cell
  simp [Leaves, settle, results, Try.results21, go_sem, hv2]
  exact ⟨((HM.out.setOther hne1 hne _).setOther hne1 hne _).drew, (((HC.out.trans HD.out).setCell (fun h => absurd h (Nat.lt_irrefl _)) _).setCell (fun h => absurd h (Nat.lt_irrefl _)) _).drew⟩
theorem cas_hit (a : Nat) (o v : Int) {w : World} {bm bp n : Nat} {st wd : Nat → Int} (h : Mem w bm bp n st wd) (hz : Zer n st wd) (ha : There n st a) (ho : wd a = o) :
    Calls Try.prog 21 #[.pointer (some ⟨bm, 0, none⟩), .int .i64 (a : Int), .int .u64 o, .int .u64 v] w fun e w' =>
      e = .returned (.tuple #[.bool true, .int .i64 0]) ∧ Mem w' bm bp n (upd st (a / 64) 1) (upd wd a v) ∧ Chg (· = bp) w w' := by
  have hmf := mkfun
  have hlt := ha.1
  have hob : (wd a != o) = false := by simpa using ho
  clear ho
  have hne : ¬ w.heap.size = bp := by have := h.lt; omega
  have hne1 : ¬ w.heap.size = bm := by have := h.lt; omega
  have hc : Chg (fun _ => False) w (w.alloc (.cells #[.int .i64 0] 24)) := (Chg.refl _ w).alloc _ _
  have hm : Mem (w.alloc (.cells #[.int .i64 0] 24)) bm bp n st wd := h.chg hc (fun x => x) (fun x => x)
  have C1 := Lib.hid (word_yes a hm hz ha)
  have HC := Lib.hid (hc.mono (T := (· = bp)) (fun _ _ f => f.elim))
  clear h ha hm hc hz
  go_enter_defers Try.func21, Try.ntmps21
  go_wp2_with (first
    | (go_at_call 36; ((with_reducible refine (C1.out).mono ?_); rintro e w1 ⟨rfl, hm, hc⟩; have hw := hm.word hlt; have hwf := hm.free (a / 64 * 65 + 1 + a % 64); have hv := (Var.new w 0).chg hc hne; have hvc := hv.cell; have hvf := hv.free; have HV := Lib.hid hv; have HM := Lib.hid hm; have HD := Lib.hid hc; clear hc hm hv)))
  have hv := (HV.out.chg ((Chg.refl (· = bp) w1).setCell (p := ⟨bp, a / 64 * 65 + 1 + a % 64, none⟩) (fun _ => rfl) (.int .u64 v)) hne).set 0
  refine leaves_cons (f := 42) (args := #[.pointer (some ⟨w.heap.size, 0, none⟩)]) (by simp) (by simp [go_sem]) ?_
  refine (catch42_idle ⟨w.heap.size, 0, none⟩ 0 _ hv.cell hv.free).mono ?_
  rintro e u' w'' ⟨rfl, rfl, rfl⟩
  have hv2 := (hv.set 0).cell
  simp [Leaves, settle, results, Try.results21, go_sem, hv2]
  exact ⟨(((HM.out.setWord hlt v).setOther hne1 hne _).setOther hne1 hne _).drew, ((((HC.out.trans HD.out).setCell (p := ⟨bp, a / 64 * 65 + 1 + a % 64, none⟩) (fun _ => rfl) _).setCell (fun h => absurd h (Nat.lt_irrefl _)) _).setCell (fun h => absurd h (Nat.lt_irrefl _)) _).drew⟩
end Go.Proofs.Ytbkpbineagfbgaa
