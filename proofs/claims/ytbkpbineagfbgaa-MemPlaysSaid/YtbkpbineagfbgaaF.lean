/- Contracts of layer 3's words: Load, Store, Cas. -/
import Derived.Test.YtbkpbineagfbgaaE
namespace Go.Proofs.Ytbkpbineagfbgaa
open Go.ChangeShapes Go.WideShapes Go.ChangeAt Go.RowKit

theorem mkfun (fn : Fn) (first cap : Array Value) (w : World) : (Instr.makeFunc fn first cap).run Try.prog w = .ok (.func fn first cap) w := rfl

/-- The error's variable, that a call lays at first: what is known of it. -/
structure Var (w W : World) (x : Int) : Prop where
  row : W.heap[w.heap.size]? = some (.cells #[.int .i64 x] 24 (0, 0))
theorem Var.cell {w W : World} {x : Int} (h : Var w W x) : W.cell? ⟨w.heap.size, 0, none⟩ = some (.int .i64 x) := cell_of_row W _ 0 _ 24 (0, 0) h.row
theorem Var.free {w W : World} {x : Int} (h : Var w W x) : W.frozen? ⟨w.heap.size, 0, none⟩ = false := frozen_of_row W _ 0 _ 24 h.row
theorem Var.lt {w W : World} {x : Int} (h : Var w W x) : w.heap.size < W.heap.size := by
  by_cases hl : w.heap.size < W.heap.size
  · exact hl
  · have := h.row
    rw [Array.getElem?_eq_none (by omega)] at this; cases this
theorem Var.new (w : World) (x : Int) : Var w (w.alloc (.cells #[.int .i64 x] 24)) x := ⟨heap_alloc_new w _⟩
theorem Var.chg {S : Nat → Prop} {w W W' : World} {x : Int} (h : Var w W x) (c : Chg S W W') (hs : ¬ S w.heap.size) : Var w W' x := ⟨(c.old _ h.lt hs).trans h.row⟩
theorem Var.set {w W : World} {x : Int} (h : Var w W x) (y : Int) : Var w (W.setCell ⟨w.heap.size, 0, none⟩ (.int .i64 y)) y := ⟨heap_setCell_same W w.heap.size 0 #[.int .i64 x] 24 (.int .i64 y) h.row⟩
theorem Var.alloc {w W : World} {x : Int} (h : Var w W x) (o : Obj) : Var w (W.alloc o) x := ⟨(heap_alloc_old W o h.lt).trans h.row⟩

theorem Mem.setOther {w : World} {bm bp n : Nat} {st wd : Nat → Int} (h : Mem w bm bp n st wd) {p : Addr} (hm : ¬ p.block = bm) (hp : ¬ p.block = bp) (v : Value) : Mem (w.setCell p v) bm bp n st wd :=
  ⟨(heap_setCell_other w p bm v (fun e => hm e.symm)).trans h.head, (heap_setCell_other w p bp v (fun e => hp e.symm)).trans h.body, h.ne, h.pos, h.le, h.rng⟩
theorem Mem.drew {w : World} {bm bp n : Nat} {st wd : Nat → Int} (h : Mem w bm bp n st wd) : Mem w.drew bm bp n st wd := ⟨h.head, h.body, h.ne, h.pos, h.le, h.rng⟩
theorem Zer.touch {n : Nat} {st wd : Nat → Int} (h : Zer n st wd) (p : Nat) : Zer n (upd st p 1) wd := fun a ha hs => by
  by_cases e : a / 64 = p
  · exfalso; apply hs; rw [e, upd_same]
  · rw [upd_other _ _ e] at hs; exact h a ha hs
theorem Zer.write {n : Nat} {st wd : Nat → Int} (h : Zer n st wd) (a : Nat) (v : Int) : Zer n (upd st (a / 64) 1) (upd wd a v) := fun x hx hs => by
  by_cases e : x = a
  · subst e; exfalso; apply hs; rw [upd_same]
  · rw [upd_other _ _ e]; exact h.touch _ x hx hs

theorem load_nil (a : Int) (w : World) : Calls Try.prog 20 #[.pointer none, .int .i64 a] w fun e w' => e = .returned (.tuple #[.int .u64 0, .int .i64 5]) ∧ Chg (fun _ => False) w w' := by
  have hmf := mkfun
  have HV := (Var.new w 0).set 5
  go_enter_defers Try.func20, Try.ntmps20
  go_wp2
  refine ⟨.tuple #[.int .u64 0, .int .i64 5], ?_, rfl, ?_⟩
  · have := HV.cell
    simp [results, Try.results20, go_sem]
  · exact (Chg.refl _ w).alloc _ _
theorem load_no (a : Int) {w : World} {bm bp n : Nat} {st wd : Nat → Int} (h : Mem w bm bp n st wd) (ha : a < 0 ∨ ¬ There n st a.toNat) :
    Calls Try.prog 20 #[.pointer (some ⟨bm, 0, none⟩), .int .i64 a] w fun e w' => e = .returned (.tuple #[.int .u64 0, .int .i64 6]) ∧ Chg (fun _ => False) w w' := by
  have hmf := mkfun
  have hc : Chg (fun _ => False) w (w.alloc (.cells #[.int .i64 0] 24)) := (Chg.refl _ w).alloc _ _
  have hm : Mem (w.alloc (.cells #[.int .i64 0] 24)) bm bp n st wd := h.chg hc (fun x => x) (fun x => x)
  have C1 := Lib.hid (word_no a hm ha)
  have HC := Lib.hid hc
  clear h ha hm hc
  go_enter_defers Try.func20, Try.ntmps20
  go_wp2_with (first
    | (go_at_call 36; ((with_reducible refine (C1.out).mono ?_); rintro e w1 ⟨rfl, hc⟩; have HD := Lib.hid hc; clear hc)))
  have hv := (Var.new w 0).chg HD.out (fun x => x)
  refine leaves_cons (f := 41) (args := #[.pointer (some ⟨w.heap.size, 0, none⟩)]) (by simp) (by simp [go_sem]) ?_
  refine (catch41_fault ⟨w.heap.size, 0, none⟩ 0 6 [] _ hv.cell hv.free hv.lt).mono ?_
  rintro e u' w'' ⟨rfl, rfl, rfl⟩
  have hv2 := ((hv.alloc (.cells #[.int .i64 6] 85)).set 6).cell
  simp [Leaves, settle, results, Try.results20, go_sem, hv2]
  exact ((HC.out.trans HD.out).alloc _ _).setCell (fun h => absurd h (by simp)) _ |>.drew
theorem load_yes (a : Nat) {w : World} {bm bp n : Nat} {st wd : Nat → Int} (h : Mem w bm bp n st wd) (hz : Zer n st wd) (ha : There n st a) :
    Calls Try.prog 20 #[.pointer (some ⟨bm, 0, none⟩), .int .i64 (a : Int)] w fun e w' =>
      e = .returned (.tuple #[.int .u64 (wd a), .int .i64 0]) ∧ Mem w' bm bp n (upd st (a / 64) 1) wd ∧ Chg (· = bp) w w' := by
  have hmf := mkfun
  have hlt := ha.1
  have hne : ¬ w.heap.size = bp := by have := h.lt; omega
  have hne1 : ¬ w.heap.size = bm := by have := h.lt; omega
  have hc : Chg (fun _ => False) w (w.alloc (.cells #[.int .i64 0] 24)) := (Chg.refl _ w).alloc _ _
  have hm : Mem (w.alloc (.cells #[.int .i64 0] 24)) bm bp n st wd := h.chg hc (fun x => x) (fun x => x)
  have C1 := Lib.hid (word_yes a hm hz ha)
  have HC := Lib.hid (hc.mono (T := (· = bp)) (fun _ _ f => f.elim))
  clear h ha hm hc hz
  go_enter_defers Try.func20, Try.ntmps20
  go_wp2_with (first
    | (go_at_call 36; ((with_reducible refine (C1.out).mono ?_); rintro e w1 ⟨rfl, hm, hc⟩; have hw := hm.word hlt; have hv := (Var.new w 0).chg hc hne; have hvc := hv.cell; have hvf := hv.free; have HV := Lib.hid hv; have HM := Lib.hid hm; have HD := Lib.hid hc; clear hc hm hv)))
  have hv := HV.out.set 0
  refine leaves_cons (f := 41) (args := #[.pointer (some ⟨w.heap.size, 0, none⟩)]) (by simp) (by simp [go_sem]) ?_
  refine (catch41_idle ⟨w.heap.size, 0, none⟩ 0 _ hv.cell hv.free).mono ?_
  rintro e u' w'' ⟨rfl, rfl, rfl⟩
  have hv2 := (hv.set 0).cell
  simp [Leaves, settle, results, Try.results20, go_sem, hv2]
  exact ⟨((HM.out.setOther hne1 hne _).setOther hne1 hne _).drew, (((HC.out.trans HD.out).setCell (fun h => absurd h (Nat.lt_irrefl _)) _).setCell (fun h => absurd h (Nat.lt_irrefl _)) _).drew⟩
theorem store_nil (a v : Int) (w : World) : Calls Try.prog 18 #[.pointer none, .int .i64 a, .int .u64 v] w fun e w' => e = .returned (.int .i64 5) ∧ Chg (fun _ => False) w w' := by
  have hmf := mkfun
  have HV := (Var.new w 0).set 5
  go_enter_defers Try.func18, Try.ntmps18
  go_wp2
  refine ⟨.int .i64 5, ?_, rfl, ?_⟩
  · have := HV.cell
    simp [results, Try.results18, go_sem]
  · exact (Chg.refl _ w).alloc _ _
theorem store_no (a v : Int) {w : World} {bm bp n : Nat} {st wd : Nat → Int} (h : Mem w bm bp n st wd) (ha : a < 0 ∨ ¬ There n st a.toNat) :
    Calls Try.prog 18 #[.pointer (some ⟨bm, 0, none⟩), .int .i64 a, .int .u64 v] w fun e w' => e = .returned (.int .i64 6) ∧ Chg (fun _ => False) w w' := by
  have hmf := mkfun
  have hc : Chg (fun _ => False) w (w.alloc (.cells #[.int .i64 0] 24)) := (Chg.refl _ w).alloc _ _
  have hm : Mem (w.alloc (.cells #[.int .i64 0] 24)) bm bp n st wd := h.chg hc (fun x => x) (fun x => x)
  have C1 := Lib.hid (word_no a hm ha)
  have HC := Lib.hid hc
  clear h ha hm hc
  go_enter_defers Try.func18, Try.ntmps18
  go_wp2_with (first
    | (go_at_call 36; ((with_reducible refine (C1.out).mono ?_); rintro e w1 ⟨rfl, hc⟩; have HD := Lib.hid hc; clear hc)))
  have hv := (Var.new w 0).chg HD.out (fun x => x)
  refine leaves_cons (f := 34) (args := #[.pointer (some ⟨w.heap.size, 0, none⟩)]) (by simp) (by simp [go_sem]) ?_
  refine (catch34_fault ⟨w.heap.size, 0, none⟩ 0 6 [] _ hv.cell hv.free hv.lt).mono ?_
  rintro e u' w'' ⟨rfl, rfl, rfl⟩
  have hv2 := ((hv.alloc (.cells #[.int .i64 6] 85)).set 6).cell
  simp [Leaves, settle, results, Try.results18, go_sem, hv2]
  exact ((HC.out.trans HD.out).alloc _ _).setCell (fun h => absurd h (by simp)) _ |>.drew
theorem store_yes (a : Nat) (v : Int) {w : World} {bm bp n : Nat} {st wd : Nat → Int} (h : Mem w bm bp n st wd) (hz : Zer n st wd) (ha : There n st a) :
    Calls Try.prog 18 #[.pointer (some ⟨bm, 0, none⟩), .int .i64 (a : Int), .int .u64 v] w fun e w' =>
      e = .returned (.int .i64 0) ∧ Mem w' bm bp n (upd st (a / 64) 1) (upd wd a v) ∧ Chg (· = bp) w w' := by
  have hmf := mkfun
  have hlt := ha.1
  have hne : ¬ w.heap.size = bp := by have := h.lt; omega
  have hne1 : ¬ w.heap.size = bm := by have := h.lt; omega
  have hc : Chg (fun _ => False) w (w.alloc (.cells #[.int .i64 0] 24)) := (Chg.refl _ w).alloc _ _
  have hm : Mem (w.alloc (.cells #[.int .i64 0] 24)) bm bp n st wd := h.chg hc (fun x => x) (fun x => x)
  have C1 := Lib.hid (word_yes a hm hz ha)
  have HC := Lib.hid (hc.mono (T := (· = bp)) (fun _ _ f => f.elim))
  clear h ha hm hc hz
  go_enter_defers Try.func18, Try.ntmps18
  go_wp2_with (first
    | (go_at_call 36; ((with_reducible refine (C1.out).mono ?_); rintro e w1 ⟨rfl, hm, hc⟩; have hw := hm.word hlt; have hwf := hm.free (a / 64 * 65 + 1 + a % 64); have hv := (Var.new w 0).chg hc hne; have hvc := hv.cell; have hvf := hv.free; have HV := Lib.hid hv; have HM := Lib.hid hm; have HD := Lib.hid hc; clear hc hm hv)))
  have hv := (HV.out.chg ((Chg.refl (· = bp) w1).setCell (p := ⟨bp, a / 64 * 65 + 1 + a % 64, none⟩) (fun _ => rfl) (.int .u64 v)) hne).set 0
  refine leaves_cons (f := 34) (args := #[.pointer (some ⟨w.heap.size, 0, none⟩)]) (by simp) (by simp [go_sem]) ?_
  refine (catch34_idle ⟨w.heap.size, 0, none⟩ 0 _ hv.cell hv.free).mono ?_
  rintro e u' w'' ⟨rfl, rfl, rfl⟩
  have hv2 := (hv.set 0).cell
  simp [Leaves, settle, results, Try.results18, go_sem, hv2]
  exact ⟨(((HM.out.setWord hlt v).setOther hne1 hne _).setOther hne1 hne _).drew, ((((HC.out.trans HD.out).setCell (p := ⟨bp, a / 64 * 65 + 1 + a % 64, none⟩) (fun _ => rfl) _).setCell (fun h => absurd h (Nat.lt_irrefl _)) _).setCell (fun h => absurd h (Nat.lt_irrefl _)) _).drew⟩
end Go.Proofs.Ytbkpbineagfbgaa
