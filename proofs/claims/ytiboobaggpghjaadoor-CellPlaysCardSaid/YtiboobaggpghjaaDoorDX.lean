/- CellOwn: the walk. -/
import Derived.Test.YtiboobaggpghjaaDoorDU
import Derived.Test.YtiboobaggpghjaaDoorDV
import Derived.Test.YtiboobaggpghjaaDoorDW
namespace Go.Proofs.YtiboobaggpghjaaDoor
open Go.ChangeShapes Go.WideShapes Go.ChangeAt Go.RowKit

theorem info3 : (Tryd.prog.info? 3).map (fun i => (i.zero, i.size, i.bytes)) = some (some (.int .i64 0), 1, 8) := by kernel_rfl
theorem mk_ints (m : Nat) (hm : m ≤ 1000000) (W : World) : (Instr.makeSlice 39 (.int .i64 (m : Int)) (.int .i64 (m : Int))).run Tryd.prog W = .ok (.slice (some ⟨W.heap.size, 0, none⟩) m m) (W.alloc (.cells (fcells m fun _ => .int .i64 0) 3)) := by
  obtain ⟨i, hi, hz, hs, hb⟩ := info_parts info3
  have h := run_make (P := Tryd.prog) W 39 3 i _ Tryd.underlying39 hi hz .i64 .i64 (m : Int) (m : Int) (by omega) (by omega) (by rw [hb]; omega) (by omega)
  rw [hs, Int.toNat_natCast, made_one _ rfl] at h
  exact h
theorem cha_set (W : World) (g i : Nat) (v : Value) : Cha (fun b => b = g) W (W.setCell ⟨g, i, none⟩ v) := (Cha.refl (fun b => b = g) W).setCell (p := ⟨g, i, none⟩) (fun _ => rfl) v
/-- Rows of a law's own, beside the room. -/
structure Rw9 (w : World) (g g2 : Nat) (own : Nat → Int) (F : Nat → Prop) (W : World) : Prop where
  f1 : ¬ F g
  f2 : ¬ F g2
  r1 : FRow 3 W g 512 (fun i => .int .i64 (own i))
  r2 : ∃ l, FRow 3 W g2 4 l
  cha : Cha (fun _ => False) w W
  new : ∀ i, F i → w.heap.size ≤ i
  n1 : w.heap.size ≤ g ∧ g ≠ g2
  n2 : w.heap.size ≤ g2
variable {w W W' : World} {g g2 bc n pr : Nat} {A A1 : List Bk} {own : Nat → Int} {F F' : Nat → Prop}
theorem Rw9.move (h : Rw9 w g g2 own F W) (k2 : Cha F W W') (k4 : ∀ i, F' i → F i ∨ W.heap.size ≤ i) : Rw9 w g g2 own F' W' := by
  obtain ⟨l, r2⟩ := h.r2
  have l1 := h.r1.lt
  have l2 := r2.lt
  have hs := h.cha.size
  refine ⟨fun e => ?_, fun e => ?_, k2.row h.r1 h.f1, ⟨l, k2.row r2 h.f2⟩, h.cha.over k2 fun i hi => .inr (h.new i hi), fun i hi => ?_, h.n1, h.n2⟩
  · rcases k4 _ e with e | e
    · exact h.f1 e
    · omega
  · rcases k4 _ e with e | e
    · exact h.f2 e
    · omega
  · rcases k4 i hi with e | e
    · exact h.new i e
    · omega
theorem Rw9.set (h : Rw9 w g g2 own F W) (i : Nat) (v : Int) : Rw9 w g g2 (setO own i v) F (W.setCell ⟨g, i, none⟩ (.int .i64 v)) := by
  have c := cha_set W g i (.int .i64 v)
  obtain ⟨l, r2⟩ := h.r2
  refine ⟨h.f1, h.f2, (h.r1.set (i := i) (.int .i64 v)).congr fun x _ => ?_, ⟨l, c.row r2 fun e => h.n1.2 e.symm⟩, h.cha.over c fun b hb => .inr (by have := h.n1.1; have e : b = g := hb; omega), h.new, h.n1, h.n2⟩
  show _ = Value.int .i64 (setO own i v x)
  unfold setO
  split <;> rfl
theorem Rw9.last (h : Rw9 w g g2 own F W) (i : Nat) (v : Value) : Rw9 w g g2 own F (W.setCell ⟨g2, i, none⟩ v) := by
  have c := cha_set W g2 i v
  obtain ⟨l, r2⟩ := h.r2
  exact ⟨h.f1, h.f2, c.row h.r1 h.n1.2, ⟨_, r2.set (i := i) v⟩, h.cha.over c fun b hb => .inr (by have := h.n2; have e : b = g2 := hb; omega), h.new, h.n1, h.n2⟩
/-- What is none of the room's is written. -/
theorem Oc.other (h : Oc n pr F bc W A) (hg : ¬ F g) (h0 : g ≠ 0) (i : Nat) (v : Value) : Oc n pr F bc (W.setCell ⟨g, i, none⟩ v) A :=
  h.cha (cha_set W g i v) (fun b hb e => hg (show F g from (show b = g from e) ▸ hb)) (fun e => h0 (Eq.symm e))
end Go.Proofs.YtiboobaggpghjaaDoor
