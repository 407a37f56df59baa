/- The document's Same of layer 5; a table that a law itself has made; awake; SpanFixed. -/
import Derived.Test.YtiboobaggpghjaaDoorSG
import Derived.Deep.QuietTactic
namespace Go.Proofs.YtiboobaggpghjaaDoor
open Go.ChangeShapes Go.WideShapes Go.ChangeAt Go.RowKit

theorem scs_get {s : Spn} : ∀ {l : List Spn} {i : Nat}, l[i]? = some s → (scs l)[i * 3]? = some (.int .i64 (s.b : Int)) ∧ (scs l)[i * 3 + 1]? = some (.int .i64 (s.k : Int)) ∧ (scs l)[i * 3 + 2]? = some (.int .i64 s.t)
  | [], i, h => by simp at h
  | y :: l, 0, h => by
    obtain rfl : y = s := by simpa using h
    exact ⟨rfl, rfl, rfl⟩
  | y :: l, i + 1, h => by
    obtain ⟨h1, h2, h3⟩ := scs_get (l := l) (i := i) (by simpa using h)
    have e : scs (y :: l) = .int .i64 (y.b : Int) :: .int .i64 (y.k : Int) :: .int .i64 y.t :: scs l := rfl
    rw [e, show (i + 1) * 3 = i * 3 + 1 + 1 + 1 by omega]
    simp only [List.getElem?_cons_succ]
    exact ⟨h1, h2, h3⟩
/-- A list of spans that can be read. -/
def Trips (W : World) (v : Value) (l : List Spn) : Prop :=
  ∃ a cap, v = .slice a l.length cap ∧ (0 < l.length → ∃ g, a = some ⟨g, 0, none⟩ ∧ ∀ i s, l[i]? = some s → W.cell? ⟨g, i * 3, none⟩ = some (.int .i64 (s.b : Int)) ∧ W.cell? ⟨g, i * 3 + 1, none⟩ = some (.int .i64 (s.k : Int)) ∧ W.cell? ⟨g, i * 3 + 2, none⟩ = some (.int .i64 s.t))
theorem trips_of_own {W : World} {B : Nat} {v : Value} {l : List Spn} (h : W.ownsRow B 78 3 v l.length (scs l)) : Trips W v l := by
  rcases h.2 with ⟨rfl, h0⟩ | ⟨g, cap, cur, rfl, hb, hg, _, _, _, ht⟩
  · exact ⟨none, 0, by rw [h0], fun h => by omega⟩
  · refine ⟨_, cap, rfl, fun _ => ⟨g, rfl, fun i s hs => ?_⟩⟩
    have hi : i < l.length := by
      by_cases c : i < l.length
      · exact c
      · rw [List.getElem?_eq_none (by omega)] at hs; cases hs
    have key : ∀ j, j < l.length * 3 → W.cell? ⟨g, j, none⟩ = (scs l)[j]? := fun j hj => by
      rw [cell_of_row W g j _ 78 (0, 0) hg, ← Array.getElem?_toList, ← ht, List.getElem?_take, if_pos hj]
    obtain ⟨h1, h2, h3⟩ := scs_get hs
    exact ⟨(key _ (by omega)).trans h1, (key _ (by omega)).trans h2, (key _ (by omega)).trans h3⟩
theorem trips_cha {W W' : World} {B : Nat} {v : Value} {l : List Spn} (h : W.ownsRow B 78 3 v l.length (scs l)) (c : Cha (fun _ => False) W W') : Trips W' v l := trips_of_own (owns_cha h c (fun _ _ x => x))

variable {w W : World} {bt bm bp bs n : Nat} {L L' : List Spn}
end Go.Proofs.YtiboobaggpghjaaDoor
