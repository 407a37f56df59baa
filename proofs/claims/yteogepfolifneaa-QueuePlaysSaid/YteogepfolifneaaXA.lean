/- The document's queues: Get, stealing. -/
import Derived.Test.YteogepfolifneaaX
namespace Go.Proofs.Yteogepfolifneaa
open Go.ChangeShapes Go.WideShapes Go.ChangeAt Go.RowKit
variable {w w' W : World} {U U' T : Nat → Prop} {br bl bn on cn : Nat} {lv : Nat → Value} {va v : Value} {S : List Prc} {A N L : List Int} {x y : Int}

/-- Where the search begins, as the document reckons it. -/
theorem rest_cases (s : Int) (k : Nat) (h1 : 1 ≤ k) (h8 : k ≤ 8) : (s.tmod k < 0 ∧ s.tmod k + k = ((s % k).toNat : Int)) ∨ (0 ≤ s.tmod k ∧ s.tmod k = ((s % k).toNat : Int)) := by
  obtain ⟨a, b, c⟩ := rest_of s k h1 h8
  by_cases h : s.tmod k < 0
  · left
    refine ⟨h, ?_⟩
    rw [← c, Int.emod_eq_of_lt (by omega) (by omega)]
  · right
    refine ⟨by omega, ?_⟩
    rw [← c, Int.add_emod_right, Int.emod_eq_of_lt (by omega) (by omega)]

end Go.Proofs.Yteogepfolifneaa
