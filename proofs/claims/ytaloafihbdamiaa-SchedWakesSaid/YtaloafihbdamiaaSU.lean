/- SchedWakes. -/
import Derived.Test.YtaloafihbdamiaaSP
import Derived.Test.YtaloafihbdamiaaSS
namespace Go.Proofs.Ytaloafihbdamiaa
open Go.ChangeShapes Go.WideShapes Go.ChangeAt Go.RowKit
/-- So many are begun; they act and wait, one behind the other; nobody is there; they are made ready, and end. -/
def wB : Nat → Sx
  | 0 => Sx.ini 2
  | k + 1 => (wB k).beg 0
def wA (k : Nat) : Nat → Sx
  | 0 => wB k
  | j + 1 => ((wA k j).act 0 0).2.stp 0 (2, false)
def wI (k : Nat) : Sx := ((wA k k).act 0 0).2
def wR (k : Nat) : Nat → Sx
  | 0 => wI k
  | j + 1 => (((wR k j).rdy 1 j).act 1 0).2.stp 1 (3, false)
/-- What a state must be, at each step. -/
def okB (X : Sx) (k : Nat) : Bool := X.gs.length == k && X.Q.2.length ≤ 64
def okA (X : Sx) : Bool := X.on 0 == -1 && (X.act 0 0).1.1 == 2 && 0 ≤ (X.act 0 0).2.on 0 && (X.act 0 0).2.on 0 < (X.act 0 0).2.gs.length
def okI (X : Sx) : Bool := X.on 0 == -1 && (X.act 0 0).1.1 == 1
def okR (X : Sx) (j : Nat) : Bool := X.on 1 == -1 && j < X.gs.length && X.gs.getD j (0, false) == (2, false) && (X.rdy 1 j).gs.getD j (0, false) != (2, false) && (X.rdy 1 j).on 1 == -1 &&
  ((X.rdy 1 j).act 1 0).1 == (2, (j : Int)) && ((X.rdy 1 j).act 1 0).2.on 1 == (j : Int) && j < ((X.rdy 1 j).act 1 0).2.gs.length && ((((X.rdy 1 j).act 1 0).2.stp 1 (3, false)).gs.getD j (0, false)).1 == 3 && j < (((X.rdy 1 j).act 1 0).2.stp 1 (3, false)).gs.length
def okAll : Bool := (List.range 13).all fun k => okB (wB k) k && (List.range k).all (fun j => okA (wA k j)) && okI (wA k k) && (List.range k).all (fun j => okR (wR k j) j)
theorem ok_all : okAll = true := by kernel_rfl
theorem ok_at {k : Nat} (hk : k ≤ 12) : okB (wB k) k = true ∧ (∀ j, j < k → okA (wA k j) = true) ∧ okI (wA k k) = true ∧ ∀ j, j < k → okR (wR k j) j = true := by
  have h := ok_all
  unfold okAll at h
  have h := List.all_eq_true.1 h k (List.mem_range.2 (by omega))
  simp only [Bool.and_eq_true] at h
  obtain ⟨⟨⟨a, b⟩, c⟩, d⟩ := h
  exact ⟨a, fun j hj => List.all_eq_true.1 b j (List.mem_range.2 hj), c, fun j hj => List.all_eq_true.1 d j (List.mem_range.2 hj)⟩
theorem wf_wB : ∀ k, k ≤ 12 → Wf 2 (wB k)
  | 0, _ => wf_ini (by decide) (by decide)
  | k + 1, h => (wf_wB k (by omega)).beg (by decide) (by
    have := (ok_at (k := k) (by omega)).1
    unfold okB at this
    simp only [Bool.and_eq_true, beq_iff_eq] at this
    omega)
theorem wf_wA {k : Nat} (hk : k ≤ 12) : ∀ j, j ≤ k → Wf 2 (wA k j)
  | 0, _ => wf_wB k hk
  | j + 1, h => by
    have hw := (wf_wA hk j (by omega)).act (p := 0) (by decide) 0
    have := (ok_at hk).2.1 j (by omega)
    unfold okA at this
    simp only [Bool.and_eq_true, beq_iff_eq, decide_eq_true_eq] at this
    exact hw.off (by decide) (by omega) (2, false) (by decide) (by decide)
theorem wf_wI {k : Nat} (hk : k ≤ 12) : Wf 2 (wI k) := (wf_wA hk k (Nat.le_refl _)).act (by decide) 0
theorem wf_wR {k : Nat} (hk : k ≤ 12) : ∀ j, j ≤ k → Wf 2 (wR k j) ∧ (j < k → Wf 2 ((wR k j).rdy 1 j))
  | 0, _ => ⟨wf_wI hk, fun h => by
    have := (ok_at hk).2.2.2 0 h
    unfold okR at this
    simp only [Bool.and_eq_true, beq_iff_eq, decide_eq_true_eq] at this
    exact (wf_wI hk).rdy (by decide) this.1.1.1.1.1.1.1.1.2 this.1.1.1.1.1.1.1.2⟩
  | j + 1, h => by
    have hw := (wf_wR hk j (by omega)).2 (by omega)
    have := (ok_at hk).2.2.2 j (by omega)
    unfold okR at this
    simp only [Bool.and_eq_true, beq_iff_eq, decide_eq_true_eq] at this
    have h1 : Wf 2 (wR k (j + 1)) := (hw.act (p := 1) (by decide) 0).off (by decide) (by rw [this.1.1.1.2]; omega) (3, false) (by decide) (by decide)
    refine ⟨h1, fun h2 => ?_⟩
    have := (ok_at hk).2.2.2 (j + 1) h2
    unfold okR at this
    simp only [Bool.and_eq_true, beq_iff_eq, decide_eq_true_eq] at this
    exact h1.rdy (by decide) this.1.1.1.1.1.1.1.1.2 this.1.1.1.1.1.1.1.2
end Go.Proofs.Ytaloafihbdamiaa
