/- What is decoded is small. -/
import Derived.Test.YtpdjbhnpahkbpaaBG
import Derived.Test.YtpdjbhnpahkbpaaK
namespace Go.Proofs.Ytpdjbhnpahkbpaa.Z
open Go.ChangeShapes Go.WideShapes Go.ChangeAt Go.RowKit
theorem rep_all {α : Type} {f : RSt → α × RSt} {Q : α → Prop} (hf : ∀ s, Q (f s).1) (k : Nat) (s : RSt) : ∀ x ∈ (rRep f k s).1, Q x := by
  induction k with
  | zero => intro x h; cases h
  | succ k ih =>
    intro x h
    rcases List.mem_append.1 h with h | h
    · exact ih x h
    · obtain rfl := List.mem_singleton.1 h
      exact hf _
theorem word_le (T : List Nat) (lim : Nat) (s : RSt) : (rWord T lim 16 s).1 ≤ lim := by
  unfold rWord
  by_cases h0 : s.e ≠ 0
  · rw [if_pos h0]
    exact Nat.zero_le _
  · rw [if_neg h0]
    by_cases h : rErr lim 16 (fw (T.drop s.at_) 0 0) ≠ 0
    · rw [if_pos h]
      exact Nat.zero_le _
    · rw [if_neg h]
      have h := Decidable.not_not.1 h
      unfold rErr at h
      by_cases c : (fw (T.drop s.at_) 0 0).2.2 = 0 ∧ lim < (fw (T.drop s.at_) 0 0).1
      · rw [if_pos c] at h
        omega
      · rw [if_neg c] at h
        show (fw (T.drop s.at_) 0 0).1 ≤ lim
        omega
theorem list_le {α : Type} (T : List Nat) {f : RSt → α × RSt} (sz : α → Nat) {b : Nat} (lim : Nat) (s : RSt) (hf : ∀ s, sz (f s).1 ≤ b) : ((rList T f lim s).1.map sz).sum ≤ lim * b := by
  have h1 : (rList T f lim s).1.length ≤ lim := by
    unfold rList
    rw [rep_len]
    exact word_le T lim s
  have h2 : ∀ x ∈ (rList T f lim s).1, sz x ≤ b := rep_all hf _ _
  have h3 : ∀ xs : List α, (∀ x ∈ xs, sz x ≤ b) → (xs.map sz).sum ≤ xs.length * b := by
    intro xs
    induction xs with
    | nil => intro _; simp
    | cons x xs ih =>
      intro h
      have := ih fun y hy => h y (List.mem_cons_of_mem _ hy)
      have := h x List.mem_cons_self
      simp only [List.map_cons, List.sum_cons, List.length_cons, Nat.succ_mul]
      omega
  exact Nat.le_trans (h3 _ h2) (Nat.mul_le_mul_right b h1)
theorem len_le (T : List Nat) {α : Type} {f : RSt → α × RSt} (lim : Nat) (s : RSt) : (rList T f lim s).1.length ≤ lim := by
  unfold rList
  rw [rep_len]
  exact word_le T lim s
theorem dec_small (T : List Nat) : szP (dec8 T).1 ≤ 1000000000 := by
  have h : ∀ s, szP (rProg T s).1 ≤ 1000000000 := by
    intro s
    unfold rProg szP
    simp only
    have h1 := list_le T (f := rTy T) szT (b := 18) 32 s fun s => by
      unfold rTy szT
      simp only
      have := len_le T (f := rNum T) 16 (rWord T 1 8 s).2
      omega
    have h2 := len_le T (f := rNum T) 32 (rList T (rTy T) 32 s).2
    have h3 := list_le T (f := rFn T) szF (b := 10000) 32 (rList T (rNum T) 32 (rList T (rTy T) 32 s).2).2 fun s => by
      unfold rFn szF
      simp only
      have h1 := len_le T (f := rNum T) 32 (rNum T s).2
      have h2 := len_le T (f := rNum T) 32 (rList T (rNum T) 32 (rNum T s).2).2
      have h3 := list_le T (f := rIns T) szI (b := 30) 256 (rList T (rNum T) 32 (rList T (rNum T) 32 (rNum T s).2).2).2 fun s => by
        unfold rIns szI
        simp only
        have := fun s => len_le T (f := rNum T) 24 s
        exact Nat.add_le_add (Nat.le_refl 6) (this _)
      omega
    omega
  unfold dec8
  split
  · decide
  · simp only
    split
    · exact (by decide : szP noP ≤ 1000000000)
    · split
      · exact (by decide : szP noP ≤ 1000000000)
      · exact h _
end Go.Proofs.Ytpdjbhnpahkbpaa.Z
