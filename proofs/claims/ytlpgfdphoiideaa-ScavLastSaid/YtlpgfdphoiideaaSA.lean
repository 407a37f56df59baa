/- Pages' states, plainly: how many are in one, a row that is filled, what is given back. -/
import Derived.Test.YtlpgfdphoiideaaB
namespace Go.Proofs.Ytlpgfdphoiideaa
/-- How many of the m pages from o on are in the state x. -/
def cn (st : Nat → Int) (x : Int) (o : Nat) : Nat → Nat
  | 0 => 0
  | m + 1 => cn st x o m + if st (o + m) = x then 1 else 0
theorem cn_le (st : Nat → Int) (x : Int) (o : Nat) : ∀ m, cn st x o m ≤ m
  | 0 => Nat.le_refl _
  | m + 1 => by have := cn_le st x o m; simp only [cn]; split <;> omega
theorem cn_congr {st st' : Nat → Int} {x : Int} {o : Nat} : ∀ {m : Nat}, (∀ i, o ≤ i → i < o + m → st i = st' i) → cn st x o m = cn st' x o m
  | 0, _ => rfl
  | m + 1, h => by simp only [cn]; rw [cn_congr (m := m) fun i h1 h2 => h i h1 (by omega), h (o + m) (by omega) (by omega)]
theorem cn_zero {st : Nat → Int} {x : Int} {o : Nat} : ∀ {m : Nat}, cn st x o m = 0 ↔ ∀ i, o ≤ i → i < o + m → st i ≠ x
  | 0 => ⟨fun _ i h1 h2 => by omega, fun _ => rfl⟩
  | m + 1 => by
    simp only [cn]
    refine ⟨fun h i h1 h2 => ?_, fun h => ?_⟩
    · by_cases e : i = o + m
      · subst e; intro c; rw [if_pos c] at h; omega
      · exact cn_zero.1 (by omega : cn st x o m = 0) i h1 (by omega)
    · rw [cn_zero.2 fun i h1 h2 => h i h1 (by omega), if_neg (h (o + m) (by omega) (by omega))]
theorem cn_all {st : Nat → Int} {x : Int} {o : Nat} : ∀ {m : Nat}, cn st x o m = m ↔ ∀ i, o ≤ i → i < o + m → st i = x
  | 0 => ⟨fun _ i h1 h2 => by omega, fun _ => rfl⟩
  | m + 1 => by
    simp only [cn]
    have hle := cn_le st x o m
    refine ⟨fun h i h1 h2 => ?_, fun h => ?_⟩
    · by_cases e : i = o + m
      · subst e; by_cases c : st (o + m) = x
        · exact c
        · rw [if_neg c] at h; omega
      · have h0 : cn st x o m = m := by split at h <;> omega
        exact cn_all.1 h0 i h1 (by omega)
    · rw [cn_all.2 fun i h1 h2 => h i h1 (by omega), if_pos (h (o + m) (by omega) (by omega))]
theorem cn_add (st : Nat → Int) (x : Int) (o a : Nat) : ∀ m, cn st x o (a + m) = cn st x o a + cn st x (o + a) m
  | 0 => rfl
  | m + 1 => by
    rw [← Nat.add_assoc]
    simp only [cn]
    rw [cn_add st x o a m, Nat.add_assoc o a m]
    omega
/-- A row that is brought into the state x. -/
def fil (st : Nat → Int) (o m : Nat) (x : Int) (i : Nat) : Int := if o ≤ i ∧ i < o + m then x else st i
theorem fil_zero (st : Nat → Int) (o : Nat) (x : Int) : fil st o 0 x = st := by funext i; unfold fil; rw [if_neg (by omega)]
theorem fil_succ (st : Nat → Int) (o m : Nat) (x : Int) : (fun i => if i = o + m then x else fil st o m x i) = fil st o (m + 1) x := by
  funext i
  unfold fil
  by_cases h : i = o + m
  · rw [if_pos h, if_pos (by omega)]
  · rw [if_neg h]
    by_cases h2 : o ≤ i ∧ i < o + m
    · rw [if_pos h2, if_pos (by omega)]
    · rw [if_neg h2, if_neg (by omega)]
/-- The pages that are given back: of the first p the last ones, q at most. -/
def giv (st : Nat → Int) : Nat → Nat → List Int
  | 0, _ => []
  | _ + 1, 0 => []
  | p + 1, q + 1 => if st p = 1 then (p : Int) :: giv st p q else giv st p (q + 1)
/-- How they stand behind. -/
def giS (st : Nat → Int) : Nat → Nat → Nat → Int
  | 0, _ => st
  | _ + 1, 0 => st
  | p + 1, q + 1 => if st p = 1 then fun i => if i = p then 0 else giS st p q i else giS st p (q + 1)
theorem giv_none (st : Nat → Int) (p : Nat) : giv st p 0 = [] := by cases p <;> rfl
theorem giS_none (st : Nat → Int) (p : Nat) : giS st p 0 = st := by cases p <;> rfl
theorem giS_old (st : Nat → Int) : ∀ p q i, p ≤ i → giS st p q i = st i
  | 0, _, _, _ => rfl
  | _ + 1, 0, _, _ => rfl
  | p + 1, q + 1, i, h => by
    simp only [giS]
    split
    · show (if i = p then 0 else giS st p q i) = st i
      rw [if_neg (by omega)]; exact giS_old st p q i (by omega)
    · exact giS_old st p (q + 1) i (by omega)
theorem giv_congr {st st' : Nat → Int} : ∀ {p q : Nat}, (∀ i, i < p → st i = st' i) → giv st p q = giv st' p q
  | 0, _, _ => rfl
  | _ + 1, 0, _ => rfl
  | p + 1, q + 1, h => by
    simp only [giv]
    rw [h p (by omega), giv_congr (p := p) (q := q) fun i hi => h i (by omega), giv_congr (p := p) (q := q + 1) fun i hi => h i (by omega)]
theorem giS_congr {st st' : Nat → Int} : ∀ {p q : Nat}, (∀ i, i < p → st i = st' i) → ∀ i, i < p → giS st p q i = giS st' p q i
  | 0, _, _, i, hi => absurd hi (Nat.not_lt_zero _)
  | _ + 1, 0, h, i, hi => h i hi
  | p + 1, q + 1, h, i, hi => by
    simp only [giS]
    rw [h p (by omega)]
    by_cases e : i = p
    · subst e
      split
      · simp
      · rw [giS_old _ _ _ _ (Nat.le_refl _), giS_old _ _ _ _ (Nat.le_refl _)]; exact h _ hi
    · split
      · show (if i = p then 0 else giS st p q i) = (if i = p then 0 else giS st' p q i)
        rw [if_neg e, if_neg e]; exact giS_congr (p := p) (q := q) (fun i hi => h i (by omega)) i (by omega)
      · exact giS_congr (p := p) (q := q + 1) (fun i hi => h i (by omega)) i (by omega)
theorem giv_le (st : Nat → Int) : ∀ p q, (giv st p q).length ≤ p
  | 0, _ => Nat.le_refl _
  | _ + 1, 0 => Nat.zero_le _
  | p + 1, q + 1 => by
    simp only [giv]
    have := giv_le st p q
    have := giv_le st p (q + 1)
    split
    · rw [List.length_cons]; omega
    · omega
end Go.Proofs.Ytlpgfdphoiideaa
