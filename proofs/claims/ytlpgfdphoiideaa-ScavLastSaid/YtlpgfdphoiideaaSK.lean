/- What is given back, plainly: from the last on, each once, as many as there are. -/
import Derived.Test.YtlpgfdphoiideaaSA
namespace Go.Proofs.Ytlpgfdphoiideaa
theorem giv_s0 (st : Nat → Int) (p q : Nat) (h : st p = 1) : giv st (p + 1) (q + 1) = (p : Int) :: giv st p q := by show (if st p = 1 then _ else _) = _; rw [if_pos h]
theorem giv_s1 (st : Nat → Int) (p q : Nat) (h : st p ≠ 1) : giv st (p + 1) q = giv st p q := by
  cases q with
  | zero => rw [giv_none, giv_none]
  | succ q => show (if st p = 1 then _ else _) = _; rw [if_neg h]
theorem giS_s0 (st : Nat → Int) (p q : Nat) (h : st p = 1) : giS st (p + 1) (q + 1) = fun i => if i = p then 0 else giS st p q i := by show (if st p = 1 then _ else _) = _; rw [if_pos h]
theorem giS_s1 (st : Nat → Int) (p q : Nat) (h : st p ≠ 1) : giS st (p + 1) q = giS st p q := by
  cases q with
  | zero => rw [giS_none, giS_none]
  | succ q => show (if st p = 1 then _ else _) = _; rw [if_neg h]
theorem giv_app {st : Nat → Int} : ∀ {p a b : Nat}, giv st p a ++ giv (giS st p a) p b = giv st p (a + b)
  | 0, _, _ => rfl
  | p + 1, 0, b => by rw [giv_none, giS_none, Nat.zero_add]; rfl
  | p + 1, a + 1, b => by
    by_cases h : st p = 1
    · rw [giv_s0 _ _ _ h, giS_s0 _ _ _ h, show a + 1 + b = a + b + 1 by omega, giv_s0 _ _ _ h, giv_s1 _ _ _ (by simp), ← giv_app (p := p) (a := a) (b := b), List.cons_append]
      congr 2
      exact giv_congr fun i hi => if_neg (by omega)
    · rw [giv_s1 _ _ _ h, giS_s1 _ _ _ h, giv_s1 _ _ _ h, giv_s1 _ _ _ (by rw [giS_old _ _ _ _ (Nat.le_refl _)]; exact h), giv_app]
theorem giS_app {st : Nat → Int} : ∀ {p a b : Nat} (i : Nat), giS (giS st p a) p b i = giS st p (a + b) i
  | 0, _, _, _ => rfl
  | p + 1, 0, b, i => by rw [giS_none, Nat.zero_add]
  | p + 1, a + 1, b, i => by
    by_cases h : st p = 1
    · rw [giS_s0 _ _ _ h, show a + 1 + b = a + b + 1 by omega, giS_s0 _ _ _ h, giS_s1 _ _ _ (by simp)]
      show _ = if i = p then 0 else giS st p (a + b) i
      by_cases c : i < p
      · rw [giS_congr (st' := giS st p a) (fun i hi => if_neg (by omega)) i c, giS_app, if_neg (by omega)]
      · rw [giS_old _ _ _ _ (by omega)]
        by_cases c2 : i = p
        · rw [if_pos c2, if_pos c2]
        · rw [if_neg c2, if_neg c2, giS_old _ _ _ _ (by omega), giS_old _ _ _ _ (by omega)]
    · rw [giS_s1 _ _ _ h, giS_s1 _ _ _ h, giS_s1 _ _ _ (by rw [giS_old _ _ _ _ (Nat.le_refl _)]; exact h), giS_app]
theorem giv_len {st : Nat → Int} : ∀ {p q : Nat}, (giv st p q).length = min q (cn st 1 0 p)
  | 0, q => by show 0 = _; simp [cn]
  | p + 1, 0 => by rw [giv_none]; simp
  | p + 1, q + 1 => by
    have e : cn st 1 0 (p + 1) = cn st 1 0 p + if st p = 1 then 1 else 0 := by show _ + (if st (0 + p) = 1 then 1 else 0) = _; rw [Nat.zero_add]
    by_cases h : st p = 1
    · rw [giv_s0 _ _ _ h, List.length_cons, giv_len, e, if_pos h]; omega
    · rw [giv_s1 _ _ _ h, giv_len, e, if_neg h]; omega
/-- Each that is given back was free, and is given back. -/
theorem giv_mem {st : Nat → Int} : ∀ {p q : Nat} {x : Int}, x ∈ giv st p q → ∃ i : Nat, i < p ∧ x = i ∧ st i = 1 ∧ giS st p q i = 0
  | 0, _, x, h => by cases h
  | p + 1, 0, x, h => by rw [giv_none] at h; cases h
  | p + 1, q + 1, x, h => by
    by_cases c : st p = 1
    · rw [giv_s0 _ _ _ c] at h
      rw [giS_s0 _ _ _ c]
      rcases List.mem_cons.1 h with e | e
      · exact ⟨p, by omega, e, c, if_pos rfl⟩
      · obtain ⟨i, a, b, d, f⟩ := giv_mem e
        exact ⟨i, by omega, b, d, (if_neg (by omega)).trans f⟩
    · rw [giv_s1 _ _ _ c] at h
      rw [giS_s1 _ _ _ c]
      obtain ⟨i, a, b, d, f⟩ := giv_mem h
      exact ⟨i, by omega, b, d, f⟩
/-- From the last on. -/
theorem giv_desc {st : Nat → Int} : ∀ {p q : Nat}, (giv st p q).Pairwise (fun x y => y < x)
  | 0, _ => List.Pairwise.nil
  | p + 1, 0 => by rw [giv_none]; exact List.Pairwise.nil
  | p + 1, q + 1 => by
    by_cases c : st p = 1
    · rw [giv_s0 _ _ _ c]
      refine List.Pairwise.cons (fun x hx => ?_) giv_desc
      obtain ⟨i, a, b, _⟩ := giv_mem hx
      omega
    · rw [giv_s1 _ _ _ c]; exact giv_desc
theorem giv_gt {st : Nat → Int} {p q i j : Nat} (h : i < j) (k : j < (giv st p q).length) : (giv st p q).getD j 0 < (giv st p q).getD i 0 := by
  have := List.pairwise_iff_getElem.1 (giv_desc (st := st) (p := p) (q := q)) i j (by omega) k h
  simpa [List.getD, List.getElem?_eq_getElem k, List.getElem?_eq_getElem (show i < (giv st p q).length by omega)] using this
theorem giv_at {st : Nat → Int} {p q j : Nat} (k : j < (giv st p q).length) : ∃ i : Nat, i < p ∧ (giv st p q).getD j 0 = i ∧ giS st p q i = 0 := by
  have hm : (giv st p q).getD j 0 ∈ giv st p q := by
    simp only [List.getD, List.getElem?_eq_getElem k, Option.getD_some]
    exact List.getElem_mem _
  obtain ⟨i, a, b, _, d⟩ := giv_mem hm
  exact ⟨i, a, b, d⟩
end Go.Proofs.Ytlpgfdphoiideaa
