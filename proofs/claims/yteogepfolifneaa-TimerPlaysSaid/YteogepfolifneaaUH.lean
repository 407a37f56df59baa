/- Timers: the program's lists and the document's one, plainly. -/
import Derived.Test.YteogepfolifneaaUF
namespace Go.Proofs.Yteogepfolifneaa
variable {P : List (List Ent)} {X X' : List (Int × Ent)} {a now : Int} {L L' L1 L2 M : List Ent} {p q b k m : Nat} {e : Ent} {D D' : List Tm} {A : List Int}

theorem bst_none {D : List Tm} {p : Int} {j : Nat} (h : bst D p j = -1) : ∀ i, i < j → (D.getD i d0).p ≠ p := by
  induction j with
  | zero => intro i hi; omega
  | succ j ih =>
    intro i hi
    unfold bst at h
    split at h
    · omega
    · rename_i hc
      have hlow := ih h
      by_cases e : i = j
      · subst e
        intro hp
        exact hc ⟨hp, .inl (by rw [h]; omega)⟩
      · exact hlow i (by omega)
theorem bst_some {D : List Tm} {p : Int} {j b : Nat} (h : bst D p j = (b : Int)) : b < j ∧ (D.getD b d0).p = p ∧ ∀ i, i < j → (D.getD i d0).p = p → (D.getD b d0).when ≤ (D.getD i d0).when ∧ (i < b → (D.getD b d0).when < (D.getD i d0).when) := by
  induction j generalizing b with
  | zero => have h : (-1 : Int) = (b : Int) := h; omega
  | succ j ih =>
    unfold bst at h
    split at h
    · rename_i hc
      have hjb : j = b := by omega
      subst hjb
      refine ⟨by omega, hc.1, fun i hi hp => ?_⟩
      by_cases e : i = j
      · subst e; exact ⟨Int.le_refl _, fun h => absurd h (Nat.lt_irrefl _)⟩
      · rcases hc.2 with c | c
        · have hr : bst D p j = -1 := by rcases bst_range D p j with h | ⟨x, h, _⟩; exact h; omega
          exact absurd hp (bst_none hr i (by omega))
        · rcases bst_range D p j with hr | ⟨x, hr, _, _⟩
          · exact absurd hp (bst_none hr i (by omega))
          · rw [hr, Int.toNat_natCast] at c
            have := (ih hr).2.2 i (by omega) hp
            exact ⟨by omega, fun _ => by omega⟩
    · rename_i hc
      obtain ⟨h1, h2, h3⟩ := ih h
      refine ⟨by omega, h2, fun i hi hp => ?_⟩
      by_cases e : i = j
      · subst e
        rw [h, Int.toNat_natCast] at hc
        refine ⟨?_, fun h => by omega⟩
        by_cases c : (D.getD i d0).when < (D.getD b d0).when
        · exact absurd ⟨hp, .inr c⟩ hc
        · omega
      · exact h3 i (by omega) hp
def tmOf (x : Int × Ent) : Tm := ⟨x.1, x.2.when, x.2.id⟩
structure Match (P : List (List Ent)) (X : List (Int × Ent)) (a : Int) : Prop where
  neat : Neat P a
  up : X.Pairwise (fun x y => x.2.order < y.2.order)
  lo : ∀ x ∈ X, x.2.order < a
  pr : ∀ x ∈ X, 0 ≤ x.1 ∧ x.1 < (P.length : Int)
  mem : ∀ (p : Nat) (L : List Ent) (e : Ent), P[p]? = some L → (e ∈ L ↔ ((p : Int), e) ∈ X)
  cnt : many P = X.length
theorem get_tm {i : Nat} (hi : i < X.length) : (X.map tmOf).getD i d0 = tmOf X[i] := by simp [List.getD, hi]
theorem Match.none (h : Match P X a) (hp : P[p]? = some []) : bst (X.map tmOf) (p : Int) (X.map tmOf).length = -1 := by
  rcases bst_range (X.map tmOf) (p : Int) (X.map tmOf).length with hr | ⟨b, hr, h1, h2⟩
  · exact hr
  · exfalso
    rw [List.length_map] at h1
    rw [get_tm h1] at h2
    have h3 : (X[b]).1 = (p : Int) := h2
    have := (h.mem p [] (X[b]).2 hp).2 (by rw [← h3]; exact List.getElem_mem h1)
    cases this
theorem Match.first (h : Match P X a) (hp : P[p]? = some (e :: L)) : ∃ b : Nat, bst (X.map tmOf) (p : Int) (X.map tmOf).length = (b : Int) ∧ ∃ hb : b < X.length, X[b] = ((p : Int), e) := by
  have he := (h.mem p (e :: L) e hp).1 List.mem_cons_self
  obtain ⟨i0, hi0, e0⟩ := List.getElem_of_mem he
  rcases bst_range (X.map tmOf) (p : Int) (X.map tmOf).length with hr | ⟨b, hr, h1, h2⟩
  · exfalso
    have := bst_none hr i0 (by rw [List.length_map]; exact hi0)
    rw [get_tm hi0, e0] at this
    exact this rfl
  · have h1' := h1
    rw [List.length_map] at h1
    refine ⟨b, hr, h1, ?_⟩
    obtain ⟨_, s2, s3⟩ := bst_some hr
    rw [get_tm h1] at s2
    have s2 : (X[b]).1 = (p : Int) := s2
    have hbL : (X[b]).2 ∈ e :: L := (h.mem p (e :: L) _ hp).2 (by rw [← s2]; exact List.getElem_mem h1)
    have s4 := s3 i0 (by rw [List.length_map]; exact hi0) (by rw [get_tm hi0, e0]; rfl)
    rw [get_tm h1, get_tm hi0, e0] at s4
    have s4a : (X[b]).2.when ≤ e.when := s4.1
    have s4b : i0 < b → (X[b]).2.when < e.when := s4.2
    have hrise := h.neat.tidy.up p _ hp
    rcases List.mem_cons.1 hbL with c | c
    · exact Prod.ext s2 c
    · exfalso
      have hlt := (List.pairwise_cons.1 hrise).1 _ c
      unfold Ent.lt at hlt
      have hord : b ≤ i0 → (X[b]).2.order ≤ e.order := fun hle => by
        by_cases e1 : b = i0
        · subst e1; rw [e0]; exact Int.le_refl _
        · have := List.pairwise_iff_getElem.1 h.up b i0 h1 hi0 (by omega)
          rw [e0] at this
          exact Int.le_of_lt this
      by_cases c2 : i0 < b
      · have := s4b c2; omega
      · have := hord (by omega); omega
theorem Match.add (h : Match P X a) (hp : P[p]? = some L) (A : Added L e L') (he : e.order = a) : Match (P.set p L') (X ++ [((p : Int), e)]) (a + 1) := by
  have hpl := (List.getElem?_eq_some_iff.1 hp).1
  refine ⟨h.neat.add hp A he, List.pairwise_append.2 ⟨h.up, List.pairwise_singleton _ _, fun x hx y hy => ?_⟩, fun x hx => ?_, fun x hx => ?_, fun q M y hq => ?_, ?_⟩
  · rw [List.mem_singleton.1 hy]
    have := h.lo x hx
    show x.2.order < e.order
    omega
  · rcases List.mem_append.1 hx with hx | hx
    · have := h.lo x hx; omega
    · rw [List.mem_singleton.1 hx]; show e.order < a + 1; omega
  · rw [List.length_set]
    rcases List.mem_append.1 hx with hx | hx
    · exact h.pr x hx
    · rw [List.mem_singleton.1 hx]; show (0 : Int) ≤ (p : Int) ∧ (p : Int) < _; omega
  · rw [List.mem_append, List.mem_singleton]
    rcases set_at hq with ⟨rfl, rfl⟩ | ⟨hne, hq⟩
    · rw [A.mem, h.mem q L y hp]
      constructor
      · rintro (rfl | h)
        · exact .inr rfl
        · exact .inl h
      · rintro (h | h)
        · exact .inr h
        · exact .inl (Prod.ext_iff.1 h).2
    · rw [h.mem q M y hq]
      constructor
      · exact .inl
      · rintro (h | h)
        · exact h
        · have : (q : Int) = (p : Int) := (Prod.ext_iff.1 h).1
          omega
  · have := many_set (M := L') hp
    have := h.cnt
    have := A.len
    rw [List.length_append, List.length_singleton]; omega
theorem Match.rem (h : Match P X a) (hp : P[p]? = some (e :: L)) (hb : b < X.length) (hX : X[b] = ((p : Int), e)) : Match (P.set p L) (X.take b ++ X.drop (b + 1)) a := by
  have hsub : (X.take b ++ X.drop (b + 1)).Sublist X := by
    have : X.take b ++ X.drop (b + 1) = X.eraseIdx b := (List.eraseIdx_eq_take_drop_succ ..).symm
    rw [this]; exact List.eraseIdx_sublist ..
  have hX2 : X = X.take b ++ X[b] :: X.drop (b + 1) := by
    rw [← List.drop_eq_getElem_cons hb, List.take_append_drop]
  have hcut := h.neat.cut hp 1
  have hN : Neat (P.set p L) a := hcut
  have hup := h.up
  rw [hX2] at hup
  obtain ⟨u1, u2, u3⟩ := List.pairwise_append.1 hup
  have u4 := (List.pairwise_cons.1 u2).1
  have hnot : ((p : Int), e) ∉ X.take b ++ X.drop (b + 1) := fun hm => by
    rcases List.mem_append.1 hm with hm | hm
    · have := u3 _ hm _ List.mem_cons_self
      rw [hX] at this
      exact absurd this (Int.lt_irrefl _)
    · have := u4 _ hm
      rw [hX] at this
      exact absurd this (Int.lt_irrefl _)
  have hiff : ∀ y, y ∈ X ↔ y = ((p : Int), e) ∨ y ∈ X.take b ++ X.drop (b + 1) := fun y => by
    conv => lhs; rw [hX2, hX]
    simp only [List.mem_append, List.mem_cons]
    constructor
    · rintro (h | h | h)
      · exact .inr (.inl h)
      · exact .inl h
      · exact .inr (.inr h)
    · rintro (h | h | h)
      · exact .inr (.inl h)
      · exact .inl h
      · exact .inr (.inr h)
  refine ⟨hN, h.up.sublist hsub, fun x hx => h.lo x (hsub.mem hx), fun x hx => ?_, fun q M y hq => ?_, ?_⟩
  · rw [List.length_set]; exact h.pr x (hsub.mem hx)
  · rcases set_at hq with ⟨rfl, rfl⟩ | ⟨hne, hq⟩
    · have hr := (List.pairwise_cons.1 (h.neat.tidy.up q _ hp)).1
      have h1 := h.mem q (e :: M) y hp
      rw [hiff] at h1
      constructor
      · intro hy
        rcases h1.1 (List.mem_cons_of_mem _ hy) with c | c
        · have : y = e := (Prod.ext_iff.1 c).2
          rw [this] at hy
          exact absurd (hr e hy) (Ent.lt_irrefl _)
        · exact c
      · intro hy
        rcases List.mem_cons.1 (h1.2 (.inr hy)) with c | c
        · rw [c] at hy; exact absurd hy hnot
        · exact c
    · rw [h.mem q M y hq, hiff]
      constructor
      · rintro (c | c)
        · have : (q : Int) = (p : Int) := (Prod.ext_iff.1 c).1
          omega
        · exact c
      · exact .inr
  · have := many_set (M := L) hp
    have := h.cnt
    simp only [List.length_append, List.length_take, List.length_drop, List.length_cons] at *
    omega
end Go.Proofs.Yteogepfolifneaa
