/- Timers, plainly: lists that rise. -/
import Derived.Test.YtaloafihbdamiaaTD
namespace Go.Proofs.Ytaloafihbdamiaa
variable {L L1 L2 : List Ent} {x y e : Ent} {P : List (List Ent)} {a now : Int}

/-- Comes ahead of. -/
def Ent.lt (a b : Ent) : Prop := a.when < b.when ∨ (a.when = b.when ∧ a.order < b.order)
theorem cmp_lt (a b : Ent) : a.cmp b < 0 ↔ a.lt b := by
  unfold Ent.cmp orI sgn Ent.lt
  by_cases h1 : a.when < b.when
  · simp [h1]
  · by_cases h2 : b.when < a.when
    · have h3 : ¬ a.when = b.when := by omega
      simp [h1, h2, h3]
    · have h3 : a.when = b.when := by omega
      by_cases h4 : a.order < b.order
      · simp [h4, h3]
      · by_cases h5 : b.order < a.order <;> simp [h3, h4, h5]
theorem Ent.lt_trans {a b c : Ent} (h : a.lt b) (k : b.lt c) : a.lt c := by unfold Ent.lt at *; omega
theorem Ent.lt_irrefl (a : Ent) : ¬ a.lt a := by unfold Ent.lt; omega
def Rises (L : List Ent) : Prop := L.Pairwise Ent.lt
theorem Rises.at (h : Rises L) {i j : Nat} (hij : i < j) (hj : j < L.length) : (L.getD i ⟨0, 0, 0⟩).lt (L.getD j ⟨0, 0, 0⟩) := by
  have := List.pairwise_iff_getElem.1 h i j (by omega) hj hij
  simpa [List.getD, List.getElem?_eq_getElem hj, List.getElem?_eq_getElem (show i < L.length by omega)] using this
/-- What the search asks. -/
theorem Rises.mono (h : Rises L) (t : Ent) (i j : Nat) (hij : i < j) (hj : j < L.length) (hc : (L.getD j ⟨0, 0, 0⟩).cmp t < 0) : (L.getD i ⟨0, 0, 0⟩).cmp t < 0 :=
  (cmp_lt _ _).2 (Ent.lt_trans (h.at hij hj) ((cmp_lt _ _).1 hc))
theorem mem_take_lt {i : Nat} (hx : x ∈ L.take i) : ∃ m, m < i ∧ m < L.length ∧ L.getD m ⟨0, 0, 0⟩ = x := by
  obtain ⟨m, hm, e⟩ := List.getElem_of_mem hx
  rw [List.length_take] at hm
  refine ⟨m, by omega, by omega, ?_⟩
  rw [List.getElem_take] at e
  simp [List.getD, List.getElem?_eq_getElem (show m < L.length by omega), e]
theorem mem_drop_ge {i : Nat} (hx : x ∈ L.drop i) : ∃ m, i ≤ m ∧ m < L.length ∧ L.getD m ⟨0, 0, 0⟩ = x := by
  obtain ⟨m, hm, e⟩ := List.getElem_of_mem hx
  rw [List.length_drop] at hm
  refine ⟨i + m, by omega, by omega, ?_⟩
  rw [List.getElem_drop] at e
  simp [List.getD, List.getElem?_eq_getElem (show i + m < L.length by omega), e]
/-- One more, at its place. -/
theorem Rises.ins (h : Rises L) (ho : ∀ x ∈ L, x.order < e.order) {i : Nat} (hp : Place L e i) : Rises (L.take i ++ e :: L.drop i) := by
  have h0 : Rises (L.take i ++ L.drop i) := by rw [List.take_append_drop]; exact h
  obtain ⟨h1, h2, h3⟩ := List.pairwise_append.1 h0
  refine List.pairwise_append.2 ⟨h1, List.pairwise_cons.2 ⟨fun y hy => ?_, h2⟩, fun x hx y hy => ?_⟩
  · obtain ⟨m, k1, k2, rfl⟩ := mem_drop_ge hy
    have c := hp.hi m k1 k2
    have c2 : ¬ (L.getD m ⟨0, 0, 0⟩).lt e := fun c3 => by have := (cmp_lt _ _).2 c3; omega
    have o := ho _ (List.mem_of_mem_drop hy)
    unfold Ent.lt at c2 ⊢
    omega
  · have hxe : x.lt e := by
      obtain ⟨m, k1, k2, rfl⟩ := mem_take_lt hx
      exact (cmp_lt _ _).1 (hp.lo m k1)
    rcases List.mem_cons.1 hy with rfl | hy
    · exact hxe
    · exact h3 x hx y hy
theorem mem_ins {i : Nat} : x ∈ L.take i ++ e :: L.drop i ↔ x = e ∨ x ∈ L := by
  constructor
  · intro h
    rcases List.mem_append.1 h with h | h
    · exact .inr (List.mem_of_mem_take h)
    · rcases List.mem_cons.1 h with h | h
      · exact .inl h
      · exact .inr (List.mem_of_mem_drop h)
  · rintro (rfl | h)
    · simp
    · rw [← List.take_append_drop i L] at h
      rcases List.mem_append.1 h with h | h
      · exact List.mem_append_left _ h
      · exact List.mem_append_right _ (List.mem_cons_of_mem _ h)
theorem len_ins {i : Nat} : (L.take i ++ e :: L.drop i).length = L.length + 1 := by
  simp only [List.length_append, List.length_cons, List.length_take, List.length_drop]; omega
/-- Two lists that rise and have the same in them are one. -/
theorem Rises.unique : ∀ {L1 L2 : List Ent}, Rises L1 → Rises L2 → (∀ x, x ∈ L1 ↔ x ∈ L2) → L1 = L2
  | [], [], _, _, _ => rfl
  | [], y :: l, _, _, h => absurd ((h y).2 List.mem_cons_self) (by simp)
  | x :: l, [], _, _, h => absurd ((h x).1 List.mem_cons_self) (by simp)
  | x :: l, y :: m, h1, h2, h => by
    obtain ⟨a1, b1⟩ := List.pairwise_cons.1 h1
    obtain ⟨a2, b2⟩ := List.pairwise_cons.1 h2
    have e : x = y := by
      rcases List.mem_cons.1 ((h x).1 List.mem_cons_self) with e | e
      · exact e
      · rcases List.mem_cons.1 ((h y).2 List.mem_cons_self) with e2 | e2
        · exact e2.symm
        · exact absurd (Ent.lt_trans (a2 x e) (a1 y e2)) (Ent.lt_irrefl _)
    subst e
    rw [Rises.unique b1 b2 fun z => ?_]
    constructor
    · intro hz
      rcases List.mem_cons.1 ((h z).1 (List.mem_cons_of_mem _ hz)) with e | e
      · exact absurd (e ▸ a1 z hz) (Ent.lt_irrefl _)
      · exact e
    · intro hz
      rcases List.mem_cons.1 ((h z).2 (List.mem_cons_of_mem _ hz)) with e | e
      · exact absurd (e ▸ a2 z hz) (Ent.lt_irrefl _)
      · exact e
/-- The first k are due, the next one isn't. -/
structure Upto (L : List Ent) (now : Int) (k : Nat) : Prop where
  le : k ≤ L.length
  lo : ∀ i, i < k → (L.getD i ⟨0, 0, 0⟩).when ≤ now
  hi : k < L.length → now < (L.getD k ⟨0, 0, 0⟩).when
theorem Upto.all {k : Nat} (h : Upto L now k) : ∀ x ∈ L.take k, x.when ≤ now := fun x hx => by
  obtain ⟨m, k1, k2, rfl⟩ := mem_take_lt hx
  exact h.lo m k1
theorem Upto.none {k : Nat} (h : Upto L now k) (hr : Rises L) : ∀ x ∈ L.drop k, now < x.when := fun x hx => by
  obtain ⟨m, k1, k2, rfl⟩ := mem_drop_ge hx
  have h0 := h.hi (by omega)
  by_cases e : m = k
  · rw [e]; exact h0
  · have := hr.at (show k < m by omega) k2
    unfold Ent.lt at this
    omega
/-- The processors' lists rise; who was added is numbered below a. -/
structure Tidy (P : List (List Ent)) (a : Int) : Prop where
  up : ∀ (p : Nat) (L : List Ent), P[p]? = some L → Rises L
  lo : ∀ (p : Nat) (L : List Ent), P[p]? = some L → ∀ x ∈ L, x.order < a
theorem Tidy.set (h : Tidy P a) {p : Nat} {b : Int} (hab : a ≤ b) (hr : Rises L) (hl : ∀ x ∈ L, x.order < b) : Tidy (P.set p L) b := by
  refine ⟨fun q M hq => ?_, fun q M hq x hx => ?_⟩
  · rw [List.getElem?_set] at hq
    split at hq
    · split at hq
      · cases hq; exact hr
      · cases hq
    · exact h.up q M hq
  · rw [List.getElem?_set] at hq
    split at hq
    · split at hq
      · cases hq; exact hl x hx
      · cases hq
    · have := h.lo q M hq x hx; omega
theorem tidy_new (n : Nat) (a : Int) : Tidy (List.replicate n []) a := by
  refine ⟨fun q M hq => ?_, fun q M hq x hx => ?_⟩
  · rw [List.getElem?_replicate] at hq
    split at hq
    · cases hq; exact List.Pairwise.nil
    · cases hq
  · rw [List.getElem?_replicate] at hq
    split at hq
    · cases hq; cases hx
    · cases hq
/-- A processor's list in the sum of all. -/
theorem many_set {P : List (List Ent)} {p : Nat} {L M : List Ent} (hp : P[p]? = some L) : many (P.set p M) + L.length = many P + M.length := by
  induction P generalizing p with
  | nil => cases hp
  | cons x l ih =>
    cases p with
    | zero =>
      have e : x = L := by simpa using hp
      subst e
      simp only [many, List.set_cons_zero, List.map_cons, List.sum_cons]; omega
    | succ p =>
      have := ih (p := p) (by simpa using hp)
      simp only [many, List.set_cons_succ, List.map_cons, List.sum_cons] at this ⊢; omega
end Go.Proofs.Ytaloafihbdamiaa
