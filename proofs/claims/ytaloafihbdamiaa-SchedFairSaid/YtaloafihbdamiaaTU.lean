/- Timers: what holds of all processors' lists, behind Add, Due and Move. -/
import Derived.Test.YtaloafihbdamiaaTT
namespace Go.Proofs.Ytaloafihbdamiaa
open Go.ChangeShapes Go.WideShapes Go.ChangeAt Go.RowKit
variable {w0 w w' : World} {bt bp p q : Nat} {P : List (List Ent)} {a b : Int} {L L1 L2 M L' : List Ent} {e x y : Ent}

/-- Lists that rise, numbered below a, each number once. -/
structure Neat (P : List (List Ent)) (a : Int) : Prop where
  tidy : Tidy P a
  own : ∀ (p q : Nat) (L M : List Ent) (x y : Ent), P[p]? = some L → P[q]? = some M → x ∈ L → y ∈ M → x.order = y.order → p = q ∧ x = y
theorem set_at (h : (P.set p L)[q]? = some M) : (q = p ∧ M = L) ∨ (q ≠ p ∧ P[q]? = some M) := by
  rw [List.getElem?_set] at h
  by_cases e : p = q
  · rw [if_pos e] at h
    split at h
    · cases h; exact .inl ⟨e.symm, rfl⟩
    · cases h
  · rw [if_neg e] at h
    exact .inr ⟨fun c => e c.symm, h⟩
theorem neat_new (n : Nat) : Neat (List.replicate n []) 0 := by
  refine ⟨tidy_new n 0, fun p q L M x y hp hq hx => ?_⟩
  rw [List.getElem?_replicate] at hp
  split at hp
  · cases hp; cases hx
  · cases hp
theorem Neat.add (h : Neat P a) (hp : P[p]? = some L) (A : Added L e L') (he : e.order = a) : Neat (P.set p L') (a + 1) := by
  refine ⟨h.tidy.set (by omega) A.up (A.lo (fun x hx => h.tidy.lo p L hp x hx) he), fun r s R S x y hr hs hx hy ho => ?_⟩
  have old : ∀ r R x, (P.set p L')[r]? = some R → x ∈ R → (r = p ∧ x = e) ∨ ∃ R', P[r]? = some R' ∧ x ∈ R' := fun r R x hr hx => by
    rcases set_at hr with ⟨rfl, rfl⟩ | ⟨_, hr⟩
    · rcases (A.mem x).1 hx with rfl | hx
      · exact .inl ⟨rfl, rfl⟩
      · exact .inr ⟨L, hp, hx⟩
    · exact .inr ⟨R, hr, hx⟩
  rcases old r R x hr hx with ⟨rfl, rfl⟩ | ⟨R', k1, k2⟩
  · rcases old s S y hs hy with ⟨rfl, rfl⟩ | ⟨S', m1, m2⟩
    · exact ⟨rfl, rfl⟩
    · have := h.tidy.lo s S' m1 y m2; omega
  · rcases old s S y hs hy with ⟨rfl, rfl⟩ | ⟨S', m1, m2⟩
    · have := h.tidy.lo r R' k1 x k2; omega
    · exact h.own r s R' S' x y k1 m1 k2 m2 ho
theorem Neat.cut (h : Neat P a) (hp : P[p]? = some L) (k : Nat) : Neat (P.set p (L.drop k)) a := by
  refine ⟨h.tidy.set (by omega) ((h.tidy.up p L hp).drop) (fun x hx => h.tidy.lo p L hp x (List.mem_of_mem_drop hx)), fun r s R S x y hr hs hx hy ho => ?_⟩
  have old : ∀ r R x, (P.set p (L.drop k))[r]? = some R → x ∈ R → ∃ R', P[r]? = some R' ∧ x ∈ R' := fun r R x hr hx => by
    rcases set_at hr with ⟨e0, e⟩ | ⟨_, hr⟩
    · rw [e] at hx
      exact ⟨L, by rw [e0]; exact hp, List.mem_of_mem_drop hx⟩
    · exact ⟨R, hr, hx⟩
  obtain ⟨R', k1, k2⟩ := old r R x hr hx
  obtain ⟨S', m1, m2⟩ := old s S y hs hy
  exact h.own r s R' S' x y k1 m1 k2 m2 ho
theorem Neat.apart (h : Neat P a) (hp : P[p]? = some L) : L.Pairwise (fun x y => x.order ≠ y.order) := by
  refine List.Pairwise.imp_of_mem (fun {x y} hx hy hl ho => ?_) (h.tidy.up p L hp)
  obtain ⟨_, rfl⟩ := h.own p p L L x y hp hp hx hy ho
  exact Ent.lt_irrefl _ hl
theorem Neat.move (h : Neat P a) (hp : P[p]? = some L1) (hq : P[q]? = some L2) (hne : p ≠ q) (hm : M.Perm (L1 ++ L2)) (hs : M.Pairwise (fun x y => ¬ y.lt x)) : Neat ((P.set p []).set q M) a := by
  have h12 : (L1 ++ L2).Pairwise (fun x y => x.order ≠ y.order) := List.pairwise_append.2 ⟨h.apart hp, h.apart hq, fun x hx y hy ho => hne (h.own p q L1 L2 x y hp hq hx hy ho).1⟩
  have hM : M.Pairwise (fun x y => x.order ≠ y.order) := (hm.pairwise_iff (fun {x y} h => fun e => h e.symm)).2 h12
  have hr : Rises M := by
    refine List.Pairwise.imp (fun {x y} h => ?_) (List.pairwise_and_iff.2 ⟨hs, hM⟩)
    have h1 := h.1
    have h2 := h.2
    unfold Ent.lt at h1 ⊢
    omega
  have mem : ∀ x, x ∈ M → x ∈ L1 ∨ x ∈ L2 := fun x hx => List.mem_append.1 (hm.mem_iff.1 hx)
  have t1 : Tidy (P.set p []) a := h.tidy.set (Int.le_refl _) List.Pairwise.nil (fun x hx => by cases hx)
  refine ⟨t1.set (Int.le_refl _) hr (fun x hx => ?_), fun r s R S x y hr hs hx hy ho => ?_⟩
  · rcases mem x hx with hx | hx
    · exact h.tidy.lo p L1 hp x hx
    · exact h.tidy.lo q L2 hq x hx
  have old : ∀ r R x, ((P.set p []).set q M)[r]? = some R → x ∈ R → (r = q ∧ (x ∈ L1 ∨ x ∈ L2)) ∨ (r ≠ q ∧ r ≠ p ∧ P[r]? = some R) := fun r R x hr hx => by
    rcases set_at hr with ⟨rfl, rfl⟩ | ⟨h1, hr⟩
    · exact .inl ⟨rfl, mem x hx⟩
    · rcases set_at hr with ⟨rfl, rfl⟩ | ⟨h2, hr⟩
      · cases hx
      · exact .inr ⟨h1, h2, hr⟩
  have two : ∀ x y, (x ∈ L1 ∨ x ∈ L2) → (y ∈ L1 ∨ y ∈ L2) → x.order = y.order → x = y := fun x y hx hy ho => by
    rcases hx with hx | hx <;> rcases hy with hy | hy
    · exact (h.own p p L1 L1 x y hp hp hx hy ho).2
    · exact (h.own p q L1 L2 x y hp hq hx hy ho).2
    · exact (h.own q p L2 L1 x y hq hp hx hy ho).2
    · exact (h.own q q L2 L2 x y hq hq hx hy ho).2
  rcases old r R x hr hx with ⟨rfl, k⟩ | ⟨k1, k2, k3⟩
  · rcases old s S y hs hy with ⟨rfl, m⟩ | ⟨m1, m2, m3⟩
    · exact ⟨rfl, two x y k m ho⟩
    · rcases k with k | k
      · exact absurd (h.own p s L1 S x y hp m3 k hy ho).1.symm m2
      · exact absurd (h.own r s L2 S x y hq m3 k hy ho).1.symm m1
  · rcases old s S y hs hy with ⟨rfl, m⟩ | ⟨m1, m2, m3⟩
    · rcases m with m | m
      · exact absurd (h.own r p R L1 x y k3 hp hx m ho).1 k2
      · exact absurd (h.own r s R L2 x y k3 hq hx m ho).1 k1
    · exact h.own r s R S x y k3 m3 hx hy ho
theorem many_move (hp : P[p]? = some L1) (hq : P[q]? = some L2) (hne : p ≠ q) (hm : M.Perm (L1 ++ L2)) : many ((P.set p []).set q M) = many P := by
  have h1 := many_set (M := []) hp
  have h2 : (P.set p [])[q]? = some L2 := by rw [List.getElem?_set_ne hne]; exact hq
  have h3 := many_set (M := M) h2
  have h4 := hm.length_eq
  rw [List.length_append] at h4
  simp only [List.length_nil] at h1
  omega
theorem tl_move (h : Tl w0 w bt bp P a) (hp : P[p]? = some L1) (hq : P[q]? = some L2) (hne : p ≠ q) (hl : many P ≤ 2048) :
    Calls Try.prog 41 #[.pointer (some ⟨bt, 0, none⟩), .int .i64 (p : Int), .int .i64 (q : Int)] w fun e w' => e = .returned (.int .i64 0) ∧ ∃ M, M.Perm (L1 ++ L2) ∧ M.Pairwise (fun x y => ¬ y.lt x) ∧ Tl w0 w' bt bp ((P.set p []).set q M) a := by
  have l1 := many_at hp
  have l2 := many_at hq
  obtain ⟨F, lv, k, c, n⟩ := h
  refine (tmove_ok sort_is p q k hp hq hne (by omega)).mono fun e w' ⟨q1, M, m1, m2, F', lv', k', c', _, m⟩ => ⟨q1, M, m1, m2, F', lv', k', c.over c' (fun i hi => .inr (n i hi)), fun i hi => (m i hi).elim (n i) (Nat.le_trans c.size)⟩
theorem tl_self (h : Tl w0 w bt bp P a) (hp : p < P.length) : Calls Try.prog 41 #[.pointer (some ⟨bt, 0, none⟩), .int .i64 (p : Int), .int .i64 (p : Int)] w fun e w' => e = .returned (.int .i64 0) ∧ w = w' := by
  obtain ⟨F, lv, k, c, n⟩ := h
  exact tmove_self p k hp
end Go.Proofs.Ytaloafihbdamiaa
