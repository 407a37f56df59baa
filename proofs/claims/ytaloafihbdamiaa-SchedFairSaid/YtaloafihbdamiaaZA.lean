/- Queues, plainly: what is good stays good; how many there are. -/
import Derived.Test.YtaloafihbdamiaaK
namespace Go.Proofs.Ytaloafihbdamiaa
open Go.ChangeShapes Go.WideShapes Go.ChangeAt Go.RowKit
variable {S : List Prc} {A L N : List Int} {p v f : Nat} {x y g : Int}

def lens (S : List Prc) : Nat := (S.map fun x => x.2.length).sum
theorem sum_set : ∀ (l : List Nat) (i n : Nat) (h : i < l.length), (l.set i n).sum + l[i] = l.sum + n
  | a :: l, 0, n, _ => by simp; omega
  | a :: l, i + 1, n, h => by
    have := sum_set l i n (by simpa using h)
    simp only [List.set_cons_succ, List.sum_cons, List.getElem_cons_succ]
    omega
theorem lens_set (hp : S[p]? = some (y, L)) (x : Int) (N : List Int) : lens (S.set p (x, N)) + L.length = lens S + N.length := by
  have hl := get_lt hp
  unfold lens
  rw [List.map_set]
  have h2 : p < (S.map fun x : Prc => x.2.length).length := by rw [List.length_map]; exact hl
  have := sum_set (S.map fun x : Prc => x.2.length) p N.length h2
  have e : (S.map fun x : Prc => x.2.length)[p] = L.length := by
    rw [List.getElem_map]
    have := Option.some.inj ((List.getElem?_eq_getElem hl).symm.trans hp)
    rw [this]
  rw [e] at this
  exact this
/-- Queues as they should be, with no more than n numbers. -/
structure Good (n : Nat) (S : List Prc) (A : List Int) : Prop where
  nx : ∀ (p : Nat) (x : Prc), S[p]? = some x → x.1 = -1 ∨ 0 ≤ x.1
  ln : ∀ (p : Nat) (x : Prc), S[p]? = some x → x.2.length ≤ 8
  sum : A.length + lens S ≤ n
theorem Good.set {n m : Nat} (h : Good n S A) (hx : x = -1 ∨ 0 ≤ x) (hN : N.length ≤ 8) {A' : List Int} (hs : A'.length + lens (S.set p (x, N)) ≤ m) : Good m (S.set p (x, N)) A' := by
  refine ⟨fun q u hu => ?_, fun q u hu => ?_, hs⟩
  · by_cases e : q = p
    · subst e
      have hl : q < S.length := by have := get_lt hu; rwa [set_len] at this
      rw [List.getElem?_set_self hl] at hu
      obtain rfl := Option.some.inj hu
      exact hx
    · rw [List.getElem?_set_ne (Ne.symm e)] at hu
      exact h.nx q u hu
  · by_cases e : q = p
    · subst e
      have hl : q < S.length := by have := get_lt hu; rwa [set_len] at this
      rw [List.getElem?_set_self hl] at hu
      obtain rfl := Option.some.inj hu
      exact hN
    · rw [List.getElem?_set_ne (Ne.symm e)] at hu
      exact h.ln q u hu
theorem Good.put {n : Nat} (h : Good n S A) (hp : p < S.length) (hg : 0 ≤ g) : Good (n + 1) (putS S A p g).1 (putS S A p g).2 := by
  have hpx := D_get hp
  unfold putS
  generalize S.getD p (-1, []) = u at *
  obtain ⟨x, L⟩ := u
  dsimp only
  have hs := h.sum
  have hl := h.ln p _ hpx
  dsimp only at hl
  split
  · have := lens_set hpx g L
    dsimp only
    exact h.set (.inr hg) hl (by omega)
  · split
    · have := lens_set hpx g (L ++ [x])
      rw [List.length_append, List.length_singleton] at this
      dsimp only
      exact h.set (.inr hg) (by rw [List.length_append, List.length_singleton]; omega) (by omega)
    · have := lens_set hpx g (L.drop 4)
      rw [List.length_drop] at this
      dsimp only
      refine h.set (.inr hg) (by rw [List.length_drop]; omega) ?_
      rw [List.length_append, List.length_append, List.length_take, List.length_singleton]
      omega
theorem Good.last {n : Nat} (h : Good n S A) (g : Int) : Good (n + 1) S (A ++ [g]) := ⟨h.nx, h.ln, by rw [List.length_append, List.length_singleton]; have := h.sum; omega⟩
theorem Good.more {n m : Nat} (h : Good n S A) (hm : n ≤ m) : Good m S A := ⟨h.nx, h.ln, Nat.le_trans h.sum hm⟩
theorem Good.take {n : Nat} (h : Good n S A) (hp : S[p]? = some (-1, [])) (hv : v < S.length) (hne : v ≠ p) : Good n (takeFrom S p v).2 A := by
  have hvx := D_get hv
  have hl := h.ln v _ hvx
  generalize hu : S.getD v (-1, []) = u at *
  obtain ⟨y, L⟩ := u
  have hs := h.sum
  cases L with
  | nil =>
    rw [take_one hvx]
    have := lens_set hvx (-1) []
    simp only [List.length_nil] at this
    dsimp only
    exact h.set (.inl rfl) (by simp) (by omega)
  | cons g X =>
    rw [take_half hvx hp]
    simp only [List.length_cons] at hl
    have e1 := lens_set hvx y (X.drop (X.length / 2))
    rw [List.length_drop, List.length_cons] at e1
    have h1 : Good n (S.set v (y, X.drop (X.length / 2))) A := h.set (by have := h.nx v _ hvx; exact this) (by rw [List.length_drop]; omega) (by omega)
    have hp2 : (S.set v (y, X.drop (X.length / 2)))[p]? = some (-1, []) := by rw [List.getElem?_set_ne hne]; exact hp
    have e2 := lens_set hp2 (-1) (X.take (X.length / 2))
    rw [List.length_take, List.length_nil] at e2
    dsimp only
    exact h1.set (.inl rfl) (by rw [List.length_take]; omega) (by omega)
theorem Good.steal {n : Nat} (h : Good n S A) (hp : S[p]? = some (-1, [])) (h1 : 1 ≤ S.length) (f : Nat) : Good n (stealS S p f).2 A := by
  unfold stealS
  split
  · exact h
  · rename_i i hi
    have hv := List.find?_some hi
    refine h.take hp (Nat.mod_lt _ (by omega)) ?_
    unfold vic at hv
    simp at hv
    exact hv.1
theorem Good.get {n : Nat} (h : Good n S A) (hp : p < S.length) (f : Nat) : Good n (getS S A p f).2.1 (getS S A p f).2.2 := by
  have hpx := D_get hp
  generalize S.getD p (-1, []) = u at *
  obtain ⟨x, L⟩ := u
  have hs := h.sum
  have hl := h.ln p _ hpx
  by_cases hx : x = -1
  · subst hx
    cases L with
    | cons g l =>
      rw [get_own hpx]
      have := lens_set hpx (-1) l
      simp only [List.length_cons] at this hl
      dsimp only
      exact h.set (.inl rfl) (by omega) (by omega)
    | nil =>
      cases A with
      | cons g A => rw [get_all hpx]; exact ⟨h.nx, h.ln, by simp only [List.length_cons] at hs; dsimp only; omega⟩
      | nil => rw [get_steal hpx]; exact h.steal hpx (by omega) f
  · rw [get_next hpx hx]
    have := lens_set hpx (-1) L
    dsimp only
    exact h.set (N := L) (.inl rfl) hl (by omega)
theorem take_len (S : List Prc) (p v : Nat) : (takeFrom S p v).2.length = S.length := by
  unfold takeFrom
  split
  · exact set_len ..
  · dsimp only; rw [set_len, set_len]
theorem steal_len (S : List Prc) (p f : Nat) : (stealS S p f).2.length = S.length := by
  unfold stealS
  split
  · rfl
  · exact take_len ..
theorem getS_len (S : List Prc) (A : List Int) (p f : Nat) : (getS S A p f).2.1.length = S.length := by
  unfold getS
  split
  · split
    · exact set_len ..
    · split
      · rfl
      · exact steal_len ..
  · exact set_len ..
theorem good_ini (n : Nat) : Good 0 (List.replicate n (-1, [])) [] := by
  refine ⟨fun p x hx => ?_, fun p x hx => ?_, ?_⟩
  · rw [List.getElem?_replicate] at hx
    split at hx
    · obtain rfl := Option.some.inj hx; exact .inl rfl
    · cases hx
  · rw [List.getElem?_replicate] at hx
    split at hx
    · obtain rfl := Option.some.inj hx; simp
    · cases hx
  · simp [lens]
end Go.Proofs.Ytaloafihbdamiaa
