/- Timers: Due and Move, plainly, of the lists and of the one. -/
import Derived.Test.YtaloafihbdamiaaGreatUH
namespace Go.Proofs.YtaloafihbdamiaaGreat
variable {P : List (List Ent)} {X X' : List (Int × Ent)} {a now : Int} {L L' L1 L2 M : List Ent} {p q b k m : Nat} {e : Ent} {D D' : List Tm} {A : List Int}

theorem upto_unique (h1 : Upto L now k) (h2 : Upto L now m) : k = m := by
  by_cases c : k < m
  · have := h1.hi (by have := h2.le; omega)
    have := h2.lo k c
    omega
  · by_cases c2 : m < k
    · have := h2.hi (by have := h1.le; omega)
      have := h1.lo m c2
      omega
    · omega
theorem set_keep (hp : P[p]? = some L) : P.set p L = P := by
  apply List.ext_getElem?
  intro i
  rw [List.getElem?_set]
  by_cases e : p = i
  · subst e
    rw [if_pos rfl, if_pos (List.getElem?_eq_some_iff.1 hp).1, hp]
  · rw [if_neg e]
theorem drop_head (h : L.drop k = e :: L') : k < L.length ∧ L.getD k ⟨0, 0, 0⟩ = e ∧ L.drop (k + 1) = L' ∧ (L.take (k + 1)).map Ent.id = (L.take k).map Ent.id ++ [e.id] := by
  have hk : k < L.length := by
    by_cases c : k < L.length
    · exact c
    · rw [List.drop_eq_nil_of_le (by omega)] at h; cases h
  rw [List.drop_eq_getElem_cons hk] at h
  have h1 := (List.cons.inj h).1
  have h2 := (List.cons.inj h).2
  refine ⟨hk, ?_, h2, ?_⟩
  · simp [List.getD, hk, h1]
  · rw [List.take_add_one, List.getElem?_eq_getElem hk, List.map_append, h1]; rfl
theorem steps_match (h : Match P X a) (hp : P[p]? = some L) (hs : Steps (p : Int) now (X.map tmOf) A D') :
    ∃ k X', k ≤ L.length ∧ (∀ i, i < k → (L.getD i ⟨0, 0, 0⟩).when ≤ now) ∧ A = (L.take k).map Ent.id ∧ D' = X'.map tmOf ∧ Match (P.set p (L.drop k)) X' a := by
  have hpl := (List.getElem?_eq_some_iff.1 hp).1
  induction hs with
  | nil => exact ⟨0, X, Nat.zero_le _, fun i hi => absurd hi (Nat.not_lt_zero _), rfl, rfl, by rw [List.drop_zero, set_keep hp]; exact h⟩
  | next b hs hb hbl hw ih =>
    obtain ⟨k, X', h1, h2, rfl, rfl, h5⟩ := ih
    have hp1 : (P.set p (L.drop k))[p]? = some (L.drop k) := List.getElem?_set_self hpl
    cases hd : L.drop k with
    | nil =>
      rw [hd] at h5 hp1
      have := h5.none hp1
      rw [this] at hb
      omega
    | cons e L2 =>
      rw [hd] at h5 hp1
      obtain ⟨b', hb', hbl', hX⟩ := h5.first hp1
      have eb : b' = b := by rw [hb'] at hb; omega
      subst eb
      obtain ⟨k1, k2, k3, k4⟩ := drop_head hd
      rw [get_tm hbl', hX] at hw ⊢
      refine ⟨k + 1, X'.take b' ++ X'.drop (b' + 1), k1, fun i hi => ?_, k4.symm, ?_, ?_⟩
      · by_cases c : i = k
        · rw [c, k2]; exact hw
        · exact h2 i (by omega)
      · rw [List.map_append, List.map_take, List.map_drop]
      · rw [k3]
        have := h5.rem hp1 hbl' hX
        rwa [List.set_set] at this
theorem due_match (h : Match P X a) (hp : P[p]? = some L) (hu : Upto L now m) (hs : Steps (p : Int) now (X.map tmOf) A D') (hh : Halts (p : Int) now D') :
    A = (L.take m).map Ent.id ∧ ∃ X', D' = X'.map tmOf ∧ Match (P.set p (L.drop m)) X' a := by
  have hpl := (List.getElem?_eq_some_iff.1 hp).1
  obtain ⟨k, X', h1, h2, rfl, rfl, h5⟩ := steps_match h hp hs
  have hk : Upto L now k := by
    refine ⟨h1, h2, fun hlt => ?_⟩
    have hp1 : (P.set p (L.drop k))[p]? = some (L.drop k) := List.getElem?_set_self hpl
    cases hd : L.drop k with
    | nil => rw [List.drop_eq_getElem_cons hlt] at hd; cases hd
    | cons e L2 =>
      rw [hd] at h5 hp1
      obtain ⟨b', hb', hbl', hX⟩ := h5.first hp1
      obtain ⟨_, k2, _, _⟩ := drop_head hd
      rw [k2]
      rcases hh with hh | ⟨b, hb, hbl, hw⟩
      · rw [hh] at hb'; omega
      · have eb : b' = b := by rw [hb'] at hb; omega
        subst eb
        rw [get_tm hbl', hX] at hw
        exact hw
  obtain rfl := upto_unique hk hu
  exact ⟨rfl, X', rfl, h5⟩
/-- All of p's go to q. -/
def mvX (p q : Int) (x : Int × Ent) : Int × Ent := if x.1 = p then (q, x.2) else x
theorem mvX_snd (p q : Int) (x : Int × Ent) : (mvX p q x).2 = x.2 := by unfold mvX; split <;> rfl
theorem tm_mvX (p q : Int) (x : Int × Ent) : tmOf (mvX p q x) = mvT p q (tmOf x) := by
  unfold mvX mvT tmOf
  by_cases h : x.1 = p
  · rw [if_pos h, if_pos h]
  · rw [if_neg h, if_neg h]
theorem map_mvX (p q : Int) (X : List (Int × Ent)) : (X.map (mvX p q)).map tmOf = (X.map tmOf).map (mvT p q) := by
  rw [List.map_map, List.map_map]
  congr 1
  funext x
  exact tm_mvX p q x
theorem mvX_self (p : Int) (X : List (Int × Ent)) : X.map (mvX p p) = X := by
  conv => rhs; rw [← List.map_id X]
  congr 1
  funext x
  unfold mvX
  split
  · rename_i h; rw [← h]; rfl
  · rfl
theorem Match.move (h : Match P X a) (hp : P[p]? = some L1) (hq : P[q]? = some L2) (hne : p ≠ q) (hm : M.Perm (L1 ++ L2)) (hs : M.Pairwise (fun x y => ¬ y.lt x)) : Match ((P.set p []).set q M) (X.map (mvX p q)) a := by
  have hql := (List.getElem?_eq_some_iff.1 hq).1
  have hmem : ∀ (r : Nat) (e : Ent), ((r : Int), e) ∈ X.map (mvX p q) ↔ (r ≠ p ∧ ((r : Int), e) ∈ X) ∨ (r = q ∧ ((p : Int), e) ∈ X) := fun r e => by
    rw [List.mem_map]
    constructor
    · rintro ⟨x, hx, hxe⟩
      unfold mvX at hxe
      split at hxe
      · rename_i h
        have h1 : (q : Int) = (r : Int) := (Prod.ext_iff.1 hxe).1
        have h2 : x.2 = e := (Prod.ext_iff.1 hxe).2
        refine .inr ⟨by omega, ?_⟩
        rw [← h, ← h2]; exact hx
      · rename_i h
        rw [hxe] at h hx
        exact .inl ⟨fun c => h (by rw [c]), hx⟩
    · rintro (⟨h1, h2⟩ | ⟨rfl, h2⟩)
      · refine ⟨_, h2, ?_⟩
        unfold mvX
        rw [if_neg (by show ¬ (r : Int) = (p : Int); omega)]
      · refine ⟨_, h2, ?_⟩
        unfold mvX
        rw [if_pos rfl]
  refine ⟨h.neat.move hp hq hne hm hs, ?_, fun x hx => ?_, fun x hx => ?_, fun r R e hr => ?_, ?_⟩
  · rw [List.pairwise_map]
    refine h.up.imp fun {x y} h => ?_
    rw [mvX_snd, mvX_snd]; exact h
  · obtain ⟨y, hy, rfl⟩ := List.mem_map.1 hx
    rw [mvX_snd]; exact h.lo y hy
  · obtain ⟨y, hy, rfl⟩ := List.mem_map.1 hx
    rw [List.length_set, List.length_set]
    unfold mvX
    split
    · show (0 : Int) ≤ (q : Int) ∧ (q : Int) < _; omega
    · exact h.pr y hy
  · rw [hmem]
    rcases set_at hr with ⟨rfl, rfl⟩ | ⟨h1, hr⟩
    · rw [hm.mem_iff, List.mem_append, h.mem p L1 e hp, h.mem r L2 e hq]
      constructor
      · rintro (c | c)
        · exact .inr ⟨rfl, c⟩
        · exact .inl ⟨fun e => hne e.symm, c⟩
      · rintro (c | c)
        · exact .inr c.2
        · exact .inl c.2
    · rcases set_at hr with ⟨rfl, rfl⟩ | ⟨h2, hr⟩
      · constructor
        · intro c; cases c
        · rintro (c | c)
          · exact absurd rfl c.1
          · exact absurd c.1 h1
      · rw [h.mem r R e hr]
        constructor
        · exact fun c => .inl ⟨h2, c⟩
        · rintro (c | c)
          · exact c.2
          · exact absurd c.1 h1
  · rw [many_move hp hq hne hm, List.length_map]; exact h.cnt
theorem match_new (n : Nat) : Match (List.replicate n []) [] 0 := by
  refine ⟨neat_new n, List.Pairwise.nil, (fun x hx => by cases hx), (fun x hx => by cases hx), fun q M y hq => ?_, ?_⟩
  · rw [List.getElem?_replicate] at hq
    split at hq
    · cases hq; constructor <;> intro c <;> cases c
    · cases hq
  · induction n with
    | zero => rfl
    | succ n ih => unfold many at ih ⊢; rw [List.replicate_succ, List.map_cons, List.sum_cons, ih]; rfl
end Go.Proofs.YtaloafihbdamiaaGreat
