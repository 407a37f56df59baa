/- QueueAll, plainly: whatever is weighed, nothing is lost. -/
import Derived.Test.YtaloafihbdamiaaZA
namespace Go.Proofs.Ytaloafihbdamiaa
open Go.ChangeShapes Go.WideShapes Go.ChangeAt Go.RowKit
variable {S : List Prc} {A L N : List Int} {p v f : Nat} {x y g : Int} {F : Int → Nat}

/-- What a processor's numbers weigh; what all do. -/
def pw (F : Int → Nat) (x : Prc) : Nat := (if x.1 = -1 then 0 else F x.1) + (x.2.map F).sum
def wt (F : Int → Nat) (S : List Prc) (A : List Int) : Nat := (A.map F).sum + (S.map (pw F)).sum
theorem wt_set (hp : S[p]? = some (y, L)) (x : Int) (N : List Int) (A' : List Int) : wt F (S.set p (x, N)) A' + pw F (y, L) + (A.map F).sum = wt F S A + pw F (x, N) + (A'.map F).sum := by
  have hl := get_lt hp
  unfold wt
  rw [List.map_set]
  have h2 : p < (S.map (pw F)).length := by rw [List.length_map]; exact hl
  have := sum_set (S.map (pw F)) p (pw F (x, N)) h2
  have e : (S.map (pw F))[p] = pw F (y, L) := by
    rw [List.getElem_map]
    have := Option.some.inj ((List.getElem?_eq_getElem hl).symm.trans hp)
    rw [this]
  rw [e] at this
  omega
theorem pw_none (F : Int → Nat) (L : List Int) : pw F (-1, L) = (L.map F).sum := by simp [pw]
theorem pw_some (F : Int → Nat) (L : List Int) (h : x ≠ -1) : pw F (x, L) = F x + (L.map F).sum := by simp [pw, h]
theorem sum_split (F : Int → Nat) (L : List Int) (k : Nat) : (L.map F).sum = ((L.take k).map F).sum + ((L.drop k).map F).sum := by
  conv => lhs; rw [← List.take_append_drop k L]
  rw [List.map_append, List.sum_append]
theorem wt_put (hp : p < S.length) (hg : 0 ≤ g) : wt F (putS S A p g).1 (putS S A p g).2 = wt F S A + F g := by
  have hpx := D_get hp
  unfold putS
  generalize S.getD p (-1, []) = u at *
  obtain ⟨x, L⟩ := u
  dsimp only
  have hgn : g ≠ -1 := by omega
  split
  · rename_i hx
    have hx : x = -1 := hx
    subst hx
    have := wt_set (F := F) (A := A) hpx g L A
    rw [pw_none, pw_some _ _ hgn] at this
    dsimp only
    omega
  · rename_i hx
    have hx : x ≠ -1 := hx
    split
    · have := wt_set (F := F) (A := A) hpx g (L ++ [x]) A
      rw [pw_some _ _ hx, pw_some _ _ hgn, List.map_append, List.sum_append] at this
      simp only [List.map_cons, List.map_nil, List.sum_cons, List.sum_nil] at this
      dsimp only
      omega
    · have := wt_set (F := F) (A := A) hpx g (L.drop 4) (A ++ (L.take 4 ++ [x]))
      rw [pw_some _ _ hx, pw_some _ _ hgn, List.map_append, List.sum_append, List.map_append, List.sum_append] at this
      simp only [List.map_cons, List.map_nil, List.sum_cons, List.sum_nil] at this
      have h4 := sum_split F L 4
      dsimp only
      omega
theorem wt_last : wt F S (A ++ [g]) = wt F S A + F g := by
  unfold wt
  rw [List.map_append, List.sum_append]
  simp
  omega
theorem sum_zero {l : List Nat} (h : ∀ x ∈ l, x = 0) : l.sum = 0 := by
  induction l with
  | nil => rfl
  | cons a l ih => rw [List.sum_cons, h a (by simp), ih (fun x hx => h x (by simp [hx]))]
/-- Get, weighed. -/
theorem wt_take (hp : S[p]? = some (-1, [])) (hv : v < S.length) (hne : v ≠ p) (hc : cnt (S.getD v (-1, [])) ≠ 0) : (takeFrom S p v).1.2 = true ∧ wt F S A = wt F (takeFrom S p v).2 A + F (takeFrom S p v).1.1 := by
  have hvx := D_get hv
  generalize hu : S.getD v (-1, []) = u at *
  obtain ⟨y, L⟩ := u
  cases L with
  | nil =>
    have hy : y ≠ -1 := fun e => by subst e; simp [cnt] at hc
    rw [take_one hvx]
    have := wt_set (F := F) (A := A) hvx (-1) [] A
    rw [pw_none, pw_some _ _ hy] at this
    simp only [List.map_nil, List.sum_nil] at this
    exact ⟨rfl, by dsimp only; omega⟩
  | cons g X =>
    rw [take_half hvx hp]
    have e1 := wt_set (F := F) (A := A) hvx y (X.drop (X.length / 2)) A
    have hp2 : (S.set v (y, X.drop (X.length / 2)))[p]? = some (-1, []) := by rw [List.getElem?_set_ne hne]; exact hp
    have e2 := wt_set (F := F) (A := A) hp2 (-1) (X.take (X.length / 2)) A
    rw [pw_none, pw_none] at e2
    have h4 := sum_split F X (X.length / 2)
    unfold pw at e1
    simp only [List.map_cons, List.sum_cons, List.map_nil, List.sum_nil] at e1 e2
    exact ⟨rfl, by dsimp only; omega⟩
theorem find_all {k : Nat} (hf : f < k) (hv : v < k) : ∃ m, m < k ∧ (f + m) % k = v := by
  refine ⟨(v + k - f) % k, Nat.mod_lt _ (by omega), ?_⟩
  rw [Nat.add_mod_mod, show f + (v + k - f) = v + k by omega, Nat.add_mod_right, Nat.mod_eq_of_lt hv]
theorem wt_get (hp : p < S.length) (hf : f < S.length) : ((getS S A p f).1.2 = true ∧ wt F S A = wt F (getS S A p f).2.1 (getS S A p f).2.2 + F (getS S A p f).1.1) ∨ ((getS S A p f).1 = (0, false) ∧ (getS S A p f).2 = (S, A) ∧ wt F S A = 0) := by
  have hpx := D_get hp
  generalize S.getD p (-1, []) = u at *
  obtain ⟨x, L⟩ := u
  by_cases hx : x = -1
  · subst hx
    cases L with
    | cons g l =>
      left
      rw [get_own hpx]
      have := wt_set (F := F) (A := A) hpx (-1) l A
      rw [pw_none, pw_none] at this
      simp only [List.map_cons, List.sum_cons] at this
      exact ⟨rfl, by dsimp only; omega⟩
    | nil =>
      cases A with
      | cons g A =>
        left
        rw [get_all hpx]
        unfold wt
        simp only [List.map_cons, List.sum_cons]
        exact ⟨trivial, by omega⟩
      | nil =>
        rw [get_steal hpx]
        unfold stealS
        split
        · rename_i hno
          right
          refine ⟨rfl, rfl, ?_⟩
          rw [List.find?_eq_none] at hno
          unfold wt
          rw [List.map_nil, List.sum_nil, Nat.zero_add]
          refine sum_zero fun y hy => ?_
          obtain ⟨u, hu, rfl⟩ := List.mem_map.1 hy
          obtain ⟨v, hv, rfl⟩ := List.mem_iff_getElem.1 hu
          by_cases e : v = p
          · subst e
            have := Option.some.inj ((List.getElem?_eq_getElem hv).symm.trans hpx)
            rw [this, pw_none]; rfl
          · obtain ⟨m, hm, hm2⟩ := find_all hf hv
            have := hno m (List.mem_range.2 hm)
            rw [hm2] at this
            unfold vic at this
            rw [get_D (List.getElem?_eq_getElem hv)] at this
            simp [e] at this
            generalize S[v] = u at *
            obtain ⟨a, l⟩ := u
            unfold cnt at this
            dsimp only at this
            split at this
            · rename_i ha
              subst ha
              have hl : l = [] := List.eq_nil_of_length_eq_zero this
              subst hl
              rfl
            · omega
        · rename_i i hi
          left
          have hv := List.find?_some hi
          unfold vic at hv
          simp at hv
          exact wt_take hpx (Nat.mod_lt _ (by omega)) hv.1 hv.2
  · left
    rw [get_next hpx hx]
    have := wt_set (F := F) (A := A) hpx (-1) L A
    rw [pw_none, pw_some _ _ hx] at this
    exact ⟨rfl, by dsimp only; omega⟩
theorem sum_le {l : List Int} {F : Int → Nat} (h : (l.map fun _ => 1).sum = 0) : (l.map F).sum = 0 := by
  cases l with
  | nil => rfl
  | cons a l => simp at h
theorem wt_zero (h : wt (fun _ => 1) S A = 0) : wt F S A = 0 := by
  unfold wt at h ⊢
  rw [sum_le (F := F) (by omega), Nat.zero_add]
  have h2 : (S.map (pw fun _ => 1)).sum = 0 := by omega
  clear h
  induction S with
  | nil => rfl
  | cons u S ih =>
    rw [List.map_cons, List.sum_cons] at h2 ⊢
    rw [ih (by omega), Nat.add_zero]
    obtain ⟨a, l⟩ := u
    have h3 : pw (fun _ => 1) (a, l) = 0 := by omega
    unfold pw at h3 ⊢
    dsimp only at h3 ⊢
    rw [sum_le (F := F) (by omega)]
    by_cases e : a = -1
    · rw [if_pos e]
    · rw [if_neg e] at h3; omega
theorem len_wt : A.length ≤ wt (fun _ => 1) S A := by
  unfold wt
  have : (A.map fun _ : Int => 1).sum = A.length := by
    induction A with
    | nil => rfl
    | cons a l ih => rw [List.map_cons, List.sum_cons, ih, List.length_cons]; omega
  omega

/-- One number's weight. -/
def one (n : Int) : Int → Nat := fun x => if x = n then 1 else 0
/-- Of each number that was put, one: seen, or still in the queues. -/
structure Inv (g : Nat) (sn : Nat → Nat) (S : List Prc) (A : List Int) (out : Nat) : Prop where
  occ : ∀ n : Nat, sn n + wt (one (n : Int)) S A = if n < g then 1 else 0
  neg : ∀ n : Int, n < 0 → wt (one n) S A = 0
  tot : wt (fun _ => 1) S A + out = g
theorem Inv.add {sn : Nat → Nat} {out k : Nat} {S' : List Prc} {A' : List Int} (h : Inv k sn S A out) (hw : ∀ F : Int → Nat, wt F S' A' = wt F S A + F (k : Int)) : Inv (k + 1) sn S' A' out := by
  refine ⟨fun n => ?_, fun n hn => ?_, ?_⟩
  · have := h.occ n
    rw [hw]
    unfold one at *
    by_cases e : n = k
    · subst e; rw [if_pos rfl, if_pos (by omega)]; rw [if_neg (by omega)] at this; omega
    · rw [if_neg (show ¬ (k : Int) = (n : Int) by omega)]
      by_cases c : n < k
      · rw [if_pos c] at this; rw [if_pos (by omega)]; omega
      · rw [if_neg c] at this; rw [if_neg (by omega)]; omega
  · have := h.neg n hn
    rw [hw]
    unfold one at *
    rw [if_neg (by omega)]; omega
  · have := h.tot
    rw [hw]; omega
theorem Inv.take {sn : Nat → Nat} {out k : Nat} {S' : List Prc} {A' : List Int} (h : Inv k sn S A out) (hw : ∀ F : Int → Nat, wt F S A = wt F S' A' + F x) : ∃ n : Nat, x = (n : Int) ∧ n < k ∧ sn n = 0 ∧ out < k ∧ Inv k (fun i => if i = n then 1 else sn i) S' A' (out + 1) := by
  have hx : 0 ≤ x := by
    by_cases c : 0 ≤ x
    · exact c
    · have a := h.neg x (by omega)
      have b := hw (one x)
      unfold one at a b
      rw [if_pos rfl] at b
      omega
  obtain ⟨n, rfl⟩ : ∃ n : Nat, x = (n : Int) := ⟨x.toNat, by omega⟩
  have a := h.occ n
  have b := hw (one (n : Int))
  have t := h.tot
  have t2 := hw (fun _ => 1)
  have e1 : one (n : Int) (n : Int) = 1 := if_pos rfl
  rw [e1] at b
  have hk : n < k := by
    by_cases c : n < k
    · exact c
    · rw [if_neg c] at a; omega
  rw [if_pos hk] at a
  refine ⟨n, rfl, hk, by omega, by omega, fun m => ?_, fun m hm => ?_, by omega⟩
  · have am := h.occ m
    have bm := hw (one (m : Int))
    try dsimp only
    by_cases e : m = n
    · subst e; rw [if_pos rfl, if_pos hk]; omega
    · have e2 : one (m : Int) (n : Int) = 0 := if_neg (by omega)
      rw [if_neg e]
      rw [e2] at bm
      omega
  · have am := h.neg m hm
    have bm := hw (one m)
    omega
theorem inv_ini (n : Nat) : Inv 0 (fun _ => 0) (List.replicate n (-1, [])) [] 0 := by
  have e : ∀ F : Int → Nat, wt F (List.replicate n (-1, [])) [] = 0 := fun F => by
    unfold wt
    rw [List.map_replicate, pw_none]
    simp
  exact ⟨fun n => by rw [e]; rfl, fun _ _ => e _, by rw [e]⟩
end Go.Proofs.Ytaloafihbdamiaa
