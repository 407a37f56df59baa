/- The scheduler, plainly: what goroutines, processors and timers weigh. -/
import Derived.Test.YtaloafihbdamiaaGreatSO
namespace Go.Proofs.YtaloafihbdamiaaGreat
section
variable {φ : Int × Bool → Bool} {F : Int → Nat}
def bW (φ : Int × Bool → Bool) (F : Int → Nat) : Nat → List (Int × Bool) → Nat
  | _, [] => 0
  | k, s :: l => (if φ s then F (k : Int) else 0) + bW φ F (k + 1) l
theorem bW_set : ∀ (l : List (Int × Bool)) (k g : Nat) (s : Int × Bool), g < l.length →
    bW φ F k (l.set g s) + (if φ (l.getD g (0, false)) then F ((k + g : Nat) : Int) else 0) = bW φ F k l + (if φ s then F ((k + g : Nat) : Int) else 0)
  | [], _, _, _, h => absurd h (Nat.not_lt_zero _)
  | x :: l, k, 0, s, _ => by
    show (if φ s then F (k : Int) else 0) + bW φ F (k + 1) l + (if φ x then F (k : Int) else 0) = (if φ x then F (k : Int) else 0) + bW φ F (k + 1) l + (if φ s then F (k : Int) else 0)
    omega
  | x :: l, k, g + 1, s, h => by
    have ih := bW_set l (k + 1) g s (by simpa using h)
    rw [show k + 1 + g = k + (g + 1) by omega] at ih
    show (if φ x then F (k : Int) else 0) + bW φ F (k + 1) (l.set g s) + (if φ (l.getD g (0, false)) then F ((k + (g + 1) : Nat) : Int) else 0) = (if φ x then F (k : Int) else 0) + bW φ F (k + 1) l + (if φ s then F ((k + (g + 1) : Nat) : Int) else 0)
    omega
theorem bW_snoc : ∀ (l : List (Int × Bool)) (k : Nat) (s : Int × Bool), bW φ F k (l ++ [s]) = bW φ F k l + (if φ s then F ((k + l.length : Nat) : Int) else 0)
  | [], k, s => by show (if φ s then F (k : Int) else 0) + 0 = 0 + (if φ s then F (k : Int) else 0); omega
  | x :: l, k, s => by
    have ih := bW_snoc l (k + 1) s
    rw [show k + 1 + l.length = k + (l.length + 1) by omega] at ih
    show (if φ x then F (k : Int) else 0) + bW φ F (k + 1) (l ++ [s]) = (if φ x then F (k : Int) else 0) + bW φ F (k + 1) l + (if φ s then F ((k + (l.length + 1) : Nat) : Int) else 0)
    omega
theorem bW_le : ∀ (l : List (Int × Bool)) (k : Nat), bW φ (fun _ => 1) k l ≤ l.length
  | [], _ => Nat.le_refl _
  | x :: l, k => by
    have ih := bW_le l (k + 1)
    show (if φ x then 1 else 0) + bW φ (fun _ => 1) (k + 1) l ≤ l.length + 1
    split <;> omega
theorem bW_mem : ∀ (l : List (Int × Bool)) (k : Nat), bW φ F k l ≠ 0 → ∃ i, i < l.length ∧ φ (l.getD i (0, false)) = true ∧ F ((k + i : Nat) : Int) ≠ 0
  | [], _, h => absurd rfl h
  | x :: l, k, h => by
    have h : (if φ x then F (k : Int) else 0) + bW φ F (k + 1) l ≠ 0 := h
    by_cases c : bW φ F (k + 1) l = 0
    · refine ⟨0, Nat.succ_pos _, ?_, ?_⟩
      · show φ x = true
        by_cases d : φ x = true
        · exact d
        · rw [if_neg d] at h; omega
      · show F (k : Int) ≠ 0
        intro e
        rw [e] at h
        split at h <;> omega
    · obtain ⟨i, a, b, d⟩ := bW_mem l (k + 1) c
      exact ⟨i + 1, Nat.succ_lt_succ a, b, by rw [show k + (i + 1) = k + 1 + i by omega]; exact d⟩
theorem bW_at : ∀ (l : List (Int × Bool)) (k i : Nat), i < l.length → φ (l.getD i (0, false)) = true → F ((k + i : Nat) : Int) ≤ bW φ F k l
  | [], _, _, h, _ => absurd h (Nat.not_lt_zero _)
  | x :: l, k, 0, _, e => by
    show F (k : Int) ≤ (if φ x then F (k : Int) else 0) + bW φ F (k + 1) l
    rw [if_pos (show φ x = true from e)]; omega
  | x :: l, k, i + 1, h, e => by
    have ih := bW_at l (k + 1) i (by simpa using h) e
    rw [show k + 1 + i = k + (i + 1) by omega] at ih
    show _ ≤ (if φ x then F (k : Int) else 0) + bW φ F (k + 1) l
    omega
theorem bW_one (g : Int) : ∀ (l : List (Int × Bool)) (k : Nat), bW φ (one g) k l ≤ if (k : Int) ≤ g then 1 else 0
  | [], _ => Nat.zero_le _
  | x :: l, k => by
    have ih := bW_one g l (k + 1)
    show (if φ x then one g (k : Int) else 0) + bW φ (one g) (k + 1) l ≤ _
    unfold one at *
    by_cases e : (k : Int) = g
    · rw [if_pos e, if_pos (show (k : Int) ≤ g by omega)]
      rw [if_neg (by omega)] at ih
      split <;> omega
    · rw [if_neg e]
      by_cases c : (k : Int) ≤ g
      · rw [if_pos c]
        rw [if_pos (by omega)] at ih
        split <;> omega
      · rw [if_neg c]
        rw [if_neg (by omega)] at ih
        split <;> omega
end
section
variable {F : Int → Nat}
/-- What a processor's goroutine weighs; what all do. -/
def oW (F : Int → Nat) (c : Int × Int) : Nat := if c.1 = -1 then 0 else F c.1
def prW (F : Int → Nat) (pr : List (Int × Int)) : Nat := (pr.map (oW F)).sum
theorem prW_set {pr : List (Int × Int)} {p : Nat} (hp : p < pr.length) (c : Int × Int) : prW F (pr.set p c) + oW F (pr.getD p (-1, 0)) = prW F pr + oW F c := by
  unfold prW
  rw [List.map_set]
  have h := sum_set (pr.map (oW F)) p (oW F c) (by rw [List.length_map]; exact hp)
  rw [List.getElem_map] at h
  rw [show pr.getD p (-1, 0) = pr[p] by simp [List.getD, hp]]
  exact h
theorem prW_at {pr : List (Int × Int)} {p : Nat} (hp : p < pr.length) : oW F (pr.getD p (-1, 0)) ≤ prW F pr := by
  have := prW_set (F := F) hp (-1, 0)
  have e : oW F (-1, 0) = 0 := rfl
  omega
theorem prW_two {pr : List (Int × Int)} {p q : Nat} (hp : p < pr.length) (hq : q < pr.length) (hne : p ≠ q) : oW F (pr.getD p (-1, 0)) + oW F (pr.getD q (-1, 0)) ≤ prW F pr := by
  have h1 := prW_set (F := F) hp (-1, 0)
  have h2 := prW_at (F := F) (pr := pr.set p (-1, 0)) (p := q) (by rw [List.length_set]; exact hq)
  rw [getD_set _ _ _ _ _ hp, if_neg (fun e => hne e.symm)] at h2
  have e : oW F (-1, 0) = 0 := rfl
  omega
def lW (F : Int → Nat) (L : List Ent) : Nat := (L.map fun x => F x.id).sum
def tW (F : Int → Nat) (P : List (List Ent)) : Nat := (P.map (lW F)).sum
theorem tW_set {P : List (List Ent)} {p : Nat} (hp : p < P.length) (L : List Ent) : tW F (P.set p L) + lW F (P.getD p []) = tW F P + lW F L := by
  unfold tW
  rw [List.map_set]
  have h := sum_set (P.map (lW F)) p (lW F L) (by rw [List.length_map]; exact hp)
  rw [List.getElem_map] at h
  rw [show P.getD p [] = P[p] by simp [List.getD, hp]]
  exact h
theorem tW_at {P : List (List Ent)} {p : Nat} (hp : p < P.length) : lW F (P.getD p []) ≤ tW F P := by
  have := tW_set (F := F) hp []
  have e : lW F [] = 0 := rfl
  omega
theorem lW_perm {L M : List Ent} (h : L.Perm M) : lW F L = lW F M := (h.map _).sum_nat
theorem lW_app (L M : List Ent) : lW F (L ++ M) = lW F L + lW F M := by unfold lW; rw [List.map_append, List.sum_append]
theorem lW_mem {L : List Ent} {x : Ent} (h : x ∈ L) : F x.id ≤ lW F L := by
  induction L with
  | nil => cases h
  | cons y l ih =>
    show _ ≤ F y.id + lW F l
    rcases List.mem_cons.1 h with rfl | h
    · omega
    · have := ih h; omega
theorem sum_mem {l : List Int} {x : Int} (h : x ∈ l) : F x ≤ (l.map F).sum := by
  induction l with
  | nil => cases h
  | cons y l ih =>
    rw [List.map_cons, List.sum_cons]
    rcases List.mem_cons.1 h with rfl | h
    · omega
    · have := ih h; omega
theorem lW_due (L : List Ent) (now : Int) : ((dueIds L now).map F).sum + lW F (dueRest L now) = lW F L := by
  unfold dueIds dueRest
  induction L with
  | nil => rfl
  | cons x l ih =>
    rw [List.filter_cons, List.filter_cons]
    show _ = F x.id + lW F l
    by_cases h : x.when ≤ now
    · rw [if_pos (by simpa using h), if_neg (by simp; omega), List.map_cons, List.map_cons, List.sum_cons]; omega
    · rw [if_neg (by simpa using h), if_pos (by simp; omega)]
      show _ + (F x.id + lW F _) = _
      omega
theorem len_lW (L : List Ent) : L.length = lW (fun _ => 1) L := by
  induction L with
  | nil => rfl
  | cons x l ih =>
    show l.length + 1 = 1 + lW (fun _ => 1) l
    omega
theorem many_tW (P : List (List Ent)) : many P = tW (fun _ => 1) P := by
  unfold many tW
  congr 1
  exact List.map_congr_left fun L _ => len_lW L
theorem one_self (g : Int) : one g g = 1 := if_pos rfl
theorem one_ne {g x : Int} (h : one g x ≠ 0) : x = g := by
  unfold one at h
  by_cases e : x = g
  · exact e
  · rw [if_neg e] at h; exact absurd rfl h
end
/-- Each goroutine is in its place; l: those that a timer has let go, m: those that have been taken of a queue. -/
structure Wp (n : Nat) (X : Sx) (l m : List Int) : Prop where
  n1 : 1 ≤ n
  n8 : n ≤ 8
  lpr : X.pr.length = n
  lq : X.Q.1.length = n
  lp : X.P.length = n
  neat : Neat X.P X.a
  a0 : 0 ≤ X.a
  g64 : X.gs.length ≤ 64
  q : ∀ F : Int → Nat, wt F X.Q.1 X.Q.2 + prW F X.pr + (m.map F).sum = bW (fun s => decide (s.1 = 1)) F 0 X.gs
  t : ∀ F : Int → Nat, tW F X.P + (l.map F).sum = bW (fun s => decide (s = (2, true))) F 0 X.gs
  rn : ∀ p, 0 ≤ X.runs p
abbrev Wf (n : Nat) (X : Sx) : Prop := Wp n X [] []
section
variable {n : Nat} {X : Sx} {l m : List Int}
theorem bW_is {φ : Int × Bool → Bool} {g : Int} {gs : List (Int × Bool)} (h : bW φ (one g) 0 gs ≠ 0) : ∃ i : Nat, g = i ∧ i < gs.length ∧ φ (gs.getD i (0, false)) = true := by
  obtain ⟨i, a, b, c⟩ := bW_mem gs 0 h
  rw [Nat.zero_add] at c
  exact ⟨i, (one_ne c).symm, a, b⟩
theorem Wp.in_l (h : Wp n X l m) {g : Int} (hg : g ∈ l) : ∃ i : Nat, g = i ∧ i < X.gs.length ∧ X.gs.getD i (0, false) = (2, true) := by
  have h1 := h.t (one g)
  have h2 := sum_mem (F := one g) hg
  rw [one_self] at h2
  obtain ⟨i, a, b, c⟩ := bW_is (φ := fun s => decide (s = (2, true))) (g := g) (gs := X.gs) (by omega)
  exact ⟨i, a, b, by simpa using c⟩
theorem Wp.in_P (h : Wp n X l m) {p : Nat} {L : List Ent} (hp : X.P[p]? = some L) {x : Ent} (hx : x ∈ L) : ∃ i : Nat, x.id = i ∧ i < X.gs.length ∧ X.gs.getD i (0, false) = (2, true) := by
  have h1 := h.t (one x.id)
  have hl := (List.getElem?_eq_some_iff.1 hp).1
  have h2 := tW_at (F := one x.id) hl
  have h3 := lW_mem (F := one x.id) hx
  rw [one_self] at h3
  rw [show X.P.getD p [] = L by simp [List.getD, hp]] at h2
  obtain ⟨i, a, b, c⟩ := bW_is (φ := fun s => decide (s = (2, true))) (g := x.id) (gs := X.gs) (by omega)
  exact ⟨i, a, b, by simpa using c⟩
theorem Wp.in_m (h : Wp n X l m) {g : Int} (hg : g ∈ m) : ∃ i : Nat, g = i ∧ i < X.gs.length ∧ (X.gs.getD i (0, false)).1 = 1 := by
  have h1 := h.q (one g)
  have h2 := sum_mem (F := one g) hg
  rw [one_self] at h2
  obtain ⟨i, a, b, c⟩ := bW_is (φ := fun s => decide (s.1 = 1)) (g := g) (gs := X.gs) (by omega)
  exact ⟨i, a, b, by simpa using c⟩
theorem Wp.on (h : Wp n X l m) {p : Nat} (hp : p < n) (hn : X.on p ≠ -1) : ∃ i : Nat, X.on p = i ∧ i < X.gs.length ∧ (X.gs.getD i (0, false)).1 = 1 := by
  have h1 := h.q (one (X.on p))
  have h2 := prW_at (F := one (X.on p)) (pr := X.pr) (p := p) (by rw [h.lpr]; exact hp)
  have h3 : oW (one (X.on p)) (X.pr.getD p (-1, 0)) = 1 := by
    unfold oW
    rw [if_neg (show ¬ (X.pr.getD p (-1, 0)).1 = -1 from hn)]
    exact one_self _
  obtain ⟨i, a, b, c⟩ := bW_is (φ := fun s => decide (s.1 = 1)) (g := X.on p) (gs := X.gs) (by omega)
  exact ⟨i, a, b, by simpa using c⟩
/-- No goroutine is on two processors. -/
theorem Wp.apart (h : Wp n X l m) {p q : Nat} (hp : p < n) (hq : q < n) (hne : p ≠ q) (hn : X.on p ≠ -1) : X.on p ≠ X.on q := by
  intro e
  have h1 := h.q (one (X.on p))
  have h2 := prW_two (F := one (X.on p)) (pr := X.pr) (p := p) (q := q) (by rw [h.lpr]; exact hp) (by rw [h.lpr]; exact hq) hne
  have h3 : oW (one (X.on p)) (X.pr.getD p (-1, 0)) = 1 := by
    unfold oW; rw [if_neg (show ¬ (X.pr.getD p (-1, 0)).1 = -1 from hn)]; exact one_self _
  have h4 : oW (one (X.on p)) (X.pr.getD q (-1, 0)) = 1 := by
    unfold oW
    rw [if_neg (show ¬ (X.pr.getD q (-1, 0)).1 = -1 from fun c => hn (e.trans c))]
    show one (X.on p) (X.on q) = 1
    rw [← e]; exact one_self _
  have h5 := bW_one (φ := fun s => decide (s.1 = 1)) (X.on p) X.gs 0
  split at h5 <;> omega
theorem Wp.qle (h : Wp n X l m) : X.Q.2.length ≤ 64 := by
  have h1 := h.q (fun _ => 1)
  have h2 := len_wt (S := X.Q.1) (A := X.Q.2)
  have h3 := bW_le (φ := fun s => decide (s.1 = 1)) X.gs 0
  have := h.g64
  omega
theorem Wp.tle (h : Wp n X l m) : many X.P ≤ 64 := by
  have h1 := h.t (fun _ => 1)
  have h2 := many_tW X.P
  have h3 := bW_le (φ := fun s => decide (s = (2, true))) X.gs 0
  have := h.g64
  omega
theorem Wp.fine (h : Wp n X l m) : Fine 1000 X :=
  ⟨by rw [h.lpr]; exact h.n1, by rw [h.lq, h.lpr], by rw [h.lp, h.lpr], h.neat, h.tle, fun p L hp x hx => by
    obtain ⟨i, a, b, -⟩ := h.in_P hp hx
    omega, by have := h.qle; omega⟩
end
end Go.Proofs.YtaloafihbdamiaaGreat
