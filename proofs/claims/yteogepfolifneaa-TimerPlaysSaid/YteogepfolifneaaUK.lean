/- TimerPlays: Move, Next, Count beside one another; New. -/
import Derived.Test.YteogepfolifneaaUJ
namespace Go.Proofs.Yteogepfolifneaa.Tp
open Go.ChangeShapes Go.WideShapes Go.ChangeAt Go.RowKit
variable {w0 w w' W : World} {F U : Nat → Prop} {bt bp bd gb n : Nat} {P P' Q : List (List Ent)} {X X' : List (Int × Ent)} {a a' b : Int} {cs : Array Value} {v l : Value} {A A' : List Int} {D' : List Tm}

open Classical in
noncomputable def movR (P : List (List Ent)) (p q : Int) : Int := if Bad P p ∨ Bad P q then 1 else 0
open Classical in
noncomputable def movX (P : List (List Ent)) (X : List (Int × Ent)) (p q : Int) : List (Int × Ent) := if Bad P p ∨ Bad P q then X else X.map (mvX p q)
theorem p31 (h : Both w0 w bt bp bd n gb cs P X a) (M : Match P X a) (hm : many P ≤ 1024) (p q : Int) :
    Calls Try.prog 31 #[.pointer (some ⟨bt, 0, none⟩), .int .i64 p, .int .i64 q] w fun e w' => e = .returned (.int .i64 (movR P p q)) ∧ ∃ P', (Match P' (movX P X p q) a ∧ many P' ≤ 1024 ∧ P'.length = P.length) ∧ Both w0 w' bt bp bd n gb cs P' X a := by
  obtain ⟨F, U, T, B⟩ := h
  obtain ⟨lv, k⟩ := T.q
  by_cases hb : Bad P p
  · have e1 : movR P p q = 1 := if_pos (.inl hb)
    have e2 : movX P X p q = X := if_pos (.inl hb)
    rw [e1, e2]
    exact (tmove_bad1 p q k hb).mono fun e w' ⟨q1, q2⟩ => ⟨q1, P, ⟨M, hm, rfl⟩, by rw [← q2]; exact ⟨F, U, T, B⟩⟩
  · obtain ⟨r, L1, rfl, hr, hL1⟩ := good_at hb
    by_cases hb2 : Bad P q
    · have e1 : movR P (r : Int) q = 1 := if_pos (.inr hb2)
      have e2 : movX P X (r : Int) q = X := if_pos (.inr hb2)
      rw [e1, e2]
      exact (tmove_bad r q k hr hb2).mono fun e w' ⟨q1, q2⟩ => ⟨q1, P, ⟨M, hm, rfl⟩, by rw [← q2]; exact ⟨F, U, T, B⟩⟩
    · obtain ⟨s, L2, rfl, hs, hL2⟩ := good_at hb2
      have e1 : movR P (r : Int) (s : Int) = 0 := if_neg (fun c => c.elim hb hb2)
      have e2 : movX P X (r : Int) (s : Int) = X.map (mvX r s) := if_neg (fun c => c.elim hb hb2)
      rw [e1, e2]
      by_cases hrs : r = s
      · subst hrs
        rw [mvX_self]
        exact (tmove_self r k hr).mono fun e w' ⟨q1, q2⟩ => ⟨q1, P, ⟨M, hm, rfl⟩, by rw [← q2]; exact ⟨F, U, T, B⟩⟩
      · have l1 := many_at hL1
        have l2 := many_at hL2
        refine (tmove_ok sort_is r s k hL1 hL2 hrs (by omega)).mono fun e w' ⟨q1, Mg, m1, m2, F', lv', k', c', _, m⟩ => ⟨q1, (P.set r []).set s Mg, ⟨M.move hL1 hL2 hrs m1 m2, by rw [many_move hL1 hL2 hrs m1]; exact hm, by rw [List.length_set, List.length_set]⟩, ?_⟩
        obtain ⟨k1, k2⟩ := T.left B (by rw [List.length_set, List.length_set]) k' c' m
        exact ⟨F', U, k1, k2⟩
theorem p32 (h : Both w0 w bt bp bd n gb cs Q X b) (hn : P.length = n) (hl : X.length ≤ 1024) (p q : Int) :
    Calls Try.prog 32 #[.pointer (some ⟨bd, 0, none⟩), .int .i64 p, .int .i64 q] w fun e w' => e = .returned (.int .i64 (movR P p q)) ∧ Both w0 w' bt bp bd n gb cs Q (movX P X p q) b := by
  obtain ⟨F, U, T, B⟩ := h
  obtain ⟨u, r⟩ := T.r
  by_cases hb : Bad P p
  · have e1 : movR P p q = 1 := if_pos (.inl hb)
    have e2 : movX P X p q = X := if_pos (.inl hb)
    rw [e1, e2]
    exact (dmove_bad1 p q r (by unfold Bad at hb; omega)).mono fun e w' ⟨q1, q2⟩ => ⟨q1, by rw [← q2]; exact ⟨F, U, T, B⟩⟩
  · have hp : 0 ≤ p ∧ p < (n : Int) := by unfold Bad at hb; omega
    by_cases hb2 : Bad P q
    · have e1 : movR P p q = 1 := if_pos (.inr hb2)
      have e2 : movX P X p q = X := if_pos (.inr hb2)
      rw [e1, e2]
      exact (dmove_bad2 p q r hp.1 hp.2 (by unfold Bad at hb2; omega)).mono fun e w' ⟨q1, q2⟩ => ⟨q1, by rw [← q2]; exact ⟨F, U, T, B⟩⟩
    · have hq : 0 ≤ q ∧ q < (n : Int) := by unfold Bad at hb2; omega
      have e1 : movR P p q = 0 := if_neg (fun c => c.elim hb hb2)
      have e2 : movX P X p q = X.map (mvX p q) := if_neg (fun c => c.elim hb hb2)
      rw [e1, e2]
      refine (dmove_ok p q r hp.1 hp.2 hq.1 hq.2 (by rw [List.length_map]; exact hl)).mono fun e w' ⟨q1, r', c⟩ => ⟨q1, ?_⟩
      rw [← map_mvX] at r'
      obtain ⟨k1, k2⟩ := T.right B r' c (fun i hi => .inl hi)
      exact ⟨F, U, k1, k2⟩
/-- What Next answers. -/
def NextR (P : List (List Ent)) (p t : Int) (b : Bool) : Prop :=
  (Bad P p ∧ t = 0 ∧ b = false) ∨ ∃ (q : Nat) (L : List Ent), p = (q : Int) ∧ P[q]? = some L ∧ ((L = [] ∧ t = 0 ∧ b = false) ∨ ∃ y L', L = y :: L' ∧ t = y.when ∧ b = true)
theorem next_ex (P : List (List Ent)) (p : Int) : ∃ t b, NextR P p t b := by
  by_cases hb : Bad P p
  · exact ⟨0, false, .inl ⟨hb, rfl, rfl⟩⟩
  · obtain ⟨q, L, rfl, _, hL⟩ := good_at hb
    cases L with
    | nil => exact ⟨0, false, .inr ⟨q, [], rfl, hL, .inl ⟨rfl, rfl, rfl⟩⟩⟩
    | cons y L => exact ⟨y.when, true, .inr ⟨q, _, rfl, hL, .inr ⟨y, L, rfl, rfl, rfl⟩⟩⟩
theorem p33 {t : Int} {f : Bool} {p : Int} (h : Both w0 w bt bp bd n gb cs P X a) (hR : NextR P p t f) :
    Calls Try.prog 33 #[.pointer (some ⟨bt, 0, none⟩), .int .i64 p] w fun e w' => e = .returned (.tuple #[.int .u64 t, .bool f]) ∧ w = w' := by
  obtain ⟨F, U, T, B⟩ := h
  obtain ⟨lv, k⟩ := T.q
  rcases hR with ⟨hb, rfl, rfl⟩ | ⟨q, L, rfl, hL, ⟨rfl, rfl, rfl⟩ | ⟨y, L', rfl, rfl, rfl⟩⟩
  · exact tnext_bad p k hb
  · exact tnext_zero q k hL
  · exact tnext_some q k hL
theorem p34 {t : Int} {f : Bool} {p : Int} (h : Both w0 w bt bp bd n gb cs Q X b) (M : Match P X a) (hl : X.length ≤ 1024) (hR : NextR P p t f) :
    Calls Try.prog 34 #[.pointer (some ⟨bd, 0, none⟩), .int .i64 p] w fun e w' => e = .returned (.tuple #[.int .u64 t, .bool f]) ∧ Cha (fun _ => False) w w' := by
  obtain ⟨F, U, T, B⟩ := h
  obtain ⟨u, r⟩ := T.r
  have hl2 : (X.map tmOf).length ≤ 1024 := by rw [List.length_map]; exact hl
  rcases hR with ⟨hb, rfl, rfl⟩ | ⟨q, L, rfl, hL, ⟨rfl, rfl, rfl⟩ | ⟨y, L', rfl, rfl, rfl⟩⟩
  · refine dnext_none p r hl2 ?_
    rcases bst_range (X.map tmOf) p (X.map tmOf).length with hr | ⟨b, hr, h1, h2⟩
    · exact hr
    · exfalso
      rw [List.length_map] at h1
      rw [get_tm h1] at h2
      have h3 : (X[b]).1 = p := h2
      have := M.pr _ (List.getElem_mem h1)
      unfold Bad at hb
      omega
  · exact dnext_none q r hl2 (M.none hL)
  · obtain ⟨b', hb', hbl, hX⟩ := M.first hL
    have := dnext_some q r hl2 b' hb' (by rw [List.length_map]; exact hbl)
    rw [get_tm hbl, hX] at this
    exact this
theorem p35 (h : Both w0 w bt bp bd n gb cs P X a) (hm : many P ≤ 1024) : Calls Try.prog 35 #[.pointer (some ⟨bt, 0, none⟩)] w fun e w' => e = .returned (.int .i64 (many P : Int)) ∧ ∃ k, w' = w.drewN k := by
  obtain ⟨F, U, T, B⟩ := h
  obtain ⟨lv, k⟩ := T.q
  exact tcount_any k hm
theorem Both.list (h : Both w0 w bt bp bd n gb cs P X a) : ∃ s c, w.cell? ⟨bd, 1, none⟩ = some (.slice s X.length c) := by
  obtain ⟨F, U, T, B⟩ := h
  obtain ⟨u, r⟩ := T.r
  obtain ⟨s, c, e, _⟩ := r.l.form
  rw [List.length_map] at e
  exact ⟨s, c, by rw [← e]; exact r.list⟩
/-- Both, with no block beside. -/
def Duo (w0 w : World) (bt bp bd n : Nat) (P : List (List Ent)) (X : List (Int × Ent)) (a : Int) : Prop := ∃ F U, Two w0 w F U bt bp bd n P X a
theorem Both.duo (h : Both w0 w bt bp bd n gb cs P X a) : Duo w0 w bt bp bd n P X a := by
  obtain ⟨F, U, T, _⟩ := h
  exact ⟨F, U, T⟩
theorem Duo.same (h : Duo w0 w bt bp bd n P X a) (c : Cha (fun _ => False) w w') : Duo w0 w' bt bp bd n P X a := by
  obtain ⟨F, U, T⟩ := h
  exact ⟨F, U, T.same c⟩
theorem Duo.cha (h : Duo w0 w bt bp bd n P X a) : Cha (fun _ => False) w0 w := by
  obtain ⟨F, U, T⟩ := h
  exact T.c
theorem Duo.box (h : Duo w0 w bt bp bd n P X a) (cs : Array Value) : Both w0 (w.alloc (.cells cs 56)) bt bp bd n w.heap.size cs P X a := by
  obtain ⟨F, U, T⟩ := h
  obtain ⟨lv, q⟩ := T.q
  obtain ⟨u, r⟩ := T.r
  exact ⟨F, U, T.same ((Cha.refl _ w).alloc _), heap_alloc_new w _, fun e => by have := q.old _ e; omega, fun e => by have := r.old _ e; omega⟩
theorem duo_new {w1 : World} (h : TFresh n w w1) : Duo w (w1.alloc (.cells #[.int .i64 (n : Int), .slice none 0 0] 66)) (w.heap.size + 1) w.heap.size w1.heap.size n (List.replicate n []) [] 0 := by
  obtain ⟨q, c⟩ := h
  have hs := c.size
  have r := dt_new n w1
  refine ⟨_, _, ⟨_, q.same ((Cha.refl _ _).alloc _)⟩, ⟨_, r⟩, fun i e1 e2 => ?_, c.alloc _, fun i e => ?_, fun i e => ?_, List.length_replicate ..⟩
  · have e2 : i = w1.heap.size := e2
    have := q.old i e1
    omega
  · rcases e with e | e <;> omega
  · have e : i = w1.heap.size := e
    omega
end Go.Proofs.Yteogepfolifneaa.Tp
