/- TimerPlays: both timers beside one another; each call, whatever its arguments. -/
import Derived.Test.YteogepfolifneaaUI
import Derived.Test.YteogepfolifneaaUG
namespace Go.Proofs.Yteogepfolifneaa.Tp
open Go.ChangeShapes Go.WideShapes Go.ChangeAt Go.RowKit
variable {w0 w w' W : World} {F U : Nat → Prop} {bt bp bd gb n : Nat} {P P' : List (List Ent)} {X X' : List (Int × Ent)} {a a' : Int} {cs : Array Value} {v l : Value} {A A' : List Int} {D' : List Tm}

structure Two (w0 w : World) (F U : Nat → Prop) (bt bp bd n : Nat) (P : List (List Ent)) (X : List (Int × Ent)) (a : Int) : Prop where
  q : ∃ lv, Ts w F bt bp lv P a
  r : ∃ v, Dt w U bd n v (X.map tmOf)
  a : ∀ i, F i → ¬ U i
  c : Cha (fun _ => False) w0 w
  n1 : ∀ i, F i → w0.heap.size ≤ i
  n2 : ∀ i, U i → w0.heap.size ≤ i
  ln : P.length = n
structure Box (w : World) (F U : Nat → Prop) (gb : Nat) (cs : Array Value) : Prop where
  row : w.heap[gb]? = some (.cells cs 56 (0, 0))
  b1 : ¬ F gb
  b2 : ¬ U gb
def Both (w0 w : World) (bt bp bd n gb : Nat) (cs : Array Value) (P : List (List Ent)) (X : List (Int × Ent)) (a : Int) : Prop := ∃ F U, Two w0 w F U bt bp bd n P X a ∧ Box w F U gb cs
/-- And a list of ids that the program has told. -/
def Told (w0 w : World) (bt bp bd n gb : Nat) (cs : Array Value) (P : List (List Ent)) (X : List (Int × Ent)) (a : Int) (v : Value) (A : List Int) : Prop :=
  ∃ F U, Two w0 w F U bt bp bd n P X a ∧ Box w F U gb cs ∧ Lies w v A ∧ ∀ g, v.ownBlock = some g → ¬ U g
theorem Two.same (h : Two w0 w F U bt bp bd n P X a) (c : Cha (fun _ => False) w w') : Two w0 w' F U bt bp bd n P X a := by
  obtain ⟨⟨lv, q⟩, ⟨v, r⟩, k, c0, n1, n2, ln⟩ := h
  exact ⟨⟨lv, q.same c⟩, ⟨v, r.same c⟩, k, c0.trans c, n1, n2, ln⟩
theorem Box.same (b : Box w F U gb cs) (c : Cha (fun _ => False) w w') : Box w' F U gb cs := ⟨(c.old _ (Array.getElem?_eq_some_iff.1 b.row).1 (fun f => f)).trans b.row, b.b1, b.b2⟩
theorem Both.same (h : Both w0 w bt bp bd n gb cs P X a) (c : Cha (fun _ => False) w w') : Both w0 w' bt bp bd n gb cs P X a := by
  obtain ⟨F, U, T, b⟩ := h
  exact ⟨F, U, T.same c, b.same c⟩
theorem Both.cell (h : Both w0 w bt bp bd n gb cs P X a) (i : Nat) : w.cell? ⟨gb, i, none⟩ = cs[i]? := by
  obtain ⟨F, U, _, b⟩ := h
  exact cell_of_row w gb i cs 56 (0, 0) b.row
theorem Told.both (h : Told w0 w bt bp bd n gb cs P X a v A) : Both w0 w bt bp bd n gb cs P X a := by
  obtain ⟨F, U, T, b, _⟩ := h
  exact ⟨F, U, T, b⟩
/-- Behind a call to the program's. -/
theorem Two.left {F' : Nat → Prop} {lv : Nat → Value} (h : Two w0 w F U bt bp bd n P X a) (b : Box w F U gb cs) (hP : P'.length = P.length) (q : Ts w' F' bt bp lv P' a') (c : Cha F w w') (m : ∀ i, F' i → F i ∨ w.heap.size ≤ i) :
    Two w0 w' F' U bt bp bd n P' X a' ∧ Box w' F' U gb cs := by
  obtain ⟨_, ⟨u, r⟩, k, c0, n1, n2, ln⟩ := h
  have hb := (Array.getElem?_eq_some_iff.1 b.row).1
  refine ⟨⟨⟨lv, q⟩, ⟨u, r.cha c (fun i hu hf => k i hf hu)⟩, fun i hi hu => ?_, c0.over c (fun i e => .inr (n1 i e)), fun i hi => ?_, n2, by rw [hP]; exact ln⟩, (c.old _ hb b.b1).trans b.row, fun e => ?_, b.b2⟩
  · rcases m _ hi with e | e
    · exact k i e hu
    · have := r.old i hu; omega
  · rcases m _ hi with e | e
    · exact n1 i e
    · exact Nat.le_trans c0.size e
  · rcases m _ e with e | e
    · exact b.b1 e
    · omega
/-- Behind a call to the document's. -/
theorem Two.right {U' : Nat → Prop} {u : Value} (h : Two w0 w F U bt bp bd n P X a) (b : Box w F U gb cs) (r' : Dt w' U' bd n u (X'.map tmOf)) (c : Cha U w w') (m : ∀ i, U' i → U i ∨ w.heap.size ≤ i) :
    Two w0 w' F U' bt bp bd n P X' a ∧ Box w' F U' gb cs := by
  obtain ⟨⟨lv, q⟩, _, k, c0, n1, n2, ln⟩ := h
  have hb := (Array.getElem?_eq_some_iff.1 b.row).1
  refine ⟨⟨⟨lv, q.cha c (fun i hf hu => k i hf hu)⟩, ⟨u, r'⟩, fun i hi hu => ?_, c0.over c (fun i e => .inr (n2 i e)), n1, fun i hi => ?_, ln⟩, (c.old _ hb b.b2).trans b.row, b.b1, fun e => ?_⟩
  · rcases m _ hu with e | e
    · exact k i hi e
    · have := q.old i hi; omega
  · rcases m _ hi with e | e
    · exact n2 i e
    · exact Nat.le_trans c0.size e
  · rcases m _ e with e | e
    · exact b.b2 e
    · omega
def Bad (P : List (List Ent)) (p : Int) : Prop := p < 0 ∨ (P.length : Int) ≤ p
theorem good_at {p : Int} (h : ¬ Bad P p) : ∃ (q : Nat) (L : List Ent), p = (q : Int) ∧ q < P.length ∧ P[q]? = some L := by
  unfold Bad at h
  refine ⟨p.toNat, P[p.toNat]'(by omega), by omega, by omega, List.getElem?_eq_getElem _⟩
open Classical in
/-- What Add answers. -/
noncomputable def addR (P : List (List Ent)) (p : Int) : Int := if Bad P p then 1 else if 1024 ≤ many P then 3 else 0
open Classical in
noncomputable def addX (P : List (List Ent)) (X : List (Int × Ent)) (a p t id : Int) : List (Int × Ent) := if Bad P p ∨ 1024 ≤ many P then X else X ++ [(p, ⟨t, a, id⟩)]
theorem p26 (h : Both w0 w bt bp bd n gb cs P X a) (M : Match P X a) (hm : many P ≤ 1024) (h0 : 0 ≤ a) (h63 : a + 1 < 2 ^ 63) (p t id : Int) :
    Calls Try.prog 26 #[.pointer (some ⟨bt, 0, none⟩), .int .i64 p, .int .u64 t, .int .i64 id] w fun e w' => e = .returned (.int .i64 (addR P p)) ∧ ∃ P' a', (Match P' (addX P X a p t id) a' ∧ many P' ≤ 1024 ∧ 0 ≤ a' ∧ a' ≤ a + 1 ∧ P'.length = P.length) ∧ Both w0 w' bt bp bd n gb cs P' X a' := by
  obtain ⟨F, U, T, B⟩ := h
  obtain ⟨lv, q⟩ := T.q
  by_cases hb : Bad P p
  · have e1 : addR P p = 1 := if_pos hb
    have e2 : addX P X a p t id = X := if_pos (.inl hb)
    rw [e1, e2]
    exact (tadd_bad p t id q hb).mono fun e w' ⟨q1, q2⟩ => ⟨q1, P, a, ⟨M, hm, h0, by omega, rfl⟩, by rw [← q2]; exact ⟨F, U, T, B⟩⟩
  · obtain ⟨r, L, rfl, hr, hL⟩ := good_at hb
    by_cases hf : 1024 ≤ many P
    · have e1 : addR P (r : Int) = 3 := by unfold addR; rw [if_neg hb, if_pos hf]
      have e2 : addX P X a (r : Int) t id = X := if_pos (.inr hf)
      rw [e1, e2]
      exact (tadd_full r t id q hr (by omega)).mono fun e w' ⟨q1, k, q2⟩ => ⟨q1, P, a, ⟨M, hm, h0, by omega, rfl⟩, by rw [q2]; exact Both.same ⟨F, U, T, B⟩ ((Cha.refl _ w).drewN k)⟩
    · have e1 : addR P (r : Int) = 0 := by unfold addR; rw [if_neg hb, if_neg hf]
      have e2 : addX P X a (r : Int) t id = X ++ [((r : Int), ⟨t, a, id⟩)] := if_neg (fun c => c.elim hb hf)
      rw [e1, e2]
      refine (tadd_ok r t id q hL (by omega) h0 (by omega) fun i j => (M.neat.tidy.up r L hL).mono _ i j).mono fun e w' ⟨q1, i, hpl, F', lv', q', c, _, m⟩ => ⟨q1, P.set r (L.take i ++ ⟨t, a, id⟩ :: L.drop i), a + 1, ?_, ?_⟩
      · have A : Added L ⟨t, a, id⟩ (L.take i ++ ⟨t, a, id⟩ :: L.drop i) := ⟨(M.neat.tidy.up r L hL).ins (fun x hx => M.neat.tidy.lo r L hL x hx) hpl, fun x => mem_ins, len_ins⟩
        have hms := many_set (M := L.take i ++ ⟨t, a, id⟩ :: L.drop i) hL
        have := A.len
        exact ⟨M.add hL A rfl, by omega, by omega, by omega, List.length_set ..⟩
      · obtain ⟨k1, k2⟩ := T.left B (List.length_set ..) q' c m
        exact ⟨F', U, k1, k2⟩
theorem p27 {Q : List (List Ent)} {b : Int} (h : Both w0 w bt bp bd n gb cs Q X b) (hn : P.length = n) (hc : many P = X.length) (hm : many P ≤ 1024) (p t id : Int) :
    Calls Try.prog 27 #[.pointer (some ⟨bd, 0, none⟩), .int .i64 p, .int .u64 t, .int .i64 id] w fun e w' => e = .returned (.int .i64 (addR P p)) ∧ Both w0 w' bt bp bd n gb cs Q (addX P X a p t id) b := by
  obtain ⟨F, U, T, B⟩ := h
  obtain ⟨u, r⟩ := T.r
  by_cases hb : Bad P p
  · have e1 : addR P p = 1 := if_pos hb
    have e2 : addX P X a p t id = X := if_pos (.inl hb)
    rw [e1, e2]
    exact (dadd_bad p t id r (by unfold Bad at hb; omega)).mono fun e w' ⟨q1, q2⟩ => ⟨q1, by rw [← q2]; exact ⟨F, U, T, B⟩⟩
  · have hb2 : 0 ≤ p ∧ p < (n : Int) := by unfold Bad at hb; omega
    by_cases hf : 1024 ≤ many P
    · have e1 : addR P p = 3 := by unfold addR; rw [if_neg hb, if_pos hf]
      have e2 : addX P X a p t id = X := if_pos (.inr hf)
      rw [e1, e2]
      exact (dadd_full p t id r hb2.1 hb2.2 (by rw [List.length_map]; omega)).mono fun e w' ⟨q1, q2⟩ => ⟨q1, by rw [← q2]; exact ⟨F, U, T, B⟩⟩
    · have e1 : addR P p = 0 := by unfold addR; rw [if_neg hb, if_neg hf]
      have e2 : addX P X a p t id = X ++ [(p, ⟨t, a, id⟩)] := if_neg (fun c => c.elim hb hf)
      rw [e1, e2]
      refine (dadd_ok p t id r hb2.1 hb2.2 (by rw [List.length_map]; omega)).mono fun e w' ⟨q1, U', u', r', c, m⟩ => ⟨q1, ?_⟩
      have hmap : X.map tmOf ++ [(⟨p, t, id⟩ : Tm)] = (X ++ [(p, (⟨t, a, id⟩ : Ent))]).map tmOf := by rw [List.map_append]; rfl
      rw [hmap] at r'
      obtain ⟨k1, k2⟩ := T.right B r' c m
      exact ⟨F, U', k1, k2⟩
/-- What Due takes. -/
def DueRel (P : List (List Ent)) (p now : Int) (A : List Int) (P' : List (List Ent)) : Prop :=
  (Bad P p ∧ A = [] ∧ P' = P) ∨ ∃ (q : Nat) (L : List Ent) (m : Nat), p = (q : Int) ∧ P[q]? = some L ∧ Upto L now m ∧ A = (L.take m).map Ent.id ∧ P' = P.set q (L.drop m)
theorem p29 (h : Both w0 w bt bp bd n gb cs P X a) (hm : many P ≤ 1024) (p now : Int) :
    Calls Try.prog 29 #[.pointer (some ⟨bt, 0, none⟩), .int .i64 p, .int .u64 now] w fun e w' => ∃ s k c A P', e = .returned (.slice s k c) ∧ DueRel P p now A P' ∧ Told w0 w' bt bp bd n gb cs P' X a (.slice s k c) A := by
  obtain ⟨F, U, T, B⟩ := h
  obtain ⟨lv, q⟩ := T.q
  by_cases hb : Bad P p
  · exact (tdue_bad p now q hb).mono fun e w' ⟨q1, q2⟩ => ⟨none, 0, 0, [], P, q1, .inl ⟨hb, rfl, rfl⟩, by rw [← q2]; exact ⟨F, U, T, B, Lies.nil _, fun g hg => by cases hg⟩⟩
  · obtain ⟨r, L, rfl, hr, hL⟩ := good_at hb
    have hl := many_at hL
    refine (tdue_ok r q hL (by omega)).mono fun e w' ⟨k, v, q1, hu, l, F', lv', q', c, _, m, o⟩ => ?_
    obtain ⟨s, cap, rfl, -⟩ := l.form
    obtain ⟨k1, k2⟩ := T.left B (List.length_set ..) q' c m
    refine ⟨s, _, cap, _, _, q1, .inr ⟨r, L, k, rfl, hL, hu, rfl, rfl⟩, F', U, k1, k2, l, fun g hg hU => ?_⟩
    obtain ⟨v0, r0⟩ := T.r
    have := r0.old g hU
    have := (o g hg).2
    omega
theorem p30 {b p now : Int} {Q : List (List Ent)} (h : Told w0 w bt bp bd n gb cs Q X b v A) (M : Match P X a) (hR : DueRel P p now A Q) (hl : X.length ≤ 1024) :
    Calls Try.prog 30 #[.pointer (some ⟨bd, 0, none⟩), .int .i64 p, .int .u64 now] w fun e w' => ∃ s k c X', e = .returned (.slice s k c) ∧ Lies w' (.slice s k c) A ∧ Lies w' v A ∧ Match Q X' a ∧ Both w0 w' bt bp bd n gb cs Q X' b := by
  obtain ⟨F, U, T, B, lv, hn⟩ := h
  obtain ⟨u, r⟩ := T.r
  refine (ddue_ok p now r (by rw [List.length_map]; exact hl)).mono fun e w' ⟨l, A', D', q1, hS, hH, ⟨U', u', r', m, _⟩, c, ll⟩ => ?_
  have hlink : A' = A ∧ ∃ X', D' = X'.map tmOf ∧ Match Q X' a := by
    rcases hR with ⟨hb, rfl, rfl⟩ | ⟨q, L, k, rfl, hL, hu, rfl, rfl⟩
    · have hnone : bst (X.map tmOf) p (X.map tmOf).length = -1 := by
        rcases bst_range (X.map tmOf) p (X.map tmOf).length with hr | ⟨b, hr, h1, h2⟩
        · exact hr
        · exfalso
          rw [List.length_map] at h1
          rw [get_tm h1] at h2
          have h3 : (X[b]).1 = p := h2
          have := M.pr _ (List.getElem_mem h1)
          unfold Bad at hb
          omega
      have hnil : A' = [] ∧ D' = X.map tmOf := by
        have : ∀ A' D', Steps p now (X.map tmOf) A' D' → A' = [] ∧ D' = X.map tmOf := fun A' D' hs => by
          induction hs with
          | nil => exact ⟨rfl, rfl⟩
          | next b _ hb _ _ ih => rw [ih.2, hnone] at hb; omega
        exact this _ _ hS
      exact ⟨hnil.1, X, hnil.2, M⟩
    · exact due_match M hL hu hS hH
  obtain ⟨rfl, X', rfl, M'⟩ := hlink
  obtain ⟨s, cap, rfl, -⟩ := ll.form
  obtain ⟨k1, k2⟩ := T.right B r' c m
  exact ⟨s, _, cap, X', q1, ll, lv.cha c (fun g hg => hn g hg), M', F, U', k1, k2⟩
end Go.Proofs.Yteogepfolifneaa.Tp
