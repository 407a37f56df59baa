/- The queues' state, plainly and in memory; what calls turn of it. -/
import Derived.Test.YtaloafihbdamiaaD
namespace Go.Proofs.Ytaloafihbdamiaa
open Go.ChangeShapes Go.WideShapes Go.ChangeAt Go.RowKit

abbrev Prc := Int × List Int
/-- Put. -/
def putS (S : List Prc) (A : List Int) (p : Nat) (g : Int) : List Prc × List Int :=
  if (S.getD p (-1, [])).1 = -1 then (S.set p (g, (S.getD p (-1, [])).2), A)
  else if (S.getD p (-1, [])).2.length < 8 then (S.set p (g, (S.getD p (-1, [])).2 ++ [(S.getD p (-1, [])).1]), A)
  else (S.set p (g, (S.getD p (-1, [])).2.drop 4), A ++ ((S.getD p (-1, [])).2.take 4 ++ [(S.getD p (-1, [])).1]))
/-- Is a processor one to steal from? -/
def vic (S : List Prc) (p v : Nat) : Bool := v != p && cnt (S.getD v (-1, [])) != 0
def takeFrom (S : List Prc) (p v : Nat) : (Int × Bool) × List Prc :=
  match (S.getD v (-1, [])).2 with
  | [] => (((S.getD v (-1, [])).1, true), S.set v (-1, []))
  | g :: X => ((g, true), (S.set v ((S.getD v (-1, [])).1, X.drop (X.length / 2))).set p ((S.getD p (-1, [])).1, (S.getD p (-1, [])).2 ++ X.take (X.length / 2)))
def stealS (S : List Prc) (p f : Nat) : (Int × Bool) × List Prc :=
  match (List.range S.length).find? (fun i => vic S p ((f + i) % S.length)) with
  | none => ((0, false), S)
  | some i => takeFrom S p ((f + i) % S.length)
/-- Get, the first one to steal from being f. -/
def getS (S : List Prc) (A : List Int) (p f : Nat) : (Int × Bool) × List Prc × List Int :=
  if (S.getD p (-1, [])).1 = -1 then
    match (S.getD p (-1, [])).2 with
    | g :: l => ((g, true), S.set p (-1, l), A)
    | [] => match A with
      | g :: A' => ((g, true), S, A')
      | [] => ((stealS S p f).1, (stealS S p f).2, [])
  else (((S.getD p (-1, [])).1, true), S.set p (-1, (S.getD p (-1, [])).2), A)

/-- Queues at block bq, their processors at bp, the list for all in v; F: their blocks. -/
structure Qs (w : World) (F : Nat → Prop) (bq bp : Nat) (z : Nat → Int) (S : List Prc) (v : Value) (A : List Int) : Prop where
  head : w.heap[bq]? = some (.cells #[.slice (some ⟨bp, 0, none⟩) S.length S.length, v] 80 (0, 0))
  k1 : 1 ≤ S.length
  k8 : S.length ≤ 8
  ints : Ints 85 w bp (S.length * 11) z
  prc : ∀ (p : Nat) (x : Prc), S[p]? = some x → z (p * 11) = x.1 ∧ ∃ f, Ring z (p * 11 + 1) f x.2
  all : Lies w v A
  ne : bq ≠ bp
  fq : F bq
  fp : F bp
  fv : ∀ g, v.ownBlock = some g → F g ∧ g ≠ bq ∧ g ≠ bp
  old : ∀ i, F i → i < w.heap.size
/-- Behind a call. -/
def Left (w w' : World) (F : Nat → Prop) (bq bp : Nat) (S : List Prc) (A : List Int) : Prop :=
  ∃ F' z v, Qs w' F' bq bp z S v A ∧ Cha F w w' ∧ (∀ i, F i → F' i) ∧ ∀ i, F' i → F i ∨ w.heap.size ≤ i
section
variable {w w' W : World} {F F' T : Nat → Prop} {bq bp p g o cap : Nat} {z : Nat → Int} {S : List Prc} {v : Value} {A N L L0 : List Int} {x y : Int}
theorem set_len (S : List Prc) (p : Nat) (x : Prc) : (S.set p x).length = S.length := List.length_set ..
theorem get_lt {x : Prc} (h : S[p]? = some x) : p < S.length := (List.getElem?_eq_some_iff.1 h).1
theorem get_D {x : Prc} (h : S[p]? = some x) : S.getD p (-1, []) = x := by simp [List.getD, h]
theorem D_get (h : p < S.length) : S[p]? = some (S.getD p (-1, [])) := by simp [List.getD, List.getElem?_eq_getElem h]
theorem Qs.turn (h : Qs w F bq bp z S v A) (hp : S[p]? = some (y, L0)) (t : Turned 85 bp (S.length * 11) (p * 11 + 1) z L w w') : ∃ z', Qs w' F bq bp z' (S.set p (y, L)) v A := by
  obtain ⟨z', f, h1, h2, h3, h4⟩ := t
  have hl := get_lt hp
  refine ⟨z', by rw [set_len]; exact (h4.old bq (h.old _ h.fq) h.ne).trans h.head, by rw [set_len]; exact h.k1, by rw [set_len]; exact h.k8, by rw [set_len]; exact h1, fun q x hx => ?_, h.all.cha h4 (fun g hg e => (h.fv g hg).2.2 e), h.ne, h.fq, h.fp, h.fv, fun i hi => Nat.lt_of_lt_of_le (h.old i hi) h4.size⟩
  by_cases e : q = p
  · subst e
    rw [List.getElem?_set_self hl] at hx
    obtain rfl := Option.some.inj hx
    exact ⟨(h3 _ (by omega)).trans (h.prc q _ hp).1, f, h2⟩
  · rw [List.getElem?_set_ne (Ne.symm e)] at hx
    obtain ⟨a, f', b⟩ := h.prc q x hx
    exact ⟨(h3 _ (by omega)).trans a, f', b.congr fun i _ _ => h3 i (by omega)⟩
theorem Qs.next (h : Qs w F bq bp z S v A) (hp : S[p]? = some (y, L)) (x : Int) : Qs (w.setCell ⟨bp, p * 11, none⟩ (.int .i64 x)) F bq bp (up z (p * 11) x) (S.set p (x, L)) v A := by
  have hl := get_lt hp
  have c : Cha (fun i => i = bp) w (w.setCell ⟨bp, p * 11, none⟩ (.int .i64 x)) := (Cha.refl (fun i => i = bp) w).setCell (p := ⟨bp, p * 11, none⟩) (fun _ => rfl) _
  refine ⟨by rw [set_len]; exact (c.old bq (h.old _ h.fq) h.ne).trans h.head, by rw [set_len]; exact h.k1, by rw [set_len]; exact h.k8, by rw [set_len]; exact h.ints.set _ _, fun q u hu => ?_, h.all.cha c (fun g hg e => (h.fv g hg).2.2 e), h.ne, h.fq, h.fp, h.fv, fun i hi => Nat.lt_of_lt_of_le (h.old i hi) c.size⟩
  by_cases e : q = p
  · subst e
    rw [List.getElem?_set_self hl] at hu
    obtain rfl := Option.some.inj hu
    obtain ⟨_, f, b⟩ := h.prc q _ hp
    exact ⟨up_same _ _ _, f, b.congr fun i _ _ => up_other _ _ (by omega)⟩
  · rw [List.getElem?_set_ne (Ne.symm e)] at hu
    obtain ⟨a, f', b⟩ := h.prc q u hu
    exact ⟨(up_other _ _ (by omega)).trans a, f', b.congr fun i _ _ => up_other _ _ (by omega)⟩
/-- What isn't theirs may change. -/
theorem Qs.cha (h : Qs w F bq bp z S v A) (c : Cha T w w') (hT : ∀ i, F i → ¬ T i) : Qs w' F bq bp z S v A :=
  ⟨(c.old bq (h.old _ h.fq) (hT _ h.fq)).trans h.head, h.k1, h.k8, h.ints.cha c (hT _ h.fp), h.prc, h.all.cha c (fun g hg => hT g (h.fv g hg).1), h.ne, h.fq, h.fp, h.fv, fun i hi => Nat.lt_of_lt_of_le (h.old i hi) c.size⟩
theorem Qs.same (h : Qs w F bq bp z S v A) (c : Cha (fun _ => False) w w') : Qs w' F bq bp z S v A := h.cha c fun _ _ f => f
theorem Qs.drew (h : Qs w F bq bp z S v A) : Qs w.drew F bq bp z S v A := h.same (Cha.refl _ w).drew
/-- The list for all is another one. -/
theorem Qs.store (h : Qs w F bq bp z S v A) {v' : Value} (hl : Lies w v' N) (hf : ∀ g, v'.ownBlock = some g → F g ∧ g ≠ bq ∧ g ≠ bp) : Qs (w.setCell ⟨bq, 1, none⟩ v') F bq bp z S v' N := by
  have c : Cha (fun i => i = bq) w (w.setCell ⟨bq, 1, none⟩ v') := (Cha.refl (fun i => i = bq) w).setCell (p := ⟨bq, 1, none⟩) (fun _ => rfl) _
  exact ⟨heap_setCell_same w bq 1 _ 80 v' h.head, h.k1, h.k8, h.ints.cha c (Ne.symm h.ne), h.prc, hl.cha c (fun g hg => (hf g hg).2.1), h.ne, h.fq, h.fp, hf, fun i hi => Nat.lt_of_lt_of_le (h.old i hi) c.size⟩
theorem Qs.app (h : Qs w F bq bp z S v A) (a : App w w' v A N g o cap) :
    Qs (w'.setCell ⟨bq, 1, none⟩ (.slice (some ⟨g, o, none⟩) (A.length + N.length) cap)) (fun i => F i ∨ i = g) bq bp z S (.slice (some ⟨g, o, none⟩) (A.length + N.length) cap) (A ++ N) := by
  have hg : g ≠ bq ∧ g ≠ bp := by
    rcases a.at' with e | e
    · exact (h.fv g e).2
    · have h1 := h.old _ h.fq
      have h2 := h.old _ h.fp
      exact ⟨by omega, by omega⟩
  have ch : Cha (fun i => v.ownBlock = some i) w w' := a.cha
  have hd := (ch.old bq (h.old _ h.fq) (fun e => (h.fv _ e).2.1 rfl)).trans h.head
  have c : Cha (fun i => i = bq) w' (w'.setCell ⟨bq, 1, none⟩ (.slice (some ⟨g, o, none⟩) (A.length + N.length) cap)) := (Cha.refl (fun i => i = bq) w').setCell (p := ⟨bq, 1, none⟩) (fun _ => rfl) _
  refine ⟨heap_setCell_same w' bq 1 _ 80 _ hd, h.k1, h.k8, (h.ints.cha ch (fun e => (h.fv _ e).2.2 rfl)).cha c (Ne.symm h.ne), h.prc, a.lies.cha c (fun i hi e => ?_), h.ne, .inl h.fq, .inl h.fp, fun i hi => ?_, fun i hi => ?_⟩
  · have e1 : g = i := by simpa [Value.ownBlock] using hi
    have e2 : i = bq := e
    exact hg.1 (e1.trans e2)
  · have e1 : g = i := by simpa [Value.ownBlock] using hi
    subst e1
    exact ⟨.inr rfl, hg⟩
  · refine Nat.lt_of_lt_of_le ?_ c.size
    rcases hi with hi | hi
    · exact Nat.lt_of_lt_of_le (h.old i hi) ch.size
    · rw [hi]; exact a.lt
theorem Left.refl (h : Qs w F bq bp z S v A) : Left w w F bq bp S A := ⟨F, z, v, h, Cha.refl _ _, fun _ h => h, fun _ h => .inl h⟩
theorem Left.trans {w1 w2 : World} {S1 : List Prc} {A1 : List Int} (h : Left w w1 F bq bp S A) (k : ∀ F' z v, Qs w1 F' bq bp z S v A → Left w1 w2 F' bq bp S1 A1) : Left w w2 F bq bp S1 A1 := by
  obtain ⟨F1, z, v, q, c, s, n⟩ := h
  obtain ⟨F2, z2, v2, q2, c2, s2, n2⟩ := k F1 z v q
  refine ⟨F2, z2, v2, q2, c.over c2 n, fun i hi => s2 i (s i hi), fun i hi => ?_⟩
  rcases n2 i hi with e | e
  · exact n i e
  · exact .inr (Nat.le_trans c.size e)
theorem Left.of_drew (h : Left w.drew w' F bq bp S A) : Left w w' F bq bp S A := by
  obtain ⟨F1, z, v, q, c, s, n⟩ := h
  exact ⟨F1, z, v, q, ⟨c.os, c.out, c.size, c.old⟩, s, n⟩
end
end Go.Proofs.Ytaloafihbdamiaa
