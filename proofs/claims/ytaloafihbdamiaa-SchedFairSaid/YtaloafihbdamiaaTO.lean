/- Timers that a law made; two lists held against one another; awake. -/
import Derived.Test.YtaloafihbdamiaaTN
import Derived.Test.YtaloafihbdamiaaTI
namespace Go.Proofs.Ytaloafihbdamiaa
open Go.ChangeShapes Go.WideShapes Go.ChangeAt Go.RowKit
variable {w0 w w' : World} {F F' : Nat → Prop} {bt bp p : Nat} {lv : Nat → Value} {P P' : List (List Ent)} {a b x t now : Int} {y e : Ent} {E L L' L2 M : List Ent} {v v' : Value} {A : List Int}

/-- Timers that were made since w0. -/
def Tl (w0 w : World) (bt bp : Nat) (P : List (List Ent)) (a : Int) : Prop := ∃ F lv, Ts w F bt bp lv P a ∧ Cha (fun _ => False) w0 w ∧ ∀ i, F i → w0.heap.size ≤ i
/-- And a list of ids beside them. -/
def Tlv (w0 w : World) (bt bp : Nat) (P : List (List Ent)) (a : Int) (v : Value) (A : List Int) : Prop :=
  ∃ F lv, Ts w F bt bp lv P a ∧ Cha (fun _ => False) w0 w ∧ (∀ i, F i → w0.heap.size ≤ i) ∧ Lies w v A ∧ ∀ g, v.ownBlock = some g → ¬ F g ∧ w0.heap.size ≤ g
theorem Tlv.tl (h : Tlv w0 w bt bp P a v A) : Tl w0 w bt bp P a := by obtain ⟨F, lv, q, c, n, _⟩ := h; exact ⟨F, lv, q, c, n⟩
theorem Tlv.lies (h : Tlv w0 w bt bp P a v A) : Lies w v A := by obtain ⟨F, lv, q, c, n, l, _⟩ := h; exact l
theorem Tl.same (h : Tl w0 w bt bp P a) (c : Cha (fun _ => False) w w') : Tl w0 w' bt bp P a := by
  obtain ⟨F, lv, q, k, n⟩ := h
  exact ⟨F, lv, q.same c, k.trans c, n⟩
theorem Tlv.same (h : Tlv w0 w bt bp P a v A) (c : Cha (fun _ => False) w w') : Tlv w0 w' bt bp P a v A := by
  obtain ⟨F, lv, q, k, n, l, m⟩ := h
  exact ⟨F, lv, q.same c, k.trans c, n, l.cha c (fun _ _ f => f), m⟩
theorem Tl.cha (h : Tl w0 w bt bp P a) : Cha (fun _ => False) w0 w := by obtain ⟨F, lv, q, k, n⟩ := h; exact k
theorem Tl.left (h : Tl w0 w bt bp P a) (k : ∀ F lv, Ts w F bt bp lv P a → TLeft w w' F bt bp P' b) : Tl w0 w' bt bp P' b := by
  obtain ⟨F, lv, q, c, n⟩ := h
  obtain ⟨F', lv', q', c', _, m⟩ := k F lv q
  refine ⟨F', lv', q', c.over c' (fun i hi => .inr (n i hi)), fun i hi => ?_⟩
  rcases m i hi with e | e
  · exact n i e
  · exact Nat.le_trans c.size e
theorem tl_new (n : Nat) (hc : Cha (fun _ => False) w0 w) (h1 : 1 ≤ n) (h2 : n ≤ 8) : Calls Try.prog 25 #[.int .i64 (n : Int)] w fun e w' => e = .returned (.tuple #[.pointer (some ⟨w.heap.size + 1, 0, none⟩), .int .i64 0]) ∧ Tl w0 w' (w.heap.size + 1) w.heap.size (List.replicate n []) 0 :=
  (tnew_ok n w h1 h2).mono fun e w' ⟨q1, q, c⟩ => ⟨q1, _, _, q, hc.trans c, fun i hi => by have := hc.size; omega⟩
/-- L with one more. -/
structure Added (L : List Ent) (e : Ent) (L' : List Ent) : Prop where
  up : Rises L'
  mem : ∀ x, x ∈ L' ↔ x = e ∨ x ∈ L
  len : L'.length = L.length + 1
theorem Added.eq (h : Added L e L') (hr : Rises M) (hm : ∀ x, x ∈ M ↔ x = e ∨ x ∈ L) : L' = M := h.up.unique hr fun x => (h.mem x).trans (hm x).symm
theorem Added.lo (h : Added L e L') (hl : ∀ x ∈ L, x.order < a) (he : e.order = a) : ∀ x ∈ L', x.order < a + 1 := fun x hx => by
  rcases (h.mem x).1 hx with rfl | hx
  · omega
  · have := hl x hx; omega
theorem many_at (hp : P[p]? = some L) : L.length ≤ many P := by
  have hpl := (List.getElem?_eq_some_iff.1 hp).1
  have e1 := many_take P p hpl
  have e2 := many_le P (p + 1)
  have e3 : P.getD p [] = L := by simp [List.getD, hp]
  rw [e3] at e1
  omega
theorem tl_add (h : Tl w0 w bt bp P a) (ht : Tidy P a) (hp : P[p]? = some L) (hm : many P < 1024) (ha : 0 ≤ a) (ha2 : a < 2 ^ 63) (t n : Int) :
    Calls Try.prog 34 #[.pointer (some ⟨bt, 0, none⟩), .int .i64 (p : Int), .int .u64 t, .int .i64 n] w fun e w' => e = .returned (.int .i64 0) ∧ ∃ L', Added L ⟨t, a, n⟩ L' ∧ Tl w0 w' bt bp (P.set p L') (a + 1) := by
  obtain ⟨F, lv, q, c, nn⟩ := h
  refine (tadd_ok p t n q hp hm ha ha2 fun i j => (ht.up p L hp).mono _ i j).mono fun e w' ⟨a1, i, hpl, hl⟩ => ⟨a1, _, ⟨(ht.up p L hp).ins (fun x hx => ht.lo p L hp x hx) hpl, fun x => mem_ins, len_ins⟩, ?_⟩
  obtain ⟨F', lv', q', c', _, m⟩ := hl
  exact ⟨F', lv', q', c.over c' (fun i hi => .inr (nn i hi)), fun i hi => (m i hi).elim (nn i) (Nat.le_trans c.size)⟩
theorem tl_full (h : Tl w0 w bt bp P a) (hp : p < P.length) (hm : many P = 1024) (t n : Int) :
    Calls Try.prog 34 #[.pointer (some ⟨bt, 0, none⟩), .int .i64 (p : Int), .int .u64 t, .int .i64 n] w fun e w' => e = .returned (.int .i64 3) ∧ Tl w0 w' bt bp P a := by
  have h0 := h
  obtain ⟨F, lv, q, c, nn⟩ := h0
  exact (tadd_full p t n q hp hm).mono fun e w' ⟨q1, k, e2⟩ => ⟨q1, by rw [e2]; exact h.same ((Cha.refl _ w).drewN k)⟩
theorem tl_bad (h : Tl w0 w bt bp P a) (p t n : Int) (hp : p < 0 ∨ (P.length : Int) ≤ p) :
    Calls Try.prog 34 #[.pointer (some ⟨bt, 0, none⟩), .int .i64 p, .int .u64 t, .int .i64 n] w fun e w' => e = .returned (.int .i64 1) ∧ w = w' := by
  obtain ⟨F, lv, q, c, nn⟩ := h
  exact tadd_bad p t n q hp
theorem tl_count (h : Tl w0 w bt bp P a) (hm : many P ≤ 1024) : Calls Try.prog 35 #[.pointer (some ⟨bt, 0, none⟩)] w fun e w' => e = .returned (.int .i64 (many P : Int)) ∧ Cha (fun _ => False) w w' := by
  obtain ⟨F, lv, q, c, nn⟩ := h
  exact (tcount_any q hm).mono fun e w' ⟨q1, k, e2⟩ => ⟨q1, by rw [e2]; exact (Cha.refl _ w).drewN k⟩
theorem tl_next (h : Tl w0 w bt bp P a) (hp : P[p]? = some (y :: L)) : Calls Try.prog 64 #[.pointer (some ⟨bt, 0, none⟩), .int .i64 (p : Int)] w fun e w' => e = .returned (.tuple #[.int .u64 y.when, .bool true]) ∧ w = w' := by
  obtain ⟨F, lv, q, c, nn⟩ := h
  exact tnext_some p q hp
theorem tl_due (h : Tl w0 w bt bp P a) (hp : P[p]? = some L) (hl : L.length ≤ 1024) (now : Int) :
    Calls Try.prog 51 #[.pointer (some ⟨bt, 0, none⟩), .int .i64 (p : Int), .int .u64 now] w fun e w' => ∃ k s c, e = .returned (.slice s k c) ∧ Upto L now k ∧ Tlv w0 w' bt bp (P.set p (L.drop k)) a (.slice s k c) ((L.take k).map Ent.id) := by
  obtain ⟨F, lv, q, c, nn⟩ := h
  refine (tdue_ok p q hp hl).mono fun e w' ⟨k, v, q1, hu, l, F', lv', q2, c2, n1, n2, m⟩ => ?_
  have hle : ((L.take k).map Ent.id).length = k := by have := hu.le; simp only [List.length_map, List.length_take]; omega
  obtain ⟨s, cap, rfl, -⟩ := l.form
  rw [hle] at *
  exact ⟨k, s, cap, q1, hu, F', lv', q2, c.over c2 (fun i hi => .inr (nn i hi)), fun i hi => (n2 i hi).elim (nn i) (Nat.le_trans c.size), l, fun g hg => ⟨(m g hg).1, Nat.le_trans c.size (m g hg).2⟩⟩
/-- With one more, the list told. -/
theorem tl_add_is (h : Tl w0 w bt bp P a) (ht : Tidy P a) (hp : P[p]? = some L) (hm : many P < 1024) (ha : 0 ≤ a) (ha2 : a < 2 ^ 63) (t n : Int) (hr : Rises M) (hmm : ∀ x, x ∈ M ↔ x = ⟨t, a, n⟩ ∨ x ∈ L) (hP : P.set p M = P') (hb : b = a + 1) :
    Calls Try.prog 34 #[.pointer (some ⟨bt, 0, none⟩), .int .i64 (p : Int), .int .u64 t, .int .i64 n] w fun e w' => e = .returned (.int .i64 0) ∧ Tl w0 w' bt bp P' b := by
  refine (tl_add h ht hp hm ha ha2 t n).mono fun e w' ⟨q1, L', hA, hT⟩ => ⟨q1, ?_⟩
  rw [hA.eq hr hmm, hP, ← hb] at hT
  exact hT
theorem tidy_one (hr : Rises L) (hl : ∀ x ∈ L, x.order < a) : Tidy [L] a := by
  refine ⟨fun q M hq => ?_, fun q M hq => ?_⟩
  all_goals
    rcases q with _ | q
    · cases hq; assumption
    · cases hq
theorem ent_lt1 : Ent.lt ⟨3, 1, 2⟩ ⟨5, 0, 1⟩ := .inl (by decide)
theorem ent_lt2 : Ent.lt ⟨3, 1, 2⟩ ⟨5, 2, 3⟩ := .inl (by decide)
theorem ent_lt3 : Ent.lt ⟨5, 0, 1⟩ ⟨5, 2, 3⟩ := .inr (by decide)
theorem r1 : Rises [⟨5, 0, 1⟩] := List.pairwise_singleton _ _
theorem r2 : Rises [⟨3, 1, 2⟩, ⟨5, 0, 1⟩] := List.pairwise_cons.2 ⟨fun x hx => by rw [List.mem_singleton.1 hx]; exact ent_lt1, r1⟩
theorem r3 : Rises [⟨3, 1, 2⟩, ⟨5, 0, 1⟩, ⟨5, 2, 3⟩] := List.pairwise_cons.2 ⟨fun x hx => by
  rcases List.mem_cons.1 hx with rfl | hx
  · exact ent_lt1
  · rw [List.mem_singleton.1 hx]; exact ent_lt2, List.pairwise_cons.2 ⟨fun x hx => by rw [List.mem_singleton.1 hx]; exact ent_lt3, List.pairwise_singleton _ _⟩⟩
end Go.Proofs.Ytaloafihbdamiaa
