/- TimerOrder: what the law's calls do, its lists beside the timers. -/
import Derived.Test.YteogepfolifneaaTV
namespace Go.Proofs.Yteogepfolifneaa
open Go.ChangeShapes Go.WideShapes Go.ChangeAt Go.RowKit
variable {w0 w w' : World} {bt bp p q n : Nat} {P : List (List Ent)} {a b now : Int} {L M L' : List Ent} {e x y : Ent} {z : Nat → Int} {v u l v' : Value} {A B N : List Int}

/-- What an append to a list of ints leaves. -/
structure IApp (w w' : World) (v : Value) (A : List Int) (v' : Value) : Prop where
  lies : Lies w' v' A
  cha : Cha (fun i => v.ownBlock = some i) w w'
  at' : ∀ g, v'.ownBlock = some g → v.ownBlock = some g ∨ w.heap.size ≤ g
theorem Lies.iz (h : Lies w v A) {g : Addr} {m c : Nat} (e : v = .slice (some g) m c) : ∀ j x, (iz A)[j]? = some x → w.cell? (g.add j) = some x := by
  subst e
  rcases h with ⟨_, h⟩ | ⟨g', o, cap, cur, e, h1, h2, h3, h4, h5⟩
  · cases h
  · cases e
    intro j x hj
    have e2 : (⟨g', o, none⟩ : Addr).add j = ⟨g', o + j, none⟩ := by unfold Addr.add; split <;> simp_all
    rw [iz_get] at hj
    have hl : j < A.length := by
      by_cases c : j < A.length
      · exact c
      · rw [List.getElem?_eq_none (by omega)] at hj; cases hj
    rw [e2, cell_of_row w g' _ cur 3 (0, 0) h3, h5 j hl]
    rw [List.getElem?_eq_getElem hl] at hj
    simpa [List.getD, hl] using hj
theorem run_iapp (ty : TypeId) (h : Lies w v A) (k : Lies w u N) (b2 : (A.length + N.length) * 8 ≤ 140737488355328) :
    ∃ v' w', (Builtin.append_ #[43, 43] ty #[v, u]).run Try.prog w = .ok v' w' ∧ IApp w w' v (A ++ N) v' := by
  by_cases h0 : N.length = 0
  · have hN : N = [] := List.eq_nil_of_length_eq_zero h0
    subst hN
    obtain ⟨s, c, rfl, _⟩ := k.form
    obtain ⟨s2, c2, rfl, hc2⟩ := h.form
    obtain ⟨i0, hi, hz0, hz1, hz2⟩ := info_parts info3
    refine ⟨.slice s2 A.length c2, w, ?_, ?_⟩
    · refine run_append_nothing w 43 43 ty 3 i0 Try.underlying43 hi s2 A.length c2 hc2 _ ?_
      cases s with
      | none => exact Src.ofNil w Try.underlying43 c
      | some a => exact ⟨.inl ⟨3, Try.underlying43⟩, fun _ => rfl, run_firstCells_some w _ 0 a 0 c [] (by simp) (fun j v hj => by cases hj), run_firstCells_some w.drew _ 0 a 0 c [] (by simp) (fun j v hj => by cases hj), by simp, fun u hu => by cases hu⟩
    · rw [List.append_nil]
      exact ⟨h, Cha.refl _ _, fun g hg => .inl hg⟩
  · obtain ⟨s, c, rfl, _⟩ := k.form
    cases s with
    | none =>
      rcases k with ⟨e, _⟩ | ⟨g', o, cap, cur, e, _⟩
      · rw [e] at h0; exact absurd rfl h0
      · cases e
    | some s =>
      obtain ⟨g, o, cap, w', hr, hA⟩ := run_app ty h s c N (k.iz rfl) (by omega) b2
      refine ⟨_, w', hr, ?_, hA.cha, fun g' hg => ?_⟩
      · exact hA.lies
      · cases hg; exact hA.at'
/-- Timers, a list that is done with, and one that is kept. -/
structure Keep (w0 w : World) (bt bp : Nat) (P : List (List Ent)) (a : Int) (v : Value) (A : List Int) (l : Value) (B : List Int) : Prop where
  all : ∃ F lv, Ts w F bt bp lv P a ∧ (∀ i, F i → w0.heap.size ≤ i) ∧ (∀ g, v.ownBlock = some g → ¬ F g ∧ w0.heap.size ≤ g ∧ l.ownBlock ≠ some g) ∧ ∀ g, l.ownBlock = some g → ¬ F g ∧ w0.heap.size ≤ g
  cha : Cha (fun _ => False) w0 w
  lv : Lies w v A
  ll : Lies w l B
theorem Keep.same (h : Keep w0 w bt bp P a v A l B) (c : Cha (fun _ => False) w w') : Keep w0 w' bt bp P a v A l B := by
  obtain ⟨⟨F, lv, k, n1, n2, n3⟩, c0, l1, l2⟩ := h
  exact ⟨⟨F, lv, k.same c, n1, n2, n3⟩, c0.trans c, l1.cha c (fun _ _ f => f), l2.cha c (fun _ _ f => f)⟩
theorem Keep.tl (h : Keep w0 w bt bp P a v A l B) : Tl w0 w bt bp P a := by
  obtain ⟨⟨F, lv, k, n1, _⟩, c0, _⟩ := h
  exact ⟨F, lv, k, c0, n1⟩
theorem Ts.cha {F S : Nat → Prop} {lv : Nat → Value} (h : Ts w F bt bp lv P a) (c : Cha S w w') (hs : ∀ i, F i → ¬ S i) : Ts w' F bt bp lv P a :=
  ⟨(c.old bt (h.old _ h.ft) (hs _ h.ft)).trans h.head, h.k1, h.k8, c.row h.tab (hs _ h.fp), fun p L hp => (h.lst p L hp).cha c (fun g hg => hs g (h.fv p g (List.getElem?_eq_some_iff.1 hp).1 hg).1), h.ne, h.ft, h.fp, h.fv, h.fpq, fun i hi => Nat.lt_of_lt_of_le (h.old i hi) c.size⟩
/-- The first list turns, in its block or into a new one. -/
theorem Keep.turn (h : Keep w0 w bt bp P a v A l B) (k : IApp w w' v N v') : Keep w0 w' bt bp P a v' N l B := by
  obtain ⟨⟨F, lv, t, n1, n2, n3⟩, c0, l1, l2⟩ := h
  refine ⟨⟨F, lv, t.cha k.cha (fun i hi e => (n2 i e).1 hi), n1, fun g hg => ?_, n3⟩, c0.over k.cha fun i hi => .inr (n2 i hi).2.1, k.lies, l2.cha k.cha (fun g hg e => (n2 g e).2.2 hg)⟩
  rcases k.at' g hg with e | e
  · exact n2 g e
  · exact ⟨fun hf => by have := t.old g hf; omega, Nat.le_trans c0.size e, fun e2 => by have := l2.lt e2; omega⟩
theorem tlv_keep (h : Tlv w0 w bt bp P a v A) : Keep w0 w bt bp P a v A (.slice none 0 0) [] := by
  obtain ⟨F, lv, k, c, n1, l, m⟩ := h
  exact ⟨⟨F, lv, k, n1, fun g hg => ⟨(m g hg).1, (m g hg).2, fun e => by cases e⟩, fun g hg => by cases hg⟩, c, l, Lies.nil _⟩
theorem keep_due (h : Tlv w0 w bt bp P a v A) (hp : P[p]? = some L) (hl : L.length ≤ 1024) (now : Int) :
    Calls Try.prog 29 #[.pointer (some ⟨bt, 0, none⟩), .int .i64 (p : Int), .int .u64 now] w fun e w' => ∃ k s c, e = .returned (.slice s k c) ∧ Upto L now k ∧ Keep w0 w' bt bp (P.set p (L.drop k)) a v A (.slice s k c) ((L.take k).map Ent.id) := by
  obtain ⟨F, lv, q, c, nn, l1, m1⟩ := h
  refine (tdue_ok p q hp hl).mono fun e w' ⟨k, u, q1, hu, l, F', lv', q2, c2, n1, n2, m⟩ => ?_
  have hle : ((L.take k).map Ent.id).length = k := by have := hu.le; simp only [List.length_map, List.length_take]; omega
  obtain ⟨s, cap, rfl, -⟩ := l.form
  rw [hle] at *
  refine ⟨k, s, cap, q1, hu, ⟨F', lv', q2, fun i hi => (n2 i hi).elim (nn i) (Nat.le_trans c.size), fun g hg => ⟨fun hf => ?_, (m1 g hg).2, fun e => ?_⟩, fun g hg => ⟨(m g hg).1, Nat.le_trans c.size (m g hg).2⟩⟩, c.over c2 (fun i hi => .inr (nn i hi)), l1.cha c2 (fun g hg => (m1 g hg).1), l⟩
  · rcases n2 g hf with e | e
    · exact (m1 g hg).1 e
    · have := l1.lt hg; omega
  · have := l1.lt hg
    have := (m g e).2
    omega
/-- Behind the two appends: the first list is done with, the long one is kept. -/
theorem Keep.join {w2 : World} {l2 l3 : Value} (h : Keep w0 w bt bp P a v A u B) (k1 : IApp w w' (.slice none 0 0) A l2) (k2 : IApp w' w2 l2 N l3) : Keep w0 w2 bt bp P a v A l3 N := by
  obtain ⟨⟨F, lv, t, n1, n2, n3⟩, c0, q1, q2⟩ := h
  have c1 : Cha (fun _ => False) w w' := k1.cha.mono fun i _ e => by cases e
  have own : ∀ g, l2.ownBlock = some g → w.heap.size ≤ g := fun g hg => (k1.at' g hg).resolve_left (fun e => by cases e)
  have c2 : Cha (fun _ => False) w w2 := c1.over k2.cha fun i hi => .inr (own i hi)
  have own3 : ∀ g, l3.ownBlock = some g → w.heap.size ≤ g := fun g hg => (k2.at' g hg).elim (own g) (Nat.le_trans c1.size)
  refine ⟨⟨F, lv, t.same c2, n1, fun g hg => ⟨(n2 g hg).1, (n2 g hg).2.1, fun e => ?_⟩, fun g hg => ⟨fun hf => ?_, Nat.le_trans c0.size (own3 g hg)⟩⟩, c0.trans c2, q1.cha c2 (fun _ _ f => f), k2.lies⟩
  · have := q1.lt hg; have := own3 g e; omega
  · have := t.old g hf; have := own3 g hg; omega
end Go.Proofs.Yteogepfolifneaa
