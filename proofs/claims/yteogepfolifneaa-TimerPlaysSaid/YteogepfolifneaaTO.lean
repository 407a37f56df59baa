/- Timers that a law made; two lists held against one another; awake. -/
import Derived.Test.YteogepfolifneaaTN
import Derived.Test.YteogepfolifneaaTI
namespace Go.Proofs.Yteogepfolifneaa
open Go.ChangeShapes Go.WideShapes Go.ChangeAt Go.RowKit
variable {w0 w w' : World} {F F' : Nat → Prop} {bt bp p : Nat} {lv : Nat → Value} {P P' : List (List Ent)} {a b x t now : Int} {y e : Ent} {E L L' L2 M : List Ent} {v v' : Value} {A : List Int}

theorem alike_same {s1 s2 : Option Addr} {n m c d : Nat} {L : List Int} (h1 : Lies w (.slice s1 n c) L) (h2 : Lies w (.slice s2 m d) L) :
    Calls Try.prog 28 #[.slice s1 n c, .slice s2 m d] w fun e w' => e = .returned (.bool true) ∧ Cha (fun _ => False) w w' := by
  have hn : n = L.length := by obtain ⟨a', cap', e, _⟩ := h1.form; cases e; rfl
  have hm : m = L.length := by obtain ⟨a', cap', e, _⟩ := h2.form; cases e; rfl
  obtain rfl : m = n := hm.trans hn.symm
  have Z1 := Lib.hid h1
  have Z2 := Lib.hid h2
  have HN := Lib.hid hn
  have H0 := Lib.hid (Cha.refl (fun _ => False) w)
  clear h1 h2 hm hn
  go_enter Try.func28, Try.ntmps28
  go_wp2
  go_loopw [13] (fun i wr => ∃ j : Nat, j ≤ m ∧ i = .int .i64 (j : Int) ∧ Cha (fun _ => False) w wr) (fun i _ => m - (intOf i).toNat)
  case atStart => exact ⟨0, Nat.zero_le _, rfl, H0.out⟩
  case round =>
    obtain ⟨j, hj, rfl, hC⟩ := hrel
    have HC := Lib.hid hC
    clear hC
    by_cases hlt : j < m
    · obtain ⟨g, o, cap, e1, z1, q1, q2⟩ := (Z1.out.cha HC.out (fun _ _ f => f)).at (i := j) (by rw [← HN.out]; exact hlt)
      obtain ⟨g2, o2, cap2, e2, z2, _, _⟩ := (Z2.out.cha HC.out (fun _ _ f => f)).at (i := j) (by rw [← HN.out]; exact hlt)
      rw [← HN.out] at q1
      cases e1
      cases e2
      unfold maxLen at q2
      have k1 : (j : Int) < (L.length : Int) := by have := HN.out; omega
      have k2 : (0 : Int) ≤ (j : Int) := by omega
      have k3 : L.length ≤ 9223372036854775807 := by have := HN.out; omega
      obtain ⟨x, hx⟩ : ∃ x, x = L.getD j 0 := ⟨_, rfl⟩
      rw [← hx] at z1 z2
      clear hx q1 q2
      go_wp2
      go_region
      go_wp2
      go_roundw
      case rel => exact ⟨j + 1, by omega, by go_num, HC.out.drew⟩
      case measure => simp [intOf]; omega
    · have k1 : ¬ (j : Int) < (m : Int) := by omega
      go_wp2
      go_ret
      exact ⟨rfl, HC.out⟩

/-- Timers that were made since w0. -/
def Tl (w0 w : World) (bt bp : Nat) (P : List (List Ent)) (a : Int) : Prop := ∃ F lv, Ts w F bt bp lv P a ∧ Cha (fun _ => False) w0 w ∧ ∀ i, F i → w0.heap.size ≤ i
/-- And a list of ids beside them. -/
def Tlv (w0 w : World) (bt bp : Nat) (P : List (List Ent)) (a : Int) (v : Value) (A : List Int) : Prop :=
  ∃ F lv, Ts w F bt bp lv P a ∧ Cha (fun _ => False) w0 w ∧ (∀ i, F i → w0.heap.size ≤ i) ∧ Lies w v A ∧ ∀ g, v.ownBlock = some g → ¬ F g ∧ w0.heap.size ≤ g
theorem Tlv.tl (h : Tlv w0 w bt bp P a v A) : Tl w0 w bt bp P a := by obtain ⟨F, lv, q, c, n, _⟩ := h; exact ⟨F, lv, q, c, n⟩
theorem Tlv.lies (h : Tlv w0 w bt bp P a v A) : Lies w v A := by obtain ⟨F, lv, q, c, n, l, _⟩ := h; exact l
theorem Tl.same (h : Tl w0 w bt bp P a) (c : Cha (fun _ => False) w w') : Tl w0 w' bt bp P a := by
  obtain ⟨F, lv, q, k, n⟩ := h
  exact ⟨F, lv, q.same c, k.trans c, n⟩
theorem Tlv.same (h : Tlv w0 w bt bp P a v A) (c : Cha (fun _ => False) w w') : Tlv w0 w' bt bp P a v A := by
  obtain ⟨F, lv, q, k, n, l, m⟩ := h
  exact ⟨F, lv, q.same c, k.trans c, n, l.cha c (fun _ _ f => f), m⟩
theorem Tl.cha (h : Tl w0 w bt bp P a) : Cha (fun _ => False) w0 w := by obtain ⟨F, lv, q, k, n⟩ := h; exact k
theorem Tl.left (h : Tl w0 w bt bp P a) (k : ∀ F lv, Ts w F bt bp lv P a → TLeft w w' F bt bp P' b) : Tl w0 w' bt bp P' b := by
  obtain ⟨F, lv, q, c, n⟩ := h
  obtain ⟨F', lv', q', c', _, m⟩ := k F lv q
  refine ⟨F', lv', q', c.over c' (fun i hi => .inr (n i hi)), fun i hi => ?_⟩
  rcases m i hi with e | e
  · exact n i e
  · exact Nat.le_trans c.size e
theorem tl_new (n : Nat) (hc : Cha (fun _ => False) w0 w) (h1 : 1 ≤ n) (h2 : n ≤ 8) : Calls Try.prog 23 #[.int .i64 (n : Int)] w fun e w' => e = .returned (.tuple #[.pointer (some ⟨w.heap.size + 1, 0, none⟩), .int .i64 0]) ∧ Tl w0 w' (w.heap.size + 1) w.heap.size (List.replicate n []) 0 :=
  (tnew_ok n w h1 h2).mono fun e w' ⟨q1, q, c⟩ => ⟨q1, _, _, q, hc.trans c, fun i hi => by have := hc.size; omega⟩
/-- L with one more. -/
structure Added (L : List Ent) (e : Ent) (L' : List Ent) : Prop where
  up : Rises L'
  mem : ∀ x, x ∈ L' ↔ x = e ∨ x ∈ L
  len : L'.length = L.length + 1
theorem Added.eq (h : Added L e L') (hr : Rises M) (hm : ∀ x, x ∈ M ↔ x = e ∨ x ∈ L) : L' = M := h.up.unique hr fun x => (h.mem x).trans (hm x).symm
theorem Added.lo (h : Added L e L') (hl : ∀ x ∈ L, x.order < a) (he : e.order = a) : ∀ x ∈ L', x.order < a + 1 := fun x hx => by
  rcases (h.mem x).1 hx with rfl | hx
  · omega
  · have := hl x hx; omega
theorem many_at (hp : P[p]? = some L) : L.length ≤ many P := by
  have hpl := (List.getElem?_eq_some_iff.1 hp).1
  have e1 := many_take P p hpl
  have e2 := many_le P (p + 1)
  have e3 : P.getD p [] = L := by simp [List.getD, hp]
  rw [e3] at e1
  omega
theorem tl_add (h : Tl w0 w bt bp P a) (ht : Tidy P a) (hp : P[p]? = some L) (hm : many P < 1024) (ha : 0 ≤ a) (ha2 : a < 2 ^ 63) (t n : Int) :
    Calls Try.prog 26 #[.pointer (some ⟨bt, 0, none⟩), .int .i64 (p : Int), .int .u64 t, .int .i64 n] w fun e w' => e = .returned (.int .i64 0) ∧ ∃ L', Added L ⟨t, a, n⟩ L' ∧ Tl w0 w' bt bp (P.set p L') (a + 1) := by
  obtain ⟨F, lv, q, c, nn⟩ := h
  refine (tadd_ok p t n q hp hm ha ha2 fun i j => (ht.up p L hp).mono _ i j).mono fun e w' ⟨a1, i, hpl, hl⟩ => ⟨a1, _, ⟨(ht.up p L hp).ins (fun x hx => ht.lo p L hp x hx) hpl, fun x => mem_ins, len_ins⟩, ?_⟩
  obtain ⟨F', lv', q', c', _, m⟩ := hl
  exact ⟨F', lv', q', c.over c' (fun i hi => .inr (nn i hi)), fun i hi => (m i hi).elim (nn i) (Nat.le_trans c.size)⟩
theorem tl_full (h : Tl w0 w bt bp P a) (hp : p < P.length) (hm : many P = 1024) (t n : Int) :
    Calls Try.prog 26 #[.pointer (some ⟨bt, 0, none⟩), .int .i64 (p : Int), .int .u64 t, .int .i64 n] w fun e w' => e = .returned (.int .i64 3) ∧ Tl w0 w' bt bp P a := by
  have h0 := h
  obtain ⟨F, lv, q, c, nn⟩ := h0
  exact (tadd_full p t n q hp hm).mono fun e w' ⟨q1, k, e2⟩ => ⟨q1, by rw [e2]; exact h.same ((Cha.refl _ w).drewN k)⟩
theorem tl_bad (h : Tl w0 w bt bp P a) (p t n : Int) (hp : p < 0 ∨ (P.length : Int) ≤ p) :
    Calls Try.prog 26 #[.pointer (some ⟨bt, 0, none⟩), .int .i64 p, .int .u64 t, .int .i64 n] w fun e w' => e = .returned (.int .i64 1) ∧ w = w' := by
  obtain ⟨F, lv, q, c, nn⟩ := h
  exact tadd_bad p t n q hp
theorem tl_count (h : Tl w0 w bt bp P a) (hm : many P ≤ 1024) : Calls Try.prog 35 #[.pointer (some ⟨bt, 0, none⟩)] w fun e w' => e = .returned (.int .i64 (many P : Int)) ∧ Cha (fun _ => False) w w' := by
  obtain ⟨F, lv, q, c, nn⟩ := h
  exact (tcount_any q hm).mono fun e w' ⟨q1, k, e2⟩ => ⟨q1, by rw [e2]; exact (Cha.refl _ w).drewN k⟩
theorem tl_next (h : Tl w0 w bt bp P a) (hp : P[p]? = some (y :: L)) : Calls Try.prog 33 #[.pointer (some ⟨bt, 0, none⟩), .int .i64 (p : Int)] w fun e w' => e = .returned (.tuple #[.int .u64 y.when, .bool true]) ∧ w = w' := by
  obtain ⟨F, lv, q, c, nn⟩ := h
  exact tnext_some p q hp
theorem tl_due (h : Tl w0 w bt bp P a) (hp : P[p]? = some L) (hl : L.length ≤ 1024) (now : Int) :
    Calls Try.prog 29 #[.pointer (some ⟨bt, 0, none⟩), .int .i64 (p : Int), .int .u64 now] w fun e w' => ∃ k s c, e = .returned (.slice s k c) ∧ Upto L now k ∧ Tlv w0 w' bt bp (P.set p (L.drop k)) a (.slice s k c) ((L.take k).map Ent.id) := by
  obtain ⟨F, lv, q, c, nn⟩ := h
  refine (tdue_ok p q hp hl).mono fun e w' ⟨k, v, q1, hu, l, F', lv', q2, c2, n1, n2, m⟩ => ?_
  have hle : ((L.take k).map Ent.id).length = k := by have := hu.le; simp only [List.length_map, List.length_take]; omega
  obtain ⟨s, cap, rfl, -⟩ := l.form
  rw [hle] at *
  exact ⟨k, s, cap, q1, hu, F', lv', q2, c.over c2 (fun i hi => .inr (nn i hi)), fun i hi => (n2 i hi).elim (nn i) (Nat.le_trans c.size), l, fun g hg => ⟨(m g hg).1, Nat.le_trans c.size (m g hg).2⟩⟩
/-- With one more, the list told. -/
theorem tl_add_is (h : Tl w0 w bt bp P a) (ht : Tidy P a) (hp : P[p]? = some L) (hm : many P < 1024) (ha : 0 ≤ a) (ha2 : a < 2 ^ 63) (t n : Int) (hr : Rises M) (hmm : ∀ x, x ∈ M ↔ x = ⟨t, a, n⟩ ∨ x ∈ L) (hP : P.set p M = P') (hb : b = a + 1) :
    Calls Try.prog 26 #[.pointer (some ⟨bt, 0, none⟩), .int .i64 (p : Int), .int .u64 t, .int .i64 n] w fun e w' => e = .returned (.int .i64 0) ∧ Tl w0 w' bt bp P' b := by
  refine (tl_add h ht hp hm ha ha2 t n).mono fun e w' ⟨q1, L', hA, hT⟩ => ⟨q1, ?_⟩
  rw [hA.eq hr hmm, hP, ← hb] at hT
  exact hT
theorem tidy_one (hr : Rises L) (hl : ∀ x ∈ L, x.order < a) : Tidy [L] a := by
  refine ⟨fun q M hq => ?_, fun q M hq => ?_⟩
  all_goals
    rcases q with _ | q
    · cases hq; assumption
    · cases hq
theorem ent_lt1 : Ent.lt ⟨3, 1, 2⟩ ⟨5, 0, 1⟩ := .inl (by decide)
theorem ent_lt2 : Ent.lt ⟨3, 1, 2⟩ ⟨5, 2, 3⟩ := .inl (by decide)
theorem ent_lt3 : Ent.lt ⟨5, 0, 1⟩ ⟨5, 2, 3⟩ := .inr (by decide)
theorem r1 : Rises [⟨5, 0, 1⟩] := List.pairwise_singleton _ _
theorem r2 : Rises [⟨3, 1, 2⟩, ⟨5, 0, 1⟩] := List.pairwise_cons.2 ⟨fun x hx => by rw [List.mem_singleton.1 hx]; exact ent_lt1, r1⟩
theorem r3 : Rises [⟨3, 1, 2⟩, ⟨5, 0, 1⟩, ⟨5, 2, 3⟩] := List.pairwise_cons.2 ⟨fun x hx => by
  rcases List.mem_cons.1 hx with rfl | hx
  · exact ent_lt1
  · rw [List.mem_singleton.1 hx]; exact ent_lt2, List.pairwise_cons.2 ⟨fun x hx => by rw [List.mem_singleton.1 hx]; exact ent_lt3, List.pairwise_singleton _ _⟩⟩
set_option maxHeartbeats 1000000 in
theorem tawake_any (w : World) : Calls Try.prog 25 #[] w fun e w' => e = .returned (.bool true) ∧ Cha (fun _ => False) w w' := by
  have C0 : Calls Try.prog 23 #[.int .i64 1] w fun e w' => e = .returned (.tuple #[.pointer (some ⟨w.heap.size + 1, 0, none⟩), .int .i64 0]) ∧ Tl w w' (w.heap.size + 1) w.heap.size [[]] 0 := tl_new 1 (Cha.refl _ w) (by decide) (by decide)
  have C0 := Lib.hid C0
  have A1 : Hid (∀ W bt bp, Tl w W bt bp [[]] 0 → Calls Try.prog 26 #[.pointer (some ⟨bt, 0, none⟩), .int .i64 0, .int .u64 5, .int .i64 1] W fun e w' => e = .returned (.int .i64 0) ∧ Tl w w' bt bp [[⟨5, 0, 1⟩]] 1) := Lib.hid fun W bt bp h =>
    tl_add_is (p := 0) h (tidy_one List.Pairwise.nil (fun x hx => by cases hx)) rfl (by decide) (by decide) (by decide) 5 1 r1 (fun x => by simp) rfl rfl
  have A2 : Hid (∀ W bt bp, Tl w W bt bp [[⟨5, 0, 1⟩]] 1 → Calls Try.prog 26 #[.pointer (some ⟨bt, 0, none⟩), .int .i64 0, .int .u64 3, .int .i64 2] W fun e w' => e = .returned (.int .i64 0) ∧ Tl w w' bt bp [[⟨3, 1, 2⟩, ⟨5, 0, 1⟩]] 2) := Lib.hid fun W bt bp h =>
    tl_add_is (p := 0) h (tidy_one r1 (fun x hx => by rw [List.mem_singleton.1 hx]; decide)) rfl (by decide) (by decide) (by decide) 3 2 r2 (fun x => by simp) rfl rfl
  have A3 : Hid (∀ W bt bp, Tl w W bt bp [[⟨3, 1, 2⟩, ⟨5, 0, 1⟩]] 2 → Calls Try.prog 26 #[.pointer (some ⟨bt, 0, none⟩), .int .i64 0, .int .u64 5, .int .i64 3] W fun e w' => e = .returned (.int .i64 0) ∧ Tl w w' bt bp [[⟨3, 1, 2⟩, ⟨5, 0, 1⟩, ⟨5, 2, 3⟩]] 3) := Lib.hid fun W bt bp h =>
    tl_add_is (p := 0) h (tidy_one r2 (fun x hx => by simp at hx; rcases hx with rfl | rfl <;> decide)) rfl (by decide) (by decide) (by decide) 5 3 r3 (fun x => ⟨fun h => by simp at h ⊢; rcases h with h | h | h <;> simp [h], fun h => by simp at h ⊢; rcases h with h | h | h <;> simp [h]⟩) rfl rfl
  have N1 : Hid (∀ W bt bp, Tl w W bt bp [[⟨3, 1, 2⟩, ⟨5, 0, 1⟩, ⟨5, 2, 3⟩]] 3 → Calls Try.prog 33 #[.pointer (some ⟨bt, 0, none⟩), .int .i64 0] W fun e w' => e = .returned (.tuple #[.int .u64 3, .bool true]) ∧ W = w') := Lib.hid fun W bt bp h => tl_next (p := 0) h rfl
  have D1 : Hid (∀ W bt bp, Tl w W bt bp [[⟨3, 1, 2⟩, ⟨5, 0, 1⟩, ⟨5, 2, 3⟩]] 3 → Calls Try.prog 29 #[.pointer (some ⟨bt, 0, none⟩), .int .i64 0, .int .u64 5] W fun e w' => ∃ s c, e = .returned (.slice s 3 c) ∧ Tlv w w' bt bp [[]] 3 (.slice s 3 c) [2, 1, 3]) := Lib.hid fun W bt bp h => by
    refine (tl_due (p := 0) h rfl (by decide) 5).mono fun e w' ⟨k, s, c, q1, hu, hT⟩ => ?_
    have hk : k = 3 := by
      have h1 := hu.le
      have h1 : k ≤ 3 := h1
      have h2 := hu.hi
      rcases (by omega : k = 0 ∨ k = 1 ∨ k = 2 ∨ k = 3) with rfl | rfl | rfl | rfl
      · exact absurd (h2 (by decide)) (by decide)
      · exact absurd (h2 (by decide)) (by decide)
      · exact absurd (h2 (by decide)) (by decide)
      · rfl
    subst hk
    exact ⟨s, c, q1, hT⟩
  have K1 : Hid (∀ W bt bp, Tl w W bt bp [[]] 3 → Calls Try.prog 35 #[.pointer (some ⟨bt, 0, none⟩)] W fun e w' => e = .returned (.int .i64 0) ∧ Cha (fun _ => False) W w') := Lib.hid fun W bt bp h => tl_count h (by decide)
  have S1 : Hid (∀ (W : World) (s1 s2 : Option Addr) (c d : Nat), Lies W (.slice s1 3 c) [2, 1, 3] → Lies W (.slice s2 3 d) [2, 1, 3] → Calls Try.prog 28 #[.slice s1 3 c, .slice s2 3 d] W fun e w' => e = .returned (.bool true) ∧ Cha (fun _ => False) W w') := Lib.hid fun W s1 s2 c d h1 h2 => alike_same h1 h2
  have B1 : Hid (∀ W : World, Lies (W.alloc (.cells #[.int .i64 2, .int .i64 1, .int .i64 3] 3)) (.slice (some ⟨W.heap.size, 0, none⟩) 3 3) [2, 1, 3]) := Lib.hid fun W => .inr ⟨W.heap.size, 0, 3, _, rfl, by decide, by decide, heap_alloc_new W _, by decide, fun i hi => by
    have hi : i < 3 := hi
    rcases (by omega : i = 0 ∨ i = 1 ∨ i = 2) with rfl | rfl | rfl <;> rfl⟩
  go_enter Try.func25, Try.ntmps25
  go_wp2_with (first
    | (go_at_call 23; ((with_reducible refine (C0.out).mono ?_); rintro e w1 ⟨rfl, h⟩; have H1 := Lib.hid h; clear h))
    | (go_at_call 26; ((with_reducible refine (A1.out _ _ _ H1.out).mono ?_); rintro e w2 ⟨rfl, h⟩; have H2 := Lib.hid h; clear h))
    | (go_at_call 26; ((with_reducible refine (A2.out _ _ _ H2.out).mono ?_); rintro e w3 ⟨rfl, h⟩; have H3 := Lib.hid h; clear h))
    | (go_at_call 26; ((with_reducible refine (A3.out _ _ _ H3.out).mono ?_); rintro e w4 ⟨rfl, h⟩; have H4 := Lib.hid h; clear h))
    | (go_at_call 33; ((with_reducible refine (N1.out _ _ _ H4.out).mono ?_); rintro e w5 ⟨rfl, rfl⟩))
    | (go_at_call 29; ((with_reducible refine (D1.out _ _ _ H4.out).mono ?_); rintro e w6 ⟨s6, c6, rfl, h⟩; have H6 := Lib.hid (h.same ((Cha.refl _ w6).alloc (.cells #[.int .i64 2, .int .i64 1, .int .i64 3] 3))); clear h))
    | (go_at_call 28; ((with_reducible refine (S1.out _ _ _ _ _ H6.out.lies (B1.out _)).mono ?_); rintro e w7 ⟨rfl, h⟩; have H7 := Lib.hid (H6.out.tl.same h); clear h))
    | (go_at_call 35; ((with_reducible refine (K1.out _ _ _ H7.out).mono ?_); rintro e w8 ⟨rfl, h⟩; have H8 := Lib.hid (H7.out.cha.trans h); clear h)))
  go_ret
  exact ⟨rfl, H8.out⟩
end Go.Proofs.Yteogepfolifneaa
