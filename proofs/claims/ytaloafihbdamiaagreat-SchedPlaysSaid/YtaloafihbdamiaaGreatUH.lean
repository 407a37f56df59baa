/- The document's timers: Due, walked. -/
import Derived.Test.YtaloafihbdamiaaGreatUF
import Derived.Room.AppendZeros
import Derived.Test.YtaloafihbdamiaaGreatTU
namespace Go.Proofs.YtaloafihbdamiaaGreat
open Go.ChangeShapes Go.WideShapes Go.ChangeAt Go.RowKit
variable {w w' w1 w2 W : World} {F F' S : Nat → Prop} {bd n m cap g o b : Nat} {v v' u l : Value} {D D' N : List Tm} {p q t id now : Int} {a : Option Addr} {A : List Int}

def lenV : Value → Nat
  | .slice _ n _ => n
  | _ => 0
def DDue (w : World) (F : Nat → Prop) (bd n : Nat) (D : List Tm) (p now : Int) (e : Ending) (w' : World) : Prop :=
  ∃ l A D', e = .returned l ∧ Steps p now D A D' ∧ Halts p now D' ∧ Cur w F bd n w' D' l A
theorem cur_start (h : Dt w F bd n v D) : Cur w F bd n w D (.slice none 0 0) [] :=
  ⟨⟨F, v, h, fun i hi => .inl hi, fun g hg => by cases hg⟩, Cha.refl _ _, Lies.nil _⟩
theorem Cur.drewN (h : Cur w F bd n w1 D l A) (k : Nat) : Cur w F bd n (w1.drewN k) D l A := by
  obtain ⟨⟨F', v, t, n1, n2⟩, c, q⟩ := h
  exact ⟨⟨F', v, t.same ((Cha.refl _ w1).drewN k), n1, n2⟩, c.drewN k, q.cha ((Cha.refl (fun _ => False) w1).drewN k) (fun _ _ f => f)⟩
set_option maxRecDepth 100000 in
set_option maxHeartbeats 4000000 in
theorem ddue_ok (p now : Int) (h : Dt w F bd n v D) (hl : D.length ≤ 1024) : Calls Tryz.prog 79 #[.pointer (some ⟨bd, 0, none⟩), .int .i64 p, .int .u64 now] w (DDue w F bd n D p now) := by
  have H := Lib.hid (cur_start h)
  have HL := Lib.hid hl
  clear h hl
  go_enter Tryz.func79, Tryz.ntmps79
  go_wp2
  go_loopw [7] (fun l wr => ∃ (A : List Int) (D' : List Tm), Steps p now D A D' ∧ Cur w F bd n wr D' l A) (fun l _ => D.length - lenV l)
  case atStart => exact ⟨[], D, Steps.nil, H.out⟩
  case round =>
    clear H
    obtain ⟨A, D', hS, hC⟩ := hrel
    have HS := Lib.hid hS
    have HC := Lib.hid hC
    have hlen := hS.len
    obtain ⟨sl, cl, rfl, -⟩ := hC.lies.form
    obtain ⟨⟨F', v, hT, hn, ho⟩, hcc, hll⟩ := hC
    have HT := Lib.hid hT
    have HO := Lib.hid ho
    have HN := Lib.hid hn
    have HCC := Lib.hid hcc
    have HLL := Lib.hid hll
    have C := Lib.hid (dfirst_any p hT (by have := HL.out; omega))
    obtain ⟨s, cap, rfl, _, hmx⟩ := hT.l.form
    have c1 := hT.list
    obtain ⟨q, hq⟩ : ∃ q, q = A.length := ⟨_, rfl⟩
    have HQ := Lib.hid hq
    rw [← hq] at HC HO HLL
    have hml : D'.length ≤ 1024 := by have := HL.out; omega
    have hlen2 := Lib.hid hlen
    clear hT hn ho hcc hll hS hmx
    rcases bst_range D' p D'.length with hb | ⟨b, hb, hbl, -⟩
    · have hh : Hid (Halts p now D') := Lib.hid (.inl hb)
      rw [hb] at C
      rw [← hq]
      clear hlen hq hb c1 hml
      go_wp2_with (go_at_call 80; ((with_reducible refine (C.out).mono ?_); rintro e w1 ⟨rfl, k, rfl⟩))
      go_returns
      exact ⟨_, A, D', rfl, HS.out, hh.out, HC.out.drewN k⟩
    · obtain ⟨g, o, rfl, hz⟩ := tm_at HT.out.l (by omega)
      obtain ⟨_, z1, z2⟩ := hz wr (Cha.refl _ _) b hbl
      have HB := Lib.hid hb
      rw [hb] at C
      have y1 : (b : Int) < (D'.length : Int) := by omega
      have y2 : (0 : Int) ≤ (b : Int) := by omega
      have y3 : ¬ ((b : Int) < 0) := by omega
      by_cases hw : now < (D'.getD b d0).when
      · have hh : Hid (Halts p now D') := Lib.hid (.inr ⟨b, hb, hbl, hw⟩)
        rw [← hq]
        generalize (D'.getD b d0).when = t at *
        generalize (D'.getD b d0).id = x at *
        generalize hm0 : D'.length = m at *
        clear hlen hq hb hz hm0 hml
        go_wp2_with (go_at_call 80; ((with_reducible refine (C.out).mono ?_); rintro e w1 ⟨rfl, k, rfl⟩))
        go_returns
        exact ⟨_, A, D', rfl, HS.out, hh.out, HC.out.drewN k⟩
      · have ST : Hid (Steps p now D (A ++ [(D'.getD b d0).id]) (D'.take b ++ D'.drop (b + 1))) := Lib.hid (.next b HS.out hb hbl (by omega))
        have hlen3 := Lib.hid ST.out.len
        obtain ⟨x, hx⟩ : ∃ x, x = (D'.getD b d0).id := ⟨_, rfl⟩
        obtain ⟨m, hm⟩ : ∃ m, m = D'.length := ⟨_, rfl⟩
        have JJ : Hid (∀ k w3 g3 o3 cap3, App ((wr.drewN k).alloc (.cells #[.int .i64 x] 3)) w3 (.slice sl q cl) A [x] g3 o3 cap3 → ∃ s4 n4 c4 w4 s5 n5 c5 w5, w3.cell? ⟨bd, 1, none⟩ = some (.slice (some ⟨g, o, none⟩) m cap) ∧ (Builtin.append_ #[44, 44] 44 #[.slice none 0 0, .slice (some ⟨g, o, none⟩) b cap]).run Tryz.prog w3 = .ok (.slice s4 n4 c4) w4 ∧ w4.cell? ⟨bd, 1, none⟩ = some (.slice (some ⟨g, o, none⟩) m cap) ∧
            (Builtin.append_ #[44, 44] 44 #[.slice s4 n4 c4, .slice (some ⟨g, if cap = b + 1 then o else o + (b + 1) * 3, none⟩) (m - (b + 1)) (cap - (b + 1))]).run Tryz.prog w4 = .ok (.slice s5 n5 c5) w5 ∧ w5.cell? ⟨bd, 1, none⟩ = some (.slice (some ⟨g, o, none⟩) m cap) ∧ w5.frozen? ⟨bd, 1, none⟩ = false ∧
            Cur w F bd n (w5.setCell ⟨bd, 1, none⟩ (.slice s5 n5 c5)) (D'.take b ++ D'.drop (b + 1)) (.slice (some ⟨g3, o3, none⟩) (q + 1) cap3) (A ++ [x])) := Lib.hid fun k w3 g3 o3 cap3 hA => by
          have T1 := HT.out.same ((Cha.refl _ wr).drewN k)
          rw [← hm] at T1
          have := due_step (w := w) (b := b) T1 HN.out HO.out (HCC.out.drewN k) hm (by omega) (by omega) hA
          rw [List.length_singleton, ← HQ.out] at this
          exact this
        have LA : Hid (∀ k, Lies ((wr.drewN k).alloc (.cells #[.int .i64 x] 3)) (.slice sl q cl) A) := Lib.hid fun k => by
          have := HLL.out
          exact this.cha (((Cha.refl (fun _ => False) wr).drewN k).alloc _) (fun _ _ f => f)
        have SL := tl64 g o m cap b (by omega)
        rw [← hx] at z2 ST
        rw [← hm] at c1 y1
        have hbm : b + 1 ≤ m := by omega
        have y4 : IntKind.i64.wrap ((b : Int) + 1) = (b : Int) + 1 := by rw [IntKind.wrap_i64]; omega
        have y5 : (b : Int) ≤ (cap : Int) := by
          obtain ⟨_, _, e, h1, _⟩ := HT.out.l.form
          cases e
          omega
        have hq1 : q ≤ 1024 := by have := HL.out; omega
        have hD : Hid (q + 1 ≤ D.length) := Lib.hid (by omega)
        rw [← hq]
        generalize hex : (if cap = b + 1 then o else o + (b + 1) * 3) = ex at *
        generalize (D'.getD b d0).when = t at *
        clear hlen hq hb hz hm hml hx hbl HS HC HB HT HO HN HCC hex hlen2 hlen3
        have HQ2 := HQ

        go_wp2_with (first
          | (go_at_call 80; ((with_reducible refine (C.out).mono ?_); rintro e w1 ⟨rfl, k, rfl⟩))
          | (at_builtin; (refine wpList_app rfl (.tmp 28) (.tmp 37) rfl (A := A) rfl (LA.out k) ⟨wr.heap.size, 0, none⟩ 1 1 [x] rfl rfl (one_new (wr.drewN k) _ _) Nat.zero_lt_one (by rw [← HQ2.out]; simp only [List.length_singleton]; omega) ?_; intro g3 o3 cap3 w3 hA3; obtain ⟨s4, n4, c4, w4, s5, n5, c5, w5, x3, r4, x4, r5, x5, x6, hcur⟩ := JJ.out k w3 g3 o3 cap3 hA3; have R4 := Lib.hid r4; have R5 := Lib.hid r5; have CU := Lib.hid hcur; clear hA3 r4 r5 hcur; rw [← HQ2.out]; simp only [List.length_singleton]))
          | (at_builtin; refine Lib.wpList_append_run _ rfl _ _ _ _ rfl _ _ rfl rfl _ _ R4.out ?_)
          | (at_builtin; refine Lib.wpList_append_run _ rfl _ _ _ _ rfl _ _ rfl rfl _ _ R5.out ?_))
        go_roundw
        case rel => exact ⟨_, _, ST.out, CU.out⟩
        case measure => have := hD.out; simp [lenV]; omega
end Go.Proofs.YtaloafihbdamiaaGreat

namespace Go.Proofs.YtaloafihbdamiaaGreat
variable {P : List (List Ent)} {X X' : List (Int × Ent)} {a now : Int} {L L' L1 L2 M : List Ent} {p q b k m : Nat} {e : Ent} {D D' : List Tm} {A : List Int}

theorem bst_none {D : List Tm} {p : Int} {j : Nat} (h : bst D p j = -1) : ∀ i, i < j → (D.getD i d0).p ≠ p := by
  induction j with
  | zero => intro i hi; omega
  | succ j ih =>
    intro i hi
    unfold bst at h
    split at h
    · omega
    · rename_i hc
      have hlow := ih h
      by_cases e : i = j
      · subst e
        intro hp
        exact hc ⟨hp, .inl (by rw [h]; omega)⟩
      · exact hlow i (by omega)
theorem bst_some {D : List Tm} {p : Int} {j b : Nat} (h : bst D p j = (b : Int)) : b < j ∧ (D.getD b d0).p = p ∧ ∀ i, i < j → (D.getD i d0).p = p → (D.getD b d0).when ≤ (D.getD i d0).when ∧ (i < b → (D.getD b d0).when < (D.getD i d0).when) := by
  induction j generalizing b with
  | zero => have h : (-1 : Int) = (b : Int) := h; omega
  | succ j ih =>
    unfold bst at h
    split at h
    · rename_i hc
      have hjb : j = b := by omega
      subst hjb
      refine ⟨by omega, hc.1, fun i hi hp => ?_⟩
      by_cases e : i = j
      · subst e; exact ⟨Int.le_refl _, fun h => absurd h (Nat.lt_irrefl _)⟩
      · rcases hc.2 with c | c
        · have hr : bst D p j = -1 := by rcases bst_range D p j with h | ⟨x, h, _⟩; exact h; omega
          exact absurd hp (bst_none hr i (by omega))
        · rcases bst_range D p j with hr | ⟨x, hr, _, _⟩
          · exact absurd hp (bst_none hr i (by omega))
          · rw [hr, Int.toNat_natCast] at c
            have := (ih hr).2.2 i (by omega) hp
            exact ⟨by omega, fun _ => by omega⟩
    · rename_i hc
      obtain ⟨h1, h2, h3⟩ := ih h
      refine ⟨by omega, h2, fun i hi hp => ?_⟩
      by_cases e : i = j
      · subst e
        rw [h, Int.toNat_natCast] at hc
        refine ⟨?_, fun h => by omega⟩
        by_cases c : (D.getD i d0).when < (D.getD b d0).when
        · exact absurd ⟨hp, .inr c⟩ hc
        · omega
      · exact h3 i (by omega) hp
def tmOf (x : Int × Ent) : Tm := ⟨x.1, x.2.when, x.2.id⟩
structure Match (P : List (List Ent)) (X : List (Int × Ent)) (a : Int) : Prop where
  neat : Neat P a
  up : X.Pairwise (fun x y => x.2.order < y.2.order)
  lo : ∀ x ∈ X, x.2.order < a
  pr : ∀ x ∈ X, 0 ≤ x.1 ∧ x.1 < (P.length : Int)
  mem : ∀ (p : Nat) (L : List Ent) (e : Ent), P[p]? = some L → (e ∈ L ↔ ((p : Int), e) ∈ X)
  cnt : many P = X.length
theorem get_tm {i : Nat} (hi : i < X.length) : (X.map tmOf).getD i d0 = tmOf X[i] := by simp [List.getD, hi]
theorem Match.none (h : Match P X a) (hp : P[p]? = some []) : bst (X.map tmOf) (p : Int) (X.map tmOf).length = -1 := by
  rcases bst_range (X.map tmOf) (p : Int) (X.map tmOf).length with hr | ⟨b, hr, h1, h2⟩
  · exact hr
  · exfalso
    rw [List.length_map] at h1
    rw [get_tm h1] at h2
    have h3 : (X[b]).1 = (p : Int) := h2
    have := (h.mem p [] (X[b]).2 hp).2 (by rw [← h3]; exact List.getElem_mem h1)
    cases this
theorem Match.first (h : Match P X a) (hp : P[p]? = some (e :: L)) : ∃ b : Nat, bst (X.map tmOf) (p : Int) (X.map tmOf).length = (b : Int) ∧ ∃ hb : b < X.length, X[b] = ((p : Int), e) := by
  have he := (h.mem p (e :: L) e hp).1 List.mem_cons_self
  obtain ⟨i0, hi0, e0⟩ := List.getElem_of_mem he
  rcases bst_range (X.map tmOf) (p : Int) (X.map tmOf).length with hr | ⟨b, hr, h1, h2⟩
  · exfalso
    have := bst_none hr i0 (by rw [List.length_map]; exact hi0)
    rw [get_tm hi0, e0] at this
    exact this rfl
  · have h1' := h1
    rw [List.length_map] at h1
    refine ⟨b, hr, h1, ?_⟩
    obtain ⟨_, s2, s3⟩ := bst_some hr
    rw [get_tm h1] at s2
    have s2 : (X[b]).1 = (p : Int) := s2
    have hbL : (X[b]).2 ∈ e :: L := (h.mem p (e :: L) _ hp).2 (by rw [← s2]; exact List.getElem_mem h1)
    have s4 := s3 i0 (by rw [List.length_map]; exact hi0) (by rw [get_tm hi0, e0]; rfl)
    rw [get_tm h1, get_tm hi0, e0] at s4
    have s4a : (X[b]).2.when ≤ e.when := s4.1
    have s4b : i0 < b → (X[b]).2.when < e.when := s4.2
    have hrise := h.neat.tidy.up p _ hp
    rcases List.mem_cons.1 hbL with c | c
    · exact Prod.ext s2 c
    · exfalso
      have hlt := (List.pairwise_cons.1 hrise).1 _ c
      unfold Ent.lt at hlt
      have hord : b ≤ i0 → (X[b]).2.order ≤ e.order := fun hle => by
        by_cases e1 : b = i0
        · subst e1; rw [e0]; exact Int.le_refl _
        · have := List.pairwise_iff_getElem.1 h.up b i0 h1 hi0 (by omega)
          rw [e0] at this
          exact Int.le_of_lt this
      by_cases c2 : i0 < b
      · have := s4b c2; omega
      · have := hord (by omega); omega
theorem Match.add (h : Match P X a) (hp : P[p]? = some L) (A : Added L e L') (he : e.order = a) : Match (P.set p L') (X ++ [((p : Int), e)]) (a + 1) := by
  have hpl := (List.getElem?_eq_some_iff.1 hp).1
  refine ⟨h.neat.add hp A he, List.pairwise_append.2 ⟨h.up, List.pairwise_singleton _ _, fun x hx y hy => ?_⟩, fun x hx => ?_, fun x hx => ?_, fun q M y hq => ?_, ?_⟩
  · rw [List.mem_singleton.1 hy]
    have := h.lo x hx
    show x.2.order < e.order
    omega
  · rcases List.mem_append.1 hx with hx | hx
    · have := h.lo x hx; omega
    · rw [List.mem_singleton.1 hx]; show e.order < a + 1; omega
  · rw [List.length_set]
    rcases List.mem_append.1 hx with hx | hx
    · exact h.pr x hx
    · rw [List.mem_singleton.1 hx]; show (0 : Int) ≤ (p : Int) ∧ (p : Int) < _; omega
  · rw [List.mem_append, List.mem_singleton]
    rcases set_at hq with ⟨rfl, rfl⟩ | ⟨hne, hq⟩
    · rw [A.mem, h.mem q L y hp]
      constructor
      · rintro (rfl | h)
        · exact .inr rfl
        · exact .inl h
      · rintro (h | h)
        · exact .inr h
        · exact .inl (Prod.ext_iff.1 h).2
    · rw [h.mem q M y hq]
      constructor
      · exact .inl
      · rintro (h | h)
        · exact h
        · have : (q : Int) = (p : Int) := (Prod.ext_iff.1 h).1
          omega
  · have := many_set (M := L') hp
    have := h.cnt
    have := A.len
    rw [List.length_append, List.length_singleton]; omega
theorem Match.rem (h : Match P X a) (hp : P[p]? = some (e :: L)) (hb : b < X.length) (hX : X[b] = ((p : Int), e)) : Match (P.set p L) (X.take b ++ X.drop (b + 1)) a := by
  have hsub : (X.take b ++ X.drop (b + 1)).Sublist X := by
    have : X.take b ++ X.drop (b + 1) = X.eraseIdx b := (List.eraseIdx_eq_take_drop_succ ..).symm
    rw [this]; exact List.eraseIdx_sublist ..
  have hX2 : X = X.take b ++ X[b] :: X.drop (b + 1) := by
    rw [← List.drop_eq_getElem_cons hb, List.take_append_drop]
  have hcut := h.neat.cut hp 1
  have hN : Neat (P.set p L) a := hcut
  have hup := h.up
  rw [hX2] at hup
  obtain ⟨u1, u2, u3⟩ := List.pairwise_append.1 hup
  have u4 := (List.pairwise_cons.1 u2).1
  have hnot : ((p : Int), e) ∉ X.take b ++ X.drop (b + 1) := fun hm => by
    rcases List.mem_append.1 hm with hm | hm
    · have := u3 _ hm _ List.mem_cons_self
      rw [hX] at this
      exact absurd this (Int.lt_irrefl _)
    · have := u4 _ hm
      rw [hX] at this
      exact absurd this (Int.lt_irrefl _)
  have hiff : ∀ y, y ∈ X ↔ y = ((p : Int), e) ∨ y ∈ X.take b ++ X.drop (b + 1) := fun y => by
    conv => lhs; rw [hX2, hX]
    simp only [List.mem_append, List.mem_cons]
    constructor
    · rintro (h | h | h)
      · exact .inr (.inl h)
      · exact .inl h
      · exact .inr (.inr h)
    · rintro (h | h | h)
      · exact .inr (.inl h)
      · exact .inl h
      · exact .inr (.inr h)
  refine ⟨hN, h.up.sublist hsub, fun x hx => h.lo x (hsub.mem hx), fun x hx => ?_, fun q M y hq => ?_, ?_⟩
  · rw [List.length_set]; exact h.pr x (hsub.mem hx)
  · rcases set_at hq with ⟨rfl, rfl⟩ | ⟨hne, hq⟩
    · have hr := (List.pairwise_cons.1 (h.neat.tidy.up q _ hp)).1
      have h1 := h.mem q (e :: M) y hp
      rw [hiff] at h1
      constructor
      · intro hy
        rcases h1.1 (List.mem_cons_of_mem _ hy) with c | c
        · have : y = e := (Prod.ext_iff.1 c).2
          rw [this] at hy
          exact absurd (hr e hy) (Ent.lt_irrefl _)
        · exact c
      · intro hy
        rcases List.mem_cons.1 (h1.2 (.inr hy)) with c | c
        · rw [c] at hy; exact absurd hy hnot
        · exact c
    · rw [h.mem q M y hq, hiff]
      constructor
      · rintro (c | c)
        · have : (q : Int) = (p : Int) := (Prod.ext_iff.1 c).1
          omega
        · exact c
      · exact .inr
  · have := many_set (M := L) hp
    have := h.cnt
    simp only [List.length_append, List.length_take, List.length_drop, List.length_cons] at *
    omega
end Go.Proofs.YtaloafihbdamiaaGreat
