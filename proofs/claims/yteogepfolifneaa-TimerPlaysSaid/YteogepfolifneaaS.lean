/- The document's queues: their state in memory; behind, Bad, New, Waiting, Last. -/
import Derived.Test.YteogepfolifneaaN
namespace Go.Proofs.Yteogepfolifneaa
open Go.ChangeShapes Go.WideShapes Go.ChangeAt Go.RowKit
variable {w w' W : World} {U U' T : Nat → Prop} {br bl bn on cn : Nat} {lv : Nat → Value} {va v : Value} {S : List Prc} {A N L : List Int} {x y : Int}

theorem Lies.setAt {g o n cap : Nat} (h : Lies w (.slice (some ⟨g, o, none⟩) n cap) A) {i : Nat} (hi : i < A.length) (x : Int) :
    Lies (w.setCell ⟨g, o + i, none⟩ (.int .i64 x)) (.slice (some ⟨g, o, none⟩) n cap) (A.set i x) := by
  rcases h with ⟨_, h⟩ | ⟨g', o', cap', cur, e, h1, h2, h3, h4, h5⟩
  · cases h
  · cases e
    refine .inr ⟨g, o, cap, _, by rw [List.length_set], by rw [List.length_set]; exact h1, h2, heap_setCell_same w g (o + i) cur 3 _ h3, by rw [Array.size_setIfInBounds]; exact h4, fun j hj => ?_⟩
    rw [List.length_set] at hj
    rw [Array.getElem?_setIfInBounds]
    by_cases e : j = i
    · subst e
      rw [if_pos rfl, if_pos (by omega)]
      simp [List.getD, List.getElem?_set_self hi]
    · rw [if_neg (by omega), h5 j hj]
      simp [List.getD, List.getElem?_set_ne (Ne.symm e)]
/-- A copy in new memory. -/
theorem run_copy (ty : TypeId) {w : World} {v : Value} {A : List Int} (h : Lies w v A) (b2 : A.length * 8 ≤ 140737488355328) :
    ∃ a cap w', (Builtin.append_ #[43, 43] ty #[.slice none 0 0, v]).run Try.prog w = .ok (.slice a A.length cap) w' ∧ Lies w' (.slice a A.length cap) A ∧ Cha (fun _ => False) w w' ∧ ∀ g, (Value.slice a A.length cap).ownBlock = some g → w.heap.size ≤ g := by
  obtain ⟨i0, hi, hz0, hz1, hz2⟩ := info_parts info3
  rcases h with ⟨rfl, rfl⟩ | ⟨g, o, cap, cur, rfl, h1, h2, h3, h4, h5⟩
  · refine ⟨none, 0, w, ?_, Lies.nil w, Cha.refl _ _, fun g hg => by cases hg⟩
    simp [Builtin.append_, run_underlying Try.underlying43, sizeOf, typeInfo, hi, Builtin.lenOf, Builtin.firstCells]
  · have hN : ∀ j u, (iz A)[j]? = some u → w.cell? ((⟨g, o, none⟩ : Addr).add j) = some u := fun j u hu => by
      have e : (⟨g, o, none⟩ : Addr).add j = ⟨g, o + j, none⟩ := by unfold Addr.add; split <;> simp_all
      rw [e, cell_of_row w g _ cur 3 (0, 0) h3]
      rw [iz_get] at hu
      have hj : j < A.length := by
        by_cases c : j < A.length
        · exact c
        · rw [List.getElem?_eq_none (by omega)] at hu; cases hu
      rw [h5 j hj, ← hu]
      simp [List.getD, List.getElem?_eq_getElem hj]
    obtain ⟨v', w', hr, r1, r2, _⟩ := run_append_own (P := Try.prog) w w.heap.size 43 ty 3 i0 _ 1 8 Try.underlying43 hi hz0 hz1 hz2 rfl (by decide) (.slice none 0 0) 0 [] (World.ownsRow_nil w _ 3 1) ⟨g, o, none⟩ A.length cap (iz A) (by simp [iz]) hN (one_int A) (by unfold maxLen; omega) (by simpa using b2) (Nat.le_refl _)
    have r1 : w'.ownsRow w.heap.size 3 1 v' A.length (iz A) := by simpa [iz] using r1
    have hL := Lies.of_own r1
    obtain ⟨a, cap', rfl, _⟩ := hL.form
    exact ⟨a, cap', w', hr, hL, (Cha.of_grownBy (S := fun _ => False) r2 (fun k e => by cases e)), fun g hg => (r1.lt g hg).1⟩
theorem wpList_copy {ops : Array Oper} {rest : List Oper} {o : Oper} {a : Act} {Q : Exit → Act → World → Prop} (hgd : o.guard = none) (s x : Operand) (ho : o.op = .call { callee := .builtin .append, args := #[s, x], argTypes := #[43, 43] })
    (hs : a.eval s = .slice none 0 0) (hx : a.eval x = v) (hl : Lies w v A) (b2 : A.length * 8 ≤ 140737488355328)
    (h : ∀ ad cap w', Lies w' (.slice ad A.length cap) A → Cha (fun _ => False) w w' → (∀ g, (Value.slice ad A.length cap).ownBlock = some g → w.heap.size ≤ g) → wpList Try.prog ops Q rest (a.put o.dst (.slice ad A.length cap)) w') : wpList Try.prog ops Q (o :: rest) a w := by
  obtain ⟨ad, cap, w', hr, k1, k2, k3⟩ := run_copy o.type hl b2
  refine wpList_plain hgd fun _ hK => ?_
  unfold Oper.wp execOp
  simp only [ho, resolve, invoke, builtin, Sem.run_bind, Sem.run_pure, Result.andThen_ok, List.map_toArray, List.map_cons, List.map_nil, hs, hx, hr]
  exact hK _ _ (h ad cap w' k1 k2 k3)
/-- A new list, with one more. -/
def Behind1 (A : List Int) (x : Int) (w : World) (e : Ending) (w' : World) : Prop := ∃ g o cap, e = .returned (.slice (some ⟨g, o, none⟩) (A.length + 1) cap) ∧ Lies w' (.slice (some ⟨g, o, none⟩) (A.length + 1) cap) (A ++ [x]) ∧ Cha (fun _ => False) w w' ∧ w.heap.size ≤ g ∧ g < w'.heap.size
theorem behind_any (x : Int) (h : Lies w v A) (b2 : (A.length + 1) * 8 ≤ 140737488355328) : Calls Try.prog 41 #[v, .int .i64 x] w (Behind1 A x w) := by
  obtain ⟨a, cap, rfl, _⟩ := h.form
  have H := Lib.hid h
  clear h
  obtain ⟨n, hn⟩ : ∃ n, n = A.length := ⟨_, rfl⟩
  have HN := Lib.hid hn
  rw [← hn] at H b2 ⊢
  clear hn
  go_enter Try.func41, Try.ntmps41
  go_wp2_with (first
    | (refine wpList_copy rfl (.tmp 6) (.tmp 7) rfl rfl rfl H.out (by rw [← HN.out]; omega) ?_; intro a2 cap2 w2 k1 k2 k3; rw [← HN.out] at k1 k3 ⊢; have K1 := Lib.hid k1; have K2 := Lib.hid k2; have K3 := Lib.hid k3; clear k1 k2 k3)
    | (refine wpList_app rfl (.tmp 9) (.tmp 11) rfl (v := .slice a2 n cap2) (A := A) rfl (K1.out.cha ((Cha.refl (fun _ => False) w2).alloc _) (fun _ _ f => f)) ⟨w2.heap.size, 0, none⟩ 1 1 [x] rfl rfl (one_new _ _ _) Nat.zero_lt_one (by rw [← HN.out]; simp only [List.length_singleton]; omega) ?_; intro g3 o3 cap3 w3 hA3; rw [← HN.out]; have A3 := Lib.hid hA3; clear hA3))
  go_ret
  have hl := A3.out.lies
  rw [← HN.out] at hl
  have s2 := K2.out.size
  have c3 := A3.out.cha
  refine ⟨g3, o3, cap3, by rw [← HN.out]; rfl, by rw [← HN.out]; exact hl, ((K2.out.alloc _).over c3 (fun i e => .inr (K3.out i e))), ?_, A3.out.lt⟩
  rcases A3.out.at' with e | e
  · exact K3.out _ e
  · rw [World.size_alloc] at e; omega

/-- The document's queues at block br: the next ones in bn, the lists' places at bl, the lists in blocks of U. -/
structure Rq (w : World) (U : Nat → Prop) (br bl bn on cn : Nat) (lv : Nat → Value) (va : Value) (S : List Prc) (A : List Int) : Prop where
  head : w.heap[br]? = some (.cells #[.slice (some ⟨bn, on, none⟩) S.length cn, .slice (some ⟨bl, 0, none⟩) S.length S.length, va] 81 (0, 0))
  k1 : 1 ≤ S.length
  k8 : S.length ≤ 8
  next : Lies w (.slice (some ⟨bn, on, none⟩) S.length cn) (S.map Prod.fst)
  loc : FRow 43 w bl S.length lv
  prc : ∀ (p : Nat) (x : Prc), S[p]? = some x → Lies w (lv p) x.2 ∧ ∀ g, (lv p).ownBlock = some g → U g
  all : Lies w va A
  allU : ∀ g, va.ownBlock = some g → U g
  d1 : br ≠ bl
  d2 : br ≠ bn
  d3 : bl ≠ bn
  u1 : ¬ U br
  u2 : ¬ U bl
  u3 : ¬ U bn
  old : ∀ i, U i → i < w.heap.size
section
variable (h : Rq w U br bl bn on cn lv va S A)
include h
theorem Rq.lt : br < w.heap.size ∧ bl < w.heap.size ∧ bn < w.heap.size := ⟨(Array.getElem?_eq_some_iff.1 h.head).1, h.loc.lt, h.next.lt rfl⟩
/-- What else changes. -/
theorem Rq.cha (c : Cha T w w') (h1 : ¬ T br) (h2 : ¬ T bl) (h3 : ¬ T bn) (h4 : ∀ i, U i → ¬ T i) : Rq w' U br bl bn on cn lv va S A :=
  ⟨(c.old _ h.lt.1 h1).trans h.head, h.k1, h.k8, h.next.cha c (fun g hg => by cases hg; exact h3), c.row h.loc h2, fun p x hx => ⟨(h.prc p x hx).1.cha c (fun g hg => h4 g ((h.prc p x hx).2 g hg)), (h.prc p x hx).2⟩, h.all.cha c (fun g hg => h4 g (h.allU g hg)), h.allU, h.d1, h.d2, h.d3, h.u1, h.u2, h.u3, fun i hi => Nat.lt_of_lt_of_le (h.old i hi) c.size⟩
theorem Rq.same (c : Cha (fun _ => False) w w') : Rq w' U br bl bn on cn lv va S A := h.cha c (fun f => f) (fun f => f) (fun f => f) (fun _ _ f => f)
theorem Rq.drew : Rq w.drew U br bl bn on cn lv va S A := h.same (Cha.refl _ w).drew
/-- More blocks of lists. -/
theorem Rq.wide (hu : ∀ i, U i → U' i) (h1 : ¬ U' br) (h2 : ¬ U' bl) (h3 : ¬ U' bn) (ho : ∀ i, U' i → i < w.heap.size) : Rq w U' br bl bn on cn lv va S A :=
  ⟨h.head, h.k1, h.k8, h.next, h.loc, fun p x hx => ⟨(h.prc p x hx).1, fun g hg => hu g ((h.prc p x hx).2 g hg)⟩, h.all, fun g hg => hu g (h.allU g hg), h.d1, h.d2, h.d3, h1, h2, h3, ho⟩
theorem Rq.nxt (p : Nat) (x : Int) {L : List Int} (hp : S[p]? = some (y, L)) : Rq (w.setCell ⟨bn, on + p, none⟩ (.int .i64 x)) U br bl bn on cn lv va (S.set p (x, L)) A := by
  have c : Cha (fun i => i = bn) w (w.setCell ⟨bn, on + p, none⟩ (.int .i64 x)) := (Cha.refl (fun i => i = bn) w).setCell (p := ⟨bn, on + p, none⟩) (fun _ => rfl) _
  have hl := get_lt hp
  have hU : ∀ i, U i → ¬ i = bn := fun i hi e => h.u3 (e ▸ hi)
  refine ⟨by rw [set_len]; exact (c.old _ h.lt.1 h.d2).trans h.head, by rw [set_len]; exact h.k1, by rw [set_len]; exact h.k8, ?_, by rw [set_len]; exact c.row h.loc h.d3, fun q u hu => ?_, h.all.cha c (fun g hg => hU g (h.allU g hg)), h.allU, h.d1, h.d2, h.d3, h.u1, h.u2, h.u3, fun i hi => Nat.lt_of_lt_of_le (h.old i hi) c.size⟩
  · rw [set_len, List.map_set]
    exact h.next.setAt (by rw [List.length_map]; exact hl) x
  · have e : ∃ y', S[q]? = some (y', u.2) := by
      by_cases e : q = p
      · subst e
        rw [List.getElem?_set_self hl] at hu
        obtain rfl := Option.some.inj hu
        exact ⟨_, hp⟩
      · rw [List.getElem?_set_ne (Ne.symm e)] at hu
        exact ⟨u.1, hu⟩
    obtain ⟨y', e⟩ := e
    obtain ⟨a, b⟩ := h.prc q _ e
    exact ⟨a.cha c (fun g hg => hU g (b g hg)), b⟩
theorem Rq.put (p : Nat) {L N : List Int} {v : Value} (hp : S[p]? = some (y, L)) (hv : Lies w v N) (hvu : ∀ g, v.ownBlock = some g → U g) : Rq (w.setCell ⟨bl, p, none⟩ v) U br bl bn on cn (fun i => if i = p then v else lv i) va (S.set p (y, N)) A := by
  have c : Cha (fun i => i = bl) w (w.setCell ⟨bl, p, none⟩ v) := (Cha.refl (fun i => i = bl) w).setCell (p := ⟨bl, p, none⟩) (fun _ => rfl) _
  have hl := get_lt hp
  have hU : ∀ i, U i → ¬ i = bl := fun i hi e => h.u2 (e ▸ hi)
  refine ⟨by rw [set_len]; exact (c.old _ h.lt.1 h.d1).trans h.head, by rw [set_len]; exact h.k1, by rw [set_len]; exact h.k8, ?_, by rw [set_len]; exact h.loc.set v, fun q u hu => ?_, h.all.cha c (fun g hg => hU g (h.allU g hg)), h.allU, h.d1, h.d2, h.d3, h.u1, h.u2, h.u3, fun i hi => Nat.lt_of_lt_of_le (h.old i hi) c.size⟩
  · have e : (S.set p (y, N)).map Prod.fst = S.map Prod.fst := by
      rw [List.map_set]
      have e2 : (S.map Prod.fst)[p]? = some y := by rw [List.getElem?_map, hp]; rfl
      have hlm : p < (S.map Prod.fst).length := by rw [List.length_map]; exact hl
      have e3 : (S.map Prod.fst)[p] = y := Option.some.inj ((List.getElem?_eq_getElem hlm).symm.trans e2)
      show (S.map Prod.fst).set p y = _
      rw [← e3]
      exact List.set_getElem_self hlm
    rw [set_len, e]
    exact h.next.cha c (fun g hg => by cases hg; exact Ne.symm h.d3)
  · by_cases e : q = p
    · subst e
      rw [List.getElem?_set_self hl] at hu
      obtain rfl := Option.some.inj hu
      try dsimp only
      rw [if_pos rfl]
      exact ⟨hv.cha c (fun g hg => hU g (hvu g hg)), hvu⟩
    · rw [List.getElem?_set_ne (Ne.symm e)] at hu
      try dsimp only
      rw [if_neg e]
      obtain ⟨a, b⟩ := h.prc q _ hu
      exact ⟨a.cha c (fun g hg => hU g (b g hg)), b⟩
theorem Rq.store {v : Value} {N : List Int} (hv : Lies w v N) (hvu : ∀ g, v.ownBlock = some g → U g) : Rq (w.setCell ⟨br, 2, none⟩ v) U br bl bn on cn lv v S N := by
  have c : Cha (fun i => i = br) w (w.setCell ⟨br, 2, none⟩ v) := (Cha.refl (fun i => i = br) w).setCell (p := ⟨br, 2, none⟩) (fun _ => rfl) _
  have hU : ∀ i, U i → ¬ i = br := fun i hi e => h.u1 (e ▸ hi)
  exact ⟨heap_setCell_same w br 2 _ 81 v h.head, h.k1, h.k8, h.next.cha c (fun g hg => by cases hg; exact Ne.symm h.d2), c.row h.loc (Ne.symm h.d1), fun p x hx => ⟨(h.prc p x hx).1.cha c (fun g hg => hU g ((h.prc p x hx).2 g hg)), (h.prc p x hx).2⟩, hv.cha c (fun g hg => hU g (hvu g hg)), hvu, h.d1, h.d2, h.d3, h.u1, h.u2, h.u3, fun i hi => Nat.lt_of_lt_of_le (h.old i hi) c.size⟩
/-- Behind a call that made a list: its block is one of theirs. -/
theorem Rq.newl {g : Nat} (c : Cha (fun _ => False) w w') (h1 : w.heap.size ≤ g) (h2 : g < w'.heap.size) : Rq w' (fun i => U i ∨ i = g) br bl bn on cn lv va S A := by
  obtain ⟨l1, l2, l3⟩ := h.lt
  refine (h.same c).wide (fun _ h => .inl h) (fun e => ?_) (fun e => ?_) (fun e => ?_) (fun i hi => ?_)
  · rcases e with e | e
    · exact h.u1 e
    · omega
  · rcases e with e | e
    · exact h.u2 e
    · omega
  · rcases e with e | e
    · exact h.u3 e
    · omega
  · rcases hi with e | e
    · exact Nat.lt_of_lt_of_le (h.old i e) c.size
    · omega
theorem Rq.c0 : w.cell? ⟨br, 0, none⟩ = some (.slice (some ⟨bn, on, none⟩) S.length cn) := cell_of_row w br 0 _ 81 (0, 0) h.head
theorem Rq.c1 : w.cell? ⟨br, 1, none⟩ = some (.slice (some ⟨bl, 0, none⟩) S.length S.length) := cell_of_row w br 1 _ 81 (0, 0) h.head
theorem Rq.c2 : w.cell? ⟨br, 2, none⟩ = some va := cell_of_row w br 2 _ 81 (0, 0) h.head
theorem Rq.free (i : Nat) : w.frozen? ⟨br, i, none⟩ = false := frozen_of_row w br i _ 81 h.head
theorem Rq.cnx {p : Nat} {x : Prc} (hp : S[p]? = some x) : w.cell? ⟨bn, on + p, none⟩ = some (.int .i64 x.1) ∧ w.frozen? ⟨bn, on + p, none⟩ = false := by
  have hl := get_lt hp
  rcases h.next with ⟨_, h⟩ | ⟨g', o', cap', cur, e, h1, h2, h3, h4, h5⟩
  · cases h
  · rw [List.length_map] at e
    cases e
    refine ⟨?_, frozen_of_row w bn _ cur 3 h3⟩
    rw [cell_of_row w bn _ cur 3 (0, 0) h3, h5 p (by rw [List.length_map]; exact hl)]
    have e2 : (S.map Prod.fst)[p]? = some x.1 := by rw [List.getElem?_map, hp]; rfl
    simp [List.getD, e2]
theorem Rq.clx {p : Nat} {x : Prc} (hp : S[p]? = some x) : w.cell? ⟨bl, p, none⟩ = some (lv p) ∧ w.frozen? ⟨bl, p, none⟩ = false := ⟨h.loc.cell (get_lt hp), h.loc.free p⟩
end
end Go.Proofs.Yteogepfolifneaa
