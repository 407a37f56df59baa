/- The document's queues: their state in memory; behind, Bad, New, Waiting, Last. -/
import Derived.Test.YtaloafihbdamiaaGreatQA
namespace Go.Proofs.YtaloafihbdamiaaGreat
open Go.ChangeShapes Go.WideShapes Go.ChangeAt Go.RowKit
variable {w w' W : World} {U U' T : Nat → Prop} {br bl bn on cn : Nat} {lv : Nat → Value} {va v : Value} {S : List Prc} {A N L : List Int} {x y : Int}

theorem Lies.setAt {g o n cap : Nat} (h : Lies w (.slice (some ⟨g, o, none⟩) n cap) A) {i : Nat} (hi : i < A.length) (x : Int) :
    Lies (w.setCell ⟨g, o + i, none⟩ (.int .i64 x)) (.slice (some ⟨g, o, none⟩) n cap) (A.set i x) := by
  rcases h with ⟨_, h⟩ | ⟨g', o', cap', cur, e, h1, h2, h3, h4, h5⟩
  · cases h
  · cases e
    refine .inr ⟨g, o, cap, _, by rw [List.length_set], by rw [List.length_set]; exact h1, h2, heap_setCell_same w g (o + i) cur 3 _ h3, by rw [Array.size_setIfInBounds]; exact h4, fun j hj => ?_⟩
    rw [List.length_set] at hj
    rw [Array.getElem?_setIfInBounds]
    by_cases e : j = i
    · subst e
      rw [if_pos rfl, if_pos (by omega)]
      simp [List.getD, List.getElem?_set_self hi]
    · rw [if_neg (by omega), h5 j hj]
      simp [List.getD, List.getElem?_set_ne (Ne.symm e)]
/-- A copy in new memory. -/
theorem run_copy (ty : TypeId) {w : World} {v : Value} {A : List Int} (h : Lies w v A) (b2 : A.length * 8 ≤ 140737488355328) :
    ∃ a cap w', (Builtin.append_ #[37, 37] ty #[.slice none 0 0, v]).run Tryz.prog w = .ok (.slice a A.length cap) w' ∧ Lies w' (.slice a A.length cap) A ∧ Cha (fun _ => False) w w' ∧ ∀ g, (Value.slice a A.length cap).ownBlock = some g → w.heap.size ≤ g := by
  obtain ⟨i0, hi, hz0, hz1, hz2⟩ := info_parts info3
  rcases h with ⟨rfl, rfl⟩ | ⟨g, o, cap, cur, rfl, h1, h2, h3, h4, h5⟩
  · refine ⟨none, 0, w, ?_, Lies.nil w, Cha.refl _ _, fun g hg => by cases hg⟩
    simp [Builtin.append_, run_underlying Tryz.underlying37, sizeOf, typeInfo, hi, Builtin.lenOf, Builtin.firstCells]
  · have hN : ∀ j u, (iz A)[j]? = some u → w.cell? ((⟨g, o, none⟩ : Addr).add j) = some u := fun j u hu => by
      have e : (⟨g, o, none⟩ : Addr).add j = ⟨g, o + j, none⟩ := by unfold Addr.add; split <;> simp_all
      rw [e, cell_of_row w g _ cur 3 (0, 0) h3]
      rw [iz_get] at hu
      have hj : j < A.length := by
        by_cases c : j < A.length
        · exact c
        · rw [List.getElem?_eq_none (by omega)] at hu; cases hu
      rw [h5 j hj, ← hu]
      simp [List.getD, List.getElem?_eq_getElem hj]
    obtain ⟨v', w', hr, r1, r2, _⟩ := run_append_own (P := Tryz.prog) w w.heap.size 37 ty 3 i0 _ 1 8 Tryz.underlying37 hi hz0 hz1 hz2 rfl (by decide) (.slice none 0 0) 0 [] (World.ownsRow_nil w _ 3 1) ⟨g, o, none⟩ A.length cap (iz A) (by simp [iz]) hN (one_int A) (by unfold maxLen; omega) (by simpa using b2) (Nat.le_refl _)
    have r1 : w'.ownsRow w.heap.size 3 1 v' A.length (iz A) := by simpa [iz] using r1
    have hL := Lies.of_own r1
    obtain ⟨a, cap', rfl, _⟩ := hL.form
    exact ⟨a, cap', w', hr, hL, (Cha.of_grownBy (S := fun _ => False) r2 (fun k e => by cases e)), fun g hg => (r1.lt g hg).1⟩
theorem wpList_copy {ops : Array Oper} {rest : List Oper} {o : Oper} {a : Act} {Q : Exit → Act → World → Prop} (hgd : o.guard = none) (s x : Operand) (ho : o.op = .call { callee := .builtin .append, args := #[s, x], argTypes := #[37, 37] })
    (hs : a.eval s = .slice none 0 0) (hx : a.eval x = v) (hl : Lies w v A) (b2 : A.length * 8 ≤ 140737488355328)
    (h : ∀ ad cap w', Lies w' (.slice ad A.length cap) A → Cha (fun _ => False) w w' → (∀ g, (Value.slice ad A.length cap).ownBlock = some g → w.heap.size ≤ g) → wpList Tryz.prog ops Q rest (a.put o.dst (.slice ad A.length cap)) w') : wpList Tryz.prog ops Q (o :: rest) a w := by
  obtain ⟨ad, cap, w', hr, k1, k2, k3⟩ := run_copy o.type hl b2
  refine wpList_plain hgd fun _ hK => ?_
  unfold Oper.wp execOp
  simp only [ho, resolve, invoke, builtin, Sem.run_bind, Sem.run_pure, Result.andThen_ok, List.map_toArray, List.map_cons, List.map_nil, hs, hx, hr]
  exact hK _ _ (h ad cap w' k1 k2 k3)
/-- A new list, with one more. -/
def Behind1 (A : List Int) (x : Int) (w : World) (e : Ending) (w' : World) : Prop := ∃ g o cap, e = .returned (.slice (some ⟨g, o, none⟩) (A.length + 1) cap) ∧ Lies w' (.slice (some ⟨g, o, none⟩) (A.length + 1) cap) (A ++ [x]) ∧ Cha (fun _ => False) w w' ∧ w.heap.size ≤ g ∧ g < w'.heap.size
theorem behind_any (x : Int) (h : Lies w v A) (b2 : (A.length + 1) * 8 ≤ 140737488355328) : Calls Tryz.prog 58 #[v, .int .i64 x] w (Behind1 A x w) := by
  obtain ⟨a, cap, rfl, _⟩ := h.form
  have H := Lib.hid h
  clear h
  obtain ⟨n, hn⟩ : ∃ n, n = A.length := ⟨_, rfl⟩
  have HN := Lib.hid hn
  rw [← hn] at H b2 ⊢
  clear hn
  go_enter Tryz.func58, Tryz.ntmps58
  go_wp2_with (first
    | (refine wpList_copy rfl (.tmp 6) (.tmp 7) rfl rfl rfl H.out (by rw [← HN.out]; omega) ?_; intro a2 cap2 w2 k1 k2 k3; rw [← HN.out] at k1 k3 ⊢; have K1 := Lib.hid k1; have K2 := Lib.hid k2; have K3 := Lib.hid k3; clear k1 k2 k3)
    | (refine wpList_app rfl (.tmp 9) (.tmp 11) rfl (v := .slice a2 n cap2) (A := A) rfl (K1.out.cha ((Cha.refl (fun _ => False) w2).alloc _) (fun _ _ f => f)) ⟨w2.heap.size, 0, none⟩ 1 1 [x] rfl rfl (one_new _ _ _) Nat.zero_lt_one (by rw [← HN.out]; simp only [List.length_singleton]; omega) ?_; intro g3 o3 cap3 w3 hA3; rw [← HN.out]; have A3 := Lib.hid hA3; clear hA3))
  go_ret
  have hl := A3.out.lies
  rw [← HN.out] at hl
  have s2 := K2.out.size
  have c3 := A3.out.cha
  refine ⟨g3, o3, cap3, by rw [← HN.out]; rfl, by rw [← HN.out]; exact hl, ((K2.out.alloc _).over c3 (fun i e => .inr (K3.out i e))), ?_, A3.out.lt⟩
  rcases A3.out.at' with e | e
  · exact K3.out _ e
  · rw [World.size_alloc] at e; omega

/-- The document's queues at block br: the next ones in bn, the lists' places at bl, the lists in blocks of U. -/
structure Rq (w : World) (U : Nat → Prop) (br bl bn on cn : Nat) (lv : Nat → Value) (va : Value) (S : List Prc) (A : List Int) : Prop where
  head : w.heap[br]? = some (.cells #[.slice (some ⟨bn, on, none⟩) S.length cn, .slice (some ⟨bl, 0, none⟩) S.length S.length, va] 98 (0, 0))
  k1 : 1 ≤ S.length
  k8 : S.length ≤ 8
  next : Lies w (.slice (some ⟨bn, on, none⟩) S.length cn) (S.map Prod.fst)
  loc : FRow 37 w bl S.length lv
  prc : ∀ (p : Nat) (x : Prc), S[p]? = some x → Lies w (lv p) x.2 ∧ ∀ g, (lv p).ownBlock = some g → U g
  all : Lies w va A
  allU : ∀ g, va.ownBlock = some g → U g
  d1 : br ≠ bl
  d2 : br ≠ bn
  d3 : bl ≠ bn
  u1 : ¬ U br
  u2 : ¬ U bl
  u3 : ¬ U bn
  old : ∀ i, U i → i < w.heap.size
section
variable (h : Rq w U br bl bn on cn lv va S A)
include h
theorem Rq.lt : br < w.heap.size ∧ bl < w.heap.size ∧ bn < w.heap.size := ⟨(Array.getElem?_eq_some_iff.1 h.head).1, h.loc.lt, h.next.lt rfl⟩
/-- What else changes. -/
theorem Rq.cha (c : Cha T w w') (h1 : ¬ T br) (h2 : ¬ T bl) (h3 : ¬ T bn) (h4 : ∀ i, U i → ¬ T i) : Rq w' U br bl bn on cn lv va S A :=
  ⟨(c.old _ h.lt.1 h1).trans h.head, h.k1, h.k8, h.next.cha c (fun g hg => by cases hg; exact h3), c.row h.loc h2, fun p x hx => ⟨(h.prc p x hx).1.cha c (fun g hg => h4 g ((h.prc p x hx).2 g hg)), (h.prc p x hx).2⟩, h.all.cha c (fun g hg => h4 g (h.allU g hg)), h.allU, h.d1, h.d2, h.d3, h.u1, h.u2, h.u3, fun i hi => Nat.lt_of_lt_of_le (h.old i hi) c.size⟩
theorem Rq.same (c : Cha (fun _ => False) w w') : Rq w' U br bl bn on cn lv va S A := h.cha c (fun f => f) (fun f => f) (fun f => f) (fun _ _ f => f)
theorem Rq.drew : Rq w.drew U br bl bn on cn lv va S A := h.same (Cha.refl _ w).drew
/-- More blocks of lists. -/
theorem Rq.wide (hu : ∀ i, U i → U' i) (h1 : ¬ U' br) (h2 : ¬ U' bl) (h3 : ¬ U' bn) (ho : ∀ i, U' i → i < w.heap.size) : Rq w U' br bl bn on cn lv va S A :=
  ⟨h.head, h.k1, h.k8, h.next, h.loc, fun p x hx => ⟨(h.prc p x hx).1, fun g hg => hu g ((h.prc p x hx).2 g hg)⟩, h.all, fun g hg => hu g (h.allU g hg), h.d1, h.d2, h.d3, h1, h2, h3, ho⟩
theorem Rq.nxt (p : Nat) (x : Int) {L : List Int} (hp : S[p]? = some (y, L)) : Rq (w.setCell ⟨bn, on + p, none⟩ (.int .i64 x)) U br bl bn on cn lv va (S.set p (x, L)) A := by
  have c : Cha (fun i => i = bn) w (w.setCell ⟨bn, on + p, none⟩ (.int .i64 x)) := (Cha.refl (fun i => i = bn) w).setCell (p := ⟨bn, on + p, none⟩) (fun _ => rfl) _
  have hl := get_lt hp
  have hU : ∀ i, U i → ¬ i = bn := fun i hi e => h.u3 (e ▸ hi)
  refine ⟨by rw [set_len]; exact (c.old _ h.lt.1 h.d2).trans h.head, by rw [set_len]; exact h.k1, by rw [set_len]; exact h.k8, ?_, by rw [set_len]; exact c.row h.loc h.d3, fun q u hu => ?_, h.all.cha c (fun g hg => hU g (h.allU g hg)), h.allU, h.d1, h.d2, h.d3, h.u1, h.u2, h.u3, fun i hi => Nat.lt_of_lt_of_le (h.old i hi) c.size⟩
  · rw [set_len, List.map_set]
    exact h.next.setAt (by rw [List.length_map]; exact hl) x
  · have e : ∃ y', S[q]? = some (y', u.2) := by
      by_cases e : q = p
      · subst e
        rw [List.getElem?_set_self hl] at hu
        obtain rfl := Option.some.inj hu
        exact ⟨_, hp⟩
      · rw [List.getElem?_set_ne (Ne.symm e)] at hu
        exact ⟨u.1, hu⟩
    obtain ⟨y', e⟩ := e
    obtain ⟨a, b⟩ := h.prc q _ e
    exact ⟨a.cha c (fun g hg => hU g (b g hg)), b⟩
theorem Rq.put (p : Nat) {L N : List Int} {v : Value} (hp : S[p]? = some (y, L)) (hv : Lies w v N) (hvu : ∀ g, v.ownBlock = some g → U g) : Rq (w.setCell ⟨bl, p, none⟩ v) U br bl bn on cn (fun i => if i = p then v else lv i) va (S.set p (y, N)) A := by
  have c : Cha (fun i => i = bl) w (w.setCell ⟨bl, p, none⟩ v) := (Cha.refl (fun i => i = bl) w).setCell (p := ⟨bl, p, none⟩) (fun _ => rfl) _
  have hl := get_lt hp
  have hU : ∀ i, U i → ¬ i = bl := fun i hi e => h.u2 (e ▸ hi)
  refine ⟨by rw [set_len]; exact (c.old _ h.lt.1 h.d1).trans h.head, by rw [set_len]; exact h.k1, by rw [set_len]; exact h.k8, ?_, by rw [set_len]; exact h.loc.set v, fun q u hu => ?_, h.all.cha c (fun g hg => hU g (h.allU g hg)), h.allU, h.d1, h.d2, h.d3, h.u1, h.u2, h.u3, fun i hi => Nat.lt_of_lt_of_le (h.old i hi) c.size⟩
  · have e : (S.set p (y, N)).map Prod.fst = S.map Prod.fst := by
      rw [List.map_set]
      have e2 : (S.map Prod.fst)[p]? = some y := by rw [List.getElem?_map, hp]; rfl
      have hlm : p < (S.map Prod.fst).length := by rw [List.length_map]; exact hl
      have e3 : (S.map Prod.fst)[p] = y := Option.some.inj ((List.getElem?_eq_getElem hlm).symm.trans e2)
      show (S.map Prod.fst).set p y = _
      rw [← e3]
      exact List.set_getElem_self hlm
    rw [set_len, e]
    exact h.next.cha c (fun g hg => by cases hg; exact Ne.symm h.d3)
  · by_cases e : q = p
    · subst e
      rw [List.getElem?_set_self hl] at hu
      obtain rfl := Option.some.inj hu
      try dsimp only
      rw [if_pos rfl]
      exact ⟨hv.cha c (fun g hg => hU g (hvu g hg)), hvu⟩
    · rw [List.getElem?_set_ne (Ne.symm e)] at hu
      try dsimp only
      rw [if_neg e]
      obtain ⟨a, b⟩ := h.prc q _ hu
      exact ⟨a.cha c (fun g hg => hU g (b g hg)), b⟩
theorem Rq.store {v : Value} {N : List Int} (hv : Lies w v N) (hvu : ∀ g, v.ownBlock = some g → U g) : Rq (w.setCell ⟨br, 2, none⟩ v) U br bl bn on cn lv v S N := by
  have c : Cha (fun i => i = br) w (w.setCell ⟨br, 2, none⟩ v) := (Cha.refl (fun i => i = br) w).setCell (p := ⟨br, 2, none⟩) (fun _ => rfl) _
  have hU : ∀ i, U i → ¬ i = br := fun i hi e => h.u1 (e ▸ hi)
  exact ⟨heap_setCell_same w br 2 _ 98 v h.head, h.k1, h.k8, h.next.cha c (fun g hg => by cases hg; exact Ne.symm h.d2), c.row h.loc (Ne.symm h.d1), fun p x hx => ⟨(h.prc p x hx).1.cha c (fun g hg => hU g ((h.prc p x hx).2 g hg)), (h.prc p x hx).2⟩, hv.cha c (fun g hg => hU g (hvu g hg)), hvu, h.d1, h.d2, h.d3, h.u1, h.u2, h.u3, fun i hi => Nat.lt_of_lt_of_le (h.old i hi) c.size⟩
/-- Behind a call that made a list: its block is one of theirs. -/
theorem Rq.newl {g : Nat} (c : Cha (fun _ => False) w w') (h1 : w.heap.size ≤ g) (h2 : g < w'.heap.size) : Rq w' (fun i => U i ∨ i = g) br bl bn on cn lv va S A := by
  obtain ⟨l1, l2, l3⟩ := h.lt
  refine (h.same c).wide (fun _ h => .inl h) (fun e => ?_) (fun e => ?_) (fun e => ?_) (fun i hi => ?_)
  · rcases e with e | e
    · exact h.u1 e
    · omega
  · rcases e with e | e
    · exact h.u2 e
    · omega
  · rcases e with e | e
    · exact h.u3 e
    · omega
  · rcases hi with e | e
    · exact Nat.lt_of_lt_of_le (h.old i e) c.size
    · omega
theorem Rq.c0 : w.cell? ⟨br, 0, none⟩ = some (.slice (some ⟨bn, on, none⟩) S.length cn) := cell_of_row w br 0 _ 98 (0, 0) h.head
theorem Rq.c1 : w.cell? ⟨br, 1, none⟩ = some (.slice (some ⟨bl, 0, none⟩) S.length S.length) := cell_of_row w br 1 _ 98 (0, 0) h.head
theorem Rq.c2 : w.cell? ⟨br, 2, none⟩ = some va := cell_of_row w br 2 _ 98 (0, 0) h.head
theorem Rq.free (i : Nat) : w.frozen? ⟨br, i, none⟩ = false := frozen_of_row w br i _ 98 h.head
theorem Rq.cnx {p : Nat} {x : Prc} (hp : S[p]? = some x) : w.cell? ⟨bn, on + p, none⟩ = some (.int .i64 x.1) ∧ w.frozen? ⟨bn, on + p, none⟩ = false := by
  have hl := get_lt hp
  rcases h.next with ⟨_, h⟩ | ⟨g', o', cap', cur, e, h1, h2, h3, h4, h5⟩
  · cases h
  · rw [List.length_map] at e
    cases e
    refine ⟨?_, frozen_of_row w bn _ cur 3 h3⟩
    rw [cell_of_row w bn _ cur 3 (0, 0) h3, h5 p (by rw [List.length_map]; exact hl)]
    have e2 : (S.map Prod.fst)[p]? = some x.1 := by rw [List.getElem?_map, hp]; rfl
    simp [List.getD, e2]
theorem Rq.clx {p : Nat} {x : Prc} (hp : S[p]? = some x) : w.cell? ⟨bl, p, none⟩ = some (lv p) ∧ w.frozen? ⟨bl, p, none⟩ = false := ⟨h.loc.cell (get_lt hp), h.loc.free p⟩
end
end Go.Proofs.YtaloafihbdamiaaGreat

namespace Go.Proofs.YtaloafihbdamiaaGreat
open Go.ChangeShapes Go.WideShapes Go.ChangeAt Go.RowKit
variable {w w' W : World} {U U' T : Nat → Prop} {br bl bn on cn : Nat} {lv : Nat → Value} {va v : Value} {S : List Prc} {A N L : List Int} {x y : Int}

/-- Behind a call. -/
def RLeft (w w' : World) (U : Nat → Prop) (br bl bn on cn : Nat) (S : List Prc) (A : List Int) : Prop :=
  ∃ U' lv va, Rq w' U' br bl bn on cn lv va S A ∧ Cha (fun i => i = br ∨ i = bl ∨ i = bn) w w' ∧ (∀ i, U i → U' i) ∧ ∀ i, U' i → U i ∨ w.heap.size ≤ i
theorem RLeft.next {w1 : World} {S1 : List Prc} {A1 : List Int} (h : RLeft w w1 U br bl bn on cn S A) (k : ∀ U' lv va, Rq w1 U' br bl bn on cn lv va S A → RLeft w1 w' U' br bl bn on cn S1 A1) : RLeft w w' U br bl bn on cn S1 A1 := by
  obtain ⟨U1, lv, va, q, c, s, n⟩ := h
  obtain ⟨U2, lv2, va2, q2, c2, s2, n2⟩ := k U1 lv va q
  refine ⟨U2, lv2, va2, q2, c.trans c2, fun i hi => s2 i (s i hi), fun i hi => ?_⟩
  rcases n2 i hi with e | e
  · exact n i e
  · exact .inr (Nat.le_trans c.size e)
theorem RLeft.one (h : Rq w' U br bl bn on cn lv va S A) (c : Cha (fun i => i = br ∨ i = bl ∨ i = bn) w w') : RLeft w w' U br bl bn on cn S A := ⟨U, lv, va, h, c, fun _ h => h, fun _ h => .inl h⟩

theorem bad_yes (p g : Int) (h : Rq w U br bl bn on cn lv va S A) (hp : p < 0 ∨ (S.length : Int) ≤ p ∨ g < 0) :
    Calls Tryz.prog 57 #[.pointer (some ⟨br, 0, none⟩), .int .i64 p, .int .i64 g] w fun e w' => e = .returned (.bool true) ∧ w = w' := by
  have c := h.c0
  have h8 := h.k8
  clear h
  generalize S.length = n at *
  by_cases h0 : p < 0
  · clear hp
    go_enter Tryz.func57, Tryz.ntmps57
    go_wp2
    go_ret
    exact ⟨rfl, rfl⟩
  · have h1 : decide (p < 0) = false := by simpa using h0
    by_cases h2 : (n : Int) ≤ p
    · clear hp h0
      go_enter Tryz.func57, Tryz.ntmps57
      go_wp2
      go_ret
      exact ⟨rfl, rfl⟩
    · have h3 : decide ((n : Int) ≤ p) = false := by simpa using h2
      have hg : g < 0 := by omega
      clear hp h0 h2
      go_enter Tryz.func57, Tryz.ntmps57
      go_wp2
      go_ret
      exact ⟨rfl, rfl⟩
theorem bad_no (p : Nat) (g : Int) (h : Rq w U br bl bn on cn lv va S A) (hp : p < S.length) (hg : 0 ≤ g) :
    Calls Tryz.prog 57 #[.pointer (some ⟨br, 0, none⟩), .int .i64 (p : Int), .int .i64 g] w fun e w' => e = .returned (.bool false) ∧ w = w' := by
  have c := h.c0
  have h8 := h.k8
  clear h
  generalize S.length = n at *
  have h3 : decide ((n : Int) ≤ (p : Int)) = false := by simp; omega
  have h4 : decide (n ≤ p) = false := by simp; omega
  have h5 : decide (g < 0) = false := by simpa using hg
  have h6 : ¬ ((p : Int) < 0) := by omega
  go_enter Tryz.func57, Tryz.ntmps57
  go_wp2
  go_ret
  exact ⟨rfl, rfl⟩
theorem rwaiting_bad (p : Int) (h : Rq w U br bl bn on cn lv va S A) (hp : p < 0 ∨ (S.length : Int) ≤ p) :
    Calls Tryz.prog 42 #[.pointer (some ⟨br, 0, none⟩), .int .i64 p] w fun e w' => e = .returned (.tuple #[.int .i64 0, .int .i64 0]) ∧ w = w' := by
  have C := Lib.hid (bad_yes p 0 h (by omega))
  clear h hp
  go_enter Tryz.func42, Tryz.ntmps42
  go_wp2_with (go_at_call 57; ((with_reducible refine (C.out).mono ?_); rintro e w1 ⟨rfl, rfl⟩))
  go_returns
  exact ⟨rfl, rfl⟩
/-- The next ones are none, or numbers. -/
def Nums0 (S : List Prc) : Prop := ∀ (p : Nat) (x : Prc), S[p]? = some x → x.1 = -1 ∨ 0 ≤ x.1
theorem rwaiting_any (p : Nat) (h : Rq w U br bl bn on cn lv va S A) (hp : p < S.length) (hS : Nums0 S) (hl : ∀ (p : Nat) (x : Prc), S[p]? = some x → x.2.length ≤ 8) :
    Calls Tryz.prog 42 #[.pointer (some ⟨br, 0, none⟩), .int .i64 (p : Int)] w fun e w' => e = .returned (.tuple #[.int .i64 (cnt (S.getD p (-1, [])) : Nat), .int .i64 (A.length : Nat)]) ∧ ∃ n, w' = w.drewN n := by
  have C := Lib.hid (bad_no p 0 h hp (by omega))
  have hpx := D_get hp
  have h8 := h.k8
  generalize S.getD p (-1, []) = u at *
  obtain ⟨x, L⟩ := u
  have hx := hS p _ hpx
  have hll : L.length ≤ 8 := hl p _ hpx
  dsimp only at hx
  obtain ⟨a1, cap1, rfl, _⟩ := h.all.form
  have c0 := h.c0
  have c1 := h.c1
  have c2 := h.c2
  obtain ⟨c3, _⟩ := h.cnx hpx
  obtain ⟨c4, _⟩ := h.clx hpx
  obtain ⟨a2, cap2, h2, _⟩ := (h.prc p _ hpx).1.form
  dsimp only at h2 c3
  rw [h2] at c4
  have k3 : (p : Int) < S.length := by omega
  have k4 : (0 : Int) ≤ (p : Int) := by omega
  clear h h2 hpx hp hS hl
  generalize A.length = n at *
  generalize S.length = m at *
  have HC : Hid (x = -1 → cnt (x, L) = L.length) := Lib.hid fun e => by unfold cnt; rw [if_pos e]
  have HC2 : Hid (x ≠ -1 → cnt (x, L) = L.length + 1) := Lib.hid fun e => by unfold cnt; rw [if_neg e]
  generalize cnt (x, L) = q at *
  generalize L.length = l at *
  by_cases hx0 : x = -1
  · obtain rfl := HC.out hx0
    subst hx0
    clear hx
    go_enter Tryz.func42, Tryz.ntmps42
    go_wp2_with (go_at_call 57; ((with_reducible refine (C.out).mono ?_); rintro e w1 ⟨rfl, rfl⟩))
    go_quiet (fail)
    go_wp2
    go_returns
    exact ⟨rfl, _, rfl⟩
  · obtain rfl := HC2.out hx0
    have hx1 : 0 ≤ x := by omega
    clear hx hx0
    go_enter Tryz.func42, Tryz.ntmps42
    go_wp2_with (go_at_call 57; ((with_reducible refine (C.out).mono ?_); rintro e w1 ⟨rfl, rfl⟩))
    go_quiet (fail)
    go_wp2
    go_returns
    exact ⟨rfl, _, rfl⟩
theorem rlast_bad (g : Int) (w : World) (hg : g < 0) : Calls Tryz.prog 47 #[.pointer (some ⟨br, 0, none⟩), .int .i64 g] w fun e w' => e = .returned (.int .i64 1) ∧ w = w' := by
  go_enter Tryz.func47, Tryz.ntmps47
  go_wp2
  go_ret
  exact ⟨rfl, rfl⟩
theorem rlast_any (g : Int) (h : Rq w U br bl bn on cn lv va S A) (hg : 0 ≤ g) (hA : A.length + 5 ≤ 17592186044416) :
    Calls Tryz.prog 47 #[.pointer (some ⟨br, 0, none⟩), .int .i64 g] w fun e w' => e = .returned (.int .i64 0) ∧ RLeft w w' U br bl bn on cn S (A ++ [g]) := by
  have C := Lib.hid (behind_any g h.all (by omega))
  obtain ⟨a1, cap1, rfl, _⟩ := h.all.form
  have c2 := h.c2
  have z2 := h.free 2
  have H := Lib.hid h
  have hgl : decide (g < 0) = false := by simpa using hg
  clear h
  go_enter Tryz.func47, Tryz.ntmps47
  go_wp2_with (go_at_call 58; ((with_reducible refine (C.out).mono ?_); rintro e w1 ⟨g3, o3, cap3, rfl, k1, k2, k3, k4⟩; have H2 := Lib.hid (H.out.newl k2 k3 k4); have K1 := Lib.hid k1; have K2 := Lib.hid k2; have K3 := Lib.hid k3; have e2 := H2.out.c2; have f2 := H2.out.free 2; clear k1 k2 k3 k4))
  go_ret
  exact ⟨rfl, _, _, _, H2.out.store K1.out (fun g hg => .inr (by cases hg; rfl)), (K2.out.wide).setCell (p := ⟨br, 2, none⟩) (fun _ => .inl rfl) _, fun _ h => .inl h, fun i hi => by
    rcases hi with e | e
    · exact .inl e
    · rw [e]; exact .inr K3.out⟩
end Go.Proofs.YtaloafihbdamiaaGreat

namespace Go.Proofs.YtaloafihbdamiaaGreat
open Go.ChangeShapes Go.WideShapes Go.ChangeAt Go.RowKit
variable {w w' W : World} {U U' T : Nat → Prop} {br bl bn on cn : Nat} {lv : Nat → Value} {va v : Value} {S : List Prc} {A N L : List Int} {x y : Int}

set_option maxRecDepth 100000 in
theorem slice_from (g o n cap k : Nat) (h1 : k ≤ n) (w : World) : (Instr.slice 37 (.slice (some ⟨g, o, none⟩) n cap) (some (.int .i64 (k : Int))) none none).run Tryz.prog w = .ok (.slice (some ⟨g, if cap = k then o else o + k, none⟩) (n - k) (cap - k)) w := by
  have := run_slice_l (P := Tryz.prog) w 37 (some ⟨g, o, none⟩) n cap Tryz.underlying37 .i64 (k : Int) (by omega) (by omega)
  rw [this]
  have e : (Option.map (fun x => x.add (Int.toNat (k : Int) * 1)) (some (⟨g, o, none⟩ : Addr))) = some ⟨g, o + k, none⟩ := by
    rw [Int.toNat_natCast, Nat.mul_one]
    show some ((⟨g, o, none⟩ : Addr).add k) = _
    unfold Addr.add
    split <;> simp_all
  have e2 : sliced (some ⟨g, o, none⟩) (Int.toNat (k : Int)) n cap 1 = .slice (some ⟨g, if cap = k then o else o + k, none⟩) (n - k) (cap - k) := by
    unfold sliced
    rw [e, Int.toNat_natCast]
    show Value.slice (if cap = k then _ else _) (n - k) (cap - k) = _
    split <;> rfl
  rw [← e2]
  rfl
theorem Lies.drop {g o n cap k : Nat} (h : Lies w (.slice (some ⟨g, o, none⟩) n cap) A) (hk : k ≤ A.length) : Lies w (.slice (some ⟨g, if cap = k then o else o + k, none⟩) (n - k) (cap - k)) (A.drop k) := by
  rcases h with ⟨_, h⟩ | ⟨g', o', cap', cur, e, h1, h2, h3, h4, h5⟩
  · cases h
  · cases e
    refine .inr ⟨g, _, cap - k, cur, by rw [List.length_drop], by rw [List.length_drop]; omega, by omega, h3, by split <;> omega, fun i hi => ?_⟩
    rw [List.length_drop] at hi
    have := h5 (k + i) (by omega)
    rw [if_neg (by omega), show o + k + i = o + (k + i) by omega, this]
    simp [List.getD]

theorem info43 : (Tryz.prog.info? 37).map (fun i => (i.zero, i.size, i.bytes)) = some (some (.slice none 0 0), 1, 24) := by kernel_rfl
theorem made_lists (m : Nat) : madeCells (Value.slice none 0 0).cells (m * 1) = fcells m (fun _ => .slice none 0 0) := by
  rw [Nat.mul_one]
  unfold madeCells fcells
  congr 1
  funext x
  show (#[Value.slice none 0 0])[x % 1]! = _
  rw [Nat.mod_one]
  rfl
theorem mk_lists (m : Nat) (hm : m ≤ 1000000) (W : World) : (Instr.makeSlice 96 (.int .i64 (m : Int)) (.int .i64 (m : Int))).run Tryz.prog W = .ok (.slice (some ⟨W.heap.size, 0, none⟩) m m) (W.alloc (.cells (fcells m (fun _ => .slice none 0 0)) 37)) := by
  obtain ⟨i, hi, hz, hs, hb⟩ := info_parts info43
  have h := run_make (P := Tryz.prog) W 96 37 i _ Tryz.underlying96 hi hz .i64 .i64 (m : Int) (m : Int) (by omega) (by omega) (by rw [hb]; omega) (by omega)
  rw [hs, Int.toNat_natCast, made_lists] at h
  exact h
theorem rnew_bad (n : Int) (w : World) (h : n < 1 ∨ 8 < n) : Calls Tryz.prog 16 #[.int .i64 n] w fun e w' => e = .returned (.tuple #[.pointer none, .int .i64 1]) ∧ w = w' := by
  by_cases h1 : n < 1
  · go_enter Tryz.func16, Tryz.ntmps16
    go_wp2
    go_ret2
    exact ⟨rfl, rfl⟩
  · have h2 : 8 < n := by omega
    clear h
    go_enter Tryz.func16, Tryz.ntmps16
    go_wp2
    go_ret2
    exact ⟨rfl, rfl⟩
/-- The document's queues that are just being made. -/
structure Half (n j : Nat) (w w' : World) (vn : Value) : Prop where
  head : w'.heap[w.heap.size + 1]? = some (.cells #[vn, .slice (some ⟨w.heap.size, 0, none⟩) n n, .slice none 0 0] 98 (0, 0))
  loc : FRow 37 w' w.heap.size n (fun _ => .slice none 0 0)
  next : Lies w' vn (List.replicate j (-1))
  own : ∀ g, vn.ownBlock = some g → w.heap.size + 2 ≤ g
  cha : Cha (fun _ => False) w w'
/-- The document's queues, just made. -/
def RFresh (n : Nat) (w w' : World) : Prop := ∃ bn on cn lv, Rq w' (fun _ => False) (w.heap.size + 1) w.heap.size bn on cn lv (.slice none 0 0) (List.replicate n (-1, [])) [] ∧ Cha (fun _ => False) w w' ∧ w.heap.size ≤ bn
set_option maxRecDepth 100000 in
theorem rnew_ok (n : Nat) (w : World) (h1 : 1 ≤ n) (h2 : n ≤ 8) : Calls Tryz.prog 16 #[.int .i64 (n : Int)] w fun e w' => e = .returned (.tuple #[.pointer (some ⟨w.heap.size + 1, 0, none⟩), .int .i64 0]) ∧ RFresh n w w' := by
  have hmk := mk_lists n (by omega)
  have I0 : Hid (Half n 0 w ((w.alloc (.cells (fcells n (fun _ => .slice none 0 0)) 37)).alloc (.cells #[.slice none 0 0, .slice (some ⟨w.heap.size, 0, none⟩) n n, .slice none 0 0] 98)) (.slice none 0 0)) := Lib.hid ⟨heap_alloc2_new w _ _, heap_alloc2_old w _ _, Lies.nil _, (fun g hg => by cases hg), ((Cha.refl _ w).alloc _).alloc _⟩
  obtain ⟨c, hc⟩ : ∃ c, c = fcells n (fun _ => .slice none 0 0) := ⟨_, rfl⟩
  rw [← hc] at I0 hmk
  clear hc
  go_enter Tryz.func16, Tryz.ntmps16
  go_wp2
  go_loopw [5] (fun i wr => ∃ (j : Nat) (vn : Value), j ≤ n ∧ i = .int .i64 (j : Int) ∧ Half n j w wr vn) (fun i _ => n - (intOf i).toNat)
  case atStart => exact ⟨0, _, Nat.zero_le _, rfl, I0.out⟩
  case round =>
    clear I0
    obtain ⟨j, vn, hj, rfl, hH⟩ := hrel
    obtain ⟨a1, cap1, rfl, _⟩ := hH.next.form
    simp only [List.length_replicate] at hH
    have c0 := cell_of_row wr _ 0 _ 98 (0, 0) hH.head
    have z0 := frozen_of_row wr (w.heap.size + 1) 0 _ 98 hH.head
    have H := Lib.hid hH
    have hsz : w.heap.size + 1 < wr.heap.size := (Array.getElem?_eq_some_iff.1 hH.head).1
    by_cases hlt : j < n
    · have KX : Hid (∀ W', Cha (fun i => w.heap.size + 2 ≤ i) wr W' → W'.heap[w.heap.size + 1]? = wr.heap[w.heap.size + 1]?) := Lib.hid fun W' hc => hc.old _ hsz (by omega)
      clear hH
      go_wp2_with (refine wpList_app rfl (.tmp 25) (.tmp 26) rfl (v := .slice a1 j cap1) (A := List.replicate j (-1)) rfl (H.out.next.cha ((Cha.refl (fun _ => False) wr).alloc _) (fun _ _ f => f)) ⟨wr.heap.size, 0, none⟩ 1 1 [-1] rfl rfl (one_new _ _ _) Nat.zero_lt_one (by simp only [List.length_singleton, List.length_replicate]; omega) ?_; intro g3 o3 cap3 w3 hA3; simp only [List.length_replicate] at hA3 ⊢; have e3 := (KX.out w3 (((Cha.refl _ wr).alloc _).trans (hA3.cha.mono fun i _ e => H.out.own i e))).trans H.out.head; have c3 := cell_of_row w3 _ 0 _ 98 (0, 0) e3; have z3 := frozen_of_row w3 (w.heap.size + 1) 0 _ 98 e3; have E3 := Lib.hid e3; have A3 := Lib.hid hA3; clear hA3 e3)
      have ch : Cha (fun i => w.heap.size + 2 ≤ i) wr w3 := ((Cha.refl _ wr).alloc _).trans (A3.out.cha.mono fun i _ e => H.out.own i e)
      have HN : Hid (Half n (j + 1) w (w3.setCell ⟨w.heap.size + 1, 0, none⟩ (.slice (some ⟨g3, o3, none⟩) (j + 1) cap3)) (.slice (some ⟨g3, o3, none⟩) (j + 1) cap3)) := Lib.hid (by
        have hg : w.heap.size + 2 ≤ g3 := by
          rcases A3.out.at' with e | e
          · exact H.out.own _ e
          · rw [World.size_alloc] at e; omega
        have cs : Cha (fun i => i = w.heap.size + 1) w3 (w3.setCell ⟨w.heap.size + 1, 0, none⟩ (.slice (some ⟨g3, o3, none⟩) (j + 1) cap3)) := (Cha.refl (fun i => i = w.heap.size + 1) w3).setCell (p := ⟨w.heap.size + 1, 0, none⟩) (fun _ => rfl) _
        have hl := A3.out.lies
        rw [List.length_replicate, ← List.replicate_succ'] at hl
        exact ⟨heap_setCell_same w3 _ 0 _ 98 _ E3.out, cs.row (ch.row H.out.loc (by omega)) (by omega), hl.cha cs (fun g hg2 e => by cases hg2; have e : g3 = w.heap.size + 1 := e; omega), fun g hg2 => by cases hg2; exact hg, (H.out.cha.over ch (fun i e => .inr (by omega))).over cs (fun i e => .inr (by have e : i = w.heap.size + 1 := e; omega))⟩)
      clear ch
      go_wp2
      go_roundw
      case rel => exact ⟨j + 1, _, by omega, by go_num, HN.out⟩
      case measure => simp [intOf]; omega
    · obtain rfl : j = n := by omega
      clear hH
      go_wp2
      go_ret2
      obtain ⟨bn, on, cap, e, _⟩ := H.out.next.at (i := 0) (by rw [List.length_replicate]; omega)
      rw [List.length_replicate] at e
      cases e
      have ho := H.out.own bn rfl
      refine ⟨rfl, bn, on, cap1, fun _ => .slice none 0 0, ⟨by rw [List.length_replicate]; exact H.out.head, by simpa using h1, by simpa using h2, ?_, by rw [List.length_replicate]; exact H.out.loc, fun p x hx => ?_, Lies.nil _, (fun g hg => by cases hg), by omega, by omega, by omega, (fun f => f), (fun f => f), (fun f => f), (fun i f => f.elim)⟩, H.out.cha, by omega⟩
      · rw [List.length_replicate, List.map_replicate]; exact H.out.next
      · rw [List.getElem?_replicate] at hx
        split at hx
        · obtain rfl := Option.some.inj hx
          exact ⟨Lies.nil _, fun g hg => by cases hg⟩
        · cases hx

theorem rput_bad (p g : Int) (h : Rq w U br bl bn on cn lv va S A) (hp : p < 0 ∨ (S.length : Int) ≤ p ∨ g < 0) :
    Calls Tryz.prog 41 #[.pointer (some ⟨br, 0, none⟩), .int .i64 p, .int .i64 g] w fun e w' => e = .returned (.int .i64 1) ∧ w = w' := by
  have C := Lib.hid (bad_yes p g h hp)
  clear h hp
  go_enter Tryz.func41, Tryz.ntmps41
  go_wp2_with (go_at_call 57; ((with_reducible refine (C.out).mono ?_); rintro e w1 ⟨rfl, rfl⟩))
  go_ret
  exact ⟨rfl, rfl⟩
/-- Cells that stay wherever only new memory is made. -/
theorem Rq.stay (h : Rq w U br bl bn on cn lv va S A) (c : Cha (fun _ => False) w w') (p : Nat) (x : Prc) (hp : S[p]? = some x) :
    w'.cell? ⟨br, 0, none⟩ = some (.slice (some ⟨bn, on, none⟩) S.length cn) ∧ w'.cell? ⟨br, 1, none⟩ = some (.slice (some ⟨bl, 0, none⟩) S.length S.length) ∧ w'.cell? ⟨br, 2, none⟩ = some va ∧ w'.frozen? ⟨br, 2, none⟩ = false ∧
      w'.cell? ⟨bn, on + p, none⟩ = some (.int .i64 x.1) ∧ w'.cell? ⟨bl, p, none⟩ = some (lv p) ∧ w'.frozen? ⟨bl, p, none⟩ = false := by
  have q := h.same c
  exact ⟨q.c0, q.c1, q.c2, q.free 2, (q.cnx hp).1, (q.clx hp).1, (q.clx hp).2⟩
/-- One more behind a processor's list. -/
theorem Rq.lay {w1 : World} {p g3 o3 cap3 : Nat} (h : Rq w U br bl bn on cn lv va S A) (hp : S[p]? = some (y, L)) (k1 : Lies w1 (.slice (some ⟨g3, o3, none⟩) (L.length + 1) cap3) (L ++ [x])) (k2 : Cha (fun _ => False) w w1) (k3 : w.heap.size ≤ g3) (k4 : g3 < w1.heap.size) :
    RLeft w (w1.setCell ⟨bl, p, none⟩ (.slice (some ⟨g3, o3, none⟩) (L.length + 1) cap3)) U br bl bn on cn (S.set p (y, L ++ [x])) A :=
  ⟨_, _, _, (h.newl k2 k3 k4).put p hp k1 (fun g hg => .inr (by cases hg; rfl)), (k2.wide).setCell (p := ⟨bl, p, none⟩) (fun _ => .inr (.inl rfl)) _, fun _ h => .inl h, fun i hi => by
    rcases hi with e | e
    · exact .inl e
    · rw [e]; exact .inr k3⟩
/-- One more behind the list for all. -/
theorem Rq.layAll {w1 : World} {g3 o3 cap3 : Nat} (h : Rq w U br bl bn on cn lv va S A) (k1 : Lies w1 (.slice (some ⟨g3, o3, none⟩) (A.length + 1) cap3) (A ++ [x])) (k2 : Cha (fun _ => False) w w1) (k3 : w.heap.size ≤ g3) (k4 : g3 < w1.heap.size) :
    RLeft w (w1.setCell ⟨br, 2, none⟩ (.slice (some ⟨g3, o3, none⟩) (A.length + 1) cap3)) U br bl bn on cn S (A ++ [x]) :=
  ⟨_, _, _, (h.newl k2 k3 k4).store k1 (fun g hg => .inr (by cases hg; rfl)), (k2.wide).setCell (p := ⟨br, 2, none⟩) (fun _ => .inl rfl) _, fun _ h => .inl h, fun i hi => by
    rcases hi with e | e
    · exact .inl e
    · rw [e]; exact .inr k3⟩
theorem RLeft.of_drew (h : RLeft w.drew w' U br bl bn on cn S A) : RLeft w w' U br bl bn on cn S A := by
  obtain ⟨F1, z, v, q, c, s, n⟩ := h
  exact ⟨F1, z, v, q, ⟨c.os, c.out, c.size, c.old⟩, s, n⟩
end Go.Proofs.YtaloafihbdamiaaGreat

namespace Go.Proofs.YtaloafihbdamiaaGreat
open Go.ChangeShapes Go.WideShapes Go.ChangeAt Go.RowKit
variable {w w' W : World} {U U' T : Nat → Prop} {br bl bn on cn : Nat} {lv : Nat → Value} {va v : Value} {S : List Prc} {A N L : List Int} {x y : Int}

theorem Lies.some {a : Option Addr} {n cap : Nat} (h : Lies w (.slice a n cap) A) (hn : 0 < A.length) : ∃ g o, a = some ⟨g, o, none⟩ ∧ n = A.length ∧ A.length ≤ cap ∧ cap ≤ maxLen ∧ ∀ i, i < A.length → w.cell? ⟨g, o + i, none⟩ = some (.int .i64 (A.getD i 0)) := by
  rcases h with ⟨rfl, _⟩ | ⟨g', o', cap', cur, e, h1, h2, h3, h4, h5⟩
  · cases hn
  · cases e
    exact ⟨g', o', rfl, rfl, h1, h2, fun i hi => by rw [cell_of_row w g' _ cur 3 (0, 0) h3]; exact h5 i hi⟩
theorem rleft_step {w1 : World} {U1 : Nat → Prop} (hc : Cha (fun i => i = br ∨ i = bl ∨ i = bn) w w1) (hs : ∀ i, U i → U1 i) (hn : ∀ i, U1 i → U i ∨ w.heap.size ≤ i) (M : RLeft w1 w' U1 br bl bn on cn S A) : RLeft w w' U br bl bn on cn S A := by
  obtain ⟨U2, lv2, va2, q2, c2, s2, n2⟩ := M
  refine ⟨U2, lv2, va2, q2, hc.trans c2, fun i hi => s2 i (hs i hi), fun i hi => ?_⟩
  rcases n2 i hi with e | e
  · exact hn i e
  · exact .inr (Nat.le_trans hc.size e)
theorem rleft_more {w1 : World} (hc : Cha (fun i => i = br ∨ i = bl ∨ i = bn) w w1) (M : RLeft w1 w' U br bl bn on cn S A) : RLeft w w' U br bl bn on cn S A := by
  obtain ⟨U2, lv2, va2, q2, c2, s2, n2⟩ := M
  refine ⟨U2, lv2, va2, q2, hc.trans c2, s2, fun i hi => ?_⟩
  rcases n2 i hi with e | e
  · exact .inl e
  · exact .inr (Nat.le_trans hc.size e)
set_option maxRecDepth 100000 in
set_option maxHeartbeats 4000000 in
theorem rput_any (p : Nat) (g : Int) (h : Rq w U br bl bn on cn lv va S A) (hp : p < S.length) (hg : 0 ≤ g) (hS : Nums0 S) (hl8 : ∀ (p : Nat) (x : Prc), S[p]? = some x → x.2.length ≤ 8) (hA : A.length + 5 ≤ 17592186044416) :
    Calls Tryz.prog 41 #[.pointer (some ⟨br, 0, none⟩), .int .i64 (p : Int), .int .i64 g] w fun e w' => e = .returned (.int .i64 0) ∧ RLeft w w' U br bl bn on cn (putS S A p g).1 (putS S A p g).2 := by
  have C := Lib.hid (bad_no p g h hp hg)
  have h8 := h.k8
  have hpx := D_get hp
  unfold putS
  generalize S.getD p (-1, []) = u at *
  obtain ⟨x, L⟩ := u
  dsimp only
  have hx := hS p _ hpx
  have hll : L.length ≤ 8 := hl8 p _ hpx
  dsimp only at hx
  have c0 := h.c0
  obtain ⟨c3, z3⟩ := h.cnx hpx
  dsimp only at c3
  have k3 : (p : Int) < S.length := by omega
  have k4 : (0 : Int) ≤ (p : Int) := by omega
  have q1 := h.nxt p g hpx
  have hp1 : (S.set p (g, L))[p]? = some (g, L) := List.getElem?_set_self hp
  have hcc : Cha (fun i => i = br ∨ i = bl ∨ i = bn) w (w.setCell ⟨bn, on + p, none⟩ (.int .i64 g)) := (Cha.refl _ w).setCell (p := ⟨bn, on + p, none⟩) (fun _ => .inr (.inr rfl)) _
  have R1 := Lib.hid (RLeft.one (w := w) q1 hcc)
  have Q1 := Lib.hid q1
  have HP1 := Lib.hid hp1
  have HCC := Lib.hid hcc
  obtain ⟨W1, hW1⟩ : ∃ W1, W1 = w.setCell ⟨bn, on + p, none⟩ (.int .i64 g) := ⟨_, rfl⟩
  rw [← hW1] at R1 Q1 HCC
  have HW1 := Lib.hid hW1
  by_cases hx0 : x = -1
  · subst hx0
    rw [if_pos rfl]
    clear h q1 hp1 hcc hpx hS hl8 hx hW1
    go_enter Tryz.func41, Tryz.ntmps41
    go_wp2_with (go_at_call 57; ((with_reducible refine (C.out).mono ?_); rintro e w1 ⟨rfl, rfl⟩))
    go_ret
    exact ⟨rfl, by rw [← HW1.out]; exact R1.out⟩
  · rw [if_neg hx0]
    have hx1 : 0 ≤ x := by omega
    have hx2 : decide (x < 0) = false := by simpa using hx1
    obtain ⟨a2, cap2, hlv, _⟩ := (q1.prc p _ hp1).1.form
    rw [← hW1] at q1
    obtain ⟨_, s1, _, _, _, s5, s6⟩ := q1.stay (Cha.refl _ _) p _ hp1
    rw [set_len] at s1
    dsimp only at hlv
    rw [hlv] at s5
    have HLV := Lib.hid hlv
    have c1 := h.c1
    have c4 := (h.clx hpx).1
    rw [hlv] at c4
    have d2 : bn ≠ br := Ne.symm h.d2
    have d3 : bn ≠ bl := Ne.symm h.d3
    have KX : Hid (∀ W', Cha (fun _ => False) W1 W' → W'.cell? ⟨br, 1, none⟩ = some (.slice (some ⟨bl, 0, none⟩) S.length S.length) ∧ W'.cell? ⟨br, 2, none⟩ = some va ∧ W'.frozen? ⟨br, 2, none⟩ = false ∧ W'.cell? ⟨bl, p, none⟩ = some (.slice a2 L.length cap2) ∧ W'.frozen? ⟨bl, p, none⟩ = false) := Lib.hid fun W' hc => by
      obtain ⟨_, e1, e2, e3, _, e5, e6⟩ := Q1.out.stay hc p _ HP1.out
      rw [set_len] at e1
      exact ⟨e1, e2, e3, by rw [e5, HLV.out], e6⟩
    by_cases hl : L.length < 8
    · rw [if_pos hl]
      have C4 := Lib.hid (behind_any (v := .slice a2 L.length cap2) (w := W1.drew) (A := L) x (by rw [← HLV.out]; exact ((Q1.out.drew.prc p _ HP1.out).1)) (by omega))
      have hl2 : (L.length : Int) < 8 := by omega
      have hl3 : decide ((L.length : Int) < 8) = true := by simpa using hl2
      clear h q1 hp1 hcc hpx hS hl8 hx hlv hx0 s1 s5 s6 hW1
      obtain ⟨n, hn⟩ : ∃ n, n = L.length := ⟨_, rfl⟩
      have HN := Lib.hid hn
      rw [← hn] at C4 KX hl2 hl3 c4
      clear hl hll hn
      go_enter Tryz.func41, Tryz.ntmps41
      go_wp2_with (go_at_call 57; ((with_reducible refine (C.out).mono ?_); rintro e w1 ⟨rfl, rfl⟩))
      rw [← HW1.out]
      obtain ⟨t1, _, _, t4, t5⟩ := KX.out W1.drew ((Cha.refl _ W1).drew)
      go_region_law (go_simp; go_at_call 58; refine (C4.out).mono ?_; rintro e w2 ⟨g3, o3, cap3, rfl, m1, m2, m3, m4⟩; have M := Lib.hid (Q1.out.drew.lay HP1.out m1 m2 m3 m4); obtain ⟨u1, _, _, u4, u5⟩ := KX.out w2 (((Cha.refl _ W1).drew).trans m2); clear m1 m2 m3 m4)
      all_goals
        go_wp2
        go_ret
        have M1 := rleft_more HCC.out.drew M.out
        rw [List.set_set] at M1
        exact ⟨rfl, M1⟩
    · rw [if_neg hl]
      have hL8 : L.length = 8 := by omega
      have hl3 : decide ((L.length : Int) < 8) = false := by simp; omega
      have HL0 : Hid (RLeft w W1 U br bl bn on cn (S.set p (g, L)) (A ++ L.take 0)) := Lib.hid (by rw [List.take_zero, List.append_nil]; exact R1.out)
      have HPL := Lib.hid hp
      have HL8 := Lib.hid hL8
      have hl4 : ¬ (L.length < 8) := hl
      clear h q1 hp1 hcc hpx hS hl8 hx hlv hx0 s1 s5 s6 hW1 KX
      rw [hL8] at c4
      go_enter Tryz.func41, Tryz.ntmps41
      go_wp2_with (go_at_call 57; ((with_reducible refine (C.out).mono ?_); rintro e w1 ⟨rfl, rfl⟩))
      rw [← HW1.out]
      clear c0 c1 c3 c4 z3
      go_loopw [8] (fun i wr => ∃ j : Nat, j ≤ 4 ∧ i = .int .i64 (j : Int) ∧ RLeft w wr U br bl bn on cn (S.set p (g, L)) (A ++ L.take j)) (fun i _ => 4 - (intOf i).toNat)
      case atStart => exact ⟨0, by omega, rfl, HL0.out⟩
      case round =>
        clear HL0 R1 Q1
        obtain ⟨j, hj, rfl, hL⟩ := hrel
        obtain ⟨B, hB⟩ : ∃ B, B = A ++ L.take j := ⟨_, rfl⟩
        have hA1 : B.length ≤ A.length + 4 := by rw [hB, List.length_append, List.length_take]; omega
        rw [← hB] at hL
        have HB := Lib.hid hB
        clear hB
        obtain ⟨U1, lv1, va1, q, c, s, n⟩ := hL
        obtain ⟨ga, oa, hlv, _⟩ : ∃ a cap, lv1 p = .slice a L.length cap ∧ L.length ≤ cap := (q.prc p _ HP1.out).1.form
        have hlL := (q.prc p _ HP1.out).1
        have hown := (q.prc p _ HP1.out).2
        rw [hlv] at hlL hown
        obtain ⟨gb, ob, rfl, _, hcap, hcapm, hel⟩ := hlL.some (by show 0 < L.length; omega)
        obtain ⟨a1, cap1, rfl, _⟩ := q.all.form
        have HA1 := Lib.hid hA1
        have HLV := Lib.hid hlv
        have HQ := Lib.hid q
        have HC := Lib.hid c
        have HS := Lib.hid s
        have HN := Lib.hid n
        have HO := Lib.hid hown
        obtain ⟨An, hAn⟩ : ∃ An, An = B.length := ⟨_, rfl⟩
        have HAn := Lib.hid hAn
        have KX : Hid (∀ W', Cha (fun _ => False) wr W' → W'.cell? ⟨br, 1, none⟩ = some (.slice (some ⟨bl, 0, none⟩) S.length S.length) ∧ W'.cell? ⟨br, 2, none⟩ = some (.slice a1 An cap1) ∧ W'.frozen? ⟨br, 2, none⟩ = false ∧ W'.cell? ⟨bl, p, none⟩ = some (.slice (some ⟨gb, ob, none⟩) 8 oa) ∧ W'.frozen? ⟨bl, p, none⟩ = false ∧ ∀ i, i < L.length → W'.cell? ⟨gb, ob + i, none⟩ = some (.int .i64 (L.getD i 0))) := Lib.hid fun W' hc => by
          obtain ⟨_, e1, e2, e3, _, e5, e6⟩ := HQ.out.stay hc p _ HP1.out
          rw [set_len] at e1
          refine ⟨e1, by rw [HAn.out]; exact e2, e3, by rw [e5, HLV.out, HL8.out], e6, ?_⟩
          obtain ⟨_, _, e, _, _, _, k⟩ := (((HQ.out.same hc).prc p _ HP1.out).1.cha (Cha.refl (fun _ => False) W') (fun _ _ f => f) |> fun (k : Lies W' (lv1 p) L) => by rw [HLV.out] at k; exact k.some (by show 0 < L.length; have := HL8.out; omega))
          cases e
          exact k
        have HLL := Lib.hid hlL
        have HCAP := Lib.hid hcap
        have hsz := HQ.out.lt
        by_cases hlt : j < 4
        · have C5 := Lib.hid (behind_any (v := .slice a1 B.length cap1) (w := wr.drew) (A := B) (L.getD j 0) HQ.out.drew.all (by omega))
          rw [← HAn.out] at C5
          have HT := Lib.hid (take_get L (j := j) (by have := HL8.out; omega))
          have hjL : j < L.length := by have := HL8.out; omega
          obtain ⟨t1, t2, t3, t4, t5, t6⟩ := KX.out wr.drew ((Cha.refl _ wr).drew)
          have t6 := t6 j hjL
          generalize L.getD j 0 = u at *
          have k8 : (j : Int) < 8 := by omega
          have k9 : (0 : Int) ≤ (j : Int) := by omega
          clear q c s n hlv hlL hown hel hA1 hAn hcap hcapm
          go_wp2
          go_region_law (go_simp; go_at_call 58; refine (C5.out).mono ?_; rintro e w2 ⟨g3, o3, cap3, rfl, m1, m2, m3, m4⟩; have M := Lib.hid (HQ.out.drew.layAll m1 m2 m3 m4); obtain ⟨_, u2, u3, _⟩ := KX.out w2 (((Cha.refl _ wr).drew).trans m2); clear m1 m2 m3 m4)
          all_goals
            have M1 := Lib.hid (rleft_step HC.out.drew HS.out HN.out M.out)
            have eB : B ++ [u] = A ++ L.take (j + 1) := by rw [HB.out, List.append_assoc, ← HT.out]
            rw [eB] at M1
            clear eB
            go_wp2
            go_roundw
            case rel => exact ⟨j + 1, by omega, by go_num, M1.out⟩
            case measure => simp [intOf]; omega
        · obtain rfl : j = 4 := by omega
          obtain ⟨t1, t2, t3, t4, t5, _⟩ := KX.out wr.drew ((Cha.refl _ wr).drew)
          have hdr := hlL.drop (k := 4) (by omega)
          rw [hL8] at hdr
          have hsl : ∀ w, (Instr.slice 37 (.slice (some ⟨gb, ob, none⟩) 8 oa) (some (.int .i64 4)) none none).run Tryz.prog w = .ok (.slice (some ⟨gb, if oa = 4 then ob else ob + 4, none⟩) (8 - 4) (oa - 4)) w := fun w => slice_from gb ob 8 oa 4 (by omega) w
          obtain ⟨ob', hob⟩ : ∃ o', o' = if oa = 4 then ob else ob + 4 := ⟨_, rfl⟩
          rw [← hob] at hsl hdr
          have hsl : ∀ w, (Instr.slice 37 (.slice (some ⟨gb, ob, none⟩) 8 oa) (some (.int .i64 4)) none none).run Tryz.prog w = .ok (.slice (some ⟨gb, ob', none⟩) 4 (oa - 4)) w := hsl
          have q3 := (HQ.out.put p HP1.out hdr (fun g hg => hown g (by cases hg; rfl))).drew
          rw [List.set_set] at q3
          obtain ⟨W3, hW3⟩ : ∃ W3, W3 = (wr.setCell ⟨bl, p, none⟩ (.slice (some ⟨gb, ob', none⟩) (8 - 4) (oa - 4))).drew := ⟨_, rfl⟩
          have c3w : Cha (fun i => i = br ∨ i = bl ∨ i = bn) wr W3 := by rw [hW3]; exact ((Cha.refl _ wr).setCell (p := ⟨bl, p, none⟩) (fun _ => .inr (.inl rfl)) _).drew
          rw [← hW3] at q3
          have HW3 : Hid (W3 = (wr.setCell ⟨bl, p, none⟩ (.slice (some ⟨gb, ob', none⟩) 4 (oa - 4))).drew) := Lib.hid hW3
          have Q3 := Lib.hid q3
          have C3W := Lib.hid c3w
          have C5 := Lib.hid (behind_any (v := .slice a1 B.length cap1) (w := W3) (A := B) x q3.all (by omega))
          rw [← HAn.out] at C5
          have v2 := q3.c2
          have v3 := q3.free 2
          rw [← hAn] at v2
          have KY : Hid (∀ W', Cha (fun _ => False) W3 W' → W'.cell? ⟨br, 2, none⟩ = some (.slice a1 An cap1) ∧ W'.frozen? ⟨br, 2, none⟩ = false) := Lib.hid fun W' hc => by
            have q := Q3.out.same hc
            exact ⟨by rw [HAn.out]; exact q.c2, q.free 2⟩
          clear q c s n hlv hlL hown hel hA1 hAn hcap hcapm hdr hob q3 c3w hW3
          go_wp2
          go_region
          all_goals
            rw [← HW3.out]
            go_wp2_with (go_at_call 58; ((with_reducible refine (C5.out).mono ?_); rintro e w4 ⟨g3, o3, cap3, rfl, m1, m2, m3, m4⟩; have M := Lib.hid (Q3.out.layAll m1 m2 m3 m4); obtain ⟨y1, y2⟩ := KY.out w4 m2; clear m1 m2 m3 m4))
            go_ret
            have M1 := rleft_step (HC.out.trans C3W.out) HS.out (fun i hi => HN.out i hi) (rleft_more (Cha.refl _ _) M.out)
            have eB : B ++ [x] = A ++ (L.take 4 ++ [x]) := by rw [HB.out, List.append_assoc]
            rw [eB] at M1
            exact ⟨rfl, M1⟩
end Go.Proofs.YtaloafihbdamiaaGreat
