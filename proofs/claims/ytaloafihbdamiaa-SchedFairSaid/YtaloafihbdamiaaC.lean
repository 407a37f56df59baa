/- append, to a list of numbers that may begin anywhere in its block. -/
import Derived.Test.YtaloafihbdamiaaA
namespace Go.Proofs.Ytaloafihbdamiaa
open Go.ChangeShapes Go.WideShapes Go.ChangeAt Go.RowKit

theorem size_setCells (b : Nat) : ∀ (vs : List Value) (o : Nat) (w : World), (w.setCells b o vs).heap.size = w.heap.size
  | [], _, _ => rfl
  | v :: r, o, w => by rw [World.setCells, size_setCells b r]; simp [World.setCell]
theorem heap_setCells_other (b k : Nat) (hk : k ≠ b) : ∀ (vs : List Value) (o : Nat) (w : World), (w.setCells b o vs).heap[k]? = w.heap[k]?
  | [], _, _ => rfl
  | v :: r, o, w => by rw [World.setCells, heap_setCells_other b k hk r, heap_setCell_other _ _ _ _ hk]
theorem heap_setCells_same (b : Nat) (t : TypeId) : ∀ (vs : List Value) (o : Nat) (w : World) (cur : Array Value), w.heap[b]? = some (.cells cur t (0, 0)) → o + vs.length ≤ cur.size →
    ∃ cur', (w.setCells b o vs).heap[b]? = some (.cells cur' t (0, 0)) ∧ cur'.size = cur.size ∧ ∀ i, cur'[i]? = if o ≤ i ∧ i < o + vs.length then vs[i - o]? else cur[i]?
  | [], o, w, cur, h, _ => ⟨cur, h, rfl, fun i => by rw [if_neg (by simp only [List.length_nil]; omega)]⟩
  | v :: r, o, w, cur, h, hl => by
    simp only [List.length_cons] at hl
    obtain ⟨cur', h1, h0, h2⟩ := heap_setCells_same b t r (o + 1) (w.setCell ⟨b, o, none⟩ v) (cur.setIfInBounds o v) (heap_setCell_same w b o cur t v h) (by simp; omega)
    refine ⟨cur', h1, by rw [h0]; simp, fun i => ?_⟩
    rw [h2, Array.getElem?_setIfInBounds]
    simp only [List.length_cons]
    by_cases e : o = i
    · subst e
      rw [if_neg (by omega), if_pos rfl, if_pos (by omega), if_pos (by omega)]
      simp
    · rw [if_neg e]
      by_cases e2 : o + 1 ≤ i ∧ i < o + 1 + r.length
      · rw [if_pos e2, if_pos (by omega), show i - o = (i - (o + 1)) + 1 by omega, List.getElem?_cons_succ]
      · rw [if_neg e2, if_neg (by omega)]
theorem out_setCells (b : Nat) : ∀ (vs : List Value) (o : Nat) (w : World), (w.setCells b o vs).os = w.os ∧ (w.setCells b o vs).output = w.output
  | [], _, _ => ⟨rfl, rfl⟩
  | v :: r, o, w => by rw [World.setCells]; exact out_setCells b r (o + 1) _
theorem Cha.setCells {S : Nat → Prop} {a b : World} (h : Cha S a b) {g : Nat} (hp : g < a.heap.size → S g) (o : Nat) (vs : List Value) : Cha S a (b.setCells g o vs) :=
  ⟨(out_setCells g vs o b).1.trans h.os, (out_setCells g vs o b).2.trans h.out, by rw [size_setCells]; exact h.size, fun i hi hs => (heap_setCells_other g i (fun e => hs (e ▸ hp (e ▸ hi))) vs o b).trans (h.old i hi hs)⟩

theorem info3 : (Try.prog.info? 3).map (fun i => (i.zero, i.size, i.bytes)) = some (some (.int .i64 0), 1, 8) := by kernel_rfl
def iz (A : List Int) : List Value := A.map (Value.int .i64)
theorem iz_get (A : List Int) (i : Nat) : (iz A)[i]? = (A[i]?).map (Value.int .i64) := by simp [iz]
theorem one_int (A : List Int) : ∀ u ∈ iz A, u.oneCell' = true := by
  intro u hu
  obtain ⟨x, _, rfl⟩ := List.mem_map.1 hu
  rfl
theorem Lies.of_own {w : World} {base : Nat} {v : Value} {A : List Int} (h : w.ownsRow base 3 1 v A.length (iz A)) : Lies w v A := by
  rcases h.2 with ⟨rfl, h0⟩ | ⟨g, cap, cur, rfl, hb, hg, h1, h2, h3, h4⟩
  · exact .inl ⟨List.eq_nil_of_length_eq_zero h0, rfl⟩
  · refine .inr ⟨g, 0, cap, cur, rfl, h1, h2, hg, by omega, fun i hi => ?_⟩
    rw [Nat.zero_add]
    have : (cur.toList.take (A.length * 1))[i]? = (iz A)[i]? := by rw [h4]
    rw [List.getElem?_take, if_pos (by omega), iz_get] at this
    rw [Array.getElem?_toList] at this
    rw [this]
    simp [List.getD, List.getElem?_eq_getElem hi]
theorem iz_app (A N : List Int) : iz (A ++ N) = iz A ++ iz N := by simp [iz]

/-- Where the new slice lies: the old one's block, or a new one. -/
structure App (w w' : World) (v : Value) (A N : List Int) (g o cap : Nat) : Prop where
  lies : Lies w' (.slice (some ⟨g, o, none⟩) (A.length + N.length) cap) (A ++ N)
  cha : Cha (fun i => v.ownBlock = some i) w w'
  at' : v.ownBlock = some g ∨ w.heap.size ≤ g
  lt : g < w'.heap.size

theorem run_app (ty : TypeId) {w : World} {v : Value} {A : List Int} (h : Lies w v A) (ad : Addr) (c : Nat) (N : List Int) (hN : ∀ j u, (iz N)[j]? = some u → w.cell? (ad.add j) = some u) (hpos : 0 < N.length)
    (b2 : (A.length + N.length) * 8 ≤ 140737488355328) :
    ∃ g o cap w', (Builtin.append_ #[43, 43] ty #[v, .slice (some ad) N.length c]).run Try.prog w = .ok (.slice (some ⟨g, o, none⟩) (A.length + N.length) cap) w' ∧ App w w' v A N g o cap := by
  obtain ⟨i0, hi, hz0, hz1, hz2⟩ := info_parts info3
  have b1 : A.length + N.length ≤ maxLen := by unfold maxLen; omega
  have hlN : (iz N).length = N.length * 1 := by simp [iz]
  have hlA : (iz A).length = A.length * 1 := by simp [iz]
  have fin : ∀ v' w', w'.ownsRow w.heap.size 3 1 v' (A.length + N.length) (iz A ++ iz N) → w.grownBy w' none → ∃ g o cap, v' = .slice (some ⟨g, o, none⟩) (A.length + N.length) cap ∧ App w w' v A N g o cap := by
    intro v' w' h1 h2
    obtain ⟨g, cap, rfl, hb, hlt⟩ := h1.form (by omega)
    refine ⟨g, 0, cap, rfl, ?_, (Cha.of_grownBy (S := fun _ => False) h2 (fun k e => by cases e)).wide, .inr hb, hlt⟩
    rw [← iz_app, ← List.length_append] at h1
    have := Lies.of_own h1
    rwa [List.length_append] at this
  rcases h with ⟨rfl, rfl⟩ | ⟨g, o, cap, cur, rfl, h1, h2, h3, h4, h5⟩
  · obtain ⟨v', w', hr, r1, r2, _⟩ := run_append_own (P := Try.prog) w w.heap.size 43 ty 3 i0 _ 1 8 Try.underlying43 hi hz0 hz1 hz2 rfl (by decide) (.slice none 0 0) 0 [] (World.ownsRow_nil w _ 3 1) ad N.length c (iz N) hlN hN (one_int N) (by simpa using b1) (by simpa using b2) (Nat.le_refl _)
    obtain ⟨g, o, cap, rfl, k⟩ := fin v' w' (by simpa [iz] using r1) r2
    exact ⟨g, o, cap, w', by simpa using hr, k⟩
  · by_cases hroom : A.length + N.length ≤ cap
    · have hfr : ∀ j, w.frozen? ⟨g, j, none⟩ = false := fun j => frozen_of_row w g j _ 3 h3
      have hcl : ∀ j, w.cell? ⟨g, j, none⟩ = cur[j]? := fun j => cell_of_row w g j cur 3 (0, 0) h3
      have hr := run_append_room_cells (P := Try.prog) w 43 ty 3 i0 Try.underlying43 hi g o A.length cap ad N.length c (iz N) (by rw [hz1]; exact hlN) hN (one_int N) hroom (fun j hj => by rw [hcl, hz1, Array.getElem?_eq_getElem (by omega)]; rfl) (fun j _ => hfr _)
      rw [hz1, Nat.mul_one] at hr
      obtain ⟨cur', c1, c0, c2⟩ := heap_setCells_same g 3 (iz N) (o + A.length) w cur h3 (by omega)
      refine ⟨g, o, cap, _, hr, .inr ⟨g, o, cap, cur', by rw [List.length_append], by rw [List.length_append]; exact hroom, h2, c1, by omega, fun i hi => ?_⟩, (Cha.refl (fun i => (Value.slice (some ⟨g, o, none⟩) A.length cap).ownBlock = some i) w).setCells (g := g) (fun _ => rfl) _ _, .inl rfl, by rw [size_setCells]; exact (Array.getElem?_eq_some_iff.1 h3).1⟩
      rw [List.length_append] at hi
      rw [c2]
      by_cases e : i < A.length
      · rw [if_neg (by omega), h5 i e]
        simp [List.getD, List.getElem?_append_left e]
      · rw [if_pos (by omega), show o + i - (o + A.length) = i - A.length by omega, iz_get]
        simp [List.getD, List.getElem?_append_right (show A.length ≤ i by omega), List.getElem?_eq_getElem (show i - A.length < N.length by omega)]
    · obtain ⟨v', w', hr, r1, r2⟩ := run_append_arg_grows (P := Try.prog) w 43 ty 3 i0 _ 1 8 Try.underlying43 hi hz0 hz1 hz2 rfl (by decide) ⟨g, o, none⟩ A.length cap (iz A) hlA (fun j u hu => by
        have e : (⟨g, o, none⟩ : Addr).add j = ⟨g, o + j, none⟩ := by unfold Addr.add; split <;> simp_all
        rw [e, cell_of_row w g _ cur 3 (0, 0) h3]
        rw [iz_get] at hu
        have hj : j < A.length := by
          by_cases c : j < A.length
          · exact c
          · rw [List.getElem?_eq_none (by omega)] at hu; cases hu
        rw [h5 j hj, ← hu]
        simp [List.getD, List.getElem?_eq_getElem hj]) ad N.length c (iz N) hlN hN (by omega) b1 b2
      obtain ⟨g2, o2, cap2, rfl, k⟩ := fin v' w' r1 r2
      exact ⟨g2, o2, cap2, w', hr, k⟩

section
variable {ops : Array Oper} {rest : List Oper} {o : Oper} {a : Act} {Q : Exit → Act → World → Prop} {w : World}
theorem wp_app {K : Act → World → Prop} (s x : Operand) (ho : o.op = .call { callee := .builtin .append, args := #[s, x], argTypes := #[43, 43] })
    {v : Value} {A : List Int} (hs : a.eval s = v) (hl : Lies w v A) (ad : Addr) (m c : Nat) (N : List Int) (hx : a.eval x = .slice (some ad) m c) (hm : N.length = m) (hN : ∀ j u, (iz N)[j]? = some u → w.cell? (ad.add j) = some u) (hpos : 0 < N.length)
    (b2 : (A.length + N.length) * 8 ≤ 140737488355328)
    (h : ∀ g of cap w', App w w' v A N g of cap → K (a.put o.dst (.slice (some ⟨g, of, none⟩) (A.length + N.length) cap)) w') : o.wp Try.prog a w K Q := by
  subst hm
  obtain ⟨g, of, cap, w', hr, hA⟩ := run_app o.type hl ad c N hN hpos b2
  unfold Oper.wp execOp
  simp only [ho, resolve, invoke, builtin, Sem.run_bind, Sem.run_pure, Result.andThen_ok, List.map_toArray, List.map_cons, List.map_nil, hs, hx, hr]
  exact h g of cap w' hA
theorem wpList_app (hgd : o.guard = none) (s x : Operand) (ho : o.op = .call { callee := .builtin .append, args := #[s, x], argTypes := #[43, 43] })
    {v : Value} {A : List Int} (hs : a.eval s = v) (hl : Lies w v A) (ad : Addr) (m c : Nat) (N : List Int) (hx : a.eval x = .slice (some ad) m c) (hm : N.length = m) (hN : ∀ j u, (iz N)[j]? = some u → w.cell? (ad.add j) = some u) (hpos : 0 < N.length)
    (b2 : (A.length + N.length) * 8 ≤ 140737488355328)
    (h : ∀ g of cap w', App w w' v A N g of cap → wpList Try.prog ops Q rest (a.put o.dst (.slice (some ⟨g, of, none⟩) (A.length + N.length) cap)) w') : wpList Try.prog ops Q (o :: rest) a w :=
  wpList_plain hgd fun _ hK => wp_app s x ho hs hl ad m c N hx hm hN hpos b2 fun g of cap w' hA => hK _ _ (h g of cap w' hA)
theorem step_app {K : Act → World → Prop} {E : Prop} (hgd : o.guard = none) (s x : Operand) (ho : o.op = .call { callee := .builtin .append, args := #[s, x], argTypes := #[43, 43] })
    {v : Value} {A : List Int} (hs : a.eval s = v) (hl : Lies w v A) (ad : Addr) (m c : Nat) (N : List Int) (hx : a.eval x = .slice (some ad) m c) (hm : N.length = m) (hN : ∀ j u, (iz N)[j]? = some u → w.cell? (ad.add j) = some u) (hpos : 0 < N.length)
    (b2 : (A.length + N.length) * 8 ≤ 140737488355328)
    (h : ∀ g of cap w', App w w' v A N g of cap → K (a.put o.dst (.slice (some ⟨g, of, none⟩) (A.length + N.length) cap)) w') :
    if Region.wanted o (yielded ops a.tmps) = true then Oper.wp Try.prog o a w K Q else E := by
  have hw : Region.wanted o (yielded ops a.tmps) = true := by simp [Region.wanted, hgd]
  rw [if_pos hw]
  exact wp_app s x ho hs hl ad m c N hx hm hN hpos b2 h
end
/-- One number that was just laid into a block of its own. -/
theorem one_new (w : World) (x : Int) (t : TypeId) : ∀ j u, (iz [x])[j]? = some u → (w.alloc (.cells #[.int .i64 x] t)).cell? ((⟨w.heap.size, 0, none⟩ : Addr).add j) = some u := by
  intro j u hu
  have hj : j = 0 := by
    cases j with
    | zero => rfl
    | succ n => simp [iz] at hu
  subst hj
  have e : (⟨w.heap.size, 0, none⟩ : Addr).add 0 = ⟨w.heap.size, 0, none⟩ := by unfold Addr.add; split <;> simp_all
  rw [e, cell_of_row _ w.heap.size 0 _ t (0, 0) (heap_alloc_new w _)]
  simpa [iz] using hu
end Go.Proofs.Ytaloafihbdamiaa
