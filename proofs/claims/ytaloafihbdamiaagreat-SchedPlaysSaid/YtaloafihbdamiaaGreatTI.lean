/- Timers: append to a list of them; slices.Insert at the end. -/
import Derived.Test.YtaloafihbdamiaaGreatTM
import Derived.Handy
import Derived.Shelf.RegionOpenPlain
import Derived.Shelf.Spec.SlicesInsert
import Derived.Shelf.Spec.SlicesInsertGrow
namespace Go.Proofs.YtaloafihbdamiaaGreat
open Go.ChangeShapes Go.WideShapes Go.ChangeAt Go.RowKit
variable {w w' : World} {v : Value} {E N : List Ent}

theorem info90 : (Tryz.prog.info? 113).map (fun i => (i.zero, i.size, i.bytes)) = some (some (.agg #[.int .u64 0, .int .u64 0, .int .i64 0]), 3, 24) := by kernel_rfl
theorem ecs_app (E N : List Ent) : ecs (E ++ N) = ecs E ++ ecs N := by simp [ecs]
theorem one_ec (N : List Ent) : ∀ u ∈ ecs N, u.oneCell' = true := by
  intro u hu
  obtain ⟨x, _, hx⟩ := List.mem_flatMap.1 hu
  unfold ec at hx
  simp only [List.mem_cons, List.not_mem_nil, or_false] at hx
  rcases hx with rfl | rfl | rfl <;> rfl
/-- What a call that turns a list in v leaves: the new one, in the old one's block or in a new one. -/
structure EApp (w w' : World) (v : Value) (E : List Ent) (v' : Value) : Prop where
  ents : Ents w' v' E
  cha : Cha (fun i => v.ownBlock = some i) w w'
  at' : ∀ g, v'.ownBlock = some g → v.ownBlock = some g ∨ w.heap.size ≤ g
theorem run_eapp (ty : TypeId) (h : Ents w v E) (ad : Addr) (c : Nat) (hN : ∀ j u, (ecs N)[j]? = some u → w.cell? (ad.add j) = some u) (b2 : (E.length + N.length) * 24 ≤ 140737488355328) (hpos : 0 < N.length) :
    ∃ cap g w', (Builtin.append_ #[106, 106] ty #[v, .slice (some ad) N.length c]).run Tryz.prog w = .ok (.slice (some ⟨g, 0, none⟩) (E.length + N.length) cap) w' ∧ EApp w w' v (E ++ N) (.slice (some ⟨g, 0, none⟩) (E.length + N.length) cap) := by
  obtain ⟨i0, hi, hz0, hz1, hz2⟩ := info_parts info90
  have b1 : E.length + N.length ≤ maxLen := by unfold maxLen; omega
  have fin : ∀ v' w', w'.ownsRow w.heap.size 113 3 v' (E.length + N.length) (ecs E ++ ecs N) → w.grownBy w' none → ∃ cap g, v' = .slice (some ⟨g, 0, none⟩) (E.length + N.length) cap ∧ EApp w w' v (E ++ N) v' := by
    intro v' w' h1 h2
    obtain ⟨g, cap, rfl, hb, hlt⟩ := h1.form (by omega)
    refine ⟨cap, g, rfl, ?_, (Cha.of_grownBy (S := fun _ => False) h2 (fun k e => by cases e)).wide, fun g' hg => .inr ?_⟩
    · unfold Ents
      rw [List.length_append, ecs_app]
      refine ⟨h1.1, ?_⟩
      rcases h1.2 with ⟨e, h0⟩ | ⟨g3, cap3, cur, e, _, r⟩
      · exact .inl ⟨e, h0⟩
      · exact .inr ⟨g3, cap3, cur, e, Nat.zero_le _, r⟩
    · cases hg; exact hb
  rcases h.2 with ⟨rfl, h0⟩ | ⟨g, cap, cur, rfl, _, hg, h1, h2, h3, h4⟩
  · have hE : E = [] := List.eq_nil_of_length_eq_zero h0
    subst hE
    obtain ⟨v', w', hr, r1, r2, _⟩ := run_append_own (P := Tryz.prog) w w.heap.size 106 ty 113 i0 _ 3 24 Tryz.underlying106 hi hz0 hz1 hz2 rfl (by decide) (.slice none 0 0) 0 [] (World.ownsRow_nil w _ 113 3) ad N.length c (ecs N) (ecs_len N) hN (one_ec N) (by simpa using b1) (by simpa using b2) (Nat.le_refl _)
    obtain ⟨cap, g, rfl, k⟩ := fin v' w' (by simpa [ecs] using r1) r2
    exact ⟨cap, g, w', by simpa using hr, k⟩
  · by_cases hroom : E.length + N.length ≤ cap
    · have hfit : E.length * 3 + (ecs N).length ≤ cur.size := by rw [ecs_len, h3]; omega
      have hr := run_append_room (P := Tryz.prog) w 106 ty 113 i0 Tryz.underlying106 hi g E.length cap cur hg ad N.length c (ecs N) (by rw [hz1]; exact ecs_len N) hN (one_ec N) hroom (by rw [hz1]; exact hfit)
      rw [hz1] at hr
      refine ⟨cap, g, _, hr, ⟨?_, .inr ⟨g, cap, _, by rw [List.length_append], Nat.zero_le _, setRow_heap w g cur _ 113 _ hg, by rw [List.length_append]; exact hroom, h2, ?_, ?_⟩⟩, ⟨rfl, rfl, by simp, fun k _ hk => setRow_other w g k _ (fun e => hk (by simp [Value.ownBlock, e]))⟩, fun g' hg' => .inl hg'⟩
      · rw [ecs_len]
      · simp only [List.size_toArray, List.length_append, List.length_take, List.length_drop, Array.length_toList]
        omega
      · rw [List.length_append, ecs_app, h4]
        have e : (E.length + N.length) * 3 = (ecs E ++ ecs N).length := by rw [List.length_append, ecs_len, ecs_len]; omega
        rw [e]
        exact List.take_left
    · obtain ⟨v', w', hr, r1, r2⟩ := run_append_arg_grows (P := Tryz.prog) w 106 ty 113 i0 _ 3 24 Tryz.underlying106 hi hz0 hz1 hz2 rfl (by decide) ⟨g, 0, none⟩ E.length cap (ecs E) (ecs_len E) (World.ownsRow.cells h rfl) ad N.length c (ecs N) (ecs_len N) hN (by omega) b1 b2
      obtain ⟨cap2, g2, rfl, k⟩ := fin v' w' r1 r2
      exact ⟨cap2, g2, w', hr, k⟩
section
variable {ops : Array Oper} {rest : List Oper} {o : Oper} {a : Act} {Q : Exit → Act → World → Prop}
theorem wpList_eapp (hgd : o.guard = none) (s x : Operand) (ho : o.op = .call { callee := .builtin .append, args := #[s, x], argTypes := #[106, 106] })
    (hs : a.eval s = v) (hl : Ents w v E) (ad : Addr) (m c : Nat) (N : List Ent) (hx : a.eval x = .slice (some ad) m c) (hm : N.length = m) (hN : ∀ j u, (ecs N)[j]? = some u → w.cell? (ad.add j) = some u) (hpos : 0 < N.length)
    (b2 : (E.length + N.length) * 24 ≤ 140737488355328)
    (h : ∀ g cap w', EApp w w' v (E ++ N) (.slice (some ⟨g, 0, none⟩) (E.length + N.length) cap) → wpList Tryz.prog ops Q rest (a.put o.dst (.slice (some ⟨g, 0, none⟩) (E.length + N.length) cap)) w') : wpList Tryz.prog ops Q (o :: rest) a w := by
  subst hm
  obtain ⟨cap, g, w', hr, hA⟩ := run_eapp o.type hl ad c hN b2 hpos
  refine wpList_plain hgd fun _ hK => ?_
  unfold Oper.wp execOp
  simp only [ho, resolve, invoke, builtin, Sem.run_bind, Sem.run_pure, Result.andThen_ok, List.map_toArray, List.map_cons, List.map_nil, hs, hx, hr]
  exact hK _ _ (h g cap w' hA)
end
set_option maxRecDepth 100000 in
/-- slices.Insert of one, at the end. -/
theorem insert_end (y : Ent) (vb : Nat) (h : Ents w v E) (hl : E.length ≤ 1024) (hvb : ∀ j u, (ecs [y])[j]? = some u → w.cell? ((⟨vb, 0, none⟩ : Addr).add j) = some u) :
    Calls Tryz.prog 67 #[v, .int .i64 (E.length : Int), .slice (some ⟨vb, 0, none⟩) 1 1] w fun e w' => ∃ g cap, e = .returned (.slice (some ⟨g, 0, none⟩) (E.length + 1) cap) ∧ EApp w w' v (E ++ [y]) (.slice (some ⟨g, 0, none⟩) (E.length + 1) cap) := by
  obtain ⟨s, cap, hv⟩ := h.form
  have hcap : E.length ≤ cap ∧ cap ≤ maxLen := by
    rcases h.2 with ⟨e, h0⟩ | ⟨g, cap', cur, e, _, hg, h1, h2, h3, h4⟩
    · rw [hv] at e
      injection e with e1 e2 e3
      omega
    · rw [hv] at e; cases e; exact ⟨h1, h2⟩
  obtain ⟨hc1, hc2⟩ := hcap
  unfold maxLen at hc2
  have H := Lib.hid h
  have HV := Lib.hid hvb
  subst hv
  clear h hvb
  obtain ⟨n, hn⟩ : ∃ n, n = E.length := ⟨_, rfl⟩
  have HN := Lib.hid hn
  have HB : Hid ((E.length + [y].length) * 24 ≤ 140737488355328) := Lib.hid (by rw [← hn]; simp only [List.length_singleton]; omega)
  rw [← hn] at H hl hc1 ⊢
  clear hn
  by_cases hcn : cap = n
  · subst hcn
    go_enter Tryz.func67, Tryz.ntmps67
    go_wp2_with (at_builtin; go_loud (refine wpList_eapp (v := .slice s cap cap) rfl _ _ rfl rfl H.out ⟨vb, 0, none⟩ 1 1 [y] rfl rfl HV.out (Nat.zero_lt_succ _) HB.out (fun g cap2 w2 hA => ?_); rw [← HN.out] at hA ⊢; have HA := Lib.hid hA; clear hA; dsimp only [List.length_singleton] at HA ⊢))
    go_ret
    exact ⟨g, cap2, rfl, HA.out⟩
  · go_enter Tryz.func67, Tryz.ntmps67
    go_wp2_with (at_builtin; go_loud (refine wpList_eapp (v := .slice s n cap) rfl _ _ rfl rfl H.out ⟨vb, 0, none⟩ 1 1 [y] rfl rfl HV.out (Nat.zero_lt_succ _) HB.out (fun g cap2 w2 hA => ?_); rw [← HN.out] at hA ⊢; have HA := Lib.hid hA; clear hA; dsimp only [List.length_singleton] at HA ⊢))
    go_ret
    exact ⟨g, cap2, rfl, HA.out⟩
end Go.Proofs.YtaloafihbdamiaaGreat

namespace Go.Proofs.YtaloafihbdamiaaGreat
open Go.ChangeShapes Go.WideShapes Go.ChangeAt Go.RowKit
variable {w w' : World} {v : Value} {E N : List Ent} {y : Ent}

theorem run_copy3 (w : World) (ty : TypeId) (b o dLen dCap : Nat) (a : Addr) (sLen sCap : Nat) (cs : List Value) (hn : cs.length = Nat.min sLen dLen * 3)
    (hsrc : ∀ j v, cs[j]? = some v → w.cell? (a.add j) = some v) (hc : ∀ j, j < cs.length → (w.cell? ⟨b, o + j, none⟩).isSome = true) (hf : ∀ j, j < cs.length → w.frozen? ⟨b, o + j, none⟩ = false) (h1 : ∀ v ∈ cs, v.oneCell' = true) :
    (Builtin.copy_ #[106, 106] ty #[.slice (some ⟨b, o, none⟩) dLen dCap, .slice (some a) sLen sCap]).run Tryz.prog w = .ok (goInt (Nat.min sLen dLen)) (w.setCells b o cs) := by
  have hl := run_loadCells_list (P := Tryz.prog) w a cs hsrc
  have hst := run_storeCells_cells (P := Tryz.prog) b o cs 0 w (by simpa using hc) (by simpa using hf) h1
  obtain ⟨i, hi, hz0, hz1, hz2⟩ := info_parts info90
  simp [Builtin.copy_, run_underlying Tryz.underlying106, Builtin.lenOf, Builtin.firstCells, sizeOf, typeInfo, hi, hz1, ← hn, hl, hst]
theorem ecs_take (E : List Ent) (i : Nat) : ecs (E.take i) = (ecs E).take (i * 3) := by
  unfold ecs
  induction E generalizing i with
  | nil => simp
  | cons a l ih =>
    cases i with
    | zero => simp
    | succ i =>
      rw [List.take_succ_cons, List.flatMap_cons, List.flatMap_cons, ih i]
      have hl : (ec a).length = 3 := rfl
      rw [List.take_append, hl, show (i + 1) * 3 - 3 = i * 3 by omega, List.take_of_length_le (l := ec a) (by omega)]
theorem ecs_drop (E : List Ent) (i : Nat) : ecs (E.drop i) = (ecs E).drop (i * 3) := by
  unfold ecs
  induction E generalizing i with
  | nil => simp
  | cons a l ih =>
    cases i with
    | zero => simp
    | succ i =>
      rw [List.drop_succ_cons, List.flatMap_cons, ih i]
      have hl : (ec a).length = 3 := rfl
      rw [List.drop_append, hl, show (i + 1) * 3 - 3 = i * 3 by omega, List.drop_of_length_le (l := ec a) (by omega), List.nil_append]
theorem size3 : ∀ w, (Go.sizeOf 113).run Tryz.prog w = .ok 3 w := fun w => by
  obtain ⟨i, hi, hz0, hz1, hz2⟩ := info_parts info90
  simp [sizeOf, typeInfo, hi, hz1]
theorem apart58 (w : World) (vb g off lb cb : Nat) (c1 c2 : Array Value) (hv : w.heap[vb]? = some (.cells c1 113 (0, 0))) (hg : w.heap[g]? = some (.cells c2 113 (0, 0))) (h0 : c2.size ≠ 0) (hne : vb ≠ g) :
    (callFunc 83 #[.slice (some ⟨vb, 0, none⟩) 1 1, .slice (some ⟨g, off, none⟩) lb cb]).run Tryz.prog w = .ok (.value (.bool false)) w := by
  rw [run_callFunc_extern Tryz.func83 (by kernel_rfl) (by kernel_rfl) (by kernel_rfl) (e := Extern.SlicesOverlaps.overlaps #[106, 106] #[4]) (by kernel_rfl),
    Lib.run_overlaps_apart w 106 4 113 Tryz.underlying106 3 size3 ⟨vb, 0, none⟩ ⟨g, off, none⟩ 1 1 lb cb hne 113 113 c1.size c2.size (by simp [World.shape?, hv]) (by simp [World.shape?, hg]) h0 (frozen_of_row w vb 0 _ 113 hv) (frozen_of_row w vb _ _ 113 hv)]
  rfl
/-- What lies there when the copies are done. -/
theorem eapp_room (w : World) (g n cap i : Nat) (cur : Array Value) (hn : n = E.length) (hi : i < n) (hroom : n + 1 ≤ cap) (hmax : cap ≤ maxLen) (hg : w.heap[g]? = some (.cells cur 113 (0, 0))) (hs : cur.size = cap * 3) (ht : cur.toList.take (n * 3) = ecs E) :
    EApp w ((w.drew.setCells g ((i + 1) * 3) ((ecs E).drop (i * 3))).setCells g (i * 3) (ec y)) (.slice (some ⟨g, 0, none⟩) n cap) (E.take i ++ y :: E.drop i) (.slice (some ⟨g, 0, none⟩) (n + 1) cap) := by
  have hE := ecs_len E
  have hd : ((ecs E).drop (i * 3)).length = (n - i) * 3 := by rw [List.length_drop, hE, ← hn]; omega
  have hy : (ec y).length = 3 := rfl
  obtain ⟨c1, a1, a2, a3⟩ := heap_setCells_same g 113 ((ecs E).drop (i * 3)) ((i + 1) * 3) w.drew cur hg (by rw [hd, hs]; omega)
  obtain ⟨c2, b1, b2, b3⟩ := heap_setCells_same g 113 (ec y) (i * 3) _ c1 a1 (by rw [hy, a2, hs]; omega)
  have hcur : ∀ j, j < n * 3 → cur[j]? = (ecs E)[j]? := fun j hj => by rw [← ht, List.getElem?_take, if_pos hj, Array.getElem?_toList]
  have hL : E.take i ++ y :: E.drop i = E.take i ++ ([y] ++ E.drop i) := rfl
  have hlen : (E.take i ++ y :: E.drop i).length = n + 1 := by rw [List.length_append, List.length_cons, List.length_take, List.length_drop, ← hn]; omega
  refine ⟨⟨ecs_len _, .inr ⟨g, cap, c2, by rw [hlen], Nat.zero_le _, b1, by rw [hlen]; exact hroom, hmax, by rw [b2, a2, hs], ?_⟩⟩, ((((Cha.refl (fun i => (Value.slice (some ⟨g, 0, none⟩) n cap).ownBlock = some i) w).drew).setCells (g := g) (fun _ => rfl) _ _).setCells (g := g) (fun _ => rfl) _ _), fun g' hg' => .inl hg'⟩
  rw [hlen, hL, ecs_app, ecs_app, ecs_take, ecs_drop]
  have hsing : ecs [y] = ec y := by simp [ecs]
  rw [hsing]
  apply List.ext_getElem?
  intro j
  rw [List.getElem?_take]
  by_cases hj : j < (n + 1) * 3
  · rw [if_pos hj, Array.getElem?_toList, b3, hy, a3, hd]
    have e1 : ((ecs E).take (i * 3)).length = i * 3 := by rw [List.length_take, hE, ← hn]; omega
    by_cases k1 : j < i * 3
    · rw [if_neg (by omega), if_neg (by omega), hcur j (by omega), List.getElem?_append_left (by rw [e1]; exact k1), List.getElem?_take, if_pos k1]
    · rw [List.getElem?_append_right (by rw [e1]; omega), e1]
      by_cases k2 : j < i * 3 + 3
      · rw [if_pos (by omega), List.getElem?_append_left (by rw [hy]; omega)]
      · rw [if_neg (by omega), if_pos (by omega), List.getElem?_append_right (by rw [hy]; omega), hy, show j - i * 3 - 3 = j - (i + 1) * 3 by omega]
  · rw [if_neg hj, List.getElem?_eq_none]
    rw [List.length_append, List.length_append, List.length_take, hd, hy, hE, ← hn]
    omega
set_option maxRecDepth 100000 in
set_option maxHeartbeats 4000000 in
/-- slices.Insert of one, in the midst, where there is room. -/
theorem insert_room (y : Ent) (vb g cap i : Nat) (h : Ents w (.slice (some ⟨g, 0, none⟩) E.length cap) E) (hi : i < E.length) (hl : E.length ≤ 1024) (hroom : E.length + 1 ≤ cap)
    (hvb : w.heap[vb]? = some (.cells #[.int .u64 y.when, .int .u64 y.order, .int .i64 y.id] 113 (0, 0))) (hne : vb ≠ g) :
    Calls Tryz.prog 67 #[.slice (some ⟨g, 0, none⟩) E.length cap, .int .i64 (i : Int), .slice (some ⟨vb, 0, none⟩) 1 1] w fun e w' => e = .returned (.slice (some ⟨g, 0, none⟩) (E.length + 1) cap) ∧ EApp w w' (.slice (some ⟨g, 0, none⟩) E.length cap) (E.take i ++ y :: E.drop i) (.slice (some ⟨g, 0, none⟩) (E.length + 1) cap) := by
  rcases h.2 with ⟨e, h0⟩ | ⟨g', cap', cur, e, _, hg, h1, h2, h3, h4⟩
  · cases e
  injection e with e1 e2 e3
  injection e1 with e1
  injection e1 with e1 _ _
  subst e1 e3
  obtain ⟨n, hn⟩ : ∃ n, n = E.length := ⟨_, rfl⟩
  have hm2 := h2
  unfold maxLen at hm2
  rw [← hn] at h4 hi hl hroom ⊢
  have FIN := Lib.hid (eapp_room (y := y) w g n cap i cur hn hi hroom h2 hg h3 h4)
  have hE := ecs_len E
  have hd : ((ecs E).drop (i * 3)).length = (n - i) * 3 := by rw [List.length_drop, hE, ← hn]; omega
  have hcl : ∀ (W : World), W.heap[g]? = w.heap[g]? → ∀ j, W.cell? ⟨g, j, none⟩ = cur[j]? := fun W hW j => cell_of_row W g j cur 113 (0, 0) (hW.trans hg)
  have hcur : ∀ j, j < n * 3 → cur[j]? = (ecs E)[j]? := fun j hj => by rw [← h4, List.getElem?_take, if_pos hj, Array.getElem?_toList]
  have hcp1 : ∀ ty dc sc, (Builtin.copy_ #[106, 106] ty #[.slice (some ⟨g, (i + 1) * 3, none⟩) (n - i) dc, .slice (some ⟨g, i * 3, none⟩) (n + 1 - i) sc]).run Tryz.prog w.drew = .ok (goInt (Nat.min (n + 1 - i) (n - i))) (w.drew.setCells g ((i + 1) * 3) ((ecs E).drop (i * 3))) := fun ty dc sc =>
    run_copy3 w.drew ty g ((i + 1) * 3) (n - i) dc ⟨g, i * 3, none⟩ (n + 1 - i) sc ((ecs E).drop (i * 3)) (by rw [hd]; simp only [Nat.min_def]; split <;> omega)
      (fun j u hj => by
        have hjl : j < (n - i) * 3 := by rw [← hd]; exact (List.getElem?_eq_some_iff.1 hj).1
        rw [Addr.add_lit, hcl w.drew rfl, hcur _ (by omega), ← hj, List.getElem?_drop])
      (fun j hj => by rw [hd] at hj; rw [hcl w.drew rfl, Array.getElem?_eq_getElem (by rw [h3]; omega)]; rfl) (fun j _ => frozen_of_row w.drew g _ cur 113 hg) (fun u hu => one_ec E u (List.mem_of_mem_drop hu))
  obtain ⟨c1, a1, a2, a3⟩ := heap_setCells_same g 113 ((ecs E).drop (i * 3)) ((i + 1) * 3) w.drew cur hg (by rw [hd, h3]; omega)
  have a4 := (heap_setCells_other g vb hne ((ecs E).drop (i * 3)) ((i + 1) * 3) w.drew).trans hvb
  obtain ⟨W1, hW1⟩ : ∃ W1, W1 = w.drew.setCells g ((i + 1) * 3) ((ecs E).drop (i * 3)) := ⟨_, rfl⟩
  rw [← hW1] at a1 a4 hcp1 FIN
  have hcp2 : ∀ (W : World), W.heap = W1.heap → ∀ ty dc, (Builtin.copy_ #[106, 106] ty #[.slice (some ⟨g, i * 3, none⟩) (n + 1 - i) dc, .slice (some ⟨vb, 0, none⟩) 1 1]).run Tryz.prog W = .ok (goInt (Nat.min 1 (n + 1 - i))) (W.setCells g (i * 3) (ec y)) := fun W hW ty dc =>
    run_copy3 W ty g (i * 3) (n + 1 - i) dc ⟨vb, 0, none⟩ 1 1 (ec y) (by show 3 = _; simp only [Nat.min_def]; split <;> omega)
      (fun j u hj => by
        rw [Addr.add_lit, Nat.zero_add, cell_of_row W vb j _ 113 (0, 0) (by rw [hW]; exact a4), ← hj]
        simp [ec])
      (fun j hj => by
        have hj : j < 3 := hj
        rw [cell_of_row W g _ c1 113 (0, 0) (by rw [hW]; exact a1), Array.getElem?_eq_getElem (by rw [a2, h3]; omega)]; rfl) (fun j _ => frozen_of_row W g _ c1 113 (by rw [hW]; exact a1)) (fun u hu => one_ec [y] u (by simpa [ecs] using hu))
  have hov : ∀ off lb cb, (callFunc 83 #[.slice (some ⟨vb, 0, none⟩) 1 1, .slice (some ⟨g, off, none⟩) lb cb]).run Tryz.prog w = .ok (.value (.bool false)) w := fun off lb cb => apart58 w vb g off lb cb _ cur hvb hg (by rw [h3]; omega) hne
  have hz2 : ¬ ((i : Int) = (n : Int)) := by omega
  have hw1 : IntKind.i64.wrap ((i : Int) + 1) = (i : Int) + 1 := IntWalk.i64_in _ (by omega)
  have hw2 : IntKind.i64.wrap ((n : Int) + 1) = (n : Int) + 1 := IntWalk.i64_in _ (by omega)
  have hb1 : (0 : Int) ≤ (i : Int) + 1 := by omega
  have hin : i ≤ n := by omega
  have htn : ((i : Int) + 1).toNat = i + 1 := by omega
  have htn2 : ((n : Int) + 1).toNat = n + 1 := by omega
  have hb2 : ¬ (cap = i + 1) := by omega
  have hb3 : (i : Int) ≤ (n : Int) + 1 := by omega
  have hb4 : ¬ (cap = i) := by omega
  have hb5 : (i : Int) + 1 ≤ (n : Int) + 1 := by omega
  have hb6 : (n : Int) + 1 ≤ (cap : Int) := by omega
  have hb7 : (i : Int) + 1 ≤ (cap : Int) := by omega
  have hb8 : (i : Int) ≤ (cap : Int) := by omega
  have HW := Lib.hid hW1
  clear h h4 hd hcl hcur hE hg hvb a1 a2 a3 a4 hW1 hn h1 e2
  go_enter Tryz.func67, Tryz.ntmps67
  go_wp2_with (simp only [hov])
  go_region_law (refine step_copy_runI rfl _ _ 106 106 rfl _ _ (by simp [Act.eval, Act.put]) (by simp [Act.eval, Act.put]) (hcp1 _ _ _) ?_)
  go_wp2_with (at_builtin; refine wpList_copy_runI _ rfl _ _ 106 106 rfl _ _ rfl rfl (hcp2 _ rfl _ _) ?_)
  go_ret
  exact ⟨rfl, FIN.out⟩
end Go.Proofs.YtaloafihbdamiaaGreat

namespace Go.Proofs.YtaloafihbdamiaaGreat
open Go.ChangeShapes Go.WideShapes Go.ChangeAt Go.RowKit
variable {w w' : World} {v : Value} {E N : List Ent} {y : Ent}

theorem EApp.drew {v' : Value} (h : EApp w w' v E v') : EApp w w'.drew v E v' := ⟨h.ents, h.cha.drew, h.at'⟩
def zero90 : Value := .agg #[.int .u64 0, .int .u64 0, .int .i64 0]
def newRow (E : List Ent) (i n G : Nat) : Array Value := ((ecs E).take (i * 3)).toArray ++ Builtin.zeroCells zero90.cells (n + 1 - i) ++ Builtin.zeroCells zero90.cells (G - (n + 1))
theorem newRow_size (i n G : Nat) (hn : n = E.length) (hi : i < n) (hG : n + 1 ≤ G) : (newRow E i n G).size = G * 3 := by
  have hE := ecs_len E
  have hz : zero90.cells.size = 3 := rfl
  unfold newRow
  rw [Array.size_append, Array.size_append, size_zeroCells, size_zeroCells, hz, List.size_toArray, List.length_take, hE, ← hn]
  omega
theorem newRow_get (i n G j : Nat) (hn : n = E.length) (hi : i < n) (hj : j < i * 3) : (newRow E i n G)[j]? = (ecs E)[j]? := by
  have hE := ecs_len E
  have hl : ((ecs E).take (i * 3)).length = i * 3 := by rw [List.length_take, hE, ← hn]; omega
  unfold newRow
  rw [Array.append_assoc, Array.getElem?_append_left (by rw [List.size_toArray, hl]; exact hj), List.getElem?_toArray, List.getElem?_take, if_pos hj]
/-- What lies there when all is done. -/
theorem eapp_grow (w : World) (g n cap i G : Nat) (hn : n = E.length) (hi : i < n) (hG : n + 1 ≤ G) (hmax : G ≤ maxLen) :
    EApp w (((w.drew.alloc (.cells (newRow E i n G) 113)).setCells w.heap.size (i * 3) (ec y)).setCells w.heap.size ((i + 1) * 3) ((ecs E).drop (i * 3))) (.slice (some ⟨g, 0, none⟩) n cap) (E.take i ++ y :: E.drop i) (.slice (some ⟨w.heap.size, 0, none⟩) (n + 1) G) := by
  have hE := ecs_len E
  have hd : ((ecs E).drop (i * 3)).length = (n - i) * 3 := by rw [List.length_drop, hE, ← hn]; omega
  have hy : (ec y).length = 3 := rfl
  have hs := newRow_size (E := E) i n G hn hi hG
  have hr := heap_alloc_new w.drew (.cells (newRow E i n G) 113)
  obtain ⟨c1, a1, a2, a3⟩ := heap_setCells_same w.heap.size 113 (ec y) (i * 3) _ _ hr (by rw [hy, hs]; omega)
  obtain ⟨c2, b1, b2, b3⟩ := heap_setCells_same w.heap.size 113 ((ecs E).drop (i * 3)) ((i + 1) * 3) _ c1 a1 (by rw [hd, a2, hs]; omega)
  have hL : E.take i ++ y :: E.drop i = E.take i ++ ([y] ++ E.drop i) := rfl
  have hlen : (E.take i ++ y :: E.drop i).length = n + 1 := by rw [List.length_append, List.length_cons, List.length_take, List.length_drop, ← hn]; omega
  refine ⟨⟨ecs_len _, .inr ⟨w.heap.size, G, c2, by rw [hlen], Nat.zero_le _, b1, by rw [hlen]; exact hG, hmax, by rw [b2, a2, hs], ?_⟩⟩, (((((Cha.refl (fun _ => False) w).drew).alloc _).setCells (g := w.heap.size) (fun h => absurd h (Nat.lt_irrefl _)) _ _).setCells (g := w.heap.size) (fun h => absurd h (Nat.lt_irrefl _)) _ _).wide, fun g' hg' => .inr (by cases hg'; exact Nat.le_refl _)⟩
  rw [hlen, hL, ecs_app, ecs_app, ecs_take, ecs_drop]
  have hsing : ecs [y] = ec y := by simp [ecs]
  rw [hsing]
  apply List.ext_getElem?
  intro j
  rw [List.getElem?_take]
  by_cases hj : j < (n + 1) * 3
  · rw [if_pos hj, Array.getElem?_toList, b3, hd, a3, hy]
    have e1 : ((ecs E).take (i * 3)).length = i * 3 := by rw [List.length_take, hE, ← hn]; omega
    by_cases k1 : j < i * 3
    · rw [if_neg (by omega), if_neg (by omega), newRow_get i n G j hn hi k1, List.getElem?_append_left (by rw [e1]; exact k1), List.getElem?_take, if_pos k1]
    · rw [List.getElem?_append_right (by rw [e1]; omega), e1]
      by_cases k2 : j < i * 3 + 3
      · rw [if_neg (by omega), if_pos (by omega), List.getElem?_append_left (by rw [hy]; omega)]
      · rw [if_pos (by omega), List.getElem?_append_right (by rw [hy]; omega), hy, show j - i * 3 - 3 = j - (i + 1) * 3 by omega]
  · rw [if_neg hj, List.getElem?_eq_none]
    rw [List.length_append, List.length_append, List.length_take, hd, hy, hE, ← hn]
    omega
set_option maxRecDepth 100000 in
set_option maxHeartbeats 4000000 in
/-- slices.Insert of one, in the midst, where there is no room. -/
theorem insert_grow (y : Ent) (vb g cap i : Nat) (h : Ents w (.slice (some ⟨g, 0, none⟩) E.length cap) E) (hi : i < E.length) (hl : E.length ≤ 1024) (hroom : cap < E.length + 1)
    (hvb : w.heap[vb]? = some (.cells #[.int .u64 y.when, .int .u64 y.order, .int .i64 y.id] 113 (0, 0))) :
    Calls Tryz.prog 67 #[.slice (some ⟨g, 0, none⟩) E.length cap, .int .i64 (i : Int), .slice (some ⟨vb, 0, none⟩) 1 1] w fun e w' => ∃ g2 cap2, e = .returned (.slice (some ⟨g2, 0, none⟩) (E.length + 1) cap2) ∧ EApp w w' (.slice (some ⟨g, 0, none⟩) E.length cap) (E.take i ++ y :: E.drop i) (.slice (some ⟨g2, 0, none⟩) (E.length + 1) cap2) := by
  rcases h.2 with ⟨e, h0⟩ | ⟨g', cap', cur, e, _, hg, h1, h2, h3, h4⟩
  · cases e
  injection e with e1 e2 e3
  injection e1 with e1
  injection e1 with e1 _ _
  subst e1 e3
  obtain ⟨n, hn⟩ : ∃ n, n = E.length := ⟨_, rfl⟩
  have hm2 := h2
  unfold maxLen at hm2
  rw [← hn] at h4 hi hl hroom h1 ⊢
  obtain ⟨G, hG⟩ : ∃ G, G = grownCap w (n + 1) cap 113 := ⟨_, rfl⟩
  have hGn : n + 1 ≤ G := by rw [hG]; exact grownCap_ge w _ _ _
  have hGm : G ≤ maxLen := by rw [hG]; exact grownCap_le_maxLen w (n + 1) cap 113 (by unfold maxLen; omega)
  have hG63 : G ≤ 9223372036854775807 := by unfold maxLen at hGm; omega
  have FIN := Lib.hid (eapp_grow (y := y) w g n cap i G hn hi hGn hGm)
  have hs := newRow_size (E := E) i n G hn hi hGn
  have hE := ecs_len E
  have hd : ((ecs E).drop (i * 3)).length = (n - i) * 3 := by rw [List.length_drop, hE, ← hn]; omega
  have hgw : g < w.heap.size := (Array.getElem?_eq_some_iff.1 hg).1
  have hvw : vb < w.heap.size := (Array.getElem?_eq_some_iff.1 hvb).1
  have hcl : ∀ (W : World), W.heap[g]? = w.heap[g]? → ∀ j, W.cell? ⟨g, j, none⟩ = cur[j]? := fun W hW j => cell_of_row W g j cur 113 (0, 0) (hW.trans hg)
  have hcur : ∀ j, j < n * 3 → cur[j]? = (ecs E)[j]? := fun j hj => by rw [← h4, List.getElem?_take, if_pos hj, Array.getElem?_toList]
  obtain ⟨i0, hi0, hz0, hzs, hzb⟩ := info_parts info90
  have hkk : (n : Int) + 1 - (i : Int) = ((n + 1 - i : Nat) : Int) := by omega
  have hik : i + (n + 1 - i) = n + 1 := by omega
  have hold : (Builtin.firstCells i0.size i (.slice (some ⟨g, 0, none⟩) i cap)).run Tryz.prog w.drew = .ok ((ecs E).take (i * 3)).toArray w.drew := by
    rw [hzs]
    exact run_firstCells_some w.drew 3 i ⟨g, 0, none⟩ i cap ((ecs E).take (i * 3)) (by rw [List.length_take, hE, ← hn]; omega) (fun j u hj => by
      rw [List.getElem?_take] at hj
      split at hj
      · rw [Addr.add_lit, Nat.zero_add, hcl w.drew rfl, hcur _ (by omega), hj]
      · cases hj)
  have hrz : ∀ ty, (Builtin.append_ #[106, 3] ty #[.slice (some ⟨g, 0, none⟩) i cap, .int .i64 ((n : Int) + 1 - (i : Int))]).run Tryz.prog w =
      .ok (.slice (some ⟨w.heap.size, 0, none⟩) (n + 1) G) (w.drew.alloc (.cells (newRow E i n G) 113)) := fun ty => by
    have h := Lib.run_append_grow_zeros w 106 3 ty 113 i0 _ .i64 .i64 Tryz.underlying106 Tryz.underlying3 hi0 hz0 (some ⟨g, 0, none⟩) i cap ((ecs E).take (i * 3)) hold (n + 1 - i) (by omega) (by omega) (by omega) (by omega) (by rw [hzb]; omega) (by rw [hzb, hik]; exact growslice_fits hroom (by omega))
    rw [hik, ← hG] at h
    rw [hkk]
    exact h
  obtain ⟨R, hR⟩ : ∃ R, R = newRow E i n G := ⟨_, rfl⟩
  rw [← hR] at hrz hs FIN
  obtain ⟨W1, hW1⟩ : ∃ W1, W1 = w.drew.alloc (.cells R 113) := ⟨_, rfl⟩
  have a1 : W1.heap[w.heap.size]? = some (.cells R 113 (0, 0)) := by rw [hW1]; exact heap_alloc_new w.drew _
  have a2 : W1.heap[g]? = w.heap[g]? := by rw [hW1]; exact heap_alloc_old w.drew _ hgw
  have a3 : W1.heap[vb]? = w.heap[vb]? := by rw [hW1]; exact heap_alloc_old w.drew _ hvw
  rw [← hW1] at hrz FIN
  have hcpA : ∀ (W : World), W.heap = W1.heap → ∀ ty dc, (Builtin.copy_ #[106, 106] ty #[.slice (some ⟨w.heap.size, i * 3, none⟩) (n + 1 - i) dc, .slice (some ⟨vb, 0, none⟩) 1 1]).run Tryz.prog W = .ok (goInt (Nat.min 1 (n + 1 - i))) (W.setCells w.heap.size (i * 3) (ec y)) := fun W hW ty dc =>
    run_copy3 W ty w.heap.size (i * 3) (n + 1 - i) dc ⟨vb, 0, none⟩ 1 1 (ec y) (by show 3 = _; simp only [Nat.min_def]; split <;> omega)
      (fun j u hj => by
        rw [Addr.add_lit, Nat.zero_add, cell_of_row W vb j _ 113 (0, 0) (by rw [hW, a3]; exact hvb), ← hj]
        simp [ec])
      (fun j hj => by
        have hj : j < 3 := hj
        rw [cell_of_row W w.heap.size _ R 113 (0, 0) (by rw [hW]; exact a1), Array.getElem?_eq_getElem (by rw [hs]; omega)]; rfl) (fun j _ => frozen_of_row W w.heap.size _ R 113 (by rw [hW]; exact a1)) (fun u hu => one_ec [y] u (by simpa [ecs] using hu))
  obtain ⟨c1, b1, b2, b3⟩ := heap_setCells_same w.heap.size 113 (ec y) (i * 3) W1 R a1 (by show i * 3 + 3 ≤ _; rw [hs]; omega)
  have b4 := (heap_setCells_other w.heap.size g (by omega) (ec y) (i * 3) W1).trans a2
  obtain ⟨W2, hW2⟩ : ∃ W2, W2 = W1.setCells w.heap.size (i * 3) (ec y) := ⟨_, rfl⟩
  rw [← hW2] at b1 b4
  have hcpB : ∀ (W : World), W.heap = W2.heap → ∀ ty dc sc, (Builtin.copy_ #[106, 106] ty #[.slice (some ⟨w.heap.size, (i + 1) * 3, none⟩) (n - i) dc, .slice (some ⟨g, i * 3, none⟩) (n - i) sc]).run Tryz.prog W = .ok (goInt (Nat.min (n - i) (n - i))) (W.setCells w.heap.size ((i + 1) * 3) ((ecs E).drop (i * 3))) := fun W hW ty dc sc =>
    run_copy3 W ty w.heap.size ((i + 1) * 3) (n - i) dc ⟨g, i * 3, none⟩ (n - i) sc ((ecs E).drop (i * 3)) (by rw [hd]; simp only [Nat.min_def]; split <;> omega)
      (fun j u hj => by
        have hjl : j < (n - i) * 3 := by rw [← hd]; exact (List.getElem?_eq_some_iff.1 hj).1
        rw [Addr.add_lit, hcl W (by rw [hW]; exact b4), hcur _ (by omega), ← hj, List.getElem?_drop])
      (fun j hj => by
        rw [hd] at hj
        rw [cell_of_row W w.heap.size _ c1 113 (0, 0) (by rw [hW]; exact b1), Array.getElem?_eq_getElem (by rw [b2, hs]; omega)]; rfl) (fun j _ => frozen_of_row W w.heap.size _ c1 113 (by rw [hW]; exact b1)) (fun u hu => one_ec E u (List.mem_of_mem_drop hu))
  have hH1 : ((w.alloc (.cells R 113)).drew).heap = W1.heap := by rw [hW1]; rfl
  have hH2 : (((w.alloc (.cells R 113)).drew.setCells w.heap.size (i * 3) (ec y)).drew).heap = W2.heap := by rw [hW2, hW1]; rfl
  have FIN2 : Hid (EApp w ((((w.alloc (.cells R 113)).drew.setCells w.heap.size (i * 3) (ec y)).drew).setCells w.heap.size ((i + 1) * 3) ((ecs E).drop (i * 3))) (.slice (some ⟨g, 0, none⟩) n cap) (E.take i ++ y :: E.drop i) (.slice (some ⟨w.heap.size, 0, none⟩) (n + 1) G)) := Lib.hid (by have := FIN.out.drew; rw [hW1, drew_setCells] at this; exact this)
  rw [hW1] at hrz
  have hz2 : ¬ ((i : Int) = (n : Int)) := by omega
  have hz3 : (cap : Int) < (n : Int) + 1 := by omega
  have hw1 : IntKind.i64.wrap ((i : Int) + 1) = (i : Int) + 1 := IntWalk.i64_in _ (by omega)
  have hw2 : IntKind.i64.wrap ((n : Int) + 1) = (n : Int) + 1 := IntWalk.i64_in _ (by omega)
  have hw3 : IntKind.i64.wrap ((n : Int) + 1 - (i : Int)) = (n : Int) + 1 - (i : Int) := IntWalk.i64_in _ (by omega)
  have hb1 : (0 : Int) ≤ (i : Int) + 1 := by omega
  have hin : i ≤ n := by omega
  have htn : ((i : Int) + 1).toNat = i + 1 := by omega
  have hGi : ¬ (G = i) := by omega
  have hGim : ¬ (G = i + 1) := by omega
  have hci : ¬ (cap = i) := by omega
  have hb3 : (i : Int) ≤ (n : Int) := by omega
  have hb4 : (i : Int) ≤ (n : Int) + 1 := by omega
  have hb5 : (i : Int) + 1 ≤ (n : Int) + 1 := by omega
  have hb8 : (i : Int) ≤ (cap : Int) := by omega
  clear FIN h h4 hd hcl hcur hE hg hvb a1 a2 a3 b1 b2 b3 b4 hW1 hW2 hn h1 e2 hs hR hG hkk hik hold
  go_enter Tryz.func67, Tryz.ntmps67
  go_wp2_with (first
    | (at_builtin; refine Lib.wpList_append_run _ rfl _ _ _ _ rfl _ _ rfl rfl _ _ (hrz _) ?_)
    | (at_builtin; refine wpList_copy_runI _ rfl _ _ 106 106 rfl _ _ rfl rfl (hcpA _ hH1 _ _) ?_))
  go_region_law (refine step_copy_runI rfl _ _ 106 106 rfl (.slice (some ⟨w.heap.size, (i + 1) * 3, none⟩) (n - i) (G - (i + 1))) (.slice (some ⟨g, i * 3, none⟩) (n - i) (cap - i)) (by simp [Act.eval, Act.put]) (by simp [Act.eval, Act.put]) (hcpB _ hH2 3 (G - (i + 1)) (cap - i)) ?_)
  go_wp2
  go_ret
  exact ⟨_, _, rfl, FIN2.out⟩
/-- slices.Insert of one. -/
theorem insert_any (y : Ent) (vb i : Nat) (h : Ents w v E) (hi : i ≤ E.length) (hl : E.length ≤ 1024)
    (hvb : w.heap[vb]? = some (.cells #[.int .u64 y.when, .int .u64 y.order, .int .i64 y.id] 113 (0, 0))) (hne : ∀ g, v.ownBlock = some g → vb ≠ g) :
    Calls Tryz.prog 67 #[v, .int .i64 (i : Int), .slice (some ⟨vb, 0, none⟩) 1 1] w fun e w' => ∃ g cap, e = .returned (.slice (some ⟨g, 0, none⟩) (E.length + 1) cap) ∧ EApp w w' v (E.take i ++ y :: E.drop i) (.slice (some ⟨g, 0, none⟩) (E.length + 1) cap) := by
  by_cases he : i = E.length
  · subst he
    rw [List.take_length, List.drop_length]
    refine insert_end y vb h hl fun j u hj => ?_
    rw [Addr.add_lit, Nat.zero_add, cell_of_row w vb j _ 113 (0, 0) hvb, ← hj]
    simp [ecs, ec]
  · obtain ⟨g, cap, rfl, hc, hm, -⟩ := h.at (i := i) (by omega)
    by_cases hr : E.length + 1 ≤ cap
    · exact (insert_room y vb g cap i h (by omega) hl hr hvb (hne g rfl)).mono fun e w' k => ⟨g, cap, k⟩
    · exact insert_grow y vb g cap i h (by omega) hl (by omega) hvb
end Go.Proofs.YtaloafihbdamiaaGreat

namespace Go.Proofs.YtaloafihbdamiaaGreat
open Go.ChangeShapes Go.WideShapes Go.ChangeAt Go.RowKit
variable {w w' : World} {F F' : Nat → Prop} {bt bp : Nat} {lv : Nat → Value} {P : List (List Ent)} {a x : Int} {y : Ent} {E L L2 : List Ent} {v v' : Value}

theorem Ents.cha (h : Ents w v E) (c : Cha F w w') (hb : ∀ g, v.ownBlock = some g → ¬ F g) : Ents w' v E := by
  refine ⟨h.1, ?_⟩
  rcases h.2 with ⟨e, h0⟩ | ⟨g, cap, cur, e, k0, hg, r⟩
  · exact .inl ⟨e, h0⟩
  · exact .inr ⟨g, cap, cur, e, k0, (c.old g (Array.getElem?_eq_some_iff.1 hg).1 (hb g (by rw [e]; rfl))).trans hg, r⟩
/-- Behind a call. -/
def TLeft (w w' : World) (F : Nat → Prop) (bt bp : Nat) (P : List (List Ent)) (a : Int) : Prop :=
  ∃ F' lv, Ts w' F' bt bp lv P a ∧ Cha F w w' ∧ (∀ i, F i → F' i) ∧ ∀ i, F' i → F i ∨ w.heap.size ≤ i
theorem Ts.same (h : Ts w F bt bp lv P a) (c : Cha (fun _ => False) w w') : Ts w' F bt bp lv P a :=
  ⟨(c.old bt (h.old _ h.ft) (fun f => f)).trans h.head, h.k1, h.k8, c.row h.tab (fun f => f), fun p L hp => (h.lst p L hp).cha c (fun _ _ f => f), h.ne, h.ft, h.fp, h.fv, h.fpq, fun i hi => Nat.lt_of_lt_of_le (h.old i hi) c.size⟩
/-- One more was added. -/
theorem Ts.count (h : Ts w F bt bp lv P a) (x : Int) : Ts (w.setCell ⟨bt, 1, none⟩ (.int .u64 x)) F bt bp lv P x := by
  have c : Cha (fun i => i = bt) w (w.setCell ⟨bt, 1, none⟩ (.int .u64 x)) := (Cha.refl (fun i => i = bt) w).setCell (p := ⟨bt, 1, none⟩) (fun _ => rfl) _
  refine ⟨?_, h.k1, h.k8, c.row h.tab (fun e => h.ne e.symm), fun p L hp => (h.lst p L hp).cha c (fun g hg e => (h.fv p g (List.getElem?_eq_some_iff.1 hp).1 hg).2.1 e), h.ne, h.ft, h.fp, h.fv, h.fpq, fun i hi => Nat.lt_of_lt_of_le (h.old i hi) c.size⟩
  have e := heap_setCell_same w bt 1 _ 95 (.int .u64 x) h.head
  rw [e]
  rfl
/-- A processor's list is another one now. -/
theorem Ts.put (h : Ts w F bt bp lv P a) {p : Nat} (hp : p < P.length) (k : EApp w w' (lv p) L2 v') :
    TLeft w (w'.setCell ⟨bp, p, none⟩ v') F bt bp (P.set p L2) a := by
  have hs : (P.set p L2).length = P.length := List.length_set ..
  have c1 : Cha F w w' := k.cha.mono fun i _ e => (h.fv p i hp e).1
  have c2 : Cha F w (w'.setCell ⟨bp, p, none⟩ v') := c1.setCell (p := ⟨bp, p, none⟩) (fun _ => h.fp) _
  have hbp : FRow 106 w' bp P.length lv := k.cha.row h.tab (fun e => (h.fv p bp hp e).2.2 rfl)
  have kset : Cha (fun i => i = bp) w' (w'.setCell ⟨bp, p, none⟩ v') := (Cha.refl (fun i => i = bp) w').setCell (p := ⟨bp, p, none⟩) (fun _ => rfl) _
  have hnew : ∀ g, v'.ownBlock = some g → g ≠ bt ∧ g ≠ bp ∧ (∀ q, q < P.length → q ≠ p → (lv q).ownBlock ≠ some g) := fun g hg => by
    rcases k.at' g hg with e | e
    · have r := h.fv p g hp e
      exact ⟨r.2.1, r.2.2, fun q hq hqp => fun c => h.fpq q p g hq hp hqp c e⟩
    · refine ⟨fun c => ?_, fun c => ?_, fun q hq hqp c => ?_⟩
      · have := h.old _ h.ft; omega
      · have := h.old _ h.fp; omega
      · have := h.old _ (h.fv q g hq c).1; omega
  have hlt : ∀ g, v'.ownBlock = some g → g < w'.heap.size := fun g hg => (World.ownsRow.lt k.ents g hg).2
  refine ⟨fun i => F i ∨ v'.ownBlock = some i, fun i => if i = p then v' else lv i, ⟨?_, by rw [hs]; exact h.k1, by rw [hs]; exact h.k8, by rw [hs]; exact hbp.set v', fun q L hq => ?_, h.ne, .inl h.ft, .inl h.fp, fun q g hq hg => ?_, fun q r g hq hr hqr hg => ?_, fun i hi => ?_⟩, c2, fun i hi => .inl hi, fun i hi => ?_⟩
  · rw [hs]
    have e1 := k.cha.old bt (h.old _ h.ft) (fun e => (h.fv p bt hp e).2.1 rfl)
    exact (heap_setCell_other w' _ _ _ (show bt ≠ bp from h.ne)).trans (e1.trans h.head)
  · by_cases e : q = p
    · subst e
      rw [List.getElem?_set_self hp] at hq
      cases hq
      rw [if_pos rfl]
      exact k.ents.cha kset (fun g hg e => (hnew g hg).2.1 e)
    · rw [List.getElem?_set_ne (Ne.symm e)] at hq
      rw [if_neg e]
      have hql := (List.getElem?_eq_some_iff.1 hq).1
      have r := (h.lst q L hq).cha k.cha (fun g hg c => h.fpq q p g hql hp e hg c)
      exact r.cha kset (fun g hg c => (h.fv q g hql hg).2.2 c)
  · rw [hs] at hq
    by_cases e : q = p
    · rw [if_pos e] at hg
      exact ⟨.inr hg, (hnew g hg).1, (hnew g hg).2.1⟩
    · rw [if_neg e] at hg
      have r := h.fv q g hq hg
      exact ⟨.inl r.1, r.2⟩
  · rw [hs] at hq hr
    by_cases e : q = p
    · rw [if_pos e] at hg
      rw [if_neg (fun c => hqr (e.trans c.symm))]
      exact (hnew g hg).2.2 r hr (fun c => hqr (e.trans c.symm))
    · rw [if_neg e] at hg
      by_cases e2 : r = p
      · rw [if_pos e2]
        exact fun c => (hnew g c).2.2 q hq e hg
      · rw [if_neg e2]
        exact h.fpq q r g hq hr hqr hg
  · rw [show (w'.setCell ⟨bp, p, none⟩ v').heap.size = w'.heap.size by simp [World.setCell]]
    rcases hi with hi | hi
    · exact Nat.lt_of_lt_of_le (h.old i hi) c1.size
    · exact hlt i hi
  · rcases hi with hi | hi
    · exact .inl hi
    · rcases k.at' i hi with e | e
      · exact .inl (h.fv p i hp e).1
      · exact .inr e
theorem tadd_none (p t n : Int) (w : World) : Calls Tryz.prog 49 #[.pointer none, .int .i64 p, .int .u64 t, .int .i64 n] w fun e w' => e = .returned (.int .i64 5) ∧ w = w' := by
  go_enter Tryz.func49, Tryz.ntmps49
  go_wp2
  go_ret
  exact ⟨rfl, rfl⟩
theorem tadd_bad (p t n : Int) (h : Ts w F bt bp lv P a) (hp : p < 0 ∨ (P.length : Int) ≤ p) : Calls Tryz.prog 49 #[.pointer (some ⟨bt, 0, none⟩), .int .i64 p, .int .u64 t, .int .i64 n] w fun e w' => e = .returned (.int .i64 1) ∧ w = w' := by
  have C := Lib.hid (tisproc_no p h hp)
  clear h hp
  go_enter Tryz.func49, Tryz.ntmps49
  go_wp2_with (go_at_call 64; ((with_reducible refine (C.out).mono ?_); rintro e w1 ⟨rfl, rfl⟩))
  go_ret
  exact ⟨rfl, rfl⟩
theorem tadd_full (p : Nat) (t n : Int) (h : Ts w F bt bp lv P a) (hp : p < P.length) (hm : many P = 1024) : Calls Tryz.prog 49 #[.pointer (some ⟨bt, 0, none⟩), .int .i64 (p : Int), .int .u64 t, .int .i64 n] w fun e w' => e = .returned (.int .i64 3) ∧ ∃ k, w' = w.drewN k := by
  have C := Lib.hid (tisproc_yes p h hp)
  have D := Lib.hid (tcount_any h (by omega))
  rw [hm] at D
  clear h hp hm
  go_enter Tryz.func49, Tryz.ntmps49
  go_wp2_with (first
    | (go_at_call 64; ((with_reducible refine (C.out).mono ?_); rintro e w1 ⟨rfl, rfl⟩))
    | (go_at_call 34; ((with_reducible refine (D.out).mono ?_); rintro e w1 ⟨rfl, k, rfl⟩)))
  go_ret
  exact ⟨rfl, k, rfl⟩
end Go.Proofs.YtaloafihbdamiaaGreat

namespace Go.Proofs.YtaloafihbdamiaaGreat
open Go.ChangeShapes Go.WideShapes Go.ChangeAt Go.RowKit
variable {w w' : World} {F F' : Nat → Prop} {bt bp : Nat} {lv : Nat → Value} {P : List (List Ent)} {a x : Int} {y : Ent} {E L L2 : List Ent} {v v' : Value}
theorem TLeft.over {w3 : World} (h : TLeft w3 w' F bt bp P a) (c : Cha F w w3) : TLeft w w' F bt bp P a := by
  obtain ⟨F', lv', k1, k2, k3, k4⟩ := h
  exact ⟨F', lv', k1, c.trans k2, k3, fun i hi => (k4 i hi).imp id (fun h => Nat.le_trans c.size h)⟩
set_option maxRecDepth 100000 in
set_option linter.unusedSimpArgs false in
set_option maxHeartbeats 4000000 in
theorem tadd_ok (p : Nat) (t n : Int) (h : Ts w F bt bp lv P a) (hp : P[p]? = some L) (hm : many P < 1024) (ha : 0 ≤ a) (ha2 : a < 2 ^ 63) (hs : ∀ i j, i < j → j < L.length → (L.getD j ⟨0, 0, 0⟩).cmp ⟨t, a, n⟩ < 0 → (L.getD i ⟨0, 0, 0⟩).cmp ⟨t, a, n⟩ < 0) :
    Calls Tryz.prog 49 #[.pointer (some ⟨bt, 0, none⟩), .int .i64 (p : Int), .int .u64 t, .int .i64 n] w fun e w' => e = .returned (.int .i64 0) ∧ ∃ i, Place L ⟨t, a, n⟩ i ∧ TLeft w w' F bt bp (P.set p (L.take i ++ ⟨t, a, n⟩ :: L.drop i)) (a + 1) := by
  have hpl := (List.getElem?_eq_some_iff.1 hp).1
  have C := Lib.hid (tisproc_yes p h hpl)
  have D := Lib.hid (tcount_any h (by omega))
  have hq : ((many P : Nat) : Int) < 1024 := by omega
  obtain ⟨q, hqe⟩ : ∃ q, q = many P := ⟨_, rfl⟩
  rw [← hqe] at D hq
  clear hqe
  have c0 := h.ptr
  have c1 := h.num
  have z1 := h.free 1
  have hw1 : IntKind.u64.wrap (a + 1) = a + 1 := by rw [IntKind.wrap_u64]; omega
  have H := Lib.hid h
  have hbt := h.old bt h.ft
  have hA : ∀ k, ((w.drewN k).alloc (.cells #[.int .u64 0, .int .u64 0, .int .i64 0] 113)).heap[w.heap.size]? = some (.cells #[.int .u64 0, .int .u64 0, .int .i64 0] 113 (0, 0)) := fun k => heap_alloc_new (w.drewN k) _
  have g0 : ∀ k, ((w.drewN k).alloc (.cells #[.int .u64 0, .int .u64 0, .int .i64 0] 113)).cell? ⟨w.heap.size, 0, none⟩ = some (.int .u64 0) := fun k => cell_of_row _ w.heap.size 0 _ 113 (0, 0) (hA k)
  have g1 : ∀ k, ((w.drewN k).alloc (.cells #[.int .u64 0, .int .u64 0, .int .i64 0] 113)).cell? ⟨w.heap.size, 1, none⟩ = some (.int .u64 0) := fun k => cell_of_row _ w.heap.size 1 _ 113 (0, 0) (hA k)
  have g2 : ∀ k, ((w.drewN k).alloc (.cells #[.int .u64 0, .int .u64 0, .int .i64 0] 113)).cell? ⟨w.heap.size, 2, none⟩ = some (.int .i64 0) := fun k => cell_of_row _ w.heap.size 2 _ 113 (0, 0) (hA k)
  have gz : ∀ k j, ((w.drewN k).alloc (.cells #[.int .u64 0, .int .u64 0, .int .i64 0] 113)).frozen? ⟨w.heap.size, j, none⟩ = false := fun k j => frozen_of_row _ w.heap.size j _ 113 (hA k)
  obtain ⟨WN, hWN⟩ : ∃ WN : Nat → World, ∀ k, ((((((w.drewN k).alloc (.cells #[.int .u64 0, .int .u64 0, .int .i64 0] 113)).setCell ⟨w.heap.size, 0, none⟩ (.int .u64 t)).setCell ⟨w.heap.size, 1, none⟩ (.int .u64 a)).setCell ⟨w.heap.size, 2, none⟩ (.int .i64 n))) = WN k := ⟨fun k => ((((((w.drewN k).alloc (.cells #[.int .u64 0, .int .u64 0, .int .i64 0] 113)).setCell ⟨w.heap.size, 0, none⟩ (.int .u64 t)).setCell ⟨w.heap.size, 1, none⟩ (.int .u64 a)).setCell ⟨w.heap.size, 2, none⟩ (.int .i64 n))), fun k => rfl⟩
  have KN : ∀ k, Cha (fun _ => False) w (WN k) ∧ (WN k).heap.size = w.heap.size + 1 ∧ (WN k).heap[w.heap.size]? = some (.cells #[.int .u64 t, .int .u64 a, .int .i64 n] 113 (0, 0)) := fun k => by
    refine ⟨?_, ?_, ?_⟩
    · rw [← hWN]
      have c0 := ((Cha.refl (fun _ => False) w).drewN k).alloc (.cells #[.int .u64 0, .int .u64 0, .int .i64 0] 113)
      exact ((c0.setCell (p := ⟨w.heap.size, 0, none⟩) (fun e => absurd e (Nat.lt_irrefl _)) _).setCell (p := ⟨w.heap.size, 1, none⟩) (fun e => absurd e (Nat.lt_irrefl _)) _).setCell (p := ⟨w.heap.size, 2, none⟩) (fun e => absurd e (Nat.lt_irrefl _)) _
    · rw [← hWN]; simp [World.setCell, World.alloc, World.drewN]
    · rw [← hWN]
      have e1 := heap_setCell_same _ w.heap.size 0 _ 113 (.int .u64 t) (hA k)
      have e2 := heap_setCell_same _ w.heap.size 1 _ 113 (.int .u64 a) e1
      exact heap_setCell_same _ w.heap.size 2 _ 113 (.int .i64 n) e2
  have TN : ∀ k, Ts (WN k) F bt bp lv P a := fun k => h.same (KN k).1
  have c1n : ∀ k, (WN k).cell? ⟨bt, 1, none⟩ = some (.int .u64 a) := fun k => (TN k).num
  have z1n : ∀ k, (WN k).frozen? ⟨bt, 1, none⟩ = false := fun k => (TN k).free 1
  have TN2 : Hid (∀ k, Ts ((WN k).setCell ⟨bt, 1, none⟩ (.int .u64 (a + 1))) F bt bp lv P (a + 1)) := Lib.hid fun k => (TN k).count (a + 1)
  have KN2 := Lib.hid KN
  have HS := Lib.hid hs
  have HL : Hid (L.length ≤ 1024) := Lib.hid (by
    have e1 := many_take P p hpl
    have e2 := many_le P (p + 1)
    have e3 : P.getD p [] = L := by simp [List.getD, hp]
    rw [e3] at e1
    omega)
  clear h hA TN KN hs
  go_enter Tryz.func49, Tryz.ntmps49
  go_wp2_with (first
    | (go_at_call 64; ((with_reducible refine (C.out).mono ?_); rintro e w1 ⟨rfl, rfl⟩))
    | (go_at_call 34; ((with_reducible refine (D.out).mono ?_); rintro e w1 ⟨rfl, k, rfl⟩)))
  obtain ⟨W, hW⟩ : ∃ W, W = (WN k).setCell ⟨bt, 1, none⟩ (.int .u64 (a + 1)) := ⟨_, rfl⟩
  rw [← hW]
  have T := TN2.out k
  rw [← hW] at T
  have hvb : W.heap[w.heap.size]? = some (.cells #[.int .u64 t, .int .u64 a, .int .i64 n] 113 (0, 0)) := by rw [hW]; exact (heap_setCell_other _ _ _ _ (show w.heap.size ≠ bt by omega)).trans (KN2.out k).2.2
  have cW : Cha F w W := by rw [hW]; exact ((KN2.out k).1.wide).setCell (p := ⟨bt, 1, none⟩) (fun _ => H.out.ft) _
  obtain ⟨vb, hvbe⟩ : ∃ vb, vb = w.heap.size := ⟨_, rfl⟩
  rw [← hvbe] at hvb ⊢
  have hFvb : Hid (¬ F vb) := Lib.hid fun c => by have := H.out.old vb c; omega
  have HVBE := Lib.hid hvbe
  have HT := Lib.hid T
  have HCW := Lib.hid cW
  have t0 : W.drew.cell? ⟨bt, 0, none⟩ = some (.slice (some ⟨bp, 0, none⟩) P.length P.length) := T.ptr
  have t1 : W.drew.cell? ⟨bp, p, none⟩ = some (lv p) := T.tab.cell hpl
  have t2 : W.drew.cell? ⟨vb, 0, none⟩ = some (.int .u64 t) := cell_of_row W vb 0 _ 113 (0, 0) hvb
  have t3 : W.drew.cell? ⟨vb, 1, none⟩ = some (.int .u64 a) := cell_of_row W vb 1 _ 113 (0, 0) hvb
  have t4 : W.drew.cell? ⟨vb, 2, none⟩ = some (.int .i64 n) := cell_of_row W vb 2 _ 113 (0, 0) hvb
  have KS : Hid (∀ w', Cha (fun _ => False) W.drew w' → w'.cell? ⟨bt, 0, none⟩ = some (.slice (some ⟨bp, 0, none⟩) P.length P.length) ∧ w'.cell? ⟨bp, p, none⟩ = some (lv p) ∧ w'.cell? ⟨vb, 0, none⟩ = some (.int .u64 t) ∧ w'.cell? ⟨vb, 1, none⟩ = some (.int .u64 a) ∧ w'.cell? ⟨vb, 2, none⟩ = some (.int .i64 n)) := Lib.hid fun w' c => by
    have c' : Cha (fun _ => False) W w' := ((Cha.refl (fun _ => False) W).drew).trans c
    have T' := T.same c'
    have r := (c'.old vb (Array.getElem?_eq_some_iff.1 hvb).1 (fun f => f)).trans hvb
    exact ⟨T'.ptr, T'.tab.cell hpl, cell_of_row w' vb 0 _ 113 (0, 0) r, cell_of_row w' vb 1 _ 113 (0, 0) r, cell_of_row w' vb 2 _ 113 (0, 0) r⟩
  have CS := Lib.hid (search_any t a n ((T.same ((Cha.refl (fun _ => False) W).drew)).lst p _ hp) HL.out HS.out)
  have HVB := Lib.hid hvb
  have HP := Lib.hid hp
  have k1 : (p : Int) < (P.length : Int) := by omega
  have k2 : (0 : Int) ≤ (p : Int) := by omega
  clear hvbe T hvb cW hW c0 c1 z1 c1n z1n g0 g1 g2 gz hWN hp
  go_wp2
  go_region_held3 (fun w' => w'.cell? ⟨bt, 0, none⟩ = some (.slice (some ⟨bp, 0, none⟩) P.length P.length) ∧ w'.cell? ⟨bp, p, none⟩ = some (lv p) ∧ w'.cell? ⟨vb, 0, none⟩ = some (.int .u64 t) ∧ w'.cell? ⟨vb, 1, none⟩ = some (.int .u64 a) ∧ w'.cell? ⟨vb, 2, none⟩ = some (.int .i64 n))
    (first | exact ⟨t0, t1, t2, t3, t4⟩ | exact KS.out _ HC2.out)
    (first | (go_at_call 65; refine (CS.out).mono ?_; rintro e w2 ⟨i, b, rfl, hpl2, hc⟩; have HPL := Lib.hid hpl2; have HC2 := Lib.hid hc; clear hpl2 hc))
  all_goals
    obtain ⟨u0, u1, u2, u3, u4⟩ := KS.out _ HC2.out
    clear t0 t1 t2 t3 t4
    go_wp2
  have c2 : Cha (fun _ => False) W w2 := ((Cha.refl (fun _ => False) W).drew).trans HC2.out
  have c3 : Cha (fun _ => False) W (w2.drew.alloc (.cells #[.int .u64 t, .int .u64 a, .int .i64 n] 113)) := c2.drew.alloc _
  have T3 := Lib.hid (HT.out.same c3)
  have T2 := HT.out.same c2
  have CW3 := Lib.hid (HCW.out.trans (c3.wide (S := F)))
  have r3 := (c3.old vb (Array.getElem?_eq_some_iff.1 HVB.out).1 (fun f => f)).trans HVB.out
  have CI := Lib.hid (insert_any ⟨t, a, n⟩ w2.heap.size i (T3.out.lst p _ HP.out) HPL.out.le HL.out (heap_alloc_new w2.drew _) (fun g hg e => by have := T2.old g (T2.fv p g hpl hg).1; omega))
  have v0 : (w2.drew.alloc (.cells #[.int .u64 t, .int .u64 a, .int .i64 n] 113)).cell? ⟨bt, 0, none⟩ = some (.slice (some ⟨bp, 0, none⟩) P.length P.length) := T3.out.ptr
  have v1 : (w2.drew.alloc (.cells #[.int .u64 t, .int .u64 a, .int .i64 n] 113)).cell? ⟨bp, p, none⟩ = some (lv p) := T3.out.tab.cell hpl
  have v1b : (w2.alloc (.cells #[.int .u64 t, .int .u64 a, .int .i64 n] 113)).cell? ⟨bp, p, none⟩ = some (lv p) := v1
  have v2 := cell_of_row _ vb 0 _ 113 (0, 0) r3
  have v3 := cell_of_row _ vb 1 _ 113 (0, 0) r3
  have v4 := cell_of_row _ vb 2 _ 113 (0, 0) r3
  have KY : Hid (∀ w4, Cha (fun j => (lv p).ownBlock = some j) (w2.drew.alloc (.cells #[.int .u64 t, .int .u64 a, .int .i64 n] 113)) w4 → w4.cell? ⟨bt, 0, none⟩ = some (.slice (some ⟨bp, 0, none⟩) P.length P.length) ∧ w4.cell? ⟨vb, 0, none⟩ = some (.int .u64 t) ∧ w4.cell? ⟨vb, 1, none⟩ = some (.int .u64 a) ∧ w4.cell? ⟨vb, 2, none⟩ = some (.int .i64 n) ∧ w4.cell? ⟨bp, p, none⟩ = some (lv p) ∧ w4.frozen? ⟨bp, p, none⟩ = false) := Lib.hid fun w4 c => by
    have e0 := (c.old bt (T3.out.old _ T3.out.ft) (fun e => (T3.out.fv p bt hpl e).2.1 rfl)).trans T3.out.head
    have e1 := (c.old vb (Array.getElem?_eq_some_iff.1 r3).1 (fun e => hFvb.out (T3.out.fv p vb hpl e).1)).trans r3
    have e2 := c.row T3.out.tab (fun e => (T3.out.fv p bp hpl e).2.2 rfl)
    exact ⟨cell_of_row w4 bt 0 _ 95 (0, 0) e0, cell_of_row w4 vb 0 _ 113 (0, 0) e1, cell_of_row w4 vb 1 _ 113 (0, 0) e1, cell_of_row w4 vb 2 _ 113 (0, 0) e1, e2.cell hpl, e2.free p⟩
  have hbv : bp ≠ vb := fun e => hFvb.out (e ▸ T2.fp)
  have KZ : Hid (∀ (w4 : World) (x : Value), w4.cell? ⟨bt, 0, none⟩ = some (.slice (some ⟨bp, 0, none⟩) P.length P.length) → w4.cell? ⟨vb, 0, none⟩ = some (.int .u64 t) → w4.cell? ⟨vb, 1, none⟩ = some (.int .u64 a) → w4.cell? ⟨vb, 2, none⟩ = some (.int .i64 n) → (w4.setCell ⟨bp, p, none⟩ x).cell? ⟨bt, 0, none⟩ = some (.slice (some ⟨bp, 0, none⟩) P.length P.length) ∧ (w4.setCell ⟨bp, p, none⟩ x).cell? ⟨vb, 0, none⟩ = some (.int .u64 t) ∧ (w4.setCell ⟨bp, p, none⟩ x).cell? ⟨vb, 1, none⟩ = some (.int .u64 a) ∧ (w4.setCell ⟨bp, p, none⟩ x).cell? ⟨vb, 2, none⟩ = some (.int .i64 n)) := Lib.hid fun w4 x y0 y2 y3 y4 => by
    refine ⟨?_, ?_, ?_, ?_⟩
    · exact (World.cell?_setCell_other w4 _ _ _ (by intro e; cases e; exact T2.ne rfl)).trans y0
    · exact (World.cell?_setCell_other w4 _ _ _ (by intro e; cases e; exact hbv rfl)).trans y2
    · exact (World.cell?_setCell_other w4 _ _ _ (by intro e; cases e; exact hbv rfl)).trans y3
    · exact (World.cell?_setCell_other w4 _ _ _ (by intro e; cases e; exact hbv rfl)).trans y4
  clear c2 c3 T2 r3 hbv
  refine wp_region_held_drew (S := (fun w' => w'.cell? ⟨bt, 0, none⟩ = some (.slice (some ⟨bp, 0, none⟩) P.length P.length) ∧ w'.cell? ⟨vb, 0, none⟩ = some (.int .u64 t) ∧ w'.cell? ⟨vb, 1, none⟩ = some (.int .u64 a) ∧ w'.cell? ⟨vb, 2, none⟩ = some (.int .i64 n))) (by kernel_rfl) (by exact ⟨u0, u2, u3, u4⟩) (fun hHeld => ?_)
  refine wpAnyH_take (i := 0) (v := ?_) rfl (by kernel_rfl) (by kernel_rfl) (by kernel_rfl) (fun _ _ _ h => h) (Or.inl ⟨by rfl, ?_⟩) (by assumption) ?_
  rotate_left
  · intro w hSw; (try dsimp only at hSw); go_simp; (try with_reducible rfl)
  try simp only [Act.put, List.setIfInBounds_toArray, List.set_cons_zero, List.set_cons_succ]
  refine wpAnyH_take (i := 1) (v := ?_) rfl (by kernel_rfl) (by kernel_rfl) (by kernel_rfl) (fun _ _ _ h => h) (Or.inl ⟨by rfl, ?_⟩) (by assumption) ?_
  rotate_left
  · intro w hSw; (try dsimp only at hSw); go_simp; (try with_reducible rfl)
  try simp only [Act.put, List.setIfInBounds_toArray, List.set_cons_zero, List.set_cons_succ]
  refine wpAnyH_take (i := 2) (v := ?_) rfl (by kernel_rfl) (by kernel_rfl) (by kernel_rfl) (fun _ _ _ h => h) (Or.inl ⟨by rfl, ?_⟩) (by assumption) ?_
  rotate_left
  · intro w hSw; (try dsimp only at hSw); go_simp; (try with_reducible rfl)
  try simp only [Act.put, List.setIfInBounds_toArray, List.set_cons_zero, List.set_cons_succ]
  refine wpAnyH_take (i := 3) (v := ?_) rfl (by kernel_rfl) (by kernel_rfl) (by kernel_rfl) (fun _ _ _ h => h) (Or.inl ⟨by rfl, ?_⟩) (by assumption) ?_
  rotate_left
  · intro w hSw; (try dsimp only at hSw); go_simp; (try with_reducible rfl)
  try simp only [Act.put, List.setIfInBounds_toArray, List.set_cons_zero, List.set_cons_succ]
  refine wpAnyH_take (i := 4) (v := ?_) rfl (by kernel_rfl) (by kernel_rfl) (by kernel_rfl) (fun _ _ _ h => h) (Or.inl ⟨by rfl, ?_⟩) (by assumption) ?_
  rotate_left
  · intro w hSw; (try dsimp only at hSw); go_simp; (try with_reducible rfl)
  try simp only [Act.put, List.setIfInBounds_toArray, List.set_cons_zero, List.set_cons_succ]
  refine wpAnyH_take (i := 5) (v := ?_) rfl (by kernel_rfl) (by kernel_rfl) (by kernel_rfl) (fun _ _ _ h => h) (Or.inl ⟨by rfl, ?_⟩) (by assumption) ?_
  rotate_left
  · intro w hSw; (try dsimp only at hSw); go_simp; (try with_reducible rfl)
  try simp only [Act.put, List.setIfInBounds_toArray, List.set_cons_zero, List.set_cons_succ]
  refine wpAnyH_take (i := 6) (v := ?_) rfl (by kernel_rfl) (by kernel_rfl) (by kernel_rfl) (fun _ _ _ h => h) (Or.inl ⟨by rfl, ?_⟩) (by assumption) ?_
  rotate_left
  · intro w hSw; (try dsimp only at hSw); go_simp; (try with_reducible rfl)
  try simp only [Act.put, List.setIfInBounds_toArray, List.set_cons_zero, List.set_cons_succ]
  refine wpAnyH_take (i := 7) (v := ?_) rfl (by kernel_rfl) (by kernel_rfl) (by kernel_rfl) (fun _ _ _ h => h) (Or.inl ⟨by rfl, ?_⟩) (by assumption) ?_
  rotate_left
  · intro w hSw; (try dsimp only at hSw); go_simp; (try with_reducible rfl)
  try simp only [Act.put, List.setIfInBounds_toArray, List.set_cons_zero, List.set_cons_succ]
  refine wpAnyH_take (i := 8) (v := ?_) rfl (by kernel_rfl) (by kernel_rfl) (by kernel_rfl) (fun _ _ _ h => h) (Or.inl ⟨by rfl, ?_⟩) (by assumption) ?_
  rotate_left
  · intro w hSw; (try dsimp only at hSw); go_simp; (try with_reducible rfl)
  try simp only [Act.put, List.setIfInBounds_toArray, List.set_cons_zero, List.set_cons_succ]
  refine wpAnyH_take (i := 9) (v := ?_) rfl (by kernel_rfl) (by kernel_rfl) (by kernel_rfl) (fun _ _ _ h => h) (Or.inl ⟨by rfl, ?_⟩) (by assumption) ?_
  rotate_left
  · intro w hSw; (try dsimp only at hSw); go_simp; (try with_reducible rfl)
  try simp only [Act.put, List.setIfInBounds_toArray, List.set_cons_zero, List.set_cons_succ]
  refine wpAnyH_take (i := 10) (v := ?_) rfl (by kernel_rfl) (by kernel_rfl) (by kernel_rfl) (fun _ _ _ h => h) (Or.inl ⟨by rfl, ?_⟩) (by assumption) ?_
  rotate_left
  · intro w hSw; (try dsimp only at hSw); go_simp; (try with_reducible rfl)
  try simp only [Act.put, List.setIfInBounds_toArray, List.set_cons_zero, List.set_cons_succ]
  refine wpAnyH_take (i := 12) (v := ?_) rfl (by kernel_rfl) (by kernel_rfl) (by kernel_rfl) (fun _ _ _ h => h) (Or.inl ⟨by rfl, ?_⟩) (by assumption) ?_
  rotate_left
  · intro w hSw; (try dsimp only at hSw); go_simp; (try with_reducible rfl)
  try simp only [Act.put, List.setIfInBounds_toArray, List.set_cons_zero, List.set_cons_succ]
  refine wpAnyH_take (i := 13) (v := ?_) rfl (by kernel_rfl) (by kernel_rfl) (by kernel_rfl) (fun _ _ _ h => h) (Or.inl ⟨by rfl, ?_⟩) (by assumption) ?_
  rotate_left
  · intro w hSw; (try dsimp only at hSw); go_simp; (try with_reducible rfl)
  try simp only [Act.put, List.setIfInBounds_toArray, List.set_cons_zero, List.set_cons_succ]
  refine wpAnyH_ready (rs := [11, 14]) (by kernel_rfl) (by simp) ?_
  refine AllReadyH.cons rfl (fun K hK => ?_) (AllReadyH.cons rfl (fun K hK => ?_) AllReadyH.nil)
  · go_simp
    refine hK.out _ _ ⟨u0, u2, u3, u4⟩ (fun hHeld => ?_)
    clear hK K
    try simp only [Act.put, List.setIfInBounds_toArray, List.set_cons_zero, List.set_cons_succ]
    refine wpAnyH_ready (rs := [14]) (by kernel_rfl) (by simp) ?_
    refine AllReadyH.cons rfl (fun K hK => ?_) AllReadyH.nil
    go_simp
    refine hK.out _ _ ⟨v0, v2, v3, v4⟩ (fun hHeld => ?_)
    clear hK K
    try simp only [Act.put, List.setIfInBounds_toArray, List.set_cons_zero, List.set_cons_succ]
    refine wpAnyH_ready (rs := [15]) (by kernel_rfl) (by simp) ?_
    refine AllReadyH.cons rfl (fun K hK => ?_) AllReadyH.nil
    go_simp
    go_at_call 67
    refine (CI.out).mono ?_
    rintro e w4 ⟨g4, cap4, rfl, hk⟩
    obtain ⟨x0, x2, x3, x4, x1, z1⟩ := KY.out w4 hk.cha
    have S4 := Lib.hid (KZ.out w4 (.slice (some ⟨g4, 0, none⟩) (L.length + 1) cap4) x0 x2 x3 x4)
    have FIN := Lib.hid ((T3.out.put hpl hk).over CW3.out)
    clear hk
    go_wp2_with fail
    refine hK.out _ _ ⟨x0, x2, x3, x4⟩ (fun hHeld => ?_)
    clear hK K
    try simp only [Act.put, List.setIfInBounds_toArray, List.set_cons_zero, List.set_cons_succ]
    refine wpAnyH_take (i := 16) (v := ?_) rfl (by kernel_rfl) (by kernel_rfl) (by kernel_rfl) (fun _ _ _ h => h) (Or.inl ⟨by rfl, ?_⟩) (by assumption) ?_
    rotate_left
    · intro w hSw; (try dsimp only at hSw); go_simp; (try with_reducible rfl)
    try simp only [Act.put, List.setIfInBounds_toArray, List.set_cons_zero, List.set_cons_succ]
    refine wpAnyH_ready (rs := [17]) (by kernel_rfl) (by simp) ?_
    refine AllReadyH.cons rfl (fun K hK => ?_) AllReadyH.nil
    go_simp
    refine hK.out _ _ (S4.out) (fun hHeld => ?_)
    clear hK K
    try simp only [Act.put, List.setIfInBounds_toArray, List.set_cons_zero, List.set_cons_succ]
    refine wpAnyH_done (by kernel_rfl) ?_ _
    go_wp2
    go_returns
    exact ⟨rfl, i, HPL.out, FIN.out⟩
  · go_simp
    refine hK.out _ _ ⟨v0, v2, v3, v4⟩ (fun hHeld => ?_)
    clear hK K
    try simp only [Act.put, List.setIfInBounds_toArray, List.set_cons_zero, List.set_cons_succ]
    refine wpAnyH_ready (rs := [11]) (by kernel_rfl) (by simp) ?_
    refine AllReadyH.cons rfl (fun K hK => ?_) AllReadyH.nil
    go_simp
    refine hK.out _ _ ⟨v0, v2, v3, v4⟩ (fun hHeld => ?_)
    clear hK K
    try simp only [Act.put, List.setIfInBounds_toArray, List.set_cons_zero, List.set_cons_succ]
    refine wpAnyH_ready (rs := [15]) (by kernel_rfl) (by simp) ?_
    refine AllReadyH.cons rfl (fun K hK => ?_) AllReadyH.nil
    go_simp
    go_at_call 67
    refine (CI.out).mono ?_
    rintro e w4 ⟨g4, cap4, rfl, hk⟩
    obtain ⟨x0, x2, x3, x4, x1, z1⟩ := KY.out w4 hk.cha
    have S4 := Lib.hid (KZ.out w4 (.slice (some ⟨g4, 0, none⟩) (L.length + 1) cap4) x0 x2 x3 x4)
    have FIN := Lib.hid ((T3.out.put hpl hk).over CW3.out)
    clear hk
    go_wp2_with fail
    refine hK.out _ _ ⟨x0, x2, x3, x4⟩ (fun hHeld => ?_)
    clear hK K
    try simp only [Act.put, List.setIfInBounds_toArray, List.set_cons_zero, List.set_cons_succ]
    refine wpAnyH_take (i := 16) (v := ?_) rfl (by kernel_rfl) (by kernel_rfl) (by kernel_rfl) (fun _ _ _ h => h) (Or.inl ⟨by rfl, ?_⟩) (by assumption) ?_
    rotate_left
    · intro w hSw; (try dsimp only at hSw); go_simp; (try with_reducible rfl)
    try simp only [Act.put, List.setIfInBounds_toArray, List.set_cons_zero, List.set_cons_succ]
    refine wpAnyH_ready (rs := [17]) (by kernel_rfl) (by simp) ?_
    refine AllReadyH.cons rfl (fun K hK => ?_) AllReadyH.nil
    go_simp
    refine hK.out _ _ (S4.out) (fun hHeld => ?_)
    clear hK K
    try simp only [Act.put, List.setIfInBounds_toArray, List.set_cons_zero, List.set_cons_succ]
    refine wpAnyH_done (by kernel_rfl) ?_ _
    go_wp2
    go_returns
    exact ⟨rfl, i, HPL.out, FIN.out⟩
end Go.Proofs.YtaloafihbdamiaaGreat
