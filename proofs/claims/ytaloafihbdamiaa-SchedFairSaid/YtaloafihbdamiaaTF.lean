/- Timers: slices.Insert in the midst, where there is room. -/
import Derived.Test.YtaloafihbdamiaaTE
import Derived.Handy
import Derived.Shelf.RegionOpenPlain
import Derived.Shelf.Spec.SlicesInsert
namespace Go.Proofs.Ytaloafihbdamiaa
open Go.ChangeShapes Go.WideShapes Go.ChangeAt Go.RowKit
variable {w w' : World} {v : Value} {E N : List Ent} {y : Ent}

theorem run_copy3 (w : World) (ty : TypeId) (b o dLen dCap : Nat) (a : Addr) (sLen sCap : Nat) (cs : List Value) (hn : cs.length = Nat.min sLen dLen * 3)
    (hsrc : ∀ j v, cs[j]? = some v → w.cell? (a.add j) = some v) (hc : ∀ j, j < cs.length → (w.cell? ⟨b, o + j, none⟩).isSome = true) (hf : ∀ j, j < cs.length → w.frozen? ⟨b, o + j, none⟩ = false) (h1 : ∀ v ∈ cs, v.oneCell' = true) :
    (Builtin.copy_ #[95, 95] ty #[.slice (some ⟨b, o, none⟩) dLen dCap, .slice (some a) sLen sCap]).run Try.prog w = .ok (goInt (Nat.min sLen dLen)) (w.setCells b o cs) := by
  have hl := run_loadCells_list (P := Try.prog) w a cs hsrc
  have hst := run_storeCells_cells (P := Try.prog) b o cs 0 w (by simpa using hc) (by simpa using hf) h1
  obtain ⟨i, hi, hz0, hz1, hz2⟩ := info_parts info90
  simp [Builtin.copy_, run_underlying Try.underlying95, Builtin.lenOf, Builtin.firstCells, sizeOf, typeInfo, hi, hz1, ← hn, hl, hst]
theorem ecs_take (E : List Ent) (i : Nat) : ecs (E.take i) = (ecs E).take (i * 3) := by
  unfold ecs
  induction E generalizing i with
  | nil => simp
  | cons a l ih =>
    cases i with
    | zero => simp
    | succ i =>
      rw [List.take_succ_cons, List.flatMap_cons, List.flatMap_cons, ih i]
      have hl : (ec a).length = 3 := rfl
      rw [List.take_append, hl, show (i + 1) * 3 - 3 = i * 3 by omega, List.take_of_length_le (l := ec a) (by omega)]
theorem ecs_drop (E : List Ent) (i : Nat) : ecs (E.drop i) = (ecs E).drop (i * 3) := by
  unfold ecs
  induction E generalizing i with
  | nil => simp
  | cons a l ih =>
    cases i with
    | zero => simp
    | succ i =>
      rw [List.drop_succ_cons, List.flatMap_cons, ih i]
      have hl : (ec a).length = 3 := rfl
      rw [List.drop_append, hl, show (i + 1) * 3 - 3 = i * 3 by omega, List.drop_of_length_le (l := ec a) (by omega), List.nil_append]
theorem size3 : ∀ w, (Go.sizeOf 93).run Try.prog w = .ok 3 w := fun w => by
  obtain ⟨i, hi, hz0, hz1, hz2⟩ := info_parts info90
  simp [sizeOf, typeInfo, hi, hz1]
theorem apart58 (w : World) (vb g off lb cb : Nat) (c1 c2 : Array Value) (hv : w.heap[vb]? = some (.cells c1 93 (0, 0))) (hg : w.heap[g]? = some (.cells c2 93 (0, 0))) (h0 : c2.size ≠ 0) (hne : vb ≠ g) :
    (callFunc 59 #[.slice (some ⟨vb, 0, none⟩) 1 1, .slice (some ⟨g, off, none⟩) lb cb]).run Try.prog w = .ok (.value (.bool false)) w := by
  rw [run_callFunc_extern Try.func59 (by kernel_rfl) (by kernel_rfl) (by kernel_rfl) (e := Extern.SlicesOverlaps.overlaps #[95, 95] #[4]) (by kernel_rfl),
    Lib.run_overlaps_apart w 95 4 93 Try.underlying95 3 size3 ⟨vb, 0, none⟩ ⟨g, off, none⟩ 1 1 lb cb hne 93 93 c1.size c2.size (by simp [World.shape?, hv]) (by simp [World.shape?, hg]) h0 (frozen_of_row w vb 0 _ 93 hv) (frozen_of_row w vb _ _ 93 hv)]
  rfl
/-- What lies there when the copies are done. -/
theorem eapp_room (w : World) (g n cap i : Nat) (cur : Array Value) (hn : n = E.length) (hi : i < n) (hroom : n + 1 ≤ cap) (hmax : cap ≤ maxLen) (hg : w.heap[g]? = some (.cells cur 93 (0, 0))) (hs : cur.size = cap * 3) (ht : cur.toList.take (n * 3) = ecs E) :
    EApp w ((w.drew.setCells g ((i + 1) * 3) ((ecs E).drop (i * 3))).setCells g (i * 3) (ec y)) (.slice (some ⟨g, 0, none⟩) n cap) (E.take i ++ y :: E.drop i) (.slice (some ⟨g, 0, none⟩) (n + 1) cap) := by
  have hE := ecs_len E
  have hd : ((ecs E).drop (i * 3)).length = (n - i) * 3 := by rw [List.length_drop, hE, ← hn]; omega
  have hy : (ec y).length = 3 := rfl
  obtain ⟨c1, a1, a2, a3⟩ := heap_setCells_same g 93 ((ecs E).drop (i * 3)) ((i + 1) * 3) w.drew cur hg (by rw [hd, hs]; omega)
  obtain ⟨c2, b1, b2, b3⟩ := heap_setCells_same g 93 (ec y) (i * 3) _ c1 a1 (by rw [hy, a2, hs]; omega)
  have hcur : ∀ j, j < n * 3 → cur[j]? = (ecs E)[j]? := fun j hj => by rw [← ht, List.getElem?_take, if_pos hj, Array.getElem?_toList]
  have hL : E.take i ++ y :: E.drop i = E.take i ++ ([y] ++ E.drop i) := rfl
  have hlen : (E.take i ++ y :: E.drop i).length = n + 1 := by rw [List.length_append, List.length_cons, List.length_take, List.length_drop, ← hn]; omega
  refine ⟨⟨ecs_len _, .inr ⟨g, cap, c2, by rw [hlen], Nat.zero_le _, b1, by rw [hlen]; exact hroom, hmax, by rw [b2, a2, hs], ?_⟩⟩, ((((Cha.refl (fun i => (Value.slice (some ⟨g, 0, none⟩) n cap).ownBlock = some i) w).drew).setCells (g := g) (fun _ => rfl) _ _).setCells (g := g) (fun _ => rfl) _ _), fun g' hg' => .inl hg'⟩
  rw [hlen, hL, ecs_app, ecs_app, ecs_take, ecs_drop]
  have hsing : ecs [y] = ec y := by simp [ecs]
  rw [hsing]
  apply List.ext_getElem?
  intro j
  rw [List.getElem?_take]
  by_cases hj : j < (n + 1) * 3
  · rw [if_pos hj, Array.getElem?_toList, b3, hy, a3, hd]
    have e1 : ((ecs E).take (i * 3)).length = i * 3 := by rw [List.length_take, hE, ← hn]; omega
    by_cases k1 : j < i * 3
    · rw [if_neg (by omega), if_neg (by omega), hcur j (by omega), List.getElem?_append_left (by rw [e1]; exact k1), List.getElem?_take, if_pos k1]
    · rw [List.getElem?_append_right (by rw [e1]; omega), e1]
      by_cases k2 : j < i * 3 + 3
      · rw [if_pos (by omega), List.getElem?_append_left (by rw [hy]; omega)]
      · rw [if_neg (by omega), if_pos (by omega), List.getElem?_append_right (by rw [hy]; omega), hy, show j - i * 3 - 3 = j - (i + 1) * 3 by omega]
  · rw [if_neg hj, List.getElem?_eq_none]
    rw [List.length_append, List.length_append, List.length_take, hd, hy, hE, ← hn]
    omega
set_option maxRecDepth 100000 in
set_option maxHeartbeats 4000000 in
/-- slices.Insert of one, in the midst, where there is room. -/
theorem insert_room (y : Ent) (vb g cap i : Nat) (h : Ents w (.slice (some ⟨g, 0, none⟩) E.length cap) E) (hi : i < E.length) (hl : E.length ≤ 1024) (hroom : E.length + 1 ≤ cap)
    (hvb : w.heap[vb]? = some (.cells #[.int .u64 y.when, .int .u64 y.order, .int .i64 y.id] 93 (0, 0))) (hne : vb ≠ g) :
    Calls Try.prog 46 #[.slice (some ⟨g, 0, none⟩) E.length cap, .int .i64 (i : Int), .slice (some ⟨vb, 0, none⟩) 1 1] w fun e w' => e = .returned (.slice (some ⟨g, 0, none⟩) (E.length + 1) cap) ∧ EApp w w' (.slice (some ⟨g, 0, none⟩) E.length cap) (E.take i ++ y :: E.drop i) (.slice (some ⟨g, 0, none⟩) (E.length + 1) cap) := by
  rcases h.2 with ⟨e, h0⟩ | ⟨g', cap', cur, e, _, hg, h1, h2, h3, h4⟩
  · cases e
  injection e with e1 e2 e3
  injection e1 with e1
  injection e1 with e1 _ _
  subst e1 e3
  obtain ⟨n, hn⟩ : ∃ n, n = E.length := ⟨_, rfl⟩
  have hm2 := h2
  unfold maxLen at hm2
  rw [← hn] at h4 hi hl hroom ⊢
  have FIN := Lib.hid (eapp_room (y := y) w g n cap i cur hn hi hroom h2 hg h3 h4)
  have hE := ecs_len E
  have hd : ((ecs E).drop (i * 3)).length = (n - i) * 3 := by rw [List.length_drop, hE, ← hn]; omega
  have hcl : ∀ (W : World), W.heap[g]? = w.heap[g]? → ∀ j, W.cell? ⟨g, j, none⟩ = cur[j]? := fun W hW j => cell_of_row W g j cur 93 (0, 0) (hW.trans hg)
  have hcur : ∀ j, j < n * 3 → cur[j]? = (ecs E)[j]? := fun j hj => by rw [← h4, List.getElem?_take, if_pos hj, Array.getElem?_toList]
  have hcp1 : ∀ ty dc sc, (Builtin.copy_ #[95, 95] ty #[.slice (some ⟨g, (i + 1) * 3, none⟩) (n - i) dc, .slice (some ⟨g, i * 3, none⟩) (n + 1 - i) sc]).run Try.prog w.drew = .ok (goInt (Nat.min (n + 1 - i) (n - i))) (w.drew.setCells g ((i + 1) * 3) ((ecs E).drop (i * 3))) := fun ty dc sc =>
    run_copy3 w.drew ty g ((i + 1) * 3) (n - i) dc ⟨g, i * 3, none⟩ (n + 1 - i) sc ((ecs E).drop (i * 3)) (by rw [hd]; simp only [Nat.min_def]; split <;> omega)
      (fun j u hj => by
        have hjl : j < (n - i) * 3 := by rw [← hd]; exact (List.getElem?_eq_some_iff.1 hj).1
        rw [Addr.add_lit, hcl w.drew rfl, hcur _ (by omega), ← hj, List.getElem?_drop])
      (fun j hj => by rw [hd] at hj; rw [hcl w.drew rfl, Array.getElem?_eq_getElem (by rw [h3]; omega)]; rfl) (fun j _ => frozen_of_row w.drew g _ cur 93 hg) (fun u hu => one_ec E u (List.mem_of_mem_drop hu))
  obtain ⟨c1, a1, a2, a3⟩ := heap_setCells_same g 93 ((ecs E).drop (i * 3)) ((i + 1) * 3) w.drew cur hg (by rw [hd, h3]; omega)
  have a4 := (heap_setCells_other g vb hne ((ecs E).drop (i * 3)) ((i + 1) * 3) w.drew).trans hvb
  obtain ⟨W1, hW1⟩ : ∃ W1, W1 = w.drew.setCells g ((i + 1) * 3) ((ecs E).drop (i * 3)) := ⟨_, rfl⟩
  rw [← hW1] at a1 a4 hcp1 FIN
  have hcp2 : ∀ (W : World), W.heap = W1.heap → ∀ ty dc, (Builtin.copy_ #[95, 95] ty #[.slice (some ⟨g, i * 3, none⟩) (n + 1 - i) dc, .slice (some ⟨vb, 0, none⟩) 1 1]).run Try.prog W = .ok (goInt (Nat.min 1 (n + 1 - i))) (W.setCells g (i * 3) (ec y)) := fun W hW ty dc =>
    run_copy3 W ty g (i * 3) (n + 1 - i) dc ⟨vb, 0, none⟩ 1 1 (ec y) (by show 3 = _; simp only [Nat.min_def]; split <;> omega)
      (fun j u hj => by
        rw [Addr.add_lit, Nat.zero_add, cell_of_row W vb j _ 93 (0, 0) (by rw [hW]; exact a4), ← hj]
        simp [ec])
      (fun j hj => by
        have hj : j < 3 := hj
        rw [cell_of_row W g _ c1 93 (0, 0) (by rw [hW]; exact a1), Array.getElem?_eq_getElem (by rw [a2, h3]; omega)]; rfl) (fun j _ => frozen_of_row W g _ c1 93 (by rw [hW]; exact a1)) (fun u hu => one_ec [y] u (by simpa [ecs] using hu))
  have hov : ∀ off lb cb, (callFunc 59 #[.slice (some ⟨vb, 0, none⟩) 1 1, .slice (some ⟨g, off, none⟩) lb cb]).run Try.prog w = .ok (.value (.bool false)) w := fun off lb cb => apart58 w vb g off lb cb _ cur hvb hg (by rw [h3]; omega) hne
  have hz2 : ¬ ((i : Int) = (n : Int)) := by omega
  have hw1 : IntKind.i64.wrap ((i : Int) + 1) = (i : Int) + 1 := IntWalk.i64_in _ (by omega)
  have hw2 : IntKind.i64.wrap ((n : Int) + 1) = (n : Int) + 1 := IntWalk.i64_in _ (by omega)
  have hb1 : (0 : Int) ≤ (i : Int) + 1 := by omega
  have hin : i ≤ n := by omega
  have htn : ((i : Int) + 1).toNat = i + 1 := by omega
  have htn2 : ((n : Int) + 1).toNat = n + 1 := by omega
  have hb2 : ¬ (cap = i + 1) := by omega
  have hb3 : (i : Int) ≤ (n : Int) + 1 := by omega
  have hb4 : ¬ (cap = i) := by omega
  have hb5 : (i : Int) + 1 ≤ (n : Int) + 1 := by omega
  have hb6 : (n : Int) + 1 ≤ (cap : Int) := by omega
  have hb7 : (i : Int) + 1 ≤ (cap : Int) := by omega
  have hb8 : (i : Int) ≤ (cap : Int) := by omega
  have HW := Lib.hid hW1
  clear h h4 hd hcl hcur hE hg hvb a1 a2 a3 a4 hW1 hn h1 e2
  go_enter Try.func46, Try.ntmps46
  go_wp2_with (simp only [hov])
  go_region_law (refine step_copy_runI rfl _ _ 95 95 rfl _ _ (by simp [Act.eval, Act.put]) (by simp [Act.eval, Act.put]) (hcp1 _ _ _) ?_)
  go_wp2_with (at_builtin; refine wpList_copy_runI _ rfl _ _ 95 95 rfl _ _ rfl rfl (hcp2 _ rfl _ _) ?_)
  go_ret
  exact ⟨rfl, FIN.out⟩
end Go.Proofs.Ytaloafihbdamiaa
