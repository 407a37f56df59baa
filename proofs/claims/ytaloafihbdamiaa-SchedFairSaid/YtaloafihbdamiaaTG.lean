/- Timers: slices.Insert in the midst, where there is no room. -/
import Derived.Test.YtaloafihbdamiaaTF
import Derived.Handy
import Derived.Shelf.Spec.SlicesInsertGrow
namespace Go.Proofs.Ytaloafihbdamiaa
open Go.ChangeShapes Go.WideShapes Go.ChangeAt Go.RowKit
variable {w w' : World} {v : Value} {E N : List Ent} {y : Ent}

theorem EApp.drew {v' : Value} (h : EApp w w' v E v') : EApp w w'.drew v E v' := ⟨h.ents, h.cha.drew, h.at'⟩
def zero90 : Value := .agg #[.int .u64 0, .int .u64 0, .int .i64 0]
def newRow (E : List Ent) (i n G : Nat) : Array Value := ((ecs E).take (i * 3)).toArray ++ Builtin.zeroCells zero90.cells (n + 1 - i) ++ Builtin.zeroCells zero90.cells (G - (n + 1))
theorem newRow_size (i n G : Nat) (hn : n = E.length) (hi : i < n) (hG : n + 1 ≤ G) : (newRow E i n G).size = G * 3 := by
  have hE := ecs_len E
  have hz : zero90.cells.size = 3 := rfl
  unfold newRow
  rw [Array.size_append, Array.size_append, size_zeroCells, size_zeroCells, hz, List.size_toArray, List.length_take, hE, ← hn]
  omega
theorem newRow_get (i n G j : Nat) (hn : n = E.length) (hi : i < n) (hj : j < i * 3) : (newRow E i n G)[j]? = (ecs E)[j]? := by
  have hE := ecs_len E
  have hl : ((ecs E).take (i * 3)).length = i * 3 := by rw [List.length_take, hE, ← hn]; omega
  unfold newRow
  rw [Array.append_assoc, Array.getElem?_append_left (by rw [List.size_toArray, hl]; exact hj), List.getElem?_toArray, List.getElem?_take, if_pos hj]
/-- What lies there when all is done. -/
theorem eapp_grow (w : World) (g n cap i G : Nat) (hn : n = E.length) (hi : i < n) (hG : n + 1 ≤ G) (hmax : G ≤ maxLen) :
    EApp w (((w.drew.alloc (.cells (newRow E i n G) 93)).setCells w.heap.size (i * 3) (ec y)).setCells w.heap.size ((i + 1) * 3) ((ecs E).drop (i * 3))) (.slice (some ⟨g, 0, none⟩) n cap) (E.take i ++ y :: E.drop i) (.slice (some ⟨w.heap.size, 0, none⟩) (n + 1) G) := by
  have hE := ecs_len E
  have hd : ((ecs E).drop (i * 3)).length = (n - i) * 3 := by rw [List.length_drop, hE, ← hn]; omega
  have hy : (ec y).length = 3 := rfl
  have hs := newRow_size (E := E) i n G hn hi hG
  have hr := heap_alloc_new w.drew (.cells (newRow E i n G) 93)
  obtain ⟨c1, a1, a2, a3⟩ := heap_setCells_same w.heap.size 93 (ec y) (i * 3) _ _ hr (by rw [hy, hs]; omega)
  obtain ⟨c2, b1, b2, b3⟩ := heap_setCells_same w.heap.size 93 ((ecs E).drop (i * 3)) ((i + 1) * 3) _ c1 a1 (by rw [hd, a2, hs]; omega)
  have hL : E.take i ++ y :: E.drop i = E.take i ++ ([y] ++ E.drop i) := rfl
  have hlen : (E.take i ++ y :: E.drop i).length = n + 1 := by rw [List.length_append, List.length_cons, List.length_take, List.length_drop, ← hn]; omega
  refine ⟨⟨ecs_len _, .inr ⟨w.heap.size, G, c2, by rw [hlen], Nat.zero_le _, b1, by rw [hlen]; exact hG, hmax, by rw [b2, a2, hs], ?_⟩⟩, (((((Cha.refl (fun _ => False) w).drew).alloc _).setCells (g := w.heap.size) (fun h => absurd h (Nat.lt_irrefl _)) _ _).setCells (g := w.heap.size) (fun h => absurd h (Nat.lt_irrefl _)) _ _).wide, fun g' hg' => .inr (by cases hg'; exact Nat.le_refl _)⟩
  rw [hlen, hL, ecs_app, ecs_app, ecs_take, ecs_drop]
  have hsing : ecs [y] = ec y := by simp [ecs]
  rw [hsing]
  apply List.ext_getElem?
  intro j
  rw [List.getElem?_take]
  by_cases hj : j < (n + 1) * 3
  · rw [if_pos hj, Array.getElem?_toList, b3, hd, a3, hy]
    have e1 : ((ecs E).take (i * 3)).length = i * 3 := by rw [List.length_take, hE, ← hn]; omega
    by_cases k1 : j < i * 3
    · rw [if_neg (by omega), if_neg (by omega), newRow_get i n G j hn hi k1, List.getElem?_append_left (by rw [e1]; exact k1), List.getElem?_take, if_pos k1]
    · rw [List.getElem?_append_right (by rw [e1]; omega), e1]
      by_cases k2 : j < i * 3 + 3
      · rw [if_neg (by omega), if_pos (by omega), List.getElem?_append_left (by rw [hy]; omega)]
      · rw [if_pos (by omega), List.getElem?_append_right (by rw [hy]; omega), hy, show j - i * 3 - 3 = j - (i + 1) * 3 by omega]
  · rw [if_neg hj, List.getElem?_eq_none]
    rw [List.length_append, List.length_append, List.length_take, hd, hy, hE, ← hn]
    omega
set_option maxRecDepth 100000 in
set_option maxHeartbeats 4000000 in
/-- slices.Insert of one, in the midst, where there is no room. -/
theorem insert_grow (y : Ent) (vb g cap i : Nat) (h : Ents w (.slice (some ⟨g, 0, none⟩) E.length cap) E) (hi : i < E.length) (hl : E.length ≤ 1024) (hroom : cap < E.length + 1)
    (hvb : w.heap[vb]? = some (.cells #[.int .u64 y.when, .int .u64 y.order, .int .i64 y.id] 93 (0, 0))) :
    Calls Try.prog 46 #[.slice (some ⟨g, 0, none⟩) E.length cap, .int .i64 (i : Int), .slice (some ⟨vb, 0, none⟩) 1 1] w fun e w' => ∃ g2 cap2, e = .returned (.slice (some ⟨g2, 0, none⟩) (E.length + 1) cap2) ∧ EApp w w' (.slice (some ⟨g, 0, none⟩) E.length cap) (E.take i ++ y :: E.drop i) (.slice (some ⟨g2, 0, none⟩) (E.length + 1) cap2) := by
  rcases h.2 with ⟨e, h0⟩ | ⟨g', cap', cur, e, _, hg, h1, h2, h3, h4⟩
  · cases e
  injection e with e1 e2 e3
  injection e1 with e1
  injection e1 with e1 _ _
  subst e1 e3
  obtain ⟨n, hn⟩ : ∃ n, n = E.length := ⟨_, rfl⟩
  have hm2 := h2
  unfold maxLen at hm2
  rw [← hn] at h4 hi hl hroom h1 ⊢
  obtain ⟨G, hG⟩ : ∃ G, G = grownCap w (n + 1) cap 93 := ⟨_, rfl⟩
  have hGn : n + 1 ≤ G := by rw [hG]; exact grownCap_ge w _ _ _
  have hGm : G ≤ maxLen := by rw [hG]; exact grownCap_le_maxLen w (n + 1) cap 93 (by unfold maxLen; omega)
  have hG63 : G ≤ 9223372036854775807 := by unfold maxLen at hGm; omega
  have FIN := Lib.hid (eapp_grow (y := y) w g n cap i G hn hi hGn hGm)
  have hs := newRow_size (E := E) i n G hn hi hGn
  have hE := ecs_len E
  have hd : ((ecs E).drop (i * 3)).length = (n - i) * 3 := by rw [List.length_drop, hE, ← hn]; omega
  have hgw : g < w.heap.size := (Array.getElem?_eq_some_iff.1 hg).1
  have hvw : vb < w.heap.size := (Array.getElem?_eq_some_iff.1 hvb).1
  have hcl : ∀ (W : World), W.heap[g]? = w.heap[g]? → ∀ j, W.cell? ⟨g, j, none⟩ = cur[j]? := fun W hW j => cell_of_row W g j cur 93 (0, 0) (hW.trans hg)
  have hcur : ∀ j, j < n * 3 → cur[j]? = (ecs E)[j]? := fun j hj => by rw [← h4, List.getElem?_take, if_pos hj, Array.getElem?_toList]
  obtain ⟨i0, hi0, hz0, hzs, hzb⟩ := info_parts info90
  have hkk : (n : Int) + 1 - (i : Int) = ((n + 1 - i : Nat) : Int) := by omega
  have hik : i + (n + 1 - i) = n + 1 := by omega
  have hold : (Builtin.firstCells i0.size i (.slice (some ⟨g, 0, none⟩) i cap)).run Try.prog w.drew = .ok ((ecs E).take (i * 3)).toArray w.drew := by
    rw [hzs]
    exact run_firstCells_some w.drew 3 i ⟨g, 0, none⟩ i cap ((ecs E).take (i * 3)) (by rw [List.length_take, hE, ← hn]; omega) (fun j u hj => by
      rw [List.getElem?_take] at hj
      split at hj
      · rw [Addr.add_lit, Nat.zero_add, hcl w.drew rfl, hcur _ (by omega), hj]
      · cases hj)
  have hrz : ∀ ty, (Builtin.append_ #[95, 3] ty #[.slice (some ⟨g, 0, none⟩) i cap, .int .i64 ((n : Int) + 1 - (i : Int))]).run Try.prog w =
      .ok (.slice (some ⟨w.heap.size, 0, none⟩) (n + 1) G) (w.drew.alloc (.cells (newRow E i n G) 93)) := fun ty => by
    have h := Lib.run_append_grow_zeros w 95 3 ty 93 i0 _ .i64 .i64 Try.underlying95 Try.underlying3 hi0 hz0 (some ⟨g, 0, none⟩) i cap ((ecs E).take (i * 3)) hold (n + 1 - i) (by omega) (by omega) (by omega) (by omega) (by rw [hzb]; omega) (by rw [hzb, hik]; exact growslice_fits hroom (by omega))
    rw [hik, ← hG] at h
    rw [hkk]
    exact h
  obtain ⟨R, hR⟩ : ∃ R, R = newRow E i n G := ⟨_, rfl⟩
  rw [← hR] at hrz hs FIN
  obtain ⟨W1, hW1⟩ : ∃ W1, W1 = w.drew.alloc (.cells R 93) := ⟨_, rfl⟩
  have a1 : W1.heap[w.heap.size]? = some (.cells R 93 (0, 0)) := by rw [hW1]; exact heap_alloc_new w.drew _
  have a2 : W1.heap[g]? = w.heap[g]? := by rw [hW1]; exact heap_alloc_old w.drew _ hgw
  have a3 : W1.heap[vb]? = w.heap[vb]? := by rw [hW1]; exact heap_alloc_old w.drew _ hvw
  rw [← hW1] at hrz FIN
  have hcpA : ∀ (W : World), W.heap = W1.heap → ∀ ty dc, (Builtin.copy_ #[95, 95] ty #[.slice (some ⟨w.heap.size, i * 3, none⟩) (n + 1 - i) dc, .slice (some ⟨vb, 0, none⟩) 1 1]).run Try.prog W = .ok (goInt (Nat.min 1 (n + 1 - i))) (W.setCells w.heap.size (i * 3) (ec y)) := fun W hW ty dc =>
    run_copy3 W ty w.heap.size (i * 3) (n + 1 - i) dc ⟨vb, 0, none⟩ 1 1 (ec y) (by show 3 = _; simp only [Nat.min_def]; split <;> omega)
      (fun j u hj => by
        rw [Addr.add_lit, Nat.zero_add, cell_of_row W vb j _ 93 (0, 0) (by rw [hW, a3]; exact hvb), ← hj]
        simp [ec])
      (fun j hj => by
        have hj : j < 3 := hj
        rw [cell_of_row W w.heap.size _ R 93 (0, 0) (by rw [hW]; exact a1), Array.getElem?_eq_getElem (by rw [hs]; omega)]; rfl) (fun j _ => frozen_of_row W w.heap.size _ R 93 (by rw [hW]; exact a1)) (fun u hu => one_ec [y] u (by simpa [ecs] using hu))
  obtain ⟨c1, b1, b2, b3⟩ := heap_setCells_same w.heap.size 93 (ec y) (i * 3) W1 R a1 (by show i * 3 + 3 ≤ _; rw [hs]; omega)
  have b4 := (heap_setCells_other w.heap.size g (by omega) (ec y) (i * 3) W1).trans a2
  obtain ⟨W2, hW2⟩ : ∃ W2, W2 = W1.setCells w.heap.size (i * 3) (ec y) := ⟨_, rfl⟩
  rw [← hW2] at b1 b4
  have hcpB : ∀ (W : World), W.heap = W2.heap → ∀ ty dc sc, (Builtin.copy_ #[95, 95] ty #[.slice (some ⟨w.heap.size, (i + 1) * 3, none⟩) (n - i) dc, .slice (some ⟨g, i * 3, none⟩) (n - i) sc]).run Try.prog W = .ok (goInt (Nat.min (n - i) (n - i))) (W.setCells w.heap.size ((i + 1) * 3) ((ecs E).drop (i * 3))) := fun W hW ty dc sc =>
    run_copy3 W ty w.heap.size ((i + 1) * 3) (n - i) dc ⟨g, i * 3, none⟩ (n - i) sc ((ecs E).drop (i * 3)) (by rw [hd]; simp only [Nat.min_def]; split <;> omega)
      (fun j u hj => by
        have hjl : j < (n - i) * 3 := by rw [← hd]; exact (List.getElem?_eq_some_iff.1 hj).1
        rw [Addr.add_lit, hcl W (by rw [hW]; exact b4), hcur _ (by omega), ← hj, List.getElem?_drop])
      (fun j hj => by
        rw [hd] at hj
        rw [cell_of_row W w.heap.size _ c1 93 (0, 0) (by rw [hW]; exact b1), Array.getElem?_eq_getElem (by rw [b2, hs]; omega)]; rfl) (fun j _ => frozen_of_row W w.heap.size _ c1 93 (by rw [hW]; exact b1)) (fun u hu => one_ec E u (List.mem_of_mem_drop hu))
  have hH1 : ((w.alloc (.cells R 93)).drew).heap = W1.heap := by rw [hW1]; rfl
  have hH2 : (((w.alloc (.cells R 93)).drew.setCells w.heap.size (i * 3) (ec y)).drew).heap = W2.heap := by rw [hW2, hW1]; rfl
  have FIN2 : Hid (EApp w ((((w.alloc (.cells R 93)).drew.setCells w.heap.size (i * 3) (ec y)).drew).setCells w.heap.size ((i + 1) * 3) ((ecs E).drop (i * 3))) (.slice (some ⟨g, 0, none⟩) n cap) (E.take i ++ y :: E.drop i) (.slice (some ⟨w.heap.size, 0, none⟩) (n + 1) G)) := Lib.hid (by have := FIN.out.drew; rw [hW1, drew_setCells] at this; exact this)
  rw [hW1] at hrz
  have hz2 : ¬ ((i : Int) = (n : Int)) := by omega
  have hz3 : (cap : Int) < (n : Int) + 1 := by omega
  have hw1 : IntKind.i64.wrap ((i : Int) + 1) = (i : Int) + 1 := IntWalk.i64_in _ (by omega)
  have hw2 : IntKind.i64.wrap ((n : Int) + 1) = (n : Int) + 1 := IntWalk.i64_in _ (by omega)
  have hw3 : IntKind.i64.wrap ((n : Int) + 1 - (i : Int)) = (n : Int) + 1 - (i : Int) := IntWalk.i64_in _ (by omega)
  have hb1 : (0 : Int) ≤ (i : Int) + 1 := by omega
  have hin : i ≤ n := by omega
  have htn : ((i : Int) + 1).toNat = i + 1 := by omega
  have hGi : ¬ (G = i) := by omega
  have hGim : ¬ (G = i + 1) := by omega
  have hci : ¬ (cap = i) := by omega
  have hb3 : (i : Int) ≤ (n : Int) := by omega
  have hb4 : (i : Int) ≤ (n : Int) + 1 := by omega
  have hb5 : (i : Int) + 1 ≤ (n : Int) + 1 := by omega
  have hb8 : (i : Int) ≤ (cap : Int) := by omega
  clear FIN h h4 hd hcl hcur hE hg hvb a1 a2 a3 b1 b2 b3 b4 hW1 hW2 hn h1 e2 hs hR hG hkk hik hold
  go_enter Try.func46, Try.ntmps46
  go_wp2_with (first
    | (at_builtin; refine Lib.wpList_append_run _ rfl _ _ _ _ rfl _ _ rfl rfl _ _ (hrz _) ?_)
    | (at_builtin; refine wpList_copy_runI _ rfl _ _ 95 95 rfl _ _ rfl rfl (hcpA _ hH1 _ _) ?_))
  go_region_law (refine step_copy_runI rfl _ _ 95 95 rfl (.slice (some ⟨w.heap.size, (i + 1) * 3, none⟩) (n - i) (G - (i + 1))) (.slice (some ⟨g, i * 3, none⟩) (n - i) (cap - i)) (by simp [Act.eval, Act.put]) (by simp [Act.eval, Act.put]) (hcpB _ hH2 3 (G - (i + 1)) (cap - i)) ?_)
  go_wp2
  go_ret
  exact ⟨_, _, rfl, FIN2.out⟩
/-- slices.Insert of one. -/
theorem insert_any (y : Ent) (vb i : Nat) (h : Ents w v E) (hi : i ≤ E.length) (hl : E.length ≤ 1024)
    (hvb : w.heap[vb]? = some (.cells #[.int .u64 y.when, .int .u64 y.order, .int .i64 y.id] 93 (0, 0))) (hne : ∀ g, v.ownBlock = some g → vb ≠ g) :
    Calls Try.prog 46 #[v, .int .i64 (i : Int), .slice (some ⟨vb, 0, none⟩) 1 1] w fun e w' => ∃ g cap, e = .returned (.slice (some ⟨g, 0, none⟩) (E.length + 1) cap) ∧ EApp w w' v (E.take i ++ y :: E.drop i) (.slice (some ⟨g, 0, none⟩) (E.length + 1) cap) := by
  by_cases he : i = E.length
  · subst he
    rw [List.take_length, List.drop_length]
    refine insert_end y vb h hl fun j u hj => ?_
    rw [Addr.add_lit, Nat.zero_add, cell_of_row w vb j _ 93 (0, 0) hvb, ← hj]
    simp [ecs, ec]
  · obtain ⟨g, cap, rfl, hc, hm, -⟩ := h.at (i := i) (by omega)
    by_cases hr : E.length + 1 ≤ cap
    · exact (insert_room y vb g cap i h (by omega) hl hr hvb (hne g rfl)).mono fun e w' k => ⟨g, cap, k⟩
    · exact insert_grow y vb g cap i h (by omega) hl (by omega) hvb
end Go.Proofs.Ytaloafihbdamiaa
