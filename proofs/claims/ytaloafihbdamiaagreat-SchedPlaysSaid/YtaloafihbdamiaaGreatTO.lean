/- Timers: slices.Delete of a list's beginning. -/
import Derived.Test.YtaloafihbdamiaaGreatTI
import Derived.Handy
import Derived.Test.YtaloafihbdamiaaGreatTM
import Derived.Deep.CutBlock
namespace Go.Proofs.YtaloafihbdamiaaGreat
open Go.ChangeShapes Go.WideShapes Go.ChangeAt Go.RowKit
variable {w w' : World} {v : Value} {E N : List Ent} {y : Ent}

theorem one_zero (n : Nat) : ∀ u ∈ (Builtin.zeroCells zero90.cells n).toList, u.oneCell' = true := by
  intro u hu
  unfold Builtin.zeroCells at hu
  simp only [Array.toList_map, List.mem_map] at hu
  obtain ⟨i, _, rfl⟩ := hu
  show ((#[Value.int .u64 0, .int .u64 0, .int .i64 0])[i % 3]!).oneCell' = true
  have h : i % 3 < 3 := Nat.mod_lt _ (by decide)
  generalize i % 3 = k at *
  have : k = 0 ∨ k = 1 ∨ k = 2 := by omega
  rcases this with e | e | e <;> rw [e] <;> rfl
theorem zero_len (n : Nat) : (Builtin.zeroCells zero90.cells n).toList.length = n * 3 := by
  rw [Array.length_toList, size_zeroCells]; rfl
theorem run_clear3 (w : World) (ty : TypeId) (b o n c : Nat) (hn : 0 < n) (hc : ∀ j, j < n * 3 → (w.cell? ⟨b, o + j, none⟩).isSome = true) (hf : ∀ j, j < n * 3 → w.frozen? ⟨b, o + j, none⟩ = false) :
    (Builtin.clear_ #[106] ty #[.slice (some ⟨b, o, none⟩) n c]).run Tryz.prog w = .ok (.tuple #[]) (w.setCells b o (Builtin.zeroCells zero90.cells n).toList) := by
  have hst := run_storeCells_cells (P := Tryz.prog) b o (Builtin.zeroCells zero90.cells n).toList 0 w (by rw [zero_len]; simpa using hc) (by rw [zero_len]; simpa using hf) (one_zero n)
  simp only [Nat.add_zero] at hst
  obtain ⟨i, hi, hz0, hz1, hz2⟩ := info_parts info90
  obtain ⟨m, rfl⟩ : ∃ m, n = m + 1 := ⟨n - 1, by omega⟩
  have hv : ∀ w, (zeroValue 113).run Tryz.prog w = .ok zero90 w := fun w => by simp [zeroValue, typeInfo, hi, hz0, zero90]
  simp [Builtin.clear_, run_underlying Tryz.underlying106, hv, hst]
/-- append of a list's end onto its beginning. -/
theorem run_shift (W : World) (ty : TypeId) (g n cap j c2 so : Nat) (cur : Array Value) (hn : n = E.length) (hj : j ≤ n) (hc : n ≤ cap) (hg : W.heap[g]? = some (.cells cur 113 (0, 0))) (hs : cur.size = cap * 3) (ht : cur.toList.take (n * 3) = ecs E) (hso : j < n → so = j * 3) :
    (Builtin.append_ #[106, 106] ty #[.slice (some ⟨g, 0, none⟩) 0 cap, .slice (some ⟨g, so, none⟩) (n - j) c2]).run Tryz.prog W = .ok (.slice (some ⟨g, 0, none⟩) (n - j) cap) (W.setCells g 0 ((ecs E).drop (j * 3))) := by
  obtain ⟨i, hi, hz0, hz1, hz2⟩ := info_parts info90
  have hE := ecs_len E
  have hd : ((ecs E).drop (j * 3)).length = (n - j) * 3 := by rw [List.length_drop, hE, ← hn]; omega
  have hcl : ∀ k, W.cell? ⟨g, k, none⟩ = cur[k]? := fun k => cell_of_row W g k cur 113 (0, 0) hg
  have hcur : ∀ k, k < n * 3 → cur[k]? = (ecs E)[k]? := fun k hk => by rw [← ht, List.getElem?_take, if_pos hk, Array.getElem?_toList]
  have hr := run_append_room_cells (P := Tryz.prog) W 106 ty 113 i Tryz.underlying106 hi g 0 0 cap ⟨g, so, none⟩ (n - j) c2 ((ecs E).drop (j * 3)) (by rw [hz1]; exact hd) (fun k u hk => by
      have hkl : k < (n - j) * 3 := by rw [← hd]; exact (List.getElem?_eq_some_iff.1 hk).1
      rw [Addr.add_lit, hcl, hso (by omega), hcur _ (by omega), ← hk, List.getElem?_drop]) (fun u hu => one_ec E u (List.mem_of_mem_drop hu)) (by omega)
    (fun k hk => by rw [hd] at hk; rw [hcl, hz1, Array.getElem?_eq_getElem (by omega)]; rfl) (fun k _ => frozen_of_row W g _ cur 113 hg)
  simpa using hr
end Go.Proofs.YtaloafihbdamiaaGreat

namespace Go.Proofs.YtaloafihbdamiaaGreat
open Go.ChangeShapes Go.WideShapes Go.ChangeAt Go.RowKit
variable {w w' : World} {v : Value} {E N : List Ent} {y : Ent}

section
variable {ops : Array Oper} {rest : List Oper} {o : Oper} {a : Act} {K : Act → World → Prop} {Q : Exit → Act → World → Prop} {X : Prop}
theorem wpList_clear_run (w : World) (hgd : o.guard = none) (s : Operand) (ho : o.op = .call { callee := .builtin .clear, args := #[s], argTypes := #[106] }) (hs : a.eval s = v) {v' : Value} {w' : World}
    (hr : (Builtin.clear_ #[106] o.type #[v]).run Tryz.prog w = .ok v' w') (h : wpList Tryz.prog ops Q rest (a.put o.dst v') w') : wpList Tryz.prog ops Q (o :: rest) a w := by
  refine wpList_plain hgd fun _ hK => ?_
  unfold Oper.wp execOp
  simp only [ho, resolve, invoke, builtin, Sem.run_bind, Sem.run_pure, Result.andThen_ok, List.map_toArray, List.map_cons, List.map_nil, hs, hr]
  exact hK _ _ h
theorem step_append_runI (w : World) (hg : o.guard = none) (d x : Operand) (hop : o.op = Op.call { callee := Callee.builtin Builtin.append, args := #[d, x], argTypes := #[106, 106] })
    (u z : Value) (hd : a.eval d = u) (hx : a.eval x = z) {v' : Value} {w' : World} (hr : (Builtin.append_ #[106, 106] o.type #[u, z]).run Tryz.prog w = .ok v' w') (hK : K (a.put o.dst v') w') :
    if Region.wanted o (yielded ops a.tmps) = true then Oper.wp Tryz.prog o a w K Q else X := by
  have hw : Region.wanted o (yielded ops a.tmps) = true := by simp [Region.wanted, hg]
  rw [if_pos hw]
  unfold Oper.wp execOp
  simp only [hop, resolve, invoke, builtin, Sem.run_bind, Sem.run_pure, Result.andThen_ok, List.map_toArray, List.map_cons, List.map_nil, hd, hx, hr]
  exact hK
end
theorem eapp_del (w : World) (g n cap j : Nat) (cur : Array Value) (hn : n = E.length) (hj : j ≤ n) (hc : n ≤ cap) (hmax : cap ≤ maxLen) (hg : w.heap[g]? = some (.cells cur 113 (0, 0))) (hs : cur.size = cap * 3) :
    EApp w ((w.drew.setCells g 0 ((ecs E).drop (j * 3))).setCells g ((n - j) * 3) (Builtin.zeroCells zero90.cells j).toList) (.slice (some ⟨g, 0, none⟩) n cap) (E.drop j) (.slice (some ⟨g, 0, none⟩) (n - j) cap) := by
  have hE := ecs_len E
  have hd : ((ecs E).drop (j * 3)).length = (n - j) * 3 := by rw [List.length_drop, hE, ← hn]; omega
  have hz := zero_len j
  obtain ⟨c1, a1, a2, a3⟩ := heap_setCells_same g 113 ((ecs E).drop (j * 3)) 0 w.drew cur hg (by rw [hd, hs]; omega)
  obtain ⟨c2, b1, b2, b3⟩ := heap_setCells_same g 113 (Builtin.zeroCells zero90.cells j).toList ((n - j) * 3) _ c1 a1 (by rw [hz, a2, hs]; omega)
  have hlen : (E.drop j).length = n - j := by rw [List.length_drop, ← hn]
  refine ⟨⟨ecs_len _, .inr ⟨g, cap, c2, by rw [hlen], Nat.zero_le _, b1, by rw [hlen]; omega, hmax, by rw [b2, a2, hs], ?_⟩⟩, ((((Cha.refl (fun i => (Value.slice (some ⟨g, 0, none⟩) n cap).ownBlock = some i) w).drew).setCells (g := g) (fun _ => rfl) _ _).setCells (g := g) (fun _ => rfl) _ _), fun g' hg' => .inl hg'⟩
  rw [hlen, ecs_drop]
  apply List.ext_getElem?
  intro k
  rw [List.getElem?_take]
  by_cases hk : k < (n - j) * 3
  · rw [if_pos hk, Array.getElem?_toList, b3, if_neg (by omega), a3, hd, if_pos (by omega), Nat.sub_zero]
  · rw [if_neg hk, List.getElem?_eq_none (by rw [hd]; omega)]
def Cut (w : World) (v : Value) (E : List Ent) (j : Nat) (e : Ending) (w' : World) : Prop := ∃ v', e = .returned v' ∧ EApp w w' v (E.drop j) v'
theorem delete_zero (h : Ents w v E) : Calls Tryz.prog 86 #[v, .int .i64 0, .int .i64 0] w (Cut w v E 0) := by
  obtain ⟨s, cap, rfl⟩ := h.form
  have hcap : E.length ≤ cap := by
    rcases h.2 with ⟨e, h0⟩ | ⟨g, cap', cur, e, _, hg, h1, h2, h3, h4⟩
    · omega
    · injection e with e1 e2 e3
      omega
  have H := Lib.hid h
  obtain ⟨n, hn⟩ : ∃ n, n = E.length := ⟨_, rfl⟩
  rw [← hn] at H hcap ⊢
  clear h hn
  go_enter Tryz.func86, Tryz.ntmps86
  go_wp2
  all_goals
    go_ret
    exact ⟨_, rfl, H.out, Cha.refl _ _, fun g hg => .inl hg⟩
set_option maxRecDepth 100000 in
set_option maxHeartbeats 4000000 in
theorem delete_some (g cap j : Nat) (h : Ents w (.slice (some ⟨g, 0, none⟩) E.length cap) E) (hj : j ≤ E.length) (h0 : 0 < j) (hcj : ¬ cap = j) :
    Calls Tryz.prog 86 #[.slice (some ⟨g, 0, none⟩) E.length cap, .int .i64 0, .int .i64 (j : Int)] w (Cut w (.slice (some ⟨g, 0, none⟩) E.length cap) E j) := by
  rcases h.2 with ⟨e, _⟩ | ⟨g', cap', cur, e, _, hg, h1, h2, h3, h4⟩
  · cases e
  injection e with e1 e2 e3
  injection e1 with e1
  injection e1 with e1 _ _
  subst e1 e3
  obtain ⟨n, hn⟩ : ∃ n, n = E.length := ⟨_, rfl⟩
  have hm2 := h2
  unfold maxLen at hm2
  rw [← hn] at h4 hj h1 ⊢
  have FIN := Lib.hid (eapp_del (E := E) w g n cap j cur hn hj h1 h2 hg h3)
  have hE := ecs_len E
  have hd : ((ecs E).drop (j * 3)).length = (n - j) * 3 := by rw [List.length_drop, hE, ← hn]; omega
  have hap := fun so c2 (k : j < n → so = j * 3) ty => run_shift (E := E) w.drew ty g n cap j c2 so cur hn hj h1 hg h3 h4 k
  obtain ⟨c1, a1, a2, a3⟩ := heap_setCells_same g 113 ((ecs E).drop (j * 3)) 0 w.drew cur hg (by rw [hd, h3]; omega)
  obtain ⟨W1, hW1⟩ : ∃ W1, W1 = w.drew.setCells g 0 ((ecs E).drop (j * 3)) := ⟨_, rfl⟩
  rw [← hW1] at a1 FIN hap
  have hclr : ∀ ty c, (Builtin.clear_ #[106] ty #[.slice (some ⟨g, (n - j) * 3, none⟩) j c]).run Tryz.prog W1 = .ok (.tuple #[]) (W1.setCells g ((n - j) * 3) (Builtin.zeroCells zero90.cells j).toList) := fun ty c =>
    run_clear3 W1 ty g ((n - j) * 3) j c h0 (fun k hk => by rw [cell_of_row W1 g _ c1 113 (0, 0) a1, Array.getElem?_eq_getElem (by rw [a2, h3]; omega)]; rfl) (fun k _ => frozen_of_row W1 g _ c1 113 a1)
  obtain ⟨Z, hZ⟩ : ∃ Z, Z = (Builtin.zeroCells zero90.cells j).toList := ⟨_, rfl⟩
  rw [← hZ] at FIN hclr
  clear hZ
  have hjj : n - (n - j) = j := by omega
  have k1 : ¬ ((0 : Int) = (j : Int)) := by omega
  have k1b : ¬ (0 = j) := by omega
  have k1c : ¬ (j = 0) := by omega
  have k2 : (j : Int) ≤ (n : Int) := by omega
  have k3 : (n : Int) ≤ (cap : Int) := by omega
  have k4 : (j : Int) ≤ (cap : Int) := by omega
  have k5 : ¬ (cap = n - j) := by omega
  have k6 : ((n - j : Nat) : Int) ≤ (n : Int) := by omega
  have k7 : n - j ≤ n := by omega
  clear h h4 hd hE hg a1 a2 a3 hW1 hn e2
  have hap1 := fun ty => hap (j * 3) (cap - j) (fun _ => rfl) ty
  clear hap
  go_enter Tryz.func86, Tryz.ntmps86
  go_wp2
  go_region_law (refine step_append_runI _ rfl _ _ rfl (.slice (some ⟨g, 0, none⟩) 0 cap) (.slice (some ⟨g, j * 3, none⟩) (n - j) (cap - j)) (by simp [Act.eval, Act.put]) (by simp [Act.eval, Act.put]) (hap1 _) ?_)
  go_wp2_with (at_builtin; refine wpList_clear_run _ rfl _ rfl rfl (hclr _ _) ?_)
  go_ret
  exact ⟨_, rfl, FIN.out⟩
end Go.Proofs.YtaloafihbdamiaaGreat

namespace Go.Proofs.YtaloafihbdamiaaGreat
open Go.ChangeShapes Go.WideShapes Go.ChangeAt Go.RowKit
variable {w w' : World} {v : Value} {E N : List Ent} {y : Ent}
set_option maxRecDepth 100000 in
set_option maxHeartbeats 4000000 in
theorem delete_whole (g j : Nat) (h : Ents w (.slice (some ⟨g, 0, none⟩) E.length j) E) (hj : j = E.length) (h0 : 0 < j) :
    Calls Tryz.prog 86 #[.slice (some ⟨g, 0, none⟩) j j, .int .i64 0, .int .i64 (j : Int)] w (Cut w (.slice (some ⟨g, 0, none⟩) j j) E j) := by
  rcases h.2 with ⟨e, _⟩ | ⟨g', cap', cur, e, _, hg, h1, h2, h3, h4⟩
  · cases e
  injection e with e1 e2 e3
  injection e1 with e1
  injection e1 with e1 _ _
  subst e1 e3
  have hm2 := h2
  unfold maxLen at hm2
  rw [← hj] at h4 h1
  have FIN := Lib.hid (eapp_del (E := E) w g j j j cur hj (Nat.le_refl _) (Nat.le_refl _) h2 hg h3)
  rw [Nat.sub_self] at FIN
  have hE := ecs_len E
  have hd : ((ecs E).drop (j * 3)).length = 0 := by rw [List.length_drop, hE, ← hj]; omega
  have hap : ∀ ty, (Builtin.append_ #[106, 106] ty #[.slice (some ⟨g, 0, none⟩) 0 j, .slice (some ⟨g, 0, none⟩) 0 0]).run Tryz.prog w.drew = .ok (.slice (some ⟨g, 0, none⟩) 0 j) (w.drew.setCells g 0 ((ecs E).drop (j * 3))) := fun ty => by
    have := run_shift (E := E) w.drew ty g j j j 0 0 cur hj (Nat.le_refl _) (Nat.le_refl _) hg h3 h4 (fun k => absurd k (Nat.lt_irrefl _))
    rw [Nat.sub_self] at this
    exact this
  obtain ⟨c1, a1, a2, a3⟩ := heap_setCells_same g 113 ((ecs E).drop (j * 3)) 0 w.drew cur hg (by rw [hd, h3]; omega)
  obtain ⟨W1, hW1⟩ : ∃ W1, W1 = w.drew.setCells g 0 ((ecs E).drop (j * 3)) := ⟨_, rfl⟩
  rw [← hW1] at a1 FIN hap
  have hclr : ∀ ty c, (Builtin.clear_ #[106] ty #[.slice (some ⟨g, 0, none⟩) j c]).run Tryz.prog W1 = .ok (.tuple #[]) (W1.setCells g 0 (Builtin.zeroCells zero90.cells j).toList) := fun ty c =>
    run_clear3 W1 ty g 0 j c h0 (fun k hk => by rw [cell_of_row W1 g _ c1 113 (0, 0) a1, Array.getElem?_eq_getElem (by rw [a2, h3]; omega)]; rfl) (fun k _ => frozen_of_row W1 g _ c1 113 a1)
  obtain ⟨Z, hZ⟩ : ∃ Z, Z = (Builtin.zeroCells zero90.cells j).toList := ⟨_, rfl⟩
  rw [← hZ] at FIN hclr
  rw [Nat.zero_mul] at FIN
  clear hZ
  have k1 : ¬ ((0 : Int) = (j : Int)) := by omega
  have k1b : ¬ (0 = j) := by omega
  have k1c : ¬ (j = 0) := by omega
  clear h h4 hd hE hg a1 a2 a3 hW1 hj e2 h1 h2 h3
  go_enter Tryz.func86, Tryz.ntmps86
  go_wp2
  go_region_law (refine step_append_runI _ rfl _ _ rfl (.slice (some ⟨g, 0, none⟩) 0 j) (.slice (some ⟨g, 0, none⟩) 0 0) (by simp [Act.eval, Act.put]) (by simp [Act.eval, Act.put]) (hap _) ?_)
  go_wp2_with (at_builtin; refine wpList_clear_run _ rfl _ rfl rfl (hclr _ _) ?_)
  go_ret
  exact ⟨_, rfl, FIN.out⟩
end Go.Proofs.YtaloafihbdamiaaGreat

namespace Go.Proofs.YtaloafihbdamiaaGreat
open Go.ChangeShapes Go.WideShapes Go.ChangeAt Go.RowKit
variable {w w' : World} {F F' : Nat → Prop} {bt bp : Nat} {lv : Nat → Value} {P : List (List Ent)} {a x now : Int} {y : Ent} {E L L2 : List Ent} {v v' : Value}

theorem delete_any {j : Nat} (h : Ents w v E) (hj : j ≤ E.length) : Calls Tryz.prog 86 #[v, .int .i64 0, .int .i64 (j : Int)] w (Cut w v E j) := by
  by_cases h0 : j = 0
  · subst h0; exact delete_zero h
  · rcases h.2 with ⟨e, e0⟩ | ⟨g, cap, cur, e, r⟩
    · omega
    · subst e
      by_cases hc : cap = j
      · have hn : j = E.length := by have := r.2.2.1; omega
        subst hc
        have := delete_whole g cap h hn (by omega)
        rw [← hn]
        exact this
      · exact delete_some g cap j h hj (by omega) hc
theorem tdue_none (p now : Int) (w : World) : Calls Tryz.prog 73 #[.pointer none, .int .i64 p, .int .u64 now] w fun e w' => e = .returned (.slice none 0 0) ∧ w = w' := by
  go_enter Tryz.func73, Tryz.ntmps73
  go_wp2
  go_ret
  exact ⟨rfl, rfl⟩
theorem tdue_bad (p now : Int) (h : Ts w F bt bp lv P a) (hp : p < 0 ∨ (P.length : Int) ≤ p) : Calls Tryz.prog 73 #[.pointer (some ⟨bt, 0, none⟩), .int .i64 p, .int .u64 now] w fun e w' => e = .returned (.slice none 0 0) ∧ w = w' := by
  have C := Lib.hid (tisproc_no p h hp)
  clear h hp
  go_enter Tryz.func73, Tryz.ntmps73
  go_wp2_with (go_at_call 64; ((with_reducible refine (C.out).mono ?_); rintro e w1 ⟨rfl, rfl⟩))
  go_ret
  exact ⟨rfl, rfl⟩
/-- So many ids: what was just laid behind a box. -/
theorem one_new2 (w : World) (x : Int) (bs : Array Value) : ∀ j u, (iz [x])[j]? = some u → ((w.alloc (.cells bs 113)).alloc (.cells #[.int .i64 x] 3)).cell? ((⟨w.heap.size + 1, 0, none⟩ : Addr).add j) = some u := by
  have h := one_new (w.alloc (.cells bs 113)) x 3
  rw [World.size_alloc] at h
  exact h
/-- So many of a list's ids stand in a new one. -/
structure Told (w : World) (L : List Ent) (now : Int) (j : Nat) (v : Value) (wr : World) : Prop where
  le : j ≤ L.length
  lo : ∀ i, i < j → (L.getD i ⟨0, 0, 0⟩).when ≤ now
  lies : Lies wr v ((L.take j).map Ent.id)
  own : ∀ g, v.ownBlock = some g → w.heap.size ≤ g
  cha : Cha (fun _ => False) w wr
theorem Told.more {wr w3 : World} {j g o cap : Nat} {z : Int} {bs : Array Value} (h : Told w L now j v wr) (hj : j < L.length) (hw : (L.getD j ⟨0, 0, 0⟩).when ≤ now) (hz : z = (L.getD j ⟨0, 0, 0⟩).id)
    (hA : App ((wr.alloc (.cells bs 113)).alloc (.cells #[.int .i64 z] 3)) w3 v ((L.take j).map Ent.id) [z] g o cap) : Told w L now (j + 1) (.slice (some ⟨g, o, none⟩) (j + 1) cap) w3 := by
  have c1 : Cha (fun _ => False) w ((wr.alloc (.cells bs 113)).alloc (.cells #[.int .i64 z] 3)) := (h.cha.alloc _).alloc _
  have e : (L.take (j + 1)).map Ent.id = (L.take j).map Ent.id ++ [z] := by
    rw [List.take_add_one, List.getElem?_eq_getElem hj, List.map_append, hz]
    simp [List.getD, List.getElem?_eq_getElem hj]
  have hl : ((L.take j).map Ent.id).length + [z].length = j + 1 := by simp only [List.length_map, List.length_take, List.length_singleton]; omega
  have hlies := hA.lies
  rw [hl] at hlies
  refine ⟨hj, fun i hi => ?_, by rw [e]; exact hlies, fun g' hg' => ?_, c1.over hA.cha fun i hi => .inr (h.own i hi)⟩
  · by_cases e : i = j
    · rw [e]; exact hw
    · exact h.lo i (by omega)
  · have e : g = g' := by simpa [Value.ownBlock] using hg'
    subst e
    rcases hA.at' with e | e
    · exact h.own g e
    · exact Nat.le_trans c1.size e
theorem Told.alloc {wr : World} {j : Nat} (h : Told w L now j v wr) (o : Obj) : Told w L now j v (wr.alloc o) :=
  ⟨h.le, h.lo, h.lies.cha ((Cha.refl (fun _ => False) wr).alloc o) (fun _ _ f => f), h.own, h.cha.alloc o⟩
/-- Behind Due. -/
def Dued (w : World) (F : Nat → Prop) (bt bp : Nat) (P : List (List Ent)) (a : Int) (L : List Ent) (p : Nat) (now : Int) (e : Ending) (w' : World) : Prop :=
  ∃ k v, e = .returned v ∧ Upto L now k ∧ Lies w' v ((L.take k).map Ent.id) ∧ ∃ F' lv, Ts w' F' bt bp lv (P.set p (L.drop k)) a ∧ Cha F w w' ∧ (∀ i, F i → F' i) ∧ (∀ i, F' i → F i ∨ w.heap.size ≤ i) ∧ ∀ g, v.ownBlock = some g → ¬ F' g ∧ w.heap.size ≤ g
theorem dued_mk {wr w5 : World} {k p : Nat} (h : Ts w F bt bp lv P a) (hp : p < P.length) (hu : Upto L now k) (ht : Told w L now k v wr) (hA : EApp wr.drew w5 (lv p) (L.drop k) v') :
    Dued w F bt bp P a L p now (.returned v) (w5.setCell ⟨bp, p, none⟩ v') := by
  have T2 := (h.same ht.cha).same ((Cha.refl (fun _ => False) wr).drew)
  have hs : ∀ i, F i → i < w.heap.size := h.old
  have hne : ∀ g, v.ownBlock = some g → ¬ F g := fun g hg hf => by have := hs g hf; have := ht.own g hg; omega
  have ek : Cha F wr.drew w5 := hA.cha.mono fun i _ e => (T2.fv p i hp e).1
  have e2 : Cha F wr.drew (w5.setCell ⟨bp, p, none⟩ v') := ek.setCell (p := ⟨bp, p, none⟩) (fun _ => T2.fp) _
  have cc : Cha F w (w5.setCell ⟨bp, p, none⟩ v') := ((ht.cha.wide (S := F)).drew).trans e2
  obtain ⟨F', lv', q1, q2, q3, q4⟩ := T2.put hp hA
  have hsz : w.heap.size ≤ wr.drew.heap.size := ht.cha.size
  refine ⟨k, v, rfl, hu, (ht.lies.cha ((Cha.refl F wr).drew) hne).cha e2 hne, F', lv', q1, cc, q3, fun i hi => (q4 i hi).imp id fun e => Nat.le_trans hsz e, fun g hg => ⟨fun hf => ?_, ht.own g hg⟩⟩
  rcases q4 g hf with e | e
  · exact hne g hg e
  · have h1 : g < wr.heap.size := ht.lies.lt hg
    have h2 : wr.heap.size ≤ g := e
    omega
set_option maxRecDepth 100000 in
set_option linter.unusedSimpArgs false in
set_option maxHeartbeats 4000000 in
theorem tdue_ok (p : Nat) (h : Ts w F bt bp lv P a) (hp : P[p]? = some L) (hl : L.length ≤ 1024) :
    Calls Tryz.prog 73 #[.pointer (some ⟨bt, 0, none⟩), .int .i64 (p : Int), .int .u64 now] w (Dued w F bt bp P a L p now) := by
  have hpl := (List.getElem?_eq_some_iff.1 hp).1
  have C := Lib.hid (tisproc_yes p h hpl)
  have c0 := h.ptr
  have c1 : w.cell? ⟨bp, p, none⟩ = some (lv p) := h.tab.cell hpl
  have HE := Lib.hid (h.lst p _ hp)
  obtain ⟨s, cap, hv⟩ := (h.lst p _ hp).form
  rw [hv] at c1
  have HV := Lib.hid hv
  have k1 : (p : Int) < (P.length : Int) := by omega
  have H := Lib.hid h
  have HL := Lib.hid hl
  have HP := Lib.hid hp
  clear h hl hp hv
  go_enter Tryz.func73, Tryz.ntmps73
  go_upto_block 0 with (go_at_call 64; ((with_reducible refine (C.out).mono ?_); rintro e w1 ⟨rfl, rfl⟩))
  go_cut [7] (fun v wx => ∃ k, Upto L now k ∧ Told w L now k v wx)
  case first =>
    go_wp2
    go_loopw [7, 27] (fun v i wr => ∃ j : Nat, i = .int .i64 (j : Int) ∧ Told w L now j v wr) (fun _ i _ => L.length - (intOf i).toNat)
    case atStart => exact ⟨0, rfl, Nat.zero_le _, fun i hi => absurd hi (Nat.not_lt_zero _), Lies.nil _, (fun g hg => by cases hg), Cha.refl _ _⟩
    case round =>
      obtain ⟨j, rfl, hT⟩ := hrel
      have HT := Lib.hid hT
      obtain ⟨a7, cap7, rfl, -⟩ := hT.lies.form
      clear hT
      by_cases hlt : j < L.length
      · have hE2 := HE.out
        rw [HV.out] at hE2
        obtain ⟨g, cap', hv2, -, -, hc⟩ := hE2.at hlt
        cases hv2
        obtain ⟨y0, y1, y2⟩ := hc wr HT.out.cha
        obtain ⟨⟨t0, t1, t2⟩, hy⟩ : ∃ y, y = L.getD j ⟨0, 0, 0⟩ := ⟨_, rfl⟩
        rw [← hy] at y0 y1 y2
        have HY := Lib.hid hy
        have HR : Hid (wr.rangeAt g (j * 3) [.int .u64 t0, .int .u64 t1, .int .i64 t2]) := Lib.hid fun i u hu => by
          rcases i with _ | _ | _ | i
          · cases hu; exact y0
          · cases hu; exact y1
          · cases hu; exact y2
          · cases hu
        have hle : ((L.take j).map Ent.id).length = j := by simp only [List.length_map, List.length_take]; omega
        rw [hle] at HT ⊢
        have HLE := Lib.hid hle
        clear hle
        clear hE2 hy hc y0 y1 y2
        have hb : j < 1024 := Nat.lt_of_lt_of_le hlt HL.out
        by_cases hw : t0 ≤ now
        · have hw2 : ¬ now < t0 := by omega
          go_wp2_with (first
            | (refine wpList_load_mid rfl 113 (.tmp 29) rfl g (j * 3) rfl _ _ HR.out Tryz.underlying113 rfl (by kernel_rfl) ?_)
            | (at_builtin; go_loud (refine wpList_app rfl (.tmp 35) (.tmp 38) rfl (A := (L.take j).map Ent.id) rfl (HT.out.lies.cha (((Cha.refl (fun _ => False) wr).alloc _).alloc _) (fun _ _ f => f)) ⟨wr.heap.size + 1, 0, none⟩ 1 1 [t2] rfl rfl (one_new2 _ _ _) Nat.zero_lt_one (by rw [HLE.out]; have := HL.out; simp only [List.length_singleton]; omega) ?_; intro g3 o3 cap3 w3 hA3; have HN := Lib.hid (HT.out.more hlt (by rw [← HY.out]; exact hw) (by rw [← HY.out]) hA3); clear hA3; rw [HLE.out])))
          go_roundw
          case rel => exact ⟨j + 1, by go_num, HN.out⟩
          case measure => simp [intOf]; omega
        · have hw2 : now < t0 := by omega
          go_wp2_with (refine wpList_load_mid rfl 113 (.tmp 29) rfl g (j * 3) rfl _ _ HR.out Tryz.underlying113 rfl (by kernel_rfl) ?_)
          go_meet
          exact ⟨j, ⟨Nat.le_of_lt hlt, HT.out.lo, fun _ => by rw [← HY.out]; exact hw2⟩, HT.out.alloc _⟩
      · have hle : ((L.take j).map Ent.id).length = j := by have := HT.out.le; simp only [List.length_map, List.length_take]; omega
        have ej : j = L.length := by have := HT.out.le; omega
        rw [hle] at HT ⊢
        have hw2 : ¬ (j : Int) < (L.length : Int) := by omega
        go_wp2
        go_meet
        refine ⟨j, ⟨Nat.le_of_eq ej, HT.out.lo, fun h => absurd h (by omega)⟩, ?_⟩
        have := HT.out
        rw [ej] at this ⊢
        exact this
  case rest =>
    obtain ⟨k, hu, hT⟩ := hcut
    have hlk : ((L.take k).map Ent.id).length = k := by have := hu.le; simp only [List.length_map, List.length_take]; omega
    obtain ⟨a7, cap7, rfl, -⟩ := hT.lies.form
    rw [hlk] at hT ⊢
    have T2 := (H.out.same hT.cha).same ((Cha.refl (fun _ => False) wc).drew)
    have D := Lib.hid (delete_any (j := k) (T2.lst p L HP.out) hu.le)
    have FIN : Hid (∀ w5 v', EApp wc.drew w5 (lv p) (L.drop k) v' → Dued w F bt bp P a L p now (.returned (.slice a7 k cap7)) (w5.setCell ⟨bp, p, none⟩ v')) := Lib.hid fun w5 v' hA => dued_mk H.out hpl hu hT hA
    have KX : Hid (∀ w5 v', EApp wc.drew w5 (lv p) (L.drop k) v' → w5.cell? ⟨bt, 0, none⟩ = some (.slice (some ⟨bp, 0, none⟩) P.length P.length) ∧ w5.frozen? ⟨bp, p, none⟩ = false ∧ w5.cell? ⟨bp, p, none⟩ = some (lv p) ∧ ∀ u, (w5.setCell ⟨bp, p, none⟩ u).cell? ⟨bt, 0, none⟩ = some (.slice (some ⟨bp, 0, none⟩) P.length P.length)) := Lib.hid fun w5 v' hA => by
      have hbp : FRow 106 w5 bp P.length lv := hA.cha.row T2.tab (fun e => (T2.fv p bp hpl e).2.2 rfl)
      have e1 := (hA.cha.old bt (T2.old _ T2.ft) (fun e => (T2.fv p bt hpl e).2.1 rfl)).trans T2.head
      have e2 := cell_of_row w5 bt 0 _ 95 (0, 0) e1
      refine ⟨e2, hbp.free p, hbp.cell hpl, fun u => (World.cell?_setCell_other w5 _ _ _ ?_).trans e2⟩
      intro e; cases e; exact T2.ne rfl
    have c2 : wc.drew.cell? ⟨bt, 0, none⟩ = some (.slice (some ⟨bp, 0, none⟩) P.length P.length) := T2.ptr
    have c3 : wc.drew.cell? ⟨bp, p, none⟩ = some (lv p) := T2.tab.cell hpl
    rw [HV.out] at c3 D FIN KX
    clear T2 hT hlk hu H HE HV HL c0 c1
    go_wp2
    refine wp_region_held_drew (S := (fun w' => w'.cell? ⟨bt, 0, none⟩ = some (.slice (some ⟨bp, 0, none⟩) P.length P.length))) (by kernel_rfl) (by exact c2) (fun hHeld => ?_)
    refine wpAnyH_take (i := 0) (v := ?_) rfl (by kernel_rfl) (by kernel_rfl) (by kernel_rfl) (fun _ _ _ h => h) (Or.inl ⟨by rfl, ?_⟩) (by assumption) ?_
    rotate_left
    · intro w hSw; (try dsimp only at hSw); go_simp; (try with_reducible rfl)
    try simp only [Act.put, List.setIfInBounds_toArray, List.set_cons_zero, List.set_cons_succ]
    refine wpAnyH_take (i := 1) (v := ?_) rfl (by kernel_rfl) (by kernel_rfl) (by kernel_rfl) (fun _ _ _ h => h) (Or.inl ⟨by rfl, ?_⟩) (by assumption) ?_
    rotate_left
    · intro w hSw; (try dsimp only at hSw); go_simp; (try with_reducible rfl)
    try simp only [Act.put, List.setIfInBounds_toArray, List.set_cons_zero, List.set_cons_succ]
    refine wpAnyH_take (i := 2) (v := ?_) rfl (by kernel_rfl) (by kernel_rfl) (by kernel_rfl) (fun _ _ _ h => h) (Or.inl ⟨by rfl, ?_⟩) (by assumption) ?_
    rotate_left
    · intro w hSw; (try dsimp only at hSw); go_simp; (try with_reducible rfl)
    try simp only [Act.put, List.setIfInBounds_toArray, List.set_cons_zero, List.set_cons_succ]
    refine wpAnyH_take (i := 3) (v := ?_) rfl (by kernel_rfl) (by kernel_rfl) (by kernel_rfl) (fun _ _ _ h => h) (Or.inl ⟨by rfl, ?_⟩) (by assumption) ?_
    rotate_left
    · intro w hSw; (try dsimp only at hSw); go_simp; (try with_reducible rfl)
    try simp only [Act.put, List.setIfInBounds_toArray, List.set_cons_zero, List.set_cons_succ]
    refine wpAnyH_take (i := 4) (v := ?_) rfl (by kernel_rfl) (by kernel_rfl) (by kernel_rfl) (fun _ _ _ h => h) (Or.inl ⟨by rfl, ?_⟩) (by assumption) ?_
    rotate_left
    · intro w hSw; (try dsimp only at hSw); go_simp; (try with_reducible rfl)
    try simp only [Act.put, List.setIfInBounds_toArray, List.set_cons_zero, List.set_cons_succ]
    refine wpAnyH_take (i := 5) (v := ?_) rfl (by kernel_rfl) (by kernel_rfl) (by kernel_rfl) (fun _ _ _ h => h) (Or.inl ⟨by rfl, ?_⟩) (by assumption) ?_
    rotate_left
    · intro w hSw; (try dsimp only at hSw); go_simp; (try with_reducible rfl)
    try simp only [Act.put, List.setIfInBounds_toArray, List.set_cons_zero, List.set_cons_succ]
    refine wpAnyH_take (i := 6) (v := ?_) rfl (by kernel_rfl) (by kernel_rfl) (by kernel_rfl) (fun _ _ _ h => h) (Or.inl ⟨by rfl, ?_⟩) (by assumption) ?_
    rotate_left
    · intro w hSw; (try dsimp only at hSw); go_simp; (try with_reducible rfl)
    try simp only [Act.put, List.setIfInBounds_toArray, List.set_cons_zero, List.set_cons_succ]
    refine wpAnyH_take (i := 7) (v := ?_) rfl (by kernel_rfl) (by kernel_rfl) (by kernel_rfl) (fun _ _ _ h => h) (Or.inl ⟨by rfl, ?_⟩) (by assumption) ?_
    rotate_left
    · intro w hSw; (try dsimp only at hSw); go_simp; (try with_reducible rfl)
    try simp only [Act.put, List.setIfInBounds_toArray, List.set_cons_zero, List.set_cons_succ]
    refine wpAnyH_take (i := 8) (v := ?_) rfl (by kernel_rfl) (by kernel_rfl) (by kernel_rfl) (fun _ _ _ h => h) (Or.inl ⟨by rfl, ?_⟩) (by assumption) ?_
    rotate_left
    · intro w hSw; (try dsimp only at hSw); go_simp; (try with_reducible rfl)
    try simp only [Act.put, List.setIfInBounds_toArray, List.set_cons_zero, List.set_cons_succ]
    refine wpAnyH_take (i := 9) (v := ?_) rfl (by kernel_rfl) (by kernel_rfl) (by kernel_rfl) (fun _ _ _ h => h) (Or.inl ⟨by rfl, ?_⟩) (by assumption) ?_
    rotate_left
    · intro w hSw; (try dsimp only at hSw); go_simp; (try with_reducible rfl)
    try simp only [Act.put, List.setIfInBounds_toArray, List.set_cons_zero, List.set_cons_succ]
    refine wpAnyH_take (i := 10) (v := ?_) rfl (by kernel_rfl) (by kernel_rfl) (by kernel_rfl) (fun _ _ _ h => h) (Or.inl ⟨by rfl, ?_⟩) (by assumption) ?_
    rotate_left
    · intro w hSw; (try dsimp only at hSw); go_simp; (try with_reducible rfl)
    try simp only [Act.put, List.setIfInBounds_toArray, List.set_cons_zero, List.set_cons_succ]
    refine wpAnyH_take (i := 12) (v := ?_) rfl (by kernel_rfl) (by kernel_rfl) (by kernel_rfl) (fun _ _ _ h => h) (Or.inl ⟨by rfl, ?_⟩) (by assumption) ?_
    rotate_left
    · intro w hSw; (try dsimp only at hSw); go_simp; (try with_reducible rfl)
    try simp only [Act.put, List.setIfInBounds_toArray, List.set_cons_zero, List.set_cons_succ]
    refine wpAnyH_take (i := 13) (v := ?_) rfl (by kernel_rfl) (by kernel_rfl) (by kernel_rfl) (fun _ _ _ h => h) (Or.inl ⟨by rfl, ?_⟩) (by assumption) ?_
    rotate_left
    · intro w hSw; (try dsimp only at hSw); go_simp; (try with_reducible rfl)
    try simp only [Act.put, List.setIfInBounds_toArray, List.set_cons_zero, List.set_cons_succ]
    refine wpAnyH_ready (rs := [11]) (by kernel_rfl) (by simp) ?_
    refine AllReadyH.cons rfl (fun K hK => ?_) AllReadyH.nil
    go_simp
    refine hK.out _ _ c2 (fun hHeld => ?_)
    clear hK K
    try simp only [Act.put, List.setIfInBounds_toArray, List.set_cons_zero, List.set_cons_succ]
    refine wpAnyH_ready (rs := [14]) (by kernel_rfl) (by simp) ?_
    refine AllReadyH.cons rfl (fun K hK => ?_) AllReadyH.nil
    go_simp
    go_at_call 86
    refine (D.out).mono ?_
    rintro e5 w5 ⟨v5, rfl, hA⟩
    obtain ⟨x5, c5, rfl⟩ := hA.ents.form
    obtain ⟨s1, s2, s3, S5⟩ := KX.out _ _ hA
    have S5 := Lib.hid S5
    have FN := Lib.hid (FIN.out _ _ hA)
    rw [List.length_drop] at FN
    clear hA
    go_wp2_with fail
    refine hK.out _ _ s1 (fun hHeld => ?_)
    clear hK K
    try simp only [Act.put, List.setIfInBounds_toArray, List.set_cons_zero, List.set_cons_succ]
    refine wpAnyH_take (i := 15) (v := ?_) rfl (by kernel_rfl) (by kernel_rfl) (by kernel_rfl) (fun _ _ _ h => h) (Or.inl ⟨by rfl, ?_⟩) (by assumption) ?_
    rotate_left
    · intro w hSw; (try dsimp only at hSw); go_simp; (try with_reducible rfl)
    try simp only [Act.put, List.setIfInBounds_toArray, List.set_cons_zero, List.set_cons_succ]
    refine wpAnyH_ready (rs := [16]) (by kernel_rfl) (by simp) ?_
    refine AllReadyH.cons rfl (fun K hK => ?_) AllReadyH.nil
    go_simp
    refine hK.out _ _ (S5.out _) (fun hHeld => ?_)
    clear hK K
    try simp only [Act.put, List.setIfInBounds_toArray, List.set_cons_zero, List.set_cons_succ]
    refine wpAnyH_done (by kernel_rfl) ?_ _
    go_wp2
    go_returns
    exact FN.out
end Go.Proofs.YtaloafihbdamiaaGreat

namespace Go.Proofs.YtaloafihbdamiaaGreat
open Go.ChangeShapes Go.WideShapes Go.ChangeAt Go.RowKit
variable {w0 w w' : World} {F F' : Nat → Prop} {bt bp p : Nat} {lv : Nat → Value} {P P' : List (List Ent)} {a b x t now : Int} {y e : Ent} {E L L' L2 M : List Ent} {v v' : Value} {A : List Int}

/-- Timers that were made since w0. -/
def Tl (w0 w : World) (bt bp : Nat) (P : List (List Ent)) (a : Int) : Prop := ∃ F lv, Ts w F bt bp lv P a ∧ Cha (fun _ => False) w0 w ∧ ∀ i, F i → w0.heap.size ≤ i
/-- And a list of ids beside them. -/
def Tlv (w0 w : World) (bt bp : Nat) (P : List (List Ent)) (a : Int) (v : Value) (A : List Int) : Prop :=
  ∃ F lv, Ts w F bt bp lv P a ∧ Cha (fun _ => False) w0 w ∧ (∀ i, F i → w0.heap.size ≤ i) ∧ Lies w v A ∧ ∀ g, v.ownBlock = some g → ¬ F g ∧ w0.heap.size ≤ g
theorem Tlv.tl (h : Tlv w0 w bt bp P a v A) : Tl w0 w bt bp P a := by obtain ⟨F, lv, q, c, n, _⟩ := h; exact ⟨F, lv, q, c, n⟩
theorem Tlv.lies (h : Tlv w0 w bt bp P a v A) : Lies w v A := by obtain ⟨F, lv, q, c, n, l, _⟩ := h; exact l
theorem Tl.same (h : Tl w0 w bt bp P a) (c : Cha (fun _ => False) w w') : Tl w0 w' bt bp P a := by
  obtain ⟨F, lv, q, k, n⟩ := h
  exact ⟨F, lv, q.same c, k.trans c, n⟩
theorem Tlv.same (h : Tlv w0 w bt bp P a v A) (c : Cha (fun _ => False) w w') : Tlv w0 w' bt bp P a v A := by
  obtain ⟨F, lv, q, k, n, l, m⟩ := h
  exact ⟨F, lv, q.same c, k.trans c, n, l.cha c (fun _ _ f => f), m⟩
theorem Tl.cha (h : Tl w0 w bt bp P a) : Cha (fun _ => False) w0 w := by obtain ⟨F, lv, q, k, n⟩ := h; exact k
theorem Tl.left (h : Tl w0 w bt bp P a) (k : ∀ F lv, Ts w F bt bp lv P a → TLeft w w' F bt bp P' b) : Tl w0 w' bt bp P' b := by
  obtain ⟨F, lv, q, c, n⟩ := h
  obtain ⟨F', lv', q', c', _, m⟩ := k F lv q
  refine ⟨F', lv', q', c.over c' (fun i hi => .inr (n i hi)), fun i hi => ?_⟩
  rcases m i hi with e | e
  · exact n i e
  · exact Nat.le_trans c.size e
theorem tl_new (n : Nat) (hc : Cha (fun _ => False) w0 w) (h1 : 1 ≤ n) (h2 : n ≤ 8) : Calls Tryz.prog 15 #[.int .i64 (n : Int)] w fun e w' => e = .returned (.tuple #[.pointer (some ⟨w.heap.size + 1, 0, none⟩), .int .i64 0]) ∧ Tl w0 w' (w.heap.size + 1) w.heap.size (List.replicate n []) 0 :=
  (tnew_ok n w h1 h2).mono fun e w' ⟨q1, q, c⟩ => ⟨q1, _, _, q, hc.trans c, fun i hi => by have := hc.size; omega⟩
/-- L with one more. -/
structure Added (L : List Ent) (e : Ent) (L' : List Ent) : Prop where
  up : Rises L'
  mem : ∀ x, x ∈ L' ↔ x = e ∨ x ∈ L
  len : L'.length = L.length + 1
theorem Added.eq (h : Added L e L') (hr : Rises M) (hm : ∀ x, x ∈ M ↔ x = e ∨ x ∈ L) : L' = M := h.up.unique hr fun x => (h.mem x).trans (hm x).symm
theorem Added.lo (h : Added L e L') (hl : ∀ x ∈ L, x.order < a) (he : e.order = a) : ∀ x ∈ L', x.order < a + 1 := fun x hx => by
  rcases (h.mem x).1 hx with rfl | hx
  · omega
  · have := hl x hx; omega
theorem many_at (hp : P[p]? = some L) : L.length ≤ many P := by
  have hpl := (List.getElem?_eq_some_iff.1 hp).1
  have e1 := many_take P p hpl
  have e2 := many_le P (p + 1)
  have e3 : P.getD p [] = L := by simp [List.getD, hp]
  rw [e3] at e1
  omega
theorem tl_add (h : Tl w0 w bt bp P a) (ht : Tidy P a) (hp : P[p]? = some L) (hm : many P < 1024) (ha : 0 ≤ a) (ha2 : a < 2 ^ 63) (t n : Int) :
    Calls Tryz.prog 49 #[.pointer (some ⟨bt, 0, none⟩), .int .i64 (p : Int), .int .u64 t, .int .i64 n] w fun e w' => e = .returned (.int .i64 0) ∧ ∃ L', Added L ⟨t, a, n⟩ L' ∧ Tl w0 w' bt bp (P.set p L') (a + 1) := by
  obtain ⟨F, lv, q, c, nn⟩ := h
  refine (tadd_ok p t n q hp hm ha ha2 fun i j => (ht.up p L hp).mono _ i j).mono fun e w' ⟨a1, i, hpl, hl⟩ => ⟨a1, _, ⟨(ht.up p L hp).ins (fun x hx => ht.lo p L hp x hx) hpl, fun x => mem_ins, len_ins⟩, ?_⟩
  obtain ⟨F', lv', q', c', _, m⟩ := hl
  exact ⟨F', lv', q', c.over c' (fun i hi => .inr (nn i hi)), fun i hi => (m i hi).elim (nn i) (Nat.le_trans c.size)⟩
theorem tl_full (h : Tl w0 w bt bp P a) (hp : p < P.length) (hm : many P = 1024) (t n : Int) :
    Calls Tryz.prog 49 #[.pointer (some ⟨bt, 0, none⟩), .int .i64 (p : Int), .int .u64 t, .int .i64 n] w fun e w' => e = .returned (.int .i64 3) ∧ Tl w0 w' bt bp P a := by
  have h0 := h
  obtain ⟨F, lv, q, c, nn⟩ := h0
  exact (tadd_full p t n q hp hm).mono fun e w' ⟨q1, k, e2⟩ => ⟨q1, by rw [e2]; exact h.same ((Cha.refl _ w).drewN k)⟩
theorem tl_bad (h : Tl w0 w bt bp P a) (p t n : Int) (hp : p < 0 ∨ (P.length : Int) ≤ p) :
    Calls Tryz.prog 49 #[.pointer (some ⟨bt, 0, none⟩), .int .i64 p, .int .u64 t, .int .i64 n] w fun e w' => e = .returned (.int .i64 1) ∧ w = w' := by
  obtain ⟨F, lv, q, c, nn⟩ := h
  exact tadd_bad p t n q hp
theorem tl_count (h : Tl w0 w bt bp P a) (hm : many P ≤ 1024) : Calls Tryz.prog 34 #[.pointer (some ⟨bt, 0, none⟩)] w fun e w' => e = .returned (.int .i64 (many P : Int)) ∧ Cha (fun _ => False) w w' := by
  obtain ⟨F, lv, q, c, nn⟩ := h
  exact (tcount_any q hm).mono fun e w' ⟨q1, k, e2⟩ => ⟨q1, by rw [e2]; exact (Cha.refl _ w).drewN k⟩
theorem tl_next (h : Tl w0 w bt bp P a) (hp : P[p]? = some (y :: L)) : Calls Tryz.prog 88 #[.pointer (some ⟨bt, 0, none⟩), .int .i64 (p : Int)] w fun e w' => e = .returned (.tuple #[.int .u64 y.when, .bool true]) ∧ w = w' := by
  obtain ⟨F, lv, q, c, nn⟩ := h
  exact tnext_some p q hp
theorem tl_due (h : Tl w0 w bt bp P a) (hp : P[p]? = some L) (hl : L.length ≤ 1024) (now : Int) :
    Calls Tryz.prog 73 #[.pointer (some ⟨bt, 0, none⟩), .int .i64 (p : Int), .int .u64 now] w fun e w' => ∃ k s c, e = .returned (.slice s k c) ∧ Upto L now k ∧ Tlv w0 w' bt bp (P.set p (L.drop k)) a (.slice s k c) ((L.take k).map Ent.id) := by
  obtain ⟨F, lv, q, c, nn⟩ := h
  refine (tdue_ok p q hp hl).mono fun e w' ⟨k, v, q1, hu, l, F', lv', q2, c2, n1, n2, m⟩ => ?_
  have hle : ((L.take k).map Ent.id).length = k := by have := hu.le; simp only [List.length_map, List.length_take]; omega
  obtain ⟨s, cap, rfl, -⟩ := l.form
  rw [hle] at *
  exact ⟨k, s, cap, q1, hu, F', lv', q2, c.over c2 (fun i hi => .inr (nn i hi)), fun i hi => (n2 i hi).elim (nn i) (Nat.le_trans c.size), l, fun g hg => ⟨(m g hg).1, Nat.le_trans c.size (m g hg).2⟩⟩
/-- With one more, the list told. -/
theorem tl_add_is (h : Tl w0 w bt bp P a) (ht : Tidy P a) (hp : P[p]? = some L) (hm : many P < 1024) (ha : 0 ≤ a) (ha2 : a < 2 ^ 63) (t n : Int) (hr : Rises M) (hmm : ∀ x, x ∈ M ↔ x = ⟨t, a, n⟩ ∨ x ∈ L) (hP : P.set p M = P') (hb : b = a + 1) :
    Calls Tryz.prog 49 #[.pointer (some ⟨bt, 0, none⟩), .int .i64 (p : Int), .int .u64 t, .int .i64 n] w fun e w' => e = .returned (.int .i64 0) ∧ Tl w0 w' bt bp P' b := by
  refine (tl_add h ht hp hm ha ha2 t n).mono fun e w' ⟨q1, L', hA, hT⟩ => ⟨q1, ?_⟩
  rw [hA.eq hr hmm, hP, ← hb] at hT
  exact hT
theorem tidy_one (hr : Rises L) (hl : ∀ x ∈ L, x.order < a) : Tidy [L] a := by
  refine ⟨fun q M hq => ?_, fun q M hq => ?_⟩
  all_goals
    rcases q with _ | q
    · cases hq; assumption
    · cases hq
theorem ent_lt1 : Ent.lt ⟨3, 1, 2⟩ ⟨5, 0, 1⟩ := .inl (by decide)
theorem ent_lt2 : Ent.lt ⟨3, 1, 2⟩ ⟨5, 2, 3⟩ := .inl (by decide)
theorem ent_lt3 : Ent.lt ⟨5, 0, 1⟩ ⟨5, 2, 3⟩ := .inr (by decide)
theorem r1 : Rises [⟨5, 0, 1⟩] := List.pairwise_singleton _ _
theorem r2 : Rises [⟨3, 1, 2⟩, ⟨5, 0, 1⟩] := List.pairwise_cons.2 ⟨fun x hx => by rw [List.mem_singleton.1 hx]; exact ent_lt1, r1⟩
theorem r3 : Rises [⟨3, 1, 2⟩, ⟨5, 0, 1⟩, ⟨5, 2, 3⟩] := List.pairwise_cons.2 ⟨fun x hx => by
  rcases List.mem_cons.1 hx with rfl | hx
  · exact ent_lt1
  · rw [List.mem_singleton.1 hx]; exact ent_lt2, List.pairwise_cons.2 ⟨fun x hx => by rw [List.mem_singleton.1 hx]; exact ent_lt3, List.pairwise_singleton _ _⟩⟩
end Go.Proofs.YtaloafihbdamiaaGreat
