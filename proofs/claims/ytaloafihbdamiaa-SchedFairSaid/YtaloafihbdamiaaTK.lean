/- Timers: slices.Delete of a list's beginning, walked. -/
import Derived.Test.YtaloafihbdamiaaTJ
import Derived.Handy
namespace Go.Proofs.Ytaloafihbdamiaa
open Go.ChangeShapes Go.WideShapes Go.ChangeAt Go.RowKit
variable {w w' : World} {v : Value} {E N : List Ent} {y : Ent}

section
variable {ops : Array Oper} {rest : List Oper} {o : Oper} {a : Act} {K : Act → World → Prop} {Q : Exit → Act → World → Prop} {X : Prop}
theorem wpList_clear_run (w : World) (hgd : o.guard = none) (s : Operand) (ho : o.op = .call { callee := .builtin .clear, args := #[s], argTypes := #[95] }) (hs : a.eval s = v) {v' : Value} {w' : World}
    (hr : (Builtin.clear_ #[95] o.type #[v]).run Try.prog w = .ok v' w') (h : wpList Try.prog ops Q rest (a.put o.dst v') w') : wpList Try.prog ops Q (o :: rest) a w := by
  refine wpList_plain hgd fun _ hK => ?_
  unfold Oper.wp execOp
  simp only [ho, resolve, invoke, builtin, Sem.run_bind, Sem.run_pure, Result.andThen_ok, List.map_toArray, List.map_cons, List.map_nil, hs, hr]
  exact hK _ _ h
theorem step_append_runI (w : World) (hg : o.guard = none) (d x : Operand) (hop : o.op = Op.call { callee := Callee.builtin Builtin.append, args := #[d, x], argTypes := #[95, 95] })
    (u z : Value) (hd : a.eval d = u) (hx : a.eval x = z) {v' : Value} {w' : World} (hr : (Builtin.append_ #[95, 95] o.type #[u, z]).run Try.prog w = .ok v' w') (hK : K (a.put o.dst v') w') :
    if Region.wanted o (yielded ops a.tmps) = true then Oper.wp Try.prog o a w K Q else X := by
  have hw : Region.wanted o (yielded ops a.tmps) = true := by simp [Region.wanted, hg]
  rw [if_pos hw]
  unfold Oper.wp execOp
  simp only [hop, resolve, invoke, builtin, Sem.run_bind, Sem.run_pure, Result.andThen_ok, List.map_toArray, List.map_cons, List.map_nil, hd, hx, hr]
  exact hK
end
theorem eapp_del (w : World) (g n cap j : Nat) (cur : Array Value) (hn : n = E.length) (hj : j ≤ n) (hc : n ≤ cap) (hmax : cap ≤ maxLen) (hg : w.heap[g]? = some (.cells cur 93 (0, 0))) (hs : cur.size = cap * 3) :
    EApp w ((w.drew.setCells g 0 ((ecs E).drop (j * 3))).setCells g ((n - j) * 3) (Builtin.zeroCells zero90.cells j).toList) (.slice (some ⟨g, 0, none⟩) n cap) (E.drop j) (.slice (some ⟨g, 0, none⟩) (n - j) cap) := by
  have hE := ecs_len E
  have hd : ((ecs E).drop (j * 3)).length = (n - j) * 3 := by rw [List.length_drop, hE, ← hn]; omega
  have hz := zero_len j
  obtain ⟨c1, a1, a2, a3⟩ := heap_setCells_same g 93 ((ecs E).drop (j * 3)) 0 w.drew cur hg (by rw [hd, hs]; omega)
  obtain ⟨c2, b1, b2, b3⟩ := heap_setCells_same g 93 (Builtin.zeroCells zero90.cells j).toList ((n - j) * 3) _ c1 a1 (by rw [hz, a2, hs]; omega)
  have hlen : (E.drop j).length = n - j := by rw [List.length_drop, ← hn]
  refine ⟨⟨ecs_len _, .inr ⟨g, cap, c2, by rw [hlen], Nat.zero_le _, b1, by rw [hlen]; omega, hmax, by rw [b2, a2, hs], ?_⟩⟩, ((((Cha.refl (fun i => (Value.slice (some ⟨g, 0, none⟩) n cap).ownBlock = some i) w).drew).setCells (g := g) (fun _ => rfl) _ _).setCells (g := g) (fun _ => rfl) _ _), fun g' hg' => .inl hg'⟩
  rw [hlen, ecs_drop]
  apply List.ext_getElem?
  intro k
  rw [List.getElem?_take]
  by_cases hk : k < (n - j) * 3
  · rw [if_pos hk, Array.getElem?_toList, b3, if_neg (by omega), a3, hd, if_pos (by omega), Nat.sub_zero]
  · rw [if_neg hk, List.getElem?_eq_none (by rw [hd]; omega)]
def Cut (w : World) (v : Value) (E : List Ent) (j : Nat) (e : Ending) (w' : World) : Prop := ∃ v', e = .returned v' ∧ EApp w w' v (E.drop j) v'
theorem delete_zero (h : Ents w v E) : Calls Try.prog 62 #[v, .int .i64 0, .int .i64 0] w (Cut w v E 0) := by
  obtain ⟨s, cap, rfl⟩ := h.form
  have hcap : E.length ≤ cap := by
    rcases h.2 with ⟨e, h0⟩ | ⟨g, cap', cur, e, _, hg, h1, h2, h3, h4⟩
    · omega
    · injection e with e1 e2 e3
      omega
  have H := Lib.hid h
  obtain ⟨n, hn⟩ : ∃ n, n = E.length := ⟨_, rfl⟩
  rw [← hn] at H hcap ⊢
  clear h hn
  go_enter Try.func62, Try.ntmps62
  go_wp2
  all_goals
    go_ret
    exact ⟨_, rfl, H.out, Cha.refl _ _, fun g hg => .inl hg⟩
set_option maxRecDepth 100000 in
set_option maxHeartbeats 4000000 in
theorem delete_some (g cap j : Nat) (h : Ents w (.slice (some ⟨g, 0, none⟩) E.length cap) E) (hj : j ≤ E.length) (h0 : 0 < j) (hcj : ¬ cap = j) :
    Calls Try.prog 62 #[.slice (some ⟨g, 0, none⟩) E.length cap, .int .i64 0, .int .i64 (j : Int)] w (Cut w (.slice (some ⟨g, 0, none⟩) E.length cap) E j) := by
  rcases h.2 with ⟨e, _⟩ | ⟨g', cap', cur, e, _, hg, h1, h2, h3, h4⟩
  · cases e
  injection e with e1 e2 e3
  injection e1 with e1
  injection e1 with e1 _ _
  subst e1 e3
  obtain ⟨n, hn⟩ : ∃ n, n = E.length := ⟨_, rfl⟩
  have hm2 := h2
  unfold maxLen at hm2
  rw [← hn] at h4 hj h1 ⊢
  have FIN := Lib.hid (eapp_del (E := E) w g n cap j cur hn hj h1 h2 hg h3)
  have hE := ecs_len E
  have hd : ((ecs E).drop (j * 3)).length = (n - j) * 3 := by rw [List.length_drop, hE, ← hn]; omega
  have hap := fun so c2 (k : j < n → so = j * 3) ty => run_shift (E := E) w.drew ty g n cap j c2 so cur hn hj h1 hg h3 h4 k
  obtain ⟨c1, a1, a2, a3⟩ := heap_setCells_same g 93 ((ecs E).drop (j * 3)) 0 w.drew cur hg (by rw [hd, h3]; omega)
  obtain ⟨W1, hW1⟩ : ∃ W1, W1 = w.drew.setCells g 0 ((ecs E).drop (j * 3)) := ⟨_, rfl⟩
  rw [← hW1] at a1 FIN hap
  have hclr : ∀ ty c, (Builtin.clear_ #[95] ty #[.slice (some ⟨g, (n - j) * 3, none⟩) j c]).run Try.prog W1 = .ok (.tuple #[]) (W1.setCells g ((n - j) * 3) (Builtin.zeroCells zero90.cells j).toList) := fun ty c =>
    run_clear3 W1 ty g ((n - j) * 3) j c h0 (fun k hk => by rw [cell_of_row W1 g _ c1 93 (0, 0) a1, Array.getElem?_eq_getElem (by rw [a2, h3]; omega)]; rfl) (fun k _ => frozen_of_row W1 g _ c1 93 a1)
  obtain ⟨Z, hZ⟩ : ∃ Z, Z = (Builtin.zeroCells zero90.cells j).toList := ⟨_, rfl⟩
  rw [← hZ] at FIN hclr
  clear hZ
  have hjj : n - (n - j) = j := by omega
  have k1 : ¬ ((0 : Int) = (j : Int)) := by omega
  have k1b : ¬ (0 = j) := by omega
  have k1c : ¬ (j = 0) := by omega
  have k2 : (j : Int) ≤ (n : Int) := by omega
  have k3 : (n : Int) ≤ (cap : Int) := by omega
  have k4 : (j : Int) ≤ (cap : Int) := by omega
  have k5 : ¬ (cap = n - j) := by omega
  have k6 : ((n - j : Nat) : Int) ≤ (n : Int) := by omega
  have k7 : n - j ≤ n := by omega
  clear h h4 hd hE hg a1 a2 a3 hW1 hn e2
  have hap1 := fun ty => hap (j * 3) (cap - j) (fun _ => rfl) ty
  clear hap
  go_enter Try.func62, Try.ntmps62
  go_wp2
  go_region_law (refine step_append_runI _ rfl _ _ rfl (.slice (some ⟨g, 0, none⟩) 0 cap) (.slice (some ⟨g, j * 3, none⟩) (n - j) (cap - j)) (by simp [Act.eval, Act.put]) (by simp [Act.eval, Act.put]) (hap1 _) ?_)
  go_wp2_with (at_builtin; refine wpList_clear_run _ rfl _ rfl rfl (hclr _ _) ?_)
  go_ret
  exact ⟨_, rfl, FIN.out⟩
end Go.Proofs.Ytaloafihbdamiaa
