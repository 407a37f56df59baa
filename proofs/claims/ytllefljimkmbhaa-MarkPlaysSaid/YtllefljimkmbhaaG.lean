/- slices.Delete of one number. -/
import Derived.Test.YtllefljimkmbhaaF
namespace Go.Proofs.Ytllefljimkmbhaa
open Go.ChangeShapes Go.WideShapes Go.ChangeAt Go.RowKit
variable {w w' w1 w2 W W' : World} {v : Value} {L : List Nat}

section
variable {ops : Array Oper} {rest : List Oper} {o : Oper} {a : Act} {K : Act → World → Prop} {Q : Exit → Act → World → Prop} {X : Prop}
theorem wpList_clear_run (w : World) (hgd : o.guard = none) (s : Operand) (ho : o.op = .call { callee := .builtin .clear, args := #[s], argTypes := #[50] }) (hs : a.eval s = v) {v' : Value} {w' : World}
    (hr : (Builtin.clear_ #[50] o.type #[v]).run Try.prog w = .ok v' w') (h : wpList Try.prog ops Q rest (a.put o.dst v') w') : wpList Try.prog ops Q (o :: rest) a w := by
  refine wpList_plain hgd fun _ hK => ?_
  unfold Oper.wp execOp
  simp only [ho, resolve, invoke, builtin, Sem.run_bind, Sem.run_pure, Result.andThen_ok, List.map_toArray, List.map_cons, List.map_nil, hs, hr]
  exact hK _ _ h
theorem step_append_runI (w : World) (hg : o.guard = none) (d x : Operand) (hop : o.op = Op.call { callee := Callee.builtin Builtin.append, args := #[d, x], argTypes := #[50, 50] })
    (u z : Value) (hd : a.eval d = u) (hx : a.eval x = z) {v' : Value} {w' : World} (hr : (Builtin.append_ #[50, 50] o.type #[u, z]).run Try.prog w = .ok v' w') (hK : K (a.put o.dst v') w') :
    if Region.wanted o (yielded ops a.tmps) = true then Oper.wp Try.prog o a w K Q else X := by
  have hw : Region.wanted o (yielded ops a.tmps) = true := by simp [Region.wanted, hg]
  rw [if_pos hw]
  unfold Oper.wp execOp
  simp only [hop, resolve, invoke, builtin, Sem.run_bind, Sem.run_pure, Result.andThen_ok, List.map_toArray, List.map_cons, List.map_nil, hd, hx, hr]
  exact hK
end
theorem run_clear1 (w : World) (ty : TypeId) (b o c : Nat) (hc : (w.cell? ⟨b, o, none⟩).isSome = true) (hf : w.frozen? ⟨b, o, none⟩ = false) :
    (Builtin.clear_ #[50] ty #[.slice (some ⟨b, o, none⟩) 1 c]).run Try.prog w = .ok (.tuple #[]) (w.setCell ⟨b, o, none⟩ (.int .i64 0)) := by
  have hz : (Builtin.zeroCells (Value.int .i64 0).cells 1).toList = [.int .i64 0] := by simp [Builtin.zeroCells, Value.cells]
  have hst := run_storeCells_cells (P := Try.prog) b o [.int .i64 0] 0 w (fun j hj => by
    have : j = 0 := by simpa using hj
    subst this; exact hc) (fun j hj => by
    have : j = 0 := by simpa using hj
    subst this; exact hf) (fun u hu => by simp at hu; subst hu; rfl)
  simp only [Nat.add_zero] at hst
  obtain ⟨i, hi, hz0, hz1, hz2⟩ := info_parts inE_ok.inf
  have hv : ∀ w, (zeroValue 3).run Try.prog w = .ok (.int .i64 0) w := fun w => by
    have e : (zeroValue inE.e).run Try.prog w = .ok inE.z w := by simp [zeroValue, typeInfo, hi, hz0]
    exact e
  simp [Builtin.clear_, run_underlying Try.underlying50, hv, hz, hst]
  rfl
/-- append of a list's end onto its beginning. -/
theorem run_shift (ty : TypeId) {g o n cap i c2 so : Nat} {cur : Array Value} (hn : n = L.length) (hi : i < n) (hc : n ≤ cap) (hg : W.heap[g]? = some (.cells cur 3 (0, 0))) (hs : o + cap ≤ cur.size) (hL : ∀ j, j < n → cur[o + j]? = (inE.cs L)[j]?) (hso : i + 1 < n → so = o + (i + 1)) :
    (Builtin.append_ #[50, 50] ty #[.slice (some ⟨g, o, none⟩) i cap, .slice (some ⟨g, so, none⟩) (n - (i + 1)) c2]).run Try.prog W = .ok (.slice (some ⟨g, o, none⟩) (n - 1) cap) (W.setCells g (o + i) ((inE.cs L).drop (i + 1))) := by
  obtain ⟨i0, hi0, hz0, hz1, hz2⟩ := info_parts inE_ok.inf
  have hE : (inE.cs L).length = n := by have := inE_ok.cs_len L; rw [this, ← hn]; exact Nat.mul_one _
  have hz1 : i0.size = 1 := hz1
  have hd : ((inE.cs L).drop (i + 1)).length = n - (i + 1) := by rw [List.length_drop, hE]
  by_cases k : i + 1 < n
  · have hcl : ∀ j, W.cell? ⟨g, j, none⟩ = cur[j]? := fun j => cell_of_row W g j cur 3 (0, 0) hg
    have hr := run_append_room_cells (P := Try.prog) W 50 ty 3 i0 Try.underlying50 hi0 g o i cap ⟨g, so, none⟩ (n - (i + 1)) c2 ((inE.cs L).drop (i + 1)) (by rw [hz1, Nat.mul_one]; exact hd) (fun j u hj => by
        have hjl : j < n - (i + 1) := by rw [← hd]; exact (List.getElem?_eq_some_iff.1 hj).1
        rw [Addr.add_lit, hcl, hso k, show o + (i + 1) + j = o + (i + 1 + j) by omega, hL _ (by omega), ← hj, List.getElem?_drop]) (fun u hu => inE_ok.cs_one L u (List.mem_of_mem_drop hu)) (by omega)
      (fun j hj => by rw [hd] at hj; rw [hcl, hz1, Array.getElem?_eq_getElem (by omega)]; rfl) (fun j _ => frozen_of_row W g _ cur 3 hg)
    rw [hz1, Nat.mul_one, show i + (n - (i + 1)) = n - 1 by omega] at hr
    exact hr
  · have e0 : (inE.cs L).drop (i + 1) = [] := List.drop_eq_nil_of_le (by omega)
    have e1 : n - (i + 1) = 0 := by omega
    have e2 : n - 1 = i := by omega
    rw [e0, e1, e2]
    exact run_append_nothing W 50 50 ty 3 i0 Try.underlying50 hi0 (some ⟨g, o, none⟩) i cap (by omega) _ ⟨.inl ⟨3, Try.underlying50⟩, fun _ => rfl, run_firstCells_some W _ 0 _ 0 c2 [] (by simp) (fun j v hj => by cases hj), run_firstCells_some W.drew _ 0 _ 0 c2 [] (by simp) (fun j v hj => by cases hj), by simp, fun u hu => by cases hu⟩
theorem app_del {g o n cap i : Nat} {cur : Array Value} (hn : n = L.length) (hi : i < n) (hc : n ≤ cap) (hmax : cap ≤ maxLen) (hg : W.heap[g]? = some (.cells cur 3 (0, 0))) (hs : o + cap ≤ cur.size) (hL : ∀ j, j < n → cur[o + j]? = (inE.cs L)[j]?) :
    AppV inE W ((W.drew.setCells g (o + i) ((inE.cs L).drop (i + 1))).setCell ⟨g, o + (n - 1), none⟩ (.int .i64 0)) (.slice (some ⟨g, o, none⟩) n cap) (L.eraseIdx i) (.slice (some ⟨g, o, none⟩) (n - 1) cap) := by
  have hE : (inE.cs L).length = n := by have := inE_ok.cs_len L; rw [this, ← hn]; exact Nat.mul_one _
  have hd : ((inE.cs L).drop (i + 1)).length = n - (i + 1) := by rw [List.length_drop, hE]
  obtain ⟨c1, a1, a2, a3⟩ := heap_setCells_same g 3 ((inE.cs L).drop (i + 1)) (o + i) W.drew cur hg (by rw [hd]; omega)
  have b1 := heap_setCell_same _ g (o + (n - 1)) c1 3 (.int .i64 0) a1
  have hle : (L.eraseIdx i).length = n - 1 := by rw [List.length_eraseIdx_of_lt (by omega), hn]
  refine ⟨.inr ⟨g, o, cap, _, by rw [hle], by omega, hmax, b1, by show o + cap * 1 ≤ _; rw [Array.size_setIfInBounds, a2]; omega, fun j hj => ?_⟩, (((Cha.refl (fun i => (Value.slice (some ⟨g, o, none⟩) n cap).ownBlock = some i) W).drew).setCells (g := g) (fun _ => rfl) _ _).setCell (p := ⟨g, o + (n - 1), none⟩) (fun _ => rfl) _, fun g' hg' => .inl hg'⟩
  have hj : j < n - 1 := by rw [hle] at hj; have : (n - 1) * inE.k = n - 1 := Nat.mul_one _; omega
  have ce : ∀ (M : List Nat) (x : Nat), (inE.cs M)[x]? = (M[x]?).map fun (a : Nat) => Value.int .i64 (a : Int) := fun M x => by
    have : inE.cs M = M.map fun (a : Nat) => Value.int .i64 (a : Int) := by
      unfold Enc.cs inE
      induction M with
      | nil => rfl
      | cons a l ih => rw [List.flatMap_cons, ih]; rfl
    rw [this, List.getElem?_map]
  rw [Array.getElem?_setIfInBounds_ne (by omega), a3, hd, ce, List.getElem?_eraseIdx]
  by_cases k : j < i
  · rw [if_neg (by omega), if_pos k, hL j (by omega), ce]
  · rw [if_pos (by omega), if_neg k, List.getElem?_drop, ce, show i + 1 + (o + j - (o + i)) = j + 1 by omega]
set_option maxRecDepth 100000 in
set_option maxHeartbeats 4000000 in
theorem delete_one (h : Lies inE W v L) (i : Nat) (hi : i < L.length) (hmx : L.length ≤ 1000000) :
    Calls Try.prog 37 #[v, .int .i64 (i : Int), .int .i64 ((i : Int) + 1)] W fun e W' => ∃ v', e = .returned v' ∧ AppV inE W W' v (L.eraseIdx i) v' := by
  rcases h with ⟨rfl, _⟩ | ⟨g, o, cap, cur, rfl, h1, h2, h3, h4, h5⟩
  · cases hi
  obtain ⟨n, hn⟩ : ∃ n, n = L.length := ⟨_, rfl⟩
  rw [← hn] at hi h1 hmx ⊢
  have h4 : o + cap ≤ cur.size := by have : cap * inE.k = cap := Nat.mul_one _; omega
  have h5 : ∀ j, j < n → cur[o + j]? = (inE.cs L)[j]? := fun j hj => h5 j (by have : L.length * inE.k = L.length := Nat.mul_one _; omega)
  have FIN := Lib.hid (app_del hn hi h1 h2 h3 h4 h5)
  have hE : (inE.cs L).length = n := by have := inE_ok.cs_len L; rw [this, ← hn]; exact Nat.mul_one _
  have hd : ((inE.cs L).drop (i + 1)).length = n - (i + 1) := by rw [List.length_drop, hE]
  have hap := fun so c2 (k : i + 1 < n → so = o + (i + 1)) ty => run_shift (W := W.drew) (L := L) ty (g := g) (c2 := c2) (so := so) hn hi h1 h3 h4 h5 k
  obtain ⟨c1, a1, a2, a3⟩ := heap_setCells_same g 3 ((inE.cs L).drop (i + 1)) (o + i) W.drew cur h3 (by rw [hd]; omega)
  obtain ⟨W1, hW1⟩ : ∃ W1, W1 = W.drew.setCells g (o + i) ((inE.cs L).drop (i + 1)) := ⟨_, rfl⟩
  rw [← hW1] at a1 FIN hap
  have hclr : ∀ ty c, (Builtin.clear_ #[50] ty #[.slice (some ⟨g, o + (n - 1), none⟩) 1 c]).run Try.prog W1 = .ok (.tuple #[]) (W1.setCell ⟨g, o + (n - 1), none⟩ (.int .i64 0)) := fun ty c =>
    run_clear1 W1 ty g (o + (n - 1)) c (by rw [cell_of_row W1 g _ c1 3 (0, 0) a1, Array.getElem?_eq_getElem (by rw [a2]; omega)]; rfl) (frozen_of_row W1 g _ c1 3 a1)
  have hm2 := h2
  unfold maxLen at hm2
  have k1 : ¬ ((i : Int) = (i : Int) + 1) := by omega
  have k2 : (i : Int) + 1 ≤ (n : Int) := by omega
  have k3 : (n : Int) ≤ (cap : Int) := by omega
  have k4 : (i : Int) + 1 ≤ (cap : Int) := by omega
  have k5 : ¬ (cap = n - 1) := by omega
  have k6 : ((n - 1 : Nat) : Int) ≤ (n : Int) := by omega
  have k7 : n - 1 ≤ n := by omega
  have k8 : n - (n - 1) = 1 := by omega
  have k9 : IntKind.i64.wrap ((i : Int) + 1) = (i : Int) + 1 := IntWalk.i64_in _ (by omega)
  have k10 : i ≤ cap := by omega
  have k12 : 0 ≤ (i : Int) + 1 := by omega
  have k13 : i + 1 ≤ n := by omega
  have k11 : (i : Int) ≤ (i : Int) + 1 := by omega
  clear hd hE h3 a1 a2 a3 hW1 hn h5 h4
  by_cases kc : cap = i + 1
  · have hap1 := fun c2 ty => hap o c2 (fun k => by omega) ty
    clear hap
    go_enter Try.func37, Try.ntmps37
    go_wp2
    go_region_law (refine step_append_runI _ rfl _ _ rfl (.slice (some ⟨g, o, none⟩) i cap) (.slice (some ⟨g, o, none⟩) (n - (i + 1)) (cap - (i + 1))) (by simp [Act.eval, Act.put, kc]) (by simp [Act.eval, Act.put, kc]) (hap1 _ _) ?_)
    go_wp2_with (at_builtin; refine wpList_clear_run _ rfl _ rfl rfl (hclr _ _) ?_)
    go_ret
    refine ⟨.slice (some ⟨g, o, none⟩) (n - 1) cap, ?_, FIN.out⟩
    simp [kc]
  · have hap1 := fun c2 ty => hap (o + (i + 1)) c2 (fun k => rfl) ty
    clear hap
    go_enter Try.func37, Try.ntmps37
    go_wp2
    go_region_law (refine step_append_runI _ rfl _ _ rfl (.slice (some ⟨g, o, none⟩) i cap) (.slice (some ⟨g, o + (i + 1), none⟩) (n - (i + 1)) (cap - (i + 1))) (by simp [Act.eval, Act.put]) (by simp [Act.eval, Act.put]) (hap1 _ _) ?_)
    go_wp2_with (at_builtin; refine wpList_clear_run _ rfl _ rfl rfl (hclr _ _) ?_)
    go_ret
    exact ⟨_, rfl, FIN.out⟩
end Go.Proofs.Ytllefljimkmbhaa
