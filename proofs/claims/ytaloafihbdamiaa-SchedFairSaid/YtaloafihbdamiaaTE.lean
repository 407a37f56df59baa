/- Timers: append to a list of them; slices.Insert at the end. -/
import Derived.Test.YtaloafihbdamiaaTD
import Derived.Handy
namespace Go.Proofs.Ytaloafihbdamiaa
open Go.ChangeShapes Go.WideShapes Go.ChangeAt Go.RowKit
variable {w w' : World} {v : Value} {E N : List Ent}

theorem info90 : (Try.prog.info? 93).map (fun i => (i.zero, i.size, i.bytes)) = some (some (.agg #[.int .u64 0, .int .u64 0, .int .i64 0]), 3, 24) := by kernel_rfl
theorem ecs_app (E N : List Ent) : ecs (E ++ N) = ecs E ++ ecs N := by simp [ecs]
theorem one_ec (N : List Ent) : ∀ u ∈ ecs N, u.oneCell' = true := by
  intro u hu
  obtain ⟨x, _, hx⟩ := List.mem_flatMap.1 hu
  unfold ec at hx
  simp only [List.mem_cons, List.not_mem_nil, or_false] at hx
  rcases hx with rfl | rfl | rfl <;> rfl
/-- What a call that turns a list in v leaves: the new one, in the old one's block or in a new one. -/
structure EApp (w w' : World) (v : Value) (E : List Ent) (v' : Value) : Prop where
  ents : Ents w' v' E
  cha : Cha (fun i => v.ownBlock = some i) w w'
  at' : ∀ g, v'.ownBlock = some g → v.ownBlock = some g ∨ w.heap.size ≤ g
theorem run_eapp (ty : TypeId) (h : Ents w v E) (ad : Addr) (c : Nat) (hN : ∀ j u, (ecs N)[j]? = some u → w.cell? (ad.add j) = some u) (b2 : (E.length + N.length) * 24 ≤ 140737488355328) (hpos : 0 < N.length) :
    ∃ cap g w', (Builtin.append_ #[95, 95] ty #[v, .slice (some ad) N.length c]).run Try.prog w = .ok (.slice (some ⟨g, 0, none⟩) (E.length + N.length) cap) w' ∧ EApp w w' v (E ++ N) (.slice (some ⟨g, 0, none⟩) (E.length + N.length) cap) := by
  obtain ⟨i0, hi, hz0, hz1, hz2⟩ := info_parts info90
  have b1 : E.length + N.length ≤ maxLen := by unfold maxLen; omega
  have fin : ∀ v' w', w'.ownsRow w.heap.size 93 3 v' (E.length + N.length) (ecs E ++ ecs N) → w.grownBy w' none → ∃ cap g, v' = .slice (some ⟨g, 0, none⟩) (E.length + N.length) cap ∧ EApp w w' v (E ++ N) v' := by
    intro v' w' h1 h2
    obtain ⟨g, cap, rfl, hb, hlt⟩ := h1.form (by omega)
    refine ⟨cap, g, rfl, ?_, (Cha.of_grownBy (S := fun _ => False) h2 (fun k e => by cases e)).wide, fun g' hg => .inr ?_⟩
    · unfold Ents
      rw [List.length_append, ecs_app]
      refine ⟨h1.1, ?_⟩
      rcases h1.2 with ⟨e, h0⟩ | ⟨g3, cap3, cur, e, _, r⟩
      · exact .inl ⟨e, h0⟩
      · exact .inr ⟨g3, cap3, cur, e, Nat.zero_le _, r⟩
    · cases hg; exact hb
  rcases h.2 with ⟨rfl, h0⟩ | ⟨g, cap, cur, rfl, _, hg, h1, h2, h3, h4⟩
  · have hE : E = [] := List.eq_nil_of_length_eq_zero h0
    subst hE
    obtain ⟨v', w', hr, r1, r2, _⟩ := run_append_own (P := Try.prog) w w.heap.size 95 ty 93 i0 _ 3 24 Try.underlying95 hi hz0 hz1 hz2 rfl (by decide) (.slice none 0 0) 0 [] (World.ownsRow_nil w _ 93 3) ad N.length c (ecs N) (ecs_len N) hN (one_ec N) (by simpa using b1) (by simpa using b2) (Nat.le_refl _)
    obtain ⟨cap, g, rfl, k⟩ := fin v' w' (by simpa [ecs] using r1) r2
    exact ⟨cap, g, w', by simpa using hr, k⟩
  · by_cases hroom : E.length + N.length ≤ cap
    · have hfit : E.length * 3 + (ecs N).length ≤ cur.size := by rw [ecs_len, h3]; omega
      have hr := run_append_room (P := Try.prog) w 95 ty 93 i0 Try.underlying95 hi g E.length cap cur hg ad N.length c (ecs N) (by rw [hz1]; exact ecs_len N) hN (one_ec N) hroom (by rw [hz1]; exact hfit)
      rw [hz1] at hr
      refine ⟨cap, g, _, hr, ⟨?_, .inr ⟨g, cap, _, by rw [List.length_append], Nat.zero_le _, setRow_heap w g cur _ 93 _ hg, by rw [List.length_append]; exact hroom, h2, ?_, ?_⟩⟩, ⟨rfl, rfl, by simp, fun k _ hk => setRow_other w g k _ (fun e => hk (by simp [Value.ownBlock, e]))⟩, fun g' hg' => .inl hg'⟩
      · rw [ecs_len]
      · simp only [List.size_toArray, List.length_append, List.length_take, List.length_drop, Array.length_toList]
        omega
      · rw [List.length_append, ecs_app, h4]
        have e : (E.length + N.length) * 3 = (ecs E ++ ecs N).length := by rw [List.length_append, ecs_len, ecs_len]; omega
        rw [e]
        exact List.take_left
    · obtain ⟨v', w', hr, r1, r2⟩ := run_append_arg_grows (P := Try.prog) w 95 ty 93 i0 _ 3 24 Try.underlying95 hi hz0 hz1 hz2 rfl (by decide) ⟨g, 0, none⟩ E.length cap (ecs E) (ecs_len E) (World.ownsRow.cells h rfl) ad N.length c (ecs N) (ecs_len N) hN (by omega) b1 b2
      obtain ⟨cap2, g2, rfl, k⟩ := fin v' w' r1 r2
      exact ⟨cap2, g2, w', hr, k⟩
section
variable {ops : Array Oper} {rest : List Oper} {o : Oper} {a : Act} {Q : Exit → Act → World → Prop}
theorem wpList_eapp (hgd : o.guard = none) (s x : Operand) (ho : o.op = .call { callee := .builtin .append, args := #[s, x], argTypes := #[95, 95] })
    (hs : a.eval s = v) (hl : Ents w v E) (ad : Addr) (m c : Nat) (N : List Ent) (hx : a.eval x = .slice (some ad) m c) (hm : N.length = m) (hN : ∀ j u, (ecs N)[j]? = some u → w.cell? (ad.add j) = some u) (hpos : 0 < N.length)
    (b2 : (E.length + N.length) * 24 ≤ 140737488355328)
    (h : ∀ g cap w', EApp w w' v (E ++ N) (.slice (some ⟨g, 0, none⟩) (E.length + N.length) cap) → wpList Try.prog ops Q rest (a.put o.dst (.slice (some ⟨g, 0, none⟩) (E.length + N.length) cap)) w') : wpList Try.prog ops Q (o :: rest) a w := by
  subst hm
  obtain ⟨cap, g, w', hr, hA⟩ := run_eapp o.type hl ad c hN b2 hpos
  refine wpList_plain hgd fun _ hK => ?_
  unfold Oper.wp execOp
  simp only [ho, resolve, invoke, builtin, Sem.run_bind, Sem.run_pure, Result.andThen_ok, List.map_toArray, List.map_cons, List.map_nil, hs, hx, hr]
  exact hK _ _ (h g cap w' hA)
end
set_option maxRecDepth 100000 in
/-- slices.Insert of one, at the end. -/
theorem insert_end (y : Ent) (vb : Nat) (h : Ents w v E) (hl : E.length ≤ 1024) (hvb : ∀ j u, (ecs [y])[j]? = some u → w.cell? ((⟨vb, 0, none⟩ : Addr).add j) = some u) :
    Calls Try.prog 46 #[v, .int .i64 (E.length : Int), .slice (some ⟨vb, 0, none⟩) 1 1] w fun e w' => ∃ g cap, e = .returned (.slice (some ⟨g, 0, none⟩) (E.length + 1) cap) ∧ EApp w w' v (E ++ [y]) (.slice (some ⟨g, 0, none⟩) (E.length + 1) cap) := by
  obtain ⟨s, cap, hv⟩ := h.form
  have hcap : E.length ≤ cap ∧ cap ≤ maxLen := by
    rcases h.2 with ⟨e, h0⟩ | ⟨g, cap', cur, e, _, hg, h1, h2, h3, h4⟩
    · rw [hv] at e
      injection e with e1 e2 e3
      omega
    · rw [hv] at e; cases e; exact ⟨h1, h2⟩
  obtain ⟨hc1, hc2⟩ := hcap
  unfold maxLen at hc2
  have H := Lib.hid h
  have HV := Lib.hid hvb
  subst hv
  clear h hvb
  obtain ⟨n, hn⟩ : ∃ n, n = E.length := ⟨_, rfl⟩
  have HN := Lib.hid hn
  have HB : Hid ((E.length + [y].length) * 24 ≤ 140737488355328) := Lib.hid (by rw [← hn]; simp only [List.length_singleton]; omega)
  rw [← hn] at H hl hc1 ⊢
  clear hn
  by_cases hcn : cap = n
  · subst hcn
    go_enter Try.func46, Try.ntmps46
    go_wp2_with (at_builtin; go_loud (refine wpList_eapp (v := .slice s cap cap) rfl _ _ rfl rfl H.out ⟨vb, 0, none⟩ 1 1 [y] rfl rfl HV.out (Nat.zero_lt_succ _) HB.out (fun g cap2 w2 hA => ?_); rw [← HN.out] at hA ⊢; have HA := Lib.hid hA; clear hA; dsimp only [List.length_singleton] at HA ⊢))
    go_ret
    exact ⟨g, cap2, rfl, HA.out⟩
  · go_enter Try.func46, Try.ntmps46
    go_wp2_with (at_builtin; go_loud (refine wpList_eapp (v := .slice s n cap) rfl _ _ rfl rfl H.out ⟨vb, 0, none⟩ 1 1 [y] rfl rfl HV.out (Nat.zero_lt_succ _) HB.out (fun g cap2 w2 hA => ?_); rw [← HN.out] at hA ⊢; have HA := Lib.hid hA; clear hA; dsimp only [List.length_singleton] at HA ⊢))
    go_ret
    exact ⟨g, cap2, rfl, HA.out⟩
end Go.Proofs.Ytaloafihbdamiaa
