/- The document's Drop. -/
import Derived.Test.YtllefljimkmbhaaEG
namespace Go.Proofs.Ytllefljimkmbhaa
open Go.ChangeShapes Go.WideShapes Go.ChangeAt Go.RowKit
variable {w w' w1 W W' : World} {F S : Nat → Prop} {bd : Nat} {vo vr vq : Value} {f T : Nat → Nat} {g g' : Gr} {sw : Int} {K : Nat → Prop}

theorem ddrop_kit (h : Goes (DmA bd g) W w1 F) (nn : Nat) (hn : nn < g.roots.length) :
    ∃ (br or cr : Nat), w1.cell? ⟨bd, 1, none⟩ = some (.slice (some ⟨br, or, none⟩) g.roots.length cr) ∧ bd < w1.heap.size ∧ cr ≤ maxLen ∧ g.roots.length ≤ cr ∧ Lies inE w1 (.slice (some ⟨br, or, none⟩) nn cr) (g.roots.take nn) ∧
      ∀ va wa, AppV inE w1 wa (.slice none 0 0) ([] ++ g.roots.take nn) va → ∃ a1 n1 c1, va = .slice a1 n1 c1 ∧ wa.cell? ⟨bd, 1, none⟩ = some (.slice (some ⟨br, or, none⟩) g.roots.length cr) ∧ Lies inE wa (.slice a1 n1 c1) ([] ++ g.roots.take nn) ∧
        Lies inE wa (.slice (some ⟨br, if cr = nn + 1 then or else or + (nn + 1), none⟩) (g.roots.length - (nn + 1)) (cr - (nn + 1))) (g.roots.drop (nn + 1)) ∧
        ∀ vb wb, AppV inE wa wb va (([] ++ g.roots.take nn) ++ g.roots.drop (nn + 1)) vb → ∃ a2 n2 c2, vb = .slice a2 n2 c2 ∧ (∃ v, wb.cell? ⟨bd, 1, none⟩ = some (.slice v g.roots.length cr)) ∧ wb.frozen? ⟨bd, 1, none⟩ = false ∧ wb.cell? ⟨bd, 4, none⟩ = some (.int .i64 g.thr) ∧ wb.frozen? ⟨bd, 4, none⟩ = false ∧
          (¬ nn < g.thr → Goes (DmA bd (g.erase nn)) W (wb.setCell ⟨bd, 1, none⟩ (.slice a2 n2 c2)) F) ∧ (nn < g.thr → Goes (DmA bd (g.erase nn)) W ((wb.setCell ⟨bd, 1, none⟩ (.slice a2 n2 c2)).setCell ⟨bd, 4, none⟩ (.int .i64 ((g.thr : Int) - 1))) F) := by
  obtain ⟨F1, ⟨vo, vr, vq, f, T, sw, d⟩, c, n⟩ := h
  obtain ⟨ar, cr, er, hr1, hr2, hr3⟩ := d.lr.ints
  obtain ⟨br, or, rfl, hr4⟩ := hr3 (by omega)
  subst er
  obtain ⟨_, x1, _⟩ := d.facts
  refine ⟨br, or, cr, x1, d.old _ d.tg.2, hr2, hr1, d.lr.take inE_ok (by omega), fun va wa hA => ?_⟩
  obtain ⟨a1, c1, e1, _⟩ := hA.lies.form
  have cA : Cha (fun _ => False) w1 wa := hA.cha.mono fun i _ e => by cases e
  have qa := d.same cA
  have dr := qa.lr.drop inE_ok (i := nn + 1) (by omega)
  have ek : (nn + 1) * inE.k = nn + 1 := Nat.mul_one _
  rw [ek] at dr
  refine ⟨a1, _, c1, e1, qa.facts.2.1, e1 ▸ hA.lies, dr, fun vb wb hB => ?_⟩
  obtain ⟨a2, c2, e2, _⟩ := hB.lies.form
  have va9 : ∀ b, va.ownBlock = some b → w1.heap.size ≤ b := fun b e => by
    rcases hA.at' b e with k | k
    · cases k
    · exact k
  have cB : Cha (fun _ => False) w1 wb := (cA.wide.over (T := fun _ => False) hB.cha fun i e => .inr (va9 i e)).mono fun _ _ x => x
  have qb := d.same cB
  obtain ⟨_, y1, _, _, y4, _, _, yf⟩ := qb.facts
  have el : (([] : List Nat) ++ g.roots.take nn) ++ g.roots.drop (nn + 1) = g.roots.eraseIdx nn := by rw [List.nil_append]; exact (List.eraseIdx_eq_take_drop_succ g.roots nn).symm
  have hl := hB.lies
  rw [el] at hl
  have vb9 : ∀ b, vb.ownBlock = some b → (Value.slice (some ⟨br, or, none⟩) g.roots.length cr).ownBlock = some b ∨ w1.heap.size ≤ b := fun b e => by
    rcases hB.at' b e with k | k
    · exact .inr (va9 b k)
    · exact .inr (Nat.le_trans cA.size k)
  obtain ⟨F', T', r1, r2, r3⟩ := d.onRoots hl cB.wide vb9
  subst e2
  have up9 : ∀ i, F' i → F i ∨ W.heap.size ≤ i := fun i hi => by
    rcases r3 i hi with e | e
    · exact n i e
    · exact .inr (Nat.le_trans c.size e)
  refine ⟨a2, _, c2, rfl, ⟨_, y1⟩, yf 1, y4, yf 4, fun k => ?_, fun k => ?_⟩
  · have e : g.erase nn = { g with roots := g.roots.eraseIdx nn } := by unfold Gr.erase; rw [if_neg k]
    rw [e]
    exact ⟨F', r1.a, c.over r2 n, up9⟩
  · have e : g.erase nn = { g with roots := g.roots.eraseIdx nn, thr := g.thr - 1 } := by unfold Gr.erase; rw [if_pos k]
    rw [e]
    have c5 : Cha (fun i => i = bd) (wb.setCell ⟨bd, 1, none⟩ (.slice a2 ((([] : List Nat) ++ g.roots.take nn) ++ g.roots.drop (nn + 1)).length c2)) ((wb.setCell ⟨bd, 1, none⟩ (.slice a2 ((([] : List Nat) ++ g.roots.take nn) ++ g.roots.drop (nn + 1)).length c2)).setCell ⟨bd, 4, none⟩ (.int .i64 ((g.thr : Int) - 1))) := Cha.at _ bd 4 _
    have r4 := r1.header (g' := { g with roots := g.roots.eraseIdx nn, thr := g.thr - 1 }) (vq' := vq) (sw' := sw) c5 (by
      rw [heap_setCell_same _ bd 4 _ 52 _ r1.head]
      have : ((g.thr - 1 : Nat) : Int) = (g.thr : Int) - 1 := by omega
      show _ = some (Obj.cells #[vo, _, vq, .int .i64 g.ph, .int .i64 ((g.thr - 1 : Nat) : Int), .int .i64 sw, .int .i64 g.cyc] 52 (0, 0))
      rw [this]
      rfl) rfl rfl rfl rfl (.inl ⟨rfl, rfl⟩) d.sws
    exact ⟨F', r4.a, (c.over r2 n).over (c5.mono (T := F') fun i _ e => e ▸ r1.tg.2) up9, up9⟩
set_option maxRecDepth 100000 in
set_option maxHeartbeats 4000000 in
theorem ddrop_any (h : Dm W F bd vo vr vq f T g sw) (hi : Inv g K) (a : Int) : Calls Try.prog 15 #[.pointer (some ⟨bd, 0, none⟩), .int .i64 a] W fun e W' => e = .returned (.int .i64 (g.dropR a).1) ∧ Goes (DmA bd (g.dropR a).2) W W' F := by
  have HG0 := Lib.hid h.goes0
  obtain ⟨_, x1, _⟩ := h.facts
  obtain ⟨ar, cr, er, hr1, hr2, hr3⟩ := h.lr.ints
  subst er
  unfold Gr.dropR
  by_cases hb : a < 0 ∨ (g.roots.length : Int) ≤ a
  · rw [if_pos hb]
    clear h hi hr3
    by_cases h0 : a < 0
    · go_enter Try.func15, Try.ntmps15
      go_wp2
      go_returns
      exact ⟨rfl, HG0.out⟩
    · have h2 : (g.roots.length : Int) ≤ a := by omega
      clear hb
      go_enter Try.func15, Try.ntmps15
      go_wp2
      go_returns
      exact ⟨rfl, HG0.out⟩
  · rw [if_neg hb]
    obtain ⟨nn, rfl⟩ : ∃ nn : Nat, a = nn := ⟨a.toNat, by omega⟩
    rw [Int.toNat_natCast]
    have hn : nn < g.roots.length := by omega
    obtain ⟨br, or, rfl, hc⟩ := hr3 (by omega)
    have y0 := (hc nn hn).1
    have r8 : g.roots.length ≤ 8192 := by have := hi.r8; have := hi.n4; omega
    have e : g.roots.getD nn 0 = g.roots[nn] := by simp [hn]
    have ht : g.roots.getD nn 0 ≤ g.n := by rw [e]; exact (hi.kroot _ (List.getElem_mem hn)).2.2
    have hq := hi.greys_le
    have thr2 : g.thr ≤ 8192 := by have := hi.thr; omega
    have C38 := Lib.hid (dshade_any h (g.roots.getD nn 0) ht hi.n4 (by omega))
    have er : (g.shade (g.roots.getD nn 0)).roots = g.roots := shade_roots _
    have et : (g.shade (g.roots.getD nn 0)).thr = g.thr := by unfold Gr.shade; split <;> rfl
    have HK : Hid (∀ w1, Goes (DmA bd (g.shade (g.roots.getD nn 0))) W w1 F → _) := Lib.hid fun w1 q => ddrop_kit q nn (by rw [er]; exact hn)
    rw [er, et] at HK
    unfold Gr.drop
    generalize g.roots.getD nn 0 = t at *
    have B1 : Hid (([] : List Nat).length + (g.roots.take nn).length ≤ maxLen) := Lib.hid (by unfold maxLen; rw [List.length_take]; simp only [List.length_nil]; omega)
    have B2 : Hid ((([] : List Nat).length + (g.roots.take nn).length) * inE.b ≤ 140737488355328) := Lib.hid (by show _ * 8 ≤ _; rw [List.length_take]; simp only [List.length_nil]; omega)
    have B3 : Hid (([] ++ g.roots.take nn).length + (g.roots.drop (nn + 1)).length ≤ maxLen) := Lib.hid (by unfold maxLen; rw [List.nil_append, List.length_take, List.length_drop]; omega)
    have B4 : Hid ((([] ++ g.roots.take nn).length + (g.roots.drop (nn + 1)).length) * inE.b ≤ 140737488355328) := Lib.hid (by show _ * 8 ≤ _; rw [List.nil_append, List.length_take, List.length_drop]; omega)
    have k1 : (nn : Int) < (g.roots.length : Int) := by omega
    have k2 : ¬ (nn : Int) < 0 := by omega
    have k3 : ¬ (g.roots.length : Int) ≤ (nn : Int) := by omega
    have e1 : IntKind.i64.wrap ((nn : Int) + 1) = (nn : Int) + 1 := IntWalk.i64_in _ (by omega)
    have e2 : IntKind.i64.wrap ((g.thr : Int) - 1) = (g.thr : Int) - 1 := IntWalk.i64_in _ (by omega)
    have k4 : nn + 1 ≤ g.roots.length := hn
    clear h hi hc hr3 hb er et e ht hq
    generalize (g.shade t).erase nn = gg at *
    generalize g.thr = th at *
    have hth : (nn : Int) < (th : Int) ↔ nn < th := by omega
    by_cases hk : nn < th
    · have hk2 : (nn : Int) < (th : Int) := by omega
      go_enter Try.func15, Try.ntmps15
      go_wp2_with (first
        | (go_at_call 38; ((with_reducible refine (C38.out).mono ?_); rintro e w5 ⟨rfl, y⟩; obtain ⟨br2, or2, cr2, z1, z2, z3, z4, z5, z6⟩ := HK.out _ y; unfold maxLen at z3; clear y; (by_cases kc : cr2 = nn + 1) <;> (first | (subst kc; simp only [↓reduceIte, Nat.sub_self, show g.roots.length - (nn + 1) = 0 by omega] at z6; have HL := Lib.hid z5; have HB := Lib.hid z6; clear z5 z6) | (simp only [if_neg kc] at z6; have HL := Lib.hid z5; have HB := Lib.hid z6; clear z5 z6))))
        | (at_builtin; refine wpList_any inE_ok rfl (.tmp 26) (.tmp 32) rfl (v := .slice none 0 0) (A := []) rfl rfl (Lies.nil _ _) HL.out B1.out B2.out ?_; intro va wa hA; obtain ⟨a1, n1, c1', rfl, s1, s2, s3, s4⟩ := HB.out _ _ hA; have S2 := Lib.hid s2; have S3 := Lib.hid s3; have HC := Lib.hid s4; clear hA s2 s3 s4)
        | (at_builtin; refine wpList_any inE_ok rfl (.tmp 34) (.tmp 41) rfl rfl rfl S2.out S3.out B3.out B4.out ?_; intro vb wb hA; obtain ⟨a2, n2, c2', rfl, ⟨v2, s4⟩, s5, s6, s7, _, s8⟩ := HC.out _ _ hA; have S8 := Lib.hid (s8 hk); clear hA s8))
      all_goals
        go_returns
        exact ⟨rfl, S8.out⟩
    · have hk2 : ¬ (nn : Int) < (th : Int) := by omega
      go_enter Try.func15, Try.ntmps15
      go_wp2_with (first
        | (go_at_call 38; ((with_reducible refine (C38.out).mono ?_); rintro e w5 ⟨rfl, y⟩; obtain ⟨br2, or2, cr2, z1, z2, z3, z4, z5, z6⟩ := HK.out _ y; unfold maxLen at z3; clear y; (by_cases kc : cr2 = nn + 1) <;> (first | (subst kc; simp only [↓reduceIte, Nat.sub_self, show g.roots.length - (nn + 1) = 0 by omega] at z6; have HL := Lib.hid z5; have HB := Lib.hid z6; clear z5 z6) | (simp only [if_neg kc] at z6; have HL := Lib.hid z5; have HB := Lib.hid z6; clear z5 z6))))
        | (at_builtin; refine wpList_any inE_ok rfl (.tmp 26) (.tmp 32) rfl (v := .slice none 0 0) (A := []) rfl rfl (Lies.nil _ _) HL.out B1.out B2.out ?_; intro va wa hA; obtain ⟨a1, n1, c1', rfl, s1, s2, s3, s4⟩ := HB.out _ _ hA; have S2 := Lib.hid s2; have S3 := Lib.hid s3; have HC := Lib.hid s4; clear hA s2 s3 s4)
        | (at_builtin; refine wpList_any inE_ok rfl (.tmp 34) (.tmp 41) rfl rfl rfl S2.out S3.out B3.out B4.out ?_; intro vb wb hA; obtain ⟨a2, n2, c2', rfl, ⟨v2, s4⟩, s5, s6, s7, s8, _⟩ := HC.out _ _ hA; have S8 := Lib.hid (s8 hk); clear hA s8))
      all_goals
        go_returns
        exact ⟨rfl, S8.out⟩
end Go.Proofs.Ytllefljimkmbhaa
