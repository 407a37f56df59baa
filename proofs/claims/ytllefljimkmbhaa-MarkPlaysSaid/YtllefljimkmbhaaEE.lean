/- The document's Start, shade. -/
import Derived.Test.YtllefljimkmbhaaED
namespace Go.Proofs.Ytllefljimkmbhaa
open Go.ChangeShapes Go.WideShapes Go.ChangeAt Go.RowKit
variable {w w' w1 W W' : World} {F S : Nat → Prop} {bd : Nat} {vo vr vq : Value} {f T : Nat → Nat} {g g' : Gr} {sw : Int} {K : Nat → Prop}

theorem Dm.a (h : Dm w F bd vo vr vq f T g sw) : DmA bd g w F := ⟨_, _, _, _, _, _, h⟩
theorem Dm.goes0 (h : Dm W F bd vo vr vq f T g sw) : Goes (DmA bd g) W W F := ⟨F, h.a, Cha.refl _ _, fun _ x => .inl x⟩
set_option maxHeartbeats 4000000 in
theorem dstart_any (h : Dm W F bd vo vr vq f T g sw) (hp : g.ph ≤ 2) : Calls Try.prog 21 #[.pointer (some ⟨bd, 0, none⟩)] W fun e W' => e = .returned (.int .i64 g.startR.1) ∧ Goes (DmA bd g.startR.2) W W' F := by
  obtain ⟨x0, x1, x2, x3, x4, x5, x6, xf⟩ := h.facts
  unfold Gr.startR
  by_cases k : g.ph = 0
  · rw [if_pos k]
    rw [k] at x3
    have HG : Hid (Goes (DmA bd { g with ph := 1, thr := 0, greys := [], swp := 0 }) W (((W.setCell ⟨bd, 3, none⟩ (.int .i64 1)).setCell ⟨bd, 4, none⟩ (.int .i64 0)).setCell ⟨bd, 2, none⟩ (.slice none 0 0)) F) := Lib.hid (by
      have c : Cha (fun i => i = bd) W (((W.setCell ⟨bd, 3, none⟩ (.int .i64 1)).setCell ⟨bd, 4, none⟩ (.int .i64 0)).setCell ⟨bd, 2, none⟩ (.slice none 0 0)) := ((Cha.at W bd 3 _).trans (Cha.at _ bd 4 _)).trans (Cha.at _ bd 2 _)
      have d := h.header (g' := { g with ph := 1, thr := 0, greys := [], swp := 0 }) (vq' := .slice none 0 0) (sw' := sw) c (by
        rw [heap_setCell_same _ bd 2 _ 52 _ (heap_setCell_same _ bd 4 _ 52 _ (heap_setCell_same W bd 3 _ 52 _ h.head))]; rfl) rfl rfl rfl rfl (.inr ⟨rfl, rfl⟩) (fun e => by { have e : (1 : Nat) = 2 := e; omega })
      exact ⟨F, d.a, c.mono fun i _ e => e ▸ h.tg.2, fun i x => .inl x⟩)
    have f3 := xf 3
    have f4 := xf 4
    have f2 := xf 2
    clear h xf
    go_enter Try.func21, Try.ntmps21
    go_wp2
    go_returns
    exact ⟨rfl, HG.out⟩
  · rw [if_neg k]
    have HG := Lib.hid h.goes0
    have k2 : ((g.ph : Int) == 0) = false := by simpa using k
    have k3 : ((g.ph : Int) != 0) = true := by simpa using k
    clear h xf
    go_enter Try.func21, Try.ntmps21
    go_wp2
    go_returns
    exact ⟨rfl, HG.out⟩
set_option maxHeartbeats 4000000 in
theorem dshade_any (h : Dm W F bd vo vr vq f T g sw) (id : Nat) (hid : id ≤ g.n) (n4 : g.n ≤ 4096) (hq : g.greys.length ≤ 4200) :
    Calls Try.prog 38 #[.pointer (some ⟨bd, 0, none⟩), .int .i64 (id : Int)] W fun e W' => e = .returned (.tuple #[]) ∧ Goes (DmA bd (g.shade id)) W W' F := by
  obtain ⟨x0, x1, x2, x3, x4, x5, x6, xf⟩ := h.facts
  obtain ⟨b, o, cap, ev, h1, h2, hc⟩ := h.objs
  have HG0 := Lib.hid h.goes0
  unfold Gr.shade
  by_cases hz : id = 0
  · subst hz
    rw [if_neg (by omega)]
    clear h xf hc
    go_enter Try.func38, Try.ntmps38
    go_wp2
    go_returns
    exact ⟨rfl, HG0.out⟩
  · have hz2 : (0 : Int) < (id : Int) := by omega
    by_cases hp : g.ph = 1
    · obtain ⟨_, y⟩ := hc id (by omega) hid
      rw [hp] at x3
      unfold maxLen at h2
      have i1 : (id : Int) < (g.n : Int) + 1 := by omega
      have i2 : id < g.n + 1 := by omega
      by_cases hk : g.col id = 1
      · rw [if_pos ⟨hp, hz, hk⟩]
        obtain ⟨h5, d5⟩ := h.paint ev (id := id) (c := 2) (by omega) hid (by omega) (by decide)
        obtain ⟨b2, o2, cap2, ev2, _, _, _, bf⟩ := h.lo.elem obE_ok (i := 0) (by rw [obs_len]; omega)
        rw [ev] at ev2
        injection ev2 with q1 q2 q3
        injection q1 with q1
        injection q1 with q1 q1' _
        subst q1 q1'
        have bne := (h.bv (b := b) (by rw [ev]; rfl)).1
        obtain ⟨aq, capq, eq, hq1, hq2, _⟩ := h.lq.ints
        rw [hk] at y
        have HS : Hid (∀ w3 b' o' cap', App inE ((W.setCell ⟨b, o + id * 2 + 1, none⟩ (.int .i64 2)).alloc (.cells #[.int .i64 (id : Int)] 3)) w3 vq g.greys [id] b' o' cap' →
            w3.cell? ⟨bd, 2, none⟩ = some vq ∧ w3.frozen? ⟨bd, 2, none⟩ = false ∧ Goes (DmA bd { g with col := up g.col id 2, greys := g.greys ++ [id] }) W (w3.setCell ⟨bd, 2, none⟩ (.slice (some ⟨b', o', none⟩) (g.greys.length + 1) cap')) F) := Lib.hid fun w3 b' o' cap' hA => by
          have h6 := h5.same ((Cha.refl (fun _ => False) _).alloc (.cells #[.int .i64 (id : Int)] 3))
          obtain ⟨F', T', r1, r2, r3⟩ := h6.onGreys hA.v
          have e3 : w3.heap[bd]? = _ := (hA.cha.old bd (h6.old _ h6.tg.2) (fun e => (h6.bq e).1 rfl)).trans h6.head
          refine ⟨cell_of_row w3 bd 2 _ 52 (0, 0) e3, frozen_of_row w3 bd 2 _ 52 e3, F', r1.a, d5.trans ((Cha.refl F _).alloc _ |>.trans r2), fun i hi => (r3 i hi).imp (fun x => x) fun e => ?_⟩
          have : W.heap.size ≤ ((W.setCell ⟨b, o + id * 2 + 1, none⟩ (.int .i64 2)).alloc (.cells #[.int .i64 (id : Int)] 3)).heap.size := (d5.trans ((Cha.refl F _).alloc _)).size
          exact Nat.le_trans this e
        have HL : Hid (Lies inE ((W.setCell ⟨b, o + id * 2 + 1, none⟩ (.int .i64 2)).alloc (.cells #[.int .i64 (id : Int)] 3)) vq g.greys) := Lib.hid (h5.lq.same ((Cha.refl (fun _ => False) _).alloc _))
        have HN : Hid (∀ x u, (inE.cs [id])[x]? = some u → ((W.setCell ⟨b, o + id * 2 + 1, none⟩ (.int .i64 2)).alloc (.cells #[.int .i64 (id : Int)] 3)).cell? ((⟨W.heap.size, 0, none⟩ : Addr).add x) = some u) := Lib.hid (by
          have r := just_new inE (W.setCell ⟨b, o + id * 2 + 1, none⟩ (.int .i64 2)) id 3
          rw [show (W.setCell ⟨b, o + id * 2 + 1, none⟩ (.int .i64 2)).heap.size = W.heap.size by simp [World.setCell]] at r
          exact r)
        have B1 : Hid (g.greys.length + [id].length ≤ maxLen) := Lib.hid (by unfold maxLen; simp only [List.length_singleton]; omega)
        have B2 : Hid ((g.greys.length + [id].length) * inE.b ≤ 140737488355328) := Lib.hid (by show _ * 8 ≤ _; simp only [List.length_singleton]; omega)
        have bf1 := bf (o + id * 2 + 1)
        have bne2 : bd ≠ b := fun e => bne e.symm
        have lbd := h.old _ h.tg.2
        subst eq ev
        clear h h5 d5 hc hp hk xf hq1 hq2 bf HG0 q2 q3
        go_enter Try.func38, Try.ntmps38
        go_wp2_with (at_builtin; refine wpList_app inE_ok rfl (.tmp 35) (.tmp 37) rfl rfl HL.out ⟨W.heap.size, 0, none⟩ 1 1 [id] rfl rfl HN.out Nat.zero_lt_one B1.out B2.out ?_; intro g3 o3 cap3 w3 hA3; obtain ⟨k5, k6, kk⟩ := HS.out w3 _ _ _ hA3; have A3 := Lib.hid kk; clear kk hA3)
        go_returns
        exact ⟨rfl, A3.out⟩
      · rw [if_neg (fun e => hk e.2.2)]
        have hk2 : ((g.col id : Int) == 1) = false := by simp; omega
        subst ev
        clear h xf hc hk
        generalize g.col id = cx at *
        go_enter Try.func38, Try.ntmps38
        go_wp2
        go_returns
        exact ⟨rfl, HG0.out⟩
    · rw [if_neg (fun e => hp e.1)]
      have hp2 : ((g.ph : Int) == 1) = false := by simp; omega
      clear h xf hc
      go_enter Try.func38, Try.ntmps38
      go_wp2
      go_returns
      exact ⟨rfl, HG0.out⟩
end Go.Proofs.Ytllefljimkmbhaa
