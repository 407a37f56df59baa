/- Contracts of mark: sweep, Work, Roots. -/
import Derived.Test.YtllefljimkmbhaaN
namespace Go.Proofs.Ytllefljimkmbhaa
open Go.ChangeShapes Go.WideShapes Go.ChangeAt Go.RowKit
variable {w w' w1 w2 w3 W W' : World} {F S : Nat → Prop} {bg : Nat} {vo vr vq : Value} {q f T : Nat → Nat} {g g' : Gr} {lv : Int} {rt rt' : Nat → Int} {K : Nat → Prop}

/-- Up to where a graph has been swept. -/
def swAt (w : World) (bg : Nat) : Nat := match w.cell? ⟨bg, 7, none⟩ with | some (.int _ i) => i.toNat | _ => 0
theorem Pm.sw (h : Pm w F bg vo vr vq q f T g lv rt) : swAt w bg = g.swp := by unfold swAt; rw [h.cell 7]; rfl
/-- On the way of a sweep of g0. -/
structure Swp (g0 g : Gr) (K : Nat → Prop) : Prop where
  inv : Inv g K
  ph : g.ph = 2
  res : g.sweep = g0.sweep
  n : g.n = g0.n
theorem sweep_step {g : Gr} (h : g.swp < g.n) : g.sweep = if g.col (g.swp + 1) = 1 then (((g.swp + 1 : Nat) : Int), g.free) else g.next.sweep := by
  unfold Gr.sweep
  obtain ⟨k, hk⟩ : ∃ k, g.n - g.swp = k + 1 := ⟨g.n - g.swp - 1, by omega⟩
  rw [hk]
  show (if g.col (g.swp + 1) = 1 then _ else Gr.sweepN k g.next) = _
  have e : g.next.n - g.next.swp = k := by show g.n - (g.swp + 1) = k; omega
  rw [e]
theorem sweep_end {g : Gr} (h : g.swp = g.n) : g.sweep = (0, g.ends) := by unfold Gr.sweep; rw [h, Nat.sub_self]; rfl
theorem next_live : (g.next.live : Int) = g.live := by rw [live_next]
/-- What a round of the sweep finds and leaves. -/
theorem sweep_kit {g0 : Gr} (h : Pm W F bg vo vr vq q f T g g.live (cntI g.roots)) (s : Swp g0 g K) (hlt : g.swp < g.n) :
    ∃ W1, W1 = W.setCell ⟨bg, 7, none⟩ (.int .i64 ((g.swp : Int) + 1)) ∧
      ((g.col (g.swp + 1) = 0 ∧ Calls Try.prog 44 #[.pointer (some ⟨bg, 0, none⟩), .int .i64 ((g.swp : Int) + 1)] W1 (fun e w => e = .returned (.pointer none) ∧ W1 = w) ∧ Shd W W1 F bg vo q f g.next g.next.live (cntI g.next.roots) ∧ Swp g0 g.next K) ∨
       (g.col (g.swp + 1) ≠ 0 ∧ Calls Try.prog 44 #[.pointer (some ⟨bg, 0, none⟩), .int .i64 ((g.swp : Int) + 1)] W1 (fun e w => e = .returned (.pointer (some ⟨q (g.swp + 1), 0, none⟩)) ∧ W1 = w) ∧
        W1.cell? ⟨q (g.swp + 1), 0, none⟩ = some (.int .i64 ((g.col (g.swp + 1) - 1 : Nat) : Int)) ∧ W1.frozen? ⟨q (g.swp + 1), 0, none⟩ = false ∧
        (g.col (g.swp + 1) ≠ 1 → Shd W (W1.setCell ⟨q (g.swp + 1), 0, none⟩ (.int .i64 0)) F bg vo q f g.next g.next.live (cntI g.next.roots) ∧ Swp g0 g.next K) ∧
        (g.col (g.swp + 1) = 1 → ∃ b o cap, vo = .slice (some ⟨b, o, none⟩) g.n cap ∧ cap ≤ maxLen ∧ g.n ≤ cap ∧ b ≠ bg ∧ (∃ v, W1.cell? ⟨b, o + g.swp, none⟩ = some v) ∧ W1.frozen? ⟨b, o + g.swp, none⟩ = false ∧
          g0.sweep = (((g.swp + 1 : Nat) : Int), g.free) ∧ ∀ k, Goes (PgA bg g.free) W ((((W1.drewN k).setCell ⟨b, o + g.swp, none⟩ (.pointer none)).setCell ⟨bg, 3, none⟩ (.int .i64 ((g.live : Int) - 1)))) F))) := by
  have hi := s.inv
  have sz := h.sz
  obtain ⟨h1, d1⟩ := h.put (g' := { g with swp := g.swp + 1 }) (lv' := g.live) 7 (.int .i64 ((g.swp : Int) + 1)) rfl rfl rfl rfl rfl rfl ⟨sz.n, sz.r, sz.q, sz.f, sz.thr, hlt, sz.ph, sz.c3, sz.out⟩
  refine ⟨_, rfl, ?_⟩
  have hrt : cntI g.next.roots = cntI g.roots := rfl
  by_cases c0 : g.col (g.swp + 1) = 0
  · left
    have hn : g.next = { g with swp := g.swp + 1 } := by unfold Gr.next; rw [if_pos c0]
    have hc1 : g.col (g.swp + 1) ≠ 1 := by omega
    refine ⟨c0, object_none h1 _ (.inr (.inr (by show g.col _ = 0; rw [show ((g.swp : Int) + 1).toNat = g.swp + 1 by omega]; exact c0))), ?_, ?_⟩
    · rw [next_live, hrt, hn]; exact ⟨F, vr, vq, T, h1, d1, fun _ x => .inl x⟩
    · obtain ⟨a, b, c, _⟩ := hi.next s.ph hlt hc1
      exact ⟨a, b, by rw [← s.res, sweep_step hlt, if_neg hc1], c.trans s.n⟩
  · right
    have k1 : ({ g with swp := g.swp + 1 } : Gr).col (g.swp + 1) ≠ 0 := c0
    obtain ⟨x0, _, _, xf⟩ := h1.oc k1
    refine ⟨c0, object_some h1 (g.swp + 1) k1, x0, xf 0, fun hc1 => ?_, fun hc1 => ?_⟩
    · obtain ⟨h2, d2⟩ := h1.paint (c := 1) k1 (by decide) (by decide)
      have hn : g.next = { g with col := up g.col (g.swp + 1) 1, swp := g.swp + 1 } := by unfold Gr.next; rw [if_neg c0]
      refine ⟨?_, ?_⟩
      · rw [next_live, hrt, hn]; exact ⟨F, vr, vq, T, h2, d1.trans d2, fun _ x => .inl x⟩
      · obtain ⟨a, b, c, _⟩ := hi.next s.ph hlt hc1
        exact ⟨a, b, by rw [← s.res, sweep_step hlt, if_neg hc1], c.trans s.n⟩
    · obtain ⟨a0, cap, eo, hc1', hc2, hp⟩ := h1.pts
      obtain ⟨b, o, rfl, hcell⟩ := hp (by show 0 < g.n; omega)
      obtain ⟨y1, y2⟩ := hcell g.swp hlt
      have hI := hi.free s.ph hlt hc1
      refine ⟨b, o, cap, eo, hc2, hc1', (h1.bo (by rw [eo]; rfl)).1, ⟨_, y1⟩, y2, by rw [← s.res, sweep_step hlt, if_pos hc1], fun k => ?_⟩
      have h1k := h1.same ((Cha.refl (fun _ => False) _).drewN k)
      obtain ⟨h2, d2⟩ := h1k.gone eo hlt
      have lf := live_free (g := g) c0 hlt
      obtain ⟨h3, d3⟩ := h2.put (g' := g.free) (lv' := g.free.live) 3 (.int .i64 ((g.live : Int) - 1)) (by
        unfold Gr.head
        show _ = #[_, _, _, Value.int .i64 (g.free.live : Int), _, _, _, _]
        rw [show (g.free.live : Int) = (g.live : Int) - 1 by omega]; rfl) rfl rfl rfl rfl rfl hI.sz
      exact ⟨F, ⟨⟨K, hI⟩, _, _, _, _, _, _, h3⟩, ((d1.trans ((Cha.refl F _).drewN k)).trans d2).trans d3, fun _ x => .inl x⟩
theorem Shd.over {F1 : Nat → Prop} (d : Cha F W w1) (n : ∀ i, F1 i → F i ∨ W.heap.size ≤ i) (h : Shd w1 w2 F1 bg vo q f g lv rt) : Shd W w2 F bg vo q f g lv rt := by
  obtain ⟨F2, vr, vq, T, a, c, m⟩ := h
  refine ⟨F2, vr, vq, T, a, d.over c n, fun i hi => ?_⟩
  rcases m i hi with e | e
  · exact n i e
  · exact .inr (Nat.le_trans d.size e)
theorem Goes.over {P : Asn} {F1 : Nat → Prop} (d : Cha F W w1) (n : ∀ i, F1 i → F i ∨ W.heap.size ≤ i) (h : Goes P w1 w2 F1) : Goes P W w2 F := by
  obtain ⟨F2, a, c, m⟩ := h
  refine ⟨F2, a, d.over c n, fun i hi => ?_⟩
  rcases m i hi with e | e
  · exact n i e
  · exact .inr (Nat.le_trans d.size e)
theorem Shd.sw (h : Shd w w1 F bg vo q f g lv rt) : swAt w1 bg = g.swp := by obtain ⟨_, _, _, _, a, _⟩ := h; exact a.sw
set_option maxHeartbeats 2000000 in
theorem sweep_any (h : Pm W F bg vo vr vq q f T g g.live (cntI g.roots)) (hi : Inv g K) (hp : g.ph = 2) :
    Calls Try.prog 43 #[.pointer (some ⟨bg, 0, none⟩)] W fun e W' => e = .returned (.int .i64 g.sweep.1) ∧ Goes (PgA bg g.sweep.2) W W' F := by
  have H0 : Hid (∃ g1, Shd W W F bg vo q f g1 g1.live (cntI g1.roots) ∧ Swp g g1 K) := Lib.hid ⟨g, h.shd, ⟨hi, hp, rfl, rfl⟩⟩
  have hn4 := hi.n4
  have hlive : g.live ≤ g.n := live_le
  clear h hi hp
  go_enter Try.func43, Try.ntmps43
  go_wp2
  go_loopw [3] (fun _ wr => ∃ g1, Shd W wr F bg vo q f g1 g1.live (cntI g1.roots) ∧ Swp g g1 K) (fun _ wr => g.n - swAt wr bg)
  case atStart => exact H0.out
  case round =>
    clear H0
    obtain ⟨g1, ⟨F1, vr1, vq1, T1, p1, d1, n1⟩, hs⟩ := hrel
    obtain ⟨_, c1, c2, c3, _, _, _, c7, cf⟩ := p1.facts
    obtain ⟨a0, cap, eo, hc1, hc2, hpp⟩ := p1.pts
    have hsw := hs.inv.swp
    have hn := hs.n
    have hl1 : g1.live ≤ g1.n := live_le
    have hm := p1.sw
    by_cases hlt : g1.swp < g1.n
    · have hlt2 : (g1.swp : Int) < (g1.n : Int) := by omega
      have e1 : IntKind.i64.wrap ((g1.swp : Int) + 1) = (g1.swp : Int) + 1 := IntWalk.i64_in _ (by omega)
      have P1 := Lib.hid p1
      have S1 := Lib.hid hs
      have D1 := Lib.hid d1
      have N1 := Lib.hid n1
      have cf7 := cf 7
      have cf3 := cf 3
      have cf0 := cf 0
      have HM := Lib.hid hm
      obtain ⟨b, o, rfl, hcell⟩ := hpp (by omega)
      obtain ⟨z1, z2⟩ := hcell g1.swp hlt
      generalize ptV (if g1.col (g1.swp + 1) = 0 then none else some (q (g1.swp + 1))) = vz at *
      clear p1 hs d1 n1 cf hm hpp hcell
      subst eo
      go_wp2
      go_quiet (fail)
      obtain ⟨W1, hW1, hk⟩ := sweep_kit (P1.out.same ((Cha.refl (fun _ => False) wr).drewN nq)) S1.out hlt
      subst hW1
      rcases hk with ⟨k0, C, hS, hs2⟩ | ⟨k0, C, x0, xf, hk1, hk2⟩
      · have CC := Lib.hid C
        have HS := Lib.hid hS
        have S2 := Lib.hid hs2
        clear C hS hs2
        go_wp2_with (go_at_call 44; ((with_reducible refine (CC.out).mono ?_); rintro e w2 ⟨rfl, rfl⟩))
        have HR2 := Lib.hid (Shd.over D1.out N1.out (HS.out.before ((Cha.refl (fun _ => False) wr).drewN nq)))
        have HM2 := Lib.hid (HS.out.sw)
        clear HS
        go_roundw
        case rel => exact ⟨g1.next, HR2.out, S2.out⟩
        case measure =>
          rw [HM.out, HM2.out]
          show g.n - (g1.swp + 1) < g.n - g1.swp
          omega
      · have CC := Lib.hid C
        have HK1 := Lib.hid hk1
        have HK2 := Lib.hid hk2
        generalize q (g1.swp + 1) = Q at *
        generalize hcc : g1.col (g1.swp + 1) = c at *
        clear C hk1 hk2 hcc
        by_cases hc : c = 1
        · subst hc
          obtain ⟨b', o', cap', ev, hm1, hm2, hne, -, -, er, hG⟩ := HK2.out rfl
          injection ev with ev1 ev2 ev3
          injection ev1 with ev1
          injection ev1 with ev1 ev4 _
          subst ev1 ev4 ev3
          have ER := Lib.hid er
          have HG : Hid (∀ k, Goes (PgA bg g1.free) W _ F) := Lib.hid fun k => Goes.over D1.out N1.out ((hG k).before ((Cha.refl (fun _ => False) wr).drewN nq))
          have e2 : IntKind.i64.wrap ((g1.swp : Int) + 1 - 1) = (g1.swp : Int) := by rw [IntWalk.i64_in _ (by omega)]; omega
          have e3 : IntKind.i64.wrap ((g1.live : Int) - 1) = (g1.live : Int) - 1 := IntWalk.i64_in _ (by omega)
          have hne2 : bg ≠ b := fun e => hne e.symm
          unfold maxLen at hm1
          clear er hG HK1 HK2 ev2
          go_wp2_with (go_at_call 44; ((with_reducible refine (CC.out).mono ?_); rintro e w2 ⟨rfl, rfl⟩))
          go_region
          all_goals
            go_wp2
            go_returns
            rw [ER.out]
            dsimp only
            exact ⟨rfl, HG.out 1⟩
        · have k2 : (((c - 1 : Nat) : Int) == 0) = false := by simp; omega
          obtain ⟨hS, hs2⟩ := HK1.out hc
          have HS := Lib.hid hS
          have S2 := Lib.hid hs2
          generalize c - 1 = c' at *
          clear hS hs2 HK1 HK2 hc k0
          go_wp2_with (go_at_call 44; ((with_reducible refine (CC.out).mono ?_); rintro e w2 ⟨rfl, rfl⟩))
          have HR2 := Lib.hid (Shd.over D1.out N1.out (HS.out.before ((Cha.refl (fun _ => False) wr).drewN nq)))
          have HM2 := Lib.hid (HS.out.sw)
          clear HS
          go_roundw
          case rel => exact ⟨g1.next, HR2.out, S2.out⟩
          case measure =>
            rw [HM.out, HM2.out]
            show g.n - (g1.swp + 1) < g.n - g1.swp
            omega
    · have hlt2 : ¬ ((g1.swp : Int) < (g1.n : Int)) := by omega
      have hse : g1.swp = g1.n := by omega
      have hr := sweep_end hse
      rw [hs.res] at hr
      have HF : Hid (∀ k, Goes (PgA bg g1.ends) W (((wr.drewN k).setCell ⟨bg, 0, none⟩ (.int .i64 0)).setCell ⟨bg, 1, none⟩ (.int .i64 (Go.RowKit.wrap64 (g1.cyc + 1)))) F) := Lib.hid fun k => by
        obtain ⟨hI, _⟩ := hs.inv.ends hs.ph hse
        have pk := p1.same ((Cha.refl (fun _ => False) wr).drewN k)
        have sz := p1.sz
        obtain ⟨h2, d2⟩ := pk.put (g' := { g1 with ph := 0 }) (lv' := g1.live) 0 (.int .i64 0) rfl rfl rfl rfl rfl rfl ⟨sz.n, sz.r, sz.q, sz.f, sz.thr, sz.swp, Nat.zero_le _, sz.c3, sz.out⟩
        obtain ⟨h3, d3⟩ := h2.put (g' := g1.ends) (lv' := g1.ends.live) 1 (.int .i64 (Go.RowKit.wrap64 (g1.cyc + 1))) rfl rfl rfl rfl rfl rfl hI.sz
        exact Goes.over d1 n1 (Goes.before ((Cha.refl (fun _ => False) wr).drewN k) ⟨F1, ⟨⟨K, hI⟩, _, _, _, _, _, _, h3⟩, d2.trans d3, fun _ x => .inl x⟩)
      have cf0 := cf 0
      have cf1 := cf 1
      have HRS := Lib.hid hr
      clear p1 hs d1 n1 cf hm hr hpp
      subst eo
      go_wp2
      go_quiet (fail)
      go_wp2
      go_returns
      rw [HRS.out]
      dsimp only
      exact ⟨rfl, HF.out _⟩
end Go.Proofs.Ytllefljimkmbhaa
