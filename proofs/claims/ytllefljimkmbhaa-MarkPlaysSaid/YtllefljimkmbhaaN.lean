/- Contracts of mark: mark. -/
import Derived.Test.YtllefljimkmbhaaM
namespace Go.Proofs.Ytllefljimkmbhaa
open Go.ChangeShapes Go.WideShapes Go.ChangeAt Go.RowKit
variable {w w' w1 w2 w3 W W' : World} {F S : Nat → Prop} {bg : Nat} {vo vr vq : Value} {q f T : Nat → Nat} {g g' : Gr} {lv : Int} {rt rt' : Nat → Int} {K : Nat → Prop}

theorem mark_scan (h : Pm W F bg vo vr vq q f T g g.live (cntI g.roots)) (hi : Inv g K) (hI : Inv g.mark K) (ht : g.thr < g.roots.length) :
    Calls Try.prog 42 #[.pointer (some ⟨bg, 0, none⟩)] W fun e W' => e = .returned (.tuple #[]) ∧ Goes (PgA bg g.mark) W W' F := by
  have em : g.mark = (g.shade (g.roots.getD g.thr 0)).scan := by unfold Gr.mark; rw [if_pos ht]
  rw [em] at hI ⊢
  obtain ⟨_, _, _, _, c4, c5, _⟩ := h.facts
  obtain ⟨aq, capq, er, hq1, hq2, hr⟩ := h.lrs.ints
  obtain ⟨br, or, rfl, hrc⟩ := hr (by omega)
  have y := (hrc g.thr ht).1
  have e0 : g.roots.getD g.thr 0 = g.roots[g.thr] := by simp [ht]
  obtain ⟨k1, k2, k3⟩ := hi.kroot _ (List.getElem_mem ht)
  have hz := hi.kin _ k1 k2 k3
  rw [← e0] at hz
  obtain ⟨R, hR⟩ : ∃ R, R = g.roots.getD g.thr 0 := ⟨_, rfl⟩
  rw [← hR] at y hz hI ⊢
  have hr8 := h.sz.r
  have CS : Hid (∀ W1, Cha (fun _ => False) W W1 → Calls Try.prog 36 #[.pointer (some ⟨bg, 0, none⟩), .int .i64 (R : Int)] W1 fun e w2 => e = .returned (.tuple #[]) ∧ w2.cell? ⟨bg, 5, none⟩ = some (.int .i64 g.thr) ∧ w2.frozen? ⟨bg, 5, none⟩ = false ∧ Goes (PgA bg (g.shade R).scan) W (w2.setCell ⟨bg, 5, none⟩ (.int .i64 ((g.thr : Int) + 1))) F) := Lib.hid fun W1 c => by
    refine (shade_any (h.same c) R (.inr hz) (by have := hi.greys_le; omega)).mono fun e w2 ⟨he, hS⟩ => ⟨he, ?_⟩
    obtain ⟨F2, vr2, vq2, T2, p2, d2, n2⟩ := hS
    obtain ⟨_, _, _, _, _, x5, _, _, xf⟩ := p2.facts
    rw [shade_thr] at x5
    have s := p2.sz
    obtain ⟨p3, d3⟩ := p2.put (g' := (g.shade R).scan) (lv' := g.live) 5 (.int .i64 ((g.thr : Int) + 1)) (by
      unfold Gr.head Gr.scan
      show _ = #[_, _, _, _, _, Value.int .i64 (((g.shade R).thr + 1 : Nat) : Int), _, _]
      rw [shade_thr]; rfl) rfl rfl rfl rfl rfl ⟨s.n, s.r, s.q, s.f, by show (g.shade R).thr + 1 ≤ 8192; rw [shade_thr]; omega, s.swp, s.ph, s.c3, s.out⟩
    have hlv : (g.live : Int) = (g.shade R).scan.live := by show _ = ((g.shade R).live : Int); rw [shade_live]
    have hrt : cntI g.roots = cntI (g.shade R).scan.roots := by show _ = cntI (g.shade R).roots; rw [shade_roots]
    rw [hlv, hrt] at p3
    exact ⟨x5, xf 5, F2, ⟨⟨K, hI⟩, _, _, _, _, _, _, p3⟩, c.wide.trans (d2.over d3 n2), fun i hi => (n2 i hi).imp _root_.id fun e => Nat.le_trans c.size e⟩
  have e1 : IntKind.i64.wrap ((g.thr : Int) + 1) = (g.thr : Int) + 1 := IntWalk.i64_in _ (by omega)
  have ht2 : (g.thr : Int) < (g.roots.length : Int) := by omega
  unfold maxLen at hq2
  subst er
  clear h hi hI hr hrc e0 em hz hR
  go_enter Try.func42, Try.ntmps42
  go_wp2
  go_quiet (fail)
  go_wp2
  go_region_law (go_simp; go_at_call 36; refine (CS.out _ (((Cha.refl (fun _ => False) W).drewN _).drew)).mono ?_; rintro e w2 ⟨rfl, x1, x2, hG⟩; have HG := Lib.hid hG; clear hG)
  all_goals
    go_wp2
    go_returns
    exact ⟨rfl, HG.out⟩
theorem mark_black (h : Pm W F bg vo vr vq q f T g g.live (cntI g.roots)) (hi : Inv g K) (hI : Inv g.mark K) (ht : ¬ g.thr < g.roots.length) {x : Nat} {l : List Nat} (hg : g.greys = x :: l) :
    Calls Try.prog 42 #[.pointer (some ⟨bg, 0, none⟩)] W fun e W' => e = .returned (.tuple #[]) ∧ Goes (PgA bg g.mark) W W' F := by
  have em : g.mark = g.blacken x l := by unfold Gr.mark; rw [if_neg ht]; split; (rename_i e; rw [hg] at e; cases e); (rename_i e; rw [hg] at e; cases e; rfl)
  rw [em] at hI ⊢
  obtain ⟨_, _, _, _, c4, c5, c6, _⟩ := h.facts
  obtain ⟨aq, capq, er, hq1, hq2, hr⟩ := h.lrs.ints
  obtain ⟨ag, capg, eg, hg1, hg2, hgr⟩ := h.lqs.ints
  have CB : Hid (∀ W1, Cha (fun _ => False) W W1 → Calls Try.prog 46 #[.pointer (some ⟨bg, 0, none⟩)] W1 fun e w2 => e = .returned (.tuple #[]) ∧ Goes (PgA bg (g.blacken x l)) W w2 F) := Lib.hid fun W1 c =>
    (blacken_any (h.same c) hi hI hg).mono fun _ _ ⟨a, b⟩ => ⟨a, b.before c⟩
  have hl : 0 < g.greys.length := by rw [hg]; simp
  have hl2 : (0 : Int) < (g.greys.length : Int) := by omega
  subst er eg
  clear h hi hI hr hgr em hg
  go_enter Try.func42, Try.ntmps42
  go_wp2
  go_quiet (fail)
  go_wp2_with (go_at_call 46; ((with_reducible refine (CB.out _ (((Cha.refl (fun _ => False) W).drewN _))).mono ?_); rintro e w2 ⟨rfl, hG⟩; have HG := Lib.hid hG; clear hG))
  go_returns
  exact ⟨rfl, HG.out⟩
theorem mark_turn (h : Pm W F bg vo vr vq q f T g g.live (cntI g.roots)) (hi : Inv g K) (hI : Inv g.mark K) (hp : g.ph = 1) (ht : ¬ g.thr < g.roots.length) (hg : g.greys = []) :
    Calls Try.prog 42 #[.pointer (some ⟨bg, 0, none⟩)] W fun e W' => e = .returned (.tuple #[]) ∧ Goes (PgA bg g.mark) W W' F := by
  have em : g.mark = g.turn := by unfold Gr.mark; rw [if_neg ht, hg]
  rw [em] at hI ⊢
  obtain ⟨c0, _, _, _, c4, c5, c6, c7, cf⟩ := h.facts
  obtain ⟨aq, capq, er, hq1, hq2, hr⟩ := h.lrs.ints
  obtain ⟨ag, capg, eg, hg1, hg2, hgr⟩ := h.lqs.ints
  have HF : Hid (∀ W1, Cha (fun _ => False) W W1 → Goes (PgA bg g.turn) W (W1.setCell ⟨bg, 0, none⟩ (.int .i64 2)) F) := Lib.hid fun W1 c => by
    have s := h.sz
    obtain ⟨p3, d3⟩ := (h.same c).put (g' := g.turn) (lv' := g.live) 0 (.int .i64 2) (by
      unfold Gr.head Gr.turn
      rw [hi.s0 hp]; rfl) rfl rfl rfl rfl rfl ⟨s.n, s.r, s.q, s.f, s.thr, Nat.zero_le _, by show 2 ≤ 2; decide, s.c3, s.out⟩
    exact ⟨F, ⟨⟨K, hI⟩, _, _, _, _, _, _, p3⟩, c.wide.trans d3, fun i hi => .inl hi⟩
  have hl : ¬ (0 < g.greys.length) := by rw [hg]; simp
  have hl2 : ¬ ((0 : Int) < (g.greys.length : Int)) := by omega
  have cf0 := cf 0
  subst er eg
  clear h hi hI hr hgr em hg cf
  go_enter Try.func42, Try.ntmps42
  go_wp2
  go_quiet (fail)
  go_wp2
  go_returns
  exact ⟨rfl, HF.out _ ((Cha.refl (fun _ => False) W).drewN _)⟩
theorem mark_any (h : Pm W F bg vo vr vq q f T g g.live (cntI g.roots)) (hi : Inv g K) (hp : g.ph = 1) :
    Calls Try.prog 42 #[.pointer (some ⟨bg, 0, none⟩)] W fun e W' => e = .returned (.tuple #[]) ∧ Goes (PgA bg g.mark) W W' F := by
  have hI := hi.mark hp
  by_cases ht : g.thr < g.roots.length
  · exact mark_scan h hi hI ht
  · cases hg : g.greys with
    | nil => exact mark_turn h hi hI hp ht hg
    | cons x l => exact mark_black h hi hI ht hg
end Go.Proofs.Ytllefljimkmbhaa
