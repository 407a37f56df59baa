/- The document's Work, whole. -/
import Derived.Test.YtllefljimkmbhaaEN
namespace Go.Proofs.Ytllefljimkmbhaa
open Go.ChangeShapes Go.WideShapes Go.ChangeAt Go.RowKit
variable {w w' w1 w2 W W' : World} {F S : Nat → Prop} {bd : Nat} {vo vr vq : Value} {f T : Nat → Nat} {g g' : Gr} {sw : Int} {K : Nat → Prop}

/-- How far the sweep is, by the graph's own count. -/
def dsAt (bd : Nat) (w : World) : Nat := (intOf ((w.cell? ⟨bd, 5, none⟩).getD (.int .i64 0))).toNat
theorem Dswp.at (h : Dswp W w1 F bd g g') : dsAt bd w1 = g'.swp + 1 := by
  obtain ⟨b, o, cap, _, _, x5, _⟩ := dsweep_kit h
  unfold dsAt
  rw [x5]
  show ((g'.swp : Int) + 1).toNat = _
  omega
theorem next_swp : g.next.swp = g.swp + 1 := by unfold Gr.next; split <;> rfl
theorem Dswp.same (h : Dswp W w1 F bd g g') (c : Cha (fun _ => False) w1 w2) : Dswp W w2 F bd g g' := by
  obtain ⟨F1, p, k, n⟩ := h.goes
  exact { h with goes := ⟨F1, (fit_dm bd g').same p c, k.trans c.wide, n⟩ }
set_option maxRecDepth 100000 in
set_option maxHeartbeats 8000000 in
theorem dwork_sweep (h : Dm W F bd vo vr vq f T g sw) (hi : Inv g K) (hp : g.ph = 2) : Calls Try.prog 23 #[.pointer (some ⟨bd, 0, none⟩)] W fun e W' => e = .returned (.tuple #[.int .i64 g.sweep.1, .int .i64 0]) ∧ Goes (DmA bd g.sweep.2) W W' F := by
  obtain ⟨x0, x1, x2, x3, x4, x5, x6, xf⟩ := h.facts
  have S0 : Hid (Dswp W W F bd g g) := Lib.hid ⟨h.goes0, hp, rfl, hi.swp, fun id => ⟨fun e => by
    have k := (hi.gry id).2 e
    rw [hi.off (by omega)] at k
    exact absurd k (by simp), hi.c3 id⟩, rfl⟩
  have h4 := hi.n4
  rw [hp] at x3
  have x3 : W.cell? ⟨bd, 3, none⟩ = some (.int .i64 2) := x3
  clear h hi hp xf
  go_enter Try.func23, Try.ntmps23
  go_wp2
  go_loopw [6] (fun _ wr => ∃ gk, Dswp W wr F bd g gk) (fun _ wr => g.n + 1 - dsAt bd wr)
  case atStart => exact ⟨_, S0.out⟩
  case round =>
    rename World => wv
    obtain ⟨gk, hS⟩ := hrel
    obtain ⟨b, o, cap, y0, ym, y5, f5, y3, f3, y6, f6, hlt, hge⟩ := dsweep_kit hS
    have HK := Lib.hid fun n => dsweep_kit (hS.same ((Cha.refl (fun _ => False) wv).drewN n))
    have HAT := Lib.hid hS.at
    have hle := hS.le
    have hn := hS.n
    have hgr := hS.grey (gk.swp + 1)
    unfold maxLen at ym
    obtain ⟨sp, hsp⟩ : ∃ s, gk.swp = s := ⟨_, rfl⟩
    obtain ⟨c, hc⟩ : ∃ c, gk.col (sp + 1) = c := ⟨_, rfl⟩
    have HSP := Lib.hid hsp
    have HC := Lib.hid hc
    rw [hsp, hc] at hgr
    rw [hsp] at y5 hle
    have e1 : IntKind.i64.wrap ((sp : Int) + 1 + 1) = (sp : Int) + 2 := by rw [IntWalk.i64_in _ (by omega)]; omega
    by_cases k : sp < gk.n
    · have k1 : (sp : Int) + 1 < (g.n : Int) + 1 := by omega
      have k2 : sp + 1 < g.n + 1 := by omega
      have kd : decide ((sp : Int) + 1 < (g.n : Int) + 1) = true := decide_eq_true k1
      have kgn : sp < g.n := by omega
      have HN := Lib.hid hn
      clear hS hlt hge hsp hc f5 y3 f3 y6 f6 hn
      go_wp2
      go_quiet (fail)
      clear y0 y5 ym
      obtain ⟨b2, o2, cap2, y0, ym, y5, f5, y3, f3, y6, f6, hlt, hge⟩ := HK.out nq
      unfold maxLen at ym
      rw [HSP.out, HC.out] at hlt
      rw [HSP.out] at y5
      obtain ⟨ne, ⟨v0, z0⟩, z1, g0, g1, r1, r3, r0⟩ := hlt k
      have HR1 := Lib.hid r1
      have HR3 := Lib.hid r3
      have HR0 := Lib.hid r0
      clear hlt hge r1 r3 r0 y3 f3 y6 f6
      by_cases c1 : c = 1
      · subst c1
        have z1 : (wv.drewN nq).cell? ⟨b2, o2 + (sp + 1) * 2 + 1, none⟩ = some (.int .i64 1) := z1
        obtain ⟨q1, q2⟩ := HR1.out rfl
        have Q1 := Lib.hid q1
        have Q2 := Lib.hid q2
        clear q1 q2
        go_wp2
        go_returns
        exact ⟨by rw [Q2.out]; simp, by rw [Q2.out]; exact Q1.out⟩
      · by_cases c3 : c = 3
        · subst c3
          have z1 : (wv.drewN nq).cell? ⟨b2, o2 + (sp + 1) * 2 + 1, none⟩ = some (.int .i64 3) := z1
          have q1 := HR3.out rfl
          have Q1 := Lib.hid q1
          clear q1
          go_wp2
          go_roundw
          case rel => exact ⟨_, Q1.out⟩
          case measure =>
            have e := Q1.out.at
            have e2 := next_swp (g := gk)
            have e3 := HAT.out
            have e4 := HSP.out
            omega
        · have c0 : c = 0 := by omega
          subst c0
          have z1 : (wv.drewN nq).cell? ⟨b2, o2 + (sp + 1) * 2 + 1, none⟩ = some (.int .i64 0) := z1
          have q1 := HR0.out rfl
          have Q1 := Lib.hid q1
          clear q1
          go_wp2
          go_roundw
          case rel => exact ⟨_, Q1.out⟩
          case measure =>
            have e := Q1.out.at
            have e2 := next_swp (g := gk)
            have e3 := HAT.out
            have e4 := HSP.out
            omega
    · have k1 : ¬ (sp : Int) + 1 < (g.n : Int) + 1 := by omega
      have k2 : ¬ sp + 1 < g.n + 1 := by omega
      have kd : decide ((sp : Int) + 1 < (g.n : Int) + 1) = false := decide_eq_false k1
      clear hS hlt hge hsp hc f5 y3 f3 y6 f6 hn
      go_wp2
      go_quiet (fail)
      clear y0 y5 ym
      obtain ⟨b2, o2, cap2, y0, ym, y5, f5, y3, f3, y6, f6, hlt, hge⟩ := HK.out nq
      unfold maxLen at ym
      rw [HSP.out] at hge y5
      obtain ⟨q1, q2⟩ := hge k
      have Q1 := Lib.hid q1
      have Q2 := Lib.hid q2
      clear q1 q2 hlt hge
      go_wp2
      go_returns
      exact ⟨by rw [Q2.out]; simp, by rw [Q2.out]; exact Q1.out⟩
/-- The document's Work does as the graph's. -/
theorem dwork_any (h : Dm W F bd vo vr vq f T g sw) (hi : Inv g K) : Calls Try.prog 23 #[.pointer (some ⟨bd, 0, none⟩)] W fun e W' => e = .returned (pairV g.workR.1) ∧ Goes (DmA bd g.workR.2) W W' F := by
  have hph := hi.ph
  unfold Gr.workR
  by_cases k0 : g.ph = 0
  · rw [if_pos k0]; exact dwork_off h k0
  · rw [if_neg k0]
    by_cases k1 : g.ph = 1
    · rw [if_pos k1]
      show Calls _ _ _ _ fun e W' => e = .returned (pairV ((0, 0), g.mark).1) ∧ Goes (DmA bd g.mark) W W' F
      unfold Gr.mark
      by_cases kt : g.thr < g.roots.length
      · rw [if_pos kt]; exact dwork_root h hi k1 kt
      · rw [if_neg kt]
        cases kg : g.greys with
        | nil => exact dwork_turn h hi k1 kt kg
        | cons x l => exact dwork_blk h hi k1 kt kg
    · rw [if_neg k1]; exact dwork_sweep h hi (by omega)
end Go.Proofs.Ytllefljimkmbhaa
