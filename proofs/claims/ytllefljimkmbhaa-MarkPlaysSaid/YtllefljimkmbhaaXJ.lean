/- A whole cycle by the law: cycle. -/
import Derived.Test.YtllefljimkmbhaaXI
namespace Go.Proofs.Ytllefljimkmbhaa
open Go.ChangeShapes Go.WideShapes Go.ChangeAt Go.RowKit
variable {w0 W W' : World} {F : Nat → Prop} {bg bd : Nat} {g : Gr}

theorem mheads (h : Mine w0 (Duo bg bd g) W) : ∃ a c a2 c2, W.cell? ⟨bd, 0, none⟩ = some (.slice a (g.n + 1) c) ∧ W.cell? ⟨bd, 1, none⟩ = some (.slice a2 g.roots.length c2) := by
  obtain ⟨F, q, _⟩ := h
  obtain ⟨F2, vf, vr, f, T, im⟩ := duo_im q
  obtain ⟨x0, x1, _⟩ := im.facts
  obtain ⟨bv, ov, cv, ev, _⟩ := im.sls
  obtain ⟨ar, cr, er, _⟩ := im.lr.ints
  exact ⟨_, _, _, _, by rw [x0, ev], by rw [x1, er]⟩
def Gr.steps (g : Gr) : Nat := 4 * (g.n + 1) + 4 * g.roots.length + 8
/-- A graph behind a whole cycle. -/
def Gr.cycled (g : Gr) : Gr := g.startR.2.works g.steps
theorem cycled_kept : Kept g g.cycled := by unfold Gr.cycled; generalize g.steps = m; exact start_kept.trans (works_kept m)
theorem Inv.cycled {K : Nat → Prop} (h : Inv g K) (hp : g.ph = 0) (id : Nat) : g.cycled.ph = 0 ∧ (g.cycled.col id ≠ 0 ↔ Reach g id) := by
  have hs : g.roots.length + 2 * g.n + 2 ≤ g.steps := by unfold Gr.steps; omega
  unfold Gr.cycled
  generalize g.steps = m at *
  exact h.cycle hp hs id
theorem mhas_at (h : Mine w0 (Duo bg bd g) W) (a : Int) (n : Nat) : Calls Try.prog 28 #[.pointer (some ⟨bg, 0, none⟩), .int .i64 a] (W.drewN n) fun e w => e = .returned (.bool (g.has a)) ∧ w = W.drewN n := by
  obtain ⟨F, q, _⟩ := h.same (fit_duo _ _ _) ((Cha.refl (fun _ => False) W).drewN n)
  obtain ⟨F1, F2, p1, _⟩ := q
  obtain ⟨K, vo, vr, vq, q, f, T, hi, p⟩ := p1.open
  exact (has_any p a).mono fun _ _ ⟨a, b⟩ => ⟨a, b.symm⟩
set_option maxRecDepth 100000 in
set_option maxHeartbeats 4000000 in
theorem cycle_any (h : Mine w0 (Duo bg bd g) W) (hp : g.ph = 0) (hn : g.n ≤ 4096) (hr : g.roots.length ≤ 8192) :
    Calls Try.prog 34 #[.pointer (some ⟨bg, 0, none⟩), .pointer (some ⟨bd, 0, none⟩)] W fun e W' => e = .returned (.bool true) ∧ Mine w0 (Duo bg bd g.cycled) W' := by
  obtain ⟨K, hi⟩ := mduo_inv h
  have hcy := hi.cycled hp
  have C20 := Lib.hid (mstart h)
  have e0 : g.startR.1 = 0 := by unfold Gr.startR; rw [if_pos hp]
  rw [e0] at C20
  have HH : Hid (∀ w1, Mine w0 (Duo bg bd g.startR.2) w1 → ∃ a c a2 c2, w1.cell? ⟨bd, 0, none⟩ = some (.slice a (g.n + 1) c) ∧ w1.cell? ⟨bd, 1, none⟩ = some (.slice a2 g.roots.length c2)) := Lib.hid fun w1 h1 => by
    have := mheads h1
    rwa [start_kept.n, start_kept.roots] at this
  have C22 : Hid (∀ W1 j, Mine w0 (Duo bg bd (g.startR.2.works j)) W1 → Calls Try.prog 22 #[.pointer (some ⟨bg, 0, none⟩)] W1 fun e W' => (∃ v, e = .returned v) ∧ Mine w0 (Duo bg bd (g.startR.2.works (j + 1))) W') := Lib.hid fun W1 j h => mwork h
  have hst : (4 * ((g.n : Int) + 1) + 4 * (g.roots.length : Int) + 8) = (g.steps : Int) := by unfold Gr.steps; omega
  have hsb : g.steps ≤ 100000 := by unfold Gr.steps; omega
  have C33 : Hid (∀ W1, Mine w0 (Duo bg bd g.cycled) W1 → Calls Try.prog 33 #[.pointer (some ⟨bd, 0, none⟩)] W1 fun e W2 => ∃ (bs : Nat) (X : Nat → Bool), e = .returned (.slice (some ⟨bs, 0, none⟩) (g.n + 1) (g.n + 1)) ∧ FRow 4 W2 bs (g.n + 1) (fun i => .bool (X i)) ∧ (∀ id, 1 ≤ id → X id = g.cycled.has (id : Int)) ∧ Mine w0 (Duo bg bd g.cycled) W2) := Lib.hid fun W1 h1 => by
    refine (mreach h1).mono fun e W2 ⟨v, hv, ⟨bs, X, k1, k2, k3, k4, k5, k6⟩, k7⟩ => ?_
    rw [cycled_kept.n] at k1 k2
    refine ⟨bs, X, by rw [hv, k1], k2, fun id h1 => ?_, k7⟩
    have e : X id = true ↔ g.cycled.has (id : Int) = true := by
      rw [k6, cycled_kept.reach]
      unfold Gr.has
      rw [decide_eq_true_iff, Int.toNat_natCast, (hcy id).2]
      exact ⟨fun r => ⟨by omega, r⟩, fun r => r.2⟩
    cases hx : X id <;> cases hy : g.cycled.has (id : Int) <;> simp_all
  have C26 : Hid (∀ W1, Mine w0 (Duo bg bd g.cycled) W1 → Calls Try.prog 26 #[.pointer (some ⟨bg, 0, none⟩)] W1 fun e W2 => e = .returned (.tuple #[.int .i64 0, .int .i64 g.cycled.cyc, .int .i64 g.cycled.live]) ∧ Mine w0 (Duo bg bd g.cycled) W2) := Lib.hid fun W1 h1 => by
    have := mcounts h1
    rw [(hcy 0).1] at this
    exact this
  have HS : Hid (g.cycled = g.startR.2.works g.steps) := Lib.hid rfl
  generalize g.steps = m at *
  clear h hi hcy hp e0
  go_enter Try.func34, Try.ntmps34
  go_wp2_with (go_at_call 20; ((with_reducible refine (C20.out).mono ?_); rintro e w1 ⟨rfl, h1⟩; obtain ⟨a, c, a2, c2, x0, x1⟩ := HH.out _ h1; have H1 := Lib.hid h1; clear h1))
  go_quiet (fail)
  have H1q := Lib.hid (H1.out.same (fit_duo _ _ _) ((Cha.refl (fun _ => False) w1).drewN nq))
  clear H1 HH C20 x0 x1 hst
  go_wp2
  go_loopw [27] (fun i wr => ∃ j : Nat, i = .int .i64 (j : Int) ∧ j ≤ m ∧ Mine w0 (Duo bg bd (g.startR.2.works j)) wr) (fun i _ => m - (intOf i).toNat)
  case atStart => exact ⟨0, rfl, Nat.zero_le _, H1q.out⟩
  case round =>
    clear H1q
    obtain ⟨j, rfl, hj, hM⟩ := hrel
    by_cases hlt : j < m
    · have C := Lib.hid (C22.out _ _ hM)
      have hlt2 : (j : Int) < (m : Int) := by omega
      clear hM
      go_wp2_with (go_at_call 22; ((with_reducible refine (C.out).mono ?_); rintro e w2 ⟨⟨v, rfl⟩, hM2⟩; have HM2 := Lib.hid hM2; clear hM2))
      go_roundw
      case rel => exact ⟨j + 1, rfl, hlt, HM2.out⟩
      case measure => simp [intOf]; omega
    · obtain rfl : j = m := by omega
      have D := Lib.hid (C33.out _ (HS.out ▸ hM))
      clear hM C22 hsb
      go_wp2_with (go_at_call 33; ((with_reducible refine (D.out).mono ?_); rintro e w3 ⟨bs, X, rfl, hrow, hX, hM3⟩; have HM3 := Lib.hid hM3; have HROW := Lib.hid hrow; have HX := Lib.hid hX; clear hrow hX hM3))
      go_loopw [6] (fun i wr => ∃ k : Nat, i = .int .i64 (k : Int) ∧ 1 ≤ k ∧ k ≤ g.n + 1 ∧ Mine w0 (Duo bg bd g.cycled) wr ∧ FRow 4 wr bs (g.n + 1) (fun i => .bool (X i))) (fun i _ => g.n + 1 - (intOf i).toNat)
      case atStart => exact ⟨1, rfl, Nat.le_refl _, by omega, HM3.out, HROW.out⟩
      case round =>
        clear HM3 HROW D C33
        obtain ⟨k, rfl, hk1, hk, hM, hrow⟩ := hrel
        by_cases hlt : k < g.n + 1
        · have y := hrow.cell (i := k) hlt
          have hx := HX.out k hk1
          have CH := Lib.hid (fun n => mhas_at hM (k : Int) n)
          have hlt2 : (k : Int) < (g.n : Int) + 1 := by omega
          have HM := Lib.hid hM
          have HR := Lib.hid hrow
          rw [← hx] at CH
          generalize X k = b at *
          clear hM hrow hx
          have hbb : (b != b) = false := by cases b <;> rfl
          go_wp2
          go_quiet ((go_at_call 28; exact Calls.quiet_of_same (CH.out _)))
          go_wp2
          go_roundw
          case rel => exact ⟨k + 1, rfl, by omega, hlt, HM.out.same (fit_duo _ _ _) ((Cha.refl (fun _ => False) wr).drewN _), HR.out⟩
          case measure => simp [intOf]; omega
        · have hlt2 : ¬ ((k : Int) < (g.n : Int) + 1) := by omega
          have E := Lib.hid (C26.out _ hM)
          clear hM hrow
          go_wp2_with (go_at_call 26; ((with_reducible refine (E.out).mono ?_); rintro e w4 ⟨rfl, hM4⟩; have HM4 := Lib.hid hM4; clear hM4))
          go_returns
          exact ⟨rfl, HM4.out⟩
end Go.Proofs.Ytllefljimkmbhaa
