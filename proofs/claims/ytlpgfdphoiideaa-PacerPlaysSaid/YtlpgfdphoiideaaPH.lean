/- The document's pacer: aim. -/
import Derived.Test.YtlpgfdphoiideaaPE
namespace Go.Proofs.Ytlpgfdphoiideaa
open Go.ChangeShapes Go.WideShapes Go.ChangeAt Go.RowKit
/-- The document's pacer at a block. -/
def dcells (s : PS) : Array Value := #[.int .i64 s.g, .int .u64 s.lim, .int .u64 s.heap, .int .u64 s.live, .int .u64 s.roots, .int .u64 s.goal, .int .u64 s.trig, .int .u64 s.ratio]
def DP (w : World) (b : Nat) (s : PS) : Prop := w.heap[b]? = some (.cells (dcells s) 39 (0, 0))
section
variable {w w' : World} {b : Nat} {s : PS}
theorem DP.lt (h : DP w b s) : b < w.heap.size := row_lt h
theorem DP.same (h : DP w b s) (c : Cha (fun _ => False) w w') : DP w' b s := (c.old _ h.lt (fun x => x)).trans h
theorem DP.other {b' : Nat} (h : DP w b s) (c : Cha (· = b') w w') (n : b ≠ b') : DP w' b s := (c.old _ h.lt n).trans h
theorem DP.cells (h : DP w b s) : w.cell? ⟨b, 0, none⟩ = some (.int .i64 s.g) ∧ w.cell? ⟨b, 1, none⟩ = some (.int .u64 s.lim) ∧ w.cell? ⟨b, 2, none⟩ = some (.int .u64 s.heap) ∧ w.cell? ⟨b, 3, none⟩ = some (.int .u64 s.live) ∧
    w.cell? ⟨b, 4, none⟩ = some (.int .u64 s.roots) ∧ w.cell? ⟨b, 5, none⟩ = some (.int .u64 s.goal) ∧ w.cell? ⟨b, 6, none⟩ = some (.int .u64 s.trig) ∧ w.cell? ⟨b, 7, none⟩ = some (.int .u64 s.ratio) :=
  ⟨cell_of_row w b 0 _ 39 (0, 0) h, cell_of_row w b 1 _ 39 (0, 0) h, cell_of_row w b 2 _ 39 (0, 0) h, cell_of_row w b 3 _ 39 (0, 0) h, cell_of_row w b 4 _ 39 (0, 0) h, cell_of_row w b 5 _ 39 (0, 0) h, cell_of_row w b 6 _ 39 (0, 0) h, cell_of_row w b 7 _ 39 (0, 0) h⟩
theorem DP.free (h : DP w b s) (i : Nat) : w.frozen? ⟨b, i, none⟩ = false := frozen_of_row w b i _ 39 h
/-- What a call leaves of the document's pacer. -/
def DLeaves (w w' : World) (b : Nat) (s : PS) : Prop := DP w' b s ∧ Cha (· = b) w w'
theorem dp_set (h : DP w b s) {i : Nat} {x : Int} {s' : PS} (e : (dcells s).setIfInBounds i (.int .u64 x) = dcells s') : DLeaves w (w.setCell ⟨b, i, none⟩ (.int .u64 x)) b s' := by
  refine ⟨?_, Cha.setCell (S := (· = b)) (p := ⟨b, i, none⟩) (Cha.refl _ w) (fun _ => rfl) _⟩
  show (w.setCell ⟨b, i, none⟩ (.int .u64 x)).heap[b]? = some (.cells (dcells s') 39 (0, 0))
  rw [← e]
  exact heap_setCell_same w b i _ 39 _ h
theorem radd_c (w : World) (a b : Int) (ha : isW a) (hb : isW b) : Calls Try.prog 45 #[.int .u64 a, .int .u64 b] w fun e w' => e = .returned (.int .u64 (M.sat (a + b))) ∧ w = w' := radd_any a b w ha.1 ha.2 hb.1 hb.2
theorem rsub_c (w : World) (a b : Int) (ha : isW a) (hb : isW b) : Calls Try.prog 47 #[.int .u64 a, .int .u64 b] w fun e w' => e = .returned (.int .u64 (M.dif a b)) ∧ w = w' := sub_any 47 (.inr rfl) a b w ha.1 ha.2 hb.1 hb.2
theorem trig_eq {v live : Int} (h : live ≤ v) (h0 : 0 ≤ live) (h1 : v ≤ 18446744073709551615) : IntKind.u64.wrap (v - IntKind.u64.wrap (Int.tdiv (IntKind.u64.wrap (v - live)) 4)) = trigG v live := by
  have e : IntKind.u64.wrap (v - live) = v - live := by rw [IntKind.wrap_u64]; omega
  rw [e, Int.tdiv_eq_ediv_of_nonneg (by omega)]
  have e2 : IntKind.u64.wrap ((v - live) / 4) = (v - live) / 4 := by rw [IntKind.wrap_u64]; omega
  unfold trigG
  rw [e2, M.dif_ge h, M.dif_ge (by omega), IntKind.wrap_u64]
  omega
theorem trig_pl {v live : Int} (h : live ≤ v) (h0 : 0 ≤ live) : v - (v - live) / 4 = trigG v live := by
  unfold trigG
  rw [M.dif_ge h]
  unfold M.dif
  split <;> omega
theorem trig_self {live : Int} (h0 : 0 ≤ live) : live = trigG live live := by have := trig_pl (Int.le_refl live) h0; omega
set_option maxHeartbeats 8000000 in
theorem daim_any (h : DP w b s) (o : s.Ok) : Calls Try.prog 43 #[.pointer (some ⟨b, 0, none⟩)] w fun e w' => e = .returned (.tuple #[]) ∧ DLeaves w w' b s.aim := by
  have gg := goalG_ok (g := s.g) o.lim o.live o.roots
  have ge := goalG_ge (g := s.g) (lim := s.lim) o.live o.roots
  have hG : goalG s.g s.lim s.live s.roots = if s.lim = 0 then ownG s.g s.live s.roots else min (ownG s.g s.live s.roots) (max s.lim s.live) := rfl
  have hO : ownG s.g s.live s.roots = if s.g < 0 then 18446744073709551615 else max (M.sat (s.live + M.sat (M.sat (s.live + s.roots) * s.g / 100))) 256 := rfl
  have fin : ∀ (W : World) (v t : Int), v = goalG s.g s.lim s.live s.roots → t = trigG v s.live → Cha (fun _ => False) w W →
      DLeaves w ((W.setCell ⟨b, 5, none⟩ (.int .u64 v)).setCell ⟨b, 6, none⟩ (.int .u64 t)) b s.aim := fun W v t hv ht c => by
    subst hv ht
    have k1 := dp_set (h.same c) (i := 5) (x := goalG s.g s.lim s.live s.roots) (s' := { s with goal := goalG s.g s.lim s.live s.roots }) rfl
    have k2 := dp_set k1.1 (i := 6) (x := trigG (goalG s.g s.lim s.live s.roots) s.live) (s' := s.aim) rfl
    exact ⟨k2.1, c.wide.trans (k1.2.trans k2.2)⟩
  have FIN := Lib.hid fin
  have K : Hid (∀ W, Cha (fun _ => False) w W → W.cell? ⟨b, 0, none⟩ = some (.int .i64 s.g) ∧ W.cell? ⟨b, 1, none⟩ = some (.int .u64 s.lim) ∧ W.cell? ⟨b, 3, none⟩ = some (.int .u64 s.live) ∧ W.cell? ⟨b, 4, none⟩ = some (.int .u64 s.roots) ∧
      W.cell? ⟨b, 5, none⟩ = some (.int .u64 s.goal) ∧ W.cell? ⟨b, 6, none⟩ = some (.int .u64 s.trig) ∧ W.frozen? ⟨b, 5, none⟩ = false ∧ W.frozen? ⟨b, 6, none⟩ = false) :=
    Lib.hid fun W c => by
      obtain ⟨c0, c1, c2, c3, c4, c5, c6, c7⟩ := (h.same c).cells
      exact ⟨c0, c1, c3, c4, c5, c6, (h.same c).free 5, (h.same c).free 6⟩
  obtain ⟨lm0, lm1⟩ := o.lim
  obtain ⟨lv0, lv1⟩ := o.live
  have hg1 := o.g1
  have hg0 := o.g0
  have A1 := Lib.hid fun w => radd_c w s.live s.roots o.live o.roots
  have a := isW_sat (x := s.live + s.roots) (by have := o.live.1; have := o.roots.1; omega)
  by_cases hg : s.g < 0
  · rw [if_pos hg] at hO
    rw [hO] at hG
    obtain ⟨c0, c1, c3, c4, c5, c6, f5, f6⟩ := K.out w (Cha.refl _ _)
    clear h o a A1 K fin hO
    generalize goalG s.g s.lim s.live s.roots = G at *
    generalize s.g = g at *
    generalize s.lim = lm at *
    generalize s.live = live at *
    generalize s.roots = roots at *
    have gd : decide (0 ≤ g) = false := decide_eq_false (by omega)
    have HG := Lib.hid hG
    have GE := Lib.hid ge
    clear hG ge
    go_enter Try.func43, Try.ntmps43
    go_wp2
    all_goals
      go_returns
      exact ⟨rfl, FIN.out _ _ _ (by have := HG.out; split at this <;> omega) (by first | exact trig_self lv0 | exact trig_pl (by omega) lv0 | exact trig_eq (by omega) lv0 (by omega)) (Cha.refl _ _)⟩
  · rw [if_neg hg] at hO
    have b0 : 0 ≤ M.sat (s.live + s.roots) * s.g / 100 := Int.ediv_nonneg (Int.mul_nonneg a.1 (by omega)) (by omega)
    have c := isW_sat b0
    have A2 := Lib.hid fun w => radd_c w s.live (M.sat (M.sat (s.live + s.roots) * s.g / 100)) o.live c
    have d := isW_sat (x := s.live + M.sat (M.sat (s.live + s.roots) * s.g / 100)) (by have := c.1; omega)
    have lx : s.live ≤ M.sat (s.live + M.sat (M.sat (s.live + s.roots) * s.g / 100)) := by
      have := c.1
      generalize M.sat (M.sat (s.live + s.roots) * s.g / 100) = q at *
      unfold M.sat
      split <;> omega
    have P1 := Lib.hid fun w => product_any (M.sat (s.live + s.roots)) s.g w a.1 a.2 (by omega) (by omega)
    have Q1 : Hid (∀ w d0 d1 d2 d3, Digit d0 → Digit d1 → Digit d2 → Digit d3 → M.val d0 d1 d2 d3 = M.sat (s.live + s.roots) * s.g → Calls Try.prog 57 #[.agg #[.int .u64 d0, .int .u64 d1, .int .u64 d2, .int .u64 d3], .int .u64 100] w fun e w' => e = .returned (.int .u64 (M.sat (M.sat (s.live + s.roots) * s.g / 100))) ∧ Grown w w') :=
      Lib.hid fun w d0 d1 d2 d3 g0 g1 g2 g3 hv => by
        have k := quotient_any d0 d1 d2 d3 100 w g0 g1 g2 g3 (by omega) (by omega)
        rw [hv] at k
        exact k
    obtain ⟨c0, c1, c3, c4, c5, c6, f5, f6⟩ := K.out w (Cha.refl _ _)
    rw [hO] at hG
    clear h o fin hO b0
    generalize goalG s.g s.lim s.live s.roots = G at *
    generalize M.sat (s.live + M.sat (M.sat (s.live + s.roots) * s.g / 100)) = x3 at *
    generalize M.sat (M.sat (s.live + s.roots) * s.g / 100) = x2 at *
    generalize M.sat (s.live + s.roots) = x1 at *
    generalize s.g = g at *
    generalize s.lim = lm at *
    generalize s.live = live at *
    generalize s.roots = roots at *
    obtain ⟨dx0, dx1⟩ := d
    have gd : decide (0 ≤ g) = true := decide_eq_true (by omega)
    have hw : IntKind.u64.wrap g = g := by rw [IntKind.wrap_u64]; omega
    have HG := Lib.hid hG
    have GE := Lib.hid ge
    clear hG ge
    go_enter Try.func43, Try.ntmps43
    go_wp2
    go_region_held3 (fun w' => w'.cell? ⟨b, 0, none⟩ = some (.int .i64 g) ∧ w'.cell? ⟨b, 3, none⟩ = some (.int .u64 live) ∧ w'.cell? ⟨b, 4, none⟩ = some (.int .u64 roots))
      (first
        | exact ⟨c0, c3, c4⟩
        | exact ⟨y0, y2, y3⟩
        | go_keep)
      (first
        | (go_at_call 45; (with_reducible refine (A1.out _).mono ?_); rintro e5 w5 ⟨rfl, rfl⟩)
        | (go_at_call 58; (with_reducible refine (P1.out _).mono ?_); rintro e5 w5 ⟨⟨d0, d1, d2, d3, rfl, g0, g1, g2, g3, hv⟩, hg5⟩; have hc5 := ((Cha.refl (fun _ => False) w).drew).trans (Cha.of_grown hg5); obtain ⟨y0, y1, y2, y3, y4, y5, y6, y7⟩ := K.out _ hc5; have HV := Lib.hid hv; clear hv)
        | (go_at_call 57; (with_reducible refine (Q1.out _ _ _ _ _ g0 g1 g2 g3 HV.out).mono ?_); rintro e6 w6 ⟨rfl, hg6⟩; have hc6 := hc5.trans (Cha.of_grown hg6); clear y0 y1 y2 y3 y4 y5 y6 y7; obtain ⟨y0, y1, y2, y3, y4, y5, y6, y7⟩ := K.out _ hc6))
    all_goals
      go_wp2_with (go_at_call 45; (with_reducible refine (A2.out _).mono ?_); rintro e7 w7 ⟨rfl, rfl⟩)
      all_goals
        go_returns
        exact ⟨rfl, FIN.out _ _ _ (by have := HG.out; split at this <;> omega) (by first | exact trig_self lv0 | exact trig_pl (by omega) lv0 | exact trig_eq (by omega) lv0 (by omega)) hc6⟩
end
end Go.Proofs.Ytlpgfdphoiideaa
