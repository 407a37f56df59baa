/- PacerFixed, PacerBounds. -/
import Derived.Test.YtlpgfdphoiideaaPD
namespace Go.Proofs.Ytlpgfdphoiideaa
open Go.ChangeShapes Go.WideShapes Go.ChangeAt Go.RowKit
section
variable {w : World} {b : Nat} {s : PS}
theorem PP.other {b' : Nat} {w' : World} (h : PP w b s) (c : Cha (· = b') w w') (n : b ≠ b') : PP w' b s := (c.old _ h.lt n).trans h
theorem isW_k {x : Int} (h : 0 ≤ x) (k : x ≤ 18446744073709551615) : isW x := ⟨h, k⟩
theorem c24 {a b1 c d : Int} (h : PP w b s) (e1 : s.heap = a) (e2 : s.goal = b1) (e3 : s.trig = c) (e4 : s.ratio = d) : Calls Try.prog 24 #[.pointer (some ⟨b, 0, none⟩)] w fun e w' => e = .returned (.tuple #[.int .u64 a, .int .u64 b1, .int .u64 c, .int .u64 d]) ∧ Cha (fun _ => False) w w' := by
  have k := counts_any h
  rwa [e1, e2, e3, e4] at k
theorem fixed_walk (w : World) : Calls Try.prog 8 #[] w fun e w' => e = .returned (.bool true) ∧ Cha (fun _ => False) w w' := by
  have AW := Lib.hid awake
  have h300 : isW 300 := isW_k (by omega) (by omega)
  have h20 : isW 20 := isW_k (by omega) (by omega)
  have h900 : isW 900 := isW_k (by omega) (by omega)
  have h400 : isW 400 := isW_k (by omega) (by omega)
  have o1 : (PS.new 100 400).Ok := PS.ok_new (by omega) h400
  go_enter Try.func8, Try.ntmps8
  go_wp2_with (first
    | (go_at_call 13; (with_reducible refine (new_any _ 100 0 (by omega) isW_0).mono ?_); rintro e w1 ⟨rfl, hp1, hc1⟩; have HP1 := Lib.hid hp1; have HC1 := Lib.hid hc1; clear hp1 hc1)
    | (go_at_call 22; (with_reducible refine (end_any HP1.out ok_s0 300 20 h300 h20).mono ?_); rintro e w2 ⟨rfl, hp2, hc2⟩; have HP2 := Lib.hid hp2; have HC2 := Lib.hid hc2; clear hp2 hc2)
    | (go_at_call 24; (with_reducible refine (c24 (b1 := 620) (c := 540) (d := 0) (a := 0) HP2.out rfl rfl rfl rfl).mono ?_); rintro e w3 ⟨rfl, hc3⟩; have HC3 := Lib.hid hc3; clear hc3)
    | (go_at_call 13; (with_reducible refine (new_any _ (-1) 0 (by omega) isW_0).mono ?_); rintro e w4 ⟨rfl, hp4, hc4⟩; have HP4 := Lib.hid hp4; have HC4 := Lib.hid hc4; clear hp4 hc4)
    | (go_at_call 13; (with_reducible refine (new_any _ 100 400 (by omega) h400).mono ?_); rintro e w5 ⟨rfl, hp5, hc5⟩; have HP5 := Lib.hid hp5; have HQ5 := Lib.hid (PP.same HP4.out hc5); have HC5 := Lib.hid hc5; clear hp5 hc5)
    | (go_at_call 24; (with_reducible refine (c24 (a := 0) (b1 := 18446744073709551615) (c := 13835058055282163712) (d := 0) HQ5.out rfl rfl rfl rfl).mono ?_); rintro e w6 ⟨rfl, hc6⟩; have HP6 := Lib.hid (PP.same HP5.out hc6); have HC6 := Lib.hid hc6; clear hc6)
    | (go_at_call 22; (with_reducible refine (end_any HP6.out o1 300 20 h300 h20).mono ?_); rintro e w7 ⟨rfl, hp7, hc7⟩; have HP7 := Lib.hid hp7; have HC7 := Lib.hid hc7; clear hp7 hc7)
    | (go_at_call 24; (with_reducible refine (c24 (a := 0) (b1 := 400) (c := 375) (d := 0) HP7.out rfl rfl rfl rfl).mono ?_); rintro e w8 ⟨rfl, hc8⟩; have HP8 := Lib.hid (PP.same HP7.out hc8); have HC8 := Lib.hid hc8; clear hc8)
    | (go_at_call 22; (with_reducible refine (end_any HP8.out (o1.fin h300 h20) 900 20 h900 h20).mono ?_); rintro e w9 ⟨rfl, hp9, hc9⟩; have HP9 := Lib.hid hp9; have HC9 := Lib.hid hc9; clear hp9 hc9)
    | (go_at_call 24; (with_reducible refine (c24 (a := 0) (b1 := 900) (c := 900) (d := 0) HP9.out rfl rfl rfl rfl).mono ?_); rintro e w10 ⟨rfl, hc10⟩; have HC10 := Lib.hid hc10; clear hc10)
    | (go_at_call 15; (with_reducible refine (AW.out _).mono ?_); rintro e w11 ⟨rfl, hc11⟩; have HC11 := Lib.hid hc11; clear hc11))
  go_returns
  have k2 := (HC1.out.over HC2.out fun i hi => .inr (by omega)).trans HC3.out
  have k5 := (k2.trans HC4.out).trans HC5.out
  have s4 : w.heap.size ≤ w4.heap.size := (k2.trans HC4.out).size
  have k7 := (k5.trans HC6.out).over HC7.out fun i hi => .inr (by omega)
  have k9 := (k7.trans HC8.out).over HC9.out fun i hi => .inr (by omega)
  exact ⟨rfl, (k9.trans HC10.out).trans HC11.out⟩

theorem ownG_ge {g live roots : Int} (h : isW live) (k : isW roots) : live ≤ ownG g live roots := by
  unfold ownG
  split
  · exact h.2
  · rename_i hg
    have a := isW_sat (x := live + roots) (by have := h.1; have := k.1; omega)
    have b : 0 ≤ M.sat (live + roots) * g / 100 := Int.ediv_nonneg (Int.mul_nonneg a.1 (by omega)) (by omega)
    have c := isW_sat b
    generalize M.sat (M.sat (live + roots) * g / 100) = x at *
    have := h.2
    have := c.1
    unfold M.sat
    split <;> omega
theorem goalG_ge {g lim live roots : Int} (h : isW live) (k : isW roots) : live ≤ goalG g lim live roots := by
  have := ownG_ge (g := g) h k
  unfold goalG
  split <;> omega
theorem goalG_le {g lim live roots : Int} (hz : lim ≠ 0) : goalG g lim live roots ≤ max lim live := by
  unfold goalG
  rw [if_neg hz]
  omega
theorem ownG_mono {g g' live roots : Int} (h0 : 0 ≤ g) (hg : g ≤ g') (h : isW live) (k : isW roots) : ownG g live roots ≤ ownG g' live roots := by
  unfold ownG
  rw [if_neg (by omega), if_neg (by omega)]
  have a := isW_sat (x := live + roots) (by have := h.1; have := k.1; omega)
  have m : M.sat (M.sat (live + roots) * g / 100) ≤ M.sat (M.sat (live + roots) * g' / 100) :=
    M.sat_mono (Int.ediv_le_ediv (by omega) (Int.mul_le_mul_of_nonneg_left hg a.1))
  have := M.sat_mono (x := live + M.sat (M.sat (live + roots) * g / 100)) (y := live + M.sat (M.sat (live + roots) * g' / 100)) (by omega)
  omega
theorem goalG_mono {g g' lim live roots : Int} (h0 : 0 ≤ g) (hg : g ≤ g') (h : isW live) (k : isW roots) : goalG g lim live roots ≤ goalG g' lim live roots := by
  have := ownG_mono h0 hg h k
  unfold goalG
  split <;> omega
theorem trigG_bd {goal live : Int} (h : live ≤ goal) (h0 : 0 ≤ live) : live ≤ trigG goal live ∧ trigG goal live ≤ goal := by
  unfold trigG
  rw [M.dif_ge h]
  have : (goal - live) / 4 ≤ goal - live := by omega
  have : 0 ≤ (goal - live) / 4 := by omega
  rw [M.dif_ge (by omega)]
  omega
set_option maxHeartbeats 1000000 in
theorem bounds_walk (g lim live roots : Int) (w : World) (g0 : 0 ≤ g) (g1 : g ≤ 65535) (hl : isW lim) (hv : isW live) (hr : isW roots) :
    Calls Try.prog 4 #[.int .u16 g, .int .u64 lim, .int .u64 live, .int .u64 roots] w fun e w' => e = .returned (.bool true) ∧ Cha (fun _ => False) w w' := by
  have AW := Lib.hid awake
  have N1 := Lib.hid fun w => new_any w g lim (by omega) hl
  have N2 := Lib.hid fun w => new_any w (g + 1) lim (by omega) hl
  have O1 : (PS.new g lim).Ok := PS.ok_new (by omega) hl
  have O2 : (PS.new (g + 1) lim).Ok := PS.ok_new (by omega) hl
  have e1 : ((PS.new g lim).fin live roots).goal = goalG g lim live roots := by show goalG (min g 1048576) _ _ _ = _; rw [show min g 1048576 = g by omega]; rfl
  have e2 : ((PS.new (g + 1) lim).fin live roots).goal = goalG (g + 1) lim live roots := by show goalG (min (g + 1) 1048576) _ _ _ = _; rw [show min (g + 1) 1048576 = g + 1 by omega]; rfl
  have e3 : ((PS.new g lim).fin live roots).trig = trigG (goalG g lim live roots) live := by show trigG (goalG (min g 1048576) _ _ _) _ = _; rw [show min g 1048576 = g by omega]; rfl
  have a1 := goalG_ge (g := g) (lim := lim) hv hr
  have a2 := trigG_bd a1 hv.1
  have a3 := goalG_mono (lim := lim) g0 (show g ≤ g + 1 by omega) hv hr
  have a4 : lim ≠ 0 → goalG g lim live roots ≤ max lim live := goalG_le
  obtain ⟨G2, hG2⟩ : ∃ x, x = ((PS.new (g + 1) lim).fin live roots).goal := ⟨_, rfl⟩
  obtain ⟨T2, hT2⟩ : ∃ x, x = ((PS.new (g + 1) lim).fin live roots).trig := ⟨_, rfl⟩
  rw [← e3, ← e1] at a2
  rw [← e1, ← e2, ← hG2] at a3
  rw [← e1] at a1 a4
  obtain ⟨G1, hG1⟩ : ∃ x, x = ((PS.new g lim).fin live roots).goal := ⟨_, rfl⟩
  obtain ⟨T1, hT1⟩ : ∃ x, x = ((PS.new g lim).fin live roots).trig := ⟨_, rfl⟩
  rw [← hG1] at a1 a2 a3 a4
  rw [← hT1] at a2
  have C1 : Hid (∀ w b, PP w b ((PS.new g lim).fin live roots) → Calls Try.prog 24 #[.pointer (some ⟨b, 0, none⟩)] w fun e w' => e = .returned (.tuple #[.int .u64 0, .int .u64 G1, .int .u64 T1, .int .u64 0]) ∧ Cha (fun _ => False) w w') :=
    Lib.hid fun w b h => c24 h rfl hG1.symm hT1.symm rfl
  have C2 : Hid (∀ w b, PP w b ((PS.new (g + 1) lim).fin live roots) → Calls Try.prog 24 #[.pointer (some ⟨b, 0, none⟩)] w fun e w' => e = .returned (.tuple #[.int .u64 0, .int .u64 G2, .int .u64 T2, .int .u64 0]) ∧ Cha (fun _ => False) w w') :=
    Lib.hid fun w b h => c24 h rfl hG2.symm hT2.symm rfl
  clear hG1 hT1 hG2 hT2 e1 e2 e3
  have d1 : decide (live ≤ T1) = true := decide_eq_true a2.1
  have d2 : decide (T1 ≤ G1) = true := decide_eq_true a2.2
  have d3 : decide (live ≤ G1) = true := decide_eq_true a1
  have d5 : decide (G1 ≤ G2) = true := decide_eq_true a3
  have hw1 : IntKind.i64.wrap g = g := by rw [IntKind.wrap_i64]; omega
  have hw2 : IntKind.i64.wrap (g + 1) = g + 1 := by rw [IntKind.wrap_i64]; omega
  have HA2 := Lib.hid a2
  clear a1 a2 a3
  by_cases hz : lim = 0
  all_goals
    have hz1 : (lim == 0) = decide (lim = 0) := rfl
    first
    | rw [decide_eq_true hz] at hz1
    | rw [decide_eq_false hz] at hz1
    have d4 : lim ≠ 0 → decide (G1 ≤ max lim live) = true := fun h => decide_eq_true (a4 h)
    first
    | replace d4 := d4 hz
    | clear d4
    clear a4 hz
    go_enter Try.func4, Try.ntmps4
    go_wp2_with (first
      | (go_at_call 13; (with_reducible refine (N1.out _).mono ?_); rintro e w1 ⟨rfl, hp1, hc1⟩; have HP1 := Lib.hid hp1; have HC1 := Lib.hid hc1; clear hp1 hc1)
      | (go_at_call 13; (with_reducible refine (N2.out _).mono ?_); rintro e w2 ⟨rfl, hp2, hc2⟩; have HP2 := Lib.hid hp2; have HQ2 := Lib.hid (PP.same HP1.out hc2); have HC2 := Lib.hid hc2; clear hp2 hc2)
      | (go_at_call 15; (with_reducible refine (AW.out _).mono ?_); rintro e w3 ⟨rfl, hc3⟩; have HP3 := Lib.hid (PP.same HP2.out hc3); have HQ3 := Lib.hid (PP.same HQ2.out hc3); have HC3 := Lib.hid hc3; clear hc3)
      | (go_at_call 22; (with_reducible refine (end_any HQ3.out O1 _ _ hv hr).mono ?_); rintro e w4 ⟨rfl, hp4, hc4⟩; have HQ4 := Lib.hid hp4; have HP4 := Lib.hid (PP.other HP3.out hc4 (by have := HP1.out.lt; omega)); have HC4 := Lib.hid hc4; clear hp4 hc4)
      | (go_at_call 22; (with_reducible refine (end_any (s := PS.new (g + 1) lim) HP4.out O2 _ _ hv hr).mono ?_); rintro e w5 ⟨rfl, hp5, hc5⟩; have HP5 := Lib.hid hp5; have HQ5 := Lib.hid (PP.other HQ4.out hc5 (by have := HP1.out.lt; omega)); have HC5 := Lib.hid hc5; clear hp5 hc5)
      | (go_at_call 24; (with_reducible refine (C1.out _ _ HQ5.out).mono ?_); rintro e w6 ⟨rfl, hc6⟩; have HP6 := Lib.hid (PP.same HP5.out hc6); have HC6 := Lib.hid hc6; clear hc6)
      | (go_at_call 24; (with_reducible refine (C2.out _ _ HP6.out).mono ?_); rintro e w7 ⟨rfl, hc7⟩; have HC7 := Lib.hid hc7; clear hc7))
    go_returns
    have k3 := ((HC1.out.trans HC2.out).trans HC3.out)
    have k4 := k3.over HC4.out fun i hi => .inr (by omega)
    have s1 := HC1.out.size
    have k5 := k4.over HC5.out fun i hi => .inr (by omega)
    exact ⟨rfl, (k5.trans HC6.out).trans HC7.out⟩
end
end Go.Proofs.Ytlpgfdphoiideaa
