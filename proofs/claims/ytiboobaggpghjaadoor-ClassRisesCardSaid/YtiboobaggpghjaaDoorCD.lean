/- ClassRises, walked. -/
import Derived.Test.YtiboobaggpghjaaDoorCC
namespace Go.Proofs.YtiboobaggpghjaaDoor
open Go.ChangeShapes Go.WideShapes Go.ChangeAt Go.RowKit

theorem cof_mono {i j : Nat} (h1 : 1 ≤ i) (h2 : i ≤ j) (h3 : j < 65) : cof i ≤ cof j := by
  obtain ⟨a1, a2, a3⟩ := cof_ok i (by omega) h1
  obtain ⟨b1, b2, b3⟩ := cof_ok j h3 (by omega)
  by_cases c : cof j < cof i
  · have := a3 _ c; omega
  · omega
set_option maxRecDepth 100000 in
set_option maxHeartbeats 4000000 in
theorem rises_walk (a b : Int) (w : World) (ha : 0 ≤ a ∧ a ≤ 255) (hb : 0 ≤ b ∧ b ≤ 255) (hs : Siz w) : Calls Tryd.prog 5 #[.int .u8 a, .int .u8 b] w fun e w' => e = .returned (.bool true) ∧ w = w' := by
  obtain ⟨i, hi⟩ : ∃ i : Nat, a % 64 + 1 = (i : Int) := ⟨(a % 64 + 1).toNat, by omega⟩
  obtain ⟨j, hj⟩ : ∃ j : Nat, b % 64 + 1 = (j : Int) := ⟨(b % 64 + 1).toNat, by omega⟩
  obtain ⟨q1, _⟩ := cof_ok i (by omega) (by omega)
  obtain ⟨r1, _⟩ := cof_ok j (by omega) (by omega)
  have C11 := of_any (a % 64 + 1) (by omega) hs
  have D11 := of_any (b % 64 + 1) (by omega) hs
  rw [if_pos (by omega), if_pos (by omega), show (a % 64 + 1).toNat = i by omega] at C11
  rw [if_pos (by omega), if_pos (by omega), show (b % 64 + 1).toNat = j by omega] at D11
  have C11 := Lib.hid C11
  have D11 := Lib.hid D11
  have A13 := Lib.hid (awake6_any hs)
  have C14 := Lib.hid (words_in _ q1 hs)
  have C16 := Lib.hid (pages_in _ q1 hs)
  have C18 := Lib.hid (cells_in _ q1 hs)
  have C20 := Lib.hid (count6 w)
  have E14 : Hid (Calls Tryd.prog 14 #[.int .i64 16] w fun e w' => e = .returned (.int .i64 0) ∧ w = w') := Lib.hid (words_out 16 (by omega) w)
  have E16 : Hid (Calls Tryd.prog 16 #[.int .i64 16] w fun e w' => e = .returned (.int .i64 0) ∧ w = w') := Lib.hid (pages_out 16 (by omega) w)
  have E18 : Hid (Calls Tryd.prog 18 #[.int .i64 16] w fun e w' => e = .returned (.int .i64 0) ∧ w = w') := Lib.hid (cells_out 16 (by omega) w)
  have F14 : Hid (Calls Tryd.prog 14 #[.int .i64 (-1)] w fun e w' => e = .returned (.int .i64 0) ∧ w = w') := Lib.hid (words_out (-1) (by omega) w)
  have G14 : Hid (Calls Tryd.prog 14 #[.int .i64 15] w fun e w' => e = .returned (.int .i64 64) ∧ w = w') := Lib.hid (words_in 15 (by omega) hs)
  obtain ⟨k1, k2, k3, k4, k5, k6, k7, k8, k9⟩ := cw_ok _ q1
  have hm : ((ccl (cof i) * cw (cof i) : Nat) : Int) = (cw (cof i) : Int) * (ccl (cof i) : Int) := by rw [Nat.mul_comm]; exact Int.natCast_mul _ _
  have hm2 : ((ccl (cof i) * cw (cof i) + cw (cof i) : Nat) : Int) = (cw (cof i) : Int) * ((ccl (cof i) : Int) + 1) := by rw [Int.natCast_add, hm, Int.mul_add, Int.mul_one]
  obtain ⟨x, hx⟩ : ∃ x : Int, (cw (cof i) : Int) * (ccl (cof i) : Int) = x := ⟨_, rfl⟩
  obtain ⟨y, hy⟩ : ∃ y : Int, (cw (cof i) : Int) * ((ccl (cof i) : Int) + 1) = y := ⟨_, rfl⟩
  have h1 : 0 ≤ x := by omega
  have h2 : x ≤ 64 * (cpg (cof i) : Int) := by omega
  have h3 : 64 * (cpg (cof i) : Int) < y := by omega
  have h4 : y ≤ 64 * (cpg (cof i) : Int) + 64 := by omega
  have hab : (a % 64 ≤ b % 64 ∧ ¬ (cof j : Int) < (cof i : Int)) ∨ ¬ (a % 64 ≤ b % 64) := by
    by_cases c : a % 64 ≤ b % 64
    · have := cof_mono (i := i) (j := j) (by omega) (by omega) (by omega)
      exact .inl ⟨c, by omega⟩
    · exact .inr c
  obtain ⟨ha0, ha1⟩ := ha
  obtain ⟨hb0, hb1⟩ := hb
  have hi1 : 0 ≤ a % 64 := by omega
  have hi2 : a % 64 < 64 := by omega
  have hj1 : 0 ≤ b % 64 := by omega
  have hj2 : b % 64 < 64 := by omega
  clear hm hm2 k7 k8 k9 hi hj hs
  generalize cw (cof i) = s at *
  generalize cpg (cof i) = p at *
  generalize ccl (cof i) = k at *
  generalize cof i = ci at *
  generalize cof j = cj at *
  rcases hab with ⟨c1, c2⟩ | c1
  all_goals
    go_enter Tryd.func5, Tryd.ntmps5
    go_wp2_with (first
      | (go_at_call 11; ((with_reducible refine (C11.out).mono ?_); rintro e w1 ⟨rfl, rfl⟩; clear C11))
      | (go_at_call 11; ((with_reducible refine (D11.out).mono ?_); rintro e w1 ⟨rfl, rfl⟩))
      | (go_at_call 13; ((with_reducible refine (A13.out).mono ?_); rintro e w1 ⟨rfl, rfl⟩))
      | (go_at_call 14; ((with_reducible refine (C14.out).mono ?_); rintro e w1 ⟨rfl, rfl⟩))
      | (go_at_call 14; ((with_reducible refine (E14.out).mono ?_); rintro e w1 ⟨rfl, rfl⟩))
      | (go_at_call 14; ((with_reducible refine (F14.out).mono ?_); rintro e w1 ⟨rfl, rfl⟩))
      | (go_at_call 14; ((with_reducible refine (G14.out).mono ?_); rintro e w1 ⟨rfl, rfl⟩))
      | (go_at_call 16; ((with_reducible refine (C16.out).mono ?_); rintro e w1 ⟨rfl, rfl⟩))
      | (go_at_call 16; ((with_reducible refine (E16.out).mono ?_); rintro e w1 ⟨rfl, rfl⟩))
      | (go_at_call 18; ((with_reducible refine (C18.out).mono ?_); rintro e w1 ⟨rfl, rfl⟩))
      | (go_at_call 18; ((with_reducible refine (E18.out).mono ?_); rintro e w1 ⟨rfl, rfl⟩))
      | (go_at_call 20; ((with_reducible refine (C20.out).mono ?_); rintro e w1 ⟨rfl, rfl⟩)))
    go_ret
    exact ⟨rfl, rfl⟩
end Go.Proofs.YtiboobaggpghjaaDoor
