/- Contracts: ToInt of the program; that the layer is awake. -/
import Derived.Test.YtmdcdicmlnlenaaC
import Derived.Test.YtmdcdicmlnlenaaT
import Derived.Test.YtmdcdicmlnlenaaB
namespace Go.Proofs.Ytmdcdicmlnlenaa
open Go.ChangeShapes Go.WideShapes Go.ChangeAt Go.RowKit

theorem ftoi_bd (a : Nat) : -9223372036854775808 ≤ ftoi a ∧ ftoi a ≤ 9223372036854775807 := by
  unfold ftoi
  cases h : isn a
  · by_cases h1 : 9223372036854775808 * (U : Int) ≤ ival a
    · simp [h1]
    · by_cases h2 : ival a < -9223372036854775808 * (U : Int)
      · simp only [h1, h2]; simp
      · have := conv_fin a h h1 h2
        have w := floatToIntVal_wf this
        simp only [h1, h2, Bool.false_eq_true, if_false]
        exact (Lit.wf_int_iff _ _).1 w
  · simp
theorem toInt_any (a : Int) (w : World) : Calls Try.prog 37 #[.int .u64 a] w fun e w' => e = .returned (.int .i64 (ftoi a.toNat)) ∧ w = w' := by
  have C1 : ∀ w, Calls Try.prog 57 #[.float .f64 a.toNat] w fun e w' => e = .returned (.bool (isn a.toNat)) ∧ w = w' := fun w => isNaN_any _ w
  have F : ftoi a.toNat = if isn a.toNat then 0 else if 9223372036854775808 * (U : Int) ≤ ival a.toNat then 9223372036854775807 else if ival a.toNat < -9223372036854775808 * (U : Int) then -9223372036854775808 else sgi (sg a.toNat) (uval (rg a.toNat) / U) := rfl
  cases h : isn a.toNat
  case true =>
    rw [h] at C1 F
    have C1' := Lib.hid C1
    have F' := Lib.hid F
    clear C1 F h
    go_enter Try.func37, Try.ntmps37
    go_wp2_with (first
      | (go_at_call 42; refine (value_any _ _).mono ?_; rintro e w1 ⟨rfl, rfl⟩)
      | (go_at_call 57; ((with_reducible refine (C1'.out _).mono ?_); rintro e w1 ⟨rfl, rfl⟩)))
    go_ret
    exact ⟨ret_int (by rw [F'.out]; rfl), rfl⟩
  case false =>
    have B1 := ge_cases a.toNat 4890909195324358656 h (by decide +kernel)
    have B0 := lt_case a.toNat 4890909195324358656 h (by decide +kernel)
    rw [ival_big] at B1 B0
    have B2 : (FloatKind.f64.format.order a.toNat 14114281232179134464 == some .lt) = decide (ival a.toNat < -9223372036854775808 * (U : Int)) := small_lt a.toNat h
    have B3 := conv_fin a.toNat h
    rw [h] at C1 F
    simp only [Bool.false_eq_true, if_false] at F
    have C1' := Lib.hid C1
    by_cases h1 : 9223372036854775808 * (U : Int) ≤ ival a.toNat
    · rw [if_pos h1] at F
      have F' := Lib.hid F
      rcases B1 h1 with G1 | ⟨G1, G2⟩
      all_goals
        clear C1 F h B0 B1 B2 B3 h1
        go_enter Try.func37, Try.ntmps37
        go_wp2_with (first
          | (go_at_call 42; refine (value_any _ _).mono ?_; rintro e w1 ⟨rfl, rfl⟩)
          | (go_at_call 57; ((with_reducible refine (C1'.out _).mono ?_); rintro e w1 ⟨rfl, rfl⟩)))
        go_ret
        exact ⟨ret_int (by rw [F'.out]), rfl⟩
    · rw [if_neg h1] at F
      obtain ⟨G1, G2⟩ := B0 h1
      by_cases h2 : ival a.toNat < -9223372036854775808 * (U : Int)
      · rw [if_pos h2] at F
        rw [decide_eq_true h2] at B2
        have F' := Lib.hid F
        clear C1 F h B0 B1 B3 h1 h2
        go_enter Try.func37, Try.ntmps37
        go_wp2_with (first
          | (go_at_call 42; refine (value_any _ _).mono ?_; rintro e w1 ⟨rfl, rfl⟩)
          | (go_at_call 57; ((with_reducible refine (C1'.out _).mono ?_); rintro e w1 ⟨rfl, rfl⟩)))
        go_ret
        exact ⟨ret_int (by rw [F'.out]), rfl⟩
      · rw [if_neg h2] at F
        rw [decide_eq_false h2] at B2
        have B4 := B3 h1 h2
        rw [← F] at B4
        have B5 : ∀ w, (convert 36 3 (.float .f64 a.toNat)).run Try.prog w = .ok (.int .i64 (ftoi a.toNat)) w := fun w => run_convert_float_int w 36 3 .f64 .i64 a.toNat _ (by kernel_rfl) Try.underlying3 B4
        clear C1 F h B0 B1 B3 B4 h1 h2
        generalize ftoi a.toNat = n at *
        go_enter Try.func37, Try.ntmps37
        go_wp2_with (first
          | (go_at_call 42; refine (value_any _ _).mono ?_; rintro e w1 ⟨rfl, rfl⟩)
          | (go_at_call 57; ((with_reducible refine (C1'.out _).mono ?_); rintro e w1 ⟨rfl, rfl⟩)))
        go_ret
        exact ⟨ret_int rfl, rfl⟩
end Go.Proofs.Ytmdcdicmlnlenaa
