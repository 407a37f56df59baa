/- The walk of the closed statement of layer 2. -/
import Derived.Test.YtmdcdicmlnlenaaE
namespace Go.Proofs.Ytmdcdicmlnlenaa
open Go.ChangeShapes Go.WideShapes Go.ChangeAt Go.RowKit

theorem fx0 (w : World) : Calls Try.prog 15 #[.int .u64 9218868437227405312, .int .u64 9218868437227405312] w fun e w' => e = .returned (.int .u64 9221120237041090561) ∧ Grown w w' :=
  (sub_any _ _ w).mono fun e w' h => ⟨h.1.trans (ret_int (by decide +kernel)), h.2⟩
theorem fx1 (w : World) : Calls Try.prog 13 #[.int .u64 9223372036854775808, .int .u64 9223372036854775808] w fun e w' => e = .returned (.int .u64 9223372036854775808) ∧ Grown w w' :=
  (add_any _ _ w).mono fun e w' h => ⟨h.1.trans (ret_int (by decide +kernel)), h.2⟩
theorem fx2 (w : World) : Calls Try.prog 13 #[.int .u64 9223372036854775808, .int .u64 0] w fun e w' => e = .returned (.int .u64 0) ∧ Grown w w' :=
  (add_any _ _ w).mono fun e w' h => ⟨h.1.trans (ret_int (by decide +kernel)), h.2⟩
theorem fx3 (w : World) : Calls Try.prog 17 #[.int .u64 9218868437227405312, .int .u64 0] w fun e w' => e = .returned (.int .u64 9221120237041090561) ∧ Grown w w' :=
  (mul_any _ _ w).mono fun e w' h => ⟨h.1.trans (ret_int (by decide +kernel)), h.2⟩
theorem fx4 (w : World) : Calls Try.prog 19 #[.int .u64 4607182418800017408, .int .u64 0] w fun e w' => e = .returned (.int .u64 9218868437227405312) ∧ Grown w w' :=
  (div_any _ _ w).mono fun e w' h => ⟨h.1.trans (ret_int (by decide +kernel)), h.2⟩
theorem fx5 (w : World) : Calls Try.prog 19 #[.int .u64 4607182418800017408, .int .u64 9223372036854775808] w fun e w' => e = .returned (.int .u64 18442240474082181120) ∧ Grown w w' :=
  (div_any _ _ w).mono fun e w' h => ⟨h.1.trans (ret_int (by decide +kernel)), h.2⟩
theorem fx6 (w : World) : Calls Try.prog 17 #[.int .u64 1, .int .u64 4602678819172646912] w fun e w' => e = .returned (.int .u64 0) ∧ Grown w w' :=
  (mul_any _ _ w).mono fun e w' h => ⟨h.1.trans (ret_int (by decide +kernel)), h.2⟩
theorem fx7 (w : World) : Calls Try.prog 13 #[.int .u64 1, .int .u64 1] w fun e w' => e = .returned (.int .u64 2) ∧ Grown w w' :=
  (add_any _ _ w).mono fun e w' h => ⟨h.1.trans (ret_int (by decide +kernel)), h.2⟩
theorem fx8 (w : World) : Calls Try.prog 27 #[.int .u64 0, .int .u64 9223372036854775808] w fun e w' => e = .returned (.int .u64 9223372036854775808) ∧ w = w' :=
  (min_any _ _ w (by omega) (by omega) (by omega) (by omega)).mono fun e w' h => ⟨h.1.trans (ret_int (by decide +kernel)), h.2⟩
theorem fx9 (w : World) : Calls Try.prog 30 #[.int .u64 9223372036854775808, .int .u64 0] w fun e w' => e = .returned (.int .u64 0) ∧ w = w' :=
  (max_any _ _ w (by omega) (by omega)).mono fun e w' h => ⟨h.1.trans (ret_int (by decide +kernel)), h.2⟩
theorem fx10 (w : World) : Calls Try.prog 37 #[.int .u64 4613712638259704627] w fun e w' => e = .returned (.int .i64 2) ∧ w = w' :=
  (toInt_any _ w).mono fun e w' h => ⟨h.1.trans (ret_int (by decide +kernel)), h.2⟩
theorem fx11 (w : World) : Calls Try.prog 37 #[.int .u64 13837084675114480435] w fun e w' => e = .returned (.int .i64 (-2)) ∧ w = w' :=
  (toInt_any _ w).mono fun e w' h => ⟨h.1.trans (ret_int (by decide +kernel)), h.2⟩
theorem fx12 (w : World) : Calls Try.prog 37 #[.int .u64 9218868437227405312] w fun e w' => e = .returned (.int .i64 9223372036854775807) ∧ w = w' :=
  (toInt_any _ w).mono fun e w' h => ⟨h.1.trans (ret_int (by decide +kernel)), h.2⟩
theorem fx13 (w : World) : Calls Try.prog 37 #[.int .u64 18442240474082181120] w fun e w' => e = .returned (.int .i64 (-9223372036854775808)) ∧ w = w' :=
  (toInt_any _ w).mono fun e w' h => ⟨h.1.trans (ret_int (by decide +kernel)), h.2⟩
theorem fx14 (w : World) : Calls Try.prog 35 #[.int .i64 9007199254740993] w fun e w' => e = .returned (.int .u64 4845873199050653696) ∧ w = w' :=
  (fromInt_any _ w).mono fun e w' h => ⟨h.1.trans (ret_int (by decide +kernel)), h.2⟩
theorem fx15 (w : World) : Calls Try.prog 35 #[.int .i64 9007199254740992] w fun e w' => e = .returned (.int .u64 4845873199050653696) ∧ w = w' :=
  (fromInt_any _ w).mono fun e w' h => ⟨h.1.trans (ret_int (by decide +kernel)), h.2⟩
theorem fx16 (w : World) : Calls Try.prog 39 #[.int .u64 1] w fun e w' => e = .returned (.int .i64 1) ∧ w = w' :=
  (class_any _ w (by omega) (by omega)).mono fun e w' h => ⟨h.1.trans (ret_int (by decide +kernel)), h.2⟩
theorem fx17 (w : World) : Calls Try.prog 39 #[.int .u64 9223372036854775808] w fun e w' => e = .returned (.int .i64 0) ∧ w = w' :=
  (class_any _ w (by omega) (by omega)).mono fun e w' h => ⟨h.1.trans (ret_int (by decide +kernel)), h.2⟩
theorem fx18 (w : World) : Calls Try.prog 25 #[.int .u64 9221120237041090561, .int .u64 9218868437227405312] w fun e w' => e = .returned (.int .i64 1) ∧ w = w' :=
  (order_any _ _ w (by omega) (by omega)).mono fun e w' h => ⟨h.1.trans (ret_int (by decide +kernel)), h.2⟩
theorem fx19 (w : World) : Calls Try.prog 32 #[.int .u64 9218868437227405313] w fun e w' => e = .returned (.int .u64 9221120237041090561) ∧ w = w' :=
  (canon_any _ w).mono fun e w' h => ⟨h.1.trans (ret_int (by decide +kernel)), h.2⟩
theorem fx20 (w : World) : Calls Try.prog 17 #[.int .u64 9218868437227405311, .int .u64 4611686018427387904] w fun e w' => e = .returned (.int .u64 9218868437227405312) ∧ Grown w w' :=
  (mul_any _ _ w).mono fun e w' h => ⟨h.1.trans (ret_int (by decide +kernel)), h.2⟩

set_option maxHeartbeats 2000000 in
theorem fixed_walk (w : World) : Calls Try.prog 11 #[] w fun e w' => e = .returned (.bool true) ∧ Grown w w' := by
  go_enter Try.func11, Try.ntmps11
  go_wp2_with (first
    | (go_at_call 12; refine (awake _).mono ?_; rintro e w9 ⟨rfl, hg⟩)
    | (go_at_call 15; ((with_reducible refine (fx0 _).mono ?_); rintro e w1 ⟨rfl, hg⟩))
    | (go_at_call 13; ((with_reducible refine (fx1 _).mono ?_); rintro e w1 ⟨rfl, hg⟩))
    | (go_at_call 13; ((with_reducible refine (fx2 _).mono ?_); rintro e w1 ⟨rfl, hg⟩))
    | (go_at_call 17; ((with_reducible refine (fx3 _).mono ?_); rintro e w1 ⟨rfl, hg⟩))
    | (go_at_call 19; ((with_reducible refine (fx4 _).mono ?_); rintro e w1 ⟨rfl, hg⟩))
    | (go_at_call 19; ((with_reducible refine (fx5 _).mono ?_); rintro e w1 ⟨rfl, hg⟩))
    | (go_at_call 17; ((with_reducible refine (fx6 _).mono ?_); rintro e w1 ⟨rfl, hg⟩))
    | (go_at_call 13; ((with_reducible refine (fx7 _).mono ?_); rintro e w1 ⟨rfl, hg⟩))
    | (go_at_call 27; ((with_reducible refine (fx8 _).mono ?_); rintro e w1 ⟨rfl, rfl⟩))
    | (go_at_call 30; ((with_reducible refine (fx9 _).mono ?_); rintro e w1 ⟨rfl, rfl⟩))
    | (go_at_call 37; ((with_reducible refine (fx10 _).mono ?_); rintro e w1 ⟨rfl, rfl⟩))
    | (go_at_call 37; ((with_reducible refine (fx11 _).mono ?_); rintro e w1 ⟨rfl, rfl⟩))
    | (go_at_call 37; ((with_reducible refine (fx12 _).mono ?_); rintro e w1 ⟨rfl, rfl⟩))
    | (go_at_call 37; ((with_reducible refine (fx13 _).mono ?_); rintro e w1 ⟨rfl, rfl⟩))
    | (go_at_call 35; ((with_reducible refine (fx14 _).mono ?_); rintro e w1 ⟨rfl, rfl⟩))
    | (go_at_call 35; ((with_reducible refine (fx15 _).mono ?_); rintro e w1 ⟨rfl, rfl⟩))
    | (go_at_call 39; ((with_reducible refine (fx16 _).mono ?_); rintro e w1 ⟨rfl, rfl⟩))
    | (go_at_call 39; ((with_reducible refine (fx17 _).mono ?_); rintro e w1 ⟨rfl, rfl⟩))
    | (go_at_call 25; ((with_reducible refine (fx18 _).mono ?_); rintro e w1 ⟨rfl, rfl⟩))
    | (go_at_call 32; ((with_reducible refine (fx19 _).mono ?_); rintro e w1 ⟨rfl, rfl⟩))
    | (go_at_call 17; ((with_reducible refine (fx20 _).mono ?_); rintro e w1 ⟨rfl, hg⟩)))
  go_ret
  exact ⟨rfl, by repeat (first | exact Grown.refl _ | assumption | refine Grown.trans ?_ (by assumption))⟩
end Go.Proofs.Ytmdcdicmlnlenaa
