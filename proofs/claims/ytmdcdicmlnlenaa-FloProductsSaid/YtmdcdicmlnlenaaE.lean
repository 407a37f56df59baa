/- That the layer is awake: calls whose answers the document fixes. -/
import Derived.Test.YtmdcdicmlnlenaaD
namespace Go.Proofs.Ytmdcdicmlnlenaa
open Go.ChangeShapes Go.WideShapes Go.ChangeAt Go.RowKit

theorem Grown.trans {a b c : World} (h : Grown a b) (k : Grown b c) : Grown a c :=
  ⟨World.keptBut_trans h.1 k.1, fun x => (k.2.1 x).trans (h.2.1 x), Nat.le_trans h.2.2 k.2.2⟩

theorem ftoi_two : ftoi 4611686018427387904 = 2 := by
  have h := (whole_fint 2 (by omega)).ftoi (by omega)
  rwa [show fint 2 = 4611686018427387904 by decide +kernel] at h

theorem awake (w : World) : Calls Try.prog 12 #[] w fun e w' => e = .returned (.bool true) ∧ Grown w w' := by
  have c1 : ∀ w, Calls Try.prog 13 #[.int .u64 4607182418800017408, .int .u64 4607182418800017408] w fun e w' => e = .returned (.int .u64 4611686018427387904) ∧ Grown w w' :=
    fun w => (add_any _ _ w).mono fun e w' h => ⟨h.1.trans (ret_int (by decide +kernel)), h.2⟩
  have c2 : ∀ w, Calls Try.prog 19 #[.int .u64 0, .int .u64 0] w fun e w' => e = .returned (.int .u64 9221120237041090561) ∧ Grown w w' :=
    fun w => (div_any _ _ w).mono fun e w' h => ⟨h.1.trans (ret_int (by decide +kernel)), h.2⟩
  have c3 : ∀ w, Calls Try.prog 35 #[.int .i64 2] w fun e w' => e = .returned (.int .u64 4611686018427387904) ∧ w = w' :=
    fun w => (fromInt_any _ w).mono fun e w' h => ⟨h.1.trans (ret_int (by decide +kernel)), h.2⟩
  have c4 : ∀ w, Calls Try.prog 37 #[.int .u64 4611686018427387904] w fun e w' => e = .returned (.int .i64 2) ∧ w = w' :=
    fun w => (toInt_any _ w).mono fun e w' h => ⟨h.1.trans (ret_int ftoi_two), h.2⟩
  have c5 : ∀ w, Calls Try.prog 23 #[.int .u64 9223372036854775808, .int .u64 0] w fun e w' => e = .returned (.bool false) ∧ w = w' :=
    fun w => (less_any _ _ w).mono fun e w' h => ⟨h.1.trans (ret_bool (by decide +kernel)), h.2⟩
  have c6 : ∀ w, Calls Try.prog 25 #[.int .u64 9223372036854775808, .int .u64 0] w fun e w' => e = .returned (.int .i64 (-1)) ∧ w = w' :=
    fun w => (order_any _ _ w (by omega) (by omega)).mono fun e w' h => ⟨h.1.trans (ret_int (by decide +kernel)), h.2⟩
  have C1 := Lib.hid c1
  have C2 := Lib.hid c2
  have C3 := Lib.hid c3
  have C4 := Lib.hid c4
  have C5 := Lib.hid c5
  have C6 := Lib.hid c6
  clear c1 c2 c3 c4 c5 c6
  go_enter Try.func12, Try.ntmps12
  go_wp2_with (first
    | (go_at_call 13; refine (C1.out _).mono ?_; rintro e w1 ⟨rfl, hg1⟩)
    | (go_at_call 19; refine (C2.out _).mono ?_; rintro e w2 ⟨rfl, hg2⟩)
    | (go_at_call 35; refine (C3.out _).mono ?_; rintro e w3 ⟨rfl, rfl⟩)
    | (go_at_call 37; refine (C4.out _).mono ?_; rintro e w4 ⟨rfl, rfl⟩)
    | (go_at_call 23; refine (C5.out _).mono ?_; rintro e w5 ⟨rfl, rfl⟩)
    | (go_at_call 25; refine (C6.out _).mono ?_; rintro e w6 ⟨rfl, rfl⟩))
  go_ret
  exact ⟨rfl, Grown.trans hg1 hg2⟩
end Go.Proofs.Ytmdcdicmlnlenaa
