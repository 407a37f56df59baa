/- The walks of the statements on orders and on edges. -/
import Derived.Test.YtmdcdicmlnlenaaI
namespace Go.Proofs.Ytmdcdicmlnlenaa
open Go.ChangeShapes Go.WideShapes Go.ChangeAt Go.RowKit

set_option maxHeartbeats 1000000 in
theorem orders_walk (a b : Int) (w : World) (a0 : 0 ≤ a) (a1 : a ≤ 18446744073709551615) (b0 : 0 ≤ b) (b1 : b ≤ 18446744073709551615) :
    Calls Try.prog 5 #[.int .u64 a, .int .u64 b] w fun e w' => e = .returned (.bool true) ∧ Grown w w' := by
  have ha : a.toNat < 18446744073709551616 := by omega
  have hb : b.toNat < 18446744073709551616 := by omega
  have la := canon_lt ha
  have lb := canon_lt hb
  have E1 := Lib.hid (fun w => equal_any a b w)
  have E2 : ∀ w, Calls Try.prog 22 #[.int .u64 a, .int .u64 b] w fun e w' => e = .returned (.bool (feq a.toNat b.toNat)) ∧ w = w' := fun w => feq_req _ _ ha hb ▸ equal_ref a b w a0 a1 b0 b1
  have L1 := Lib.hid (fun w => less_any a b w)
  have L2 : ∀ w, Calls Try.prog 24 #[.int .u64 a, .int .u64 b] w fun e w' => e = .returned (.bool (fless a.toNat b.toNat)) ∧ w = w' := fun w => fless_rless _ _ ha hb ▸ less_ref a b w a0 a1 b0 b1
  have O1 := Lib.hid (fun w => order_any a b w a1 b1)
  have O2 : ∀ w, Calls Try.prog 26 #[.int .u64 a, .int .u64 b] w fun e w' => e = .returned (.int .i64 (ford a.toNat b.toNat)) ∧ w = w' := fun w => rord_ford _ _ ha hb ▸ order_ref a b w a0 a1 b0 b1
  have M1 := Lib.hid (fun w => min_any a b w a0 a1 b0 b1)
  have M2 : ∀ w, Calls Try.prog 28 #[.int .u64 (canon a.toNat : Nat), .int .u64 (canon b.toNat : Nat)] w fun e w' => e = .returned (.int .u64 (fmin a.toNat b.toNat)) ∧ w = w' := fun w => by
    have h := min_ref (canon a.toNat : Nat) (canon b.toNat : Nat) w (by omega) (by omega) (by omega) (by omega)
    rw [Int.toNat_natCast, Int.toNat_natCast, rmin_fmin _ _ ha hb] at h
    exact h
  have X1 := Lib.hid (fun w => max_any a b w a1 b1)
  have X2 : ∀ w, Calls Try.prog 31 #[.int .u64 (canon a.toNat : Nat), .int .u64 (canon b.toNat : Nat)] w fun e w' => e = .returned (.int .u64 (fmax a.toNat b.toNat)) ∧ w = w' := fun w => by
    have h := max_ref (canon a.toNat : Nat) (canon b.toNat : Nat) w (by omega) (by omega) (by omega) (by omega)
    rw [Int.toNat_natCast, Int.toNat_natCast, rmax_fmax _ _ ha hb] at h
    exact h
  have Na := Lib.hid (fun w => canon_ref a w a0 a1)
  have Nb := Lib.hid (fun w => canon_ref b w b0 b1)
  generalize feq a.toNat b.toNat = v1 at *
  generalize fless a.toNat b.toNat = v2 at *
  generalize ford a.toNat b.toNat = v3 at *
  generalize fmin a.toNat b.toNat = v4 at *
  generalize fmax a.toNat b.toNat = v5 at *
  generalize canon a.toNat = ca at *
  generalize canon b.toNat = cb at *
  have E2' := Lib.hid E2
  have L2' := Lib.hid L2
  have O2' := Lib.hid O2
  have M2' := Lib.hid M2
  have X2' := Lib.hid X2
  clear E2 L2 O2 M2 X2 ha hb la lb
  go_enter Try.func5, Try.ntmps5
  go_wp2_with (first
    | (go_at_call 12; refine (awake _).mono ?_; rintro e w9 ⟨rfl, hg⟩)
    | (go_at_call 21; refine (E1.out _).mono ?_; rintro e w1 ⟨rfl, rfl⟩)
    | (go_at_call 22; refine (E2'.out _).mono ?_; rintro e w1 ⟨rfl, rfl⟩)
    | (go_at_call 23; refine (L1.out _).mono ?_; rintro e w1 ⟨rfl, rfl⟩)
    | (go_at_call 24; refine (L2'.out _).mono ?_; rintro e w1 ⟨rfl, rfl⟩)
    | (go_at_call 25; refine (O1.out _).mono ?_; rintro e w1 ⟨rfl, rfl⟩)
    | (go_at_call 26; refine (O2'.out _).mono ?_; rintro e w1 ⟨rfl, rfl⟩)
    | (go_at_call 27; refine (M1.out _).mono ?_; rintro e w1 ⟨rfl, rfl⟩)
    | (go_at_call 28; refine (M2'.out _).mono ?_; rintro e w1 ⟨rfl, rfl⟩)
    | (go_at_call 30; refine (X1.out _).mono ?_; rintro e w1 ⟨rfl, rfl⟩)
    | (go_at_call 31; refine (X2'.out _).mono ?_; rintro e w1 ⟨rfl, rfl⟩)
    | (go_at_call 29; ((with_reducible refine (Na.out _).mono ?_); rintro e w1 ⟨rfl, rfl⟩))
    | (go_at_call 29; ((with_reducible refine (Nb.out _).mono ?_); rintro e w1 ⟨rfl, rfl⟩)))
  go_ret
  exact ⟨rfl, hg⟩
end Go.Proofs.Ytmdcdicmlnlenaa
