/- The walk of the statement on signs: a walk for each kind of the two numbers, where each test's outcome is told. -/
import Derived.Test.YtmdcdicmlnlenaaE
namespace Go.Proofs.Ytmdcdicmlnlenaa
open Go.ChangeShapes Go.WideShapes Go.ChangeAt Go.RowKit
set_option linter.unusedVariables false

set_option maxHeartbeats 4000000 in
theorem signs_nanl (a b : Int) (p q x : Nat) (ka : Int) (kb : Int) (kp kq : Int) (w : World) (b1 : b ≤ 18446744073709551615) (hx : bits .xor .u64 a b = (x : Int)) (a0 : 0 ≤ a) (a1 : a ≤ 18446744073709551615) (b0 : 0 ≤ b)
    (hpl : p ≤ 18446744073709551615) (hql : q ≤ 18446744073709551615) (hxl : x ≤ 18446744073709551615)
    (M : Hid (∀ w, Calls Try.prog 17 #[.int .u64 a, .int .u64 b] w fun e w' => e = .returned (.int .u64 (p : Int)) ∧ Grown w w'))
    (D : Hid (∀ w, Calls Try.prog 19 #[.int .u64 a, .int .u64 b] w fun e w' => e = .returned (.int .u64 (q : Int)) ∧ Grown w w'))
    (Ca : Hid (∀ w, Calls Try.prog 39 #[.int .u64 a] w fun e w' => e = .returned (.int .i64 ka) ∧ w = w'))
    (Cb : Hid (∀ w, Calls Try.prog 39 #[.int .u64 b] w fun e w' => e = .returned (.int .i64 kb) ∧ w = w'))
    (Cp : Hid (∀ w, Calls Try.prog 39 #[.int .u64 (p : Int)] w fun e w' => e = .returned (.int .i64 kp) ∧ w = w'))
    (Cq : Hid (∀ w, Calls Try.prog 39 #[.int .u64 (q : Int)] w fun e w' => e = .returned (.int .i64 kq) ∧ w = w'))
    (tp : (kp != 4) = false ∨ ((kp != 4) = true ∧ ((p : Int) / 9223372036854775808 != (x : Int) / 9223372036854775808) = false))
    (tq : (kq != 4) = false ∨ ((kq != 4) = true ∧ ((q : Int) / 9223372036854775808 != (x : Int) / 9223372036854775808) = false))
    (g1 : (ka == 4) = true) (gp : ((p : Int) == 9221120237041090561) = true) (gq : ((q : Int) == 9221120237041090561) = true) :
    Calls Try.prog 10 #[.int .u64 a, .int .u64 b] w fun e w' => e = .returned (.bool true) ∧ Grown w w' := by
  rcases tp with t1 | ⟨t1, t2⟩
  all_goals
    rcases tq with t3 | ⟨t3, t4⟩
  all_goals
    go_enter Try.func10, Try.ntmps10
    go_wp2_with (first
      | (go_at_call 12; refine (awake _).mono ?_; rintro e w9 ⟨rfl, hg9⟩)
      | (go_at_call 17; refine (M.out _).mono ?_; rintro e w1 ⟨rfl, hg1⟩)
      | (go_at_call 19; refine (D.out _).mono ?_; rintro e w2 ⟨rfl, hg2⟩)
      | (go_at_call 39; ((with_reducible refine (Ca.out _).mono ?_); rintro e w3 ⟨rfl, rfl⟩))
      | (go_at_call 39; ((with_reducible refine (Cb.out _).mono ?_); rintro e w3 ⟨rfl, rfl⟩))
      | (go_at_call 39; ((with_reducible refine (Cp.out _).mono ?_); rintro e w3 ⟨rfl, rfl⟩))
      | (go_at_call 39; ((with_reducible refine (Cq.out _).mono ?_); rintro e w3 ⟨rfl, rfl⟩)))
    go_ret
    exact ⟨rfl, Grown.trans hg9 (Grown.trans hg1 hg2)⟩

set_option maxHeartbeats 4000000 in
theorem signs_nanr (a b : Int) (p q x : Nat) (ka : Int) (kb : Int) (kp kq : Int) (w : World) (b1 : b ≤ 18446744073709551615) (hx : bits .xor .u64 a b = (x : Int)) (a0 : 0 ≤ a) (a1 : a ≤ 18446744073709551615) (b0 : 0 ≤ b)
    (hpl : p ≤ 18446744073709551615) (hql : q ≤ 18446744073709551615) (hxl : x ≤ 18446744073709551615)
    (M : Hid (∀ w, Calls Try.prog 17 #[.int .u64 a, .int .u64 b] w fun e w' => e = .returned (.int .u64 (p : Int)) ∧ Grown w w'))
    (D : Hid (∀ w, Calls Try.prog 19 #[.int .u64 a, .int .u64 b] w fun e w' => e = .returned (.int .u64 (q : Int)) ∧ Grown w w'))
    (Ca : Hid (∀ w, Calls Try.prog 39 #[.int .u64 a] w fun e w' => e = .returned (.int .i64 ka) ∧ w = w'))
    (Cb : Hid (∀ w, Calls Try.prog 39 #[.int .u64 b] w fun e w' => e = .returned (.int .i64 kb) ∧ w = w'))
    (Cp : Hid (∀ w, Calls Try.prog 39 #[.int .u64 (p : Int)] w fun e w' => e = .returned (.int .i64 kp) ∧ w = w'))
    (Cq : Hid (∀ w, Calls Try.prog 39 #[.int .u64 (q : Int)] w fun e w' => e = .returned (.int .i64 kq) ∧ w = w'))
    (tp : (kp != 4) = false ∨ ((kp != 4) = true ∧ ((p : Int) / 9223372036854775808 != (x : Int) / 9223372036854775808) = false))
    (tq : (kq != 4) = false ∨ ((kq != 4) = true ∧ ((q : Int) / 9223372036854775808 != (x : Int) / 9223372036854775808) = false))
    (g0 : (ka == 4) = false) (g1 : (kb == 4) = true) (gp : ((p : Int) == 9221120237041090561) = true) (gq : ((q : Int) == 9221120237041090561) = true) :
    Calls Try.prog 10 #[.int .u64 a, .int .u64 b] w fun e w' => e = .returned (.bool true) ∧ Grown w w' := by
  rcases tp with t1 | ⟨t1, t2⟩
  all_goals
    rcases tq with t3 | ⟨t3, t4⟩
  all_goals
    go_enter Try.func10, Try.ntmps10
    go_wp2_with (first
      | (go_at_call 12; refine (awake _).mono ?_; rintro e w9 ⟨rfl, hg9⟩)
      | (go_at_call 17; refine (M.out _).mono ?_; rintro e w1 ⟨rfl, hg1⟩)
      | (go_at_call 19; refine (D.out _).mono ?_; rintro e w2 ⟨rfl, hg2⟩)
      | (go_at_call 39; ((with_reducible refine (Ca.out _).mono ?_); rintro e w3 ⟨rfl, rfl⟩))
      | (go_at_call 39; ((with_reducible refine (Cb.out _).mono ?_); rintro e w3 ⟨rfl, rfl⟩))
      | (go_at_call 39; ((with_reducible refine (Cp.out _).mono ?_); rintro e w3 ⟨rfl, rfl⟩))
      | (go_at_call 39; ((with_reducible refine (Cq.out _).mono ?_); rintro e w3 ⟨rfl, rfl⟩)))
    go_ret
    exact ⟨rfl, Grown.trans hg9 (Grown.trans hg1 hg2)⟩

set_option maxHeartbeats 4000000 in
theorem signs_i0 (a b : Int) (p q x : Nat) (kp kq : Int) (w : World) (b1 : b ≤ 18446744073709551615) (hx : bits .xor .u64 a b = (x : Int)) (a0 : 0 ≤ a) (a1 : a ≤ 18446744073709551615) (b0 : 0 ≤ b)
    (hpl : p ≤ 18446744073709551615) (hql : q ≤ 18446744073709551615) (hxl : x ≤ 18446744073709551615)
    (M : Hid (∀ w, Calls Try.prog 17 #[.int .u64 a, .int .u64 b] w fun e w' => e = .returned (.int .u64 (p : Int)) ∧ Grown w w'))
    (D : Hid (∀ w, Calls Try.prog 19 #[.int .u64 a, .int .u64 b] w fun e w' => e = .returned (.int .u64 (q : Int)) ∧ Grown w w'))
    (Ca : Hid (∀ w, Calls Try.prog 39 #[.int .u64 a] w fun e w' => e = .returned (.int .i64 3) ∧ w = w'))
    (Cb : Hid (∀ w, Calls Try.prog 39 #[.int .u64 b] w fun e w' => e = .returned (.int .i64 0) ∧ w = w'))
    (Cp : Hid (∀ w, Calls Try.prog 39 #[.int .u64 (p : Int)] w fun e w' => e = .returned (.int .i64 kp) ∧ w = w'))
    (Cq : Hid (∀ w, Calls Try.prog 39 #[.int .u64 (q : Int)] w fun e w' => e = .returned (.int .i64 kq) ∧ w = w'))
    (tp : (kp != 4) = false ∨ ((kp != 4) = true ∧ ((p : Int) / 9223372036854775808 != (x : Int) / 9223372036854775808) = false))
    (tq : (kq != 4) = false ∨ ((kq != 4) = true ∧ ((q : Int) / 9223372036854775808 != (x : Int) / 9223372036854775808) = false))
    (gp : ((p : Int) == 9221120237041090561) = true) :
    Calls Try.prog 10 #[.int .u64 a, .int .u64 b] w fun e w' => e = .returned (.bool true) ∧ Grown w w' := by
  rcases tp with t1 | ⟨t1, t2⟩
  all_goals
    rcases tq with t3 | ⟨t3, t4⟩
  all_goals
    go_enter Try.func10, Try.ntmps10
    go_wp2_with (first
      | (go_at_call 12; refine (awake _).mono ?_; rintro e w9 ⟨rfl, hg9⟩)
      | (go_at_call 17; refine (M.out _).mono ?_; rintro e w1 ⟨rfl, hg1⟩)
      | (go_at_call 19; refine (D.out _).mono ?_; rintro e w2 ⟨rfl, hg2⟩)
      | (go_at_call 39; ((with_reducible refine (Ca.out _).mono ?_); rintro e w3 ⟨rfl, rfl⟩))
      | (go_at_call 39; ((with_reducible refine (Cb.out _).mono ?_); rintro e w3 ⟨rfl, rfl⟩))
      | (go_at_call 39; ((with_reducible refine (Cp.out _).mono ?_); rintro e w3 ⟨rfl, rfl⟩))
      | (go_at_call 39; ((with_reducible refine (Cq.out _).mono ?_); rintro e w3 ⟨rfl, rfl⟩)))
    go_ret
    exact ⟨rfl, Grown.trans hg9 (Grown.trans hg1 hg2)⟩

set_option maxHeartbeats 4000000 in
theorem signs_z3 (a b : Int) (p q x : Nat) (kp kq : Int) (w : World) (b1 : b ≤ 18446744073709551615) (hx : bits .xor .u64 a b = (x : Int)) (a0 : 0 ≤ a) (a1 : a ≤ 18446744073709551615) (b0 : 0 ≤ b)
    (hpl : p ≤ 18446744073709551615) (hql : q ≤ 18446744073709551615) (hxl : x ≤ 18446744073709551615)
    (M : Hid (∀ w, Calls Try.prog 17 #[.int .u64 a, .int .u64 b] w fun e w' => e = .returned (.int .u64 (p : Int)) ∧ Grown w w'))
    (D : Hid (∀ w, Calls Try.prog 19 #[.int .u64 a, .int .u64 b] w fun e w' => e = .returned (.int .u64 (q : Int)) ∧ Grown w w'))
    (Ca : Hid (∀ w, Calls Try.prog 39 #[.int .u64 a] w fun e w' => e = .returned (.int .i64 0) ∧ w = w'))
    (Cb : Hid (∀ w, Calls Try.prog 39 #[.int .u64 b] w fun e w' => e = .returned (.int .i64 3) ∧ w = w'))
    (Cp : Hid (∀ w, Calls Try.prog 39 #[.int .u64 (p : Int)] w fun e w' => e = .returned (.int .i64 kp) ∧ w = w'))
    (Cq : Hid (∀ w, Calls Try.prog 39 #[.int .u64 (q : Int)] w fun e w' => e = .returned (.int .i64 kq) ∧ w = w'))
    (tp : (kp != 4) = false ∨ ((kp != 4) = true ∧ ((p : Int) / 9223372036854775808 != (x : Int) / 9223372036854775808) = false))
    (tq : (kq != 4) = false ∨ ((kq != 4) = true ∧ ((q : Int) / 9223372036854775808 != (x : Int) / 9223372036854775808) = false))
    (gp : ((p : Int) == 9221120237041090561) = true) :
    Calls Try.prog 10 #[.int .u64 a, .int .u64 b] w fun e w' => e = .returned (.bool true) ∧ Grown w w' := by
  rcases tp with t1 | ⟨t1, t2⟩
  all_goals
    rcases tq with t3 | ⟨t3, t4⟩
  all_goals
    go_enter Try.func10, Try.ntmps10
    go_wp2_with (first
      | (go_at_call 12; refine (awake _).mono ?_; rintro e w9 ⟨rfl, hg9⟩)
      | (go_at_call 17; refine (M.out _).mono ?_; rintro e w1 ⟨rfl, hg1⟩)
      | (go_at_call 19; refine (D.out _).mono ?_; rintro e w2 ⟨rfl, hg2⟩)
      | (go_at_call 39; ((with_reducible refine (Ca.out _).mono ?_); rintro e w3 ⟨rfl, rfl⟩))
      | (go_at_call 39; ((with_reducible refine (Cb.out _).mono ?_); rintro e w3 ⟨rfl, rfl⟩))
      | (go_at_call 39; ((with_reducible refine (Cp.out _).mono ?_); rintro e w3 ⟨rfl, rfl⟩))
      | (go_at_call 39; ((with_reducible refine (Cq.out _).mono ?_); rintro e w3 ⟨rfl, rfl⟩)))
    go_ret
    exact ⟨rfl, Grown.trans hg9 (Grown.trans hg1 hg2)⟩

set_option maxHeartbeats 4000000 in
theorem signs_in (a b : Int) (p q x : Nat) (kb : Int) (kp kq : Int) (w : World) (b1 : b ≤ 18446744073709551615) (hx : bits .xor .u64 a b = (x : Int)) (a0 : 0 ≤ a) (a1 : a ≤ 18446744073709551615) (b0 : 0 ≤ b)
    (hpl : p ≤ 18446744073709551615) (hql : q ≤ 18446744073709551615) (hxl : x ≤ 18446744073709551615)
    (M : Hid (∀ w, Calls Try.prog 17 #[.int .u64 a, .int .u64 b] w fun e w' => e = .returned (.int .u64 (p : Int)) ∧ Grown w w'))
    (D : Hid (∀ w, Calls Try.prog 19 #[.int .u64 a, .int .u64 b] w fun e w' => e = .returned (.int .u64 (q : Int)) ∧ Grown w w'))
    (Ca : Hid (∀ w, Calls Try.prog 39 #[.int .u64 a] w fun e w' => e = .returned (.int .i64 3) ∧ w = w'))
    (Cb : Hid (∀ w, Calls Try.prog 39 #[.int .u64 b] w fun e w' => e = .returned (.int .i64 kb) ∧ w = w'))
    (Cp : Hid (∀ w, Calls Try.prog 39 #[.int .u64 (p : Int)] w fun e w' => e = .returned (.int .i64 kp) ∧ w = w'))
    (Cq : Hid (∀ w, Calls Try.prog 39 #[.int .u64 (q : Int)] w fun e w' => e = .returned (.int .i64 kq) ∧ w = w'))
    (tp : (kp != 4) = false ∨ ((kp != 4) = true ∧ ((p : Int) / 9223372036854775808 != (x : Int) / 9223372036854775808) = false))
    (tq : (kq != 4) = false ∨ ((kq != 4) = true ∧ ((q : Int) / 9223372036854775808 != (x : Int) / 9223372036854775808) = false))
    (kb4 : (kb == 4) = false) (kb3 : (kb == 3) = false) (kb0 : (kb == 0) = false) (kbl : 1 ≤ kb) (kbh : kb ≤ 2) (gp : (kp == 3) = true) (gq : (kq == 3) = true) :
    Calls Try.prog 10 #[.int .u64 a, .int .u64 b] w fun e w' => e = .returned (.bool true) ∧ Grown w w' := by
  rcases tp with t1 | ⟨t1, t2⟩
  all_goals
    rcases tq with t3 | ⟨t3, t4⟩
  all_goals
    go_enter Try.func10, Try.ntmps10
    go_wp2_with (first
      | (go_at_call 12; refine (awake _).mono ?_; rintro e w9 ⟨rfl, hg9⟩)
      | (go_at_call 17; refine (M.out _).mono ?_; rintro e w1 ⟨rfl, hg1⟩)
      | (go_at_call 19; refine (D.out _).mono ?_; rintro e w2 ⟨rfl, hg2⟩)
      | (go_at_call 39; ((with_reducible refine (Ca.out _).mono ?_); rintro e w3 ⟨rfl, rfl⟩))
      | (go_at_call 39; ((with_reducible refine (Cb.out _).mono ?_); rintro e w3 ⟨rfl, rfl⟩))
      | (go_at_call 39; ((with_reducible refine (Cp.out _).mono ?_); rintro e w3 ⟨rfl, rfl⟩))
      | (go_at_call 39; ((with_reducible refine (Cq.out _).mono ?_); rintro e w3 ⟨rfl, rfl⟩)))
    go_ret
    exact ⟨rfl, Grown.trans hg9 (Grown.trans hg1 hg2)⟩

set_option maxHeartbeats 4000000 in
theorem signs_ni (a b : Int) (p q x : Nat) (ka : Int) (kp kq : Int) (w : World) (b1 : b ≤ 18446744073709551615) (hx : bits .xor .u64 a b = (x : Int)) (a0 : 0 ≤ a) (a1 : a ≤ 18446744073709551615) (b0 : 0 ≤ b)
    (hpl : p ≤ 18446744073709551615) (hql : q ≤ 18446744073709551615) (hxl : x ≤ 18446744073709551615)
    (M : Hid (∀ w, Calls Try.prog 17 #[.int .u64 a, .int .u64 b] w fun e w' => e = .returned (.int .u64 (p : Int)) ∧ Grown w w'))
    (D : Hid (∀ w, Calls Try.prog 19 #[.int .u64 a, .int .u64 b] w fun e w' => e = .returned (.int .u64 (q : Int)) ∧ Grown w w'))
    (Ca : Hid (∀ w, Calls Try.prog 39 #[.int .u64 a] w fun e w' => e = .returned (.int .i64 ka) ∧ w = w'))
    (Cb : Hid (∀ w, Calls Try.prog 39 #[.int .u64 b] w fun e w' => e = .returned (.int .i64 3) ∧ w = w'))
    (Cp : Hid (∀ w, Calls Try.prog 39 #[.int .u64 (p : Int)] w fun e w' => e = .returned (.int .i64 kp) ∧ w = w'))
    (Cq : Hid (∀ w, Calls Try.prog 39 #[.int .u64 (q : Int)] w fun e w' => e = .returned (.int .i64 kq) ∧ w = w'))
    (tp : (kp != 4) = false ∨ ((kp != 4) = true ∧ ((p : Int) / 9223372036854775808 != (x : Int) / 9223372036854775808) = false))
    (tq : (kq != 4) = false ∨ ((kq != 4) = true ∧ ((q : Int) / 9223372036854775808 != (x : Int) / 9223372036854775808) = false))
    (ka4 : (ka == 4) = false) (ka3 : (ka == 3) = false) (ka0 : (ka == 0) = false) (kal : 1 ≤ ka) (kah : ka ≤ 2) (gq : (kq == 0) = true) :
    Calls Try.prog 10 #[.int .u64 a, .int .u64 b] w fun e w' => e = .returned (.bool true) ∧ Grown w w' := by
  rcases tp with t1 | ⟨t1, t2⟩
  all_goals
    rcases tq with t3 | ⟨t3, t4⟩
  all_goals
    go_enter Try.func10, Try.ntmps10
    go_wp2_with (first
      | (go_at_call 12; refine (awake _).mono ?_; rintro e w9 ⟨rfl, hg9⟩)
      | (go_at_call 17; refine (M.out _).mono ?_; rintro e w1 ⟨rfl, hg1⟩)
      | (go_at_call 19; refine (D.out _).mono ?_; rintro e w2 ⟨rfl, hg2⟩)
      | (go_at_call 39; ((with_reducible refine (Ca.out _).mono ?_); rintro e w3 ⟨rfl, rfl⟩))
      | (go_at_call 39; ((with_reducible refine (Cb.out _).mono ?_); rintro e w3 ⟨rfl, rfl⟩))
      | (go_at_call 39; ((with_reducible refine (Cp.out _).mono ?_); rintro e w3 ⟨rfl, rfl⟩))
      | (go_at_call 39; ((with_reducible refine (Cq.out _).mono ?_); rintro e w3 ⟨rfl, rfl⟩)))
    go_ret
    exact ⟨rfl, Grown.trans hg9 (Grown.trans hg1 hg2)⟩

set_option maxHeartbeats 4000000 in
theorem signs_nz (a b : Int) (p q x : Nat) (ka : Int) (kp kq : Int) (w : World) (b1 : b ≤ 18446744073709551615) (hx : bits .xor .u64 a b = (x : Int)) (a0 : 0 ≤ a) (a1 : a ≤ 18446744073709551615) (b0 : 0 ≤ b)
    (hpl : p ≤ 18446744073709551615) (hql : q ≤ 18446744073709551615) (hxl : x ≤ 18446744073709551615)
    (M : Hid (∀ w, Calls Try.prog 17 #[.int .u64 a, .int .u64 b] w fun e w' => e = .returned (.int .u64 (p : Int)) ∧ Grown w w'))
    (D : Hid (∀ w, Calls Try.prog 19 #[.int .u64 a, .int .u64 b] w fun e w' => e = .returned (.int .u64 (q : Int)) ∧ Grown w w'))
    (Ca : Hid (∀ w, Calls Try.prog 39 #[.int .u64 a] w fun e w' => e = .returned (.int .i64 ka) ∧ w = w'))
    (Cb : Hid (∀ w, Calls Try.prog 39 #[.int .u64 b] w fun e w' => e = .returned (.int .i64 0) ∧ w = w'))
    (Cp : Hid (∀ w, Calls Try.prog 39 #[.int .u64 (p : Int)] w fun e w' => e = .returned (.int .i64 kp) ∧ w = w'))
    (Cq : Hid (∀ w, Calls Try.prog 39 #[.int .u64 (q : Int)] w fun e w' => e = .returned (.int .i64 kq) ∧ w = w'))
    (tp : (kp != 4) = false ∨ ((kp != 4) = true ∧ ((p : Int) / 9223372036854775808 != (x : Int) / 9223372036854775808) = false))
    (tq : (kq != 4) = false ∨ ((kq != 4) = true ∧ ((q : Int) / 9223372036854775808 != (x : Int) / 9223372036854775808) = false))
    (ka4 : (ka == 4) = false) (ka3 : (ka == 3) = false) (ka0 : (ka == 0) = false) (kal : 1 ≤ ka) (kah : ka ≤ 2) (gq : (kq == 3) = true) (gp : (kp == 0) = true) :
    Calls Try.prog 10 #[.int .u64 a, .int .u64 b] w fun e w' => e = .returned (.bool true) ∧ Grown w w' := by
  rcases tp with t1 | ⟨t1, t2⟩
  all_goals
    rcases tq with t3 | ⟨t3, t4⟩
  all_goals
    go_enter Try.func10, Try.ntmps10
    go_wp2_with (first
      | (go_at_call 12; refine (awake _).mono ?_; rintro e w9 ⟨rfl, hg9⟩)
      | (go_at_call 17; refine (M.out _).mono ?_; rintro e w1 ⟨rfl, hg1⟩)
      | (go_at_call 19; refine (D.out _).mono ?_; rintro e w2 ⟨rfl, hg2⟩)
      | (go_at_call 39; ((with_reducible refine (Ca.out _).mono ?_); rintro e w3 ⟨rfl, rfl⟩))
      | (go_at_call 39; ((with_reducible refine (Cb.out _).mono ?_); rintro e w3 ⟨rfl, rfl⟩))
      | (go_at_call 39; ((with_reducible refine (Cp.out _).mono ?_); rintro e w3 ⟨rfl, rfl⟩))
      | (go_at_call 39; ((with_reducible refine (Cq.out _).mono ?_); rintro e w3 ⟨rfl, rfl⟩)))
    go_ret
    exact ⟨rfl, Grown.trans hg9 (Grown.trans hg1 hg2)⟩

set_option maxHeartbeats 4000000 in
theorem signs_ii (a b : Int) (p q x : Nat) (kp kq : Int) (w : World) (b1 : b ≤ 18446744073709551615) (hx : bits .xor .u64 a b = (x : Int)) (a0 : 0 ≤ a) (a1 : a ≤ 18446744073709551615) (b0 : 0 ≤ b)
    (hpl : p ≤ 18446744073709551615) (hql : q ≤ 18446744073709551615) (hxl : x ≤ 18446744073709551615)
    (M : Hid (∀ w, Calls Try.prog 17 #[.int .u64 a, .int .u64 b] w fun e w' => e = .returned (.int .u64 (p : Int)) ∧ Grown w w'))
    (D : Hid (∀ w, Calls Try.prog 19 #[.int .u64 a, .int .u64 b] w fun e w' => e = .returned (.int .u64 (q : Int)) ∧ Grown w w'))
    (Ca : Hid (∀ w, Calls Try.prog 39 #[.int .u64 a] w fun e w' => e = .returned (.int .i64 3) ∧ w = w'))
    (Cb : Hid (∀ w, Calls Try.prog 39 #[.int .u64 b] w fun e w' => e = .returned (.int .i64 3) ∧ w = w'))
    (Cp : Hid (∀ w, Calls Try.prog 39 #[.int .u64 (p : Int)] w fun e w' => e = .returned (.int .i64 kp) ∧ w = w'))
    (Cq : Hid (∀ w, Calls Try.prog 39 #[.int .u64 (q : Int)] w fun e w' => e = .returned (.int .i64 kq) ∧ w = w'))
    (tp : (kp != 4) = false ∨ ((kp != 4) = true ∧ ((p : Int) / 9223372036854775808 != (x : Int) / 9223372036854775808) = false))
    (tq : (kq != 4) = false ∨ ((kq != 4) = true ∧ ((q : Int) / 9223372036854775808 != (x : Int) / 9223372036854775808) = false))
     :
    Calls Try.prog 10 #[.int .u64 a, .int .u64 b] w fun e w' => e = .returned (.bool true) ∧ Grown w w' := by
  rcases tp with t1 | ⟨t1, t2⟩
  all_goals
    rcases tq with t3 | ⟨t3, t4⟩
  all_goals
    go_enter Try.func10, Try.ntmps10
    go_wp2_with (first
      | (go_at_call 12; refine (awake _).mono ?_; rintro e w9 ⟨rfl, hg9⟩)
      | (go_at_call 17; refine (M.out _).mono ?_; rintro e w1 ⟨rfl, hg1⟩)
      | (go_at_call 19; refine (D.out _).mono ?_; rintro e w2 ⟨rfl, hg2⟩)
      | (go_at_call 39; ((with_reducible refine (Ca.out _).mono ?_); rintro e w3 ⟨rfl, rfl⟩))
      | (go_at_call 39; ((with_reducible refine (Cb.out _).mono ?_); rintro e w3 ⟨rfl, rfl⟩))
      | (go_at_call 39; ((with_reducible refine (Cp.out _).mono ?_); rintro e w3 ⟨rfl, rfl⟩))
      | (go_at_call 39; ((with_reducible refine (Cq.out _).mono ?_); rintro e w3 ⟨rfl, rfl⟩)))
    go_ret
    exact ⟨rfl, Grown.trans hg9 (Grown.trans hg1 hg2)⟩

set_option maxHeartbeats 4000000 in
theorem signs_zz (a b : Int) (p q x : Nat) (kp kq : Int) (w : World) (b1 : b ≤ 18446744073709551615) (hx : bits .xor .u64 a b = (x : Int)) (a0 : 0 ≤ a) (a1 : a ≤ 18446744073709551615) (b0 : 0 ≤ b)
    (hpl : p ≤ 18446744073709551615) (hql : q ≤ 18446744073709551615) (hxl : x ≤ 18446744073709551615)
    (M : Hid (∀ w, Calls Try.prog 17 #[.int .u64 a, .int .u64 b] w fun e w' => e = .returned (.int .u64 (p : Int)) ∧ Grown w w'))
    (D : Hid (∀ w, Calls Try.prog 19 #[.int .u64 a, .int .u64 b] w fun e w' => e = .returned (.int .u64 (q : Int)) ∧ Grown w w'))
    (Ca : Hid (∀ w, Calls Try.prog 39 #[.int .u64 a] w fun e w' => e = .returned (.int .i64 0) ∧ w = w'))
    (Cb : Hid (∀ w, Calls Try.prog 39 #[.int .u64 b] w fun e w' => e = .returned (.int .i64 0) ∧ w = w'))
    (Cp : Hid (∀ w, Calls Try.prog 39 #[.int .u64 (p : Int)] w fun e w' => e = .returned (.int .i64 kp) ∧ w = w'))
    (Cq : Hid (∀ w, Calls Try.prog 39 #[.int .u64 (q : Int)] w fun e w' => e = .returned (.int .i64 kq) ∧ w = w'))
    (tp : (kp != 4) = false ∨ ((kp != 4) = true ∧ ((p : Int) / 9223372036854775808 != (x : Int) / 9223372036854775808) = false))
    (tq : (kq != 4) = false ∨ ((kq != 4) = true ∧ ((q : Int) / 9223372036854775808 != (x : Int) / 9223372036854775808) = false))
     :
    Calls Try.prog 10 #[.int .u64 a, .int .u64 b] w fun e w' => e = .returned (.bool true) ∧ Grown w w' := by
  rcases tp with t1 | ⟨t1, t2⟩
  all_goals
    rcases tq with t3 | ⟨t3, t4⟩
  all_goals
    go_enter Try.func10, Try.ntmps10
    go_wp2_with (first
      | (go_at_call 12; refine (awake _).mono ?_; rintro e w9 ⟨rfl, hg9⟩)
      | (go_at_call 17; refine (M.out _).mono ?_; rintro e w1 ⟨rfl, hg1⟩)
      | (go_at_call 19; refine (D.out _).mono ?_; rintro e w2 ⟨rfl, hg2⟩)
      | (go_at_call 39; ((with_reducible refine (Ca.out _).mono ?_); rintro e w3 ⟨rfl, rfl⟩))
      | (go_at_call 39; ((with_reducible refine (Cb.out _).mono ?_); rintro e w3 ⟨rfl, rfl⟩))
      | (go_at_call 39; ((with_reducible refine (Cp.out _).mono ?_); rintro e w3 ⟨rfl, rfl⟩))
      | (go_at_call 39; ((with_reducible refine (Cq.out _).mono ?_); rintro e w3 ⟨rfl, rfl⟩)))
    go_ret
    exact ⟨rfl, Grown.trans hg9 (Grown.trans hg1 hg2)⟩

set_option maxHeartbeats 4000000 in
theorem signs_zn (a b : Int) (p q x : Nat) (kb : Int) (kp kq : Int) (w : World) (b1 : b ≤ 18446744073709551615) (hx : bits .xor .u64 a b = (x : Int)) (a0 : 0 ≤ a) (a1 : a ≤ 18446744073709551615) (b0 : 0 ≤ b)
    (hpl : p ≤ 18446744073709551615) (hql : q ≤ 18446744073709551615) (hxl : x ≤ 18446744073709551615)
    (M : Hid (∀ w, Calls Try.prog 17 #[.int .u64 a, .int .u64 b] w fun e w' => e = .returned (.int .u64 (p : Int)) ∧ Grown w w'))
    (D : Hid (∀ w, Calls Try.prog 19 #[.int .u64 a, .int .u64 b] w fun e w' => e = .returned (.int .u64 (q : Int)) ∧ Grown w w'))
    (Ca : Hid (∀ w, Calls Try.prog 39 #[.int .u64 a] w fun e w' => e = .returned (.int .i64 0) ∧ w = w'))
    (Cb : Hid (∀ w, Calls Try.prog 39 #[.int .u64 b] w fun e w' => e = .returned (.int .i64 kb) ∧ w = w'))
    (Cp : Hid (∀ w, Calls Try.prog 39 #[.int .u64 (p : Int)] w fun e w' => e = .returned (.int .i64 kp) ∧ w = w'))
    (Cq : Hid (∀ w, Calls Try.prog 39 #[.int .u64 (q : Int)] w fun e w' => e = .returned (.int .i64 kq) ∧ w = w'))
    (tp : (kp != 4) = false ∨ ((kp != 4) = true ∧ ((p : Int) / 9223372036854775808 != (x : Int) / 9223372036854775808) = false))
    (tq : (kq != 4) = false ∨ ((kq != 4) = true ∧ ((q : Int) / 9223372036854775808 != (x : Int) / 9223372036854775808) = false))
    (kb4 : (kb == 4) = false) (kb3 : (kb == 3) = false) (kb0 : (kb == 0) = false) (kbl : 1 ≤ kb) (kbh : kb ≤ 2) :
    Calls Try.prog 10 #[.int .u64 a, .int .u64 b] w fun e w' => e = .returned (.bool true) ∧ Grown w w' := by
  rcases tp with t1 | ⟨t1, t2⟩
  all_goals
    rcases tq with t3 | ⟨t3, t4⟩
  all_goals
    go_enter Try.func10, Try.ntmps10
    go_wp2_with (first
      | (go_at_call 12; refine (awake _).mono ?_; rintro e w9 ⟨rfl, hg9⟩)
      | (go_at_call 17; refine (M.out _).mono ?_; rintro e w1 ⟨rfl, hg1⟩)
      | (go_at_call 19; refine (D.out _).mono ?_; rintro e w2 ⟨rfl, hg2⟩)
      | (go_at_call 39; ((with_reducible refine (Ca.out _).mono ?_); rintro e w3 ⟨rfl, rfl⟩))
      | (go_at_call 39; ((with_reducible refine (Cb.out _).mono ?_); rintro e w3 ⟨rfl, rfl⟩))
      | (go_at_call 39; ((with_reducible refine (Cp.out _).mono ?_); rintro e w3 ⟨rfl, rfl⟩))
      | (go_at_call 39; ((with_reducible refine (Cq.out _).mono ?_); rintro e w3 ⟨rfl, rfl⟩)))
    go_ret
    exact ⟨rfl, Grown.trans hg9 (Grown.trans hg1 hg2)⟩

set_option maxHeartbeats 4000000 in
theorem signs_nn (a b : Int) (p q x : Nat) (ka : Int) (kb : Int) (kp kq : Int) (w : World) (b1 : b ≤ 18446744073709551615) (hx : bits .xor .u64 a b = (x : Int)) (a0 : 0 ≤ a) (a1 : a ≤ 18446744073709551615) (b0 : 0 ≤ b)
    (hpl : p ≤ 18446744073709551615) (hql : q ≤ 18446744073709551615) (hxl : x ≤ 18446744073709551615)
    (M : Hid (∀ w, Calls Try.prog 17 #[.int .u64 a, .int .u64 b] w fun e w' => e = .returned (.int .u64 (p : Int)) ∧ Grown w w'))
    (D : Hid (∀ w, Calls Try.prog 19 #[.int .u64 a, .int .u64 b] w fun e w' => e = .returned (.int .u64 (q : Int)) ∧ Grown w w'))
    (Ca : Hid (∀ w, Calls Try.prog 39 #[.int .u64 a] w fun e w' => e = .returned (.int .i64 ka) ∧ w = w'))
    (Cb : Hid (∀ w, Calls Try.prog 39 #[.int .u64 b] w fun e w' => e = .returned (.int .i64 kb) ∧ w = w'))
    (Cp : Hid (∀ w, Calls Try.prog 39 #[.int .u64 (p : Int)] w fun e w' => e = .returned (.int .i64 kp) ∧ w = w'))
    (Cq : Hid (∀ w, Calls Try.prog 39 #[.int .u64 (q : Int)] w fun e w' => e = .returned (.int .i64 kq) ∧ w = w'))
    (tp : (kp != 4) = false ∨ ((kp != 4) = true ∧ ((p : Int) / 9223372036854775808 != (x : Int) / 9223372036854775808) = false))
    (tq : (kq != 4) = false ∨ ((kq != 4) = true ∧ ((q : Int) / 9223372036854775808 != (x : Int) / 9223372036854775808) = false))
    (ka4 : (ka == 4) = false) (ka3 : (ka == 3) = false) (ka0 : (ka == 0) = false) (kal : 1 ≤ ka) (kah : ka ≤ 2) (kb4 : (kb == 4) = false) (kb3 : (kb == 3) = false) (kb0 : (kb == 0) = false) (kbl : 1 ≤ kb) (kbh : kb ≤ 2) :
    Calls Try.prog 10 #[.int .u64 a, .int .u64 b] w fun e w' => e = .returned (.bool true) ∧ Grown w w' := by
  rcases tp with t1 | ⟨t1, t2⟩
  all_goals
    rcases tq with t3 | ⟨t3, t4⟩
  all_goals
    go_enter Try.func10, Try.ntmps10
    go_wp2_with (first
      | (go_at_call 12; refine (awake _).mono ?_; rintro e w9 ⟨rfl, hg9⟩)
      | (go_at_call 17; refine (M.out _).mono ?_; rintro e w1 ⟨rfl, hg1⟩)
      | (go_at_call 19; refine (D.out _).mono ?_; rintro e w2 ⟨rfl, hg2⟩)
      | (go_at_call 39; ((with_reducible refine (Ca.out _).mono ?_); rintro e w3 ⟨rfl, rfl⟩))
      | (go_at_call 39; ((with_reducible refine (Cb.out _).mono ?_); rintro e w3 ⟨rfl, rfl⟩))
      | (go_at_call 39; ((with_reducible refine (Cp.out _).mono ?_); rintro e w3 ⟨rfl, rfl⟩))
      | (go_at_call 39; ((with_reducible refine (Cq.out _).mono ?_); rintro e w3 ⟨rfl, rfl⟩)))
    go_ret
    exact ⟨rfl, Grown.trans hg9 (Grown.trans hg1 hg2)⟩


set_option maxHeartbeats 1000000 in
theorem signs_walk (a b : Int) (w : World) (a0 : 0 ≤ a) (a1 : a ≤ 18446744073709551615) (b0 : 0 ≤ b) (b1 : b ≤ 18446744073709551615) :
    Calls Try.prog 10 #[.int .u64 a, .int .u64 b] w fun e w' => e = .returned (.bool true) ∧ Grown w w' := by
  have S := signs a.toNat b.toNat (by omega) (by omega)
  have hpl : fop .mul a.toNat b.toNat ≤ 18446744073709551615 := by have := fop_lt .mul a.toNat b.toNat; omega
  have hql : fop .quo a.toNat b.toNat ≤ 18446744073709551615 := by have := fop_lt .quo a.toNat b.toNat; omega
  have M := Lib.hid (fun w => mul_any a b w)
  have D := Lib.hid (fun w => div_any a b w)
  obtain ⟨p1, q1, nan, inf0, inf, inf2, zero⟩ := S
  have Ca := Lib.hid (fun w => class_any a w a0 a1)
  have Cb := Lib.hid (fun w => class_any b w b0 b1)
  have Cp := Lib.hid (fun w => class_any (fop .mul a.toNat b.toNat : Nat) w (by omega) (by omega))
  have Cq := Lib.hid (fun w => class_any (fop .quo a.toNat b.toNat : Nat) w (by omega) (by omega))
  rw [Int.toNat_natCast] at Cp Cq
  have bka := cls_bd a.toNat
  have bkb := cls_bd b.toNat
  have hx := u64_xor a b a0 (by omega) b0 (by omega)
  have hxl : a.toNat ^^^ b.toNat ≤ 18446744073709551615 := by have : a.toNat ^^^ b.toNat < 2 ^ 64 := Nat.xor_lt_two_pow (by omega) (by omega); omega
  generalize fop .mul a.toNat b.toNat = p at *
  generalize fop .quo a.toNat b.toNat = q at *
  generalize a.toNat ^^^ b.toNat = x at *
  generalize cls p = kp at *
  generalize cls q = kq at *
  generalize cls a.toNat = ka at *
  generalize cls b.toNat = kb at *
  have tp : (kp != 4) = false ∨ ((kp != 4) = true ∧ ((p : Int) / 9223372036854775808 != (x : Int) / 9223372036854775808) = false) := by
    by_cases h : kp = 4
    · exact .inl (by simp [h])
    · exact .inr ⟨by simp [h], by simp; omega⟩
  have tq : (kq != 4) = false ∨ ((kq != 4) = true ∧ ((q : Int) / 9223372036854775808 != (x : Int) / 9223372036854775808) = false) := by
    by_cases h : kq = 4
    · exact .inl (by simp [h])
    · exact .inr ⟨by simp [h], by simp; omega⟩
  clear p1 q1
  have e : ∀ n : Nat, n = NaN → ((n : Int) == 9221120237041090561) = true := fun n h => by subst h; rfl
  by_cases h4 : ka = 4
  · obtain ⟨h1, h2⟩ := nan (.inl h4)
    exact signs_nanl a b p q x ka kb kp kq w b1 hx a0 a1 b0 hpl hql hxl M D Ca Cb Cp Cq tp tq (by simp [h4]) (e _ h1) (e _ h2)
  by_cases k4 : kb = 4
  · obtain ⟨h1, h2⟩ := nan (.inr k4)
    exact signs_nanr a b p q x ka kb kp kq w b1 hx a0 a1 b0 hpl hql hxl M D Ca Cb Cp Cq tp tq (by simp [h4]) (by simp [k4]) (e _ h1) (e _ h2)
  rcases (by omega : ka = 3 ∨ ka = 0 ∨ (1 ≤ ka ∧ ka ≤ 2)) with h | h | h
  · subst h
    rcases (by omega : kb = 3 ∨ kb = 0 ∨ (1 ≤ kb ∧ kb ≤ 2)) with k | k | k
    · subst k
      exact signs_ii a b p q x kp kq w b1 hx a0 a1 b0 hpl hql hxl M D Ca Cb Cp Cq tp tq
    · subst k
      exact signs_i0 a b p q x kp kq w b1 hx a0 a1 b0 hpl hql hxl M D Ca Cb Cp Cq tp tq (e _ (inf0 (.inl ⟨rfl, rfl⟩)))
    · obtain ⟨h1, h2⟩ := inf ⟨rfl, by omega⟩
      exact signs_in a b p q x kb kp kq w b1 hx a0 a1 b0 hpl hql hxl M D Ca Cb Cp Cq tp tq (by simp; omega) (by simp; omega) (by simp; omega) k.1 k.2 (by simp [h1]) (by simp [h2])
  · subst h
    rcases (by omega : kb = 3 ∨ kb = 0 ∨ (1 ≤ kb ∧ kb ≤ 2)) with k | k | k
    · subst k
      exact signs_z3 a b p q x kp kq w b1 hx a0 a1 b0 hpl hql hxl M D Ca Cb Cp Cq tp tq (e _ (inf0 (.inr ⟨rfl, rfl⟩)))
    · subst k
      exact signs_zz a b p q x kp kq w b1 hx a0 a1 b0 hpl hql hxl M D Ca Cb Cp Cq tp tq
    · exact signs_zn a b p q x kb kp kq w b1 hx a0 a1 b0 hpl hql hxl M D Ca Cb Cp Cq tp tq (by simp; omega) (by simp; omega) (by simp; omega) k.1 k.2
  · rcases (by omega : kb = 3 ∨ kb = 0 ∨ (1 ≤ kb ∧ kb ≤ 2)) with k | k | k
    · subst k
      have h1 := inf2 ⟨rfl, by omega⟩
      exact signs_ni a b p q x ka kp kq w b1 hx a0 a1 b0 hpl hql hxl M D Ca Cb Cp Cq tp tq (by simp; omega) (by simp; omega) (by simp; omega) h.1 h.2 (by simp [h1])
    · subst k
      obtain ⟨h1, h2⟩ := zero ⟨rfl, by omega⟩
      exact signs_nz a b p q x ka kp kq w b1 hx a0 a1 b0 hpl hql hxl M D Ca Cb Cp Cq tp tq (by simp; omega) (by simp; omega) (by simp; omega) h.1 h.2 (by simp [h1]) (by simp [h2])
    · exact signs_nn a b p q x ka kb kp kq w b1 hx a0 a1 b0 hpl hql hxl M D Ca Cb Cp Cq tp tq (by simp; omega) (by simp; omega) (by simp; omega) h.1 h.2 (by simp; omega) (by simp; omega) (by simp; omega) k.1 k.2
end Go.Proofs.Ytmdcdicmlnlenaa
