/- The walks of the statements on ints there and back and on small whole numbers. -/
import Derived.Test.YtmdcdicmlnlenaaE
import Derived.Test.YtmdcdicmlnlenaaR
namespace Go.Proofs.Ytmdcdicmlnlenaa
open Go.ChangeShapes Go.WideShapes Go.ChangeAt Go.RowKit

theorem nearest_lt' (s : Bool) (m : Nat) (p : Int) : Ieee.double.nearest s m p < 18446744073709551616 := by
  have := Ieee.double.nearest_lt s m p
  rwa [d_w] at this
theorem fint_lt (n : Int) : fint n < 18446744073709551616 := nearest_lt' _ _ _

theorem back_walk (n : Int) (w : World) (n0 : -9223372036854775808 ≤ n) (n1 : n ≤ 9223372036854775807) :
    Calls Try.prog 8 #[.int .i64 n] w fun e w' => e = .returned (.bool true) ∧ Grown w w' := by
  have F1 := Lib.hid (fun w => fromInt_any n w)
  have T : ∀ w, Calls Try.prog 37 #[.int .u64 (fint n : Nat)] w fun e w' => e = .returned (.int .i64 (ftoi (fint n))) ∧ w = w' := fun w => by
    have h := toInt_any (fint n : Nat) w
    rwa [Int.toNat_natCast] at h
  have F2 : ∀ w, Calls Try.prog 35 #[.int .i64 (ftoi (fint n))] w fun e w' => e = .returned (.int .u64 (fint (ftoi (fint n)))) ∧ w = w' := fun w => fromInt_any _ w
  have hb := ftoi_bd (fint n)
  by_cases h : n.natAbs ≤ 9007199254740992
  · have e := (whole_fint n h).ftoi h
    rw [e] at T F2
    clear e hb
    generalize fint n = f at *
    have T' := Lib.hid T
    clear T F2
    have h1 : -9007199254740992 ≤ n := by omega
    have h2 : n ≤ 9007199254740992 := by omega
    clear h
    go_enter Try.func8, Try.ntmps8
    go_wp2_with (first
      | (go_at_call 12; refine (awake _).mono ?_; rintro e w9 ⟨rfl, hg⟩)
      | (go_at_call 35; refine (F1.out _).mono ?_; rintro e w1 ⟨rfl, rfl⟩)
      | (go_at_call 37; refine (T'.out _).mono ?_; rintro e w1 ⟨rfl, rfl⟩))
    go_ret
    exact ⟨rfl, hg⟩
  · have e := back_far n (by omega) n0 n1
    have f1 := fint_lt n
    have f2 := fint_lt (ftoi (fint n))
    generalize ftoi (fint n) = k at *
    have e' : ((fint k : Int) == (fint n : Int)) = true ∨ (((fint k : Int) == (fint n : Int)) = false ∧ (k == 9223372036854775807) = true) := by
      by_cases h3 : fint k = fint n
      · exact .inl (by rw [h3]; simp)
      · rcases e with e | e
        · exact absurd e h3
        · exact .inr ⟨by simp; omega, by simp [e]⟩
    generalize fint n = f at *
    generalize fint k = g at *
    have T' := Lib.hid T
    have F2' := Lib.hid F2
    clear T F2 e
    rcases (by omega : n < -9007199254740992 ∨ (-9007199254740992 ≤ n ∧ 9007199254740992 < n)) with h1 | ⟨h1, h2⟩
    all_goals clear h
    all_goals rcases e' with e1 | ⟨e1, e2⟩
    all_goals
      go_enter Try.func8, Try.ntmps8
      go_wp2_with (first
        | (go_at_call 12; refine (awake _).mono ?_; rintro e w9 ⟨rfl, hg⟩)
        | (go_at_call 35; ((with_reducible refine (F1.out _).mono ?_); rintro e w1 ⟨rfl, rfl⟩))
        | (go_at_call 35; ((with_reducible refine (F2'.out _).mono ?_); rintro e w1 ⟨rfl, rfl⟩))
        | (go_at_call 37; refine (T'.out _).mono ?_; rintro e w1 ⟨rfl, rfl⟩))
      go_ret
      exact ⟨rfl, hg⟩

set_option linter.unusedVariables false in
set_option maxHeartbeats 2000000 in
theorem wholes_case (a b c v : Int) (x y s d z p q x2 : Nat) (l e : Bool) (w : World) (a0 : -2147483648 ≤ a) (a1 : a ≤ 2147483647) (b0 : -2147483648 ≤ b) (b1 : b ≤ 2147483647)
    (hc : a.tmod 4000000 = c) (c0 : -4000000 ≤ c) (c1 : c ≤ 4000000) (hv : IntKind.i64.wrap (c * b) = v) (hl : decide (a < b) = l) (he : (a == b) = e)
    (Fa : Hid (∀ w, Calls Try.prog 35 #[.int .i64 a] w fun e w' => e = .returned (.int .u64 (x : Int)) ∧ w = w'))
    (Fb : Hid (∀ w, Calls Try.prog 35 #[.int .i64 b] w fun e w' => e = .returned (.int .u64 (y : Int)) ∧ w = w'))
    (Fs : Hid (∀ w, Calls Try.prog 35 #[.int .i64 (a + b)] w fun e w' => e = .returned (.int .u64 (s : Int)) ∧ w = w'))
    (Fd : Hid (∀ w, Calls Try.prog 35 #[.int .i64 (a - b)] w fun e w' => e = .returned (.int .u64 (d : Int)) ∧ w = w'))
    (Fc : Hid (∀ w, Calls Try.prog 35 #[.int .i64 c] w fun e w' => e = .returned (.int .u64 (z : Int)) ∧ w = w'))
    (S : Hid (∀ w, Calls Try.prog 13 #[.int .u64 (x : Int), .int .u64 (y : Int)] w fun e w' => e = .returned (.int .u64 (s : Int)) ∧ Grown w w'))
    (X : Hid (∀ w, Calls Try.prog 13 #[.int .u64 (x : Int), .int .u64 (x : Int)] w fun e w' => e = .returned (.int .u64 (x2 : Int)) ∧ Grown w w'))
    (D : Hid (∀ w, Calls Try.prog 15 #[.int .u64 (x : Int), .int .u64 (y : Int)] w fun e w' => e = .returned (.int .u64 (d : Int)) ∧ Grown w w'))
    (M : Hid (∀ w, Calls Try.prog 17 #[.int .u64 (z : Int), .int .u64 (y : Int)] w fun e w' => e = .returned (.int .u64 (p : Int)) ∧ Grown w w'))
    (M2 : Hid (∀ w, Calls Try.prog 17 #[.int .u64 (x : Int), .int .u64 4611686018427387904] w fun e w' => e = .returned (.int .u64 (x2 : Int)) ∧ Grown w w'))
    (M3 : Hid (∀ w, Calls Try.prog 17 #[.int .u64 (q : Int), .int .u64 4611686018427387904] w fun e w' => e = .returned (.int .u64 (x : Int)) ∧ Grown w w'))
    (Q : Hid (∀ w, Calls Try.prog 19 #[.int .u64 (x : Int), .int .u64 4611686018427387904] w fun e w' => e = .returned (.int .u64 (q : Int)) ∧ Grown w w'))
    (T : Hid (∀ w, Calls Try.prog 37 #[.int .u64 (p : Int)] w fun e w' => e = .returned (.int .i64 v) ∧ w = w'))
    (E2 : Hid (∀ w, Calls Try.prog 21 #[.int .u64 (x2 : Int), .int .u64 (x2 : Int)] w fun e w' => e = .returned (.bool true) ∧ w = w'))
    (L : Hid (∀ w, Calls Try.prog 23 #[.int .u64 (x : Int), .int .u64 (y : Int)] w fun e w' => e = .returned (.bool l) ∧ w = w'))
    (E : Hid (∀ w, Calls Try.prog 21 #[.int .u64 (x : Int), .int .u64 (y : Int)] w fun e' w' => e' = .returned (.bool e) ∧ w = w')) :
    Calls Try.prog 9 #[.int .i32 a, .int .i32 b] w fun e w' => e = .returned (.bool true) ∧ Grown w w' := by
  cases l <;> cases e
  all_goals
    go_enter Try.func9, Try.ntmps9
    go_wp2_with (first
      | (go_at_call 12; refine (awake _).mono ?_; rintro e w9 ⟨rfl, hg⟩)
      | (go_at_call 35; ((with_reducible refine (Fa.out _).mono ?_); rintro e w1 ⟨rfl, rfl⟩))
      | (go_at_call 35; ((with_reducible refine (Fb.out _).mono ?_); rintro e w1 ⟨rfl, rfl⟩))
      | (go_at_call 35; ((with_reducible refine (Fs.out _).mono ?_); rintro e w1 ⟨rfl, rfl⟩))
      | (go_at_call 35; ((with_reducible refine (Fd.out _).mono ?_); rintro e w1 ⟨rfl, rfl⟩))
      | (go_at_call 35; ((with_reducible refine (Fc.out _).mono ?_); rintro e w1 ⟨rfl, rfl⟩))
      | (go_at_call 13; ((with_reducible refine (S.out _).mono ?_); rintro e w1 ⟨rfl, hg⟩))
      | (go_at_call 13; ((with_reducible refine (X.out _).mono ?_); rintro e w1 ⟨rfl, hg⟩))
      | (go_at_call 15; ((with_reducible refine (D.out _).mono ?_); rintro e w1 ⟨rfl, hg⟩))
      | (go_at_call 17; ((with_reducible refine (M.out _).mono ?_); rintro e w1 ⟨rfl, hg⟩))
      | (go_at_call 17; ((with_reducible refine (M2.out _).mono ?_); rintro e w1 ⟨rfl, hg⟩))
      | (go_at_call 17; ((with_reducible refine (M3.out _).mono ?_); rintro e w1 ⟨rfl, hg⟩))
      | (go_at_call 19; ((with_reducible refine (Q.out _).mono ?_); rintro e w1 ⟨rfl, hg⟩))
      | (go_at_call 37; ((with_reducible refine (T.out _).mono ?_); rintro e w1 ⟨rfl, rfl⟩))
      | (go_at_call 21; ((with_reducible refine (E2.out _).mono ?_); rintro e w1 ⟨rfl, rfl⟩))
      | (go_at_call 21; ((with_reducible refine (E.out _).mono ?_); rintro e w1 ⟨rfl, rfl⟩))
      | (go_at_call 23; ((with_reducible refine (L.out _).mono ?_); rintro e w1 ⟨rfl, rfl⟩)))
    go_ret
    exact ⟨rfl, by repeat (first | exact Grown.refl _ | assumption | refine Grown.trans ?_ (by assumption))⟩

theorem wholes_walk (a b : Int) (w : World) (a0 : -2147483648 ≤ a) (a1 : a ≤ 2147483647) (b0 : -2147483648 ≤ b) (b1 : b ≤ 2147483647) :
    Calls Try.prog 9 #[.int .i32 a, .int .i32 b] w fun e w' => e = .returned (.bool true) ∧ Grown w w' := by
  have wa := whole_fint a (by omega)
  have wb := whole_fint b (by omega)
  have cb : -4000000 ≤ a.tmod 4000000 ∧ a.tmod 4000000 ≤ 4000000 := by
    have h1 := Int.lt_tmod_of_pos a (show (0 : Int) < 4000000 by omega)
    have h2 := Int.tmod_lt_of_pos a (show (0 : Int) < 4000000 by omega)
    omega
  have wc := whole_fint (a.tmod 4000000) (by omega)
  have hp : (a.tmod 4000000 * b).natAbs < 9007199254740992 := by
    rw [Int.natAbs_mul]
    have h1 : (a.tmod 4000000).natAbs ≤ 4000000 := by omega
    have h2 : b.natAbs ≤ 2147483648 := by omega
    have := Nat.mul_le_mul h1 h2
    omega
  have ct := mul_toInt wc wb hp
  have hv : IntKind.i64.wrap (a.tmod 4000000 * b) = a.tmod 4000000 * b := by rw [IntKind.wrap_i64]; omega
  have m3 := half_double a (by omega)
  refine wholes_case a b (a.tmod 4000000) (a.tmod 4000000 * b) (fint a) (fint b) (fint (a + b)) (fint (a - b)) (fint (a.tmod 4000000)) (fop .mul (fint (a.tmod 4000000)) (fint b)) (fop .quo (fint a) 4611686018427387904) (fint (a * 2)) (decide (a < b)) (a == b) w a0 a1 b0 b1
    rfl cb.1 cb.2 hv rfl rfl (Lib.hid fun w => fromInt_any a w) (Lib.hid fun w => fromInt_any b w) (Lib.hid fun w => fromInt_any _ w) (Lib.hid fun w => fromInt_any _ w) (Lib.hid fun w => fromInt_any _ w) ?_ ?_ ?_ ?_ ?_ ?_ ?_ ?_ ?_ ?_ ?_
  · intro w; have h := add_any (fint a : Nat) (fint b : Nat) w; rwa [Int.toNat_natCast, Int.toNat_natCast, add_whole wa wb] at h
  · intro w; have h := add_any (fint a : Nat) (fint a : Nat) w; rwa [Int.toNat_natCast, add_whole wa wa, show a + a = a * 2 by omega] at h
  · intro w; have h := sub_any (fint a : Nat) (fint b : Nat) w; rwa [Int.toNat_natCast, Int.toNat_natCast, sub_whole wa wb] at h
  · intro w; have h := mul_any (fint (a.tmod 4000000) : Nat) (fint b : Nat) w; rwa [Int.toNat_natCast, Int.toNat_natCast] at h
  · intro w; have h := mul_any (fint a : Nat) 4611686018427387904 w; rwa [Int.toNat_natCast, show (4611686018427387904 : Int).toNat = 4611686018427387904 from rfl, mul_two wa] at h
  · intro w; have h := mul_any (fop .quo (fint a) 4611686018427387904 : Nat) 4611686018427387904 w; rwa [Int.toNat_natCast, show (4611686018427387904 : Int).toNat = 4611686018427387904 from rfl, m3] at h
  · intro w; have h := div_any (fint a : Nat) 4611686018427387904 w; rwa [Int.toNat_natCast, show (4611686018427387904 : Int).toNat = 4611686018427387904 from rfl] at h
  · intro w; have h := toInt_any (fop .mul (fint (a.tmod 4000000)) (fint b) : Nat) w; rwa [Int.toNat_natCast, ct] at h
  · intro w
    have wd := whole_fint (a * 2) (by omega)
    have h := equal_any (fint (a * 2) : Nat) (fint (a * 2) : Nat) w
    have e : feq (fint (a * 2)) (fint (a * 2)) = true := by
      show (Ieee.double.order _ _ == some .eq) = true
      rw [whole_eq wd wd]; simp
    rwa [Int.toNat_natCast, e] at h
  · intro w
    have h := less_any (fint a : Nat) (fint b : Nat) w
    have e : fless (fint a) (fint b) = decide (a < b) := whole_less wa wb
    rwa [Int.toNat_natCast, Int.toNat_natCast, e] at h
  · intro w
    have h := equal_any (fint a : Nat) (fint b : Nat) w
    have e : feq (fint a) (fint b) = (a == b) := whole_eq wa wb
    rwa [Int.toNat_natCast, Int.toNat_natCast, e] at h
end Go.Proofs.Ytmdcdicmlnlenaa
