/- The walks of layer 1's statements that stand without the document's sums: each returns true. -/
import Derived.Test.YtfhllkdbiiaodaaI
namespace Go.Proofs.Ytfhllkdbiiaodaa
open Go.ChangeShapes Go.WideShapes Go.ChangeAt Go.RowKit

theorem div_mono {x y c : Int} (hc : 0 < c) (h : x ≤ y) : M.sat (x / c) ≤ M.sat (y / c) := M.sat_mono (Int.ediv_le_ediv hc h)
theorem mul_mono {x y c : Int} (hc : 0 ≤ c) (h : x ≤ y) : x * c ≤ y * c := Int.mul_le_mul_of_nonneg_right h hc

def rat (a b : Int) : Int := if b = 0 then 18446744073709551615 else M.sat (a * 65536 / b)
theorem rat_mono {a x c : Int} (hc : 0 ≤ c) (h : a ≤ x) : rat a c ≤ rat x c := by
  unfold rat
  by_cases h0 : c = 0
  · simp [h0]
  · rw [if_neg h0, if_neg h0]; exact div_mono (by omega) (by omega)
theorem ratio_all (a b : Int) (w : World) (ha : 0 ≤ a) (ha1 : a ≤ 18446744073709551615) (hb : 0 ≤ b) (hb1 : b ≤ 18446744073709551615) :
    Calls Try.prog 20 #[.int .u64 a, .int .u64 b] w fun e w' => e = .returned (.int .u64 (rat a b)) ∧ Grown w w' := by
  by_cases h0 : b = 0
  · subst h0
    exact (ratio_zero a w).mono fun e w' h => ⟨h.1, h.2 ▸ Grown.refl _⟩
  · exact (ratio_any a b w ha ha1 (by omega) hb1).mono fun e w' h => ⟨h.1.trans (ret_int (by rw [rat, if_neg h0])), h.2⟩

structure Rises (a b c p more : Int) : Prop where
  m0 : 0 ≤ more
  m1 : more ≤ 18446744073709551615
  ma : a ≤ more
  mb : b ≤ more
  q : M.sat (a * c / 7) ≤ M.sat (more * c / 7)
  m : M.sat (a * c) ≤ M.sat (more * c)
  pm : M.sat (a + M.sat (a * p / 100)) ≤ M.sat (more + M.sat (more * p / 100))
  pa : a ≤ M.sat (a + M.sat (a * p / 100))
  s : M.sat (a * c / 65536) ≤ M.sat (more * c / 65536)
  r : rat a c ≤ rat more c
  back : more = 18446744073709551615 ∨ M.dif more b = a

theorem rises (a b c p : Int) (a0 : 0 ≤ a) (a1 : a ≤ 18446744073709551615) (b0 : 0 ≤ b) (b1 : b ≤ 18446744073709551615) (c0 : 0 ≤ c) (p0 : 0 ≤ p) : Rises a b c p (M.sat (a + b)) := by
  have h := M.sat_bd (a + b) (by omega)
  have ha : a ≤ M.sat (a + b) := by unfold M.sat; split <;> omega
  have hb : b ≤ M.sat (a + b) := by unfold M.sat; split <;> omega
  have hback : M.sat (a + b) = 18446744073709551615 ∨ M.dif (M.sat (a + b)) b = a := by
    by_cases hl : a + b < 18446744073709551616
    · right; rw [M.sat_in _ hl, M.dif_ge (by omega)]; omega
    · left; exact M.sat_out _ (by omega)
  generalize M.sat (a + b) = more at *
  have hp := div_mono (c := 100) (by omega) (mul_mono p0 ha)
  have hp0 := M.sat_bd (a * p / 100) (Int.ediv_nonneg (Int.mul_nonneg a0 p0) (by omega))
  refine ⟨h.1, h.2, ha, hb, div_mono (by omega) (mul_mono c0 ha), M.sat_mono (mul_mono c0 ha), M.sat_mono (by omega), ?_, div_mono (by omega) (mul_mono c0 ha), rat_mono c0 ha, hback⟩
  generalize M.sat (a * p / 100) = t at *
  unfold M.sat
  split <;> omega

set_option maxHeartbeats 1000000 in
theorem rises_walk (a b c p : Int) (w : World) (a0 : 0 ≤ a) (a1 : a ≤ 18446744073709551615) (b0 : 0 ≤ b) (b1 : b ≤ 18446744073709551615) (c0 : 0 ≤ c) (c1 : c ≤ 18446744073709551615) (p0 : 0 ≤ p) (p1 : p ≤ 65535) :
    Calls Try.prog 6 #[.int .u64 a, .int .u64 b, .int .u64 c, .int .u16 p] w fun e w' => e = .returned (.bool true) ∧ Grown w w' := by
  have call : ∀ w, Calls Try.prog 10 #[.int .u64 a, .int .u64 b] w fun e w' => e = .returned (.int .u64 (M.sat (a + b))) ∧ w = w' := fun w => add_any a b w a0 a1 b0 b1
  obtain ⟨m0, m1, ma, mb, q, m, pm, pa, s, r, back⟩ := rises a b c p a0 a1 b0 b1 c0 p0
  generalize M.sat (a + b) = more at *
  have Call : Hid _ := call
  clear call
  have fin : (more == 18446744073709551615) = true ∨ ((more == 18446744073709551615) = false ∧ (M.dif more b == a) = true) := by
    by_cases h : more = 18446744073709551615
    · exact .inl (by simp [h])
    · exact .inr ⟨by simpa using h, by rcases back with e | e; exact absurd e h; simp [e]⟩
  clear back
  rcases fin with h1 | ⟨h1, h2⟩
  all_goals
    go_enter Try.func6, Try.ntmps6
    go_wp2_with (first
      | (go_at_call 9; refine (awake _).mono ?_; rintro e w9 ⟨rfl, hg9⟩)
      | (go_at_call 10; refine (Call.out _).mono ?_; rintro e w10 ⟨rfl, rfl⟩)
      | (go_at_call 12; refine (sub_any 12 (.inl rfl) _ _ _ (by omega) (by omega) (by omega) (by omega)).mono ?_; rintro e w12 ⟨rfl, rfl⟩)
      | (go_at_call 14; refine (mul_any _ _ _ (by omega) (by omega) (by omega) (by omega)).mono ?_; rintro e w14 ⟨rfl, rfl⟩)
      | (go_at_call 16; refine (MulDiv_any _ _ _ _ (by omega) (by omega) (by omega) (by omega) (by omega) (by omega)).mono ?_; rintro e w16 ⟨rfl, hg⟩)
      | (go_at_call 18; refine (percent_any _ _ _ (by omega) (by omega) (by omega) (by omega)).mono ?_; rintro e w18 ⟨rfl, hg⟩)
      | (go_at_call 20; refine (ratio_all _ _ _ (by omega) (by omega) (by omega) (by omega)).mono ?_; rintro e w20 ⟨rfl, hg⟩)
      | (go_at_call 22; refine (scale_any _ _ _ (by omega) (by omega) (by omega) (by omega)).mono ?_; rintro e w22 ⟨rfl, hg⟩))
    go_ret
    exact ⟨rfl, by repeat (first | exact Grown.refl _ | assumption | refine Grown.trans ?_ (by assumption))⟩

theorem sat_self {a c : Int} (hc : 0 < c) (a1 : a ≤ 18446744073709551615) : M.sat (a * c / c) = a := by
  rw [Int.mul_ediv_cancel _ (by omega), M.sat_in _ (by omega)]

set_option maxHeartbeats 1000000 in
theorem back_walk (a b : Int) (w : World) (a0 : 0 ≤ a) (a1 : a ≤ 18446744073709551615) (b0 : 0 ≤ b) (b1 : b ≤ 18446744073709551615) :
    Calls Try.prog 7 #[.int .u64 a, .int .u64 b] w fun e w' => e = .returned (.bool true) ∧ Grown w w' := by
  have scale : ∀ w, Calls Try.prog 22 #[.int .u64 a, .int .u64 65536] w fun e w' => e = .returned (.int .u64 a) ∧ Grown w w' := fun w =>
    (scale_any a 65536 w a0 a1 (by omega) (by omega)).mono fun e w' h => ⟨h.1.trans (ret_int (sat_self (by omega) a1)), h.2⟩
  have ratio : ∀ w, Calls Try.prog 20 #[.int .u64 a, .int .u64 65536] w fun e w' => e = .returned (.int .u64 a) ∧ Grown w w' := fun w =>
    (ratio_any a 65536 w a0 a1 (by omega) (by omega)).mono fun e w' h => ⟨h.1.trans (ret_int (sat_self (by omega) a1)), h.2⟩
  have hundred : ∀ w, Calls Try.prog 18 #[.int .u64 a, .int .i64 100] w fun e w' => e = .returned (.int .u64 (M.sat (a + a))) ∧ Grown w w' := fun w =>
    (percent_any a 100 w a0 a1 (by omega) (by omega)).mono fun e w' h => ⟨h.1.trans (ret_int (by rw [sat_self (by omega) a1])), h.2⟩
  have one : ∀ w, Calls Try.prog 16 #[.int .u64 a, .int .u64 b, .int .u64 1] w fun e w' => e = .returned (.tuple #[.int .u64 (M.sat (a * b)), .int .i64 0]) ∧ Grown w w' := fun w =>
    (MulDiv_any a b 1 w a0 a1 b0 b1 (by omega) (by omega)).mono fun e w' h => ⟨h.1.trans (ret_pair (by rw [Int.ediv_one]) rfl), h.2⟩
  have whole : ∀ w, 0 < b → Calls Try.prog 16 #[.int .u64 a, .int .u64 b, .int .u64 b] w fun e w' => e = .returned (.tuple #[.int .u64 a, .int .i64 0]) ∧ Grown w w' := fun w hb =>
    (MulDiv_any a b b w a0 a1 b0 b1 hb b1).mono fun e w' h => ⟨h.1.trans (ret_pair (sat_self hb a1) rfl), h.2⟩
  have S : Hid _ := scale
  have R : Hid _ := ratio
  have U : Hid _ := hundred
  have O : Hid _ := one
  have W : Hid _ := whole
  clear scale ratio hundred one whole
  by_cases hb : b = 0
  · subst hb
    have zero : ∀ w, Calls Try.prog 16 #[.int .u64 a, .int .u64 0, .int .u64 (max 0 1)] w fun e w' => e = .returned (.tuple #[.int .u64 (M.sat (a * 0 / 1)), .int .i64 0]) ∧ Grown w w' := fun w =>
      MulDiv_any a 0 1 w a0 a1 (by omega) (by omega) (by omega) (by omega)
    have Z : Hid _ := zero
    clear zero
    go_enter Try.func7, Try.ntmps7
    go_wp2_with (first
      | (go_at_call 9; refine (awake _).mono ?_; rintro e w9 ⟨rfl, hg9⟩)
      | (go_at_call 16; ((with_reducible refine (Z.out _).mono ?_); rintro e w16 ⟨rfl, hg⟩))
      | (go_at_call 16; ((with_reducible refine (O.out _).mono ?_); rintro e w16 ⟨rfl, hg⟩))
      | (go_at_call 16; ((with_reducible refine (MulDiv_zero _ _ _).mono ?_); rintro e w16 ⟨rfl, rfl⟩))
      | (go_at_call 14; refine (mul_any _ _ _ (by omega) (by omega) (by omega) (by omega)).mono ?_; rintro e w14 ⟨rfl, rfl⟩)
      | (go_at_call 22; ((with_reducible refine (S.out _).mono ?_); rintro e w22 ⟨rfl, hg⟩))
      | (go_at_call 20; ((with_reducible refine (R.out _).mono ?_); rintro e w20 ⟨rfl, hg⟩))
      | (go_at_call 18; ((with_reducible refine (percent_neg a (-5) _ (by omega)).mono ?_); rintro e w18 ⟨rfl, rfl⟩))
      | (go_at_call 18; ((with_reducible refine (U.out _).mono ?_); rintro e w18 ⟨rfl, hg⟩))
      | (go_at_call 10; refine (add_any _ _ _ (by omega) (by omega) (by omega) (by omega)).mono ?_; rintro e w10 ⟨rfl, rfl⟩))
    go_ret
    exact ⟨rfl, by repeat (first | exact Grown.refl _ | assumption | refine Grown.trans ?_ (by assumption))⟩
  · have hb0 : 0 < b := by omega
    have hmax : max b 1 = b := by omega
    clear hb
    go_enter Try.func7, Try.ntmps7
    go_wp2_with (first
      | (go_at_call 9; refine (awake _).mono ?_; rintro e w9 ⟨rfl, hg9⟩)
      | (go_at_call 16; ((with_reducible refine (W.out _ hb0).mono ?_); rintro e w16 ⟨rfl, hg⟩))
      | (go_at_call 16; ((with_reducible refine (O.out _).mono ?_); rintro e w16 ⟨rfl, hg⟩))
      | (go_at_call 16; ((with_reducible refine (MulDiv_zero _ _ _).mono ?_); rintro e w16 ⟨rfl, rfl⟩))
      | (go_at_call 14; refine (mul_any _ _ _ (by omega) (by omega) (by omega) (by omega)).mono ?_; rintro e w14 ⟨rfl, rfl⟩)
      | (go_at_call 22; ((with_reducible refine (S.out _).mono ?_); rintro e w22 ⟨rfl, hg⟩))
      | (go_at_call 20; ((with_reducible refine (R.out _).mono ?_); rintro e w20 ⟨rfl, hg⟩))
      | (go_at_call 18; ((with_reducible refine (percent_neg a (-5) _ (by omega)).mono ?_); rintro e w18 ⟨rfl, rfl⟩))
      | (go_at_call 18; ((with_reducible refine (U.out _).mono ?_); rintro e w18 ⟨rfl, hg⟩))
      | (go_at_call 10; refine (add_any _ _ _ (by omega) (by omega) (by omega) (by omega)).mono ?_; rintro e w10 ⟨rfl, rfl⟩))
    go_ret
    exact ⟨rfl, by repeat (first | exact Grown.refl _ | assumption | refine Grown.trans ?_ (by assumption))⟩

set_option maxHeartbeats 1000000 in
theorem parted_zero (a b : Int) (w : World) :
    Calls Try.prog 8 #[.int .u32 a, .int .u32 b, .int .u64 0] w fun e w' => e = .returned (.bool true) ∧ Grown w w' := by
  go_enter Try.func8, Try.ntmps8
  go_wp2_with (go_at_call 9; refine (awake _).mono ?_; rintro e w9 ⟨rfl, hg9⟩)
  go_ret
  exact ⟨rfl, by repeat (first | exact Grown.refl _ | assumption | refine Grown.trans ?_ (by assumption))⟩

theorem parted_walk (a b c : Int) (w : World) (a0 : 0 ≤ a) (a1 : a ≤ 4294967295) (b0 : 0 ≤ b) (b1 : b ≤ 4294967295) (c0 : 0 < c) (c1 : c ≤ 18446744073709551615) :
    Calls Try.prog 8 #[.int .u32 a, .int .u32 b, .int .u64 c] w fun e w' => e = .returned (.bool true) ∧ Grown w w' := by
  have hp := M.mul_bd a0 b0 a1 b1
  have hq0 : 0 ≤ a * b / c := Int.ediv_nonneg hp.1 (by omega)
  have hq1 : a * b / c ≤ a * b := Int.ediv_le_self _ hp.1
  have he := Int.ediv_mul_add_emod (a * b) c
  have hm := M.mod_bd (a * b) c c0
  have hd : (a * b).tdiv c = a * b / c := Int.tdiv_eq_ediv_of_nonneg hp.1
  have t0 : 0 ≤ a * b / c * c := Int.mul_nonneg hq0 (by omega)
  have t1 : a * b / c * c ≤ a * b := by omega
  have t2 : a * b - a * b / c * c < c := by omega
  have call : ∀ w, Calls Try.prog 16 #[.int .u64 a, .int .u64 b, .int .u64 c] w fun e w' => e = .returned (.tuple #[.int .u64 (a * b / c), .int .i64 0]) ∧ Grown w w' := fun w =>
    (MulDiv_any a b c w a0 (by omega) b0 (by omega) c0 c1).mono fun e w' h => ⟨h.1.trans (ret_pair (M.sat_in _ (by omega)) rfl), h.2⟩
  have C : Hid _ := call
  have hz : (c == 0) = false := by simp; omega
  clear call he hm
  go_enter Try.func8, Try.ntmps8
  go_wp2_with (first
    | (go_at_call 9; refine (awake _).mono ?_; rintro e w9 ⟨rfl, hg9⟩)
    | (go_at_call 16; refine (C.out _).mono ?_; rintro e w16 ⟨rfl, hg⟩))
  go_ret
  exact ⟨rfl, by repeat (first | exact Grown.refl _ | assumption | refine Grown.trans ?_ (by assumption))⟩
theorem parted_all (a b c : Int) (w : World) (a0 : 0 ≤ a) (a1 : a ≤ 4294967295) (b0 : 0 ≤ b) (b1 : b ≤ 4294967295) (c0 : 0 ≤ c) (c1 : c ≤ 18446744073709551615) :
    Calls Try.prog 8 #[.int .u32 a, .int .u32 b, .int .u64 c] w fun e w' => e = .returned (.bool true) ∧ Grown w w' := by
  by_cases h : c = 0
  · subst h; exact parted_zero a b w
  · exact parted_walk a b c w a0 a1 b0 b1 (by omega) c1
end Go.Proofs.Ytfhllkdbiiaodaa
