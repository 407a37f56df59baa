/- Contracts of layer 1's products and quotients: fix.Mul, mulDiv, MulDiv, Percent, Ratio, Scale. -/
import Derived.Test.YtfhllkdbiiaodaaE
namespace Go.Proofs.Ytfhllkdbiiaodaa
open Go.ChangeShapes Go.WideShapes Go.ChangeAt Go.RowKit

theorem Grown.trans {a b c : World} (h : Grown a b) (k : Grown b c) : Grown a c :=
  ⟨World.keptBut_trans h.1 k.1, fun x => (k.2.1 x).trans (h.2.1 x), Nat.le_trans h.2.2 k.2.2⟩

theorem prod_bd (a b : Int) (ha : 0 ≤ a) (ha1 : a ≤ 18446744073709551615) (hb : 0 ≤ b) (hb1 : b ≤ 18446744073709551615) :
    0 ≤ a * b / 18446744073709551616 ∧ a * b / 18446744073709551616 ≤ 18446744073709551615 ∧ 0 ≤ a * b % 18446744073709551616 ∧ a * b % 18446744073709551616 ≤ 18446744073709551615 := by
  have h := M.mul_bd ha hb ha1 hb1
  omega

theorem mul_any (a b : Int) (w : World) (ha : 0 ≤ a) (ha1 : a ≤ 18446744073709551615) (hb : 0 ≤ b) (hb1 : b ≤ 18446744073709551615) :
    Calls Try.prog 14 #[.int .u64 a, .int .u64 b] w fun e w' => e = .returned (.int .u64 (M.sat (a * b))) ∧ w = w' := by
  obtain ⟨p1, p2, p3, p4⟩ := prod_bd a b ha ha1 hb hb1
  by_cases h : a * b / 18446744073709551616 = 0
  · have H : Hid (a * b % 18446744073709551616 = M.sat (a * b)) := by show _ = _; rw [M.sat_in _ (by omega)]; omega
    have hz : (a * b / 18446744073709551616 != 0) = false := by rw [h]; rfl
    clear h
    go_enter Try.func14, Try.ntmps14
    go_wp2_with (go_at_call 25; refine (mul64_any _ _ _ (by omega) (by omega) (by omega) (by omega)).mono ?_; rintro e w' ⟨rfl, rfl⟩)
    go_ret
    exact ⟨ret_int H.out, rfl⟩
  · have H : Hid (18446744073709551615 = M.sat (a * b)) := by show _ = _; rw [M.sat_out _ (by omega)]
    have hz : (a * b / 18446744073709551616 != 0) = true := by simpa using h
    go_enter Try.func14, Try.ntmps14
    go_wp2_with (go_at_call 25; refine (mul64_any _ _ _ (by omega) (by omega) (by omega) (by omega)).mono ?_; rintro e w' ⟨rfl, rfl⟩)
    go_ret
    exact ⟨ret_int H.out, rfl⟩

theorem muldiv_any (a b c : Int) (w : World) (ha : 0 ≤ a) (ha1 : a ≤ 18446744073709551615) (hb : 0 ≤ b) (hb1 : b ≤ 18446744073709551615) (hc : 0 < c) (hc1 : c ≤ 18446744073709551615) :
    Calls Try.prog 28 #[.int .u64 a, .int .u64 b, .int .u64 c] w fun e w' => e = .returned (.int .u64 (M.sat (a * b / c))) ∧ Grown w w' := by
  obtain ⟨p1, p2, p3, p4⟩ := prod_bd a b ha ha1 hb hb1
  have e1 : a * b / 18446744073709551616 * 18446744073709551616 + a * b % 18446744073709551616 = a * b := by omega
  by_cases h : c ≤ a * b / 18446744073709551616
  · have H : Hid (18446744073709551615 = M.sat (a * b / c)) := by
      show _ = _
      rw [M.sat_out _ (M.quo_ge hc (by omega))]
    clear e1
    go_enter Try.func28, Try.ntmps28
    go_wp2_with (go_at_call 25; refine (mul64_any _ _ _ (by omega) (by omega) (by omega) (by omega)).mono ?_; rintro e w' ⟨rfl, rfl⟩)
    go_ret
    exact ⟨ret_int H.out, Grown.refl _⟩
  · have H : Hid ((a * b / 18446744073709551616 * 18446744073709551616 + a * b % 18446744073709551616) / c = M.sat (a * b / c)) := by
      show _ = _
      rw [e1, M.sat_in _ (M.quo_lt hc (by omega))]
    clear e1
    go_enter Try.func28, Try.ntmps28
    go_wp2_with (first
      | (go_at_call 25; refine (mul64_any _ _ _ (by omega) (by omega) (by omega) (by omega)).mono ?_; rintro e w' ⟨rfl, rfl⟩)
      | (go_at_call 30; refine (div64_any _ _ _ _ (by omega) (by omega) (by omega) (by omega) (by omega)).mono ?_; rintro e w' ⟨⟨r, rfl⟩, hg⟩))
    go_ret
    exact ⟨ret_int H.out, by assumption⟩

theorem MulDiv_zero (a b : Int) (w : World) :
    Calls Try.prog 16 #[.int .u64 a, .int .u64 b, .int .u64 0] w fun e w' => e = .returned (.tuple #[.int .u64 0, .int .i64 1]) ∧ w = w' := by
  go_enter Try.func16, Try.ntmps16
  go_wp2
  go_ret2
  exact ⟨rfl, rfl⟩
theorem MulDiv_any (a b c : Int) (w : World) (ha : 0 ≤ a) (ha1 : a ≤ 18446744073709551615) (hb : 0 ≤ b) (hb1 : b ≤ 18446744073709551615) (hc : 0 < c) (hc1 : c ≤ 18446744073709551615) :
    Calls Try.prog 16 #[.int .u64 a, .int .u64 b, .int .u64 c] w fun e w' => e = .returned (.tuple #[.int .u64 (M.sat (a * b / c)), .int .i64 0]) ∧ Grown w w' := by
  have hz : (c == 0) = false := by simp; omega
  go_enter Try.func16, Try.ntmps16
  go_wp2_with (go_at_call 28; refine (muldiv_any _ _ _ _ (by omega) (by omega) (by omega) (by omega) (by omega) (by omega)).mono ?_; rintro e w' ⟨rfl, hg⟩)
  go_ret2
  exact ⟨rfl, by assumption⟩

theorem percent_neg (a p : Int) (w : World) (hp : p < 0) :
    Calls Try.prog 18 #[.int .u64 a, .int .i64 p] w fun e w' => e = .returned (.int .u64 a) ∧ w = w' := by
  go_enter Try.func18, Try.ntmps18
  go_wp2
  go_ret
  exact ⟨rfl, rfl⟩
theorem percent_any (a p : Int) (w : World) (ha : 0 ≤ a) (ha1 : a ≤ 18446744073709551615) (hp : 0 ≤ p) (hp1 : p ≤ 9223372036854775807) :
    Calls Try.prog 18 #[.int .u64 a, .int .i64 p] w fun e w' => e = .returned (.int .u64 (M.sat (a + M.sat (a * p / 100)))) ∧ Grown w w' := by
  have hs := M.sat_bd (a * p / 100) (Int.ediv_nonneg (Int.mul_nonneg ha hp) (by omega))
  go_enter Try.func18, Try.ntmps18
  go_wp2_with (first
    | (go_at_call 28; refine (muldiv_any _ _ _ _ (by omega) (by omega) (by omega) (by omega) (by omega) (by omega)).mono ?_; rintro e w' ⟨rfl, hg⟩)
    | (go_at_call 10; refine (add_any _ _ _ (by omega) (by omega) (by omega) (by omega)).mono ?_; rintro e w' ⟨rfl, rfl⟩))
  go_ret
  exact ⟨rfl, by assumption⟩
theorem ratio_zero (a : Int) (w : World) :
    Calls Try.prog 20 #[.int .u64 a, .int .u64 0] w fun e w' => e = .returned (.int .u64 18446744073709551615) ∧ w = w' := by
  go_enter Try.func20, Try.ntmps20
  go_wp2
  go_ret
  exact ⟨rfl, rfl⟩
theorem ratio_any (a b : Int) (w : World) (ha : 0 ≤ a) (ha1 : a ≤ 18446744073709551615) (hb : 0 < b) (hb1 : b ≤ 18446744073709551615) :
    Calls Try.prog 20 #[.int .u64 a, .int .u64 b] w fun e w' => e = .returned (.int .u64 (M.sat (a * 65536 / b))) ∧ Grown w w' := by
  have hz : (b == 0) = false := by simp; omega
  go_enter Try.func20, Try.ntmps20
  go_wp2_with (go_at_call 28; refine (muldiv_any _ _ _ _ (by omega) (by omega) (by omega) (by omega) (by omega) (by omega)).mono ?_; rintro e w' ⟨rfl, hg⟩)
  go_ret
  exact ⟨rfl, by assumption⟩
theorem scale_any (a b : Int) (w : World) (ha : 0 ≤ a) (ha1 : a ≤ 18446744073709551615) (hb : 0 ≤ b) (hb1 : b ≤ 18446744073709551615) :
    Calls Try.prog 22 #[.int .u64 a, .int .u64 b] w fun e w' => e = .returned (.int .u64 (M.sat (a * b / 65536))) ∧ Grown w w' := by
  go_enter Try.func22, Try.ntmps22
  go_wp2_with (go_at_call 28; refine (muldiv_any _ _ _ _ (by omega) (by omega) (by omega) (by omega) (by omega) (by omega)).mono ?_; rintro e w' ⟨rfl, hg⟩)
  go_ret
  exact ⟨rfl, by assumption⟩

theorem aw1 (w : World) : Calls Try.prog 16 #[.int .u64 9223372036854775808, .int .u64 6, .int .u64 4] w fun e w' => e = .returned (.tuple #[.int .u64 13835058055282163712, .int .i64 0]) ∧ Grown w w' :=
  (MulDiv_any 9223372036854775808 6 4 w (by omega) (by omega) (by omega) (by omega) (by omega) (by omega)).mono fun _ _ h => ⟨h.1.trans (ret_pair (by rw [M.sat_in _ (by omega)]; omega) rfl), h.2⟩
theorem aw2 (w : World) : Calls Try.prog 10 #[.int .u64 18446744073709551615, .int .u64 2] w fun e w' => e = .returned (.int .u64 18446744073709551615) ∧ w = w' :=
  (add_any 18446744073709551615 2 w (by omega) (by omega) (by omega) (by omega)).mono fun _ _ h => ⟨h.1.trans (ret_int (by rw [M.sat_out _ (by omega)])), h.2⟩
theorem aw3 (w : World) : Calls Try.prog 12 #[.int .u64 2, .int .u64 3] w fun e w' => e = .returned (.int .u64 0) ∧ w = w' :=
  (sub_any 12 (.inl rfl) 2 3 w (by omega) (by omega) (by omega) (by omega)).mono fun _ _ h => ⟨h.1.trans (ret_int (by rw [M.dif_lt (by omega)])), h.2⟩
theorem aw4 (w : World) : Calls Try.prog 18 #[.int .u64 200, .int .i64 150] w fun e w' => e = .returned (.int .u64 500) ∧ Grown w w' :=
  (percent_any 200 150 w (by omega) (by omega) (by omega) (by omega)).mono fun _ _ h => ⟨h.1.trans (ret_int (by rw [M.sat_in (200 * 150 / 100) (by omega), M.sat_in _ (by omega)]; omega)), h.2⟩
theorem aw5 (w : World) : Calls Try.prog 20 #[.int .u64 1, .int .u64 3] w fun e w' => e = .returned (.int .u64 21845) ∧ Grown w w' :=
  (ratio_any 1 3 w (by omega) (by omega) (by omega) (by omega)).mono fun _ _ h => ⟨h.1.trans (ret_int (by rw [M.sat_in _ (by omega)]; omega)), h.2⟩

theorem awake (w : World) : Calls Try.prog 9 #[] w fun e w' => e = .returned (.bool true) ∧ Grown w w' := by
  go_enter Try.func9, Try.ntmps9
  go_wp2_with (first
    | (go_at_call 16; refine (aw1 _).mono ?_; rintro e w1 ⟨rfl, h1⟩)
    | (go_at_call 10; refine (aw2 _).mono ?_; rintro e w2 ⟨rfl, rfl⟩)
    | (go_at_call 12; refine (aw3 _).mono ?_; rintro e w3 ⟨rfl, rfl⟩)
    | (go_at_call 18; refine (aw4 _).mono ?_; rintro e w4 ⟨rfl, h4⟩)
    | (go_at_call 20; refine (aw5 _).mono ?_; rintro e w5 ⟨rfl, h5⟩))
  go_ret
  exact ⟨rfl, Grown.trans h1 (Grown.trans h4 h5)⟩
end Go.Proofs.Ytfhllkdbiiaodaa
