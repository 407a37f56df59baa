/- Contracts of layer 1's products and quotients: fix.Mul, mulDiv, MulDiv, Percent, Ratio, Scale. -/
import Derived.Test.YtlpgfdphoiideaaE
namespace Go.Proofs.Ytlpgfdphoiideaa
open Go.ChangeShapes Go.WideShapes Go.ChangeAt Go.RowKit

theorem Grown.trans {a b c : World} (h : Grown a b) (k : Grown b c) : Grown a c :=
  ⟨World.keptBut_trans h.1 k.1, fun x => (k.2.1 x).trans (h.2.1 x), Nat.le_trans h.2.2 k.2.2⟩

theorem prod_bd (a b : Int) (ha : 0 ≤ a) (ha1 : a ≤ 18446744073709551615) (hb : 0 ≤ b) (hb1 : b ≤ 18446744073709551615) :
    0 ≤ a * b / 18446744073709551616 ∧ a * b / 18446744073709551616 ≤ 18446744073709551615 ∧ 0 ≤ a * b % 18446744073709551616 ∧ a * b % 18446744073709551616 ≤ 18446744073709551615 := by
  have h := M.mul_bd ha hb ha1 hb1
  omega

theorem muldiv_any (a b c : Int) (w : World) (ha : 0 ≤ a) (ha1 : a ≤ 18446744073709551615) (hb : 0 ≤ b) (hb1 : b ≤ 18446744073709551615) (hc : 0 < c) (hc1 : c ≤ 18446744073709551615) :
    Calls Try.prog 60 #[.int .u64 a, .int .u64 b, .int .u64 c] w fun e w' => e = .returned (.int .u64 (M.sat (a * b / c))) ∧ Grown w w' := by
  obtain ⟨p1, p2, p3, p4⟩ := prod_bd a b ha ha1 hb hb1
  have e1 : a * b / 18446744073709551616 * 18446744073709551616 + a * b % 18446744073709551616 = a * b := by omega
  by_cases h : c ≤ a * b / 18446744073709551616
  · have H : Hid (18446744073709551615 = M.sat (a * b / c)) := by
      show _ = _
      rw [M.sat_out _ (M.quo_ge hc (by omega))]
    clear e1
    go_enter Try.func60, Try.ntmps60
    go_wp2_with (go_at_call 63; refine (mul64_any _ _ _ (by omega) (by omega) (by omega) (by omega)).mono ?_; rintro e w' ⟨rfl, rfl⟩)
    go_ret
    exact ⟨ret_int H.out, Grown.refl _⟩
  · have H : Hid ((a * b / 18446744073709551616 * 18446744073709551616 + a * b % 18446744073709551616) / c = M.sat (a * b / c)) := by
      show _ = _
      rw [e1, M.sat_in _ (M.quo_lt hc (by omega))]
    clear e1
    go_enter Try.func60, Try.ntmps60
    go_wp2_with (first
      | (go_at_call 63; refine (mul64_any _ _ _ (by omega) (by omega) (by omega) (by omega)).mono ?_; rintro e w' ⟨rfl, rfl⟩)
      | (go_at_call 64; refine (div64_any _ _ _ _ (by omega) (by omega) (by omega) (by omega) (by omega)).mono ?_; rintro e w' ⟨⟨r, rfl⟩, hg⟩))
    go_ret
    exact ⟨ret_int H.out, by assumption⟩

theorem MulDiv_zero (a b : Int) (w : World) :
    Calls Try.prog 61 #[.int .u64 a, .int .u64 b, .int .u64 0] w fun e w' => e = .returned (.tuple #[.int .u64 0, .int .i64 1]) ∧ w = w' := by
  go_enter Try.func61, Try.ntmps61
  go_wp2
  go_ret2
  exact ⟨rfl, rfl⟩
theorem MulDiv_any (a b c : Int) (w : World) (ha : 0 ≤ a) (ha1 : a ≤ 18446744073709551615) (hb : 0 ≤ b) (hb1 : b ≤ 18446744073709551615) (hc : 0 < c) (hc1 : c ≤ 18446744073709551615) :
    Calls Try.prog 61 #[.int .u64 a, .int .u64 b, .int .u64 c] w fun e w' => e = .returned (.tuple #[.int .u64 (M.sat (a * b / c)), .int .i64 0]) ∧ Grown w w' := by
  have hz : (c == 0) = false := by simp; omega
  go_enter Try.func61, Try.ntmps61
  go_wp2_with (go_at_call 60; refine (muldiv_any _ _ _ _ (by omega) (by omega) (by omega) (by omega) (by omega) (by omega)).mono ?_; rintro e w' ⟨rfl, hg⟩)
  go_ret2
  exact ⟨rfl, by assumption⟩

theorem ratio_zero (a : Int) (w : World) :
    Calls Try.prog 48 #[.int .u64 a, .int .u64 0] w fun e w' => e = .returned (.int .u64 18446744073709551615) ∧ w = w' := by
  go_enter Try.func48, Try.ntmps48
  go_wp2
  go_ret
  exact ⟨rfl, rfl⟩
theorem ratio_any (a b : Int) (w : World) (ha : 0 ≤ a) (ha1 : a ≤ 18446744073709551615) (hb : 0 < b) (hb1 : b ≤ 18446744073709551615) :
    Calls Try.prog 48 #[.int .u64 a, .int .u64 b] w fun e w' => e = .returned (.int .u64 (M.sat (a * 65536 / b))) ∧ Grown w w' := by
  have hz : (b == 0) = false := by simp; omega
  go_enter Try.func48, Try.ntmps48
  go_wp2_with (go_at_call 60; refine (muldiv_any _ _ _ _ (by omega) (by omega) (by omega) (by omega) (by omega) (by omega)).mono ?_; rintro e w' ⟨rfl, hg⟩)
  go_ret
  exact ⟨rfl, by assumption⟩
theorem scale_any (a b : Int) (w : World) (ha : 0 ≤ a) (ha1 : a ≤ 18446744073709551615) (hb : 0 ≤ b) (hb1 : b ≤ 18446744073709551615) :
    Calls Try.prog 50 #[.int .u64 a, .int .u64 b] w fun e w' => e = .returned (.int .u64 (M.sat (a * b / 65536))) ∧ Grown w w' := by
  go_enter Try.func50, Try.ntmps50
  go_wp2_with (go_at_call 60; refine (muldiv_any _ _ _ _ (by omega) (by omega) (by omega) (by omega) (by omega) (by omega)).mono ?_; rintro e w' ⟨rfl, hg⟩)
  go_ret
  exact ⟨rfl, by assumption⟩

end Go.Proofs.Ytlpgfdphoiideaa
