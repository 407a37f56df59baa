/- Contracts of the document's own answers of layer 1: Mul, DocMulDiv, Percent, Ratio, Scale: the same numbers as the program's. -/
import Derived.Test.YtfhllkdbiiaodaaH
import Derived.Lib.Hide
namespace Go.Proofs.Ytfhllkdbiiaodaa
open Go.ChangeShapes Go.WideShapes Go.ChangeAt Go.RowKit

theorem rmul_any (a b : Int) (w : World) (ha : 0 ≤ a) (ha1 : a ≤ 18446744073709551615) (hb : 0 ≤ b) (hb1 : b ≤ 18446744073709551615) :
    Calls Try.prog 15 #[.int .u64 a, .int .u64 b] w fun e w' => e = .returned (.int .u64 (M.sat (a * b))) ∧ Grown w w' := by
  go_enter Try.func15, Try.ntmps15
  go_wp2_with (first
    | (go_at_call 27; refine (product_any _ _ _ (by omega) (by omega) (by omega) (by omega)).mono ?_; rintro e w1 ⟨⟨d0, d1, d2, d3, rfl, g0, g1, g2, g3, hv⟩, hg1⟩; have Hv := Lib.hid hv; clear hv)
    | (go_at_call 26; refine (quotient_any _ _ _ _ _ _ g0 g1 g2 g3 (by omega) (by omega)).mono ?_; rintro e w2 ⟨rfl, hg2⟩; rw [Hv.out])
    | (go_at_call 11; refine (radd_any _ _ _ (by omega) (by omega) (by omega) (by omega)).mono ?_; rintro e w3 ⟨rfl, rfl⟩))
  go_ret
  exact ⟨ret_int rfl, Grown.trans hg1 hg2⟩

theorem docmuldiv_zero (a b : Int) (w : World) :
    Calls Try.prog 17 #[.int .u64 a, .int .u64 b, .int .u64 0] w fun e w' => e = .returned (.tuple #[.int .u64 0, .int .i64 1]) ∧ w = w' := by
  go_enter Try.func17, Try.ntmps17
  go_wp2
  go_ret2
  exact ⟨rfl, rfl⟩
theorem docmuldiv_any (a b c : Int) (w : World) (ha : 0 ≤ a) (ha1 : a ≤ 18446744073709551615) (hb : 0 ≤ b) (hb1 : b ≤ 18446744073709551615) (hc : 0 < c) (hc1 : c ≤ 18446744073709551615) :
    Calls Try.prog 17 #[.int .u64 a, .int .u64 b, .int .u64 c] w fun e w' => e = .returned (.tuple #[.int .u64 (M.sat (a * b / c)), .int .i64 0]) ∧ Grown w w' := by
  have hz : (c == 0) = false := by simp; omega
  go_enter Try.func17, Try.ntmps17
  go_wp2_with (first
    | (go_at_call 27; refine (product_any _ _ _ (by omega) (by omega) (by omega) (by omega)).mono ?_; rintro e w1 ⟨⟨d0, d1, d2, d3, rfl, g0, g1, g2, g3, hv⟩, hg1⟩; have Hv := Lib.hid hv; clear hv)
    | (go_at_call 26; refine (quotient_any _ _ _ _ _ _ g0 g1 g2 g3 (by omega) (by omega)).mono ?_; rintro e w2 ⟨rfl, hg2⟩; rw [Hv.out])
    | (go_at_call 11; refine (radd_any _ _ _ (by omega) (by omega) (by omega) (by omega)).mono ?_; rintro e w3 ⟨rfl, rfl⟩))
  go_ret2
  exact ⟨rfl, Grown.trans hg1 hg2⟩
theorem rpercent_neg (a p : Int) (w : World) (hp : p < 0) :
    Calls Try.prog 19 #[.int .u64 a, .int .i64 p] w fun e w' => e = .returned (.int .u64 a) ∧ w = w' := by
  go_enter Try.func19, Try.ntmps19
  go_wp2
  go_ret
  exact ⟨rfl, rfl⟩
theorem rpercent_any (a p : Int) (w : World) (ha : 0 ≤ a) (ha1 : a ≤ 18446744073709551615) (hp : 0 ≤ p) (hp1 : p ≤ 9223372036854775807) :
    Calls Try.prog 19 #[.int .u64 a, .int .i64 p] w fun e w' => e = .returned (.int .u64 (M.sat (a + M.sat (a * p / 100)))) ∧ Grown w w' := by
  have hs := M.sat_bd (a * p / 100) (Int.ediv_nonneg (Int.mul_nonneg ha hp) (by omega))
  go_enter Try.func19, Try.ntmps19
  go_wp2_with (first
    | (go_at_call 27; refine (product_any _ _ _ (by omega) (by omega) (by omega) (by omega)).mono ?_; rintro e w1 ⟨⟨d0, d1, d2, d3, rfl, g0, g1, g2, g3, hv⟩, hg1⟩; have Hv := Lib.hid hv; clear hv)
    | (go_at_call 26; refine (quotient_any _ _ _ _ _ _ g0 g1 g2 g3 (by omega) (by omega)).mono ?_; rintro e w2 ⟨rfl, hg2⟩; rw [Hv.out])
    | (go_at_call 11; refine (radd_any _ _ _ (by omega) (by omega) (by omega) (by omega)).mono ?_; rintro e w3 ⟨rfl, rfl⟩))
  go_ret
  exact ⟨rfl, Grown.trans hg1 hg2⟩
theorem rratio_zero (a : Int) (w : World) :
    Calls Try.prog 21 #[.int .u64 a, .int .u64 0] w fun e w' => e = .returned (.int .u64 18446744073709551615) ∧ w = w' := by
  go_enter Try.func21, Try.ntmps21
  go_wp2
  go_ret
  exact ⟨rfl, rfl⟩
theorem rratio_any (a b : Int) (w : World) (ha : 0 ≤ a) (ha1 : a ≤ 18446744073709551615) (hb : 0 < b) (hb1 : b ≤ 18446744073709551615) :
    Calls Try.prog 21 #[.int .u64 a, .int .u64 b] w fun e w' => e = .returned (.int .u64 (M.sat (a * 65536 / b))) ∧ Grown w w' := by
  have hz : (b == 0) = false := by simp; omega
  go_enter Try.func21, Try.ntmps21
  go_wp2_with (first
    | (go_at_call 27; refine (product_any _ _ _ (by omega) (by omega) (by omega) (by omega)).mono ?_; rintro e w1 ⟨⟨d0, d1, d2, d3, rfl, g0, g1, g2, g3, hv⟩, hg1⟩; have Hv := Lib.hid hv; clear hv)
    | (go_at_call 26; refine (quotient_any _ _ _ _ _ _ g0 g1 g2 g3 (by omega) (by omega)).mono ?_; rintro e w2 ⟨rfl, hg2⟩; rw [Hv.out])
    | (go_at_call 11; refine (radd_any _ _ _ (by omega) (by omega) (by omega) (by omega)).mono ?_; rintro e w3 ⟨rfl, rfl⟩))
  go_ret
  exact ⟨rfl, Grown.trans hg1 hg2⟩
theorem rscale_any (a b : Int) (w : World) (ha : 0 ≤ a) (ha1 : a ≤ 18446744073709551615) (hb : 0 ≤ b) (hb1 : b ≤ 18446744073709551615) :
    Calls Try.prog 23 #[.int .u64 a, .int .u64 b] w fun e w' => e = .returned (.int .u64 (M.sat (a * b / 65536))) ∧ Grown w w' := by
  go_enter Try.func23, Try.ntmps23
  go_wp2_with (first
    | (go_at_call 27; refine (product_any _ _ _ (by omega) (by omega) (by omega) (by omega)).mono ?_; rintro e w1 ⟨⟨d0, d1, d2, d3, rfl, g0, g1, g2, g3, hv⟩, hg1⟩; have Hv := Lib.hid hv; clear hv)
    | (go_at_call 26; refine (quotient_any _ _ _ _ _ _ g0 g1 g2 g3 (by omega) (by omega)).mono ?_; rintro e w2 ⟨rfl, hg2⟩; rw [Hv.out])
    | (go_at_call 11; refine (radd_any _ _ _ (by omega) (by omega) (by omega) (by omega)).mono ?_; rintro e w3 ⟨rfl, rfl⟩))
  go_ret
  exact ⟨rfl, Grown.trans hg1 hg2⟩
end Go.Proofs.Ytfhllkdbiiaodaa
