/- Contracts of the document's own answers of layer 1: Mul, DocMulDiv, Percent, Ratio, Scale: the same numbers as the program's. -/
import Derived.Test.YtlpgfdphoiideaaH
import Derived.Lib.Hide
namespace Go.Proofs.Ytlpgfdphoiideaa
open Go.ChangeShapes Go.WideShapes Go.ChangeAt Go.RowKit

theorem rratio_zero (a : Int) (w : World) :
    Calls Try.prog 49 #[.int .u64 a, .int .u64 0] w fun e w' => e = .returned (.int .u64 18446744073709551615) ∧ w = w' := by
  go_enter Try.func49, Try.ntmps49
  go_wp2
  go_ret
  exact ⟨rfl, rfl⟩
theorem rratio_any (a b : Int) (w : World) (ha : 0 ≤ a) (ha1 : a ≤ 18446744073709551615) (hb : 0 < b) (hb1 : b ≤ 18446744073709551615) :
    Calls Try.prog 49 #[.int .u64 a, .int .u64 b] w fun e w' => e = .returned (.int .u64 (M.sat (a * 65536 / b))) ∧ Grown w w' := by
  have hz : (b == 0) = false := by simp; omega
  go_enter Try.func49, Try.ntmps49
  go_wp2_with (first
    | (go_at_call 58; refine (product_any _ _ _ (by omega) (by omega) (by omega) (by omega)).mono ?_; rintro e w1 ⟨⟨d0, d1, d2, d3, rfl, g0, g1, g2, g3, hv⟩, hg1⟩; have Hv := Lib.hid hv; clear hv)
    | (go_at_call 57; refine (quotient_any _ _ _ _ _ _ g0 g1 g2 g3 (by omega) (by omega)).mono ?_; rintro e w2 ⟨rfl, hg2⟩; rw [Hv.out])
    | (go_at_call 45; refine (radd_any _ _ _ (by omega) (by omega) (by omega) (by omega)).mono ?_; rintro e w3 ⟨rfl, rfl⟩))
  go_ret
  exact ⟨rfl, Grown.trans hg1 hg2⟩
theorem rscale_any (a b : Int) (w : World) (ha : 0 ≤ a) (ha1 : a ≤ 18446744073709551615) (hb : 0 ≤ b) (hb1 : b ≤ 18446744073709551615) :
    Calls Try.prog 51 #[.int .u64 a, .int .u64 b] w fun e w' => e = .returned (.int .u64 (M.sat (a * b / 65536))) ∧ Grown w w' := by
  go_enter Try.func51, Try.ntmps51
  go_wp2_with (first
    | (go_at_call 58; refine (product_any _ _ _ (by omega) (by omega) (by omega) (by omega)).mono ?_; rintro e w1 ⟨⟨d0, d1, d2, d3, rfl, g0, g1, g2, g3, hv⟩, hg1⟩; have Hv := Lib.hid hv; clear hv)
    | (go_at_call 57; refine (quotient_any _ _ _ _ _ _ g0 g1 g2 g3 (by omega) (by omega)).mono ?_; rintro e w2 ⟨rfl, hg2⟩; rw [Hv.out])
    | (go_at_call 45; refine (radd_any _ _ _ (by omega) (by omega) (by omega) (by omega)).mono ?_; rintro e w3 ⟨rfl, rfl⟩))
  go_ret
  exact ⟨rfl, Grown.trans hg1 hg2⟩
end Go.Proofs.Ytlpgfdphoiideaa
