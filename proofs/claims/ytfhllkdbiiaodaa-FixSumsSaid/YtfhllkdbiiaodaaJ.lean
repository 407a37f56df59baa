/- The walks of layer 1's statements that hold the program against the document's sums: each returns true. -/
import Derived.Test.YtfhllkdbiiaodaaI
namespace Go.Proofs.Ytfhllkdbiiaodaa
open Go.ChangeShapes Go.WideShapes Go.ChangeAt Go.RowKit

theorem sums_walk (a b : Int) (w : World) (a0 : 0 ≤ a) (a1 : a ≤ 18446744073709551615) (b0 : 0 ≤ b) (b1 : b ≤ 18446744073709551615) :
    Calls Try.prog 3 #[.int .u64 a, .int .u64 b] w fun e w' => e = .returned (.bool true) ∧ Grown w w' := by
  go_enter Try.func3, Try.ntmps3
  go_wp2_with (first
    | (go_at_call 9; refine (awake _).mono ?_; rintro e w9 ⟨rfl, hg9⟩)
    | (go_at_call 10; refine (add_any _ _ _ (by omega) (by omega) (by omega) (by omega)).mono ?_; rintro e w10 ⟨rfl, rfl⟩)
    | (go_at_call 11; refine (radd_any _ _ _ (by omega) (by omega) (by omega) (by omega)).mono ?_; rintro e w11 ⟨rfl, rfl⟩)
    | (go_at_call 12; refine (sub_any 12 (.inl rfl) _ _ _ (by omega) (by omega) (by omega) (by omega)).mono ?_; rintro e w12 ⟨rfl, rfl⟩)
    | (go_at_call 13; refine (sub_any 13 (.inr rfl) _ _ _ (by omega) (by omega) (by omega) (by omega)).mono ?_; rintro e w13 ⟨rfl, rfl⟩)
    | (go_at_call 14; refine (mul_any _ _ _ (by omega) (by omega) (by omega) (by omega)).mono ?_; rintro e w14 ⟨rfl, rfl⟩)
    | (go_at_call 15; refine (rmul_any _ _ _ (by omega) (by omega) (by omega) (by omega)).mono ?_; rintro e w15 ⟨rfl, hg15⟩))
  go_ret
  exact ⟨rfl, Grown.trans hg9 hg15⟩

theorem quotients_walk (a b c : Int) (w : World) (a0 : 0 ≤ a) (a1 : a ≤ 18446744073709551615) (b0 : 0 ≤ b) (b1 : b ≤ 18446744073709551615) (c0 : 0 ≤ c) (c1 : c ≤ 18446744073709551615) :
    Calls Try.prog 4 #[.int .u64 a, .int .u64 b, .int .u64 c] w fun e w' => e = .returned (.bool true) ∧ Grown w w' := by
  by_cases hc : c = 0
  · subst hc
    go_enter Try.func4, Try.ntmps4
    go_wp2_with (first
      | (go_at_call 9; refine (awake _).mono ?_; rintro e w9 ⟨rfl, hg9⟩)
      | (go_at_call 16; refine (MulDiv_zero _ _ _).mono ?_; rintro e w16 ⟨rfl, rfl⟩)
      | (go_at_call 17; refine (docmuldiv_zero _ _ _).mono ?_; rintro e w17 ⟨rfl, rfl⟩))
    go_ret
    exact ⟨rfl, hg9⟩
  · have hc1 : 0 < c := by omega
    clear hc
    go_enter Try.func4, Try.ntmps4
    go_wp2_with (first
      | (go_at_call 9; refine (awake _).mono ?_; rintro e w9 ⟨rfl, hg9⟩)
      | (go_at_call 16; refine (MulDiv_any _ _ _ _ (by omega) (by omega) (by omega) (by omega) (by omega) (by omega)).mono ?_; rintro e w16 ⟨rfl, hg16⟩)
      | (go_at_call 17; refine (docmuldiv_any _ _ _ _ (by omega) (by omega) (by omega) (by omega) (by omega) (by omega)).mono ?_; rintro e w17 ⟨rfl, hg17⟩))
    go_ret
    exact ⟨rfl, Grown.trans hg16 (Grown.trans hg17 hg9)⟩

theorem parts_walk (a b p : Int) (w : World) (a0 : 0 ≤ a) (a1 : a ≤ 18446744073709551615) (b0 : 0 ≤ b) (b1 : b ≤ 18446744073709551615) (p1 : p ≤ 9223372036854775807) :
    Calls Try.prog 5 #[.int .u64 a, .int .u64 b, .int .i64 p] w fun e w' => e = .returned (.bool true) ∧ Grown w w' := by
  by_cases hp : p < 0
  · by_cases hb : b = 0
    · subst hb
      go_enter Try.func5, Try.ntmps5
      go_wp2_with (first
        | (go_at_call 9; refine (awake _).mono ?_; rintro e w9 ⟨rfl, hg9⟩)
        | (go_at_call 18; refine (percent_neg _ _ _ (by omega)).mono ?_; rintro e w18 ⟨rfl, rfl⟩)
        | (go_at_call 19; refine (rpercent_neg _ _ _ (by omega)).mono ?_; rintro e w19 ⟨rfl, rfl⟩)
        | (go_at_call 20; refine (ratio_zero _ _).mono ?_; rintro e w20 ⟨rfl, rfl⟩)
        | (go_at_call 21; refine (rratio_zero _ _).mono ?_; rintro e w21 ⟨rfl, rfl⟩)
        | (go_at_call 22; refine (scale_any _ _ _ (by omega) (by omega) (by omega) (by omega)).mono ?_; rintro e w22 ⟨rfl, hg22⟩)
        | (go_at_call 23; refine (rscale_any _ _ _ (by omega) (by omega) (by omega) (by omega)).mono ?_; rintro e w23 ⟨rfl, hg23⟩))
      go_ret
      exact ⟨rfl, Grown.trans hg9 (Grown.trans hg22 hg23)⟩
    · have hb1 : 0 < b := by omega
      clear hb
      go_enter Try.func5, Try.ntmps5
      go_wp2_with (first
        | (go_at_call 9; refine (awake _).mono ?_; rintro e w9 ⟨rfl, hg9⟩)
        | (go_at_call 18; refine (percent_neg _ _ _ (by omega)).mono ?_; rintro e w18 ⟨rfl, rfl⟩)
        | (go_at_call 19; refine (rpercent_neg _ _ _ (by omega)).mono ?_; rintro e w19 ⟨rfl, rfl⟩)
        | (go_at_call 20; refine (ratio_any _ _ _ (by omega) (by omega) (by omega) (by omega)).mono ?_; rintro e w20 ⟨rfl, hg20⟩)
        | (go_at_call 21; refine (rratio_any _ _ _ (by omega) (by omega) (by omega) (by omega)).mono ?_; rintro e w21 ⟨rfl, hg21⟩)
        | (go_at_call 22; refine (scale_any _ _ _ (by omega) (by omega) (by omega) (by omega)).mono ?_; rintro e w22 ⟨rfl, hg22⟩)
        | (go_at_call 23; refine (rscale_any _ _ _ (by omega) (by omega) (by omega) (by omega)).mono ?_; rintro e w23 ⟨rfl, hg23⟩))
      go_ret
      exact ⟨rfl, Grown.trans hg9 (Grown.trans hg20 (Grown.trans hg21 (Grown.trans hg22 hg23)))⟩
  · by_cases hb : b = 0
    · subst hb
      go_enter Try.func5, Try.ntmps5
      go_wp2_with (first
        | (go_at_call 9; refine (awake _).mono ?_; rintro e w9 ⟨rfl, hg9⟩)
        | (go_at_call 18; refine (percent_any _ _ _ (by omega) (by omega) (by omega) (by omega)).mono ?_; rintro e w18 ⟨rfl, hg18⟩)
        | (go_at_call 19; refine (rpercent_any _ _ _ (by omega) (by omega) (by omega) (by omega)).mono ?_; rintro e w19 ⟨rfl, hg19⟩)
        | (go_at_call 20; refine (ratio_zero _ _).mono ?_; rintro e w20 ⟨rfl, rfl⟩)
        | (go_at_call 21; refine (rratio_zero _ _).mono ?_; rintro e w21 ⟨rfl, rfl⟩)
        | (go_at_call 22; refine (scale_any _ _ _ (by omega) (by omega) (by omega) (by omega)).mono ?_; rintro e w22 ⟨rfl, hg22⟩)
        | (go_at_call 23; refine (rscale_any _ _ _ (by omega) (by omega) (by omega) (by omega)).mono ?_; rintro e w23 ⟨rfl, hg23⟩))
      go_ret
      exact ⟨rfl, Grown.trans hg9 (Grown.trans hg18 (Grown.trans hg19 (Grown.trans hg22 hg23)))⟩
    · have hb1 : 0 < b := by omega
      clear hb
      go_enter Try.func5, Try.ntmps5
      go_wp2_with (first
        | (go_at_call 9; refine (awake _).mono ?_; rintro e w9 ⟨rfl, hg9⟩)
        | (go_at_call 18; refine (percent_any _ _ _ (by omega) (by omega) (by omega) (by omega)).mono ?_; rintro e w18 ⟨rfl, hg18⟩)
        | (go_at_call 19; refine (rpercent_any _ _ _ (by omega) (by omega) (by omega) (by omega)).mono ?_; rintro e w19 ⟨rfl, hg19⟩)
        | (go_at_call 20; refine (ratio_any _ _ _ (by omega) (by omega) (by omega) (by omega)).mono ?_; rintro e w20 ⟨rfl, hg20⟩)
        | (go_at_call 21; refine (rratio_any _ _ _ (by omega) (by omega) (by omega) (by omega)).mono ?_; rintro e w21 ⟨rfl, hg21⟩)
        | (go_at_call 22; refine (scale_any _ _ _ (by omega) (by omega) (by omega) (by omega)).mono ?_; rintro e w22 ⟨rfl, hg22⟩)
        | (go_at_call 23; refine (rscale_any _ _ _ (by omega) (by omega) (by omega) (by omega)).mono ?_; rintro e w23 ⟨rfl, hg23⟩))
      go_ret
      exact ⟨rfl, Grown.trans hg9 (Grown.trans hg18 (Grown.trans hg19 (Grown.trans hg20 (Grown.trans hg21 (Grown.trans hg22 hg23)))))⟩
end Go.Proofs.Ytfhllkdbiiaodaa
