/- ScavFixed. -/
import Derived.Test.YtlpgfdphoiideaaSG
namespace Go.Proofs.Ytlpgfdphoiideaa
open Go.ChangeShapes Go.WideShapes Go.ChangeAt Go.RowKit
def st4 : Nat → Int := useS 4 st3 1 2
set_option maxRecDepth 100000 in
theorem sfixed_walk (w : World) : Calls Try.prog 12 #[] w fun e w' => e = .returned (.bool true) ∧ Cha (fun _ => False) w w' := by
  have N : Hid (Calls Try.prog 30 #[.int .i64 4] w fun e w' => e = .returned (.tuple #[.pointer (some ⟨w.heap.size + 1, 0, none⟩), .int .i64 0]) ∧ Lv w w' (w.heap.size + 1) w.heap.size 4 st0) := Lib.hid (lv_new 4 (by omega) (by omega) (Cha.refl (fun _ => False) w))
  have N0 := Lib.hid fun w => snew_bad 0 w (by omega)
  have N1 := Lib.hid fun w => snew_bad 4097 w (by omega)
  have i0 : isI 0 := isI_k (by omega) (by omega)
  have i1 : isI 1 := isI_k (by omega) (by omega)
  have i2 : isI 2 := isI_k (by omega) (by omega)
  have i3 : isI 3 := isI_k (by omega) (by omega)
  have i5 : isI 5 := isI_k (by omega) (by omega)
  have G : Hid (∀ W bs bp, Lv w W bs bp 4 st2 → Calls Try.prog 38 #[.pointer (some ⟨bs, 0, none⟩), .int .i64 1] W fun e w' => ∃ a c, e = .returned (.slice a 1 c) ∧ 1 ≤ c ∧ c ≤ maxLen ∧ Made W w' (.slice a 1 c) [2] ∧ Lv w w' bs bp 4 st3) :=
    Lib.hid fun W bs bp h => lv_give h 1 i1 (L := [2]) (s := st3) (m := 1) rfl rfl rfl
  have G5 : Hid (∀ W bs bp, Lv w W bs bp 4 st4 → Calls Try.prog 38 #[.pointer (some ⟨bs, 0, none⟩), .int .i64 5] W fun e w' => ∃ a c, e = .returned (.slice a 0 c) ∧ 0 ≤ c ∧ c ≤ maxLen ∧ Made W w' (.slice a 0 c) [] ∧ Lv w w' bs bp 4 st4) :=
    Lib.hid fun W bs bp h => lv_give h 5 i5 (L := []) (s := st4) (m := 0) rfl rfl rfl
  have SM : Hid (∀ W a c b d, Lies intE W (.slice a 1 c) [2] → Lies intE W (.slice b 1 d) [2] → Calls Try.prog 37 #[.slice a 1 c, .slice b 1 d] W fun e w' => e = .returned (.bool true) ∧ Cha (fun _ => False) W w') :=
    Lib.hid fun W a c b d h1 h2 => same_ints h1 h2
  have CN : Hid (∀ W bs bp, Lv w W bs bp 4 st3 → Calls Try.prog 40 #[.pointer (some ⟨bs, 0, none⟩)] W fun e w' => e = .returned (.tuple #[.int .i64 1, .int .i64 1, .int .i64 2]) ∧ Lv w w' bs bp 4 st3) :=
    Lib.hid fun W bs bp h => lv_counts h (a := 1) (b := 1) (c := 2) rfl rfl rfl
  have LT := Lib.hid lies_two
  have AW := Lib.hid sawake
  go_enter Try.func12, Try.ntmps12
  go_wp2_with (first
    | (go_at_call 30; (with_reducible refine (N.out).mono ?_); rintro e w1 ⟨rfl, h1⟩; have H1 := Lib.hid h1; clear h1)
    | (go_at_call 30; (with_reducible refine (N0.out _).mono ?_); rintro e w1 ⟨rfl, rfl⟩)
    | (go_at_call 30; (with_reducible refine (N1.out _).mono ?_); rintro e w1 ⟨rfl, rfl⟩)
    | (go_at_call 33; (with_reducible refine (lv_use (a := 3) (b := 0) (s := st1) H1.out 0 3 i0 i3 rfl rfl).mono ?_); rintro e w2 ⟨rfl, h2⟩; have H2 := Lib.hid h2; clear h2)
    | (go_at_call 35; (with_reducible refine (lv_free (a := 0) (s := st2) H2.out 1 2 i1 i2 rfl rfl).mono ?_); rintro e w3 ⟨rfl, h3⟩; have H3 := Lib.hid h3; clear h3)
    | (go_at_call 38; (with_reducible refine (G.out _ _ _ H3.out).mono ?_); rintro e w4 ⟨a, c, rfl, hc1, hc2, hm, h4⟩; have H4 := Lib.hid (h4.same ((Cha.refl _ _).alloc (.cells #[.int .i64 2] 3))); have HM := Lib.hid hm; clear h4 hm)
    | (go_at_call 37; (with_reducible refine (SM.out _ _ _ _ _ (Lies.same HM.out.lies ((Cha.refl _ _).alloc _)) (LT.out _)).mono ?_); rintro e w5 ⟨rfl, h5⟩; have H5 := Lib.hid (H4.out.same h5); clear h5)
    | (go_at_call 40; (with_reducible refine (CN.out _ _ _ H5.out).mono ?_); rintro e w6 ⟨rfl, h6⟩; have H6 := Lib.hid h6; clear h6)
    | (go_at_call 33; (with_reducible refine (lv_use (a := 1) (b := 0) (s := st4) H6.out 1 2 i1 i2 rfl rfl).mono ?_); rintro e w7 ⟨rfl, h7⟩; have H7 := Lib.hid h7; clear h7)
    | (go_at_call 33; (with_reducible refine (lv_use (a := 0) (b := 5) (s := st4) H7.out 2 1 i2 i1 rfl rfl).mono ?_); rintro e w8 ⟨rfl, h8⟩; have H8 := Lib.hid h8; clear h8)
    | (go_at_call 32; (with_reducible refine (AW.out _).mono ?_); rintro e w9 ⟨rfl, h9⟩; have H9 := Lib.hid (H8.out.same h9); clear h9)
    | (go_at_call 38; (with_reducible refine (G5.out _ _ _ H9.out).mono ?_); rintro e w10 ⟨a2, c2, rfl, hc3, hc4, hm2, h10⟩; have H10 := Lib.hid h10; clear h10 hm2)
    | (go_at_call 35; (with_reducible refine (lv_free (a := 5) (s := st4) H10.out 3 1 i3 i1 rfl rfl).mono ?_); rintro e w11 ⟨rfl, h11⟩; have H11 := Lib.hid h11; clear h11)
    | (go_at_call 35; (with_reducible refine (lv_free (a := 1) (s := st4) H11.out 3 2 i3 i2 rfl rfl).mono ?_); rintro e w12 ⟨rfl, h12⟩; have H12 := Lib.hid h12; clear h12))
  go_returns
  exact ⟨rfl, H12.out.2.1⟩
end Go.Proofs.Ytlpgfdphoiideaa
