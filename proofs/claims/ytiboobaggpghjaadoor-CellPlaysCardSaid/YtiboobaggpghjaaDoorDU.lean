/- Layer 7's law functions awake and CellFixed. -/
import Derived.Test.YtiboobaggpghjaaDoorDT
namespace Go.Proofs.YtiboobaggpghjaaDoor
open Go.ChangeShapes Go.WideShapes Go.ChangeAt Go.RowKit

set_option maxHeartbeats 4000000 in
theorem awake7 (W : World) (hs : Siz W) : Calls Tryd.prog 23 #[] W fun e w' => e = .returned (.bool true) ∧ Cha (fun _ => False) W w' := by
  have CN : Hid (Calls Tryd.prog 21 #[.int .i64 8, .int .i64 2] W fun e w' => ∃ bc, e = .returned (.tuple #[.pointer (some ⟨bc, 0, none⟩), .int .i64 0]) ∧ St 8 2 bc W w' []) := Lib.hid (st_new 8 2 W (by omega) (by omega) (by omega) (by omega) hs)
  have C1 := Lib.hid fun bc w (h : St 8 2 bc W w []) => st_alloc h al1 (by omega)
  have C2 := Lib.hid fun bc w (h : St 8 2 bc W w E1) => st_alloc h al2 (by omega)
  have C3 := Lib.hid fun bc w (h : St 8 2 bc W w E2) => st_alloc h al3 (by omega)
  have C4 : Hid (∀ bc w, St 8 2 bc W w E3 → Calls Tryd.prog 25 #[.pointer (some ⟨bc, 0, none⟩), .int .i64 5] w fun e w' => e = .returned (.tuple #[.int .i64 3, .int .i64 3, .bool true]) ∧ St 8 2 bc W w' E3) := Lib.hid fun bc w (h : St 8 2 bc W w E3) => st_find h hi5
  have C5 := Lib.hid fun bc w (h : St 8 2 bc W w E3) => st_used h 1
  have C6 := Lib.hid fun bc w (h : St 8 2 bc W w E3) => st_used h 2
  simp only [cov_a.1, cov_a.2.1] at C5 C6
  clear hs
  go_enter Tryd.func23, Tryd.ntmps23
  go_wp2_with (first
    | (go_at_call 21; ((with_reducible refine (CN.out).mono ?_); rintro e w1 ⟨bc, rfl, h⟩; have H1 := Lib.hid h; clear h))
    | (go_at_call 31; ((with_reducible refine (C1.out _ _ H1.out).mono ?_); rintro e w2 ⟨rfl, h⟩; have H2 := Lib.hid h; clear h))
    | (go_at_call 31; ((with_reducible refine (C2.out _ _ H2.out).mono ?_); rintro e w3 ⟨rfl, h⟩; have H3 := Lib.hid h; clear h))
    | (go_at_call 31; ((with_reducible refine (C3.out _ _ H3.out).mono ?_); rintro e w4 ⟨rfl, h⟩; have H4 := Lib.hid h; clear h))
    | (go_at_call 25; ((with_reducible refine (C4.out _ _ H4.out).mono ?_); rintro e w5 ⟨rfl, h⟩; have H5 := Lib.hid h; clear h))
    | (go_at_call 27; ((with_reducible refine (C5.out _ _ H5.out).mono ?_); rintro e w6 ⟨rfl, h⟩; have H6 := Lib.hid h; clear h))
    | (go_at_call 27; ((with_reducible refine (C6.out _ _ H6.out).mono ?_); rintro e w7 ⟨rfl, h⟩; have H7 := Lib.hid h; clear h)))
  go_ret
  exact ⟨rfl, H7.out.cha⟩
set_option maxHeartbeats 8000000 in
theorem fixed_walk (W : World) (hs : Siz W) : Calls Tryd.prog 10 #[] W fun e w' => e = .returned (.bool true) ∧ Cha (fun _ => False) W w' := by
  have CN : Hid (Calls Tryd.prog 21 #[.int .i64 8, .int .i64 2] W fun e w' => ∃ bc, e = .returned (.tuple #[.pointer (some ⟨bc, 0, none⟩), .int .i64 0]) ∧ St 8 2 bc W w' []) := Lib.hid (st_new 8 2 W (by omega) (by omega) (by omega) (by omega) hs)
  have CA := Lib.hid fun bc w (h : St 8 2 bc W w E8) => awake7 w (by obtain ⟨⟨F, h, _⟩, _⟩ := h; exact h.siz)
  have C1 := Lib.hid fun bc w (h : St 8 2 bc W w []) => st_alloc h al1 (by omega)
  have C2 := Lib.hid fun bc w (h : St 8 2 bc W w E1) => st_alloc h al2 (by omega)
  have C3 := Lib.hid fun bc w (h : St 8 2 bc W w E2) => st_alloc h al3 (by omega)
  have C4 := Lib.hid fun bc w (h : St 8 2 bc W w E3) => st_alloc h al4 (by omega)
  have C5 : Hid (∀ bc w, St 8 2 bc W w E4 → Calls Tryd.prog 25 #[.pointer (some ⟨bc, 0, none⟩), .int .i64 129] w fun e w' => e = .returned (.tuple #[.int .i64 128, .int .i64 128, .bool true]) ∧ St 8 2 bc W w' E4) := Lib.hid fun bc w (h : St 8 2 bc W w E4) => st_find h hi129
  have C6 := Lib.hid fun bc w (h : St 8 2 bc W w E4) => st_free h fr5 (by omega)
  have C7 := Lib.hid fun bc w (h : St 8 2 bc W w E5) => st_alloc h al6 (by omega)
  have C8 := Lib.hid fun bc w (h : St 8 2 bc W w E4) => st_free h fr7 (by omega)
  have C9 := Lib.hid fun bc w (h : St 8 2 bc W w E7) => st_used h 1
  have C10 : Hid (∀ bc w, St 8 2 bc W w E7 → Calls Tryd.prog 33 #[.pointer (some ⟨bc, 0, none⟩), .int .i64 1] w fun e w' => e = .returned (.int .i64 0) ∧ St 8 2 bc W w' (flushed E7 1)) := Lib.hid fun bc w (h : St 8 2 bc W w E7) => st_flush h 1 (by omega)
  have C11 := Lib.hid fun bc w (h : St 8 2 bc W w E8) => st_used h 1
  have C12 : Hid (∀ bc w, St 8 2 bc W w E8 → Calls Tryd.prog 29 #[.pointer (some ⟨bc, 0, none⟩)] w fun e w' => e = .returned (.tuple #[.int .i64 3, .int .i64 134, .int .i64 5]) ∧ St 8 2 bc W w' E8) := Lib.hid fun bc w (h : St 8 2 bc W w E8) => (st_counts h).mono fun e w' ⟨he, hw⟩ => ⟨by rw [he, cn8.1, cn8.2.1, cn8.2.2]; rfl, hw⟩
  have C13 := Lib.hid fun bc w (h : St 8 2 bc W w E8) => st_alloc h al9 (by omega)
  have C14 := Lib.hid fun bc w (h : St 8 2 bc W w E8) => st_alloc h al10 (by omega)
  have C15 := Lib.hid fun bc w (h : St 8 2 bc W w E8) => st_free h fr9 (by omega)
  have C16 := Lib.hid fun bc w (h : St 8 2 bc W w E8) => st_give h gi9
  simp only [cov_a.2.2.1, cov_a.2.2.2, fl8] at C9 C10 C11
  clear hs
  go_enter Tryd.func10, Tryd.ntmps10
  go_wp2_with (first
    | (go_at_call 21; ((with_reducible refine (CN.out).mono ?_); rintro e w1 ⟨bc, rfl, h⟩; have H1 := Lib.hid h; clear h))
    | (go_at_call 31; ((with_reducible refine (C1.out _ _ H1.out).mono ?_); rintro e w2 ⟨rfl, h⟩; have H2 := Lib.hid h; clear h))
    | (go_at_call 31; ((with_reducible refine (C2.out _ _ H2.out).mono ?_); rintro e w3 ⟨rfl, h⟩; have H3 := Lib.hid h; clear h))
    | (go_at_call 31; ((with_reducible refine (C3.out _ _ H3.out).mono ?_); rintro e w4 ⟨rfl, h⟩; have H4 := Lib.hid h; clear h))
    | (go_at_call 31; ((with_reducible refine (C4.out _ _ H4.out).mono ?_); rintro e w5 ⟨rfl, h⟩; have H5 := Lib.hid h; clear h))
    | (go_at_call 25; ((with_reducible refine (C5.out _ _ H5.out).mono ?_); rintro e w6 ⟨rfl, h⟩; have H6 := Lib.hid h; clear h))
    | (go_at_call 32; ((with_reducible refine (C6.out _ _ H6.out).mono ?_); rintro e w7 ⟨rfl, h⟩; have H7 := Lib.hid h; clear h))
    | (go_at_call 31; ((with_reducible refine (C7.out _ _ H7.out).mono ?_); rintro e w8 ⟨rfl, h⟩; have H8 := Lib.hid h; clear h))
    | (go_at_call 32; ((with_reducible refine (C8.out _ _ H8.out).mono ?_); rintro e w9 ⟨rfl, h⟩; have H9 := Lib.hid h; clear h))
    | (go_at_call 27; ((with_reducible refine (C9.out _ _ H9.out).mono ?_); rintro e w10 ⟨rfl, h⟩; have H10 := Lib.hid h; clear h))
    | (go_at_call 33; ((with_reducible refine (C10.out _ _ H10.out).mono ?_); rintro e w11 ⟨rfl, h⟩; have H11 := Lib.hid h; clear h))
    | (go_at_call 27; ((with_reducible refine (C11.out _ _ H11.out).mono ?_); rintro e w12 ⟨rfl, h⟩; have H12 := Lib.hid h; clear h))
    | (go_at_call 29; ((with_reducible refine (C12.out _ _ H12.out).mono ?_); rintro e w13 ⟨rfl, h⟩; have H13 := Lib.hid h; clear h))
    | (go_at_call 31; ((with_reducible refine (C13.out _ _ H13.out).mono ?_); rintro e w14 ⟨rfl, h⟩; have H14 := Lib.hid h; clear h))
    | (go_at_call 31; ((with_reducible refine (C14.out _ _ H14.out).mono ?_); rintro e w15 ⟨rfl, h⟩; have H15 := Lib.hid h; clear h))
    | (go_at_call 23; ((with_reducible refine (CA.out _ _ H15.out).mono ?_); rintro e w16 ⟨rfl, h⟩; have H16 : Hid (St 8 2 bc W w16 E8) := Lib.hid ⟨(by obtain ⟨⟨F, k, hf⟩, _⟩ := H15.out; exact ⟨F, k.same h, hf⟩), H15.out.cha.trans h⟩; clear h))
    | (go_at_call 32; ((with_reducible refine (C15.out _ _ H16.out).mono ?_); rintro e w17 ⟨rfl, h⟩; have H17 := Lib.hid h; clear h))
    | (go_at_call 35; ((with_reducible refine (C16.out _ _ H17.out).mono ?_); rintro e w18 ⟨rfl, h⟩; have H18 := Lib.hid h; clear h)))
  go_ret
  exact ⟨rfl, H18.out.cha⟩
end Go.Proofs.YtiboobaggpghjaaDoor
