/- MemNone and MemFixed. -/
import Derived.Test.YtbkpbineagfbgaaR
import Derived.Test.YtbkpbineagfbgaaK
namespace Go.Proofs.Ytbkpbineagfbgaa
open Go.ChangeShapes Go.WideShapes Go.ChangeAt Go.RowKit

set_option maxRecDepth 100000 in
set_option maxHeartbeats 2000000 in
theorem none_walk (a b v : Int) (w : World) : Calls Try.prog 5 #[.int .i64 a, .int .i64 b, .int .u64 v] w fun e w' => e = .returned (.bool true) ∧ Grown w w' := by
  have A20 := Lib.hid load_nil
  have A21 := Lib.hid cas_nil
  have A13 := Lib.hid counts_nil
  have A11 := Lib.hid awake_any
  have A17 := Lib.hid map_nil
  have A22 := Lib.hid unmap_nil
  have A23 := Lib.hid release_nil
  have A18 := Lib.hid store_nil
  have A19 := Lib.hid copy_nil
  have A15 := Lib.hid state_nil
  have H : Hid (Chg (fun _ => False) w w) := Lib.hid (Chg.refl _ _)
  go_enter Try.func5, Try.ntmps5
  go_wp2_with (first
    | (go_at_call 20; ((with_reducible refine (A20.out _ _).mono ?_); rintro e w1 ⟨rfl, h⟩; have H20 := Lib.hid (H.out.trans h); clear h))
    | (go_at_call 21; ((with_reducible refine (A21.out _ _ _ _).mono ?_); rintro e w1 ⟨rfl, h⟩; have H21 := Lib.hid (H20.out.trans h); clear h))
    | (go_at_call 13; ((with_reducible refine (A13.out _).mono ?_); rintro e w1 ⟨rfl, rfl⟩))
    | (go_at_call 11; ((with_reducible refine (A11.out _).mono ?_); rintro e w1 ⟨rfl, h⟩; have H11 := Lib.hid (H21.out.trans h); clear h))
    | (go_at_call 17; ((with_reducible refine (A17.out _ _ _).mono ?_); rintro e w1 ⟨rfl, h⟩; have H17 := Lib.hid (H11.out.trans h); clear h))
    | (go_at_call 22; ((with_reducible refine (A22.out _ _ _).mono ?_); rintro e w1 ⟨rfl, h⟩; have H22 := Lib.hid (H17.out.trans h); clear h))
    | (go_at_call 23; ((with_reducible refine (A23.out _ _ _).mono ?_); rintro e w1 ⟨rfl, h⟩; have H23 := Lib.hid (H22.out.trans h); clear h))
    | (go_at_call 18; ((with_reducible refine (A18.out _ _ _).mono ?_); rintro e w1 ⟨rfl, h⟩; have H18 := Lib.hid (H23.out.trans h); clear h))
    | (go_at_call 19; ((with_reducible refine (A19.out _ _ _ _).mono ?_); rintro e w1 ⟨rfl, h⟩; have H19 := Lib.hid (H18.out.trans h); clear h))
    | (go_at_call 15; ((with_reducible refine (A15.out _ _).mono ?_); rintro e w1 ⟨rfl, rfl⟩)))
  go_ret
  exact ⟨rfl, H19.out.grown fun _ _ h => h⟩

/-- The first of two pages is mapped. -/
def fst : Nat → Int := rst zro 0 1 1
set_option maxRecDepth 100000 in
set_option maxHeartbeats 2000000 in
theorem fixed_walk (w : World) : Calls Try.prog 8 #[] w fun e w' => e = .returned (.bool true) ∧ Grown w w' := by
  have A9 : Calls Try.prog 9 #[.int .i64 2] w fun e W' => ∃ bm bp, e = .returned (.tuple #[.pointer (some ⟨bm, 0, none⟩), .int .i64 0]) ∧ Own w W' bm bp 2 zro zro := own_new 2 w w (Chg.refl _ _) (by omega) (by omega)
  have A9 := Lib.hid A9
  have B9 := Lib.hid fun W => new_bad 0 W (by omega)
  have C9 := Lib.hid fun W => new_bad 4097 W (by omega)
  have A17 : ∀ (W : World) (bm bp : Nat), Own w W bm bp 2 zro zro → Calls Try.prog 17 #[.pointer (some ⟨bm, 0, none⟩), .int .i64 0, .int .i64 1] W fun e W' => e = .returned (.int .i64 0) ∧ Own w W' bm bp 2 fst zro :=
    fun W bm bp h => (own_map 0 1 h (by omega) (by omega) (by decide +kernel)).mono fun _ _ ⟨he, h⟩ => ⟨he, own_congr h (fun _ _ => rfl) (fun a _ => by unfold rwd zro; split <;> rfl)⟩
  have A17 := Lib.hid A17
  have A18 : ∀ (W : World) (bm bp : Nat), Own w W bm bp 2 fst zro → Calls Try.prog 18 #[.pointer (some ⟨bm, 0, none⟩), .int .i64 63, .int .u64 7] W fun e W' => e = .returned (.int .i64 0) ∧ Own w W' bm bp 2 fst (upd zro 63 7) :=
    fun W bm bp h => (own_store 63 7 h ⟨by omega, by decide +kernel⟩).mono fun _ _ ⟨he, h⟩ => ⟨he, own_congr h (by decide +kernel) (fun _ _ => rfl)⟩
  have A18 := Lib.hid A18
  have A23 : ∀ (W : World) (bm bp : Nat), Own w W bm bp 2 fst (upd zro 63 7) → Calls Try.prog 23 #[.pointer (some ⟨bm, 0, none⟩), .int .i64 0, .int .i64 1] W fun e W' => e = .returned (.int .i64 0) ∧ Own w W' bm bp 2 (rst fst 0 1 2) zro :=
    fun W bm bp h => (own_release 0 1 h (by omega) (by omega) (by decide +kernel)).mono fun _ _ ⟨he, h⟩ => ⟨he, own_congr h (fun _ _ => rfl) (by decide +kernel)⟩
  have A23 := Lib.hid A23
  have A15 : ∀ (W : World) (bm bp : Nat), Own w W bm bp 2 (rst fst 0 1 2) zro → Calls Try.prog 15 #[.pointer (some ⟨bm, 0, none⟩), .int .i64 0] W fun e W' => e = .returned (.int .i64 2) ∧ W = W' :=
    fun W bm bp h => state_yes 0 h.mem (by omega)
  have A15 := Lib.hid A15
  have A20 : ∀ (W : World) (bm bp : Nat), Own w W bm bp 2 (rst fst 0 1 2) zro → Calls Try.prog 20 #[.pointer (some ⟨bm, 0, none⟩), .int .i64 63] W fun e W' => e = .returned (.tuple #[.int .u64 0, .int .i64 0]) ∧ Own w W' bm bp 2 fst zro :=
    fun W bm bp h => (own_load 63 h ⟨by omega, by decide +kernel⟩).mono fun _ _ ⟨he, h⟩ => ⟨he, own_congr h (by decide +kernel) (fun _ _ => rfl)⟩
  have A20 := Lib.hid A20
  have A13 : ∀ (W : World) (bm bp : Nat), Own w W bm bp 2 fst zro → Calls Try.prog 13 #[.pointer (some ⟨bm, 0, none⟩)] W fun e W' => e = .returned (.tuple #[.int .i64 1, .int .i64 0]) ∧ W = W' :=
    fun W bm bp h => counts_any h.mem
  have A13 := Lib.hid A13
  have A11 := Lib.hid awake_any
  have B15 : ∀ (W : World) (bm bp : Nat), Own w W bm bp 2 fst zro → Calls Try.prog 15 #[.pointer (some ⟨bm, 0, none⟩), .int .i64 0] W fun e W' => e = .returned (.int .i64 1) ∧ W = W' :=
    fun W bm bp h => state_yes 0 h.mem (by omega)
  have B15 := Lib.hid B15
  have B17 : ∀ (W : World) (bm bp : Nat), Own w W bm bp 2 fst zro → Calls Try.prog 17 #[.pointer (some ⟨bm, 0, none⟩), .int .i64 0, .int .i64 1] W fun e W' => e = .returned (.int .i64 5) ∧ Own w W' bm bp 2 fst zro :=
    fun W bm bp h => (map_state 0 1 h.mem (by omega) (by omega) (by decide +kernel)).mono fun _ _ ⟨he, hc⟩ => ⟨he, h.same hc⟩
  have B17 := Lib.hid B17
  have B23 : ∀ (W : World) (bm bp : Nat), Own w W bm bp 2 fst zro → Calls Try.prog 23 #[.pointer (some ⟨bm, 0, none⟩), .int .i64 1, .int .i64 1] W fun e W' => e = .returned (.int .i64 5) ∧ Own w W' bm bp 2 fst zro :=
    fun W bm bp h => (release_state 1 1 h.mem (by omega) (by omega) (by decide +kernel)).mono fun _ _ ⟨he, hc⟩ => ⟨he, h.same hc⟩
  have B23 := Lib.hid B23
  have C17 : ∀ (W : World) (bm bp : Nat), Own w W bm bp 2 fst zro → Calls Try.prog 17 #[.pointer (some ⟨bm, 0, none⟩), .int .i64 1, .int .i64 2] W fun e W' => e = .returned (.int .i64 1) ∧ Own w W' bm bp 2 fst zro :=
    fun W bm bp h => (map_arg 1 2 h.mem (by omega) (by omega)).mono fun _ _ ⟨he, hc⟩ => ⟨he, h.same hc⟩
  have C17 := Lib.hid C17
  have A19 : ∀ (W : World) (bm bp : Nat), Own w W bm bp 2 fst zro → Calls Try.prog 19 #[.pointer (some ⟨bm, 0, none⟩), .int .i64 0, .int .i64 0, .int .i64 65] W fun e W' => e = .returned (.int .i64 6) ∧ Own w W' bm bp 2 fst zro :=
    fun W bm bp h => (copy_bad 0 0 65 h.mem (by omega) (by omega) (.inl (.inr fun c => absurd c.2 (by decide +kernel)))).mono fun _ _ ⟨he, hc⟩ => ⟨he, h.same hc⟩
  have A19 := Lib.hid A19
  have B19 : ∀ (W : World) (bm bp : Nat), Own w W bm bp 2 fst zro → Calls Try.prog 19 #[.pointer (some ⟨bm, 0, none⟩), .int .i64 0, .int .i64 64, .int .i64 0] W fun e W' => e = .returned (.int .i64 0) ∧ Own w W' bm bp 2 fst zro :=
    fun W bm bp h => (copy_zero bm 0 64 W).mono fun _ _ ⟨he, hc⟩ => ⟨he, h.same hc⟩
  have B19 := Lib.hid B19
  have C19 : ∀ (W : World) (bm bp : Nat), Own w W bm bp 2 fst zro → Calls Try.prog 19 #[.pointer (some ⟨bm, 0, none⟩), .int .i64 0, .int .i64 0, .int .i64 (-1)] W fun e W' => e = .returned (.int .i64 1) ∧ Own w W' bm bp 2 fst zro :=
    fun W bm bp h => (copy_neg bm 0 0 (-1) W (by omega)).mono fun _ _ ⟨he, hc⟩ => ⟨he, h.same hc⟩
  have C19 := Lib.hid C19
  go_enter Try.func8, Try.ntmps8
  go_wp2_with (first
    | (go_at_call 9; ((with_reducible refine (A9.out).mono ?_); rintro e w1 ⟨bm, bp, rfl, h⟩; have H9 := Lib.hid h; clear h))
    | (go_at_call 9; ((with_reducible refine (B9.out _).mono ?_); rintro e w1 ⟨rfl, rfl⟩))
    | (go_at_call 9; ((with_reducible refine (C9.out _).mono ?_); rintro e w1 ⟨rfl, rfl⟩))
    | (go_at_call 17; ((with_reducible refine (A17.out _ _ _ H9.out).mono ?_); rintro e w1 ⟨rfl, h⟩; have H17 := Lib.hid h; clear h))
    | (go_at_call 18; ((with_reducible refine (A18.out _ _ _ H17.out).mono ?_); rintro e w1 ⟨rfl, h⟩; have H18 := Lib.hid h; clear h))
    | (go_at_call 23; ((with_reducible refine (A23.out _ _ _ H18.out).mono ?_); rintro e w1 ⟨rfl, h⟩; have H23 := Lib.hid h; clear h))
    | (go_at_call 15; ((with_reducible refine (A15.out _ _ _ H23.out).mono ?_); rintro e w1 ⟨rfl, rfl⟩))
    | (go_at_call 20; ((with_reducible refine (A20.out _ _ _ H23.out).mono ?_); rintro e w1 ⟨rfl, h⟩; have H20 := Lib.hid h; clear h))
    | (go_at_call 13; ((with_reducible refine (A13.out _ _ _ H20.out).mono ?_); rintro e w1 ⟨rfl, rfl⟩))
    | (go_at_call 11; ((with_reducible refine (A11.out _).mono ?_); rintro e w1 ⟨rfl, h⟩; have H11 := Lib.hid (H20.out.same h); clear h))
    | (go_at_call 15; ((with_reducible refine (B15.out _ _ _ H11.out).mono ?_); rintro e w1 ⟨rfl, rfl⟩))
    | (go_at_call 17; ((with_reducible refine (B17.out _ _ _ H11.out).mono ?_); rintro e w1 ⟨rfl, h⟩; have H37 := Lib.hid h; clear h))
    | (go_at_call 23; ((with_reducible refine (B23.out _ _ _ H37.out).mono ?_); rintro e w1 ⟨rfl, h⟩; have H33 := Lib.hid h; clear h))
    | (go_at_call 17; ((with_reducible refine (C17.out _ _ _ H33.out).mono ?_); rintro e w1 ⟨rfl, h⟩; have H47 := Lib.hid h; clear h))
    | (go_at_call 19; ((with_reducible refine (A19.out _ _ _ H47.out).mono ?_); rintro e w1 ⟨rfl, h⟩; have H19 := Lib.hid h; clear h))
    | (go_at_call 19; ((with_reducible refine (B19.out _ _ _ H19.out).mono ?_); rintro e w1 ⟨rfl, h⟩; have H29 := Lib.hid h; clear h))
    | (go_at_call 19; ((with_reducible refine (C19.out _ _ _ H29.out).mono ?_); rintro e w1 ⟨rfl, h⟩; have H39 := Lib.hid h; clear h)))
  go_ret
  exact ⟨rfl, H39.out.chg.grown fun _ _ h => h⟩
end Go.Proofs.Ytbkpbineagfbgaa
