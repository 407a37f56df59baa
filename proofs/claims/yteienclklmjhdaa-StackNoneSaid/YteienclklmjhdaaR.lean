/- StackNone: a nil stack answers nothing; a full one takes no more. -/
import Derived.Test.YteienclklmjhdaaQ
namespace Go.Proofs.Yteienclklmjhdaa
open Go.ChangeShapes Go.WideShapes Go.ChangeAt Go.RowKit

set_option maxRecDepth 100000 in
set_option maxHeartbeats 2000000 in
theorem none_walk (a b v : Int) (w : World) : Calls Try.prog 5 #[.int .i64 a, .int .i64 b, .int .u64 v] w fun e w' => e = .returned (.bool true) ∧ Cha (fun _ => False) w w' := by
  have CG := Lib.hid (get_none a b w)
  have CL := Lib.hid (load_none a b w)
  have CC := Lib.hid (counts_none w)
  unfold wordV at CG CL
  have C0 := Lib.hid (live_new (Cha.refl (fun _ => False) w))
  have CA : Hid (∀ bs W, Live w W bs St.new → Calls Try.prog 10 #[] W fun e W' => e = .returned (.bool true) ∧ Live w W' bs St.new) := Lib.hid fun bs W h => (awake_any (Cha.refl (fun _ => False) W)).mono fun _ _ ⟨a, c⟩ => ⟨a, h.same c⟩
  have C1 : Hid (∀ bs W j, j < 64 → Live w W bs (pushes St.new 32 j) → Calls Try.prog 11 #[.pointer (some ⟨bs, 0, none⟩), .int .i64 32] W fun e W' => e = .returned (.int .i64 0) ∧ Live w W' bs (pushes St.new 32 (j + 1))) := Lib.hid fun bs W j hj h => live_push h 32 (by omega) (by rw [pushes_len]; show j + 0 < 64; omega)
  have hl : (pushes St.new 32 64).fs.length = 64 := by rw [pushes_len]; rfl
  have C2 : Hid (∀ bs W, Live w W bs (pushes St.new 32 64) → Calls Try.prog 11 #[.pointer (some ⟨bs, 0, none⟩), .int .i64 0] W fun e W' => e = .returned (.int .i64 3) ∧ Live w W' bs (pushes St.new 32 64)) := Lib.hid fun bs W h => by
    have := live_pushR h 0
    unfold St.pushR at this
    rwa [if_neg (by omega), if_pos hl] at this
  have C3 : Hid (∀ bs W, Live w W bs (pushes St.new 32 64) → Calls Try.prog 11 #[.pointer (some ⟨bs, 0, none⟩), .int .i64 33] W fun e W' => e = .returned (.int .i64 1) ∧ Live w W' bs (pushes St.new 32 64)) := Lib.hid fun bs W h => by
    have := live_pushR h 33
    unfold St.pushR at this
    rwa [if_pos (by omega)] at this
  have N1 : Hid (∀ W, Calls Try.prog 11 #[.pointer none, .int .i64 a] W fun e W' => e = .returned (.int .i64 5) ∧ W = W') := Lib.hid fun W => push_none a W
  have N2 : Hid (∀ W, Calls Try.prog 13 #[.pointer none] W fun e W' => e = .returned (.int .i64 5) ∧ W = W') := Lib.hid fun W => pop_none W
  have N3 : Hid (∀ W, Calls Try.prog 15 #[.pointer none, .int .i64 a, .int .i64 b, .int .u64 v] W fun e W' => e = .returned (.int .i64 5) ∧ W = W') := Lib.hid fun W => set_none a b v W
  have N4 : Hid (∀ W, Calls Try.prog 17 #[.pointer none, .int .i64 a, .int .i64 b, .int .i64 a, .int .i64 b] W fun e W' => e = .returned (.int .i64 5) ∧ W = W') := Lib.hid fun W => link_none a b a b W
  have N5 : Hid (∀ W, Calls Try.prog 19 #[.pointer none, .int .i64 a, .int .i64 b, .int .u64 v] W fun e W' => e = .returned (.int .i64 5) ∧ W = W') := Lib.hid fun W => store_none a b v W
  clear hl
  go_enter Try.func5, Try.ntmps5
  go_wp2_with (first
    | (go_at_call 21; ((with_reducible refine (CG.out).mono ?_); rintro e w1 ⟨rfl, rfl⟩))
    | (go_at_call 23; ((with_reducible refine (CL.out).mono ?_); rintro e w1 ⟨rfl, rfl⟩))
    | (go_at_call 25; ((with_reducible refine (CC.out).mono ?_); rintro e w1 ⟨rfl, rfl⟩))
    | (go_at_call 8; ((with_reducible refine (C0.out).mono ?_); rintro e w1 ⟨bs, rfl, h⟩; have D1 := Lib.hid (CA.out _ _ h); clear h))
    | (go_at_call 10; ((with_reducible refine (D1.out).mono ?_); rintro e w2 ⟨rfl, h⟩; have H5 := Lib.hid h; clear h)))
  go_loopw [43] (fun i wr => ∃ j : Nat, j ≤ 64 ∧ i = .int .i64 (j : Int) ∧ Live w wr bs (pushes St.new 32 j)) (fun i _ => 64 - (intOf i).toNat)
  case atStart => exact ⟨0, by omega, rfl, H5.out⟩
  case round =>
    clear H5 D1
    obtain ⟨j, hj, rfl, hL⟩ := hrel
    by_cases hlt : j < 64
    · have D := Lib.hid (C1.out bs wr j hlt hL)
      clear hL
      go_wp2_with (go_at_call 11; ((with_reducible refine (D.out).mono ?_); rintro e w2 ⟨rfl, h⟩; have H2 := Lib.hid h; clear h))
      go_roundw
      case rel => exact ⟨j + 1, by omega, by congr 1, H2.out⟩
      case measure => simp [intOf]; omega
    · obtain rfl : j = 64 := by omega
      have D := Lib.hid (C2.out bs wr hL)
      clear hL
      go_wp2_with (first
        | (go_at_call 11; ((with_reducible refine (D.out).mono ?_); rintro e w2 ⟨rfl, h⟩; have D7 := Lib.hid (C3.out _ _ h); clear h))
        | (go_at_call 11; ((with_reducible refine (D7.out).mono ?_); rintro e w3 ⟨rfl, h⟩; have D8 := Lib.hid h.cha; clear h))
        | (go_at_call 11; ((with_reducible refine (N1.out _).mono ?_); rintro e w3 ⟨rfl, rfl⟩))
        | (go_at_call 13; ((with_reducible refine (N2.out _).mono ?_); rintro e w3 ⟨rfl, rfl⟩))
        | (go_at_call 15; ((with_reducible refine (N3.out _).mono ?_); rintro e w3 ⟨rfl, rfl⟩))
        | (go_at_call 17; ((with_reducible refine (N4.out _).mono ?_); rintro e w3 ⟨rfl, rfl⟩))
        | (go_at_call 19; ((with_reducible refine (N5.out _).mono ?_); rintro e w3 ⟨rfl, rfl⟩)))
      go_ret
      exact ⟨rfl, D8.out⟩
end Go.Proofs.Yteienclklmjhdaa
