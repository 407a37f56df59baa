/- TimerFull: the walk. -/
import Derived.Test.YteogepfolifneaaTP
namespace Go.Proofs.Yteogepfolifneaa
open Go.ChangeShapes Go.WideShapes Go.ChangeAt Go.RowKit
set_option maxRecDepth 100000 in
set_option maxHeartbeats 4000000 in
theorem tfull_walk (k : Nat) (hk : k < 256) (w : World) : Calls Try.prog 11 #[.int .u8 (k : Int)] w fun e w' => e = .returned (.bool true) ∧ Cha (fun _ => False) w w' := by
  have C0 : Calls Try.prog 23 #[.int .i64 2] w fun e w' => e = .returned (.tuple #[.pointer (some ⟨w.heap.size + 1, 0, none⟩), .int .i64 0]) ∧ Tl w w' (w.heap.size + 1) w.heap.size (both 0) 0 := tl_new 2 (Cha.refl _ w) (by decide) (by decide)
  have C0 := Lib.hid C0
  have W0 := Lib.hid tawake_any
  have C9 := Lib.hid fun w => tnew_bad 9 w (.inr (by decide))
  have A0 : Hid (∀ W bt bp i, Tl w W bt bp (both i) (i : Int) → i < 1024 → Calls Try.prog 26 #[.pointer (some ⟨bt, 0, none⟩), .int .i64 ((i % 2 : Nat) : Int), .int .u64 (i : Int), .int .i64 (i : Int)] W fun e w' => e = .returned (.int .i64 0) ∧ Tl w w' bt bp (both (i + 1)) ((i + 1 : Nat) : Int)) := Lib.hid fun W bt bp i h hi => full_add h hi
  have A1 : Hid (∀ W bt bp, Tl w W bt bp (both 1024) 1024 → Calls Try.prog 26 #[.pointer (some ⟨bt, 0, none⟩), .int .i64 0, .int .u64 1, .int .i64 1] W fun e w' => e = .returned (.int .i64 3) ∧ Tl w w' bt bp (both 1024) 1024) := Lib.hid fun W bt bp h => tl_full (p := 0) h (by decide) (both_many 1024) 1 1
  have D1 : Hid (∀ W bt bp, Tl w W bt bp (both 1024) 1024 → Calls Try.prog 29 #[.pointer (some ⟨bt, 0, none⟩), .int .i64 0, .int .u64 (2 * (k : Int))] W fun e w' => ∃ s c, e = .returned (.slice s (k + 1) c) ∧ Tl w w' bt bp (rest k) 1024) := Lib.hid fun W bt bp h => by have := full_due h k (by omega); rwa [Int.natCast_mul] at this
  have K1 : Hid (∀ W bt bp, Tl w W bt bp (rest k) 1024 → Calls Try.prog 35 #[.pointer (some ⟨bt, 0, none⟩)] W fun e w' => e = .returned (.int .i64 (1023 - (k : Int))) ∧ Cha (fun _ => False) W w') := Lib.hid fun W bt bp h => by
    have := tl_count h (by rw [rest_many k (by omega)]; omega)
    rw [rest_many k (by omega), show ((1023 - k : Nat) : Int) = 1023 - (k : Int) by omega] at this
    exact this
  have A2 : Hid (∀ W bt bp, Tl w W bt bp (rest k) 1024 → Calls Try.prog 26 #[.pointer (some ⟨bt, 0, none⟩), .int .i64 1, .int .u64 1, .int .i64 1] W fun e w' => e = .returned (.int .i64 0) ∧ ∃ L', Tl w w' bt bp ((rest k).set 1 L') 1025) := Lib.hid fun W bt bp h =>
    (tl_add (p := 1) h (rest_tidy k) rfl (by rw [rest_many k (by omega)]; omega) (by decide) (by decide) 1 1).mono fun e w' ⟨q1, L', _, hT⟩ => ⟨q1, L', hT⟩
  have A3 : Hid (∀ W bt bp L', Tl w W bt bp ((rest k).set 1 L') 1025 → Calls Try.prog 26 #[.pointer (some ⟨bt, 0, none⟩), .int .i64 2, .int .u64 1, .int .i64 1] W fun e w' => e = .returned (.int .i64 1) ∧ W = w') := Lib.hid fun W bt bp L' h => tl_bad h 2 1 1 (.inr (by rw [List.length_set, show (rest k).length = 2 from rfl]; decide))
  have M1 : Hid (∀ W bt bp L', Tl w W bt bp ((rest k).set 1 L') 1025 → Calls Try.prog 31 #[.pointer (some ⟨bt, 0, none⟩), .int .i64 0, .int .i64 2] W fun e w' => e = .returned (.int .i64 1) ∧ W = w') := Lib.hid fun W bt bp L' h => by
    obtain ⟨F, lv, q, _⟩ := h
    exact tmove_bad 0 2 q (by rw [List.length_set, show (rest k).length = 2 from rfl]; decide) (.inr (by rw [List.length_set, show (rest k).length = 2 from rfl]; decide))
  have u1 : IntKind.i64.wrap (k : Int) = (k : Int) := by rw [IntKind.wrap_i64]; omega
  have u2 : (k : Int).tmod 500 = (k : Int) := by rw [Int.tmod_eq_of_lt (by omega) (by omega)]
  have u3 : IntKind.i64.wrap (2 * (k : Int)) = 2 * (k : Int) := by rw [IntKind.wrap_i64]; omega
  have u4 : IntKind.u64.wrap (2 * (k : Int)) = 2 * (k : Int) := by rw [IntKind.wrap_u64]; omega
  have u5 : IntKind.i64.wrap ((k : Int) + 1) = (k : Int) + 1 := by rw [IntKind.wrap_i64]; omega
  have u6 : IntKind.i64.wrap (1023 - (k : Int)) = 1023 - (k : Int) := by rw [IntKind.wrap_i64]; omega
  go_enter Try.func11, Try.ntmps11
  go_wp2_with (first
    | (go_at_call 23; ((with_reducible refine (C0.out).mono ?_); rintro e w1 ⟨rfl, h⟩; have H1 := Lib.hid h; clear h))
    | (go_at_call 25; ((with_reducible refine (W0.out _).mono ?_); rintro e w2 ⟨rfl, h⟩; have H2 := Lib.hid (H1.out.same h); clear h)))
  clear C0 W0 H1
  generalize w.heap.size + 1 = bt at *
  generalize w.heap.size = bp at *
  have H3 : Hid (Tl w w2 bt bp (both 0) ((0 : Nat) : Int)) := H2
  clear H2
  go_loopw [23] (fun i wr => ∃ j : Nat, j ≤ 1024 ∧ i = .int .i64 (j : Int) ∧ Tl w wr bt bp (both j) (j : Int)) (fun i _ => 1024 - (intOf i).toNat)
  case atStart => exact ⟨0, Nat.zero_le _, rfl, H3.out⟩
  case round =>
    obtain ⟨j, hj, rfl, hT⟩ := hrel
    have HT := Lib.hid hT
    clear hT H3
    by_cases hlt : j < 1024
    · have CJ := Lib.hid (A0.out _ _ _ _ HT.out hlt)
      have v1 : (j : Int).tmod 2 = ((j % 2 : Nat) : Int) := by rw [Int.tmod_eq_emod_of_nonneg (by omega)]; omega
      have v2 : IntKind.u64.wrap (j : Int) = (j : Int) := by rw [IntKind.wrap_u64]; omega
      have v3 : (j : Int) < 1024 := by omega
      generalize ((j % 2 : Nat) : Int) = r at *
      go_wp2_with (go_at_call 26; ((with_reducible refine (CJ.out).mono ?_); rintro e w3 ⟨rfl, h⟩; have H4 := Lib.hid h; clear h))
      go_roundw
      case rel => exact ⟨j + 1, by omega, by go_num, H4.out⟩
      case measure => simp [intOf]; omega
    · obtain rfl : j = 1024 := by omega
      have H5 : Hid (Tl w wr bt bp (both 1024) 1024) := HT
      have v3 : ¬ (((1024 : Nat) : Int) < 1024) := by omega
      go_wp2_with (first
        | (go_at_call 26; ((with_reducible refine (A1.out _ _ _ H5.out).mono ?_); rintro e w4 ⟨rfl, h⟩; have H6 := Lib.hid h; clear h))
        | (go_at_call 29; ((with_reducible refine (D1.out _ _ _ H6.out).mono ?_); rintro e w5 ⟨s5, c5, rfl, h⟩; have H7 := Lib.hid h; clear h))
        | (go_at_call 35; ((with_reducible refine (K1.out _ _ _ H7.out).mono ?_); rintro e w6 ⟨rfl, h⟩; have H8 := Lib.hid (H7.out.same h); clear h))
        | (go_at_call 23; ((with_reducible refine (C9.out _).mono ?_); rintro e w7 ⟨rfl, rfl⟩))
        | (go_at_call 26; ((with_reducible refine (A2.out _ _ _ H8.out).mono ?_); rintro e w8 ⟨rfl, L8, h⟩; have H9 := Lib.hid h; clear h))
        | (go_at_call 26; ((with_reducible refine (A3.out _ _ _ _ H9.out).mono ?_); rintro e w9 ⟨rfl, rfl⟩))
        | (go_at_call 31; ((with_reducible refine (M1.out _ _ _ _ H9.out).mono ?_); rintro e w10 ⟨rfl, rfl⟩)))
      go_ret
      exact ⟨rfl, H9.out.cha⟩
end Go.Proofs.Yteogepfolifneaa
