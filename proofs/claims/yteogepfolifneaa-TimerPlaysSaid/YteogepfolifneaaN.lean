/- QueueFixed and QueueHalf: the walks. -/
import Derived.Test.YteogepfolifneaaM
namespace Go.Proofs.Yteogepfolifneaa
open Go.ChangeShapes Go.WideShapes Go.ChangeAt Go.RowKit

set_option maxRecDepth 100000 in
set_option maxHeartbeats 1000000 in
theorem fixed_walk (w : World) : Calls Try.prog 7 #[] w fun e w' => e = .returned (.bool true) ∧ Cha (fun _ => False) w w' := by
  have C0 : Calls Try.prog 12 #[.int .i64 1] w _ := live_new 1 (Cha.refl _ w) (by omega) (by omega)
  have C0 := Lib.hid C0
  have B0 := Lib.hid fun W => new_bad 0 W (by omega)
  have B9 := Lib.hid fun W => new_bad 9 W (by omega)
  have P1 : Hid (∀ bq bp W, Live w W bq bp (ini 1) → Calls Try.prog 15 #[.pointer (some ⟨bq, 0, none⟩), .int .i64 0, .int .i64 1] W fun e w' => e = .returned (.int .i64 0) ∧ Live w w' bq bp ([(1, [])], [])) := Lib.hid fun bq bp W h => live_put h 0 1 (by decide) (by decide) (by decide)
  have P2 : Hid (∀ bq bp W, Live w W bq bp ([(1, [])], []) → Calls Try.prog 15 #[.pointer (some ⟨bq, 0, none⟩), .int .i64 0, .int .i64 2] W fun e w' => e = .returned (.int .i64 0) ∧ Live w w' bq bp ([(2, [1])], [])) := Lib.hid fun bq bp W h => live_put h 0 2 (by decide) (by decide) (by decide)
  have P3 : Hid (∀ bq bp W, Live w W bq bp ([(2, [1])], []) → Calls Try.prog 15 #[.pointer (some ⟨bq, 0, none⟩), .int .i64 0, .int .i64 3] W fun e w' => e = .returned (.int .i64 0) ∧ Live w w' bq bp ([(3, [1, 2])], [])) := Lib.hid fun bq bp W h => live_put h 0 3 (by decide) (by decide) (by decide)
  have G1 : Hid (∀ bq bp W, Live w W bq bp ([(3, [1, 2])], []) → Calls Try.prog 19 #[.pointer (some ⟨bq, 0, none⟩), .int .i64 0, .int .i64 0] W fun e w' => e = .returned (.tuple #[.int .i64 3, .bool true]) ∧ Live w w' bq bp ([(-1, [1, 2])], [])) := Lib.hid fun bq bp W h => live_get h 0 0 (by decide)
  have G2 : Hid (∀ bq bp W, Live w W bq bp ([(-1, [1, 2])], []) → Calls Try.prog 19 #[.pointer (some ⟨bq, 0, none⟩), .int .i64 0, .int .i64 0] W fun e w' => e = .returned (.tuple #[.int .i64 1, .bool true]) ∧ Live w w' bq bp ([(-1, [2])], [])) := Lib.hid fun bq bp W h => live_get h 0 0 (by decide)
  have W1 : Hid (∀ bq bp W, Live w W bq bp ([(-1, [2])], []) → Calls Try.prog 21 #[.pointer (some ⟨bq, 0, none⟩), .int .i64 0] W fun e w' => e = .returned (.tuple #[.int .i64 1, .int .i64 0]) ∧ Live w w' bq bp ([(-1, [2])], [])) := Lib.hid fun bq bp W h => live_waiting h 0 (by decide)
  have X1 : Hid (∀ bq bp W, Live w W bq bp ([(-1, [2])], []) → Calls Try.prog 15 #[.pointer (some ⟨bq, 0, none⟩), .int .i64 1, .int .i64 0] W fun e w' => e = .returned (.int .i64 1) ∧ W = w') := Lib.hid fun bq bp W h => live_bad h 1 0 (by simp)
  have X2 : Hid (∀ bq bp W, Live w W bq bp ([(-1, [2])], []) → Calls Try.prog 15 #[.pointer (some ⟨bq, 0, none⟩), .int .i64 0, .int .i64 (-1)] W fun e w' => e = .returned (.int .i64 1) ∧ W = w') := Lib.hid fun bq bp W h => live_bad h 0 (-1) (by simp)
  have X3 : Hid (∀ bq W, Calls Try.prog 17 #[.pointer (some ⟨bq, 0, none⟩), .int .i64 (-1)] W fun e w' => e = .returned (.int .i64 1) ∧ W = w') := Lib.hid fun bq W => last_bad (-1) W (by omega)
  have AW := Lib.hid awake_any
  go_enter Try.func7, Try.ntmps7
  go_wp2_with (first
    | (go_at_call 12; ((with_reducible refine (C0.out).mono ?_); rintro e w1 ⟨rfl, h⟩; have H1 := Lib.hid h; clear h))
    | (go_at_call 12; ((with_reducible refine (B0.out _).mono ?_); rintro e w2 ⟨rfl, rfl⟩))
    | (go_at_call 12; ((with_reducible refine (B9.out _).mono ?_); rintro e w2 ⟨rfl, rfl⟩))
    | (go_at_call 15; ((with_reducible refine (P1.out _ _ _ H1.out).mono ?_); rintro e w3 ⟨rfl, h⟩; have H2 := Lib.hid h; clear h))
    | (go_at_call 15; ((with_reducible refine (P2.out _ _ _ H2.out).mono ?_); rintro e w4 ⟨rfl, h⟩; have H3 := Lib.hid h; clear h))
    | (go_at_call 15; ((with_reducible refine (P3.out _ _ _ H3.out).mono ?_); rintro e w5 ⟨rfl, h⟩; have H4 := Lib.hid h; clear h))
    | (go_at_call 19; ((with_reducible refine (G1.out _ _ _ H4.out).mono ?_); rintro e w6 ⟨rfl, h⟩; have H5 := Lib.hid h; clear h))
    | (go_at_call 19; ((with_reducible refine (G2.out _ _ _ H5.out).mono ?_); rintro e w7 ⟨rfl, h⟩; have H6 := Lib.hid h; clear h))
    | (go_at_call 21; ((with_reducible refine (W1.out _ _ _ H6.out).mono ?_); rintro e w8 ⟨rfl, h⟩; have H7 := Lib.hid h; clear h))
    | (go_at_call 14; ((with_reducible refine (AW.out _).mono ?_); rintro e w9 ⟨rfl, h⟩; have H8 := Lib.hid (H7.out.same h); clear h))
    | (go_at_call 15; ((with_reducible refine (X1.out _ _ _ H8.out).mono ?_); rintro e w10 ⟨rfl, rfl⟩))
    | (go_at_call 15; ((with_reducible refine (X2.out _ _ _ H8.out).mono ?_); rintro e w10 ⟨rfl, rfl⟩))
    | (go_at_call 17; ((with_reducible refine (X3.out _ _).mono ?_); rintro e w10 ⟨rfl, rfl⟩)))
  go_ret
  exact ⟨rfl, H8.out.cha⟩

/-- Of a processor that has k + 1 the first half is stolen. -/
theorem half_facts : ∀ k, k < 9 → (getP (puts (ini 3) 1 0 (k + 1)) 0 0).1 = (0, true) ∧ (cnt ((getP (puts (ini 3) 1 0 (k + 1)) 0 0).2.1.getD 0 (-1, [])) : Nat) = (if k = 0 then 0 else (k + 1) / 2 - 1)
    ∧ cnt ((getP (puts (ini 3) 1 0 (k + 1)) 0 0).2.1.getD 1 (-1, [])) = (if k = 0 then 0 else (k + 1) - (k + 1) / 2) ∧ (getP (puts (ini 3) 1 0 (k + 1)) 0 0).2.1.length = 3 := by decide +kernel
set_option maxRecDepth 100000 in
set_option maxHeartbeats 1000000 in
theorem half_walk (n : Nat) (hn : n ≤ 255) (w : World) : Calls Try.prog 6 #[.int .u8 (n : Int)] w fun e w' => e = .returned (.bool true) ∧ Cha (fun _ => False) w w' := by
  have C0 : Calls Try.prog 12 #[.int .i64 3] w _ := live_new 3 (Cha.refl _ w) (by omega) (by omega)
  have C0 := Lib.hid C0
  have AW := Lib.hid awake_any
  obtain ⟨k, hk⟩ : ∃ k, k = n % 9 := ⟨_, rfl⟩
  have hk9 : k < 9 := by omega
  have e0 : (n : Int) % 9 = (k : Int) := by omega
  obtain ⟨f1, f2, f3, f4⟩ := half_facts k hk9
  have C1 : Hid (∀ bq bp W (j : Nat), j < k + 1 → Live w W bq bp (puts (ini 3) 1 0 j) → Calls Try.prog 15 #[.pointer (some ⟨bq, 0, none⟩), .int .i64 1, .int .i64 (j : Int)] W fun e w' => e = .returned (.int .i64 0) ∧ Live w w' bq bp (puts (ini 3) 1 0 (j + 1))) := Lib.hid fun bq bp W j hj h => by
    have := live_put h 1 (0 + (j : Int)) (by rw [puts_len]; decide) (by omega) (by have : (puts (ini 3) 1 0 j).2.length ≤ 0 + 5 * j := puts_all (ini 3) 1 0 j; omega)
    rw [Int.zero_add] at this
    have e : puts (ini 3) 1 0 (j + 1) = putP (puts (ini 3) 1 0 j) 1 j := by show putP _ 1 (0 + (j : Int)) = _; rw [Int.zero_add]
    rw [e]
    exact this
  have G1 : Hid (∀ bq bp W, Live w W bq bp (puts (ini 3) 1 0 (k + 1)) → Calls Try.prog 19 #[.pointer (some ⟨bq, 0, none⟩), .int .i64 0, .int .i64 0] W fun e w' => e = .returned (.tuple #[.int .i64 0, .bool true]) ∧ Live w w' bq bp (getP (puts (ini 3) 1 0 (k + 1)) 0 0).2) := Lib.hid fun bq bp W h => by
    have := live_get h 0 0 (by rw [puts_len]; decide)
    rw [f1] at this
    exact this
  obtain ⟨s, hs⟩ : ∃ s, s = (getP (puts (ini 3) 1 0 (k + 1)) 0 0).2 := ⟨_, rfl⟩
  rw [← hs] at f2 f3 f4 G1
  have W1 : Hid (∀ bq bp W, Live w W bq bp s → Calls Try.prog 21 #[.pointer (some ⟨bq, 0, none⟩), .int .i64 0] W fun e w' => e = .returned (.tuple #[.int .i64 ((if k = 0 then 0 else (k + 1) / 2 - 1 : Nat) : Int), .int .i64 (s.2.length : Nat)]) ∧ Live w w' bq bp s) := Lib.hid fun bq bp W h => by
    have := live_waiting h 0 (by omega)
    rw [f2] at this
    exact this
  have W2 : Hid (∀ bq bp W, Live w W bq bp s → Calls Try.prog 21 #[.pointer (some ⟨bq, 0, none⟩), .int .i64 1] W fun e w' => e = .returned (.tuple #[.int .i64 ((if k = 0 then 0 else (k + 1) - (k + 1) / 2 : Nat) : Int), .int .i64 (s.2.length : Nat)]) ∧ Live w w' bq bp s) := Lib.hid fun bq bp W h => by
    have := live_waiting h 1 (by omega)
    rw [f3] at this
    exact this
  clear f1 f2 f3 f4 hs
  generalize s.2.length = al at *
  have HK := Lib.hid hk
  clear hk
  go_enter Try.func6, Try.ntmps6
  go_wp2_with (first
    | (go_at_call 12; ((with_reducible refine (C0.out).mono ?_); rintro e w1 ⟨rfl, h⟩; have H1 := Lib.hid h; clear h))
    | (go_at_call 14; ((with_reducible refine (AW.out _).mono ?_); rintro e w2 ⟨rfl, h⟩; have H2 := Lib.hid (H1.out.same h); clear h)))
  generalize w.heap.size + 1 = bq at *
  generalize w.heap.size = bp at *
  clear e0
  go_loopw [6, 32] (fun _ i wr => ∃ j : Nat, j ≤ k + 1 ∧ i = .int .i64 (j : Int) ∧ Live w wr bq bp (puts (ini 3) 1 0 j)) (fun _ i _ => k + 1 - (intOf i).toNat)
  case atStart => exact ⟨0, by omega, rfl, H2.out⟩
  case round =>
    clear H1 H2
    obtain ⟨j, hj, rfl, hL⟩ := hrel
    by_cases hlt : j < k + 1
    · have D := Lib.hid (C1.out bq bp wr j hlt hL)
      clear hL
      go_wp2_with (go_at_call 15; ((with_reducible refine (D.out).mono ?_); rintro e w2 ⟨rfl, h⟩; have H2 := Lib.hid h; clear h))
      go_roundw
      case rel => exact ⟨j + 1, by omega, by go_num, H2.out⟩
      case measure => simp [intOf]; omega
    · obtain rfl : j = k + 1 := by omega
      have D := Lib.hid (G1.out bq bp wr hL)
      clear hL
      by_cases h0 : k = 0
      · subst h0
        have W1 : Hid (∀ bq bp W, Live w W bq bp s → Calls Try.prog 21 #[.pointer (some ⟨bq, 0, none⟩), .int .i64 0] W fun e w' => e = .returned (.tuple #[.int .i64 0, .int .i64 (al : Nat)]) ∧ Live w w' bq bp s) := W1
        have W2 : Hid (∀ bq bp W, Live w W bq bp s → Calls Try.prog 21 #[.pointer (some ⟨bq, 0, none⟩), .int .i64 1] W fun e w' => e = .returned (.tuple #[.int .i64 0, .int .i64 (al : Nat)]) ∧ Live w w' bq bp s) := W2
        go_wp2_with (first
          | (go_at_call 19; ((with_reducible refine (D.out).mono ?_); rintro e w3 ⟨rfl, h⟩; have D3 := Lib.hid h; clear h))
          | (go_at_call 21; ((with_reducible refine (W1.out _ _ _ D3.out).mono ?_); rintro e w4 ⟨rfl, h⟩; have D4 := Lib.hid h; clear h))
          | (go_at_call 21; ((with_reducible refine (W2.out _ _ _ D4.out).mono ?_); rintro e w5 ⟨rfl, h⟩; have D5 := Lib.hid h; clear h)))
        go_ret
        exact ⟨rfl, D5.out.cha⟩
      · simp only [if_neg h0] at W1 W2
        have q1 : ((((k + 1) / 2 - 1 : Nat)) : Int) = ((k : Int) + 1) / 2 - 1 := by omega
        have q2 : ((((k + 1) - (k + 1) / 2 : Nat)) : Int) = ((k : Int) + 1) - ((k : Int) + 1) / 2 := by omega
        rw [q1] at W1
        rw [q2] at W2
        have h1 : decide (k + 1 = 1) = false := by simpa using h0
        have h2 : ((k : Int) + 1 == 1) = false := by simp; omega
        clear q1 q2 h0
        go_wp2_with (first
          | (go_at_call 19; ((with_reducible refine (D.out).mono ?_); rintro e w3 ⟨rfl, h⟩; have D3 := Lib.hid h; clear h))
          | (go_at_call 21; ((with_reducible refine (W1.out _ _ _ D3.out).mono ?_); rintro e w4 ⟨rfl, h⟩; have D4 := Lib.hid h; clear h))
          | (go_at_call 21; ((with_reducible refine (W2.out _ _ _ D4.out).mono ?_); rintro e w5 ⟨rfl, h⟩; have D5 := Lib.hid h; clear h)))
        go_ret
        exact ⟨rfl, D5.out.cha⟩
end Go.Proofs.Yteogepfolifneaa
