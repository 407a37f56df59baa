/- QueueOne: the walk. -/
import Derived.Test.YteogepfolifneaaN
namespace Go.Proofs.Yteogepfolifneaa
open Go.ChangeShapes Go.WideShapes Go.ChangeAt Go.RowKit
variable {w0 w w' : World} {bq bp : Nat} {S : List Prc} {A : List Int}

/-- The first n numbers, from b on. -/
def upto (b : Int) (n : Nat) : List Int := (List.range n).map fun i : Nat => b + (i : Int)
theorem upto_len (b : Int) (n : Nat) : (upto b n).length = n := by simp [upto]
theorem upto_succ (b : Int) (n : Nat) : upto b (n + 1) = upto b n ++ [b + (n : Int)] := by simp [upto, List.range_succ]
theorem upto_drop (b : Int) {n j : Nat} (h : j < n) : (upto b n).drop j = (b + (j : Int)) :: (upto b n).drop (j + 1) := by
  have := drop_get (upto b n) (j := j) (by rw [upto_len]; exact h)
  rw [this]
  congr 1
  simp [upto, List.getD, h]
/-- One processor's numbers. -/
theorem puts_one (A : List Int) (k : Nat) (hk : k + 1 ≤ 9) : puts ([(-1, [])], A) 0 0 (k + 1) = ([((k : Int), upto 0 k)], A) := by
  induction k with
  | zero => rfl
  | succ n ih =>
    show putP (puts ([(-1, [])], A) 0 0 (n + 1)) 0 (0 + ((n + 1 : Nat) : Int)) = _
    rw [ih (by omega), Int.zero_add]
    show putS [((n : Int), upto 0 n)] A 0 _ = _
    unfold putS
    have e : ([((n : Int), upto 0 n)] : List Prc).getD 0 (-1, []) = ((n : Int), upto 0 n) := rfl
    rw [e, if_neg (by omega), if_pos (by rw [upto_len]; omega), upto_succ, Int.zero_add]
    rfl
theorem one_next (A : List Int) (x : Int) (k : Nat) (L : List Int) : getP ([((k : Int), L)], A) 0 x = (((k : Int), true), ([(-1, L)], A)) :=
  get_next (S := [((k : Int), L)]) (p := 0) (x := (k : Int)) (L := L) rfl (by omega)
theorem one_own (A : List Int) (x g : Int) (L : List Int) : getP ([(-1, g :: L)], A) 0 x = ((g, true), ([(-1, L)], A)) := get_own (S := [(-1, g :: L)]) (p := 0) rfl
theorem one_all (A : List Int) (x g : Int) : getP ([(-1, [])], g :: A) 0 x = ((g, true), ([(-1, [])], A)) := get_all (S := [(-1, [])]) (p := 0) rfl
theorem one_end : getP ([(-1, [])], []) 0 0 = ((0, false), ([(-1, [])], [])) := by decide +kernel

set_option maxRecDepth 100000 in
set_option maxHeartbeats 4000000 in
theorem one_walk (n m : Nat) (hn : n ≤ 255) (hm : m ≤ 255) (w : World) : Calls Try.prog 5 #[.int .u8 (n : Int), .int .u8 (m : Int)] w fun e w' => e = .returned (.bool true) ∧ Cha (fun _ => False) w w' := by
  have C0 : Calls Try.prog 12 #[.int .i64 1] w _ := live_new 1 (Cha.refl _ w) (by omega) (by omega)
  have C0 := Lib.hid C0
  have AW := Lib.hid awake_any
  obtain ⟨k, hk⟩ : ∃ k, k = n % 9 := ⟨_, rfl⟩
  obtain ⟨l, hl⟩ : ∃ l, l = m % 20 := ⟨_, rfl⟩
  have hk9 : k < 9 := by omega
  have hl9 : l < 20 := by omega
  have e0 : (n : Int) % 9 = (k : Int) := by omega
  have e1 : (m : Int) % 20 = (l : Int) := by omega
  have L1 : Hid (∀ bq bp W (j : Nat), j < l → Live w W bq bp ([(-1, [])], upto 100 j) → Calls Try.prog 17 #[.pointer (some ⟨bq, 0, none⟩), .int .i64 (100 + (j : Int))] W fun e w' => e = .returned (.int .i64 0) ∧ Live w w' bq bp ([(-1, [])], upto 100 (j + 1))) := Lib.hid fun bq bp W j hj h => by
    have := live_last h (100 + (j : Int)) (by omega) (by show (upto 100 j).length + 5 ≤ _; rw [upto_len]; omega)
    rw [upto_succ]
    exact this
  have C1 : Hid (∀ bq bp W (j : Nat), j < k + 1 → Live w W bq bp (puts ([(-1, [])], upto 100 l) 0 0 j) → Calls Try.prog 15 #[.pointer (some ⟨bq, 0, none⟩), .int .i64 0, .int .i64 (j : Int)] W fun e w' => e = .returned (.int .i64 0) ∧ Live w w' bq bp (puts ([(-1, [])], upto 100 l) 0 0 (j + 1))) := Lib.hid fun bq bp W j hj h => by
    have := live_put h 0 (0 + (j : Int)) (by rw [puts_len]; exact Nat.zero_lt_one) (by omega) (by have := puts_all ([(-1, [])], upto 100 l) 0 0 j; have e : (upto 100 l).length = l := upto_len _ _; dsimp only at this; omega)
    rw [Int.zero_add] at this
    have e : puts ([(-1, [])], upto 100 l) 0 0 (j + 1) = putP (puts ([(-1, [])], upto 100 l) 0 0 j) 0 j := by show putP _ 0 (0 + (j : Int)) = _; rw [Int.zero_add]
    rw [e]
    exact this
  have W1 : Hid (∀ bq bp W, Live w W bq bp ([((k : Int), upto 0 k)], upto 100 l) → Calls Try.prog 21 #[.pointer (some ⟨bq, 0, none⟩), .int .i64 0] W fun e w' => e = .returned (.tuple #[.int .i64 ((k : Int) + 1), .int .i64 (l : Int)]) ∧ Live w w' bq bp ([((k : Int), upto 0 k)], upto 100 l)) := Lib.hid fun bq bp W h => by
    have := live_waiting h 0 Nat.zero_lt_one
    have e : cnt ((([((k : Int), upto 0 k)], upto 100 l) : St).1.getD 0 (-1, [])) = k + 1 := by
      show cnt ((k : Int), upto 0 k) = k + 1
      unfold cnt
      rw [if_neg (by dsimp only; omega), upto_len]
    rw [e] at this
    have e2 : (([((k : Int), upto 0 k)], upto 100 l) : St).2.length = l := upto_len _ _
    rw [e2] at this
    exact this
  have G1 : Hid (∀ bq bp W, Live w W bq bp ([((k : Int), upto 0 k)], upto 100 l) → Calls Try.prog 19 #[.pointer (some ⟨bq, 0, none⟩), .int .i64 0, .int .i64 0] W fun e w' => e = .returned (.tuple #[.int .i64 (k : Int), .bool true]) ∧ Live w w' bq bp ([(-1, upto 0 k)], upto 100 l)) := Lib.hid fun bq bp W h => by
    have := live_get h 0 0 Nat.zero_lt_one
    rw [one_next] at this
    exact this
  have G2 : Hid (∀ bq bp W (j : Nat), j < k → Live w W bq bp ([(-1, (upto 0 k).drop j)], upto 100 l) → Calls Try.prog 19 #[.pointer (some ⟨bq, 0, none⟩), .int .i64 0, .int .i64 5] W fun e w' => e = .returned (.tuple #[.int .i64 (j : Int), .bool true]) ∧ Live w w' bq bp ([(-1, (upto 0 k).drop (j + 1))], upto 100 l)) := Lib.hid fun bq bp W j hj h => by
    have := live_get h 0 5 (by simp)
    rw [upto_drop 0 hj, one_own, Int.zero_add] at this
    exact this
  have G3 : Hid (∀ bq bp W (j : Nat), j < l → Live w W bq bp ([(-1, [])], (upto 100 l).drop j) → Calls Try.prog 19 #[.pointer (some ⟨bq, 0, none⟩), .int .i64 0, .int .i64 (-5)] W fun e w' => e = .returned (.tuple #[.int .i64 (100 + (j : Int)), .bool true]) ∧ Live w w' bq bp ([(-1, [])], (upto 100 l).drop (j + 1))) := Lib.hid fun bq bp W j hj h => by
    have := live_get h 0 (-5) (by simp)
    rw [upto_drop 100 hj, one_all] at this
    exact this
  have G4 : Hid (∀ bq bp W, Live w W bq bp ([(-1, [])], []) → Calls Try.prog 19 #[.pointer (some ⟨bq, 0, none⟩), .int .i64 0, .int .i64 0] W fun e w' => e = .returned (.tuple #[.int .i64 0, .bool false]) ∧ Live w w' bq bp ([(-1, [])], [])) := Lib.hid fun bq bp W h => by
    have := live_get h 0 0 (by decide)
    rw [one_end] at this
    exact this
  have HK := Lib.hid hk
  have HL := Lib.hid hl
  clear hk hl
  go_enter Try.func5, Try.ntmps5
  go_wp2_with (first
    | (go_at_call 12; ((with_reducible refine (C0.out).mono ?_); rintro e w1 ⟨rfl, h⟩; have H1 := Lib.hid h; clear h))
    | (go_at_call 14; ((with_reducible refine (AW.out _).mono ?_); rintro e w2 ⟨rfl, h⟩; have H2 : Hid (Live w w2 _ _ ([(-1, [])], upto 100 0)) := Lib.hid (H1.out.same h); clear h)))
  generalize w.heap.size + 1 = bq at *
  generalize w.heap.size = bp at *
  clear e0 e1 H1 C0 AW
  go_loopw [9, 39] (fun _ i wr => ∃ j : Nat, j ≤ l ∧ i = .int .i64 (j : Int) ∧ Live w wr bq bp ([(-1, [])], upto 100 j)) (fun _ i _ => l - (intOf i).toNat)
  case atStart => exact ⟨0, by omega, rfl, H2.out⟩
  case round =>
    clear H2
    obtain ⟨j, hj, rfl, hL⟩ := hrel
    by_cases hlt : j < l
    · have D := Lib.hid (L1.out bq bp wr j hlt hL)
      clear hL
      go_wp2_with (go_at_call 17; ((with_reducible refine (D.out).mono ?_); rintro e w2 ⟨rfl, h⟩; have H2 := Lib.hid h; clear h))
      go_roundw
      case rel => exact ⟨j + 1, by omega, by go_num, H2.out⟩
      case measure => simp [intOf]; omega
    · obtain rfl : j = l := by omega
      obtain ⟨w3, rfl⟩ : ∃ w3 : World, w3 = wr := ⟨_, rfl⟩
      have H3 : Hid (Live w w3 bq bp (puts ([(-1, [])], upto 100 j) 0 0 0)) := Lib.hid hL
      clear hL
      go_wp2
      go_loopw [10, 48] (fun _ i wr => ∃ i' : Nat, i' ≤ k + 1 ∧ i = .int .i64 (i' : Int) ∧ Live w wr bq bp (puts ([(-1, [])], upto 100 j) 0 0 i')) (fun _ i _ => k + 1 - (intOf i).toNat)
      case atStart => exact ⟨0, by omega, rfl, H3.out⟩
      case round =>
        clear H3
        obtain ⟨i', hi, rfl, hL⟩ := hrel
        by_cases hlt2 : i' < k + 1
        · have D := Lib.hid (C1.out bq bp wr i' hlt2 hL)
          clear hL
          go_wp2_with (go_at_call 15; ((with_reducible refine (D.out).mono ?_); rintro e w2 ⟨rfl, h⟩; have H2 := Lib.hid h; clear h))
          go_roundw
          case rel => exact ⟨i' + 1, by omega, by go_num, H2.out⟩
          case measure => simp [intOf]; omega
        · obtain rfl : i' = k + 1 := by omega
          rw [puts_one _ _ (by omega)] at hL
          have D := Lib.hid (W1.out _ _ _ hL)
          clear hL
          go_wp2_with (first
            | (go_at_call 21; ((with_reducible refine (D.out).mono ?_); rintro e w4 ⟨rfl, h⟩; have D2 := Lib.hid (G1.out _ _ _ h); clear h))
            | (go_at_call 19; ((with_reducible refine (D2.out).mono ?_); rintro e w5 ⟨rfl, h⟩; have H5 : Hid (Live w w5 bq bp ([(-1, (upto 0 k).drop 0)], upto 100 j)) := Lib.hid h; clear h)))
          obtain ⟨w6, rfl⟩ : ∃ w6 : World, w6 = w5 := ⟨_, rfl⟩
          go_loopw [13, 14, 15, 83] (fun _ _ _ i wr => ∃ a : Nat, a ≤ k ∧ i = .int .i64 (a : Int) ∧ Live w wr bq bp ([(-1, (upto 0 k).drop a)], upto 100 j)) (fun _ _ _ i _ => k - (intOf i).toNat)
          case atStart => exact ⟨0, by omega, rfl, H5.out⟩
          case round =>
            clear H5 D D2
            obtain ⟨a, ha, rfl, hL⟩ := hrel
            by_cases hlt3 : a < k
            · have D := Lib.hid (G2.out bq bp wr a hlt3 hL)
              clear hL
              go_wp2_with (go_at_call 19; ((with_reducible refine (D.out).mono ?_); rintro e w2 ⟨rfl, h⟩; have H2 := Lib.hid h; clear h))
              go_roundw
              case rel => exact ⟨a + 1, by omega, by go_num, H2.out⟩
              case measure => simp [intOf]; omega
            · obtain rfl : a = k := by omega
              rw [List.drop_of_length_le (by rw [upto_len]; omega)] at hL
              obtain ⟨w7, rfl⟩ : ∃ w7 : World, w7 = wr := ⟨_, rfl⟩
              have H3 : Hid (Live w w7 bq bp ([(-1, [])], (upto 100 j).drop 0)) := Lib.hid hL
              clear hL
              go_wp2
              go_loopw [13, 14, 16, 100] (fun _ _ _ i wr => ∃ b : Nat, b ≤ j ∧ i = .int .i64 (b : Int) ∧ Live w wr bq bp ([(-1, [])], (upto 100 j).drop b)) (fun _ _ _ i _ => j - (intOf i).toNat)
              case atStart => exact ⟨0, by omega, rfl, H3.out⟩
              case round =>
                clear H3
                obtain ⟨b, hb, rfl, hL⟩ := hrel
                by_cases hlt4 : b < j
                · have D := Lib.hid (G3.out bq bp wr b hlt4 hL)
                  clear hL
                  go_wp2_with (go_at_call 19; ((with_reducible refine (D.out).mono ?_); rintro e w2 ⟨rfl, h⟩; have H2 := Lib.hid h; clear h))
                  go_roundw
                  case rel => exact ⟨b + 1, by omega, by go_num, H2.out⟩
                  case measure => simp [intOf]; omega
                · obtain rfl : b = j := by omega
                  rw [List.drop_of_length_le (by rw [upto_len]; omega)] at hL
                  have D := Lib.hid (G4.out bq bp wr hL)
                  clear hL
                  go_wp2_with (go_at_call 19; ((with_reducible refine (D.out).mono ?_); rintro e w2 ⟨rfl, h⟩; have H2 := Lib.hid h; clear h))
                  go_ret
                  exact ⟨rfl, H2.out.cha⟩
end Go.Proofs.Yteogepfolifneaa
