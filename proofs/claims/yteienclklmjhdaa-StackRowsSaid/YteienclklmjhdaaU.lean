/- StackRows: its walk. -/
import Derived.Test.YteienclklmjhdaaT
namespace Go.Proofs.Yteienclklmjhdaa
open Go.ChangeShapes Go.WideShapes Go.ChangeAt Go.RowKit

/-- What stands at the bottom ahead of the round k. -/
def lastOf (z : Nat → Int) (len k : Nat) : Int := if 2 ≤ min k len then z (min k len - 1) else 9
theorem lastOf_step {z : Nat → Int} {len k : Nat} (h1 : 1 ≤ k) (h : k < len) : lastOf z len (k + 1) = z k := by
  unfold lastOf
  rw [Nat.min_eq_left (by omega), if_pos (by omega), Nat.add_sub_cancel]
theorem lastOf_stay {z : Nat → Int} {len k : Nat} (h : len ≤ k) : lastOf z len (k + 1) = lastOf z len k := by
  unfold lastOf
  rw [Nat.min_eq_right (by omega), Nat.min_eq_right h]
set_option maxRecDepth 100000 in
set_option maxHeartbeats 4000000 in
theorem rows_walk (d : Int) (s : Option Addr) (len cap : Nat) (w : World) (d0 : 0 ≤ d) (d1 : d ≤ 255) (hlen : len ≤ 9223372036854775807) (b o : Nat) (z : Nat → Int) (hs : 0 < len → s = some ⟨b, o, none⟩)
    (hz : ∀ i, i < len → w.cell? ⟨b, o + i, none⟩ = some (.int .u64 (z i)) ∧ 0 ≤ z i ∧ z i ≤ 18446744073709551615) :
    Calls Try.prog 6 #[.int .u8 d, .slice s len cap] w fun e w' => e = .returned (.bool true) ∧ Cha (fun _ => False) w w' := by
  obtain ⟨n1, hn⟩ : ∃ n1 : Nat, d % 62 = (n1 : Int) := ⟨(d % 62).toNat, by omega⟩
  have hn62 : n1 ≤ 61 := by omega
  have C0 := Lib.hid (live_new (Cha.refl (fun _ => False) w))
  have CA : Hid (∀ bs W, Live w W bs St.new → Calls Try.prog 10 #[] W fun e W' => e = .returned (.bool true) ∧ Live w W' bs St.new) := Lib.hid fun bs W h => (awake_any (Cha.refl (fun _ => False) W)).mono fun _ _ ⟨a, c⟩ => ⟨a, h.same c⟩
  have HZ : Hid (∀ W i, Cha (fun _ => False) w W → i < len → W.cell? ⟨b, o + i, none⟩ = some (.int .u64 (z i))) := Lib.hid fun W i c hi => by
    have h1 := (hz i hi).1
    have e := c.old b (block_lt_of_cell h1) id
    unfold World.cell? at h1 ⊢
    rw [e]; exact h1
  have HB := Lib.hid hz
  have HS := Lib.hid hs
  clear hz hs
  go_enter Try.func6, Try.ntmps6
  go_wp2_with (first
    | (go_at_call 8; ((with_reducible refine (C0.out).mono ?_); rintro e w1 ⟨bs, rfl, h⟩; have D1 := Lib.hid (CA.out _ _ h); clear h))
    | (go_at_call 10; ((with_reducible refine (D1.out).mono ?_); rintro e w2 ⟨rfl, h⟩; have D2 := Lib.hid (rwl_new h); clear h))
    | (go_at_call 11; ((with_reducible refine (D2.out).mono ?_); rintro e w3 ⟨rfl, h⟩; have D3 := Lib.hid (rwl_set h); clear h))
    | (go_at_call 15; ((with_reducible refine (D3.out).mono ?_); rintro e w4 ⟨rfl, h⟩; have H5 := Lib.hid h; clear h)))
  try simp only [hn]
  clear hn D1 D2 D3 C0 CA
  go_loopw [7] (fun i wr => ∃ j : Nat, 1 ≤ j ∧ j ≤ n1 + 1 ∧ i = .int .i64 (j : Int) ∧ Rwl w wr bs (j - 1) (j - 1) (lastOf z len j)) (fun i _ => n1 + 1 - (intOf i).toNat)
  case atStart => exact ⟨1, by omega, by omega, rfl, by
    have e : lastOf z len 1 = 9 := by unfold lastOf; rw [if_neg (by omega)]
    rw [e]; exact H5.out⟩
  case round =>
    clear H5
    obtain ⟨k, hk1, hk, rfl, hL⟩ := hrel
    by_cases hlt : k < n1 + 1
    · obtain ⟨j, rfl⟩ : ∃ j, k = j + 1 := ⟨k - 1, by omega⟩
      rw [Nat.add_sub_cancel] at hL
      have D1 := Lib.hid (hL.push (by omega))
      have hlt2 : ((j + 1 : Nat) : Int) < (n1 : Int) + 1 := by omega
      have DL : Hid (∀ W, Rwl w W bs (j + 1) j (lastOf z len (j + 1)) → Calls Try.prog 17 #[.pointer (some ⟨bs, 0, none⟩), .int .i64 0, .int .i64 5, .int .i64 ((j : Int) + 1), .int .i64 1] W fun e W' => e = .returned (.int .i64 0) ∧ Rwl w W' bs (j + 1) (j + 1) (lastOf z len (j + 1))) := Lib.hid fun W h => Rwl.link h
      clear hL
      by_cases hw : j + 1 < len
      · obtain rfl := HS.out (by omega)
        have hz1 := (HB.out (j + 1) hw).2
        have DS : Hid (∀ W, Rwl w W bs (j + 1) (j + 1) (lastOf z len (j + 1)) → Calls Try.prog 19 #[.pointer (some ⟨bs, 0, none⟩), .int .i64 0, .int .i64 5, .int .u64 (z (j + 1))] W fun e W' => e = .returned (.int .i64 0) ∧ Rwl w W' bs (j + 1) (j + 1) (z (j + 1))) := Lib.hid fun W h => Rwl.store (v := z (j + 1)) h hz1.1 hz1.2
        have DG : Hid (∀ W, Rwl w W bs (j + 1) (j + 1) (z (j + 1)) → Calls Try.prog 21 #[.pointer (some ⟨bs, 0, none⟩), .int .i64 ((j : Int) + 1), .int .i64 1] W fun e W' => e = .returned (.tuple #[.int .u64 (z (j + 1)), .int .i64 0]) ∧ Rwl w W' bs (j + 1) (j + 1) (z (j + 1))) := Lib.hid fun W h => Rwl.get h
        have HX := Lib.hid (lastOf_step (z := z) (show 1 ≤ j + 1 by omega) hw)
        have HZ1 : Hid (∀ W, Cha (fun _ => False) w W → W.cell? ⟨b, o + (j + 1), none⟩ = some (.int .u64 (z (j + 1)))) := Lib.hid fun W c => HZ.out W (j + 1) c hw
        have hw2 : (j : Int) + 1 < (len : Int) := by omega
        clear hz1
        generalize z (j + 1) = zj at *
        go_wp2_with (first
          | (go_at_call 11; ((with_reducible refine (D1.out).mono ?_); rintro e w2 ⟨rfl, h⟩; have D2 := Lib.hid (DL.out _ h); clear h))
          | (go_at_call 17; ((with_reducible refine (D2.out).mono ?_); rintro e w3 ⟨rfl, h⟩; have D3 := Lib.hid (DS.out _ h); have y3 := HZ1.out _ h.cha; clear h))
          | (go_at_call 19; ((with_reducible refine (D3.out).mono ?_); rintro e w4 ⟨rfl, h⟩; have D4 := Lib.hid (DG.out _ h); clear h))
          | (go_at_call 21; ((with_reducible refine (D4.out).mono ?_); rintro e w5 ⟨rfl, h⟩; have y5 := HZ1.out _ h.cha; have H6 := Lib.hid h; clear h)))
        go_roundw
        case rel => exact ⟨j + 2, by omega, by omega, by congr 1, by rw [HX.out]; exact H6.out⟩
        case measure => simp [intOf]; omega
      · have hw2 : ¬ ((j : Int) + 1 < (len : Int)) := by omega
        have HX := Lib.hid (lastOf_stay (z := z) (show len ≤ j + 1 by omega))
        go_wp2_with (first
          | (go_at_call 11; ((with_reducible refine (D1.out).mono ?_); rintro e w2 ⟨rfl, h⟩; have D2 := Lib.hid (DL.out _ h); clear h))
          | (go_at_call 17; ((with_reducible refine (D2.out).mono ?_); rintro e w3 ⟨rfl, h⟩; have H6 := Lib.hid h; clear h)))
        go_roundw
        case rel => exact ⟨j + 2, by omega, by omega, by congr 1, by rw [HX.out]; exact H6.out⟩
        case measure => simp [intOf]; omega
    · obtain rfl : k = n1 + 1 := by omega
      rw [Nat.add_sub_cancel] at hL
      have HL := Lib.hid hL
      clear hL
      obtain ⟨M, hM⟩ : ∃ M, M = min (n1 + 1) len := ⟨_, rfl⟩
      have m1 : min ((n1 : Int) + 1) (len : Int) = (M : Int) := by omega
      have m2 : (if (len : Int) < (n1 : Int) + 1 then (len : Int) else (n1 : Int) + 1) = (M : Int) := by split <;> omega
      by_cases hc : 2 ≤ M
      · have hx : lastOf z len (n1 + 1) = z (M - 1) := by unfold lastOf; rw [← hM, if_pos hc]
        rw [hx] at HL
        obtain ⟨l, rfl⟩ : ∃ l, M = l + 1 := ⟨M - 1, by omega⟩
        rw [Nat.add_sub_cancel] at HL
        obtain rfl := HS.out (by omega)
        have y3 := HZ.out _ l HL.out.cha (by omega)
        have q1 : 1 ≤ (l : Int) := by omega
        have q2 : (l : Int) < (len : Int) := by omega
        have q3 : (((l + 1 : Nat) : Int)) - 1 = (l : Int) := by omega
        have HM := Lib.hid hM
        clear hM hx hc
        generalize z l = want at *
        go_wp2
        go_loopw [12] (fun i wr2 => ∃ j : Nat, j ≤ n1 ∧ i = .int .i64 (j : Int) ∧ Rwl w wr2 bs j j want) (fun i _ => (intOf i).toNat)
        case atStart => exact ⟨n1, by omega, rfl, HL.out⟩
        case round =>
          clear HL
          obtain ⟨j, hj, rfl, hL⟩ := hrel
          by_cases hlt : 1 ≤ j
          · obtain ⟨i, rfl⟩ : ∃ i, j = i + 1 := ⟨j - 1, by omega⟩
            have D1 := Lib.hid (Rwl.load hL)
            have D2' : Hid (∀ W, Rwl w W bs (i + 1) (i + 1) want → Calls Try.prog 13 #[.pointer (some ⟨bs, 0, none⟩)] W fun e W' => e = .returned (.int .i64 0) ∧ Rwl w W' bs i i want) := Lib.hid fun W h => Rwl.pop h
            have e0 : ((want : Int) == (want : Int)) = true := by simp
            have e1 : (want != want) = false := by simp
            have e2 : 1 ≤ (i : Int) + 1 := by omega
            clear hL
            go_wp2_with (first
              | (go_at_call 23; ((with_reducible refine (D1.out).mono ?_); rintro e w2 ⟨rfl, h⟩; have D2 := Lib.hid (D2'.out _ h); clear h))
              | (go_at_call 13; ((with_reducible refine (D2.out).mono ?_); rintro e w3 ⟨rfl, h⟩; have H6 := Lib.hid h; clear h)))
            go_roundw
            case rel => exact ⟨i, by omega, by congr 1, H6.out⟩
            case measure => simp [intOf]
          · obtain rfl : j = 0 := by omega
            have D1 : Hid (Calls Try.prog 21 #[.pointer (some ⟨bs, 0, none⟩), .int .i64 0, .int .i64 1] wr fun e W' => e = .returned (.tuple #[.int .u64 want, .int .i64 0]) ∧ Rwl w W' bs 0 0 want) := Lib.hid (Rwl.get hL)
            clear hL
            go_wp2_with (go_at_call 21; ((with_reducible refine (D1.out).mono ?_); rintro e w2 ⟨rfl, h⟩; have H6 := Lib.hid h.cha; clear h))
            go_ret
            exact ⟨rfl, H6.out⟩
      · have hx : lastOf z len (n1 + 1) = 9 := by unfold lastOf; rw [← hM, if_neg hc]
        rw [hx] at HL
        have q1 : ¬ (1 ≤ (M : Int) - 1) := by omega
        have HM := Lib.hid hM
        clear hM hx hc
        go_wp2
        go_loopw [12] (fun i wr2 => ∃ j : Nat, j ≤ n1 ∧ i = .int .i64 (j : Int) ∧ Rwl w wr2 bs j j 9) (fun i _ => (intOf i).toNat)
        case atStart => exact ⟨n1, by omega, rfl, HL.out⟩
        case round =>
          clear HL
          obtain ⟨j, hj, rfl, hL⟩ := hrel
          by_cases hlt : 1 ≤ j
          · obtain ⟨i, rfl⟩ : ∃ i, j = i + 1 := ⟨j - 1, by omega⟩
            have D1 := Lib.hid (Rwl.load hL)
            have D2' : Hid (∀ W, Rwl w W bs (i + 1) (i + 1) 9 → Calls Try.prog 13 #[.pointer (some ⟨bs, 0, none⟩)] W fun e W' => e = .returned (.int .i64 0) ∧ Rwl w W' bs i i 9) := Lib.hid fun W h => Rwl.pop h
            have e0 : ((9 : Int) == (9 : Int)) = true := by simp
            have e1 : (9 != 9) = false := by simp
            have e2 : 1 ≤ (i : Int) + 1 := by omega
            clear hL
            go_wp2_with (first
              | (go_at_call 23; ((with_reducible refine (D1.out).mono ?_); rintro e w2 ⟨rfl, h⟩; have D2 := Lib.hid (D2'.out _ h); clear h))
              | (go_at_call 13; ((with_reducible refine (D2.out).mono ?_); rintro e w3 ⟨rfl, h⟩; have H6 := Lib.hid h; clear h)))
            go_roundw
            case rel => exact ⟨i, by omega, by congr 1, H6.out⟩
            case measure => simp [intOf]
          · obtain rfl : j = 0 := by omega
            have D1 : Hid (Calls Try.prog 21 #[.pointer (some ⟨bs, 0, none⟩), .int .i64 0, .int .i64 1] wr fun e W' => e = .returned (.tuple #[.int .u64 9, .int .i64 0]) ∧ Rwl w W' bs 0 0 9) := Lib.hid (Rwl.get hL)
            clear hL
            go_wp2_with (go_at_call 21; ((with_reducible refine (D1.out).mono ?_); rintro e w2 ⟨rfl, h⟩; have H6 := Lib.hid h.cha; clear h))
            go_ret
            exact ⟨rfl, H6.out⟩
end Go.Proofs.Yteienclklmjhdaa
