/- ChansClosed: the walk. -/
import Derived.Test.YtnhjkmkocpjkmaaM
namespace Go.Proofs.Ytnhjkmkocpjkmaa
open Go.ChangeShapes Go.WideShapes Go.ChangeAt Go.RowKit

/-- So many sent; so many received then. -/
def sent (n : Nat) : Nat → St
  | 0 => St.new n
  | j + 1 => ((sent n j).send (j : Int) ((j : Int) + 5) true).2
def rcd (s : St) : Nat → St
  | 0 => s
  | j + 1 => ((rcd s j).recv 0 true).2
theorem sent_size (n : Nat) : ∀ j, (sent n j).size ≤ j
  | 0 => by simp [sent, St.new, St.size]
  | j + 1 => by have := St.size_send (sent n j) j (j + 5) true; have := sent_size n j; show (St.send _ _ _ _).2.size ≤ _; omega
theorem rcd_size (s : St) : ∀ j, (rcd s j).size ≤ s.size + j
  | 0 => by simp [rcd]
  | j + 1 => by have := St.size_recv (rcd s j) 0 true; have := rcd_size s j; show (St.recv _ _ _).2.size ≤ _; omega
/-- n, n + 1, .. -/
def upto (n : Nat) (m : Nat) : List Int := (List.range m).map fun (i : Nat) => (n : Int) + (i : Int)
theorem cf1 : ∀ n, n < 10 → ∀ k, k < 20 → (sent n k).close.1 = (upto n (k - n), true) := by decide +kernel
theorem cf2 : ∀ n, n < 10 → ∀ k, k < 20 → ∀ j, j < min k n → ((rcd (sent n k).close.2 j).recv 0 true).1 = ⟨1, 0, (j : Int) + 5⟩ := by decide +kernel
theorem cf3 : ∀ n, n < 10 → ∀ k, k < 20 → (rcd (sent n k).close.2 (min k n)).close = (([], false), rcd (sent n k).close.2 (min k n)) := by decide +kernel
theorem cf4 : ∀ n, n < 10 → ∀ k, k < 20 → (rcd (sent n k).close.2 (min k n)).recv 0 true = (⟨4, 0, 0⟩, rcd (sent n k).close.2 (min k n)) := by decide +kernel
theorem cf5 : ∀ n, n < 10 → ∀ k, k < 20 → (rcd (sent n k).close.2 (min k n)).shut = true ∧ (rcd (sent n k).close.2 (min k n)).ready true = true ∧ (rcd (sent n k).close.2 (min k n)).ready false = true := by decide +kernel
theorem upto_get (n m i : Nat) (h : i < m) : (upto n m).getD i 0 = (n : Int) + i := by simp [upto, List.getD, h]
theorem upto_len (n m : Nat) : (upto n m).length = m := by simp [upto]
set_option maxRecDepth 100000 in
set_option maxHeartbeats 4000000 in
theorem closed_walk (p q : Nat) (hp : p ≤ 255) (hq : q ≤ 255) (w : World) : Calls Try.prog 7 #[.int .u8 (p : Int), .int .u8 (q : Int)] w fun e w' => e = .returned (.bool true) ∧ Cha (fun _ => False) w w' := by
  obtain ⟨n, hn⟩ : ∃ n, n = p % 10 := ⟨_, rfl⟩
  obtain ⟨k, hk⟩ : ∃ k, k = q % 20 := ⟨_, rfl⟩
  have hn9 : n < 10 := by omega
  have hk9 : k < 20 := by omega
  have e0 : (p : Int) % 10 = (n : Int) := by omega
  have e1 : (q : Int) % 20 = (k : Int) := by omega
  have f1 := cf1 n hn9 k hk9
  have F2 := Lib.hid (cf2 n hn9 k hk9)
  have F3 := Lib.hid (cf3 n hn9 k hk9)
  have F4 := Lib.hid (cf4 n hn9 k hk9)
  have F5 := Lib.hid (cf5 n hn9 k hk9)
  obtain ⟨m, hm⟩ : ∃ m, m = k - n := ⟨_, rfl⟩
  rw [← hm] at f1
  have C0 : Calls Try.prog 9 #[.int .i64 (n : Int)] w _ := live_new n (by omega) (Cha.refl _ w)
  have C0 := Lib.hid C0
  have AW := Lib.hid awake_any
  have S1 : Hid (∀ bc W (j : Nat), j < k → Live w W bc (sent n j) → ∃ r : Res, Calls Try.prog 13 #[.pointer (some ⟨bc, 0, none⟩), .int .i64 (j : Int), .int .u64 ((j : Int) + 5), .bool true] W fun e w' => e = .returned (.agg #[.int .i64 r.what, .int .i64 r.who, .int .u64 r.val]) ∧ Live w w' bc (sent n (j + 1))) := Lib.hid fun bc W j hj h => ⟨_, live_send h j (j + 5) true (by have := sent_size n j; omega)⟩
  have K1 : Hid (∀ bc W, Live w W bc (sent n k) → Calls Try.prog 18 #[.pointer (some ⟨bc, 0, none⟩)] W fun e w' => ∃ a c, e = .returned (.tuple #[.slice a m c, .bool true]) ∧ Lies intE w' (.slice a m c) (upto n m) ∧ Live w w' bc (rcd (sent n k).close.2 0)) := Lib.hid fun bc W h => by
    have := live_close h (by have := sent_size n k; omega)
    rw [f1] at this
    refine this.mono fun e w' ⟨v, a, b, c⟩ => ?_
    obtain ⟨a', c', e', _, _⟩ := b.form
    rw [upto_len] at e'
    rw [e'] at a b
    exact ⟨a', c', a, b, c⟩
  obtain ⟨t, ht⟩ : ∃ t, t = min k n := ⟨_, rfl⟩
  rw [← ht] at F2 F3 F4 F5
  obtain ⟨S, hS⟩ : ∃ S, S = (sent n k).close.2 := ⟨_, rfl⟩
  rw [← hS] at F2 F3 F4 F5 K1
  have hsz : ∀ j, j ≤ t → (rcd S j).size < 8796093022208 := fun j hj => by
    have h1 := rcd_size S j
    have h2 := St.size_close (sent n k)
    have h3 := sent_size n k
    rw [← hS] at h2
    omega
  have R1 : Hid (∀ bc W (j : Nat), j < t → Live w W bc (rcd S j) → Calls Try.prog 15 #[.pointer (some ⟨bc, 0, none⟩), .int .i64 0, .bool true] W fun e w' => e = .returned (.agg #[.int .i64 1, .int .i64 0, .int .u64 ((j : Int) + 5)]) ∧ Live w w' bc (rcd S (j + 1))) := Lib.hid fun bc W j hj h => by
    have := live_recv h 0 true (hsz j (by omega))
    rw [F2.out j hj] at this
    exact this
  have K2 : Hid (∀ bc W, Live w W bc (rcd S t) → Calls Try.prog 18 #[.pointer (some ⟨bc, 0, none⟩)] W fun e w' => ∃ v, e = .returned (.tuple #[v, .bool false]) ∧ Live w w' bc (rcd S t)) := Lib.hid fun bc W h => by
    have := live_close h (hsz t (Nat.le_refl _))
    rw [F3.out] at this
    exact this.mono fun e w' ⟨v, a, _, c⟩ => ⟨v, a, c⟩
  have R2 : Hid (∀ bc W, Live w W bc (rcd S t) → Calls Try.prog 15 #[.pointer (some ⟨bc, 0, none⟩), .int .i64 0, .bool true] W fun e w' => e = .returned (.agg #[.int .i64 4, .int .i64 0, .int .u64 0]) ∧ Live w w' bc (rcd S t)) := Lib.hid fun bc W h => by
    have := live_recv h 0 true (hsz t (Nat.le_refl _))
    rw [F4.out] at this
    exact this
  have Q1 : Hid (∀ bc W, Live w W bc (rcd S t) → Calls Try.prog 27 #[.pointer (some ⟨bc, 0, none⟩)] W fun e w' => e = .returned (.bool true) ∧ W = w') := Lib.hid fun bc W h => by
    have := live_closed h
    rw [F5.out.1] at this
    exact this
  have Y1 : Hid (∀ bc W, Live w W bc (rcd S t) → Calls Try.prog 28 #[.pointer (some ⟨bc, 0, none⟩), .bool true] W fun e w' => e = .returned (.bool true) ∧ Live w w' bc (rcd S t)) := Lib.hid fun bc W h => by
    have := live_ready h true
    rw [F5.out.2.1] at this
    exact this
  have Y2 : Hid (∀ bc W, Live w W bc (rcd S t) → Calls Try.prog 28 #[.pointer (some ⟨bc, 0, none⟩), .bool false] W fun e w' => e = .returned (.bool true) ∧ Live w w' bc (rcd S t)) := Lib.hid fun bc W h => by
    have := live_ready h false
    rw [F5.out.2.2] at this
    exact this
  have mx : (if (k : Int) - (n : Int) < 0 then 0 else (k : Int) - (n : Int)) = (m : Int) := by split <;> omega
  have mn1 : (if (n : Int) < (k : Int) then (n : Int) else (k : Int)) = (t : Int) := by split <;> omega
  have mn2 : (if (k : Int) < (n : Int) then (k : Int) else (n : Int)) = (t : Int) := by split <;> omega
  have mn3 : (if n < k then (n : Int) else (k : Int)) = (t : Int) := by split <;> omega
  have hm20 : m < 20 := by omega
  have ht20 : t < 20 := by omega
  clear hn hk f1 hS hsz ht F2 F3 F4 F5 hm
  go_enter Try.func7, Try.ntmps7
  go_wp2_with (first
    | (go_at_call 9; ((with_reducible refine (C0.out).mono ?_); rintro e w1 ⟨rfl, h⟩; have H1 := Lib.hid h; clear h))
    | (go_at_call 11; ((with_reducible refine (AW.out _).mono ?_); rintro e w2 ⟨rfl, h⟩; have H2 := Lib.hid (H1.out.same h); clear h)))
  generalize w.heap.size = bc at *
  go_loopw [9, 39] (fun _ i wr => ∃ j : Nat, j ≤ k ∧ i = .int .i64 (j : Int) ∧ Live w wr bc (sent n j)) (fun _ i _ => k - (intOf i).toNat)
  case atStart => exact ⟨0, Nat.zero_le _, rfl, H2.out⟩
  case round =>
    clear H2 C0
    obtain ⟨j, hj, rfl, hL⟩ := hrel
    by_cases hlt : j < k
    · obtain ⟨r, hD⟩ := S1.out bc wr j hlt hL
      have D := Lib.hid hD
      have h5 : IntKind.u64.wrap ((j : Int) + 5) = (j : Int) + 5 := IntWalk.u64_in _ (by omega)
      clear hD hL
      go_wp2_with (go_at_call 13; ((with_reducible refine (D.out).mono ?_); rintro e w3 ⟨rfl, h⟩; have H3 := Lib.hid h; clear h))
      go_roundw
      case rel => exact ⟨j + 1, by omega, by go_num, H3.out⟩
      case measure => simp [intOf]; omega
    · obtain rfl : j = k := by omega
      have D := Lib.hid (K1.out bc wr hL)
      clear hL S1 K1
      go_wp2_with (go_at_call 18; ((with_reducible refine (D.out).mono ?_); rintro e w3 ⟨a, c, rfl, h1, h⟩; have H3 := Lib.hid h; have L3 := Lib.hid (int_at h1); clear h h1))
      clear mx
      go_loopw [12, 13, 67] (fun _ _ i wr => ∃ j : Nat, j ≤ m ∧ i = .int .i64 (j : Int) ∧ wr = w3) (fun _ _ i _ => m - (intOf i).toNat)
      case atStart => exact ⟨0, Nat.zero_le _, rfl, rfl⟩
      case round =>
        obtain ⟨i, hi, rfl, rfl⟩ := hrel
        by_cases hlt : i < m
        · obtain ⟨g, o, rfl, hz⟩ := L3.out (by rw [upto_len]; omega)
          have z0 := hz _ (Cha.refl _ _) i (by rw [upto_len]; exact hlt)
          rw [upto_get n m i hlt] at z0
          have h5 : IntKind.i64.wrap ((n : Int) + (i : Int)) = (n : Int) + (i : Int) := IntWalk.i64_in _ (by omega)
          clear hz
          go_wp2
          go_roundw
          case rel => exact ⟨i + 1, by omega, by go_num, trivial⟩
          case measure => simp [intOf]; omega
        · obtain rfl : i = m := by omega
          clear L3
          go_wp2
          go_loopw [14, 81] (fun _ i wr => ∃ j : Nat, j ≤ t ∧ i = .int .i64 (j : Int) ∧ Live w wr bc (rcd S j)) (fun _ i _ => t - (intOf i).toNat)
          case atStart => exact ⟨0, Nat.zero_le _, rfl, H3.out⟩
          case round =>
            clear H3
            obtain ⟨x, hx, rfl, hL⟩ := hrel
            by_cases hlt2 : x < t
            · have D := Lib.hid (R1.out bc _ x hlt2 hL)
              have h5 : IntKind.u64.wrap ((x : Int) + 5) = (x : Int) + 5 := IntWalk.u64_in _ (by omega)
              clear hL
              go_wp2_with (go_at_call 15; ((with_reducible refine (D.out).mono ?_); rintro e w4 ⟨rfl, h⟩; have H4 := Lib.hid h; clear h))
              go_roundw
              case rel => exact ⟨x + 1, by omega, by go_num, H4.out⟩
              case measure => simp [intOf]; omega
            · obtain rfl : x = t := by omega
              have D := Lib.hid (K2.out bc _ hL)
              clear hL R1 mn1 mn2 mn3
              go_wp2_with (first
                | (go_at_call 18; ((with_reducible refine (D.out).mono ?_); rintro e w4 ⟨v4, rfl, h⟩; have H4 := Lib.hid h; clear h))
                | (go_at_call 15; ((with_reducible refine (R2.out _ _ H4.out).mono ?_); rintro e w5 ⟨rfl, h⟩; have H5 := Lib.hid h; clear h))
                | (go_at_call 27; ((with_reducible refine (Q1.out _ _ H5.out).mono ?_); rintro e w6 ⟨rfl, rfl⟩))
                | (go_at_call 28; ((with_reducible refine (Y1.out _ _ H5.out).mono ?_); rintro e w7 ⟨rfl, h⟩; have H7 := Lib.hid h; clear h))
                | (go_at_call 28; ((with_reducible refine (Y2.out _ _ H7.out).mono ?_); rintro e w8 ⟨rfl, h⟩; have H8 := Lib.hid h.cha; clear h)))
              go_ret
              exact ⟨rfl, H8.out⟩
end Go.Proofs.Ytnhjkmkocpjkmaa
