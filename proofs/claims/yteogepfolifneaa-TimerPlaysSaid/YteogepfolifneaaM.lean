/- Queues that a law made; awake; QueueFixed and QueueHalf. -/
import Derived.Test.YteogepfolifneaaK
namespace Go.Proofs.Yteogepfolifneaa
open Go.ChangeShapes Go.WideShapes Go.ChangeAt Go.RowKit
variable {w0 w w' : World} {bq bp : Nat} {S : List Prc} {A : List Int}

/-- Queues that were made since w0. -/
def Live (w0 w : World) (bq bp : Nat) (s : List Prc × List Int) : Prop := ∃ F z v, Qs w F bq bp z s.1 v s.2 ∧ Cha (fun _ => False) w0 w ∧ ∀ i, F i → w0.heap.size ≤ i
abbrev St := List Prc × List Int
variable {s : St}
theorem Live.same (h : Live w0 w bq bp s) (c : Cha (fun _ => False) w w') : Live w0 w' bq bp s := by
  obtain ⟨F, z, v, q, k, n⟩ := h
  exact ⟨F, z, v, q.same c, k.trans c, n⟩
theorem Live.cha (h : Live w0 w bq bp s) : Cha (fun _ => False) w0 w := by obtain ⟨F, z, v, q, k, n⟩ := h; exact k
theorem live_is {s' : St} (h : Live w0 w bq bp s) (e : s = s') : Live w0 w bq bp s' := e ▸ h
theorem Live.left (h : Live w0 w bq bp s) {s' : St} (k : ∀ F z v, Qs w F bq bp z s.1 v s.2 → Left w w' F bq bp s'.1 s'.2) : Live w0 w' bq bp s' := by
  obtain ⟨F, z, v, q, c, n⟩ := h
  obtain ⟨F', z', v', q', c', s1, n1⟩ := k F z v q
  refine ⟨F', z', v', q', c.over c' (fun i hi => .inr (n i hi)), fun i hi => ?_⟩
  rcases n1 i hi with e | e
  · exact n i e
  · exact Nat.le_trans c.size e
def ini (n : Nat) : St := (List.replicate n (-1, []), [])
def putP (s : St) (p : Nat) (g : Int) : St := putS s.1 s.2 p g
def getP (s : St) (p : Nat) (x : Int) : (Int × Bool) × St := getS s.1 s.2 p (x % (s.1.length : Int)).toNat
theorem live_new (n : Nat) (hc : Cha (fun _ => False) w0 w) (h1 : 1 ≤ n) (h2 : n ≤ 8) : Calls Try.prog 12 #[.int .i64 (n : Int)] w fun e w' => e = .returned (.tuple #[.pointer (some ⟨w.heap.size + 1, 0, none⟩), .int .i64 0]) ∧ Live w0 w' (w.heap.size + 1) w.heap.size (ini n) :=
  (new_ok n w h1 h2).mono fun e w' ⟨a, q, c⟩ => ⟨a, _, _, _, q, hc.trans c, fun i hi => by have := hc.size; omega⟩
theorem live_put (h : Live w0 w bq bp s) (p : Nat) (g : Int) (hp : p < s.1.length) (hg : 0 ≤ g) (hA : s.2.length + 5 ≤ 17592186044416) :
    Calls Try.prog 15 #[.pointer (some ⟨bq, 0, none⟩), .int .i64 (p : Int), .int .i64 g] w fun e w' => e = .returned (.int .i64 0) ∧ Live w0 w' bq bp (putP s p g) := by
  obtain ⟨F, z, v, q, c, n⟩ := h
  exact (put_any p g q hp hg hA).mono fun e w' ⟨a, l⟩ => ⟨a, by
    obtain ⟨F', z', v', q', c', s1, n1⟩ := l
    refine ⟨F', z', v', q', c.over c' (fun i hi => .inr (n i hi)), fun i hi => ?_⟩
    rcases n1 i hi with e | e
    · exact n i e
    · exact Nat.le_trans c.size e⟩
theorem live_last (h : Live w0 w bq bp s) (g : Int) (hg : 0 ≤ g) (hA : s.2.length + 5 ≤ 17592186044416) :
    Calls Try.prog 17 #[.pointer (some ⟨bq, 0, none⟩), .int .i64 g] w fun e w' => e = .returned (.int .i64 0) ∧ Live w0 w' bq bp (s.1, s.2 ++ [g]) := by
  obtain ⟨F, z, v, q, c, n⟩ := h
  exact (last_any g q hg hA).mono fun e w' ⟨a, l⟩ => ⟨a, by
    obtain ⟨F', z', v', q', c', s1, n1⟩ := l
    refine ⟨F', z', v', q', c.over c' (fun i hi => .inr (n i hi)), fun i hi => ?_⟩
    rcases n1 i hi with e | e
    · exact n i e
    · exact Nat.le_trans c.size e⟩
theorem live_get (h : Live w0 w bq bp s) (p : Nat) (x : Int) (hp : p < s.1.length) :
    Calls Try.prog 19 #[.pointer (some ⟨bq, 0, none⟩), .int .i64 (p : Int), .int .i64 x] w fun e w' => e = .returned (.tuple #[.int .i64 (getP s p x).1.1, .bool (getP s p x).1.2]) ∧ Live w0 w' bq bp (getP s p x).2 := by
  obtain ⟨F, z, v, q, c, n⟩ := h
  exact (get_any p x q hp).mono fun e w' ⟨a, l⟩ => ⟨a, by
    obtain ⟨F', z', v', q', c', s1, n1⟩ := l
    refine ⟨F', z', v', q', c.over c' (fun i hi => .inr (n i hi)), fun i hi => ?_⟩
    rcases n1 i hi with e | e
    · exact n i e
    · exact Nat.le_trans c.size e⟩
theorem live_waiting (h : Live w0 w bq bp s) (p : Nat) (hp : p < s.1.length) : Calls Try.prog 21 #[.pointer (some ⟨bq, 0, none⟩), .int .i64 (p : Int)] w fun e w' => e = .returned (.tuple #[.int .i64 (cnt (s.1.getD p (-1, [])) : Nat), .int .i64 (s.2.length : Nat)]) ∧ Live w0 w' bq bp s := by
  obtain ⟨F, z, v, q, c, n⟩ := h
  exact (waiting_any p q hp).mono fun e w' ⟨a, m, e⟩ => ⟨a, by rw [e]; exact ⟨F, z, v, q.same ((Cha.refl _ w).drewN m), c.drewN m, n⟩⟩
theorem live_bad (h : Live w0 w bq bp s) (p g : Int) (hp : p < 0 ∨ (s.1.length : Int) ≤ p ∨ g < 0) :
    Calls Try.prog 15 #[.pointer (some ⟨bq, 0, none⟩), .int .i64 p, .int .i64 g] w fun e w' => e = .returned (.int .i64 1) ∧ w = w' := by
  obtain ⟨F, z, v, q, c, n⟩ := h
  exact put_bad p g q hp

/-- So many put onto processor p, from b on. -/
def puts (s : St) (p : Nat) (b : Int) : Nat → St
  | 0 => s
  | n + 1 => putP (puts s p b n) p (b + n)
theorem putS_len (S : List Prc) (A : List Int) (p : Nat) (g : Int) : (putS S A p g).1.length = S.length := by
  unfold putS
  split
  · exact set_len ..
  · split <;> exact set_len ..
theorem puts_len (s : St) (p : Nat) (b : Int) : ∀ n, (puts s p b n).1.length = s.1.length
  | 0 => rfl
  | n + 1 => (putS_len ..).trans (puts_len s p b n)
theorem putS_all (S : List Prc) (A : List Int) (p : Nat) (g : Int) : (putS S A p g).2.length ≤ A.length + 5 := by
  unfold putS
  split
  · simp
  · split
    · simp
    · simp only [List.length_append, List.length_take, List.length_singleton]; omega
theorem puts_all (s : St) (p : Nat) (b : Int) : ∀ n, (puts s p b n).2.length ≤ s.2.length + 5 * n
  | 0 => by show s.2.length ≤ _; omega
  | n + 1 => by
    have h1 := puts_all s p b n
    have h2 := putS_all (puts s p b n).1 (puts s p b n).2 p (b + n)
    show (putS _ _ _ _).2.length ≤ _
    omega

set_option maxRecDepth 100000 in
theorem awake_any (w : World) : Calls Try.prog 14 #[] w fun e w' => e = .returned (.bool true) ∧ Cha (fun _ => False) w w' := by
  have C0 : Calls Try.prog 12 #[.int .i64 2] w _ := live_new 2 (Cha.refl _ w) (by omega) (by omega)
  have C0 := Lib.hid C0
  have e0 : puts (ini 2) 0 1 4 = ([(4, [1, 2, 3]), (-1, [])], []) := by decide +kernel
  have C1 : Hid (∀ bq bp W (j : Nat), j < 4 → Live w W bq bp (puts (ini 2) 0 1 j) → Calls Try.prog 15 #[.pointer (some ⟨bq, 0, none⟩), .int .i64 0, .int .i64 (1 + (j : Int))] W fun e w' => e = .returned (.int .i64 0) ∧ Live w w' bq bp (puts (ini 2) 0 1 (j + 1))) := Lib.hid fun bq bp W j hj h =>
    live_put h 0 _ (by rw [puts_len]; decide) (by omega) (by have : (puts (ini 2) 0 1 j).2.length ≤ 0 + 5 * j := puts_all (ini 2) 0 1 j; omega)
  have C2 : Hid (∀ bq bp W, Live w W bq bp (puts (ini 2) 0 1 4) → Calls Try.prog 19 #[.pointer (some ⟨bq, 0, none⟩), .int .i64 1, .int .i64 0] W fun e w' => e = .returned (.tuple #[.int .i64 1, .bool true]) ∧ Live w w' bq bp ([(4, [3]), (-1, [2])], [])) := Lib.hid fun bq bp W h => live_get (live_is h e0) 1 0 (by decide)
  have C3 : Hid (∀ bq bp W, Live w W bq bp ([(4, [3]), (-1, [2])], []) → Calls Try.prog 19 #[.pointer (some ⟨bq, 0, none⟩), .int .i64 1, .int .i64 0] W fun e w' => e = .returned (.tuple #[.int .i64 2, .bool true]) ∧ Live w w' bq bp ([(4, [3]), (-1, [])], [])) := Lib.hid fun bq bp W h => live_get h 1 0 (by decide)
  have C4 : Hid (∀ bq bp W, Live w W bq bp ([(4, [3]), (-1, [])], []) → Calls Try.prog 19 #[.pointer (some ⟨bq, 0, none⟩), .int .i64 0, .int .i64 0] W fun e w' => e = .returned (.tuple #[.int .i64 4, .bool true]) ∧ Live w w' bq bp ([(-1, [3]), (-1, [])], [])) := Lib.hid fun bq bp W h => live_get h 0 0 (by decide)
  go_enter Try.func14, Try.ntmps14
  go_wp2_with (go_at_call 12; ((with_reducible refine (C0.out).mono ?_); rintro e w1 ⟨rfl, h⟩; have H1 := Lib.hid h; clear h))
  generalize w.heap.size + 1 = bq at *
  generalize w.heap.size = bp at *
  go_loopw [3] (fun i wr => ∃ j : Nat, j ≤ 4 ∧ i = .int .i64 (1 + (j : Int)) ∧ Live w wr bq bp (puts (ini 2) 0 1 j)) (fun i _ => 5 - (intOf i).toNat)
  case atStart => exact ⟨0, by omega, rfl, H1.out⟩
  case round =>
    clear H1
    obtain ⟨j, hj, rfl, hL⟩ := hrel
    by_cases hlt : j < 4
    · have D := Lib.hid (C1.out bq bp wr j hlt hL)
      clear hL
      go_wp2_with (go_at_call 15; ((with_reducible refine (D.out).mono ?_); rintro e w2 ⟨rfl, h⟩; have H2 := Lib.hid h; clear h))
      go_roundw
      case rel => exact ⟨j + 1, by omega, by congr 1, H2.out⟩
      case measure => simp [intOf]; omega
    · obtain rfl : j = 4 := by omega
      have D := Lib.hid (C2.out bq bp wr hL)
      clear hL
      go_wp2_with (first
        | (go_at_call 19; ((with_reducible refine (D.out).mono ?_); rintro e w2 ⟨rfl, h⟩; have D3 := Lib.hid (C3.out _ _ _ h); clear h))
        | (go_at_call 19; ((with_reducible refine (D3.out).mono ?_); rintro e w3 ⟨rfl, h⟩; have D4 := Lib.hid (C4.out _ _ _ h); clear h))
        | (go_at_call 19; ((with_reducible refine (D4.out).mono ?_); rintro e w4 ⟨rfl, h⟩; have D5 := Lib.hid h.cha; clear h)))
      go_ret
      exact ⟨rfl, D5.out⟩
end Go.Proofs.Yteogepfolifneaa
