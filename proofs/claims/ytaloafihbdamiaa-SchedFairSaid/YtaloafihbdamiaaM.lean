/- Queues that a law made; awake; QueueFixed and QueueHalf. -/
import Derived.Test.YtaloafihbdamiaaK
namespace Go.Proofs.Ytaloafihbdamiaa
open Go.ChangeShapes Go.WideShapes Go.ChangeAt Go.RowKit
variable {w0 w w' : World} {bq bp : Nat} {S : List Prc} {A : List Int}

/-- Queues that were made since w0. -/
def Live (w0 w : World) (bq bp : Nat) (s : List Prc × List Int) : Prop := ∃ F z v, Qs w F bq bp z s.1 v s.2 ∧ Cha (fun _ => False) w0 w ∧ ∀ i, F i → w0.heap.size ≤ i
abbrev St := List Prc × List Int
variable {s : St}
theorem Live.same (h : Live w0 w bq bp s) (c : Cha (fun _ => False) w w') : Live w0 w' bq bp s := by
  obtain ⟨F, z, v, q, k, n⟩ := h
  exact ⟨F, z, v, q.same c, k.trans c, n⟩
theorem Live.cha (h : Live w0 w bq bp s) : Cha (fun _ => False) w0 w := by obtain ⟨F, z, v, q, k, n⟩ := h; exact k
theorem live_is {s' : St} (h : Live w0 w bq bp s) (e : s = s') : Live w0 w bq bp s' := e ▸ h
theorem Live.left (h : Live w0 w bq bp s) {s' : St} (k : ∀ F z v, Qs w F bq bp z s.1 v s.2 → Left w w' F bq bp s'.1 s'.2) : Live w0 w' bq bp s' := by
  obtain ⟨F, z, v, q, c, n⟩ := h
  obtain ⟨F', z', v', q', c', s1, n1⟩ := k F z v q
  refine ⟨F', z', v', q', c.over c' (fun i hi => .inr (n i hi)), fun i hi => ?_⟩
  rcases n1 i hi with e | e
  · exact n i e
  · exact Nat.le_trans c.size e
def ini (n : Nat) : St := (List.replicate n (-1, []), [])
def putP (s : St) (p : Nat) (g : Int) : St := putS s.1 s.2 p g
def getP (s : St) (p : Nat) (x : Int) : (Int × Bool) × St := getS s.1 s.2 p (x % (s.1.length : Int)).toNat
theorem live_new (n : Nat) (hc : Cha (fun _ => False) w0 w) (h1 : 1 ≤ n) (h2 : n ≤ 8) : Calls Try.prog 24 #[.int .i64 (n : Int)] w fun e w' => e = .returned (.tuple #[.pointer (some ⟨w.heap.size + 1, 0, none⟩), .int .i64 0]) ∧ Live w0 w' (w.heap.size + 1) w.heap.size (ini n) :=
  (new_ok n w h1 h2).mono fun e w' ⟨a, q, c⟩ => ⟨a, _, _, _, q, hc.trans c, fun i hi => by have := hc.size; omega⟩
theorem live_put (h : Live w0 w bq bp s) (p : Nat) (g : Int) (hp : p < s.1.length) (hg : 0 ≤ g) (hA : s.2.length + 5 ≤ 17592186044416) :
    Calls Try.prog 36 #[.pointer (some ⟨bq, 0, none⟩), .int .i64 (p : Int), .int .i64 g] w fun e w' => e = .returned (.int .i64 0) ∧ Live w0 w' bq bp (putP s p g) := by
  obtain ⟨F, z, v, q, c, n⟩ := h
  exact (put_any p g q hp hg hA).mono fun e w' ⟨a, l⟩ => ⟨a, by
    obtain ⟨F', z', v', q', c', s1, n1⟩ := l
    refine ⟨F', z', v', q', c.over c' (fun i hi => .inr (n i hi)), fun i hi => ?_⟩
    rcases n1 i hi with e | e
    · exact n i e
    · exact Nat.le_trans c.size e⟩
theorem live_last (h : Live w0 w bq bp s) (g : Int) (hg : 0 ≤ g) (hA : s.2.length + 5 ≤ 17592186044416) :
    Calls Try.prog 42 #[.pointer (some ⟨bq, 0, none⟩), .int .i64 g] w fun e w' => e = .returned (.int .i64 0) ∧ Live w0 w' bq bp (s.1, s.2 ++ [g]) := by
  obtain ⟨F, z, v, q, c, n⟩ := h
  exact (last_any g q hg hA).mono fun e w' ⟨a, l⟩ => ⟨a, by
    obtain ⟨F', z', v', q', c', s1, n1⟩ := l
    refine ⟨F', z', v', q', c.over c' (fun i hi => .inr (n i hi)), fun i hi => ?_⟩
    rcases n1 i hi with e | e
    · exact n i e
    · exact Nat.le_trans c.size e⟩
theorem live_get (h : Live w0 w bq bp s) (p : Nat) (x : Int) (hp : p < s.1.length) :
    Calls Try.prog 39 #[.pointer (some ⟨bq, 0, none⟩), .int .i64 (p : Int), .int .i64 x] w fun e w' => e = .returned (.tuple #[.int .i64 (getP s p x).1.1, .bool (getP s p x).1.2]) ∧ Live w0 w' bq bp (getP s p x).2 := by
  obtain ⟨F, z, v, q, c, n⟩ := h
  exact (get_any p x q hp).mono fun e w' ⟨a, l⟩ => ⟨a, by
    obtain ⟨F', z', v', q', c', s1, n1⟩ := l
    refine ⟨F', z', v', q', c.over c' (fun i hi => .inr (n i hi)), fun i hi => ?_⟩
    rcases n1 i hi with e | e
    · exact n i e
    · exact Nat.le_trans c.size e⟩
theorem live_waiting (h : Live w0 w bq bp s) (p : Nat) (hp : p < s.1.length) : Calls Try.prog 37 #[.pointer (some ⟨bq, 0, none⟩), .int .i64 (p : Int)] w fun e w' => e = .returned (.tuple #[.int .i64 (cnt (s.1.getD p (-1, [])) : Nat), .int .i64 (s.2.length : Nat)]) ∧ Live w0 w' bq bp s := by
  obtain ⟨F, z, v, q, c, n⟩ := h
  exact (waiting_any p q hp).mono fun e w' ⟨a, m, e⟩ => ⟨a, by rw [e]; exact ⟨F, z, v, q.same ((Cha.refl _ w).drewN m), c.drewN m, n⟩⟩
theorem live_bad (h : Live w0 w bq bp s) (p g : Int) (hp : p < 0 ∨ (s.1.length : Int) ≤ p ∨ g < 0) :
    Calls Try.prog 36 #[.pointer (some ⟨bq, 0, none⟩), .int .i64 p, .int .i64 g] w fun e w' => e = .returned (.int .i64 1) ∧ w = w' := by
  obtain ⟨F, z, v, q, c, n⟩ := h
  exact put_bad p g q hp

/-- So many put onto processor p, from b on. -/
def puts (s : St) (p : Nat) (b : Int) : Nat → St
  | 0 => s
  | n + 1 => putP (puts s p b n) p (b + n)
theorem putS_len (S : List Prc) (A : List Int) (p : Nat) (g : Int) : (putS S A p g).1.length = S.length := by
  unfold putS
  split
  · exact set_len ..
  · split <;> exact set_len ..
theorem puts_len (s : St) (p : Nat) (b : Int) : ∀ n, (puts s p b n).1.length = s.1.length
  | 0 => rfl
  | n + 1 => (putS_len ..).trans (puts_len s p b n)
theorem putS_all (S : List Prc) (A : List Int) (p : Nat) (g : Int) : (putS S A p g).2.length ≤ A.length + 5 := by
  unfold putS
  split
  · simp
  · split
    · simp
    · simp only [List.length_append, List.length_take, List.length_singleton]; omega
theorem puts_all (s : St) (p : Nat) (b : Int) : ∀ n, (puts s p b n).2.length ≤ s.2.length + 5 * n
  | 0 => by show s.2.length ≤ _; omega
  | n + 1 => by
    have h1 := puts_all s p b n
    have h2 := putS_all (puts s p b n).1 (puts s p b n).2 p (b + n)
    show (putS _ _ _ _).2.length ≤ _
    omega
end Go.Proofs.Ytaloafihbdamiaa
