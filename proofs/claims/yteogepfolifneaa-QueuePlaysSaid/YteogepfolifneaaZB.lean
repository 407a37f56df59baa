/- Both queues beside one another; pairs of calls. -/
import Derived.Test.YteogepfolifneaaZA
import Derived.Test.YteogepfolifneaaYA
namespace Go.Proofs.Yteogepfolifneaa
open Go.ChangeShapes Go.WideShapes Go.ChangeAt Go.RowKit
variable {w0 w w' W : World} {F U : Nat → Prop} {bq bp br bl bn on cn gb k : Nat} {s t : St} {cs : Array Value}

/-- The program's queues at s, the document's at t, k processors. -/
structure Two (w0 w : World) (F U : Nat → Prop) (bq bp br bl bn on cn k : Nat) (s t : St) : Prop where
  q : ∃ z v, Qs w F bq bp z s.1 v s.2
  r : ∃ lv va, Rq w U br bl bn on cn lv va t.1 t.2
  a1 : ¬ F br
  a2 : ¬ F bl
  a3 : ¬ F bn
  a4 : ∀ i, F i → ¬ U i
  c : Cha (fun _ => False) w0 w
  n1 : ∀ i, F i → w0.heap.size ≤ i
  n2 : ∀ i, U i → w0.heap.size ≤ i
  n3 : w0.heap.size ≤ br ∧ w0.heap.size ≤ bl ∧ w0.heap.size ≤ bn
  ls : s.1.length = k
  lt : t.1.length = k
/-- A block beside both. -/
structure Box (w : World) (F U : Nat → Prop) (br bl bn gb : Nat) (cs : Array Value) : Prop where
  row : w.heap[gb]? = some (.cells cs 32 (0, 0))
  b1 : ¬ F gb
  b2 : ¬ U gb
  b3 : gb ≠ br ∧ gb ≠ bl ∧ gb ≠ bn
def Both (w0 w : World) (bq bp br bl bn on cn k gb : Nat) (cs : Array Value) (s t : St) : Prop := ∃ F U, Two w0 w F U bq bp br bl bn on cn k s t ∧ Box w F U br bl bn gb cs
theorem Both.same (h : Both w0 w bq bp br bl bn on cn k gb cs s t) (c : Cha (fun _ => False) w w') : Both w0 w' bq bp br bl bn on cn k gb cs s t := by
  obtain ⟨F, U, ⟨⟨z, v, q⟩, ⟨lv, va, r⟩, a1, a2, a3, a4, c0, n1, n2, n3, ls, lt⟩, b⟩ := h
  exact ⟨F, U, ⟨⟨z, v, q.same c⟩, ⟨lv, va, r.same c⟩, a1, a2, a3, a4, c0.trans c, n1, n2, n3, ls, lt⟩, ⟨(c.old _ (Array.getElem?_eq_some_iff.1 b.row).1 (fun f => f)).trans b.row, b.b1, b.b2, b.b3⟩⟩
theorem Both.cell (h : Both w0 w bq bp br bl bn on cn k gb cs s t) (i : Nat) : w.cell? ⟨gb, i, none⟩ = cs[i]? := by
  obtain ⟨F, U, _, b⟩ := h
  exact cell_of_row w gb i cs 32 (0, 0) b.row
/-- Behind a call to the program's. -/
theorem Two.left (h : Two w0 w F U bq bp br bl bn on cn k s t) (b : Box w F U br bl bn gb cs) {s' : St} (hl : s'.1.length = k) (hk : Left w w' F bq bp s'.1 s'.2) : Both w0 w' bq bp br bl bn on cn k gb cs s' t := by
  obtain ⟨⟨z, v, q⟩, ⟨lv, va, r⟩, a1, a2, a3, a4, c0, n1, n2, n3, ls, lt⟩ := h
  obtain ⟨F', z', v', q', c, m1, m2⟩ := hk
  have hr := r.lt
  have hb := (Array.getElem?_eq_some_iff.1 b.row).1
  refine ⟨F', U, ⟨⟨z', v', q'⟩, ⟨lv, va, r.cha c a1 a2 a3 (fun i hu hf => a4 i hf hu)⟩, fun e => ?_, fun e => ?_, fun e => ?_, fun i hi hu => ?_, c0.over c (fun i e => .inr (n1 i e)), fun i hi => ?_, n2, n3, hl, lt⟩, ⟨(c.old _ hb b.b1).trans b.row, fun e => ?_, b.b2, b.b3⟩⟩
  · rcases m2 _ e with e | e
    · exact a1 e
    · omega
  · rcases m2 _ e with e | e
    · exact a2 e
    · omega
  · rcases m2 _ e with e | e
    · exact a3 e
    · omega
  · rcases m2 _ hi with e | e
    · exact a4 i e hu
    · have := r.old i hu; omega
  · rcases m2 _ hi with e | e
    · exact n1 i e
    · exact Nat.le_trans c0.size e
  · rcases m2 _ e with e | e
    · exact b.b1 e
    · omega
/-- Behind a call to the document's. -/
theorem Two.right (h : Two w0 w F U bq bp br bl bn on cn k s t) (b : Box w F U br bl bn gb cs) {t' : St} (hl : t'.1.length = k) (hk : RLeft w w' U br bl bn on cn t'.1 t'.2) : Both w0 w' bq bp br bl bn on cn k gb cs s t' := by
  obtain ⟨⟨z, v, q⟩, ⟨lv, va, r⟩, a1, a2, a3, a4, c0, n1, n2, n3, ls, lt⟩ := h
  obtain ⟨U', lv', va', r', c, m1, m2⟩ := hk
  have hb := (Array.getElem?_eq_some_iff.1 b.row).1
  have hF : ∀ i, F i → ¬ (i = br ∨ i = bl ∨ i = bn) := fun i hi e => by
    rcases e with rfl | rfl | rfl
    · exact a1 hi
    · exact a2 hi
    · exact a3 hi
  refine ⟨F, U', ⟨⟨z, v, q.cha c hF⟩, ⟨lv', va', r'⟩, a1, a2, a3, fun i hi hu => ?_, c0.over c (fun i e => .inr (by rcases e with rfl | rfl | rfl <;> omega)), n1, fun i hi => ?_, n3, ls, hl⟩, ⟨(c.old _ hb (fun e => by have := b.b3; omega)).trans b.row, b.b1, fun e => ?_, b.b3⟩⟩
  · rcases m2 _ hu with e | e
    · exact a4 i hi e
    · have := q.old i hi; omega
  · rcases m2 _ hi with e | e
    · exact n2 i e
    · exact Nat.le_trans c0.size e
  · rcases m2 _ e with e | e
    · exact b.b2 e
    · omega

/-- The calls, whatever their arguments. -/
def putT (s : St) (p g : Int) : Int × St := if 0 ≤ p ∧ p < s.1.length ∧ 0 ≤ g then (0, putP s p.toNat g) else (1, s)
def lastT (s : St) (g : Int) : Int × St := if 0 ≤ g then (0, (s.1, s.2 ++ [g])) else (1, s)
def getT (s : St) (p x : Int) : (Int × Bool) × St := if 0 ≤ p ∧ p < s.1.length then getP s p.toNat x else ((0, false), s)
def waitT (s : St) (p : Int) : Int × Int := if 0 ≤ p ∧ p < s.1.length then ((cnt (s.1.getD p.toNat (-1, [])) : Nat), (s.2.length : Nat)) else (0, 0)
theorem putS_len1 (S : List Prc) (A : List Int) (p : Nat) (g : Int) : (putS S A p g).1.length = S.length := by
  unfold putS
  split
  · exact set_len ..
  · split <;> exact set_len ..
theorem putT_len (s : St) (p g : Int) : (putT s p g).2.1.length = s.1.length := by
  unfold putT
  split
  · exact putS_len1 ..
  · rfl
theorem lastT_len (s : St) (g : Int) : (lastT s g).2.1.length = s.1.length := by
  unfold lastT; split <;> rfl
theorem getT_len (s : St) (p x : Int) : (getT s p x).2.1.length = s.1.length := by
  unfold getT
  split
  · exact getS_len ..
  · rfl
theorem Good.putT {n : Nat} (h : Good n s.1 s.2) (p g : Int) : Good (n + 1) (putT s p g).2.1 (putT s p g).2.2 := by
  unfold Yteogepfolifneaa.putT
  split
  · exact h.put (by omega) (by omega)
  · exact h.more (by omega)
theorem Good.lastT {n : Nat} (h : Good n s.1 s.2) (g : Int) : Good (n + 1) (lastT s g).2.1 (lastT s g).2.2 := by
  unfold Yteogepfolifneaa.lastT
  split
  · exact h.last g
  · exact h.more (by omega)
theorem Good.getT {n : Nat} (h : Good n s.1 s.2) (p x : Int) : Good (n + 1) (getT s p x).2.1 (getT s p x).2.2 := by
  unfold Yteogepfolifneaa.getT
  split
  · exact (h.get (by omega) _).more (by omega)
  · exact h.more (by omega)
theorem to_nat {p : Int} {n : Nat} (h : 0 ≤ p ∧ p < n) : ∃ q : Nat, p = (q : Int) ∧ q < n ∧ p.toNat = q := ⟨p.toNat, by omega, by omega, rfl⟩

section
variable (h : Both w0 w bq bp br bl bn on cn k gb cs s t)
include h
theorem b15 (p g : Int) (hA : s.2.length + 5 ≤ 17592186044416) : Calls Try.prog 15 #[.pointer (some ⟨bq, 0, none⟩), .int .i64 p, .int .i64 g] w fun e w' => e = .returned (.int .i64 (putT s p g).1) ∧ Both w0 w' bq bp br bl bn on cn k gb cs (putT s p g).2 t := by
  have h0 := h
  obtain ⟨F, U, T, b⟩ := h0
  obtain ⟨z, v, q⟩ := T.q
  have hl := (putT_len s p g).trans T.ls
  by_cases hp : 0 ≤ p ∧ p < s.1.length ∧ 0 ≤ g
  · have e : putT s p g = (0, putP s p.toNat g) := if_pos hp
    obtain ⟨n, rfl, hn, hN⟩ := to_nat ⟨hp.1, hp.2.1⟩
    rw [e] at hl ⊢
    rw [hN] at hl ⊢
    exact (put_any n g q hn hp.2.2 hA).mono fun e w' ⟨a, c⟩ => ⟨a, T.left b hl c⟩
  · have e : putT s p g = (1, s) := if_neg hp
    rw [e]
    exact (put_bad p g q (by omega)).mono fun e w' ⟨a, c⟩ => ⟨a, c ▸ h⟩
theorem b16 (p g : Int) {n : Nat} (hg : Good n t.1 t.2) (hA : t.2.length + 5 ≤ 17592186044416) : Calls Try.prog 16 #[.pointer (some ⟨br, 0, none⟩), .int .i64 p, .int .i64 g] w fun e w' => e = .returned (.int .i64 (putT t p g).1) ∧ Both w0 w' bq bp br bl bn on cn k gb cs s (putT t p g).2 := by
  have h0 := h
  obtain ⟨F, U, T, b⟩ := h0
  obtain ⟨lv, va, r⟩ := T.r
  have hl := (putT_len t p g).trans T.lt
  by_cases hp : 0 ≤ p ∧ p < t.1.length ∧ 0 ≤ g
  · have e : putT t p g = (0, putP t p.toNat g) := if_pos hp
    obtain ⟨n, rfl, hn, hN⟩ := to_nat ⟨hp.1, hp.2.1⟩
    rw [e] at hl ⊢
    rw [hN] at hl ⊢
    exact (rput_any n g r hn hp.2.2 hg.nx hg.ln hA).mono fun e w' ⟨a, c⟩ => ⟨a, T.right b hl c⟩
  · have e : putT t p g = (1, t) := if_neg hp
    rw [e]
    exact (rput_bad p g r (by omega)).mono fun e w' ⟨a, c⟩ => ⟨a, c ▸ h⟩
theorem b17 (g : Int) (hA : s.2.length + 5 ≤ 17592186044416) : Calls Try.prog 17 #[.pointer (some ⟨bq, 0, none⟩), .int .i64 g] w fun e w' => e = .returned (.int .i64 (lastT s g).1) ∧ Both w0 w' bq bp br bl bn on cn k gb cs (lastT s g).2 t := by
  have h0 := h
  obtain ⟨F, U, T, b⟩ := h0
  obtain ⟨z, v, q⟩ := T.q
  have hl := (lastT_len s g).trans T.ls
  by_cases hp : 0 ≤ g
  · have e : lastT s g = (0, (s.1, s.2 ++ [g])) := if_pos hp
    rw [e] at hl ⊢
    exact (last_any g q hp hA).mono fun e w' ⟨a, c⟩ => ⟨a, T.left b hl c⟩
  · have e : lastT s g = (1, s) := if_neg hp
    rw [e]
    exact (last_bad g w (by omega)).mono fun e w' ⟨a, c⟩ => ⟨a, c ▸ h⟩
theorem b18 (g : Int) (hA : t.2.length + 5 ≤ 17592186044416) : Calls Try.prog 18 #[.pointer (some ⟨br, 0, none⟩), .int .i64 g] w fun e w' => e = .returned (.int .i64 (lastT t g).1) ∧ Both w0 w' bq bp br bl bn on cn k gb cs s (lastT t g).2 := by
  have h0 := h
  obtain ⟨F, U, T, b⟩ := h0
  obtain ⟨lv, va, r⟩ := T.r
  have hl := (lastT_len t g).trans T.lt
  by_cases hp : 0 ≤ g
  · have e : lastT t g = (0, (t.1, t.2 ++ [g])) := if_pos hp
    rw [e] at hl ⊢
    exact (rlast_any g r hp hA).mono fun e w' ⟨a, c⟩ => ⟨a, T.right b hl c⟩
  · have e : lastT t g = (1, t) := if_neg hp
    rw [e]
    exact (rlast_bad g w (by omega)).mono fun e w' ⟨a, c⟩ => ⟨a, c ▸ h⟩
theorem b19 (p x : Int) : Calls Try.prog 19 #[.pointer (some ⟨bq, 0, none⟩), .int .i64 p, .int .i64 x] w fun e w' => e = .returned (.tuple #[.int .i64 (getT s p x).1.1, .bool (getT s p x).1.2]) ∧ Both w0 w' bq bp br bl bn on cn k gb cs (getT s p x).2 t := by
  have h0 := h
  obtain ⟨F, U, T, b⟩ := h0
  obtain ⟨z, v, q⟩ := T.q
  have hl := (getT_len s p x).trans T.ls
  by_cases hp : 0 ≤ p ∧ p < s.1.length
  · have e : getT s p x = getP s p.toNat x := if_pos hp
    obtain ⟨n, rfl, hn, hN⟩ := to_nat hp
    rw [e] at hl ⊢
    rw [hN] at hl ⊢
    exact (get_any n x q hn).mono fun e w' ⟨a, c⟩ => ⟨a, T.left b hl c⟩
  · have e : getT s p x = ((0, false), s) := if_neg hp
    rw [e]
    exact (get_bad p x q (by omega)).mono fun e w' ⟨a, c⟩ => ⟨a, c ▸ h⟩
theorem b20 (p x : Int) {n : Nat} (hg : Good n t.1 t.2) (hA : t.2.length + 5 ≤ 17592186044416) : Calls Try.prog 20 #[.pointer (some ⟨br, 0, none⟩), .int .i64 p, .int .i64 x] w fun e w' => e = .returned (.tuple #[.int .i64 (getT t p x).1.1, .bool (getT t p x).1.2]) ∧ Both w0 w' bq bp br bl bn on cn k gb cs s (getT t p x).2 := by
  have h0 := h
  obtain ⟨F, U, T, b⟩ := h0
  obtain ⟨lv, va, r⟩ := T.r
  have hl := (getT_len t p x).trans T.lt
  by_cases hp : 0 ≤ p ∧ p < t.1.length
  · have e : getT t p x = getP t p.toNat x := if_pos hp
    obtain ⟨n, rfl, hn, hN⟩ := to_nat hp
    rw [e] at hl ⊢
    rw [hN] at hl ⊢
    have C : Calls Try.prog 20 #[.pointer (some ⟨br, 0, none⟩), .int .i64 (n : Int), .int .i64 x] w (RGot w U br bl bn on cn t.1 t.2 n (x % (t.1.length : Int)).toNat) := by
      have hpx := D_get hn
      obtain ⟨S, A⟩ := t
      dsimp only at *
      generalize S.getD n (-1, []) = u at *
      obtain ⟨y, L⟩ := u
      have hl := hg.ln n _ hpx
      by_cases hy : y = -1
      · subst hy
        cases L with
        | cons g l => exact rget_own n x _ r hpx (by simp only [List.length_cons] at hl; omega)
        | nil =>
          cases A with
          | cons g A => exact rget_all n x _ r hpx (by simp only [List.length_cons] at hA; omega)
          | nil =>
            by_cases hm : x.tmod (S.length : Int) < 0
            · exact rget_steal1 n x hm r hpx hg.nx hg.ln
            · exact rget_steal2 n x (by omega) r hpx hg.nx hg.ln
      · have := hg.nx n _ hpx
        exact rget_next n x _ r hpx hy (by dsimp only at this; omega)
    exact C.mono fun e w' ⟨a, c⟩ => ⟨a, T.right b hl c⟩
  · have e : getT t p x = ((0, false), t) := if_neg hp
    rw [e]
    exact (rget_bad p x r (by omega)).mono fun e w' ⟨a, c⟩ => ⟨a, c ▸ h⟩
theorem b21 (p : Int) : Calls Try.prog 21 #[.pointer (some ⟨bq, 0, none⟩), .int .i64 p] w fun e w' => e = .returned (.tuple #[.int .i64 (waitT s p).1, .int .i64 (waitT s p).2]) ∧ Both w0 w' bq bp br bl bn on cn k gb cs s t := by
  have h0 := h
  obtain ⟨F, U, T, b⟩ := h0
  obtain ⟨z, v, q⟩ := T.q
  by_cases hp : 0 ≤ p ∧ p < s.1.length
  · have e : waitT s p = (((cnt (s.1.getD p.toNat (-1, [])) : Nat) : Int), ((s.2.length : Nat) : Int)) := if_pos hp
    obtain ⟨n, rfl, hn, hN⟩ := to_nat hp
    rw [e, hN]
    exact (waiting_any n q hn).mono fun e w' ⟨a, m, c⟩ => ⟨a, c ▸ h.same ((Cha.refl _ w).drewN m)⟩
  · have e : waitT s p = (0, 0) := if_neg hp
    rw [e]
    exact (waiting_bad p q (by omega)).mono fun e w' ⟨a, c⟩ => ⟨a, c ▸ h⟩
theorem b22 (p : Int) {n : Nat} (hg : Good n t.1 t.2) : Calls Try.prog 22 #[.pointer (some ⟨br, 0, none⟩), .int .i64 p] w fun e w' => e = .returned (.tuple #[.int .i64 (waitT t p).1, .int .i64 (waitT t p).2]) ∧ Both w0 w' bq bp br bl bn on cn k gb cs s t := by
  have h0 := h
  obtain ⟨F, U, T, b⟩ := h0
  obtain ⟨lv, va, r⟩ := T.r
  by_cases hp : 0 ≤ p ∧ p < t.1.length
  · have e : waitT t p = (((cnt (t.1.getD p.toNat (-1, [])) : Nat) : Int), ((t.2.length : Nat) : Int)) := if_pos hp
    obtain ⟨n, rfl, hn, hN⟩ := to_nat hp
    rw [e, hN]
    exact (rwaiting_any n r hn hg.nx hg.ln).mono fun e w' ⟨a, m, c⟩ => ⟨a, c ▸ h.same ((Cha.refl _ w).drewN m)⟩
  · have e : waitT t p = (0, 0) := if_neg hp
    rw [e]
    exact (rwaiting_bad p r (by omega)).mono fun e w' ⟨a, c⟩ => ⟨a, c ▸ h⟩
end
end Go.Proofs.Yteogepfolifneaa
