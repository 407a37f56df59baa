/- StackKeeps: a deep stack of frames of one size, plainly and by calls. -/
import Derived.Test.YteienclklmjhdaaS
import Derived.Test.YteienclklmjhdaaT
namespace Go.Proofs.Yteienclklmjhdaa
open Go.ChangeShapes Go.WideShapes Go.ChangeAt Go.RowKit

/-- What stands in the slot i of the frame k, when t frames have been stored into by reference. -/
def Gv (z : Nat → Int) (t k i : Nat) : Int := if i = 0 ∧ k < t then 1000 * ((k : Int) + 1) else IntKind.u64.wrap (z i + (k : Int))
def dd (q k i : Nat) : Nat := (k + 1) * q - 1 - i
theorem dd_inj {q k i m j : Nat} (hi : i + 1 < q) (hj : j + 1 < q) (h : dd q k i = dd q m j) : k = m ∧ i = j := by
  unfold dd at h
  have e1 : (k + 1) * q = k * q + q := Nat.succ_mul _ _
  have e2 : (m + 1) * q = m * q + q := Nat.succ_mul _ _
  rcases Nat.lt_trichotomy k m with c | c | c
  · have := Nat.mul_le_mul_right q (show k + 1 ≤ m from c); omega
  · subst c; exact ⟨rfl, by omega⟩
  · have := Nat.mul_le_mul_right q (show m + 1 ≤ k from c); omega
structure Kh (z : Nat → Int) (L m j t : Nat) (s : St) : Prop where
  rp : Rp (L + 1) (m + 1) s
  ct : ∀ k i, (k < m ∧ i < L ∨ k = m ∧ i < j) → s.ct (dd (L + 2) k i) = .num (Gv z t k i)
structure Kq (z : Nat → Int) (L m t : Nat) (s : St) : Prop where
  rp : Rp (L + 1) m s
  ct : ∀ k i, k < m → i < L → s.ct (dd (L + 2) k i) = .num (Gv z t k i)
variable {z : Nat → Int} {L m j t : Nat} {s : St}
theorem Rp.put {n : Nat} (h : Rp n m s) (e : Nat) (x : Wd) : Rp n m (s.put e x) := ⟨h.fs, h.wds⟩
theorem Rp.at0 {n : Nat} (h : Rp n (m + 1) s) {i : Nat} (hi : i < n) : find s.fs 0 (i : Int) = some (dd (n + 1) m i) := by
  rw [h.fs]
  exact find_at 0 i ((m + 1) * (n + 1)) (by simp) (by simpa using hi) (by rw [List.drop_zero, pos_rep]) rfl
theorem Rp.at1 {n : Nat} (h : Rp n (m + 2) s) (hn : 0 < n) : find s.fs 1 0 = some (dd (n + 1) m 0) := by
  rw [h.fs]
  exact find_at 1 0 ((m + 1) * (n + 1)) (by simp) (by simpa using hn) (by
    rw [show m + 2 = (m + 1) + 1 from rfl, List.replicate_succ]
    show pos (List.replicate (m + 1) n) = _
    rw [pos_rep]) rfl
theorem Kq.push (h : Kq z L m t s) (ho : Ok s) : Kh z L m 0 t (s.push (L + 1)) := by
  have hp : pos s.fs = m * (L + 2) := by rw [h.rp.fs, pos_rep]
  refine ⟨h.rp.push ho, fun k i hk => ?_⟩
  rcases hk with ⟨h1, h2⟩ | ⟨_, h2⟩
  · have := Nat.mul_le_mul_right (L + 2) (show k + 1 ≤ m from h1)
    rw [push_ct _ _ (by unfold dd; omega)]
    exact h.ct k i h1 h2
  · omega
theorem Kh.set (h : Kh z L m j t s) (hj : j < L) (ht : t ≤ m) : (s.set 0 (j : Int) (IntKind.u64.wrap (z j + (m : Int)))).1 = 0 ∧ Kh z L m (j + 1) t (s.set 0 (j : Int) (IntKind.u64.wrap (z j + (m : Int)))).2 := by
  unfold St.set
  rw [h.rp.at0 (show j < L + 1 by omega)]
  refine ⟨rfl, h.rp.put _ _, fun k i hk => ?_⟩
  show (s.put (dd (L + 2) m j) _).ct _ = _
  rw [put_ct]
  by_cases c : k = m ∧ i = j
  · rw [c.1, c.2, if_pos rfl]
    unfold Gv
    rw [if_neg (by omega)]
  · rw [if_neg (fun e => c (dd_inj (by omega) (by omega) e))]
    exact h.ct k i (by omega)
/-- The top frame's last slot refers to the frame below. -/
theorem Kh.link (h : Kh z L (m + 1) L t s) (hL : 0 < L) : s.link 0 (L : Int) 1 0 = (0, s.put (dd (L + 2) (m + 1) L) (.ref (dd (L + 2) m 0))) ∧ Kh z L (m + 1) L t (s.put (dd (L + 2) (m + 1) L) (.ref (dd (L + 2) m 0))) := by
  have hne : ¬ dd (L + 2) m 0 = dd (L + 2) (m + 1) L := fun e => by have := dd_inj (q := L + 2) (by omega) (by omega) e; omega
  refine ⟨?_, h.rp.put _ _, fun k i hk => ?_⟩
  · unfold St.link
    rw [h.rp.at0 (show L < L + 1 by omega), h.rp.at1 (by omega)]
    dsimp only
    rw [if_neg (by rintro (c | c); omega; exact hne c), h.ct m 0 (.inl ⟨by omega, hL⟩), if_neg (by simp [Wd.isRef])]
  · rw [put_ct, if_neg (fun e => by have := dd_inj (q := L + 2) (by omega) (by omega) e; omega)]
    exact h.ct k i hk
theorem Kh.store (h : Kh z L (m + 1) L m s) (hL : 0 < L) (hr : s.ct (dd (L + 2) (m + 1) L) = .ref (dd (L + 2) m 0)) :
    s.store 0 (L : Int) (1000 * ((m : Int) + 1)) = (0, s.put (dd (L + 2) m 0) (.num (1000 * ((m : Int) + 1)))) ∧ Kq z L (m + 2) (m + 1) (s.put (dd (L + 2) m 0) (.num (1000 * ((m : Int) + 1)))) := by
  refine ⟨?_, h.rp.put _ _, fun k i h1 h2 => ?_⟩
  · unfold St.store St.fol
    rw [h.rp.at0 (show L < L + 1 by omega)]
    dsimp only
    rw [hr]
    dsimp only
    rw [h.ct m 0 (.inl ⟨by omega, hL⟩), if_neg (by simp [Wd.isRef])]
  · rw [put_ct]
    by_cases c : k = m ∧ i = 0
    · rw [c.1, c.2, if_pos rfl]
      unfold Gv
      rw [if_pos ⟨rfl, by omega⟩]
    · rw [if_neg (fun e => c (dd_inj (by omega) (by omega) e)), h.ct k i (by omega)]
      unfold Gv
      by_cases c2 : i = 0 ∧ k < m
      · rw [if_pos c2, if_pos ⟨c2.1, by omega⟩]
      · rw [if_neg c2, if_neg (by omega)]
theorem Kh.plain (h : Kh z L m L t s) (hp : m = 0 ∨ L = 0) (ht : t ≤ m) : Kq z L (m + 1) m s := by
  refine ⟨h.rp, fun k i h1 h2 => ?_⟩
  rw [h.ct k i (by omega)]
  unfold Gv
  by_cases c : i = 0 ∧ k < t
  · omega
  · rw [if_neg c, if_neg (by omega)]
theorem Kq.get (h : Kq z L (m + 1) t s) {i : Nat} (hi : i < L) : s.get 0 (i : Int) = (Gv z t m i, 0) := by
  unfold St.get
  rw [h.rp.at0 (show i < L + 1 by omega)]
  dsimp only
  rw [h.ct m i (by omega) hi]
theorem Kq.pop (h : Kq z L (m + 1) t s) (ho : Ok s) (hL : L ≤ 30) : s.popR.1 = 0 ∧ Kq z L m t s.popR.2 := by
  have hl : ¬ s.fs.length = 0 := by rw [h.rp.fs]; simp
  unfold St.popR
  rw [if_neg hl]
  exact ⟨rfl, h.rp.pop ho (by omega), fun k i h1 h2 => by show s.pop.ct _ = _; rw [(pop_fs s).2]; exact h.ct k i (by omega) h2⟩

def Khl (w W : World) (bs : Nat) (z : Nat → Int) (L m j t : Nat) : Prop := ∃ s, Live w W bs s ∧ Kh z L m j t s
def Kll (w W : World) (bs : Nat) (z : Nat → Int) (L m : Nat) : Prop := ∃ s, Live w W bs s ∧ Kh z L (m + 1) L m s ∧ s.ct (dd (L + 2) (m + 1) L) = .ref (dd (L + 2) m 0)
def Kql (w W : World) (bs : Nat) (z : Nat → Int) (L m t : Nat) : Prop := ∃ s, Live w W bs s ∧ Kq z L m t s
variable {w W W' : World} {bs : Nat}
theorem Khl.cha (h : Khl w W bs z L m j t) : Cha (fun _ => False) w W := by obtain ⟨_, h, _⟩ := h; exact h.cha
theorem Kql.cha (h : Kql w W bs z L m t) : Cha (fun _ => False) w W := by obtain ⟨_, h, _⟩ := h; exact h.cha
theorem Kql.new (h : Live w W bs St.new) : Kql w W bs z L 0 0 := ⟨_, h, Rp.new _, fun k i h1 _ => by omega⟩
theorem Kql.push (h : Kql w W bs z L m t) (hL : L ≤ 30) (hm : m < 64) : Calls Try.prog 11 #[.pointer (some ⟨bs, 0, none⟩), .int .i64 ((L : Int) + 1)] W fun e W' => e = .returned (.int .i64 0) ∧ Khl w W' bs z L m 0 t := by
  obtain ⟨s, h, r⟩ := h
  exact (live_push h (L + 1) (by omega) (by rw [r.rp.fs]; simpa using hm)).mono fun _ _ ⟨he, h2⟩ => ⟨he, _, h2, r.push h.ok⟩
theorem u64_rng (x : Int) : 0 ≤ IntKind.u64.wrap x ∧ IntKind.u64.wrap x ≤ 18446744073709551615 := by
  have := IntKind.wrap_u64 x
  omega
theorem Khl.set (h : Khl w W bs z L m j t) (hj : j < L) (ht : t ≤ m) : Calls Try.prog 15 #[.pointer (some ⟨bs, 0, none⟩), .int .i64 0, .int .i64 (j : Int), .int .u64 (IntKind.u64.wrap (z j + (m : Int)))] W fun e W' => e = .returned (.int .i64 0) ∧ Khl w W' bs z L m (j + 1) t := by
  obtain ⟨s, h, r⟩ := h
  have q := live_set h 0 (j : Int) (IntKind.u64.wrap (z j + (m : Int))) (u64_rng _).1 (u64_rng _).2
  rw [(r.set hj ht).1] at q
  exact q.mono fun _ _ ⟨he, h2⟩ => ⟨he, _, h2, (r.set hj ht).2⟩
theorem Khl.link (h : Khl w W bs z L (m + 1) L m) (hL : 0 < L) : Calls Try.prog 17 #[.pointer (some ⟨bs, 0, none⟩), .int .i64 0, .int .i64 (L : Int), .int .i64 1, .int .i64 0] W fun e W' => e = .returned (.int .i64 0) ∧ Kll w W' bs z L m := by
  obtain ⟨s, h, r⟩ := h
  have q := live_link h 0 (L : Int) 1 0
  rw [(r.link hL).1] at q
  exact q.mono fun _ _ ⟨he, h2⟩ => ⟨he, _, h2, (r.link hL).2, by rw [put_ct, if_pos rfl]⟩
theorem Kll.store (h : Kll w W bs z L m) (hL : 0 < L) (hm : m ≤ 1000) : Calls Try.prog 19 #[.pointer (some ⟨bs, 0, none⟩), .int .i64 0, .int .i64 (L : Int), .int .u64 (1000 * ((m : Int) + 1))] W fun e W' => e = .returned (.int .i64 0) ∧ Kql w W' bs z L (m + 2) (m + 1) := by
  obtain ⟨s, h, r, hr⟩ := h
  have q := live_store h 0 (L : Int) (1000 * ((m : Int) + 1)) (by omega) (by omega)
  rw [(r.store hL hr).1] at q
  exact q.mono fun _ _ ⟨he, h2⟩ => ⟨he, _, h2, (r.store hL hr).2⟩
theorem Khl.plain (h : Khl w W bs z L m L t) (hp : m = 0 ∨ L = 0) (ht : t ≤ m) : Kql w W bs z L (m + 1) m := by
  obtain ⟨s, h, r⟩ := h
  exact ⟨s, h, r.plain hp ht⟩
theorem Kql.get (h : Kql w W bs z L (m + 1) t) {i : Nat} (hi : i < L) : Calls Try.prog 21 #[.pointer (some ⟨bs, 0, none⟩), .int .i64 0, .int .i64 (i : Int)] W fun e W' => e = .returned (.tuple #[.int .u64 (Gv z t m i), .int .i64 0]) ∧ Kql w W' bs z L (m + 1) t := by
  obtain ⟨s, h, r⟩ := h
  have q := live_get h 0 (i : Int)
  rw [r.get hi] at q
  exact q.mono fun _ _ ⟨he, h2⟩ => ⟨he, _, h2, r⟩
theorem Kql.pop (h : Kql w W bs z L (m + 1) t) (hL : L ≤ 30) : Calls Try.prog 13 #[.pointer (some ⟨bs, 0, none⟩)] W fun e W' => e = .returned (.int .i64 0) ∧ Kql w W' bs z L m t := by
  obtain ⟨s, h, r⟩ := h
  have q := live_pop h
  rw [(r.pop h.ok hL).1] at q
  exact q.mono fun _ _ ⟨he, h2⟩ => ⟨he, _, h2, (r.pop h.ok hL).2⟩
theorem Kql.end (h : Kql w W bs z L 0 t) : (∃ c, Calls Try.prog 25 #[.pointer (some ⟨bs, 0, none⟩)] W fun e W' => e = .returned (.tuple #[.int .i64 0, .int .i64 64, .int .i64 c]) ∧ Kql w W' bs z L 0 t) ∧
    Calls Try.prog 13 #[.pointer (some ⟨bs, 0, none⟩)] W fun e W' => e = .returned (.int .i64 4) ∧ Cha (fun _ => False) w W' := by
  obtain ⟨s, h, r⟩ := h
  have hl : s.fs.length = 0 := by rw [r.rp.fs]; rfl
  have hn : s.n = 64 := by have := r.rp.wds; omega
  refine ⟨⟨s.cop, ?_⟩, ?_⟩
  · have q := live_counts h
    rw [hl, hn] at q
    exact q.mono fun _ _ ⟨he, h2⟩ => ⟨he, _, h2, r⟩
  · have q := live_pop h
    unfold St.popR at q
    rw [if_pos hl] at q
    exact q.mono fun _ _ ⟨he, h2⟩ => ⟨he, h2.cha⟩
end Go.Proofs.Yteienclklmjhdaa
