/- StackRows: references through all frames to one word at the bottom. -/
import Derived.Test.YteienclklmjhdaaQ
namespace Go.Proofs.Yteienclklmjhdaa
open Go.ChangeShapes Go.WideShapes Go.ChangeAt Go.RowKit

theorem find_at {fs : List Nat} (j i h : Nat) {m : Nat} (hl : j < fs.length) (hi : i < fs[j]) (hp : pos (fs.drop j) = h) (hm : m = h - 1 - i) : find fs (j : Int) (i : Int) = some m := by
  rw [find_nat hl hi, hp, hm]
theorem put_ct (s : St) (e y : Nat) (x : Wd) : (s.put e x).ct y = if y = e then x else s.ct y := rfl
theorem push_ct (s : St) (n : Nat) {e : Nat} (h : e ≤ pos s.fs) : (s.push n).ct e = s.ct e := by
  unfold St.push
  split
  · show (if e ≤ pos s.fs then s.ct e else _) = _; rw [if_pos h]
  · show (if e ≤ pos s.fs then s.ct e else _) = _; rw [if_pos h]
theorem pop_fs (s : St) : s.pop.fs = s.fs.tail ∧ s.pop.ct = s.ct := by unfold St.pop; split <;> exact ⟨rfl, rfl⟩
theorem pos_tall (j : Nat) : pos (List.replicate j 20 ++ [3]) = 21 * j + 4 := by
  induction j with
  | zero => rfl
  | succ j ih => rw [List.replicate_succ]; show pos (List.replicate j 20 ++ [3]) + 21 = _; rw [ih]; omega
theorem drop_tall (j : Nat) : (List.replicate j 20 ++ [3]).drop j = [3] := by rw [List.drop_left' (by simp)]
/-- j frames of 20 slots above one of 3; the slot 5 of the first m of them refers to the word x at the bottom. -/
structure Rw (j m : Nat) (x : Int) (s : St) : Prop where
  fs : s.fs = List.replicate j 20 ++ [3]
  x : s.ct 2 = .num x
  rf : ∀ i, 1 ≤ i → i ≤ m → s.ct (21 * i - 2) = .ref 2
variable {j m : Nat} {x v : Int} {s : St}
theorem Rw.base (h : Rw j m x s) : find s.fs (j : Int) 1 = some 2 := by
  rw [h.fs]
  exact find_at j 1 4 (by simp) (by simp) (by rw [drop_tall]; rfl) rfl
theorem Rw.top (h : Rw (j + 1) m x s) : find s.fs 0 5 = some (21 * (j + 1) - 2) := by
  rw [h.fs]
  exact find_at 0 5 (21 * (j + 1) + 4) (by simp) (by simp) (by rw [List.drop_zero, pos_tall]) (by omega)
theorem Rw.push (h : Rw j m x s) (hm : m ≤ j) : Rw (j + 1) m x (s.push 20) := by
  have hp : pos s.fs = 21 * j + 4 := by rw [h.fs, pos_tall]
  refine ⟨by rw [push_fs, h.fs]; rfl, by rw [push_ct _ _ (by omega)]; exact h.x, fun i h1 h2 => by rw [push_ct _ _ (by omega)]; exact h.rf i h1 h2⟩
theorem Rw.link (h : Rw (j + 1) j x s) : s.link 0 5 ((j + 1 : Nat) : Int) 1 = (0, s.put (21 * (j + 1) - 2) (.ref 2)) ∧ Rw (j + 1) (j + 1) x (s.put (21 * (j + 1) - 2) (.ref 2)) := by
  refine ⟨?_, h.fs, ?_, fun i h1 h2 => ?_⟩
  · unfold St.link
    rw [h.top, h.base]
    dsimp only
    rw [if_neg (by omega), h.x, if_neg (by simp [Wd.isRef])]
  · rw [put_ct, if_neg (by omega)]; exact h.x
  · rw [put_ct]
    by_cases c : i = j + 1
    · rw [c, if_pos rfl]
    · rw [if_neg (by omega)]; exact h.rf i h1 (by omega)
theorem Rw.fol (h : Rw (j + 1) (j + 1) x s) : s.fol 0 5 = (some 2, 0) := by
  unfold St.fol
  rw [h.top]
  dsimp only
  rw [h.rf (j + 1) (by omega) (Nat.le_refl _)]
  dsimp only
  rw [h.x, if_neg (by simp [Wd.isRef])]
theorem Rw.store (h : Rw (j + 1) (j + 1) x s) (v : Int) : s.store 0 5 v = (0, s.put 2 (.num v)) ∧ Rw (j + 1) (j + 1) v (s.put 2 (.num v)) := by
  refine ⟨by unfold St.store; rw [h.fol], h.fs, ?_, fun i h1 h2 => ?_⟩
  · rw [put_ct, if_pos rfl]
  · rw [put_ct, if_neg (by omega)]; exact h.rf i h1 h2
theorem Rw.load (h : Rw (j + 1) (j + 1) x s) : s.load 0 5 = (x, 0) := by
  unfold St.load; rw [h.fol]; dsimp only; rw [h.x]
theorem Rw.get (h : Rw j m x s) : s.get (j : Int) 1 = (x, 0) := by
  unfold St.get; rw [h.base]; dsimp only; rw [h.x]
theorem Rw.pop (h : Rw (j + 1) (j + 1) x s) : s.popR.1 = 0 ∧ Rw j j x s.popR.2 := by
  have hl : ¬ s.fs.length = 0 := by rw [h.fs]; simp
  unfold St.popR
  rw [if_neg hl]
  obtain ⟨p1, p2⟩ := pop_fs s
  refine ⟨rfl, by show s.pop.fs = _; rw [p1, h.fs]; rfl, by show s.pop.ct 2 = _; rw [p2]; exact h.x, fun i h1 h2 => by show s.pop.ct _ = _; rw [p2]; exact h.rf i h1 (by omega)⟩
def Rwl (w W : World) (bs j m : Nat) (x : Int) : Prop := ∃ s, Live w W bs s ∧ Rw j m x s
variable {w W W' : World} {bs : Nat}
theorem Rwl.cha (h : Rwl w W bs j m x) : Cha (fun _ => False) w W := by obtain ⟨s, h, _⟩ := h; exact h.cha
theorem rwl_new (h : Live w W bs St.new) : Calls Try.prog 11 #[.pointer (some ⟨bs, 0, none⟩), .int .i64 3] W fun e W' => e = .returned (.int .i64 0) ∧ Live w W' bs (St.new.push 3) := live_push h 3 (by omega) (by decide)
theorem rwl_set (h : Live w W bs (St.new.push 3)) : Calls Try.prog 15 #[.pointer (some ⟨bs, 0, none⟩), .int .i64 0, .int .i64 1, .int .u64 9] W fun e W' => e = .returned (.int .i64 0) ∧ Rwl w W' bs 0 0 9 := by
  have q := live_set h 0 1 9 (by omega) (by omega)
  rw [show ((St.new.push 3).set 0 1 9).1 = 0 by decide +kernel] at q
  exact q.mono fun _ _ ⟨he, hl⟩ => ⟨he, _, hl, ⟨by decide +kernel, by decide +kernel, fun i h1 h2 => by omega⟩⟩
theorem Rwl.push (h : Rwl w W bs j j x) (hj : j < 62) : Calls Try.prog 11 #[.pointer (some ⟨bs, 0, none⟩), .int .i64 20] W fun e W' => e = .returned (.int .i64 0) ∧ Rwl w W' bs (j + 1) j x := by
  obtain ⟨s, h, r⟩ := h
  exact (live_push h 20 (by omega) (by rw [r.fs]; simp; omega)).mono fun _ _ ⟨he, h2⟩ => ⟨he, _, h2, r.push (Nat.le_refl _)⟩
theorem Rwl.link (h : Rwl w W bs (j + 1) j x) : Calls Try.prog 17 #[.pointer (some ⟨bs, 0, none⟩), .int .i64 0, .int .i64 5, .int .i64 ((j + 1 : Nat) : Int), .int .i64 1] W fun e W' => e = .returned (.int .i64 0) ∧ Rwl w W' bs (j + 1) (j + 1) x := by
  obtain ⟨s, h, r⟩ := h
  have q := live_link h 0 5 ((j + 1 : Nat) : Int) 1
  rw [r.link.1] at q
  exact q.mono fun _ _ ⟨he, h2⟩ => ⟨he, _, h2, r.link.2⟩
theorem Rwl.store (h : Rwl w W bs (j + 1) (j + 1) x) (h0 : 0 ≤ v) (h1 : v ≤ 18446744073709551615) : Calls Try.prog 19 #[.pointer (some ⟨bs, 0, none⟩), .int .i64 0, .int .i64 5, .int .u64 v] W fun e W' => e = .returned (.int .i64 0) ∧ Rwl w W' bs (j + 1) (j + 1) v := by
  obtain ⟨s, h, r⟩ := h
  have q := live_store h 0 5 v h0 h1
  rw [(r.store v).1] at q
  exact q.mono fun _ _ ⟨he, h2⟩ => ⟨he, _, h2, (r.store v).2⟩
theorem Rwl.get (h : Rwl w W bs j m x) : Calls Try.prog 21 #[.pointer (some ⟨bs, 0, none⟩), .int .i64 (j : Int), .int .i64 1] W fun e W' => e = .returned (.tuple #[.int .u64 x, .int .i64 0]) ∧ Rwl w W' bs j m x := by
  obtain ⟨s, h, r⟩ := h
  have q := live_get h (j : Int) 1
  rw [r.get] at q
  exact q.mono fun _ _ ⟨he, h2⟩ => ⟨he, _, h2, r⟩
theorem Rwl.load (h : Rwl w W bs (j + 1) (j + 1) x) : Calls Try.prog 23 #[.pointer (some ⟨bs, 0, none⟩), .int .i64 0, .int .i64 5] W fun e W' => e = .returned (.tuple #[.int .u64 x, .int .i64 0]) ∧ Rwl w W' bs (j + 1) (j + 1) x := by
  obtain ⟨s, h, r⟩ := h
  have q := live_load h 0 5
  rw [r.load] at q
  exact q.mono fun _ _ ⟨he, h2⟩ => ⟨he, _, h2, r⟩
theorem Rwl.pop (h : Rwl w W bs (j + 1) (j + 1) x) : Calls Try.prog 13 #[.pointer (some ⟨bs, 0, none⟩)] W fun e W' => e = .returned (.int .i64 0) ∧ Rwl w W' bs j j x := by
  obtain ⟨s, h, r⟩ := h
  have q := live_pop h
  rw [r.pop.1] at q
  exact q.mono fun _ _ ⟨he, h2⟩ => ⟨he, _, h2, r.pop.2⟩
end Go.Proofs.Yteienclklmjhdaa
