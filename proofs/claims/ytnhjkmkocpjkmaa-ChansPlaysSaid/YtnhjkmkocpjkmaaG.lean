/- Contracts of chans: New, Closed, Counts, Ready. -/
import Derived.Test.YtnhjkmkocpjkmaaF
namespace Go.Proofs.Ytnhjkmkocpjkmaa
open Go.ChangeShapes Go.WideShapes Go.ChangeAt Go.RowKit
variable {w w' W : World} {F : Nat → Prop} {bc g o n cap : Nat} {v1 v2 v3 : Value} {s : St}

theorem new_bad (p : Int) (w : World) (hp : p < 0 ∨ 16 < p) : Calls Try.prog 9 #[.int .i64 p] w fun e w' => e = .returned (.tuple #[.pointer none, .int .i64 1]) ∧ Cha (fun _ => False) w w' := by
  by_cases h0 : p < 0
  · go_enter Try.func9, Try.ntmps9
    go_wp2
    go_returns
    exact ⟨rfl, Cha.refl _ _⟩
  · have h2 : 16 < p := by omega
    have h1 : 0 ≤ p := by omega
    clear hp h0
    go_enter Try.func9, Try.ntmps9
    go_wp2
    go_returns
    exact ⟨rfl, Cha.refl _ _⟩
theorem ch_new (n : Nat) (w : World) (hn : n ≤ 16) : Ch (w.alloc (.cells #[.int .i64 (n : Int), .bool false, .slice none 0 0, .slice none 0 0, .slice none 0 0] 65)) (fun i => i = w.heap.size) w.heap.size (.slice none 0 0) (.slice none 0 0) (.slice none 0 0) (St.new n) :=
  ⟨heap_alloc_new w _, Lies.nil _ _, Lies.nil _ _, Lies.nil _ _, rfl, (fun g e => by cases e), (fun g e => by cases e), (fun g e => by cases e), (fun g e => by cases e), (fun g e => by cases e), (fun g e => by cases e), (fun i (e : i = _) => by rw [World.size_alloc]; omega), hn⟩
theorem new_ok (n : Nat) (w : World) (hn : n ≤ 16) : Calls Try.prog 9 #[.int .i64 (n : Int)] w fun e w' => e = .returned (.tuple #[.pointer (some ⟨w.heap.size, 0, none⟩), .int .i64 0]) ∧ w' = w.alloc (.cells #[.int .i64 (n : Int), .bool false, .slice none 0 0, .slice none 0 0, .slice none 0 0] 65) := by
  have h0 : ¬ ((n : Int) < 0) := by omega
  have h1 : ¬ ((16 : Int) < (n : Int)) := by omega
  go_enter Try.func9, Try.ntmps9
  go_wp2
  go_returns
  exact ⟨rfl, rfl⟩
theorem closed_none (w : World) : Calls Try.prog 27 #[.pointer none] w fun e w' => e = .returned (.bool false) ∧ w = w' := by
  go_enter Try.func27, Try.ntmps27
  go_wp2
  go_returns
  exact ⟨rfl, rfl⟩
theorem closed_any (h : Ch w F bc v1 v2 v3 s) : Calls Try.prog 27 #[.pointer (some ⟨bc, 0, none⟩)] w fun e w' => e = .returned (.bool s.shut) ∧ w = w' := by
  have k1 : w.cell? ⟨bc, 1, none⟩ = some (.bool s.shut) := h.cell 1
  clear h
  go_enter Try.func27, Try.ntmps27
  go_wp2
  go_returns
  exact ⟨rfl, rfl⟩
theorem counts_none (w : World) : Calls Try.prog 23 #[.pointer none] w fun e w' => e = .returned (.tuple #[.int .i64 0, .int .i64 0, .int .i64 0]) ∧ w = w' := by
  go_enter Try.func23, Try.ntmps23
  go_wp2
  go_returns
  exact ⟨rfl, rfl⟩
theorem counts_any (h : Ch w F bc v1 v2 v3 s) : Calls Try.prog 23 #[.pointer (some ⟨bc, 0, none⟩)] w fun e w' => e = .returned (.tuple #[.int .i64 (s.vals.length : Nat), .int .i64 (s.snds.length : Nat), .int .i64 (s.rcvs.length : Nat)]) ∧ Cha (fun _ => False) w w' := by
  obtain ⟨a1, cap1, k2⟩ := h.len1
  obtain ⟨a2, cap2, k3⟩ := h.len2
  obtain ⟨a3, cap3, k4⟩ := h.len3
  have h0 := Lib.hid (Cha.refl (fun _ => False) w)
  clear h
  go_enter Try.func23, Try.ntmps23
  go_wp2
  go_region
  go_wp2
  go_returns
  exact ⟨rfl, h0.out.drew⟩
theorem ready_none (b : Bool) (w : World) : Calls Try.prog 28 #[.pointer none, .bool b] w fun e w' => e = .returned (.bool false) ∧ w = w' := by
  go_enter Try.func28, Try.ntmps28
  go_wp2
  go_returns
  exact ⟨rfl, rfl⟩
theorem ready_any (h : Ch w F bc v1 v2 v3 s) (b : Bool) : Calls Try.prog 28 #[.pointer (some ⟨bc, 0, none⟩), .bool b] w fun e w' => e = .returned (.bool (s.ready b)) ∧ Cha (fun _ => False) w w' := by
  have k0 : w.cell? ⟨bc, 0, none⟩ = some (.int .i64 (s.cap : Nat)) := h.cell 0
  have k1 : w.cell? ⟨bc, 1, none⟩ = some (.bool s.shut) := h.cell 1
  obtain ⟨a1, cap1, k2⟩ := h.len1
  obtain ⟨a2, cap2, k3⟩ := h.len2
  obtain ⟨a3, cap3, k4⟩ := h.len3
  have h0 := Lib.hid (Cha.refl (fun _ => False) w)
  clear h
  unfold St.ready
  generalize s.vals.length = n1 at *
  generalize s.snds.length = n2 at *
  generalize s.rcvs.length = n3 at *
  by_cases hs : s.shut = true
  · rw [if_pos hs]
    rw [hs] at k1
    go_enter Try.func28, Try.ntmps28
    go_wp2
    go_returns
    exact ⟨rfl, h0.out⟩
  · rw [if_neg hs]
    have hs2 : s.shut = false := by simpa using hs
    rw [hs2] at k1
    clear hs hs2
    cases b
    · rw [if_neg (by decide)]
      by_cases hl : 0 < n1
      · have hl2 : (0 : Int) < (n1 : Int) := by omega
        rw [decide_eq_true hl]
        clear hl
        go_enter Try.func28, Try.ntmps28
        go_wp2
        go_returns
        exact ⟨rfl, h0.out⟩
      · obtain rfl : n1 = 0 := by omega
        have e0 : (decide (0 < 0) || decide (0 < n2)) = decide (0 < n2) := by simp
        rw [e0]
        clear hl e0
        go_enter Try.func28, Try.ntmps28
        go_wp2
        go_returns
        exact ⟨rfl, h0.out⟩
    · rw [if_pos rfl]
      by_cases hl : 0 < n3
      · have hl2 : (0 : Int) < (n3 : Int) := by omega
        have hd := decide_eq_true hl
        rw [hd]
        go_enter Try.func28, Try.ntmps28
        go_wp2
        go_region
        go_wp2
        go_returns
        exact ⟨rfl, h0.out.drew⟩
      · obtain rfl : n3 = 0 := by omega
        by_cases hl3 : n1 < s.cap
        · have hl2 : (n1 : Int) < ((s.cap : Nat) : Int) := by omega
          have hd := decide_eq_true hl3
          rw [hd]
          clear hl
          go_enter Try.func28, Try.ntmps28
          go_wp2
          go_region
          go_wp2
          go_returns
          exact ⟨rfl, h0.out.drew⟩
        · have hl2 : ¬ ((n1 : Int) < ((s.cap : Nat) : Int)) := by omega
          have hd := decide_eq_false hl3
          rw [hd]
          clear hl
          go_enter Try.func28, Try.ntmps28
          go_wp2
          go_region
          go_wp2
          go_returns
          exact ⟨rfl, h0.out.drew⟩
end Go.Proofs.Ytnhjkmkocpjkmaa
