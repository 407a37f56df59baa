/- Contracts of layer 3's parts that only read: within, pagesOf, at, allIn, count. -/
import Derived.Test.YtbkpbineagfbgaaA
import Derived.Test.YtbkpbineagfbgaaP
import Derived.LoopN
import Derived.WalkMore
import Derived.Deep.LoopGhost
namespace Go.Proofs.Ytbkpbineagfbgaa
open Go.ChangeShapes Go.WideShapes Go.ChangeAt Go.RowKit

theorem within_yes (first n size : Int) (w : World) (h0 : 0 ≤ first) (h1 : first ≤ size - n) (hn : 1 ≤ n) (hn2 : n ≤ 9223372036854775807) (hs : 0 ≤ size) (hs2 : size ≤ 1000000) :
    Calls Try.prog 32 #[.int .i64 first, .int .i64 n, .int .i64 size] w fun e w' => e = .returned (.bool true) ∧ w = w' := by
  go_enter Try.func32, Try.ntmps32
  go_wp2
  go_ret
  exact ⟨ret_bool (by simp; try omega), rfl⟩
theorem within_no (first n size : Int) (w : World) (h1 : first < 0 ∨ size - n < first) (hn : 1 ≤ n) (hn2 : n ≤ 9223372036854775807) (hs : 0 ≤ size) (hs2 : size ≤ 1000000) :
    Calls Try.prog 32 #[.int .i64 first, .int .i64 n, .int .i64 size] w fun e w' => e = .returned (.bool false) ∧ w = w' := by
  by_cases h0 : first < 0
  · go_enter Try.func32, Try.ntmps32
    go_wp2
    go_ret
    exact ⟨rfl, rfl⟩
  · have h2 : size - n < first := by omega
    have h3 : 0 ≤ first := by omega
    clear h1 h0
    go_enter Try.func32, Try.ntmps32
    go_wp2
    go_ret
    exact ⟨ret_bool (by simp; try omega), rfl⟩
theorem ret_ints {a b c d : Int} (h : a = b) (k : c = d) : Ending.returned (.tuple #[.int .i64 a, .int .i64 c]) = .returned (.tuple #[.int .i64 b, .int .i64 d]) := by rw [h, k]
theorem pagesOf_any (a n : Nat) (w : World) (hn : 1 ≤ n) (h : a + n ≤ 1000000) :
    Calls Try.prog 46 #[.int .i64 (a : Int), .int .i64 (n : Int)] w fun e w' => e = .returned (.tuple #[.int .i64 ((a / 64 : Nat) : Int), .int .i64 (((a + n - 1) / 64 - a / 64 + 1 : Nat) : Int)]) ∧ w = w' := by
  go_enter Try.func46, Try.ntmps46
  go_wp2
  go_ret2
  exact ⟨ret_ints (by omega) (by omega), rfl⟩
theorem at_any (a : Nat) {w : World} {bm bp n : Nat} {st wd : Nat → Int} (h : Mem w bm bp n st wd) (ha : a < n * 64) :
    Calls Try.prog 40 #[.pointer (some ⟨bm, 0, none⟩), .int .i64 (a : Int)] w fun e w' => e = .returned (.pointer (some ⟨bp, a / 64 * 65 + 1 + a % 64, none⟩)) ∧ w = w' := by
  have hp := h.ptr
  have hl := h.le
  clear h
  go_enter Try.func40, Try.ntmps40
  go_wp2
  go_ret
  exact ⟨rfl, rfl⟩

/-- Are n pages from base on in one of these states? -/
def allB (st : Nat → Int) (base : Nat) (ss : List Int) : Nat → Bool
  | 0 => true
  | n + 1 => allB st base ss n && ss.contains (st (base + n))
theorem allB_no {st : Nat → Int} {base : Nat} {ss : List Int} {k : Nat} (h : ss.contains (st (base + k)) = false) : ∀ n, k < n → allB st base ss n = false
  | 0, hn => by omega
  | n + 1, hn => by
    unfold allB
    by_cases e : n = k
    · subst e; rw [h, Bool.and_false]
    · rw [allB_no h n (by omega), Bool.false_and]
theorem allB_iff {st : Nat → Int} {base : Nat} {ss : List Int} : ∀ n, allB st base ss n = true ↔ ∀ i, i < n → st (base + i) ∈ ss
  | 0 => by simp [allB]
  | n + 1 => by
    unfold allB
    rw [Bool.and_eq_true, allB_iff n, List.contains_iff_mem]
    constructor
    · intro ⟨h1, h2⟩ i hi
      by_cases e : i = n
      · subst e; exact h2
      · exact h1 i (by omega)
    · intro h
      exact ⟨fun i hi => h i (by omega), h n (by omega)⟩

set_option maxHeartbeats 1000000 in
theorem allIn_one (base k : Nat) (s : Int) (g : Nat) {w : World} {bm bp n : Nat} {st wd : Nat → Int} (h : Mem w bm bp n st wd) (hb : base + k ≤ n) (hg : w.cell? ⟨g, 0, none⟩ = some (.int .i64 s)) :
    Calls Try.prog 45 #[.pointer (some ⟨bm, 0, none⟩), .int .i64 (base : Int), .int .i64 (k : Int), .slice (some ⟨g, 0, none⟩) 1 1] w fun e w' => e = .returned (.bool (allB st base [s] k)) ∧ w = w' := by
  have hp := h.ptr
  have hl := h.le
  go_enter Try.func45, Try.ntmps45
  go_wp2
  go_step3
  go_wp2
  go_step3
  go_wp2
  go_loop [13] (fun i => ∃ j : Nat, j ≤ k ∧ allB st base [s] j = true ∧ i = .int .i64 (j : Int)) (fun i => k - (intOf i).toNat)
  case atStart => exact ⟨0, Nat.zero_le _, rfl, rfl⟩
  case round =>
    obtain ⟨j, hj, hall, rfl⟩ := hrel
    have H := Lib.hid hall
    clear hall
    by_cases hlt : j < k
    · have hs := h.state (p := base + j) (by omega)
      by_cases he : st (base + j) = s
      · have A := Lib.hid (show allB st base [s] (j + 1) = true by unfold allB; rw [H.out, he]; simp)
        go_wp2
        refine wp_loop_rounds 3 ?_
        rw [rounds_succ]
        go_wp2
        go_round
        case rel => exact ⟨j + 1, by omega, A.out, by go_num⟩
        case measure => simp [intOf]; omega
      · have A := Lib.hid (allB_no (st := st) (base := base) (ss := [s]) (k := j) (by simp; exact he) k hlt)
        go_wp2
        refine wp_loop_rounds 3 ?_
        rw [rounds_succ]
        go_wp2
        rw [rounds_succ]
        go_wp2
        rw [Exit.noGoto_ret]
        go_ret
        exact ⟨ret_bool A.out.symm, rfl⟩
    · obtain rfl : j = k := by omega
      go_wp2
      go_ret
      exact ⟨ret_bool H.out.symm, rfl⟩

set_option maxHeartbeats 1000000 in
theorem allIn_two (base k : Nat) (s t : Int) (g : Nat) {w : World} {bm bp n : Nat} {st wd : Nat → Int} (h : Mem w bm bp n st wd) (hb : base + k ≤ n) (hg : w.cell? ⟨g, 0, none⟩ = some (.int .i64 s)) (hg2 : w.cell? ⟨g, 1, none⟩ = some (.int .i64 t)) :
    Calls Try.prog 45 #[.pointer (some ⟨bm, 0, none⟩), .int .i64 (base : Int), .int .i64 (k : Int), .slice (some ⟨g, 0, none⟩) 2 2] w fun e w' => e = .returned (.bool (allB st base [s, t] k)) ∧ w = w' := by
  have hp := h.ptr
  have hl := h.le
  go_enter Try.func45, Try.ntmps45
  go_wp2
  go_step3
  go_wp2
  go_step3
  go_wp2
  go_loop [13] (fun i => ∃ j : Nat, j ≤ k ∧ allB st base [s, t] j = true ∧ i = .int .i64 (j : Int)) (fun i => k - (intOf i).toNat)
  case atStart => exact ⟨0, Nat.zero_le _, rfl, rfl⟩
  case round =>
    obtain ⟨j, hj, hall, rfl⟩ := hrel
    have H := Lib.hid hall
    clear hall
    by_cases hlt : j < k
    · have hs := h.state (p := base + j) (by omega)
      by_cases he : st (base + j) = s
      · have A := Lib.hid (show allB st base [s, t] (j + 1) = true by unfold allB; rw [H.out, he]; simp)
        go_wp2
        refine wp_loop_rounds 3 ?_
        rw [rounds_succ]
        go_wp2
        go_round
        case rel => exact ⟨j + 1, by omega, A.out, by go_num⟩
        case measure => simp [intOf]; omega
      · by_cases he2 : st (base + j) = t
        · have A := Lib.hid (show allB st base [s, t] (j + 1) = true by unfold allB; rw [H.out, he2]; simp)
          go_wp2
          refine wp_loop_rounds 3 ?_
          rw [rounds_succ]
          go_wp2
          rw [rounds_succ]
          go_wp2
          go_round
          case rel => exact ⟨j + 1, by omega, A.out, by go_num⟩
          case measure => simp [intOf]; omega
        · have A := Lib.hid (allB_no (st := st) (base := base) (ss := [s, t]) (k := j) (by simp; exact ⟨he, he2⟩) k hlt)
          go_wp2
          refine wp_loop_rounds 3 ?_
          rw [rounds_succ]
          go_wp2
          rw [rounds_succ]
          go_wp2
          rw [rounds_succ]
          go_wp2
          rw [Exit.noGoto_ret]
          go_ret
          exact ⟨ret_bool A.out.symm, rfl⟩
    · obtain rfl : j = k := by omega
      go_wp2
      go_ret
      exact ⟨ret_bool H.out.symm, rfl⟩
end Go.Proofs.Ytbkpbineagfbgaa
