/- Contracts of the document's memory: Copy. -/
import Derived.Test.YtbkpbineagfbgaaAB
import Derived.Laws.AppendOwn
import Derived.Laws.OwnMore
namespace Go.Proofs.Ytbkpbineagfbgaa
open Go.ChangeShapes Go.WideShapes Go.ChangeAt Go.RowKit
variable {W W' : World} {S T : Nat → Prop} {br bs bw n : Nat} {st wd : Nat → Int} {ws : Nat → Value} {bl : Nat → Nat}

theorem rcopy_neg (t f k : Int) (_ : Ref W T br bs bw n st wd ws bl) (hk : k < 0) :
    Calls Try.prog 30 #[.pointer (some ⟨br, 0, none⟩), .int .i64 t, .int .i64 f, .int .i64 k] W fun e w' => e = .returned (.int .i64 1) ∧ W = w' := by
  go_enter Try.func30, Try.ntmps30
  go_wp2
  go_ret
  exact ⟨rfl, rfl⟩
theorem rcopy_big (t f k : Int) (h : Ref W T br bs bw n st wd ws bl) (hk : (n : Int) * 64 < k) :
    Calls Try.prog 30 #[.pointer (some ⟨br, 0, none⟩), .int .i64 t, .int .i64 f, .int .i64 k] W fun e w' => e = .returned (.int .i64 6) ∧ W = w' := by
  have hh := h.ptr0
  have hl := h.le
  have h0 : 0 ≤ k := by omega
  clear h
  go_enter Try.func30, Try.ntmps30
  go_wp2
  go_ret
  exact ⟨rfl, rfl⟩
theorem rcopy_zero (t f : Int) (h : Ref W T br bs bw n st wd ws bl) :
    Calls Try.prog 30 #[.pointer (some ⟨br, 0, none⟩), .int .i64 t, .int .i64 f, .int .i64 0] W fun e w' => e = .returned (.int .i64 0) ∧ W = w' := by
  have hh := h.ptr0
  have hl := h.le
  clear h
  go_enter Try.func30, Try.ntmps30
  go_wp2
  refine wp_loop_rounds 1 ?_
  rw [rounds_succ]
  go_wp2
  refine wp_loop_rounds 1 ?_
  rw [rounds_succ]
  go_wp2
  refine wp_loop_rounds 1 ?_
  rw [rounds_succ]
  go_wp2
  go_ret
  exact ⟨rfl, rfl⟩
/-- Where one of the rows begins nowhere. -/
theorem rcopy_wild (t f : Int) (k : Nat) (h : Ref W T br bs bw n st wd ws bl) (hk : 1 ≤ k) (hk2 : k ≤ n * 64) (hb : t < 0 ∨ f < 0 ∨ 262144 < t ∨ 262144 < f) :
    Calls Try.prog 30 #[.pointer (some ⟨br, 0, none⟩), .int .i64 t, .int .i64 f, .int .i64 (k : Int)] W fun e w' => e = .returned (.int .i64 6) ∧ W = w' := by
  have hh := h.ptr0
  have hl := h.le
  clear h
  by_cases h1 : t < 0
  · clear hb
    go_enter Try.func30, Try.ntmps30
    go_wp2
    refine wp_loop_rounds 1 ?_
    rw [rounds_succ]
    go_wp2
    go_ret
    exact ⟨rfl, rfl⟩
  · have h1' : 0 ≤ t := by omega
    clear h1
    by_cases h2 : f < 0
    · clear hb
      go_enter Try.func30, Try.ntmps30
      go_wp2
      refine wp_loop_rounds 1 ?_
      rw [rounds_succ]
      go_wp2
      go_ret
      exact ⟨rfl, rfl⟩
    · have h2' : 0 ≤ f := by omega
      clear h2
      by_cases h3 : 262144 < t
      · clear hb
        go_enter Try.func30, Try.ntmps30
        go_wp2
        refine wp_loop_rounds 1 ?_
        rw [rounds_succ]
        go_wp2
        go_ret
        exact ⟨rfl, rfl⟩
      · have h3' : t ≤ 262144 := by omega
        have h4 : 262144 < f := by omega
        clear hb h3
        go_enter Try.func30, Try.ntmps30
        go_wp2
        refine wp_loop_rounds 1 ?_
        rw [rounds_succ]
        go_wp2
        go_ret
        exact ⟨rfl, rfl⟩

theorem there_sum_yes (a j : Nat) (h : Ref W T br bs bw n st wd ws bl) (ha : RThere n st (a + j)) :
    Calls Try.prog 44 #[.pointer (some ⟨br, 0, none⟩), .int .i64 ((a : Int) + (j : Int))] W fun e w' => e = .returned (.bool true) ∧ W = w' := by
  have := there_yes (a + j) h ha
  rwa [Int.natCast_add] at this
theorem there_sum_no (a j : Nat) (h : Ref W T br bs bw n st wd ws bl) (hr : a + j ≤ 1000000) (ha : ¬ RThere n st (a + j)) :
    Calls Try.prog 44 #[.pointer (some ⟨br, 0, none⟩), .int .i64 ((a : Int) + (j : Int))] W fun e w' => e = .returned (.bool false) ∧ W = w' := by
  have := there_no ((a + j : Nat) : Int) h (by omega) (by omega) (.inr (by rw [Int.toNat_natCast]; exact ha))
  rwa [Int.natCast_add] at this

set_option maxHeartbeats 2000000 in
theorem rcopy_bad (t f k : Nat) (h : Ref W T br bs bw n st wd ws bl) (hk : 1 ≤ k) (hk2 : k ≤ n * 64) (ht : t ≤ 262144) (hf : f ≤ 262144) (hb : ¬ ∀ i, i < k → RThere n st (t + i) ∧ RThere n st (f + i)) :
    Calls Try.prog 30 #[.pointer (some ⟨br, 0, none⟩), .int .i64 (t : Int), .int .i64 (f : Int), .int .i64 (k : Int)] W fun e w' => e = .returned (.int .i64 6) ∧ W = w' := by
  have hh := h.ptr0
  have hl := h.le
  have H := Lib.hid h
  have HB := Lib.hid hb
  have ht' : (t : Int) ≤ 262144 := by omega
  have hf' : (f : Int) ≤ 262144 := by omega
  clear h hb
  go_enter Try.func30, Try.ntmps30
  go_wp2
  go_loop [9] (fun i => ∃ j : Nat, j ≤ k ∧ i = .int .i64 (j : Int) ∧ ∀ i, i < j → RThere n st (t + i) ∧ RThere n st (f + i)) (fun i => k - (intOf i).toNat)
  case atStart => exact ⟨0, Nat.zero_le _, rfl, fun i hi => absurd hi (by omega)⟩
  case round =>
    obtain ⟨j, hj, rfl, hA⟩ := hrel
    by_cases hlt : j < k
    · have HA := Lib.hid hA
      by_cases c1 : RThere n st (t + j)
      · have C1 := Lib.hid (there_sum_yes t j H.out c1)
        by_cases c2 : RThere n st (f + j)
        · have C2 := Lib.hid (there_sum_yes f j H.out c2)
          have HN := Lib.hid (show ∀ i, i < j + 1 → RThere n st (t + i) ∧ RThere n st (f + i) from fun i hi => by
            by_cases e : i = j
            · subst e; exact ⟨c1, c2⟩
            · exact hA i (by omega))
          clear hA c1 c2
          go_wp2_with (first
            | (go_at_call 44; ((with_reducible refine (C1.out).mono ?_); rintro e w1 ⟨rfl, rfl⟩))
            | (go_at_call 44; ((with_reducible refine (C2.out).mono ?_); rintro e w1 ⟨rfl, rfl⟩)))
          go_round
          case rel => exact ⟨j + 1, by omega, by go_num, HN.out⟩
          case measure => simp [intOf]; omega
        · have C2 := Lib.hid (there_sum_no f j H.out (by omega) c2)
          clear hA c1 c2
          go_wp2_with (first
            | (go_at_call 44; ((with_reducible refine (C1.out).mono ?_); rintro e w1 ⟨rfl, rfl⟩))
            | (go_at_call 44; ((with_reducible refine (C2.out).mono ?_); rintro e w1 ⟨rfl, rfl⟩)))
          go_ret
          exact ⟨rfl, rfl⟩
      · have C1 := Lib.hid (there_sum_no t j H.out (by omega) c1)
        clear hA c1
        go_wp2_with (go_at_call 44; ((with_reducible refine (C1.out).mono ?_); rintro e w1 ⟨rfl, rfl⟩))
        go_ret
        exact ⟨rfl, rfl⟩
    · exfalso
      obtain rfl : j = k := by omega
      exact HB.out hA
end Go.Proofs.Ytbkpbineagfbgaa
