/- Contracts of layer 3's pages: count, Counts, State, change. -/
import Derived.Test.YtbkpbineagfbgaaD
namespace Go.Proofs.Ytbkpbineagfbgaa
open Go.ChangeShapes Go.WideShapes Go.ChangeAt Go.RowKit

/-- How many of the first pages are in a state. -/
def cnt (st : Nat → Int) (s : Int) : Nat → Nat
  | 0 => 0
  | n + 1 => cnt st s n + if st n = s then 1 else 0
theorem cnt_le (st : Nat → Int) (s : Int) : ∀ n, cnt st s n ≤ n
  | 0 => Nat.le_refl _
  | n + 1 => by have := cnt_le st s n; unfold cnt; split <;> omega

set_option maxHeartbeats 1000000 in
theorem count_any (s : Int) {w : World} {bm bp n : Nat} {st wd : Nat → Int} (h : Mem w bm bp n st wd) :
    Calls Try.prog 31 #[.pointer (some ⟨bm, 0, none⟩), .int .i64 s] w fun e w' => e = .returned (.int .i64 (cnt st s n : Nat)) ∧ w = w' := by
  have hp := h.ptr
  have hl := h.le
  go_enter Try.func31, Try.ntmps31
  go_wp2
  go_loop [5, 12] (fun c i => ∃ j : Nat, j ≤ n ∧ c = .int .i64 (cnt st s j : Nat) ∧ i = .int .i64 (j : Int)) (fun _ i => n - (intOf i).toNat)
  case atStart => exact ⟨0, Nat.zero_le _, rfl, rfl⟩
  case round =>
    obtain ⟨j, hj, rfl, rfl⟩ := hrel
    have hle := cnt_le st s j
    by_cases hlt : j < n
    · have hs := h.state (p := j) hlt
      by_cases he : st j = s
      · have hn : cnt st s (j + 1) = cnt st s j + 1 := by rw [cnt, if_pos he]
        have HN := Lib.hid hn
        clear hn
        generalize cnt st s j = q at *
        go_wp2
        go_round
        case rel => exact ⟨j + 1, by omega, by rw [HN.out]; go_num, by go_num⟩
        case measure => simp [intOf]; omega
      · have hn : cnt st s (j + 1) = cnt st s j := by rw [cnt, if_neg he]; rfl
        have HN := Lib.hid hn
        clear hn
        generalize cnt st s j = q at *
        go_wp2
        go_round
        case rel => exact ⟨j + 1, by omega, by rw [HN.out], by go_num⟩
        case measure => simp [intOf]; omega
    · obtain rfl : j = n := by omega
      go_wp2
      go_ret
      exact ⟨rfl, rfl⟩
theorem counts_nil (w : World) : Calls Try.prog 13 #[.pointer none] w fun e w' => e = .returned (.tuple #[.int .i64 0, .int .i64 0]) ∧ w = w' := by
  go_enter Try.func13, Try.ntmps13
  go_wp2
  go_ret2
  exact ⟨rfl, rfl⟩
theorem counts_any {w : World} {bm bp n : Nat} {st wd : Nat → Int} (h : Mem w bm bp n st wd) :
    Calls Try.prog 13 #[.pointer (some ⟨bm, 0, none⟩)] w fun e w' => e = .returned (.tuple #[.int .i64 (cnt st 1 n : Nat), .int .i64 (cnt st 2 n : Nat)]) ∧ w = w' := by
  have C := Lib.hid fun s => count_any s h
  clear h
  go_enter Try.func13, Try.ntmps13
  go_wp2_with (go_at_call 31; ((with_reducible refine (C.out _).mono ?_); rintro e w1 ⟨rfl, rfl⟩))
  go_ret2
  exact ⟨rfl, rfl⟩
theorem state_nil (a : Int) (w : World) : Calls Try.prog 15 #[.pointer none, .int .i64 a] w fun e w' => e = .returned (.int .i64 0) ∧ w = w' := by
  go_enter Try.func15, Try.ntmps15
  go_wp2
  go_ret
  exact ⟨rfl, rfl⟩
theorem state_yes (p : Nat) {w : World} {bm bp n : Nat} {st wd : Nat → Int} (h : Mem w bm bp n st wd) (hp : p < n) :
    Calls Try.prog 15 #[.pointer (some ⟨bm, 0, none⟩), .int .i64 (p : Int)] w fun e w' => e = .returned (.int .i64 (st p)) ∧ w = w' := by
  have hh := h.ptr
  have hl := h.le
  have hs := h.state hp
  have C := Lib.hid (within_yes p 1 n w (by omega) (by omega) (by omega) (by omega) (by omega) (by omega))
  clear h
  go_enter Try.func15, Try.ntmps15
  go_wp2_with (go_at_call 32; ((with_reducible refine (C.out).mono ?_); rintro e w1 ⟨rfl, rfl⟩))
  go_ret
  exact ⟨rfl, rfl⟩
theorem state_no (a : Int) {w : World} {bm bp n : Nat} {st wd : Nat → Int} (h : Mem w bm bp n st wd) (ha : a < 0 ∨ (n : Int) ≤ a) :
    Calls Try.prog 15 #[.pointer (some ⟨bm, 0, none⟩), .int .i64 a] w fun e w' => e = .returned (.int .i64 0) ∧ w = w' := by
  have hh := h.ptr
  have hl := h.le
  have C := Lib.hid (within_no a 1 n w (by omega) (by omega) (by omega) (by omega) (by omega))
  clear h ha
  go_enter Try.func15, Try.ntmps15
  go_wp2_with (go_at_call 32; ((with_reducible refine (C.out).mono ?_); rintro e w1 ⟨rfl, rfl⟩))
  go_ret
  exact ⟨rfl, rfl⟩

def rst (st : Nat → Int) (b k : Nat) (s : Int) : Nat → Int := fun p => if b ≤ p ∧ p < b + k then s else st p
def rwd (wd : Nat → Int) (b k : Nat) : Nat → Int := fun a => if b ≤ a / 64 ∧ a / 64 < b + k then 0 else wd a
theorem rst_zero (st : Nat → Int) (b : Nat) (s : Int) : rst st b 0 s = st := by funext p; unfold rst; rw [if_neg (by omega)]
theorem rwd_zero (wd : Nat → Int) (b : Nat) : rwd wd b 0 = wd := by funext p; unfold rwd; rw [if_neg (by omega)]
theorem rst_step (st : Nat → Int) (b k : Nat) (s : Int) : rst st b (k + 1) s = upd (rst st b k s) (b + k) s := by
  funext p; unfold rst upd
  by_cases e : p = b + k
  · rw [if_pos (by omega), if_pos e]
  · rw [if_neg e]
    dsimp only
    by_cases c : b ≤ p ∧ p < b + k
    · rw [if_pos c, if_pos (by omega)]
    · rw [if_neg c, if_neg (by omega)]
theorem rwd_step (wd : Nat → Int) (b k : Nat) : rwd wd b (k + 1) = clr (rwd wd b k) (b + k) := by
  funext a; unfold rwd clr
  by_cases e : a / 64 = b + k
  · rw [if_pos (by omega), if_pos e]
  · rw [if_neg e]
    dsimp only
    by_cases c : b ≤ a / 64 ∧ a / 64 < b + k
    · rw [if_pos c, if_pos (by omega)]
    · rw [if_neg c, if_neg (by omega)]

theorem change_nil (t b k : Int) (fit : Value) (w : World) : Calls Try.prog 33 #[.pointer none, .int .i64 t, .int .i64 b, .int .i64 k, fit] w fun e w' => e = .returned (.int .i64 5) ∧ w = w' := by
  go_enter Try.func33, Try.ntmps33
  go_wp2
  go_ret
  exact ⟨rfl, rfl⟩
theorem change_arg (t b k : Int) (fit : Value) {w : World} {bm bp n : Nat} {st wd : Nat → Int} (h : Mem w bm bp n st wd) (hk : k ≤ 9223372036854775807) (hb : k < 1 ∨ b < 0 ∨ (n : Int) - k < b) :
    Calls Try.prog 33 #[.pointer (some ⟨bm, 0, none⟩), .int .i64 t, .int .i64 b, .int .i64 k, fit] w fun e w' => e = .returned (.int .i64 1) ∧ w = w' := by
  have hh := h.ptr
  have hl := h.le
  clear h
  by_cases h1 : k < 1
  · go_enter Try.func33, Try.ntmps33
    go_wp2
    go_ret
    exact ⟨rfl, rfl⟩
  · have h1' : 1 ≤ k := by omega
    have C := Lib.hid (within_no b k n w (by omega) (by omega) (by omega) (by omega) (by omega))
    clear hb
    go_enter Try.func33, Try.ntmps33
    go_wp2_with (go_at_call 32; ((with_reducible refine (C.out).mono ?_); rintro e w1 ⟨rfl, rfl⟩))
    go_ret
    exact ⟨rfl, rfl⟩
theorem change_state (t : Int) (b k : Nat) (fit : Value) {w : World} {bm bp n : Nat} {st wd : Nat → Int} (h : Mem w bm bp n st wd) (hk : 1 ≤ k) (hb : b + k ≤ n)
    (hA : Calls Try.prog 45 #[.pointer (some ⟨bm, 0, none⟩), .int .i64 (b : Int), .int .i64 (k : Int), fit] w fun e w' => e = .returned (.bool false) ∧ w = w') :
    Calls Try.prog 33 #[.pointer (some ⟨bm, 0, none⟩), .int .i64 t, .int .i64 (b : Int), .int .i64 (k : Int), fit] w fun e w' => e = .returned (.int .i64 5) ∧ w = w' := by
  have hh := h.ptr
  have hl := h.le
  have C := Lib.hid (within_yes b k n w (by omega) (by omega) (by omega) (by omega) (by omega) (by omega))
  have C2 := Lib.hid hA
  clear h hA
  go_enter Try.func33, Try.ntmps33
  go_wp2_with (first
    | (go_at_call 32; ((with_reducible refine (C.out).mono ?_); rintro e w1 ⟨rfl, rfl⟩))
    | (go_at_call 45; ((with_reducible refine (C2.out).mono ?_); rintro e w1 ⟨rfl, rfl⟩)))
  go_ret
  exact ⟨rfl, rfl⟩
set_option maxHeartbeats 1000000 in
theorem change_ok (t : Int) (b k : Nat) (fit : Value) {w : World} {bm bp n : Nat} {st wd : Nat → Int} (h : Mem w bm bp n st wd) (hk : 1 ≤ k) (hb : b + k ≤ n) (ht : 0 ≤ t ∧ t ≤ 2)
    (hA : Calls Try.prog 45 #[.pointer (some ⟨bm, 0, none⟩), .int .i64 (b : Int), .int .i64 (k : Int), fit] w fun e w' => e = .returned (.bool true) ∧ w = w') :
    Calls Try.prog 33 #[.pointer (some ⟨bm, 0, none⟩), .int .i64 t, .int .i64 (b : Int), .int .i64 (k : Int), fit] w fun e w' =>
      e = .returned (.int .i64 0) ∧ Mem w' bm bp n (rst st b k t) (rwd wd b k) ∧ Chg (· = bp) w w' := by
  have hh := h.ptr
  have hl := h.le
  have C := Lib.hid (within_yes b k n w (by omega) (by omega) (by omega) (by omega) (by omega) (by omega))
  have C2 := Lib.hid hA
  have M0 := Lib.hid (show Mem w bm bp n (rst st b 0 t) (rwd wd b 0) by rw [rst_zero, rwd_zero]; exact h)
  clear h hA
  go_enter Try.func33, Try.ntmps33
  go_wp2_with (first
    | (go_at_call 32; ((with_reducible refine (C.out).mono ?_); rintro e w1 ⟨rfl, rfl⟩))
    | (go_at_call 45; ((with_reducible refine (C2.out).mono ?_); rintro e w1 ⟨rfl, rfl⟩)))
  go_loopw [34] (fun i wr => ∃ j : Nat, j ≤ k ∧ i = .int .i64 (j : Int) ∧ Mem wr bm bp n (rst st b j t) (rwd wd b j) ∧ Chg (· = bp) w wr) (fun i _ => k - (intOf i).toNat)
  case atStart => exact ⟨0, Nat.zero_le _, rfl, M0.out, Chg.refl _ _⟩
  case round =>
    obtain ⟨j, hj, rfl, hM, hC⟩ := hrel
    have hp := hM.ptr
    by_cases hlt : j < k
    · have ht2 := hM.there (p := b + j) (by omega) t
      have hM2 := hM.setPage (p := b + j) (by omega) t ht
      have hC2 := hC.setCells (g := bp) (fun _ => rfl) ((b + j) * 65) (pageOf t).toList
      rw [← rst_step, ← rwd_step] at hM2
      obtain ⟨c, hc0⟩ : ∃ c, c = pageOf t := ⟨_, rfl⟩
      rw [← hc0] at hM2 hC2 ht2
      have hc := Lib.hid hc0
      have HM := Lib.hid hM
      have HM2 := Lib.hid hM2
      have HC2 := Lib.hid hC2
      have HT := Lib.hid ht2
      clear hM hc0 hM2 ht2 hC hC2
      go_wp2_with (first | (refine wpList_page rfl (.tmp 44) rfl t rfl c hc ?_) | refine wpList_store_mid rfl 73 (.tmp 46) (.tmp 45) rfl bp ((b + j) * 65) c rfl rfl HT.out (by rw [hc.out, size_pageOf]; exact info73) (by rw [hc.out]; exact one_pageOf t) ?_)
      go_roundw
      case rel => exact ⟨j + 1, by omega, by go_num, HM2.out, HC2.out⟩
      case measure => simp [intOf]; omega
    · obtain rfl : j = k := by omega
      go_wp2
      go_ret
      exact ⟨rfl, hM, hC⟩
end Go.Proofs.Ytbkpbineagfbgaa
