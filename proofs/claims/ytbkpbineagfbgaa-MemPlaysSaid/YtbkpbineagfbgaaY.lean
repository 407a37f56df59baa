/- Contracts of the document's memory: Count, StateOf, there, Load, Store, Cas. -/
import Derived.Test.YtbkpbineagfbgaaX
import Derived.Test.YtbkpbineagfbgaaH
namespace Go.Proofs.Ytbkpbineagfbgaa
open Go.ChangeShapes Go.WideShapes Go.ChangeAt Go.RowKit
variable {W W' : World} {S T : Nat → Prop} {br bs bw n : Nat} {st wd : Nat → Int} {ws : Nat → Value} {bl : Nat → Nat}

set_option maxHeartbeats 1000000 in
theorem rcount_any (s : Int) (h : Ref W T br bs bw n st wd ws bl) :
    Calls Try.prog 14 #[.pointer (some ⟨br, 0, none⟩), .int .i64 s] W fun e w' => e = .returned (.int .i64 (cnt st s n : Nat)) ∧ W = w' := by
  have hp := h.ptr0
  have hl := h.le
  go_enter Try.func14, Try.ntmps14
  go_wp2
  go_loop [5, 6] (fun c i => ∃ j : Nat, j ≤ n ∧ c = .int .i64 (cnt st s j : Nat) ∧ i = .int .i64 (j : Int)) (fun _ i => n - (intOf i).toNat)
  case atStart => exact ⟨0, Nat.zero_le _, rfl, rfl⟩
  case round =>
    obtain ⟨j, hj, rfl, rfl⟩ := hrel
    have hle := cnt_le st s j
    by_cases hlt : j < n
    · have hs := h.cellState (p := j) hlt
      by_cases he : st j = s
      · have hn : cnt st s (j + 1) = cnt st s j + 1 := by rw [cnt, if_pos he]
        have HN := Lib.hid hn
        clear hn
        generalize cnt st s j = q at *
        go_wp2
        go_round
        case rel => exact ⟨j + 1, by omega, by rw [HN.out]; go_num, by go_num⟩
        case measure => simp [intOf]; omega
      · have hn : cnt st s (j + 1) = cnt st s j := by rw [cnt, if_neg he]; rfl
        have HN := Lib.hid hn
        clear hn
        generalize cnt st s j = q at *
        go_wp2
        go_round
        case rel => exact ⟨j + 1, by omega, by rw [HN.out], by go_num⟩
        case measure => simp [intOf]; omega
    · obtain rfl : j = n := by omega
      go_wp2
      go_ret
      exact ⟨rfl, rfl⟩
theorem rstate_yes (p : Nat) (h : Ref W T br bs bw n st wd ws bl) (hp : p < n) :
    Calls Try.prog 16 #[.pointer (some ⟨br, 0, none⟩), .int .i64 (p : Int)] W fun e w' => e = .returned (.int .i64 (st p)) ∧ W = w' := by
  have hh := h.ptr0
  have hl := h.le
  have hs := h.cellState hp
  clear h
  go_enter Try.func16, Try.ntmps16
  go_wp2
  go_ret
  exact ⟨rfl, rfl⟩
theorem rstate_no (a : Int) (h : Ref W T br bs bw n st wd ws bl) (ha : a < 0 ∨ (n : Int) ≤ a) :
    Calls Try.prog 16 #[.pointer (some ⟨br, 0, none⟩), .int .i64 a] W fun e w' => e = .returned (.int .i64 0) ∧ W = w' := by
  have hh := h.ptr0
  have hl := h.le
  clear h
  by_cases h0 : a < 0
  · clear ha
    go_enter Try.func16, Try.ntmps16
    go_wp2
    go_ret
    exact ⟨rfl, rfl⟩
  · have h1 : (n : Int) ≤ a := by omega
    have h2 : 0 ≤ a := by omega
    clear ha h0
    go_enter Try.func16, Try.ntmps16
    go_wp2
    go_ret
    exact ⟨rfl, rfl⟩

/-- The document: the word is there. -/
def RThere (n : Nat) (st : Nat → Int) (a : Nat) : Prop := a < n * 64 ∧ st (a / 64) ≠ 0
theorem there_yes (a : Nat) (h : Ref W T br bs bw n st wd ws bl) (ha : RThere n st a) :
    Calls Try.prog 44 #[.pointer (some ⟨br, 0, none⟩), .int .i64 (a : Int)] W fun e w' => e = .returned (.bool true) ∧ W = w' := by
  have hh := h.ptr0
  have hl := h.le
  have hlt := ha.1
  have hs := h.cellState (p := a / 64) (by omega)
  have hb : (st (a / 64) != 0) = true := by simpa using ha.2
  clear h ha
  go_enter Try.func44, Try.ntmps44
  go_wp2
  go_ret
  exact ⟨rfl, rfl⟩
theorem there_no (a : Int) (h : Ref W T br bs bw n st wd ws bl) (hr : -9223372036854775808 ≤ a) (hr2 : a ≤ 9223372036854775807) (ha : a < 0 ∨ ¬ RThere n st a.toNat) :
    Calls Try.prog 44 #[.pointer (some ⟨br, 0, none⟩), .int .i64 a] W fun e w' => e = .returned (.bool false) ∧ W = w' := by
  have hh := h.ptr0
  have hl := h.le
  by_cases h0 : a < 0
  · clear ha h
    go_enter Try.func44, Try.ntmps44
    go_wp2
    go_ret
    exact ⟨rfl, rfl⟩
  · obtain ⟨a, rfl⟩ : ∃ a' : Nat, a = (a' : Int) := ⟨a.toNat, by omega⟩
    rw [Int.toNat_natCast] at ha
    have ha := ha.resolve_left (by omega)
    by_cases h1 : a < n * 64
    · have hs := h.cellState (p := a / 64) (by omega)
      have hz : st (a / 64) = 0 := Classical.byContradiction fun c => ha ⟨h1, c⟩
      rw [hz] at hs
      clear ha h hz h0
      go_enter Try.func44, Try.ntmps44
      go_wp2
      go_ret
      exact ⟨rfl, rfl⟩
    · clear ha h h0
      have h2 : ¬ (a : Int) / 64 < n := by omega
      go_enter Try.func44, Try.ntmps44
      go_wp2
      go_ret
      exact ⟨rfl, rfl⟩

theorem rload_no (a : Int) (h : Ref W T br bs bw n st wd ws bl) (hr : -9223372036854775808 ≤ a) (hr2 : a ≤ 9223372036854775807) (ha : a < 0 ∨ ¬ RThere n st a.toNat) :
    Calls Try.prog 27 #[.pointer (some ⟨br, 0, none⟩), .int .i64 a] W fun e w' => e = .returned (.tuple #[.int .u64 0, .int .i64 6]) ∧ W = w' := by
  have C := Lib.hid (there_no a h hr hr2 ha)
  clear h ha
  go_enter Try.func27, Try.ntmps27
  go_wp2_with (go_at_call 44; ((with_reducible refine (C.out).mono ?_); rintro e w1 ⟨rfl, rfl⟩))
  go_ret2
  exact ⟨rfl, rfl⟩
theorem rload_yes (a : Nat) (h : Ref W T br bs bw n st wd ws bl) (ha : RThere n st a) :
    Calls Try.prog 27 #[.pointer (some ⟨br, 0, none⟩), .int .i64 (a : Int)] W fun e w' => e = .returned (.tuple #[.int .u64 (wd a), .int .i64 0]) ∧ Ref w' T br bs bw n (upd st (a / 64) 1) wd ws bl ∧ Chg T W w' := by
  have C := Lib.hid (there_yes a h ha)
  have hh := h.ptr0
  have hl := h.le
  have hlt := ha.1
  have hs := h.cellState (p := a / 64) (by omega)
  have hsf := h.state.free (a / 64)
  have h2 := h.setState (p := a / 64) 1 ha.2
  have k1 := h2.ptr1
  have k2 := h2.cellPage (p := a / 64) (by omega) (by rw [upd_same]; omega)
  have k3 := h2.cellWord (a := a) hlt (by rw [upd_same]; omega)
  have HR := Lib.hid h2
  have HT := Lib.hid h.own
  clear h h2 ha
  go_enter Try.func27, Try.ntmps27
  go_wp2_with (go_at_call 44; ((with_reducible refine (C.out).mono ?_); rintro e w1 ⟨rfl, rfl⟩))
  go_ret2
  exact ⟨rfl, HR.out, (Chg.refl _ _).setCell (fun _ => HT.out.2.1) _⟩
end Go.Proofs.Ytbkpbineagfbgaa
