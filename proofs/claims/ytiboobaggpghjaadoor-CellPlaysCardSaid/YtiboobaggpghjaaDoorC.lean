/- Contracts of layer 4's parts, the program's and the document's: fill, set, Used, IsUsed, slices.Contains. -/
import Derived.Test.YtiboobaggpghjaaDoorW
import Derived.Outline
import Derived.WalkLawsBesides
import Derived.LoopN
import Derived.WalkMore
import Derived.Deep.LoopGhost
import Derived.Lib.Hide
namespace Go.Proofs.YtiboobaggpghjaaDoor
open Go.ChangeShapes Go.WideShapes Go.ChangeAt Go.RowKit

variable {w : World} {bm bp n : Nat} {us : Nat → Bool}

theorem used_yes (x : Nat) (h : Pg 113 w bm bp n us) (hx : x < n) : Calls Tryd.prog 83 #[.pointer (some ⟨bm, 0, none⟩), .int .i64 (x : Int)] w fun e w' => e = .returned (.bool (us x)) ∧ w = w' := by
  have hp := h.ptr
  have hl := h.le
  have hm := h.mark hx
  clear h
  go_enter Tryd.func83, Tryd.ntmps83
  go_wp2
  go_ret
  exact ⟨rfl, rfl⟩
theorem used_no (x : Int) (h : Pg 113 w bm bp n us) (hx : x < 0 ∨ (n : Int) ≤ x) : Calls Tryd.prog 83 #[.pointer (some ⟨bm, 0, none⟩), .int .i64 x] w fun e w' => e = .returned (.bool true) ∧ w = w' := by
  have hp := h.ptr
  have hl := h.le
  clear h
  rcases hx with hx | hx
  · go_enter Tryd.func83, Tryd.ntmps83
    go_wp2
    go_ret
    exact ⟨rfl, rfl⟩
  · have h0 : 0 ≤ x := by omega
    go_enter Tryd.func83, Tryd.ntmps83
    go_wp2
    go_ret
    exact ⟨rfl, rfl⟩
/-- The page is used, or isn't there. -/
def usd (us : Nat → Bool) (n : Nat) (x : Int) : Bool := decide (x < 0) || isU us n x.toNat
theorem usd_nat (us : Nat → Bool) (n x : Nat) : usd us n (x : Int) = isU us n x := by
  unfold usd; rw [decide_eq_false (by omega)]; rfl
theorem used_any (x : Int) (h : Pg 113 w bm bp n us) : Calls Tryd.prog 83 #[.pointer (some ⟨bm, 0, none⟩), .int .i64 x] w fun e w' => e = .returned (.bool (usd us n x)) ∧ w = w' := by
  by_cases c : x < 0 ∨ (n : Int) ≤ x
  · refine (used_no x h c).mono fun e w' ⟨he, hw⟩ => ⟨?_, hw⟩
    rw [he]
    unfold usd
    rcases c with c | c
    · rw [decide_eq_true c]; rfl
    · rw [isU_ge (by omega), Bool.or_true]
  · obtain ⟨x, rfl⟩ : ∃ x' : Nat, x = (x' : Int) := ⟨x.toNat, by omega⟩
    refine (used_yes x h (by omega)).mono fun e w' ⟨he, hw⟩ => ⟨?_, hw⟩
    rw [he, usd_nat, isU_lt (by omega)]
set_option maxHeartbeats 1000000 in
theorem fill_any (b k : Nat) (v : Bool) (h : Pg 113 w bm bp n us) (hb : b + k ≤ n) : Calls Tryd.prog 78 #[.pointer (some ⟨bm, 0, none⟩), .int .i64 (b : Int), .int .i64 (k : Int), .bool v] w fun e w' =>
    e = .returned (.tuple #[]) ∧ Pg 113 w' bm bp n (fil us b k v) ∧ Cha (· = bp) w w' := by
  have hl := h.le
  have H0 : Hid (Pg 113 w bm bp n (fil us b 0 v)) := Lib.hid (by rw [fil_zero]; exact h)
  have HC := Lib.hid (Cha.refl (· = bp) w)
  clear h
  go_enter Tryd.func78, Tryd.ntmps78
  go_wp2
  go_loopw [10] (fun i wr => ∃ j : Nat, j ≤ k ∧ i = .int .i64 (j : Int) ∧ Pg 113 wr bm bp n (fil us b j v) ∧ Cha (· = bp) w wr) (fun i _ => k - (intOf i).toNat)
  case atStart => exact ⟨0, Nat.zero_le _, rfl, H0.out, HC.out⟩
  case round =>
    clear H0 HC
    obtain ⟨j, hj, rfl, hP, hC⟩ := hrel
    by_cases hlt : j < k
    · have hp := hP.ptr
      have hf := hP.free (b + j)
      have hm := hP.mark (i := b + j) (by omega)
      have HP := hP.set (b + j) v
      rw [fil_step] at HP
      have HP := Lib.hid HP
      have HC := Lib.hid (hC.setCell (p := ⟨bp, b + j, none⟩) (fun _ => rfl) (.bool v))
      clear hP hC
      go_wp2
      go_roundw
      case rel => exact ⟨j + 1, by omega, by go_num, HP.out, HC.out⟩
      case measure => simp [intOf]; omega
    · obtain rfl : j = k := by omega
      have HP := Lib.hid hP
      have HC := Lib.hid hC
      clear hP hC
      go_wp2
      go_end0
      exact ⟨rfl, HP.out, HC.out⟩
set_option maxHeartbeats 1000000 in
theorem set_any (b k : Nat) (v : Bool) (h : Pg 107 w bm bp n us) (hb : b + k ≤ n) : Calls Tryd.prog 81 #[.pointer (some ⟨bm, 0, none⟩), .int .i64 (b : Int), .int .i64 (k : Int), .bool v] w fun e w' =>
    e = .returned (.tuple #[]) ∧ Pg 107 w' bm bp n (fil us b k v) ∧ Cha (· = bp) w w' := by
  have hl := h.le
  have H0 : Hid (Pg 107 w bm bp n (fil us b 0 v)) := Lib.hid (by rw [fil_zero]; exact h)
  have HC := Lib.hid (Cha.refl (· = bp) w)
  clear h
  go_enter Tryd.func81, Tryd.ntmps81
  go_wp2
  go_loopw [8] (fun i wr => ∃ j : Nat, j ≤ k ∧ i = .int .i64 ((b + j : Nat) : Int) ∧ Pg 107 wr bm bp n (fil us b j v) ∧ Cha (· = bp) w wr) (fun i _ => b + k - (intOf i).toNat)
  case atStart => exact ⟨0, Nat.zero_le _, rfl, H0.out, HC.out⟩
  case round =>
    clear H0 HC
    obtain ⟨j, hj, rfl, hP, hC⟩ := hrel
    by_cases hlt : j < k
    · have hp := hP.ptr
      have hf := hP.free (b + j)
      have hm := hP.mark (i := b + j) (by omega)
      have HP := hP.set (b + j) v
      rw [fil_step] at HP
      have HP := Lib.hid HP
      have HC := Lib.hid (hC.setCell (p := ⟨bp, b + j, none⟩) (fun _ => rfl) (.bool v))
      clear hP hC
      generalize hbj : b + j = c at *
      have hc : (c : Int) < b + k := by omega
      go_wp2
      go_roundw
      case rel => exact ⟨j + 1, by omega, by rw [← Nat.add_assoc, hbj]; go_num, HP.out, HC.out⟩
      case measure => simp [intOf]; omega
    · obtain rfl : j = k := by omega
      have HP := Lib.hid hP
      have HC := Lib.hid hC
      clear hP hC
      go_wp2
      go_end0
      exact ⟨rfl, HP.out, HC.out⟩
end Go.Proofs.YtiboobaggpghjaaDoor
