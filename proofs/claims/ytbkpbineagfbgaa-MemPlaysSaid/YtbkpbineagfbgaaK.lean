/- MemFresh: words of a page that comes back are 0. -/
import Derived.Test.YtbkpbineagfbgaaJ
namespace Go.Proofs.Ytbkpbineagfbgaa
open Go.ChangeShapes Go.WideShapes Go.ChangeAt Go.RowKit

def one : Nat → Int := fun _ => 1
/-- Each of the first words holds its number and 7. -/
def wf (j : Nat) : Nat → Int := fun a => if a < j then (a : Int) + 7 else 0
/-- So it is, but in one page. -/
def wq (q : Nat) : Nat → Int := fun a => if a / 64 = q then 0 else wf 256 a
/-- The pages are there, the first of them mapped. -/
def Some4 (w W : World) (bm bp q j : Nat) : Prop := ∃ st : Nat → Int, (∀ p, p < 4 → st p = 1 ∨ st p = 2) ∧ (∀ p, p < 4 → p * 64 < j → st p = 1) ∧ Own w W bm bp 4 st (wq q)
theorem wf_step (j : Nat) : upd (wf j) j ((j : Int) + 7) = wf (j + 1) := by
  funext a; unfold upd wf
  by_cases e : a = j
  · subst e; rw [if_pos rfl, if_pos (by omega)]
  · rw [if_neg e]
    by_cases c : a < j
    · rw [if_pos c, if_pos (by omega)]
    · rw [if_neg c, if_neg (by omega)]
theorem upd_one (p : Nat) : upd one p 1 = one := by funext q; unfold upd one; split <;> rfl

theorem fresh_store (w : World) (j : Nat) (hj : j < 256) (W : World) (bm bp : Nat) (h : Own w W bm bp 4 one (wf j)) : Calls Try.prog 18 #[.pointer (some ⟨bm, 0, none⟩), .int .i64 (j : Int), .int .u64 ((j : Int) + 7)] W fun e W' =>
    e = .returned (.int .i64 0) ∧ Own w W' bm bp 4 one (wf (j + 1)) :=
  (own_store j ((j : Int) + 7) h ⟨by omega, .inl rfl⟩).mono fun _ _ ⟨he, h⟩ => ⟨he, by rwa [upd_one, wf_step] at h⟩
theorem fresh_load (w : World) (q j : Nat) (hj : j < 256) (W : World) (bm bp : Nat) (h : Some4 w W bm bp q j) : Calls Try.prog 20 #[.pointer (some ⟨bm, 0, none⟩), .int .i64 (j : Int)] W fun e W' =>
    e = .returned (.tuple #[.int .u64 (wq q j), .int .i64 0]) ∧ Some4 w W' bm bp q (j + 1) := by
  obtain ⟨st, h1, h2, h3⟩ := h
  refine (own_load j h3 ⟨by omega, h1 _ (by omega)⟩).mono fun _ _ ⟨he, h⟩ => ⟨he, _, ?_, ?_, h⟩
  · intro p hp
    by_cases e : p = j / 64
    · subst e; rw [upd_same]; exact .inl rfl
    · rw [upd_other _ _ e]; exact h1 p hp
  · intro p hp hl
    by_cases e : p = j / 64
    · subst e; rw [upd_same]
    · rw [upd_other _ _ e]; exact h2 p hp (by omega)
theorem wq_yes {q j : Nat} (h : j / 64 = q) : wq q j = 0 := by unfold wq; rw [if_pos h]
theorem wq_no {q j : Nat} (h : j / 64 ≠ q) (hj : j < 256) : wq q j = (j : Int) + 7 := by unfold wq wf; rw [if_neg h, if_pos hj]
theorem cnt_all {st : Nat → Int} {s : Int} : ∀ n, (∀ p, p < n → st p = s) → cnt st s n = n
  | 0, _ => rfl
  | n + 1, h => by unfold cnt; rw [cnt_all n (fun p hp => h p (by omega)), if_pos (h n (by omega))]
theorem cnt_none {st : Nat → Int} {s : Int} : ∀ n, (∀ p, p < n → st p ≠ s) → cnt st s n = 0
  | 0, _ => rfl
  | n + 1, h => by unfold cnt; rw [cnt_none n (fun p hp => h p (by omega)), if_neg (h n (by omega))]
theorem fresh_counts (w : World) (q : Nat) (W : World) (bm bp : Nat) (h : Some4 w W bm bp q 256) : Calls Try.prog 13 #[.pointer (some ⟨bm, 0, none⟩)] W fun e W' => e = .returned (.tuple #[.int .i64 4, .int .i64 0]) ∧ W = W' := by
  obtain ⟨st, h1, h2, h3⟩ := h
  have h := counts_any h3.mem
  rw [cnt_all 4 (fun p hp => h2 p hp (by omega)), cnt_none 4 (fun p hp => by rw [h2 p hp (by omega)]; omega)] at h
  exact h
theorem Some4.chg {w W : World} {bm bp q j : Nat} (h : Some4 w W bm bp q j) : Chg (fun _ => False) w W := h.choose_spec.2.2.chg

set_option maxRecDepth 100000 in
set_option maxHeartbeats 2000000 in
theorem fresh_walk (a0 a1 : Int) (w : World) (l0 : 0 ≤ a0) (u0 : a0 ≤ 255) (l1 : 0 ≤ a1) (u1 : a1 ≤ 255) :
    Calls Try.prog 6 #[.int .u8 a0, .int .u8 a1] w fun e w' => e = .returned (.bool true) ∧ Grown w w' := by
  obtain ⟨q, hq, hq4⟩ : ∃ q : Nat, a0 % 4 = (q : Int) ∧ q < 4 := ⟨(a0 % 4).toNat, by omega, by omega⟩
  have A9 : Calls Try.prog 9 #[.int .i64 4] w fun e W' => ∃ bm bp, e = .returned (.tuple #[.pointer (some ⟨bm, 0, none⟩), .int .i64 0]) ∧ Own w W' bm bp 4 zro zro := own_new 4 w w (Chg.refl _ _) (by omega) (by omega)
  have A9 := Lib.hid A9
  have A11 := Lib.hid awake_any
  have A17 : ∀ (W : World) (bm bp : Nat), Own w W bm bp 4 zro zro → Calls Try.prog 17 #[.pointer (some ⟨bm, 0, none⟩), .int .i64 0, .int .i64 4] W fun e W' => e = .returned (.int .i64 0) ∧ Own w W' bm bp 4 one (wf 0) :=
    fun W bm bp h => (own_map 0 4 h (by omega) (by omega) (by decide +kernel)).mono fun _ _ ⟨he, h⟩ => ⟨he, own_congr h (fun p hp => by unfold rst one; rw [if_pos (by omega)]) (fun a ha => by unfold rwd wf; rw [if_pos (by omega), if_neg (by omega)])⟩
  have A17 := Lib.hid A17
  have hwq : ∀ a, a < 4 * 64 → rwd (wf 256) q 1 a = wq q a := fun a ha => by
    unfold rwd wq
    by_cases c : a / 64 = q
    · rw [if_pos (by omega), if_pos c]
    · rw [if_neg (by omega), if_neg c]
  have A23 : ∀ (W : World) (bm bp : Nat), Own w W bm bp 4 one (wf 256) → Calls Try.prog 23 #[.pointer (some ⟨bm, 0, none⟩), .int .i64 (q : Int), .int .i64 1] W fun e W' => e = .returned (.int .i64 0) ∧ Own w W' bm bp 4 (rst one q 1 2) (wq q) :=
    fun W bm bp h => (own_release q 1 h (by omega) (by omega) rfl).mono fun _ _ ⟨he, h⟩ => ⟨he, own_congr h (fun _ _ => rfl) hwq⟩
  have A23 := Lib.hid A23
  have A15 : ∀ (W : World) (bm bp : Nat), Own w W bm bp 4 (rst one q 1 2) (wq q) → Calls Try.prog 15 #[.pointer (some ⟨bm, 0, none⟩), .int .i64 (q : Int)] W fun e W' => e = .returned (.int .i64 2) ∧ W = W' := fun W bm bp h => by
    have h := state_yes q h.mem hq4
    rwa [show rst one q 1 2 q = 2 by unfold rst; rw [if_pos (by omega)]] at h
  have A15 := Lib.hid A15
  have A22 : ∀ (W : World) (bm bp : Nat), Own w W bm bp 4 one (wf 256) → Calls Try.prog 22 #[.pointer (some ⟨bm, 0, none⟩), .int .i64 (q : Int), .int .i64 1] W fun e W' => e = .returned (.int .i64 0) ∧ Own w W' bm bp 4 (rst one q 1 0) (wq q) :=
    fun W bm bp h => (own_unmap q 1 h (by omega) (by omega) rfl).mono fun _ _ ⟨he, h⟩ => ⟨he, own_congr h (fun _ _ => rfl) hwq⟩
  have A22 := Lib.hid A22
  have B17 : ∀ (W : World) (bm bp : Nat), Own w W bm bp 4 (rst one q 1 0) (wq q) → Calls Try.prog 17 #[.pointer (some ⟨bm, 0, none⟩), .int .i64 (q : Int), .int .i64 1] W fun e W' => e = .returned (.int .i64 0) ∧ Own w W' bm bp 4 one (wq q) :=
    fun W bm bp h => (own_map q 1 h (by omega) (by omega) (by unfold allB allB; rw [show rst one q 1 0 (q + 0) = 0 by unfold rst; rw [if_pos (by omega)]]; rfl)).mono fun _ _ ⟨he, h⟩ => ⟨he, own_congr h (fun p hp => by
      unfold rst one
      by_cases c : q ≤ p ∧ p < q + 1
      · rw [if_pos c]
      · rw [if_neg c, if_neg c]) (fun a ha => by
      unfold rwd
      by_cases c : q ≤ a / 64 ∧ a / 64 < q + 1
      · rw [if_pos c, wq_yes (by omega)]
      · rw [if_neg c])⟩
  have B17 := Lib.hid B17
  have B15 : ∀ (W : World) (bm bp : Nat), Own w W bm bp 4 one (wq q) → Calls Try.prog 15 #[.pointer (some ⟨bm, 0, none⟩), .int .i64 (q : Int)] W fun e W' => e = .returned (.int .i64 1) ∧ W = W' := fun W bm bp h => state_yes q h.mem hq4
  have B15 := Lib.hid B15
  have AS := Lib.hid (fresh_store w)
  have AL := Lib.hid (fresh_load w q)
  have AC := Lib.hid (fresh_counts w q)
  clear hwq
  have hw : a1 % 2 = 0 ∨ a1 % 2 = 1 := by omega
  rcases hw with hw | hw
  all_goals
    go_enter Try.func6, Try.ntmps6
    go_wp2_with (first
      | (go_at_call 9; ((with_reducible refine (A9.out).mono ?_); rintro e w1 ⟨bm, bp, rfl, h⟩; have H9 := Lib.hid h; clear h))
      | (go_at_call 11; ((with_reducible refine (A11.out _).mono ?_); rintro e w1 ⟨rfl, h⟩; have H11 := Lib.hid (H9.out.same h); clear h))
      | (go_at_call 17; ((with_reducible refine (A17.out _ _ _ H11.out).mono ?_); rintro e w1 ⟨rfl, h⟩; have H17 := Lib.hid h; clear h)))
    go_loopw [34] (fun i wr => ∃ j : Nat, j ≤ 256 ∧ i = .int .i64 (j : Int) ∧ Own w wr bm bp 4 one (wf j)) (fun i _ => 256 - (intOf i).toNat)
    case atStart => exact ⟨0, Nat.zero_le _, rfl, H17.out⟩
    case round =>
      obtain ⟨j, hj, rfl, hO⟩ := hrel
      have HO := Lib.hid hO
      clear hO
      by_cases hlt : j < 256
      · go_wp2_with (go_at_call 18; ((with_reducible refine (AS.out j hlt _ _ _ HO.out).mono ?_); rintro e w1 ⟨rfl, h⟩; have H18 := Lib.hid h; clear h))
        go_roundw
        case rel => exact ⟨j + 1, by omega, by go_num, H18.out⟩
        case measure => simp [intOf]; omega
      · obtain rfl : j = 256 := by omega
        go_wp2_with (first
          | (go_at_call 23; ((with_reducible refine (A23.out _ _ _ HO.out).mono ?_); rintro e w1 ⟨rfl, h⟩; have H23 := Lib.hid h; clear h))
          | (go_at_call 15; ((with_reducible refine (A15.out _ _ _ H23.out).mono ?_); rintro e w1 ⟨rfl, rfl⟩; have HS : Hid (Some4 w w1 bm bp q 0) := Lib.hid ⟨_, fun p _ => (by unfold rst one; by_cases c : q ≤ p ∧ p < q + 1; (rw [if_pos c]; exact .inr rfl); (rw [if_neg c]; exact .inl rfl)), fun p _ h => absurd h (by omega), H23.out⟩))
          | (go_at_call 22; ((with_reducible refine (A22.out _ _ _ HO.out).mono ?_); rintro e w1 ⟨rfl, h⟩; have H22 := Lib.hid h; clear h))
          | (go_at_call 17; ((with_reducible refine (B17.out _ _ _ H22.out).mono ?_); rintro e w1 ⟨rfl, h⟩; have H27 := Lib.hid h; clear h))
          | (go_at_call 15; ((with_reducible refine (B15.out _ _ _ H27.out).mono ?_); rintro e w1 ⟨rfl, rfl⟩; have HS : Hid (Some4 w w1 bm bp q 0) := Lib.hid ⟨_, fun p _ => .inl rfl, fun p _ h => absurd h (by omega), H27.out⟩)))
        go_loopw [77] (fun i wr => ∃ j : Nat, j ≤ 256 ∧ i = .int .i64 (j : Int) ∧ Some4 w wr bm bp q j) (fun i _ => 256 - (intOf i).toNat)
        case atStart => exact ⟨0, Nat.zero_le _, rfl, HS.out⟩
        case round =>
          obtain ⟨j, hj, rfl, hO⟩ := hrel
          have HO2 := Lib.hid hO
          clear hO
          by_cases hlt : j < 256
          · by_cases he : j / 64 = q
            · have C := AL.out j hlt _ _ _ HO2.out
              rw [wq_yes he] at C
              have C := Lib.hid C
              have he' : (j : Int) / 64 = q := by omega
              clear he
              go_wp2_with (go_at_call 20; ((with_reducible refine (C.out).mono ?_); rintro e w2 ⟨rfl, h⟩; have H20 := Lib.hid h; clear h))
              go_roundw
              case rel => exact ⟨j + 1, by omega, by go_num, H20.out⟩
              case measure => simp [intOf]; omega
            · have C := AL.out j hlt _ _ _ HO2.out
              rw [wq_no he hlt] at C
              have C := Lib.hid C
              have he' : ¬ (j : Int) / 64 = q := by omega
              clear he
              go_wp2_with (go_at_call 20; ((with_reducible refine (C.out).mono ?_); rintro e w2 ⟨rfl, h⟩; have H20 := Lib.hid h; clear h))
              go_roundw
              case rel => exact ⟨j + 1, by omega, by go_num, H20.out⟩
              case measure => simp [intOf]; omega
          · obtain rfl : j = 256 := by omega
            go_wp2_with (go_at_call 13; ((with_reducible refine (AC.out _ _ _ HO2.out).mono ?_); rintro e w2 ⟨rfl, rfl⟩))
            go_ret
            exact ⟨rfl, HO2.out.chg.grown (fun _ _ h => h)⟩
end Go.Proofs.Ytbkpbineagfbgaa
