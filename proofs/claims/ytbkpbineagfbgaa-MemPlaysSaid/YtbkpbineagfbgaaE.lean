/- Contracts of layer 3's words: word, Load, Store, Cas. -/
import Derived.Test.YtbkpbineagfbgaaD
namespace Go.Proofs.Ytbkpbineagfbgaa
open Go.ChangeShapes Go.WideShapes Go.ChangeAt Go.RowKit

/-- Words of pages that aren't mapped are 0. -/
def Zer (n : Nat) (st wd : Nat → Int) : Prop := ∀ a, a < n * 64 → st (a / 64) ≠ 1 → wd a = 0
/-- The word is there. -/
def There (n : Nat) (st : Nat → Int) (a : Nat) : Prop := a < n * 64 ∧ (st (a / 64) = 1 ∨ st (a / 64) = 2)
theorem np_one (a : Nat) : np a 1 = 1 := by unfold np; omega
theorem wst_one {st : Nat → Int} {p : Nat} (h : st p = 1 ∨ st p = 2) : wst st p 1 = upd st p 1 := by
  funext q; unfold wst upd
  by_cases e : q = p
  · subst e
    rw [if_pos rfl]
    by_cases c : st q = 2
    · rw [if_pos (by omega)]
    · rw [if_neg (by omega)]; omega
  · rw [if_neg e, if_neg (by omega)]
theorem Mem.wwd {w : World} {bm bp n b k : Nat} {st st' wd : Nat → Int} (h : Mem w bm bp n st' (wwd st wd b k)) (hz : Zer n st wd) : Mem w bm bp n st' wd :=
  h.congr (fun _ _ => rfl) fun a ha => by
    unfold Ytbkpbineagfbgaa.wwd
    split
    · rename_i c; exact (hz a ha (by omega)).symm
    · rfl

theorem word_yes (a : Nat) {w : World} {bm bp n : Nat} {st wd : Nat → Int} (h : Mem w bm bp n st wd) (hz : Zer n st wd) (ha : There n st a) :
    Calls Try.prog 36 #[.pointer (some ⟨bm, 0, none⟩), .int .i64 (a : Int)] w fun e w' =>
      e = .returned (.pointer (some ⟨bp, a / 64 * 65 + 1 + a % 64, none⟩)) ∧ Mem w' bm bp n (upd st (a / 64) 1) wd ∧ Chg (· = bp) w w' := by
  have hlt := ha.1
  have hall : allB st (a / 64) [1, 2] (np a 1) = true := by
    rw [np_one, allB_iff]
    intro i hi
    have e0 : i = 0 := by omega
    rw [e0]
    simpa using ha.2
  have C1 : Calls Try.prog 38 #[.pointer (some ⟨bm, 0, none⟩), .int .i64 (a : Int), .int .i64 1] w _ := need_yes a 1 h (by omega) (by omega) hall
  have C1 := Lib.hid C1
  have hc : Chg (fun _ => False) w (w.alloc (.cells #[.int .i64 1, .int .i64 2] 69)) := (Chg.refl _ w).alloc _ _
  have hm : Mem (w.alloc (.cells #[.int .i64 1, .int .i64 2] 69)) bm bp n st wd := h.chg hc (fun x => x) (fun x => x)
  have C2 : Calls Try.prog 39 #[.pointer (some ⟨bm, 0, none⟩), .int .i64 (a : Int), .int .i64 1] _ _ := wake_any a 1 hm (by omega) (by omega)
  rw [np_one, wst_one ha.2] at C2
  have C2 := Lib.hid C2
  have C3 : ∀ w', Mem w' bm bp n (upd st (a / 64) 1) wd → _ := fun w' hm => at_any a hm hlt
  have C3 := Lib.hid C3
  have HZ := Lib.hid hz
  have HC := Lib.hid (hc.mono (T := (· = bp)) (fun _ _ f => f.elim))
  clear h hz ha hc hm hlt hall
  go_enter Try.func36, Try.ntmps36
  go_wp2_with (first
    | (go_at_call 38; ((with_reducible refine (C1.out).mono ?_); rintro e w1 ⟨rfl, rfl⟩))
    | (go_at_call 39; ((with_reducible refine (C2.out).mono ?_); rintro e w1 ⟨rfl, hm, hc⟩; have HM := Lib.hid (hm.wwd HZ.out); have HD := Lib.hid hc; clear hm hc))
    | (go_at_call 40; ((with_reducible refine (C3.out _ HM.out).mono ?_); rintro e w2 ⟨rfl, rfl⟩)))
  go_ret
  exact ⟨rfl, HM.out, HC.out.trans HD.out⟩
theorem word_no (a : Int) {w : World} {bm bp n : Nat} {st wd : Nat → Int} (h : Mem w bm bp n st wd) (ha : a < 0 ∨ ¬ There n st a.toNat) :
    Calls Try.prog 36 #[.pointer (some ⟨bm, 0, none⟩), .int .i64 a] w fun e w' => e = faults 6 ∧ Chg (fun _ => False) w w' := by
  have hb : 1 ≤ n := h.pos
  have C1 : Calls Try.prog 38 #[.pointer (some ⟨bm, 0, none⟩), .int .i64 a, .int .i64 1] w fun e w' => e = faults 6 ∧ Chg (fun _ => False) w w' := by
    by_cases ho : a < 0 ∨ (n : Int) * 64 - 1 < a
    · exact (need_out a 1 h (by omega) (by omega) (by omega)).mono fun e w' ⟨h1, h2⟩ => ⟨h1, h2 ▸ Chg.refl _ _⟩
    · have e : a = (a.toNat : Int) := by omega
      rw [e]
      refine (need_no a.toNat 1 h (by omega) (by omega) ?_).mono fun e w' ⟨h1, h2⟩ => ⟨h1, h2 ▸ (Chg.refl _ _).alloc _ _⟩
      rw [np_one]
      cases hall : allB st (a.toNat / 64) [1, 2] 1
      · rfl
      · have h2 := (allB_iff 1).1 hall 0 (by omega)
        exfalso
        rcases ha with ha | ha
        · omega
        · exact ha ⟨by omega, by simpa using h2⟩
  have C1 := Lib.hid C1
  clear h ha hb
  go_enter Try.func36, Try.ntmps36
  go_wp2_with (go_at_call 38; ((with_reducible refine (C1.out).mono ?_); rintro e w1 ⟨rfl, hc⟩))
  exact ⟨rfl, rfl, hc⟩
end Go.Proofs.Ytbkpbineagfbgaa
