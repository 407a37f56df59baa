/- The document's own orders: contracts; the walk of the statement on orders. -/
import Derived.Test.YtmdcdicmlnlenaaE
namespace Go.Proofs.Ytmdcdicmlnlenaa
open Go.ChangeShapes Go.WideShapes Go.ChangeAt Go.RowKit

def rord (a b : Nat) : Int := if isn a then (if isn b then 0 else 1) else if isn b then -1 else cmpN (key a) (key b)
theorem order_ref (a b : Int) (w : World) (a0 : 0 ≤ a) (a1 : a ≤ 18446744073709551615) (b0 : 0 ≤ b) (b1 : b ≤ 18446744073709551615) :
    Calls Try.prog 26 #[.int .u64 a, .int .u64 b] w fun e w' => e = .returned (.int .i64 (rord a.toNat b.toNat)) ∧ w = w' := by
  have Ca : ∀ w, Calls Try.prog 43 #[.int .u64 a] w fun e w' => e = .returned (.bool (isn a.toNat)) ∧ w = w' := fun w => isNaN_ref a w a0 a1
  have Cb : ∀ w, Calls Try.prog 43 #[.int .u64 b] w fun e w' => e = .returned (.bool (isn b.toNat)) ∧ w = w' := fun w => isNaN_ref b w b0 b1
  have Ka : ∀ w, Calls Try.prog 56 #[.int .u64 a] w fun e w' => e = .returned (.int .u64 (key a.toNat)) ∧ w = w' := fun w => key_ref a w a0 a1
  have Kb : ∀ w, Calls Try.prog 56 #[.int .u64 b] w fun e w' => e = .returned (.int .u64 (key b.toNat)) ∧ w = w' := fun w => key_ref b w b0 b1
  have la := key_lt (a := a.toNat) (by omega)
  have lb := key_lt (a := b.toNat) (by omega)
  have F : rord a.toNat b.toNat = if isn a.toNat then (if isn b.toNat then 0 else 1) else if isn b.toNat then -1 else cmpN (key a.toNat) (key b.toNat) := rfl
  generalize isn a.toNat = na at *
  generalize isn b.toNat = nb at *
  generalize key a.toNat = ka at *
  generalize key b.toNat = kb at *
  generalize rord a.toNat b.toNat = r at *
  have Ca' := Lib.hid Ca
  have Cb' := Lib.hid Cb
  have Ka' := Lib.hid Ka
  have Kb' := Lib.hid Kb
  clear Ca Cb Ka Kb
  cases na <;> cases nb
  case false.false =>
    have G : r = cmpN ka kb := F
    have G' := Lib.hid G
    clear F G
    have la' : (ka : Int) ≤ 18446744073709551615 := by omega
    have lb' : (kb : Int) ≤ 18446744073709551615 := by omega
    clear la lb
    rcases (by omega : (ka : Int) < kb ∨ (kb : Int) < ka ∨ ka = kb) with h | h | h
    all_goals try subst h
    all_goals
      go_enter Try.func26, Try.ntmps26
      go_wp2_with (first
        | (go_at_call 43; ((with_reducible refine (Ca'.out _).mono ?_); rintro e w3 ⟨rfl, rfl⟩))
        | (go_at_call 43; ((with_reducible refine (Cb'.out _).mono ?_); rintro e w3 ⟨rfl, rfl⟩))
        | (go_at_call 56; ((with_reducible refine (Ka'.out _).mono ?_); rintro e w3 ⟨rfl, rfl⟩))
        | (go_at_call 56; ((with_reducible refine (Kb'.out _).mono ?_); rintro e w3 ⟨rfl, rfl⟩)))
      go_ret
      exact ⟨ret_int (by rw [G'.out]; unfold cmpN; (repeat' split) <;> omega), rfl⟩
  all_goals
    simp only [Bool.false_eq_true, if_false, if_true] at F
    have F' := Lib.hid F
    clear F
    go_enter Try.func26, Try.ntmps26
    go_wp2_with (first
      | (go_at_call 43; ((with_reducible refine (Ca'.out _).mono ?_); rintro e w3 ⟨rfl, rfl⟩))
      | (go_at_call 43; ((with_reducible refine (Cb'.out _).mono ?_); rintro e w3 ⟨rfl, rfl⟩)))
    go_ret
    exact ⟨ret_int (by rw [F'.out]), rfl⟩

theorem rord_ford (a b : Nat) (ha : a < 18446744073709551616) (hb : b < 18446744073709551616) : rord a b = ford a b := by
  have big : ∀ c, c < 18446744073709551616 → isn c = false → key c < key NaN := by
    intro c hc h
    have e : key NaN = 18444492273895866369 := by decide +kernel
    rw [e]
    unfold isn at h
    have h2 := of_decide_eq_false h
    unfold key
    split <;> omega
  unfold rord ford cmpN canon
  cases h1 : isn a <;> cases h2 : isn b
  · simp
  · have := big a ha h1
    simp only [Bool.false_eq_true, if_false, if_true]
    rw [if_pos this]
  · have := big b hb h2
    simp only [Bool.false_eq_true, if_false, if_true]
    rw [if_neg (by omega), if_pos this]
  · simp

theorem isz_rg (a : Nat) : isz a = decide (rg a = 0) := rfl
def req (a b : Nat) : Bool := !isn a && !isn b && (decide (a = b) || (isz a && isz b))
theorem uval_zero : uval 0 = 0 := uval_low (by omega)
theorem uval_pos {r : Nat} (h : r ≠ 0) : 0 < uval r := by have := uval_lt 0 r (by omega); omega
theorem ival_eq (a b : Nat) (ha : a < 18446744073709551616) (hb : b < 18446744073709551616) : ival a = ival b ↔ (a = b ∨ (rg a = 0 ∧ rg b = 0)) := by
  constructor
  · intro h
    unfold ival sgi at h
    have pa := uval_pos (r := rg a)
    have pb := uval_pos (r := rg b)
    have wa := word_back a ha
    have wb := word_back b hb
    cases sa : sg a <;> cases sb : sg b <;> rw [sa, sb] at h <;> simp only [Bool.false_eq_true, if_false, if_true] at h
    · left
      have := uval_inj (r := rg a) (t := rg b) (by omega)
      rw [← wa, ← wb, sa, sb, this]
    · right; omega
    · right; omega
    · left
      have := uval_inj (r := rg a) (t := rg b) (by omega)
      rw [← wa, ← wb, sa, sb, this]
  · rintro (rfl | ⟨h1, h2⟩)
    · rfl
    · unfold ival sgi; rw [h1, h2, uval_zero]; simp
theorem key_form (a : Nat) (ha : a < 18446744073709551616) : key a = if sg a then 9223372036854775807 - rg a else 9223372036854775808 + rg a := by
  unfold key sg rg
  by_cases h : a < 9223372036854775808
  · rw [if_pos h, show a / 9223372036854775808 % 2 = 0 by omega]; simp; omega
  · rw [if_neg h, show a / 9223372036854775808 % 2 = 1 by omega]; simp; omega
theorem ival_lt (a b : Nat) (ha : a < 18446744073709551616) (hb : b < 18446744073709551616) : ival a < ival b ↔ (key a < key b ∧ ¬ (rg a = 0 ∧ rg b = 0)) := by
  have pa := uval_pos (r := rg a)
  have pb := uval_pos (r := rg b)
  have l1 := uval_lt (rg a) (rg b)
  have l2 := uval_le (rg b) (rg a)
  have l3 := uval_lt (rg b) (rg a)
  have l4 := uval_le (rg a) (rg b)
  have ra : rg a < 9223372036854775808 := Nat.mod_lt _ (by omega)
  have rb : rg b < 9223372036854775808 := Nat.mod_lt _ (by omega)
  rw [key_form a ha, key_form b hb]
  unfold ival sgi
  have z := uval_zero
  cases sg a <;> cases sg b <;> simp only [Bool.false_eq_true, if_false, if_true]
  · constructor
    · intro h; refine ⟨by omega, ?_⟩; rintro ⟨e1, e2⟩; rw [e1, e2] at h; omega
    · intro h; have := l1 (by omega); omega
  · constructor
    · intro h; exfalso; omega
    · intro h; omega
  · constructor
    · intro h; refine ⟨by omega, ?_⟩; rintro ⟨e1, e2⟩; rw [e1, e2, z] at h; omega
    · intro h
      by_cases h0 : rg a = 0
      · have := pb (by omega); omega
      · have := pa h0; omega
  · constructor
    · intro h; refine ⟨by omega, ?_⟩; rintro ⟨e1, e2⟩; rw [e1, e2] at h; omega
    · intro h; have := l3 (by omega); omega
theorem feq_req (a b : Nat) (ha : a < 18446744073709551616) (hb : b < 18446744073709551616) : feq a b = req a b := by
  unfold req
  cases h1 : isn a
  · cases h2 : isn b
    · show (Ieee.double.order a b == some .eq) = _
      rw [cmp_eq a b h1 h2, Bool.eq_iff_iff, isz_rg, isz_rg]
      simp [ival_eq a b ha hb]
    · obtain ⟨s, f, r⟩ := read_nan' b h2
      unfold feq Ieee.Format.order
      rw [r]
      cases Ieee.double.read a <;> simp [Ieee.Datum.order]
  · obtain ⟨s, f, r⟩ := read_nan' a h1
    unfold feq Ieee.Format.order
    rw [r]
    simp [Ieee.Datum.order]
def rless (a b : Nat) : Bool := !isn a && !isn b && !req a b && decide (rord a b < 0)
theorem fless_rless (a b : Nat) (ha : a < 18446744073709551616) (hb : b < 18446744073709551616) : fless a b = rless a b := by
  unfold rless
  cases h1 : isn a
  · cases h2 : isn b
    · show (Ieee.double.order a b == some .lt) = _
      rw [cmp_lt a b h1 h2, Bool.eq_iff_iff]
      have hr : rord a b = cmpN (key a) (key b) := by unfold rord; simp [h1, h2]
      have he : req a b = true ↔ (a = b ∨ (rg a = 0 ∧ rg b = 0)) := by unfold req; rw [isz_rg, isz_rg]; simp [h1, h2]
      have hc : cmpN (key a) (key b) < 0 ↔ key a < key b := by unfold cmpN; (repeat' split) <;> omega
      rw [hr]
      simp only [decide_eq_true_eq, ival_lt a b ha hb, Bool.not_false, Bool.true_and, Bool.and_eq_true, Bool.not_eq_true', hc]
      rw [← Bool.not_eq_true, he]
      constructor
      · rintro ⟨h3, h4⟩
        refine ⟨?_, h3⟩
        rintro (rfl | h5)
        · omega
        · exact h4 h5
      · rintro ⟨h3, h4⟩
        exact ⟨h4, fun h5 => h3 (.inr h5)⟩
    · obtain ⟨s, f, r⟩ := read_nan' b h2
      unfold fless Ieee.Format.order
      rw [r]
      cases Ieee.double.read a <;> simp [Ieee.Datum.order]
  · obtain ⟨s, f, r⟩ := read_nan' a h1
    unfold fless Ieee.Format.order
    rw [r]
    simp [Ieee.Datum.order]
end Go.Proofs.Ytmdcdicmlnlenaa
