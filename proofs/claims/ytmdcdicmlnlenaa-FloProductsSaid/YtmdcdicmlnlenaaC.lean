/- Contracts over bits alone: of the program Neg, Order, Min, Max, Class, FromInt; of the document's answers IsNaN, IsInf, IsZero, Canon, Neg, Order, Less, Equal, Min, Max, Class. -/
import Derived.Test.YtmdcdicmlnlenaaA
import Derived.Test.YtmdcdicmlnlenaaQ
import Derived.Test.YtmdcdicmlnlenaaT
namespace Go.Proofs.Ytmdcdicmlnlenaa
open Go.ChangeShapes Go.WideShapes Go.ChangeAt Go.RowKit

theorem twice (a : Int) : IntKind.u64.wrap (a * 2) = a * 2 % 18446744073709551616 := IntKind.wrap_u64 _
theorem isNaN_ref (a : Int) (w : World) (a0 : 0 ≤ a) (a1 : a ≤ 18446744073709551615) :
    Calls Try.prog 43 #[.int .u64 a] w fun e w' => e = .returned (.bool (isn a.toNat)) ∧ w = w' := by
  go_enter Try.func43, Try.ntmps43
  go_wp2
  go_ret
  exact ⟨ret_bool (by rw [twice]; unfold isn; rw [decide_eq_decide]; omega), rfl⟩
theorem isInf_ref (a : Int) (w : World) (a0 : 0 ≤ a) (a1 : a ≤ 18446744073709551615) :
    Calls Try.prog 44 #[.int .u64 a] w fun e w' => e = .returned (.bool (isi a.toNat)) ∧ w = w' := by
  go_enter Try.func44, Try.ntmps44
  go_wp2
  go_ret
  exact ⟨ret_bool (by rw [twice, Bool.eq_iff_iff]; unfold isi; simp only [beq_iff_eq, decide_eq_true_eq]; omega), rfl⟩
theorem isZero_ref (a : Int) (w : World) (a0 : 0 ≤ a) (a1 : a ≤ 18446744073709551615) :
    Calls Try.prog 45 #[.int .u64 a] w fun e w' => e = .returned (.bool (isz a.toNat)) ∧ w = w' := by
  go_enter Try.func45, Try.ntmps45
  go_wp2
  go_ret
  exact ⟨ret_bool (by rw [twice, Bool.eq_iff_iff]; unfold isz; simp only [beq_iff_eq, decide_eq_true_eq]; omega), rfl⟩
theorem canon_ref (a : Int) (w : World) (a0 : 0 ≤ a) (a1 : a ≤ 18446744073709551615) :
    Calls Try.prog 29 #[.int .u64 a] w fun e w' => e = .returned (.int .u64 (canon a.toNat)) ∧ w = w' := by
  have C : ∀ w, Calls Try.prog 43 #[.int .u64 a] w fun e w' => e = .returned (.bool (isn a.toNat)) ∧ w = w' := fun w => isNaN_ref a w a0 a1
  cases h : isn a.toNat <;> rw [h] at C
  · have H := Lib.hid (canon_not h)
    have C2 := Lib.hid C
    clear h C
    go_enter Try.func29, Try.ntmps29
    go_wp2_with (go_at_call 43; refine (C2.out _).mono ?_; rintro e w1 ⟨rfl, rfl⟩)
    go_ret
    exact ⟨ret_int (by rw [H.out]; omega), rfl⟩
  · have H := Lib.hid (canon_nan h)
    have C2 := Lib.hid C
    clear h C
    go_enter Try.func29, Try.ntmps29
    go_wp2_with (go_at_call 43; refine (C2.out _).mono ?_; rintro e w1 ⟨rfl, rfl⟩)
    go_ret
    exact ⟨ret_int (by rw [H.out]; rfl), rfl⟩

theorem flip_lt {a : Nat} (h : a < 18446744073709551616) : flip a < 18446744073709551616 := by unfold flip; split <;> omega
theorem isn_flip (a : Nat) (h : a < 18446744073709551616) : isn (flip a) = isn a := by unfold isn flip; rw [decide_eq_decide]; split <;> omega
def fneg (a : Nat) : Nat := if isn a then NaN else flip a
theorem canon_flip (a : Nat) (h : a < 18446744073709551616) : canon (flip a) = fneg a := by unfold canon fneg; rw [isn_flip a h]
theorem neg_any (a : Int) (w : World) (a0 : 0 ≤ a) (a1 : a ≤ 18446744073709551615) :
    Calls Try.prog 33 #[.int .u64 a] w fun e w' => e = .returned (.int .u64 (fneg a.toNat)) ∧ w = w' := by
  have hx := go_xor a a0 a1
  have H := Lib.hid (canon_flip a.toNat (by omega))
  generalize flip a.toNat = f at *
  go_enter Try.func33, Try.ntmps33
  go_wp2_with (go_at_call 32; refine (canon_any _ _).mono ?_; rintro e w1 ⟨rfl, rfl⟩)
  go_ret
  exact ⟨ret_int (by rw [← H.out]), rfl⟩
theorem neg_ref (a : Int) (w : World) (a0 : 0 ≤ a) (a1 : a ≤ 18446744073709551615) :
    Calls Try.prog 34 #[.int .u64 a] w fun e w' => e = .returned (.int .u64 (fneg a.toNat)) ∧ w = w' := by
  have C : ∀ w, Calls Try.prog 43 #[.int .u64 a] w fun e w' => e = .returned (.bool (isn a.toNat)) ∧ w = w' := fun w => isNaN_ref a w a0 a1
  have hx := go_xor a a0 a1
  cases h : isn a.toNat <;> rw [h] at C
  · have H := Lib.hid (show fneg a.toNat = flip a.toNat by unfold fneg; simp [h])
    have C2 := Lib.hid C
    clear h C
    generalize flip a.toNat = f at *
    go_enter Try.func34, Try.ntmps34
    go_wp2_with (go_at_call 43; refine (C2.out _).mono ?_; rintro e w1 ⟨rfl, rfl⟩)
    go_ret
    exact ⟨ret_int (by rw [H.out]), rfl⟩
  · have H := Lib.hid (show fneg a.toNat = NaN by unfold fneg; simp [h])
    have C2 := Lib.hid C
    clear h C hx
    go_enter Try.func34, Try.ntmps34
    go_wp2_with (go_at_call 43; refine (C2.out _).mono ?_; rintro e w1 ⟨rfl, rfl⟩)
    go_ret
    exact ⟨ret_int (by rw [H.out]; rfl), rfl⟩

theorem fromInt_any (n : Int) (w : World) : Calls Try.prog 35 #[.int .i64 n] w fun e w' => e = .returned (.int .u64 (fint n)) ∧ w = w' := by
  have H := Lib.hid (canon_not (isn_nearest (n < 0) n.natAbs 0))
  go_enter Try.func35, Try.ntmps35
  go_wp2_with (go_at_call 41; refine (bitsOf_any _ _).mono ?_; rintro e w1 ⟨rfl, rfl⟩)
  go_ret
  exact ⟨ret_int (congrArg Int.ofNat H.out), rfl⟩

/-- A number that grows with the place in the one order. -/
def key (a : Nat) : Nat := if a < 9223372036854775808 then a + 9223372036854775808 else 18446744073709551615 - a
theorem key_lt {a : Nat} (h : a < 18446744073709551616) : key a < 18446744073709551616 := by unfold key; split <;> omega
theorem canon_lt {a : Nat} (h : a < 18446744073709551616) : canon a < 18446744073709551616 := by unfold canon; split; decide +kernel; exact h
theorem key_ref (a : Int) (w : World) (a0 : 0 ≤ a) (a1 : a ≤ 18446744073709551615) :
    Calls Try.prog 56 #[.int .u64 a] w fun e w' => e = .returned (.int .u64 (key a.toNat)) ∧ w = w' := by
  by_cases h : a < 9223372036854775808
  · have hb : (a / 9223372036854775808 == 1) = false := by simp; omega
    have hor := go_or a a0 h
    go_enter Try.func56, Try.ntmps56
    go_wp2
    go_ret
    exact ⟨ret_int (by unfold key; rw [if_pos (by omega)]; omega), rfl⟩
  · have hb : (a / 9223372036854775808 == 1) = true := by simp; omega
    have hno := go_not a a0 a1
    have hs : IntKind.u64.signed = false := rfl
    go_enter Try.func56, Try.ntmps56
    go_wp2
    go_ret
    exact ⟨ret_int (by unfold key; rw [if_neg (by omega)]; omega), rfl⟩
theorem place_any (a : Int) (w : World) (a1 : a ≤ 18446744073709551615) :
    Calls Try.prog 55 #[.int .u64 a] w fun e w' => e = .returned (.int .u64 (key (canon a.toNat))) ∧ w = w' := by
  have hc := canon_lt (a := a.toNat) (by omega)
  obtain ⟨c, hcd⟩ : ∃ c, canon a.toNat = c := ⟨_, rfl⟩
  have C : ∀ w, Calls Try.prog 32 #[.int .u64 a] w fun e w' => e = .returned (.int .u64 ((c : Nat) : Int)) ∧ w = w' := fun w => hcd ▸ canon_any a w
  have C2 := Lib.hid C
  rw [hcd] at hc ⊢
  clear C hcd
  have hand := go_and c (by omega) (by omega)
  by_cases h : c < 9223372036854775808
  · rw [if_pos (by omega)] at hand
    have hor := go_or c (by omega) (by omega)
    go_enter Try.func55, Try.ntmps55
    go_wp2_with (go_at_call 32; refine (C2.out _).mono ?_; rintro e w1 ⟨rfl, rfl⟩)
    go_ret
    exact ⟨ret_int (by unfold key; rw [if_pos h]; omega), rfl⟩
  · rw [if_neg (by omega)] at hand
    have hno := go_not c (by omega) (by omega)
    have hs : IntKind.u64.signed = false := rfl
    go_enter Try.func55, Try.ntmps55
    go_wp2_with (go_at_call 32; refine (C2.out _).mono ?_; rintro e w1 ⟨rfl, rfl⟩)
    go_ret
    exact ⟨ret_int (by unfold key; rw [if_neg h]; omega), rfl⟩

theorem isNaN_cmp (a : Int) (w : World) : Calls Try.prog 67 #[.int .u64 a] w fun e w' => e = .returned (.bool false) ∧ w = w' := by
  go_enter Try.func67, Try.ntmps67
  go_wp2
  go_ret
  exact ⟨rfl, rfl⟩
/-- -1, 0, 1. -/
def cmpN (a b : Nat) : Int := if a < b then -1 else if b < a then 1 else 0
theorem compare_any (a b : Int) (w : World) (a0 : 0 ≤ a) (b0 : 0 ≤ b) : Calls Try.prog 54 #[.int .u64 a, .int .u64 b] w fun e w' => e = .returned (.int .i64 (cmpN a.toNat b.toNat)) ∧ w = w' := by
  by_cases h1 : a < b
  · go_enter Try.func54, Try.ntmps54
    go_wp2_with (go_at_call 67; refine (isNaN_cmp _ _).mono ?_; rintro e w1 ⟨rfl, rfl⟩)
    go_ret
    exact ⟨ret_int (by unfold cmpN; rw [if_pos (by omega)]), rfl⟩
  · by_cases h2 : b < a
    · go_enter Try.func54, Try.ntmps54
      go_wp2_with (go_at_call 67; refine (isNaN_cmp _ _).mono ?_; rintro e w1 ⟨rfl, rfl⟩)
      go_ret
      exact ⟨ret_int (by unfold cmpN; rw [if_neg (by omega), if_pos (by omega)]), rfl⟩
    · go_enter Try.func54, Try.ntmps54
      go_wp2_with (go_at_call 67; refine (isNaN_cmp _ _).mono ?_; rintro e w1 ⟨rfl, rfl⟩)
      go_ret
      exact ⟨ret_int (by unfold cmpN; rw [if_neg (by omega), if_neg (by omega)]), rfl⟩
def ford (a b : Nat) : Int := cmpN (key (canon a)) (key (canon b))
theorem order_any (a b : Int) (w : World) (a1 : a ≤ 18446744073709551615) (b1 : b ≤ 18446744073709551615) :
    Calls Try.prog 25 #[.int .u64 a, .int .u64 b] w fun e w' => e = .returned (.int .i64 (ford a.toNat b.toNat)) ∧ w = w' := by
  go_enter Try.func25, Try.ntmps25
  go_wp2_with (first
    | (go_at_call 55; refine (place_any _ _ (by omega)).mono ?_; rintro e w1 ⟨rfl, rfl⟩)
    | (go_at_call 54; refine (compare_any _ _ _ (by omega) (by omega)).mono ?_; rintro e w1 ⟨rfl, rfl⟩))
  go_ret
  exact ⟨ret_int rfl, rfl⟩
theorem ford_bd (a b : Nat) : -1 ≤ ford a b ∧ ford a b ≤ 1 := by unfold ford cmpN; split <;> (try split) <;> omega

def fmin (a b : Nat) : Nat := if isn a || isn b then NaN else if 0 < ford a b then b else a
def fmax (a b : Nat) : Nat := if ford a b < 0 then canon b else canon a
theorem min_any (a b : Int) (w : World) (a0 : 0 ≤ a) (a1 : a ≤ 18446744073709551615) (b0 : 0 ≤ b) (b1 : b ≤ 18446744073709551615) :
    Calls Try.prog 27 #[.int .u64 a, .int .u64 b] w fun e w' => e = .returned (.int .u64 (fmin a.toNat b.toNat)) ∧ w = w' := by
  have O : ∀ w, Calls Try.prog 25 #[.int .u64 a, .int .u64 b] w fun e w' => e = .returned (.int .i64 (ford a.toNat b.toNat)) ∧ w = w' := fun w => order_any a b w a1 b1
  have C1 : ∀ w, Calls Try.prog 57 #[.float .f64 a.toNat] w fun e w' => e = .returned (.bool (isn a.toNat)) ∧ w = w' := fun w => isNaN_any _ w
  have C2 : ∀ w, Calls Try.prog 57 #[.float .f64 b.toNat] w fun e w' => e = .returned (.bool (isn b.toNat)) ∧ w = w' := fun w => isNaN_any _ w
  have hb := ford_bd a.toNat b.toNat
  have F : fmin a.toNat b.toNat = if isn a.toNat || isn b.toNat then NaN else if 0 < ford a.toNat b.toNat then b.toNat else a.toNat := rfl
  generalize isn a.toNat = p at *
  generalize isn b.toNat = q at *
  generalize ford a.toNat b.toNat = o at *
  have O' := Lib.hid O
  have C1' := Lib.hid C1
  have C2' := Lib.hid C2
  have F' := Lib.hid F
  clear O C1 C2 F
  cases p
  case true =>
    go_enter Try.func27, Try.ntmps27
    go_wp2_with (first
      | (go_at_call 42; refine (value_any _ _).mono ?_; rintro e w1 ⟨rfl, rfl⟩)
      | (go_at_call 57; ((with_reducible refine (C1'.out _).mono ?_); rintro e w1 ⟨rfl, rfl⟩)))
    go_ret
    exact ⟨ret_int (by rw [F'.out]; rfl), rfl⟩
  case false =>
    cases q
    case true =>
      go_enter Try.func27, Try.ntmps27
      go_wp2_with (first
        | (go_at_call 42; refine (value_any _ _).mono ?_; rintro e w1 ⟨rfl, rfl⟩)
        | (go_at_call 57; ((with_reducible refine (C1'.out _).mono ?_); rintro e w1 ⟨rfl, rfl⟩))
        | (go_at_call 57; ((with_reducible refine (C2'.out _).mono ?_); rintro e w1 ⟨rfl, rfl⟩)))
      go_ret
      exact ⟨ret_int (by rw [F'.out]; rfl), rfl⟩
    case false =>
      by_cases ho : 0 < o
      all_goals
        go_enter Try.func27, Try.ntmps27
        go_wp2_with (first
          | (go_at_call 42; refine (value_any _ _).mono ?_; rintro e w1 ⟨rfl, rfl⟩)
          | (go_at_call 25; refine (O'.out _).mono ?_; rintro e w1 ⟨rfl, rfl⟩)
          | (go_at_call 57; ((with_reducible refine (C1'.out _).mono ?_); rintro e w1 ⟨rfl, rfl⟩))
          | (go_at_call 57; ((with_reducible refine (C2'.out _).mono ?_); rintro e w1 ⟨rfl, rfl⟩)))
        go_ret
        exact ⟨ret_int (by rw [F'.out]; simp only [Bool.or_self, Bool.false_eq_true, if_false]; (first | rw [if_pos (by omega)] | rw [if_neg (by omega)]); omega), rfl⟩
theorem max_any (a b : Int) (w : World) (a1 : a ≤ 18446744073709551615) (b1 : b ≤ 18446744073709551615) :
    Calls Try.prog 30 #[.int .u64 a, .int .u64 b] w fun e w' => e = .returned (.int .u64 (fmax a.toNat b.toNat)) ∧ w = w' := by
  have O : ∀ w, Calls Try.prog 25 #[.int .u64 a, .int .u64 b] w fun e w' => e = .returned (.int .i64 (ford a.toNat b.toNat)) ∧ w = w' := fun w => order_any a b w a1 b1
  have hb := ford_bd a.toNat b.toNat
  have F : fmax a.toNat b.toNat = if ford a.toNat b.toNat < 0 then canon b.toNat else canon a.toNat := rfl
  generalize ford a.toNat b.toNat = o at *
  have O' := Lib.hid O
  have F' := Lib.hid F
  clear O F
  by_cases ho : o < 0
  all_goals
    go_enter Try.func30, Try.ntmps30
    go_wp2_with (first
      | (go_at_call 25; refine (O'.out _).mono ?_; rintro e w1 ⟨rfl, rfl⟩)
      | (go_at_call 32; refine (canon_any _ _).mono ?_; rintro e w1 ⟨rfl, rfl⟩))
    go_ret
    exact ⟨ret_int (by rw [F'.out]; (first | rw [if_pos (by omega)] | rw [if_neg (by omega)])), rfl⟩

theorem class_any (a : Int) (w : World) (a0 : 0 ≤ a) (a1 : a ≤ 18446744073709551615) :
    Calls Try.prog 39 #[.int .u64 a] w fun e w' => e = .returned (.int .i64 (cls a.toNat)) ∧ w = w' := by
  have hn := go_andNot a a0 a1
  have C1 : ∀ w, Calls Try.prog 57 #[.float .f64 a.toNat] w fun e w' => e = .returned (.bool (isn a.toNat)) ∧ w = w' := fun w => isNaN_any _ w
  have F : cls a.toNat = if isn a.toNat then 4 else if a.toNat % 9223372036854775808 = 0 then 0 else if a.toNat % 9223372036854775808 < 4503599627370496 then 1 else if a.toNat % 9223372036854775808 < 9218868437227405312 then 2 else 3 := rfl
  generalize isn a.toNat = p at *
  obtain ⟨m, hm⟩ : ∃ m, a % 9223372036854775808 = m := ⟨_, rfl⟩
  have hm0 : 0 ≤ m := by omega
  have F' : Hid (cls a.toNat = if p then 4 else if m = 0 then 0 else if m < 4503599627370496 then 1 else if m < 9218868437227405312 then 2 else 3) := by
    show _ = _
    rw [F]
    cases p
    · simp only [Bool.false_eq_true, if_false]
      (repeat' split) <;> omega
    · rfl
  rw [hm] at hn
  have C1' := Lib.hid C1
  clear C1 F hm
  cases p
  case true =>
    go_enter Try.func39, Try.ntmps39
    go_wp2_with (first
      | (go_at_call 42; refine (value_any _ _).mono ?_; rintro e w1 ⟨rfl, rfl⟩)
      | (go_at_call 57; ((with_reducible refine (C1'.out _).mono ?_); rintro e w1 ⟨rfl, rfl⟩)))
    go_ret
    exact ⟨ret_int (by rw [F'.out]; rfl), rfl⟩
  case false =>
    by_cases h1 : m = 0
    · subst h1
      go_enter Try.func39, Try.ntmps39
      go_wp2_with (first
        | (go_at_call 42; refine (value_any _ _).mono ?_; rintro e w1 ⟨rfl, rfl⟩)
        | (go_at_call 57; ((with_reducible refine (C1'.out _).mono ?_); rintro e w1 ⟨rfl, rfl⟩)))
      go_ret
      exact ⟨ret_int (by rw [F'.out]; rfl), rfl⟩
    · have h1' : (m == 0) = false := by simpa using h1
      by_cases h2 : m < 4503599627370496
      · have E := Lib.hid (show cls a.toNat = 1 by rw [F'.out]; simp [h1, h2])
        clear F' h1
        go_enter Try.func39, Try.ntmps39
        go_wp2_with (first
          | (go_at_call 42; refine (value_any _ _).mono ?_; rintro e w1 ⟨rfl, rfl⟩)
          | (go_at_call 57; ((with_reducible refine (C1'.out _).mono ?_); rintro e w1 ⟨rfl, rfl⟩)))
        go_ret
        exact ⟨ret_int (by rw [E.out]), rfl⟩
      · by_cases h3 : m < 9218868437227405312
        · have E := Lib.hid (show cls a.toNat = 2 by rw [F'.out]; simp [h1, h2, h3])
          clear F' h1
          go_enter Try.func39, Try.ntmps39
          go_wp2_with (first
            | (go_at_call 42; refine (value_any _ _).mono ?_; rintro e w1 ⟨rfl, rfl⟩)
            | (go_at_call 57; ((with_reducible refine (C1'.out _).mono ?_); rintro e w1 ⟨rfl, rfl⟩)))
          go_ret
          exact ⟨ret_int (by rw [E.out]), rfl⟩
        · have E := Lib.hid (show cls a.toNat = 3 by rw [F'.out]; simp [h1, h2, h3])
          clear F' h1
          go_enter Try.func39, Try.ntmps39
          go_wp2_with (first
            | (go_at_call 42; refine (value_any _ _).mono ?_; rintro e w1 ⟨rfl, rfl⟩)
            | (go_at_call 57; ((with_reducible refine (C1'.out _).mono ?_); rintro e w1 ⟨rfl, rfl⟩)))
          go_ret
          exact ⟨ret_int (by rw [E.out]), rfl⟩
end Go.Proofs.Ytmdcdicmlnlenaa
