/- The document's own Equal, Less, Min, Max: contracts; the walk of the statement on orders. -/
import Derived.Test.YtmdcdicmlnlenaaH
namespace Go.Proofs.Ytmdcdicmlnlenaa
open Go.ChangeShapes Go.WideShapes Go.ChangeAt Go.RowKit

set_option maxHeartbeats 1000000 in
theorem equal_ref (a b : Int) (w : World) (a0 : 0 ≤ a) (a1 : a ≤ 18446744073709551615) (b0 : 0 ≤ b) (b1 : b ≤ 18446744073709551615) :
    Calls Try.prog 22 #[.int .u64 a, .int .u64 b] w fun e w' => e = .returned (.bool (req a.toNat b.toNat)) ∧ w = w' := by
  have Ca : ∀ w, Calls Try.prog 43 #[.int .u64 a] w fun e w' => e = .returned (.bool (isn a.toNat)) ∧ w = w' := fun w => isNaN_ref a w a0 a1
  have Cb : ∀ w, Calls Try.prog 43 #[.int .u64 b] w fun e w' => e = .returned (.bool (isn b.toNat)) ∧ w = w' := fun w => isNaN_ref b w b0 b1
  have Za : ∀ w, Calls Try.prog 45 #[.int .u64 a] w fun e w' => e = .returned (.bool (isz a.toNat)) ∧ w = w' := fun w => isZero_ref a w a0 a1
  have Zb : ∀ w, Calls Try.prog 45 #[.int .u64 b] w fun e w' => e = .returned (.bool (isz b.toNat)) ∧ w = w' := fun w => isZero_ref b w b0 b1
  have F : req a.toNat b.toNat = (!isn a.toNat && !isn b.toNat && ((a == b) || (isz a.toNat && isz b.toNat))) := by
    unfold req
    have : decide (a.toNat = b.toNat) = (a == b) := by rw [Bool.eq_iff_iff]; simp; omega
    rw [this]
  generalize isn a.toNat = na at *
  generalize isn b.toNat = nb at *
  generalize isz a.toNat = za at *
  generalize isz b.toNat = zb at *
  generalize req a.toNat b.toNat = r at *
  have Ca' := Lib.hid Ca
  have Cb' := Lib.hid Cb
  have Za' := Lib.hid Za
  have Zb' := Lib.hid Zb
  clear Ca Cb Za Zb
  cases na
  case true =>
    have F' := Lib.hid F
    clear F
    go_enter Try.func22, Try.ntmps22
    go_wp2_with (first
      | (go_at_call 43; ((with_reducible refine (Ca'.out _).mono ?_); rintro e w3 ⟨rfl, rfl⟩)))
    go_ret
    exact ⟨ret_bool (by rw [F'.out]; rfl), rfl⟩
  cases nb
  case true =>
    have F' := Lib.hid F
    clear F
    go_enter Try.func22, Try.ntmps22
    go_wp2_with (first
      | (go_at_call 43; ((with_reducible refine (Ca'.out _).mono ?_); rintro e w3 ⟨rfl, rfl⟩))
      | (go_at_call 43; ((with_reducible refine (Cb'.out _).mono ?_); rintro e w3 ⟨rfl, rfl⟩)))
    go_ret
    exact ⟨ret_bool (by rw [F'.out]; rfl), rfl⟩
  cases hab : (a == b)
  all_goals
    rw [hab] at F
    have F' := Lib.hid F
    clear F
  all_goals cases za <;> cases zb
  all_goals
    go_enter Try.func22, Try.ntmps22
    go_wp2_with (first
      | (go_at_call 43; ((with_reducible refine (Ca'.out _).mono ?_); rintro e w3 ⟨rfl, rfl⟩))
      | (go_at_call 43; ((with_reducible refine (Cb'.out _).mono ?_); rintro e w3 ⟨rfl, rfl⟩))
      | (go_at_call 45; ((with_reducible refine (Za'.out _).mono ?_); rintro e w3 ⟨rfl, rfl⟩))
      | (go_at_call 45; ((with_reducible refine (Zb'.out _).mono ?_); rintro e w3 ⟨rfl, rfl⟩)))
    go_ret
    exact ⟨ret_bool (by rw [F'.out]; rfl), rfl⟩
theorem rord_bd (a b : Nat) : -1 ≤ rord a b ∧ rord a b ≤ 1 := by unfold rord cmpN; (repeat' split) <;> omega
set_option maxHeartbeats 1000000 in
theorem less_ref (a b : Int) (w : World) (a0 : 0 ≤ a) (a1 : a ≤ 18446744073709551615) (b0 : 0 ≤ b) (b1 : b ≤ 18446744073709551615) :
    Calls Try.prog 24 #[.int .u64 a, .int .u64 b] w fun e w' => e = .returned (.bool (rless a.toNat b.toNat)) ∧ w = w' := by
  have Ca : ∀ w, Calls Try.prog 43 #[.int .u64 a] w fun e w' => e = .returned (.bool (isn a.toNat)) ∧ w = w' := fun w => isNaN_ref a w a0 a1
  have Cb : ∀ w, Calls Try.prog 43 #[.int .u64 b] w fun e w' => e = .returned (.bool (isn b.toNat)) ∧ w = w' := fun w => isNaN_ref b w b0 b1
  have E : ∀ w, Calls Try.prog 22 #[.int .u64 a, .int .u64 b] w fun e w' => e = .returned (.bool (req a.toNat b.toNat)) ∧ w = w' := fun w => equal_ref a b w a0 a1 b0 b1
  have O : ∀ w, Calls Try.prog 26 #[.int .u64 a, .int .u64 b] w fun e w' => e = .returned (.int .i64 (rord a.toNat b.toNat)) ∧ w = w' := fun w => order_ref a b w a0 a1 b0 b1
  have F : rless a.toNat b.toNat = (!isn a.toNat && !isn b.toNat && !req a.toNat b.toNat && decide (rord a.toNat b.toNat < 0)) := rfl
  have bd := rord_bd a.toNat b.toNat
  generalize isn a.toNat = na at *
  generalize isn b.toNat = nb at *
  generalize req a.toNat b.toNat = q at *
  generalize rord a.toNat b.toNat = o at *
  generalize rless a.toNat b.toNat = r at *
  have Ca' := Lib.hid Ca
  have Cb' := Lib.hid Cb
  have E' := Lib.hid E
  have O' := Lib.hid O
  have F' := Lib.hid F
  clear Ca Cb E O F
  rcases (by omega : o < 0 ∨ 0 ≤ o) with ho | ho
  all_goals cases na <;> cases nb <;> cases q
  all_goals
    go_enter Try.func24, Try.ntmps24
    go_wp2_with (first
      | (go_at_call 43; ((with_reducible refine (Ca'.out _).mono ?_); rintro e w3 ⟨rfl, rfl⟩))
      | (go_at_call 43; ((with_reducible refine (Cb'.out _).mono ?_); rintro e w3 ⟨rfl, rfl⟩))
      | (go_at_call 22; ((with_reducible refine (E'.out _).mono ?_); rintro e w3 ⟨rfl, rfl⟩))
      | (go_at_call 26; ((with_reducible refine (O'.out _).mono ?_); rintro e w3 ⟨rfl, rfl⟩)))
    go_ret
    exact ⟨ret_bool (by rw [F'.out]; simp <;> omega), rfl⟩
def rmin (a b : Nat) : Nat := if isn a then NaN else if isn b then NaN else if 0 < rord a b then b else a
def rmax (a b : Nat) : Nat := if isn a then NaN else if isn b then NaN else if rord a b < 0 then b else a
set_option maxHeartbeats 1000000 in
theorem min_ref (a b : Int) (w : World) (a0 : 0 ≤ a) (a1 : a ≤ 18446744073709551615) (b0 : 0 ≤ b) (b1 : b ≤ 18446744073709551615) :
    Calls Try.prog 28 #[.int .u64 a, .int .u64 b] w fun e w' => e = .returned (.int .u64 (rmin a.toNat b.toNat)) ∧ w = w' := by
  have Ca : ∀ w, Calls Try.prog 43 #[.int .u64 a] w fun e w' => e = .returned (.bool (isn a.toNat)) ∧ w = w' := fun w => isNaN_ref a w a0 a1
  have Cb : ∀ w, Calls Try.prog 43 #[.int .u64 b] w fun e w' => e = .returned (.bool (isn b.toNat)) ∧ w = w' := fun w => isNaN_ref b w b0 b1
  have O : ∀ w, Calls Try.prog 26 #[.int .u64 a, .int .u64 b] w fun e w' => e = .returned (.int .i64 (rord a.toNat b.toNat)) ∧ w = w' := fun w => order_ref a b w a0 a1 b0 b1
  have F : (rmin a.toNat b.toNat : Int) = if isn a.toNat then 9221120237041090561 else if isn b.toNat then 9221120237041090561 else if 0 < rord a.toNat b.toNat then b else a := by
    unfold rmin
    (repeat' split) <;> first | rfl | omega
  have bd := rord_bd a.toNat b.toNat
  generalize isn a.toNat = na at *
  generalize isn b.toNat = nb at *
  generalize rord a.toNat b.toNat = o at *
  generalize rmin a.toNat b.toNat = r at *
  have Ca' := Lib.hid Ca
  have Cb' := Lib.hid Cb
  have O' := Lib.hid O
  have F' := Lib.hid F
  clear Ca Cb O F
  rcases (by omega : 0 < o ∨ o ≤ 0) with ho | ho
  all_goals cases na <;> cases nb
  all_goals
    go_enter Try.func28, Try.ntmps28
    go_wp2_with (first
      | (go_at_call 43; ((with_reducible refine (Ca'.out _).mono ?_); rintro e w3 ⟨rfl, rfl⟩))
      | (go_at_call 43; ((with_reducible refine (Cb'.out _).mono ?_); rintro e w3 ⟨rfl, rfl⟩))
      | (go_at_call 26; ((with_reducible refine (O'.out _).mono ?_); rintro e w3 ⟨rfl, rfl⟩)))
    go_ret
    exact ⟨ret_int (by rw [F'.out]; first | rfl | (simp only [Bool.false_eq_true, if_false]; split <;> omega)), rfl⟩
set_option maxHeartbeats 1000000 in
theorem max_ref (a b : Int) (w : World) (a0 : 0 ≤ a) (a1 : a ≤ 18446744073709551615) (b0 : 0 ≤ b) (b1 : b ≤ 18446744073709551615) :
    Calls Try.prog 31 #[.int .u64 a, .int .u64 b] w fun e w' => e = .returned (.int .u64 (rmax a.toNat b.toNat)) ∧ w = w' := by
  have Ca : ∀ w, Calls Try.prog 43 #[.int .u64 a] w fun e w' => e = .returned (.bool (isn a.toNat)) ∧ w = w' := fun w => isNaN_ref a w a0 a1
  have Cb : ∀ w, Calls Try.prog 43 #[.int .u64 b] w fun e w' => e = .returned (.bool (isn b.toNat)) ∧ w = w' := fun w => isNaN_ref b w b0 b1
  have O : ∀ w, Calls Try.prog 26 #[.int .u64 a, .int .u64 b] w fun e w' => e = .returned (.int .i64 (rord a.toNat b.toNat)) ∧ w = w' := fun w => order_ref a b w a0 a1 b0 b1
  have F : (rmax a.toNat b.toNat : Int) = if isn a.toNat then 9221120237041090561 else if isn b.toNat then 9221120237041090561 else if rord a.toNat b.toNat < 0 then b else a := by
    unfold rmax
    (repeat' split) <;> first | rfl | omega
  have bd := rord_bd a.toNat b.toNat
  generalize isn a.toNat = na at *
  generalize isn b.toNat = nb at *
  generalize rord a.toNat b.toNat = o at *
  generalize rmax a.toNat b.toNat = r at *
  have Ca' := Lib.hid Ca
  have Cb' := Lib.hid Cb
  have O' := Lib.hid O
  have F' := Lib.hid F
  clear Ca Cb O F
  rcases (by omega : o < 0 ∨ 0 ≤ o) with ho | ho
  all_goals cases na <;> cases nb
  all_goals
    go_enter Try.func31, Try.ntmps31
    go_wp2_with (first
      | (go_at_call 43; ((with_reducible refine (Ca'.out _).mono ?_); rintro e w3 ⟨rfl, rfl⟩))
      | (go_at_call 43; ((with_reducible refine (Cb'.out _).mono ?_); rintro e w3 ⟨rfl, rfl⟩))
      | (go_at_call 26; ((with_reducible refine (O'.out _).mono ?_); rintro e w3 ⟨rfl, rfl⟩)))
    go_ret
    exact ⟨ret_int (by rw [F'.out]; first | rfl | (simp only [Bool.false_eq_true, if_false]; split <;> omega)), rfl⟩
theorem isn_canon (a : Nat) : isn (canon a) = isn a := by
  cases h : isn a
  · rw [canon_not h, h]
  · rw [canon_nan h, isn_NaN]
theorem rmin_fmin (a b : Nat) (ha : a < 18446744073709551616) (hb : b < 18446744073709551616) : rmin (canon a) (canon b) = fmin a b := by
  unfold rmin fmin
  rw [isn_canon, isn_canon, rord_ford _ _ (canon_lt ha) (canon_lt hb)]
  cases h1 : isn a <;> cases h2 : isn b
  · rw [canon_not h1, canon_not h2]; simp
  · simp
  · simp
  · simp
theorem rmax_fmax (a b : Nat) (ha : a < 18446744073709551616) (hb : b < 18446744073709551616) : rmax (canon a) (canon b) = fmax a b := by
  have r1 := rord_ford a b ha hb
  unfold rmax fmax
  rw [isn_canon, isn_canon, rord_ford _ _ (canon_lt ha) (canon_lt hb)]
  rw [← r1]
  cases h1 : isn a <;> cases h2 : isn b
  · rw [canon_not h1, canon_not h2, r1]; simp
  · unfold rord; rw [h1, h2, canon_nan h2]; simp
  · unfold rord; rw [h1, h2, canon_nan h1]; simp
  · unfold rord; rw [h1, h2, canon_nan h1]; simp
end Go.Proofs.Ytmdcdicmlnlenaa
