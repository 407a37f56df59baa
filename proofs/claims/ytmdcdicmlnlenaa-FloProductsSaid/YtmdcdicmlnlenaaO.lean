/- Products and quotients of floats by what their bits are worth; words; classes. Nothing of the program. -/
import Derived.Test.YtmdcdicmlnlenaaN
namespace Go.Proofs.Ytmdcdicmlnlenaa
open Ieee

theorem word_eq (s : Bool) (r : Nat) : double.word s r = if s then 9223372036854775808 + r else r := by unfold Format.word; rw [d_sw]
theorem sg_word (s : Bool) (r : Nat) (h : r < 9223372036854775808) : sg (double.word s r) = s := by
  rw [word_eq]; unfold sg
  cases s
  · simp only [Bool.false_eq_true, if_false]; rw [show r / 9223372036854775808 % 2 = 0 by omega]; rfl
  · simp only [if_true]; rw [show (9223372036854775808 + r) / 9223372036854775808 % 2 = 1 by omega]; rfl
theorem rg_word (s : Bool) (r : Nat) (h : r < 9223372036854775808) : rg (double.word s r) = r := by
  rw [word_eq]; unfold rg
  cases s <;> simp only [Bool.false_eq_true, if_false, if_true] <;> omega
theorem word_back (b : Nat) (h : b < 18446744073709551616) : double.word (sg b) (rg b) = b := by
  rw [word_eq]; unfold sg rg
  by_cases h1 : b < 9223372036854775808
  · rw [show b / 9223372036854775808 % 2 = 0 by omega]; simp; omega
  · rw [show b / 9223372036854775808 % 2 = 1 by omega]; simp; omega
theorem nearest_word (s : Bool) (m : Nat) (p : Int) : ∃ r, r ≤ 9218868437227405312 ∧ double.nearest s m p = double.word s r := by
  by_cases h : m = 0
  · subst h; exact ⟨0, by omega, nearest_zero _ _⟩
  · exact ⟨_, Nat.min_le_right _ _, nearest_eq _ _ _ h⟩

theorem fop_mul (x y : Nat) (hx : fin x) (hy : fin y) : fop .mul x y = double.nearest (sg x ^^ sg y) (uval (rg x) * uval (rg y)) (-2148) := by
  obtain ⟨m, i, rx, ex, _⟩ := read_fin x hx
  obtain ⟨n, j, ry, ey, _⟩ := read_fin y hy
  show (match double.mul x y with | some r => r | none => NaN) = _
  unfold Format.mul
  rw [rx, ry]
  show double.nearest _ _ _ = _
  refine nearest_worth _ _ _ _ _ (-2148) (by omega) (by omega) ?_
  rw [← ex, ← ey, show (-1074 + (i : Int) + (-1074 + (j : Int)) - -2148).toNat = i + j by omega, Nat.pow_add]
  simp only [Int.sub_self, Int.toNat_zero, Nat.pow_zero, Nat.mul_one]
  generalize 2 ^ i = a
  generalize 2 ^ j = b
  rw [Nat.mul_mul_mul_comm]
theorem fop_mul_inf (x y : Nat) (h : rg x = 9218868437227405312 ∨ rg y = 9218868437227405312) (hx : isn x = false) (hy : isn y = false) :
    fop .mul x y = if rg x = 0 ∨ rg y = 0 then NaN else double.word (sg x ^^ sg y) 9218868437227405312 := by
  show (match double.mul x y with | some r => r | none => NaN) = _
  unfold Format.mul
  rcases not_nan x hx with fx | ix
  · rcases h with h | h
    · unfold fin at fx; omega
    · obtain ⟨m, i, rx, ex, _, _, e1, e2⟩ := read_fin x fx
      rw [rx, read_inf' y h]
      simp only [Datum.product]
      by_cases h0 : m = 0
      · rw [if_pos h0, if_pos (by omega)]; rfl
      · rw [if_neg h0, if_neg (by omega)]
        rw [show (sg x ^^ sg y) = (sg y ^^ sg x) from Bool.xor_comm _ _]
        exact write_inf _
  · rcases not_nan y hy with fy | iy
    · obtain ⟨m, i, ry, ey, _, _, e1, e2⟩ := read_fin y fy
      rw [ry, read_inf' x ix]
      simp only [Datum.product]
      by_cases h0 : m = 0
      · rw [if_pos h0, if_pos (by omega)]; rfl
      · rw [if_neg h0, if_neg (by omega)]; exact write_inf _
    · rw [read_inf' x ix, read_inf' y iy, if_neg (by omega)]
      exact write_inf _
/-- A quotient of numbers that aren't 0. -/
def quoMore (m n : Nat) : Nat := 54 + n.log2 - m.log2
def quoMag (m n : Nat) : Nat := 2 * (m <<< quoMore m n / n) + (m <<< quoMore m n % n != 0).toNat
theorem fop_quo (x y m n i j : Nat) (rx : double.read x = .number (sg x) m (-1074 + i)) (ry : double.read y = .number (sg y) n (-1074 + j)) (hn : n ≠ 0) :
    fop .quo x y = double.nearest (sg x ^^ sg y) (quoMag m n) ((i : Int) - j - quoMore m n - 1) := by
  show (match double.div x y with | some r => r | none => NaN) = _
  unfold Format.div
  rw [rx, ry]
  simp only [Datum.quotient, if_neg hn, Option.map_some, d_fb]
  show double.nearest _ _ _ = _
  rw [show (-1074 + (i : Int) - (-1074 + (j : Int)) - ((52 + 2 + n.log2 - m.log2 : Nat) : Int) - 1) = ((i : Int) - j - quoMore m n - 1) by unfold quoMore; omega]
  rfl
theorem fop_quo_zero (x y : Nat) (hx : fin x) (hy : rg y = 0) : fop .quo x y = if rg x = 0 then NaN else double.word (sg x ^^ sg y) 9218868437227405312 := by
  obtain ⟨m, i, rx, ex, _, _, e1, e2⟩ := read_fin x hx
  obtain ⟨n, j, ry, ey, _, _, f1, f2⟩ := read_fin y (by unfold fin; omega)
  show (match double.div x y with | some r => r | none => NaN) = _
  unfold Format.div
  rw [rx, ry]
  simp only [Datum.quotient]
  rw [if_pos (by omega)]
  by_cases h0 : m = 0
  · rw [if_pos h0, if_pos (by omega)]; rfl
  · rw [if_neg h0, if_neg (by omega)]; exact write_inf _
theorem fop_quo_inf_l (x y : Nat) (hx : rg x = 9218868437227405312) (hy : fin y) : fop .quo x y = double.word (sg x ^^ sg y) 9218868437227405312 := by
  obtain ⟨n, j, ry, _⟩ := read_fin y hy
  show (match double.div x y with | some r => r | none => NaN) = _
  unfold Format.div
  rw [read_inf' x hx, ry]; exact write_inf _
theorem fop_quo_inf_r (x y : Nat) (hx : fin x) (hy : rg y = 9218868437227405312) : fop .quo x y = double.word (sg x ^^ sg y) 0 := by
  obtain ⟨n, j, ry, _⟩ := read_fin x hx
  show (match double.div x y with | some r => r | none => NaN) = _
  unfold Format.div
  rw [read_inf' y hy, ry]; exact nearest_zero _ _
theorem fop_quo_inf (x y : Nat) (hx : rg x = 9218868437227405312) (hy : rg y = 9218868437227405312) : fop .quo x y = NaN := by
  show (match double.div x y with | some r => r | none => NaN) = _
  unfold Format.div
  rw [read_inf' x hx, read_inf' y hy]; rfl

/-- Classes by rungs. -/
def cls (a : Nat) : Int := if isn a then 4 else if a % 9223372036854775808 = 0 then 0 else if a % 9223372036854775808 < 4503599627370496 then 1 else if a % 9223372036854775808 < 9218868437227405312 then 2 else 3
theorem cls_bd (a : Nat) : 0 ≤ cls a ∧ cls a ≤ 4 := by unfold cls; (repeat' split) <;> omega
theorem cls_cases (a : Nat) : (cls a = 4 ∧ isn a = true) ∨ (cls a = 3 ∧ isn a = false ∧ rg a = 9218868437227405312) ∨ (cls a = 0 ∧ isn a = false ∧ fin a ∧ rg a = 0) ∨ ((cls a = 1 ∨ cls a = 2) ∧ isn a = false ∧ fin a ∧ rg a ≠ 0) := by
  have e : isn a = decide (9218868437227405312 < a % 9223372036854775808) := rfl
  cases h : isn a
  · rw [h] at e
    have e2 := of_decide_eq_false e.symm
    have c : cls a = if a % 9223372036854775808 = 0 then 0 else if a % 9223372036854775808 < 4503599627370496 then 1 else if a % 9223372036854775808 < 9218868437227405312 then 2 else 3 := by
      unfold cls; simp [h]
    unfold fin rg
    rw [c]
    simp
    (repeat' split) <;> omega
  · exact .inl ⟨by unfold cls; simp [h], rfl⟩
theorem cls_word (s : Bool) (r : Nat) (h : r ≤ 9218868437227405312) : cls (double.word s r) = if r = 0 then 0 else if r < 4503599627370496 then 1 else if r < 9218868437227405312 then 2 else 3 := by
  have e := rg_word s r (by omega)
  unfold rg at e
  unfold cls
  rw [isn_word s r h, e]
  simp
theorem word_top (s : Bool) (r : Nat) (h : r < 9223372036854775808) : double.word s r / 9223372036854775808 = s.toNat := by
  rw [word_eq]
  cases s <;> simp <;> omega
theorem xor_top (a b : Nat) (ha : a < 18446744073709551616) (hb : b < 18446744073709551616) : (a ^^^ b) / 9223372036854775808 = (sg a ^^ sg b).toNat := by
  have e : (9223372036854775808 : Nat) = 2 ^ 63 := by decide
  have h : a ^^^ b < 2 ^ 64 := Nat.xor_lt_two_pow (by omega) (by omega)
  have t := Nat.testBit_xor a b 63
  rw [Nat.testBit_eq_decide_div_mod_eq, Nat.testBit_eq_decide_div_mod_eq, Nat.testBit_eq_decide_div_mod_eq] at t
  unfold sg
  rw [e] at *
  have h2 : (a ^^^ b) / 2 ^ 63 < 2 := by omega
  generalize (a ^^^ b) / 2 ^ 63 = q at *
  rw [show (a / 2 ^ 63 % 2 == 1) = decide (a / 2 ^ 63 % 2 = 1) from rfl, show (b / 2 ^ 63 % 2 == 1) = decide (b / 2 ^ 63 % 2 = 1) from rfl, ← t]
  rcases (by omega : q = 0 ∨ q = 1) with rfl | rfl <;> rfl

structure Signs (a b : Nat) : Prop where
  p1 : cls (fop .mul a b) = 4 ∨ fop .mul a b / 9223372036854775808 = (a ^^^ b) / 9223372036854775808
  q1 : cls (fop .quo a b) = 4 ∨ fop .quo a b / 9223372036854775808 = (a ^^^ b) / 9223372036854775808
  nan : cls a = 4 ∨ cls b = 4 → fop .mul a b = NaN ∧ fop .quo a b = NaN
  inf0 : cls a = 3 ∧ cls b = 0 ∨ cls a = 0 ∧ cls b = 3 → fop .mul a b = NaN
  inf : cls a = 3 ∧ (cls b = 1 ∨ cls b = 2) → cls (fop .mul a b) = 3 ∧ cls (fop .quo a b) = 3
  inf2 : cls b = 3 ∧ (cls a = 1 ∨ cls a = 2) → cls (fop .quo a b) = 0
  zero : cls b = 0 ∧ (cls a = 1 ∨ cls a = 2) → cls (fop .quo a b) = 3 ∧ cls (fop .mul a b) = 0

theorem cls_NaN : cls NaN = 4 := by unfold cls; rw [isn_NaN]; rfl
theorem signs (a b : Nat) (ha : a < 18446744073709551616) (hb : b < 18446744073709551616) : Signs a b := by
  have hx := xor_top a b ha hb
  have ws : ∀ r, r ≤ 9218868437227405312 → cls (double.word (sg a ^^ sg b) r) = 4 ∨ double.word (sg a ^^ sg b) r / 9223372036854775808 = (a ^^^ b) / 9223372036854775808 := fun r hr => .inr (by rw [hx, word_top _ _ (by omega)])
  have nn : cls NaN = 4 ∨ NaN / 9223372036854775808 = (a ^^^ b) / 9223372036854775808 := .inl cls_NaN
  have c3 : ∀ s, cls (double.word s 9218868437227405312) = 3 := fun s => by rw [cls_word s _ (by omega)]; rfl
  have c0 : ∀ s, cls (double.word s 0) = 0 := fun s => by rw [cls_word s _ (by omega)]; rfl
  have ba := cls_bd a
  have bb := cls_bd b
  rcases cls_cases a with ⟨ca, na⟩ | ⟨ca, na, ia⟩ | ⟨ca, na, fa, za⟩ | ⟨ca, na, fa, za⟩
  · skip
    have e1 := fop_nan_l .mul a b na
    have e2 := fop_nan_l .quo a b na
    exact ⟨by rw [e1]; exact .inl cls_NaN, by rw [e2]; exact .inl cls_NaN, fun _ => ⟨e1, e2⟩, fun _ => e1, by omega, by omega, by omega⟩
  all_goals
    rcases cls_cases b with ⟨cb, nb⟩ | ⟨cb, nb, ib⟩ | ⟨cb, nb, fb, zb⟩ | ⟨cb, nb, fb, zb⟩
  all_goals first
    | (have e1 := fop_nan_r .mul a b nb
       have e2 := fop_nan_r .quo a b nb
       exact ⟨by rw [e1]; exact nn, by rw [e2]; exact nn, fun _ => ⟨e1, e2⟩, fun _ => e1, by omega, by omega, by omega⟩)
    | skip
  -- a infinite
  · have e1 := fop_mul_inf a b (.inl ia) na nb
    rw [if_neg (by omega)] at e1
    have e2 := fop_quo_inf a b ia ib
    exact ⟨by rw [e1]; exact ws _ (by omega), by rw [e2]; exact nn, by omega, by omega, by omega, by omega, by omega⟩
  · have e1 := fop_mul_inf a b (.inl ia) na nb
    rw [if_pos (by omega)] at e1
    have e2 := fop_quo_inf_l a b ia fb
    exact ⟨by rw [e1]; exact nn, by rw [e2]; exact ws _ (by omega), by omega, fun _ => e1, by omega, by omega, by omega⟩
  · have e1 := fop_mul_inf a b (.inl ia) na nb
    rw [if_neg (by omega)] at e1
    have e2 := fop_quo_inf_l a b ia fb
    exact ⟨by rw [e1]; exact ws _ (by omega), by rw [e2]; exact ws _ (by omega), by omega, by omega, fun _ => ⟨by rw [e1]; exact c3 _, by rw [e2]; exact c3 _⟩, by omega, by omega⟩
  -- a nought
  · have e1 := fop_mul_inf a b (.inr ib) na nb
    rw [if_pos (by omega)] at e1
    have e2 := fop_quo_inf_r a b fa ib
    exact ⟨by rw [e1]; exact nn, by rw [e2]; exact ws _ (by omega), by omega, fun _ => e1, by omega, by omega, by omega⟩
  · have e1 := fop_mul a b fa fb
    obtain ⟨r, hr, e3⟩ := nearest_word (sg a ^^ sg b) (uval (rg a) * uval (rg b)) (-2148)
    rw [e3] at e1
    have e2 := fop_quo_zero a b fa zb
    rw [if_pos za] at e2
    exact ⟨by rw [e1]; exact ws _ hr, by rw [e2]; exact nn, by omega, by omega, by omega, by omega, by omega⟩
  · have e1 := fop_mul a b fa fb
    obtain ⟨r, hr, e3⟩ := nearest_word (sg a ^^ sg b) (uval (rg a) * uval (rg b)) (-2148)
    rw [e3] at e1
    obtain ⟨m, i, rx, _⟩ := read_fin a fa
    obtain ⟨n, j, ry, ey, _, _, f1, f2⟩ := read_fin b fb
    have e2 := fop_quo a b m n i j rx ry (by omega)
    obtain ⟨r2, hr2, e4⟩ := nearest_word (sg a ^^ sg b) (quoMag m n) ((i : Int) - j - quoMore m n - 1)
    rw [e4] at e2
    exact ⟨by rw [e1]; exact ws _ hr, by rw [e2]; exact ws _ hr2, by omega, by omega, by omega, by omega, by omega⟩
  -- a a number
  · have e1 := fop_mul_inf a b (.inr ib) na nb
    rw [if_neg (by omega)] at e1
    have e2 := fop_quo_inf_r a b fa ib
    exact ⟨by rw [e1]; exact ws _ (by omega), by rw [e2]; exact ws _ (by omega), by omega, by omega, by omega, fun _ => by rw [e2]; exact c0 _, by omega⟩
  · have e1 := fop_mul a b fa fb
    rw [zb, uval_low (show 0 < 4503599627370496 by omega), Nat.mul_zero, nearest_zero] at e1
    have e2 := fop_quo_zero a b fa zb
    rw [if_neg za] at e2
    exact ⟨by rw [e1]; exact ws _ (by omega), by rw [e2]; exact ws _ (by omega), by omega, by omega, by omega, by omega, fun _ => ⟨by rw [e2]; exact c3 _, by rw [e1]; exact c0 _⟩⟩
  · have e1 := fop_mul a b fa fb
    obtain ⟨r, hr, e3⟩ := nearest_word (sg a ^^ sg b) (uval (rg a) * uval (rg b)) (-2148)
    rw [e3] at e1
    obtain ⟨m, i, rx, _⟩ := read_fin a fa
    obtain ⟨n, j, ry, ey, _, _, f1, f2⟩ := read_fin b fb
    have e2 := fop_quo a b m n i j rx ry (by omega)
    obtain ⟨r2, hr2, e4⟩ := nearest_word (sg a ^^ sg b) (quoMag m n) ((i : Int) - j - quoMore m n - 1)
    rw [e4] at e2
    exact ⟨by rw [e1]; exact ws _ hr, by rw [e2]; exact ws _ hr2, by omega, by omega, by omega, by omega, by omega⟩
end Go.Proofs.Ytmdcdicmlnlenaa
