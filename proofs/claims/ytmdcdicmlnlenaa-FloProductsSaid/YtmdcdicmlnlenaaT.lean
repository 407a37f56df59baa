/- A float as a whole number, a whole number as a float. Nothing of the program. -/
import Derived.Test.YtmdcdicmlnlenaaO
namespace Go.Proofs.Ytmdcdicmlnlenaa
open Ieee

/-- How many units of the least place 1 is. -/
@[irreducible] def PL : Nat := 1074
theorem PL_eq : PL = 1074 := by unfold PL; rfl
@[irreducible] def U : Nat := 2 ^ PL
theorem U_eq : U = 2 ^ PL := by unfold U; rfl
theorem U_pos : 0 < U := by rw [U_eq]; exact two_pos _

theorem cut_zero (s : Bool) (n d : Nat) : Toward.zero.cut s n d = n / 2 ^ d := by
  show n / (1 <<< min d (n.log2 + 2)) + false.toNat = _
  rw [Nat.one_shiftLeft]
  show n / 2 ^ _ + 0 = _
  rw [Nat.add_zero]
  by_cases h : d ≤ n.log2 + 2
  · rw [Nat.min_eq_left h]
  · rw [Nat.min_eq_right (by omega)]
    have hn : n < 2 ^ (n.log2 + 1) := Nat.lt_log2_self
    have h1 : 2 ^ (n.log2 + 2) = 2 * 2 ^ (n.log2 + 1) := by rw [Nat.pow_succ, Nat.mul_comm]
    have h2 : 2 ^ (n.log2 + 2) ≤ 2 ^ d := Nat.pow_le_pow_right (by omega) (by omega)
    rw [Nat.div_eq_of_lt (by omega), Nat.div_eq_of_lt (by omega)]
theorem toInt_fin (b : Nat) (h : fin b) : (double.read b).toInt .zero = some (sgi (sg b) (uval (rg b) / U)) := by
  obtain ⟨m, k, r, e, _⟩ := read_fin b h
  rw [r]
  unfold Datum.toInt
  simp only [Datum.integral, cut_zero, signed_eq, Nat.pow_zero, Nat.mul_one]
  congr 2
  have hP := PL_eq
  rw [← e, U_eq, shl_pow]
  by_cases hk : 1074 ≤ k
  · rw [show (-(-1074 + (k : Int))).toNat = 0 by omega, show (-1074 + (k : Int)).toNat = k - 1074 by omega, Nat.pow_zero, Nat.div_one]
    obtain ⟨j, rfl⟩ : ∃ j, k = j + PL := ⟨k - PL, by omega⟩
    rw [Nat.pow_add, ← Nat.mul_assoc, Nat.mul_div_cancel _ (two_pos _), show j + PL - 1074 = j by omega]
  · rw [show (-1074 + (k : Int)).toNat = 0 by omega, show (-(-1074 + (k : Int))).toNat = 1074 - k by omega, Nat.pow_zero, Nat.mul_one]
    have e2 : 2 ^ PL = 2 ^ (1074 - k) * 2 ^ k := by rw [← Nat.pow_add]; congr 1; omega
    rw [e2, Nat.mul_div_mul_right _ _ (two_pos _)]

def ftoi (a : Nat) : Int := if isn a then 0 else if 9223372036854775808 * (U : Int) ≤ ival a then 9223372036854775807 else if ival a < -9223372036854775808 * (U : Int) then -9223372036854775808 else sgi (sg a) (uval (rg a) / U)

theorem uval_big : uval 4890909195324358656 = 9223372036854775808 * U := by
  rw [show 4890909195324358656 = (11 + PL) * 4503599627370496 + 4503599627370496 by rw [PL_eq], uval_kept _ _ (by omega) (by omega), U_eq, show 9223372036854775808 = 4503599627370496 * 2 ^ 11 by decide, Nat.mul_assoc, ← Nat.pow_add]
theorem ival_big : ival 4890909195324358656 = 9223372036854775808 * (U : Int) := by
  show sgi (sg 4890909195324358656) (uval (rg 4890909195324358656)) = _
  rw [show rg 4890909195324358656 = 4890909195324358656 by decide +kernel, show sg 4890909195324358656 = false by decide +kernel, uval_big]
  simp [sgi]
theorem ival_small : ival 14114281232179134464 = -9223372036854775808 * (U : Int) := by
  show sgi (sg 14114281232179134464) (uval (rg 14114281232179134464)) = _
  rw [show rg 14114281232179134464 = 4890909195324358656 by decide +kernel, show sg 14114281232179134464 = true by decide +kernel, uval_big]
  simp only [sgi, if_true]
  omega
theorem cmp_ge (x c : Nat) (hx : isn x = false) (hc : isn c = false) : (double.order x c == some .gt || double.order x c == some .eq) = decide (ival c ≤ ival x) := by
  rw [order_any' x c hx hc]
  rcases Int.lt_trichotomy (ival x) (ival c) with h | h | h
  · rw [Int.compare_eq_lt.2 h]; simp; omega
  · rw [Int.compare_eq_eq.2 h]; simp; omega
  · rw [Int.compare_eq_gt.2 h]; simp; omega
theorem cmp_lt (x c : Nat) (hx : isn x = false) (hc : isn c = false) : (double.order x c == some .lt) = decide (ival x < ival c) := by
  rw [order_any' x c hx hc]
  rcases Int.lt_trichotomy (ival x) (ival c) with h | h | h
  · rw [Int.compare_eq_lt.2 h]; simp; omega
  · rw [Int.compare_eq_eq.2 h]; simp; omega
  · rw [Int.compare_eq_gt.2 h]; simp; omega
theorem cmp_eq (x c : Nat) (hx : isn x = false) (hc : isn c = false) : (double.order x c == some .eq) = decide (ival x = ival c) := by
  rw [order_any' x c hx hc]
  rcases Int.lt_trichotomy (ival x) (ival c) with h | h | h
  · rw [Int.compare_eq_lt.2 h]; simp; omega
  · rw [Int.compare_eq_eq.2 h]; simp; omega
  · rw [Int.compare_eq_gt.2 h]; simp; omega
theorem ge_cases (x c : Nat) (hx : isn x = false) (hc : isn c = false) (h : ival c ≤ ival x) :
    (FloatKind.f64.format.order x c == some .gt) = true ∨ ((FloatKind.f64.format.order x c == some .gt) = false ∧ (FloatKind.f64.format.order x c == some .eq) = true) := by
  show (double.order x c == some .gt) = true ∨ ((double.order x c == some .gt) = false ∧ (double.order x c == some .eq) = true)
  rw [order_any' x c hx hc]
  rcases Int.lt_trichotomy (ival x) (ival c) with h | h | h
  · omega
  · rw [Int.compare_eq_eq.2 h]; exact .inr ⟨rfl, rfl⟩
  · rw [Int.compare_eq_gt.2 h]; exact .inl rfl
theorem lt_case (x c : Nat) (hx : isn x = false) (hc : isn c = false) (h : ¬ ival c ≤ ival x) :
    (FloatKind.f64.format.order x c == some .gt) = false ∧ (FloatKind.f64.format.order x c == some .eq) = false := by
  show (double.order x c == some .gt) = false ∧ (double.order x c == some .eq) = false
  rw [order_any' x c hx hc, Int.compare_eq_lt.2 (by omega)]
  exact ⟨rfl, rfl⟩
theorem big_ge (x : Nat) (hx : isn x = false) : (double.order x 4890909195324358656 == some .gt || double.order x 4890909195324358656 == some .eq) = decide (9223372036854775808 * (U : Int) ≤ ival x) := by
  rw [cmp_ge x _ hx (by decide +kernel), ival_big]
theorem small_lt (x : Nat) (hx : isn x = false) : (double.order x 14114281232179134464 == some .lt) = decide (ival x < -9223372036854775808 * (U : Int)) := by
  rw [cmp_lt x _ hx (by decide +kernel), ival_small]
theorem div_lt_of (u K : Nat) (h : u < K * U) : u / U < K := Nat.div_lt_of_lt_mul (by rw [Nat.mul_comm]; exact h)
theorem conv_fin (x : Nat) (hx : isn x = false) (h1 : ¬ 9223372036854775808 * (U : Int) ≤ ival x) (h2 : ¬ ival x < -9223372036854775808 * (U : Int)) : floatToIntVal .f64 x .i64 = some (sgi (sg x) (uval (rg x) / U)) := by
  have hf : fin x := by
    rcases not_nan x hx with h | h
    · exact h
    · exfalso
      have hlt := uval_lt 4890909195324358656 9218868437227405312 (by omega)
      rw [uval_big] at hlt
      unfold ival at h1 h2
      rw [h] at h1 h2
      unfold sgi at h1 h2
      generalize uval 9218868437227405312 = I at *
      generalize U = V at *
      cases hsx : sg x <;> rw [hsx] at h1 h2 <;> simp only [Bool.false_eq_true, if_false, if_true] at h1 h2 <;> omega
  unfold floatToIntVal
  rw [show (FloatKind.decode .f64 x) = double.read x from rfl, toInt_fin x hf]
  have b1 : IntKind.i64.min = -9223372036854775808 := rfl
  have b2 : IntKind.i64.max = 9223372036854775807 := rfl
  simp only [b1, b2]
  rw [if_pos]
  unfold ival at h1 h2
  generalize uval (rg x) = u at *
  unfold sgi at *
  have hU := U_pos
  cases hs : sg x
  · rw [hs] at h1 h2
    simp only [Bool.false_eq_true, if_false] at *
    have h3 := div_lt_of u 9223372036854775808 (by omega)
    generalize u / U = q at *
    omega
  · rw [hs] at h1 h2
    simp only [if_true] at *
    have h3 := div_lt_of u 9223372036854775809 (by omega)
    generalize u / U = q at *
    omega

/-- A whole number's float, in units. -/
theorem fromInt_units (s : Bool) (m : Nat) : double.nearest s m 0 = double.nearest s (m * U) (-1074) := by
  rw [U_eq, nearest_scale, PL_eq]
  rfl

def fint (n : Int) : Nat := double.nearest (decide (n < 0)) n.natAbs 0
theorem mulU_lt (a b : Int) : a * (U : Int) < b * (U : Int) ↔ a < b := by
  have hU := U_pos
  exact ⟨fun h => Int.lt_of_mul_lt_mul_right h (by omega), fun h => Int.mul_lt_mul_of_pos_right h (by omega)⟩
theorem mulU_le (a b : Int) : a * (U : Int) ≤ b * (U : Int) ↔ a ≤ b := by
  have := mulU_lt b a
  omega
theorem sgi_U (s : Bool) (K : Nat) : sgi s (K * U) = sgi s K * (U : Int) := (sgi_mul s K U).symm
theorem ftoi_of (w K : Nat) (hn : isn w = false) (hu : uval (rg w) = K * U) (hK : K < 9223372036854775808 ∨ (K = 9223372036854775808 ∧ sg w = true)) : ftoi w = sgi (sg w) K := by
  unfold ftoi
  have hv : ival w = sgi (sg w) K * (U : Int) := by unfold ival; rw [hu, sgi_U]
  rw [hn, hv, hu, Nat.mul_div_cancel _ U_pos]
  simp only [Bool.false_eq_true, if_false]
  have h1 : ¬ 9223372036854775808 ≤ sgi (sg w) K := by
    unfold sgi
    cases h : sg w
    · rw [h] at hK; simp only [Bool.false_eq_true, and_false, or_false] at hK; simp only [Bool.false_eq_true, if_false]; omega
    · simp only [if_true]; omega
  have h2 : ¬ sgi (sg w) K < -9223372036854775808 := by
    unfold sgi
    cases h : sg w
    · simp only [Bool.false_eq_true, if_false]; omega
    · simp only [if_true]; omega
  rw [if_neg (by rw [mulU_le]; exact h1), if_neg (by rw [mulU_lt]; exact h2)]
theorem ftoi_over (w K : Nat) (hn : isn w = false) (hu : uval (rg w) = K * U) (hK : 9223372036854775808 ≤ K) (hs : sg w = false) : ftoi w = 9223372036854775807 := by
  unfold ftoi
  have hv : ival w = sgi (sg w) K * (U : Int) := by unfold ival; rw [hu, sgi_U]
  rw [hn, hv]
  simp only [Bool.false_eq_true, if_false]
  rw [if_pos (by rw [mulU_le, hs]; unfold sgi; simp only [Bool.false_eq_true, if_false]; omega)]
theorem sgi_abs (n : Int) : sgi (decide (n < 0)) n.natAbs = n := by
  unfold sgi
  by_cases h : n < 0
  · simp only [h, decide_true, if_true]; omega
  · simp only [h, decide_false, Bool.false_eq_true, if_false]; omega
structure Whole (w : Nat) (n : Int) : Prop where
  lt : w < 18446744073709551616
  nn : isn w = false
  fin : fin w
  sg : sg w = decide (n < 0)
  u : uval (rg w) = n.natAbs * U
  v : ival w = n * (U : Int)
theorem whole_of (s : Bool) (n : Int) (r : Nat) (hs : s = decide (n < 0)) (hr : r < 9218868437227405312) (e : uval r = n.natAbs * U) : Whole (double.word s r) n := by
  have h1 := sg_word s r (by omega)
  have h2 := rg_word s r (by omega)
  refine ⟨by rw [word_eq]; split <;> omega, isn_word _ _ (by omega), by unfold fin; rw [h2]; exact hr, by rw [h1, hs], by rw [h2, e], ?_⟩
  unfold ival
  rw [h1, h2, e, hs, sgi_U, sgi_abs]
theorem fint_units (n : Int) : fint n = double.nearest (decide (n < 0)) (n.natAbs * U) (-1074) := fromInt_units _ _
/-- A number of units that is a whole number of up to 2^53: its word. -/
theorem whole_units (s : Bool) (n : Int) (hs : s = decide (n < 0)) (h : n.natAbs ≤ 9007199254740992) : Whole (double.nearest s (n.natAbs * U) (-1074)) n := by
  have hP := PL_eq
  by_cases h1 : n.natAbs = 9007199254740992
  · obtain ⟨r, hr, e, e2⟩ := nearest_exact s 4503599627370496 (PL + 1) (by omega) (by omega)
    have e3 : 4503599627370496 * 2 ^ (PL + 1) = n.natAbs * U := by rw [h1, U_eq, Nat.pow_succ]; omega
    rw [e3] at e e2
    rw [e2]
    exact whole_of s n r hs hr e
  · obtain ⟨r, hr, e, e2⟩ := nearest_exact s n.natAbs PL (by omega) (by omega)
    rw [← U_eq] at e e2
    rw [e2]
    exact whole_of s n r hs hr e
theorem whole_fint (n : Int) (h : n.natAbs ≤ 9007199254740992) : Whole (fint n) n := by rw [fint_units]; exact whole_units _ n rfl h
theorem Whole.ftoi {w : Nat} {n : Int} (h : Whole w n) (hn : n.natAbs ≤ 9007199254740992) : ftoi w = n := by
  rw [ftoi_of w n.natAbs h.nn h.u (.inl (by omega)), h.sg, sgi_abs]
end Go.Proofs.Ytmdcdicmlnlenaa
