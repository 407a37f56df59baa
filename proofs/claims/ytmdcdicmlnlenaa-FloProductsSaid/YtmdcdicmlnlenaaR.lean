/- Rounding, looked into; there and back; small whole numbers. Nothing of the program. -/
import Derived.Test.YtmdcdicmlnlenaaT
namespace Go.Proofs.Ytmdcdicmlnlenaa
open Ieee

theorem half_le (n d B : Nat) (h : n ≤ B * 2 ^ d) : half n d ≤ B := by
  have hd := two_pos d
  have h1 : n / 2 ^ d ≤ B := Nat.div_le_of_le_mul (by rw [Nat.mul_comm]; exact h)
  have h2 := Nat.div_add_mod n (2 ^ d)
  have h3 := up_le n d
  unfold half
  by_cases e : n / 2 ^ d = B
  · rw [e, Nat.mul_comm] at h2
    have h4 : n % 2 ^ d = 0 := by omega
    unfold up
    rw [h4, if_neg (by omega)]
    omega
  · omega
def keptOf (m : Nat) (p : Int) : Nat := half (m <<< (p - lastOf m p).toNat) (lastOf m p - p).toNat
theorem kept_bd (m : Nat) (p : Int) (h : m ≠ 0) : keptOf m p ≤ 9007199254740992 ∧ (lastOf m p = -1074 ∨ 4503599627370496 ≤ keptOf m p) := by
  have h1 : 2 ^ m.log2 ≤ m := Nat.log2_self_le h
  have h2 : m < 2 ^ (m.log2 + 1) := Nat.lt_log2_self
  have e53 : (9007199254740992 : Nat) = 2 ^ 53 := by decide
  have e52 : (4503599627370496 : Nat) = 2 ^ 52 := by decide
  have hl : lastOf m p = p + m.log2 - 52 ∨ (lastOf m p = -1074 ∧ p + m.log2 - 52 ≤ -1074) := by unfold lastOf; omega
  unfold keptOf
  rw [shl_pow]
  generalize lastOf m p = l at *
  by_cases hp : l ≤ p
  · rw [show (l - p).toNat = 0 by omega, half_zero]
    have hk : m * 2 ^ (p - l).toNat < 2 ^ (m.log2 + 1) * 2 ^ (p - l).toNat := Nat.mul_lt_mul_of_pos_right h2 (two_pos _)
    rw [← Nat.pow_add] at hk
    have hk2 : 2 ^ (m.log2 + 1 + (p - l).toNat) ≤ 2 ^ 53 := Nat.pow_le_pow_right (by omega) (by omega)
    refine ⟨by rw [e53]; omega, ?_⟩
    rcases hl with hl | hl
    · right
      have hk3 : 2 ^ m.log2 * 2 ^ (p - l).toNat ≤ m * 2 ^ (p - l).toNat := Nat.mul_le_mul_right _ h1
      rw [← Nat.pow_add, show m.log2 + (p - l).toNat = 52 by omega] at hk3
      omega
    · exact .inl hl.1
  · rw [show (p - l).toNat = 0 by omega, Nat.pow_zero, Nat.mul_one]
    refine ⟨half_le _ _ _ ?_, ?_⟩
    · rw [e53, ← Nat.pow_add]
      have : 2 ^ (m.log2 + 1) ≤ 2 ^ (53 + (l - p).toNat) := Nat.pow_le_pow_right (by omega) (by omega)
      omega
    · rcases hl with hl | hl
      · right
        have h4 : 2 ^ m.log2 = 2 ^ 52 * 2 ^ (l - p).toNat := by rw [← Nat.pow_add]; congr 1; omega
        have h5 : 2 ^ 52 ≤ m / 2 ^ (l - p).toNat := (Nat.le_div_iff_mul_le (two_pos _)).2 (by omega)
        unfold half
        omega
      · exact .inl hl.1
theorem rungOf_kept (m : Nat) (p : Int) : rungOf m p = min ((lastOf m p + 1074).toNat * 4503599627370496 + keptOf m p) 9218868437227405312 := rfl
theorem last_ge (m : Nat) (p : Int) : -1074 ≤ lastOf m p := by unfold lastOf; omega
theorem uval_rungOf (m : Nat) (p : Int) (h : m ≠ 0) (hlt : rungOf m p < 9218868437227405312) : uval (rungOf m p) = keptOf m p * 2 ^ (lastOf m p + 1074).toNat := by
  have hb := kept_bd m p h
  rw [rungOf_kept] at hlt ⊢
  rw [Nat.min_eq_left (by omega)]
  rcases hb.2 with e | e
  · rw [e]
    simp only [Int.add_left_neg, Int.toNat_zero, Nat.zero_mul, Nat.zero_add, Nat.pow_zero, Nat.mul_one]
    by_cases hk : keptOf m p < 4503599627370496
    · exact uval_low hk
    · have := uval_kept 0 (keptOf m p) (by omega) hb.1
      simpa using this
  · exact uval_kept _ _ e hb.1

/-- A whole number behind 2^53: what comes back has the same float, or is the greatest. -/
theorem back_far (n : Int) (h1 : 9007199254740992 < n.natAbs) (h2 : -9223372036854775808 ≤ n) (h3 : n ≤ 9223372036854775807) : fint (ftoi (fint n)) = fint n ∨ ftoi (fint n) = 9223372036854775807 := by
  have hm : n.natAbs ≠ 0 := by omega
  have hL : 53 ≤ n.natAbs.log2 := (Nat.le_log2 hm).2 (by omega)
  have hL2 : n.natAbs.log2 < 64 := (Nat.log2_lt hm).2 (by omega)
  have hl : lastOf n.natAbs 0 = n.natAbs.log2 - 52 := by unfold lastOf; omega
  have hk := kept_bd n.natAbs 0 hm
  have hr : rungOf n.natAbs 0 < 9218868437227405312 := by
    rw [rungOf_kept, hl]
    omega
  have hu := uval_rungOf n.natAbs 0 hm hr
  have hf : fint n = double.word (decide (n < 0)) (rungOf n.natAbs 0) := nearest_eq _ _ _ hm
  have hP := PL_eq
  obtain ⟨d, hd⟩ : ∃ d : Nat, lastOf n.natAbs 0 = d := ⟨(lastOf n.natAbs 0).toNat, by omega⟩
  have hK : uval (rungOf n.natAbs 0) = keptOf n.natAbs 0 * 2 ^ d * U := by
    rw [hu, hd, U_eq, Nat.mul_assoc, ← Nat.pow_add]
    congr 2
    omega
  have hKb : keptOf n.natAbs 0 * 2 ^ d ≤ 9223372036854775808 := by
    have e : (9223372036854775808 : Nat) = 2 ^ (63 - d) * 2 ^ d := by rw [← Nat.pow_add, show 63 - d + d = 63 by omega]
    rw [e]
    refine Nat.mul_le_mul_right _ ?_
    unfold keptOf
    rw [show (0 - lastOf n.natAbs 0).toNat = 0 by omega, show (lastOf n.natAbs 0 - 0).toNat = d by omega, shl_pow, Nat.pow_zero, Nat.mul_one]
    exact half_le _ _ _ (by rw [← e]; omega)
  have hKp : keptOf n.natAbs 0 * 2 ^ d ≠ 0 := Nat.mul_ne_zero (by rcases hk.2 with h | h <;> omega) (by have := two_pos d; omega)
  generalize rungOf n.natAbs 0 = r at *
  generalize keptOf n.natAbs 0 * 2 ^ d = K at *
  have s1 := sg_word (decide (n < 0)) r (by omega)
  have s2 := rg_word (decide (n < 0)) r (by omega)
  have s3 := isn_word (decide (n < 0)) r (by omega)
  rw [← hf] at s1 s2 s3
  by_cases hbig : K = 9223372036854775808 ∧ 0 ≤ n
  · right
    exact ftoi_over (fint n) K s3 (by rw [s2, hK]) (by omega) (by rw [s1]; simpa using hbig.2)
  · left
    have e := ftoi_of (fint n) K s3 (by rw [s2, hK]) (by rw [s1]; simp only [decide_eq_true_eq]; omega)
    rw [e, s1]
    have e2 : decide (sgi (decide (n < 0)) K < 0) = decide (n < 0) := by
      rw [decide_eq_decide]; unfold sgi
      by_cases hn : n < 0
      · simp only [hn, decide_true, if_true, iff_true]; omega
      · simp only [hn, decide_false, Bool.false_eq_true, if_false, iff_false]; omega
    have e3 : (sgi (decide (n < 0)) K).natAbs = K := by unfold sgi; split <;> omega
    rw [fint_units, e2, e3, ← hK, nearest_uval _ _ hr, hf]

/-- Sums, differences and products of whole numbers. -/
theorem addW_whole (z : Bool) (n : Int) (hz : n = 0 → z = false) : addW z (n * (U : Int)) = fint n := by
  have hU := U_pos
  by_cases h : n = 0
  · rw [h, hz h, Int.zero_mul]; decide +kernel
  · unfold addW
    have h0 : n * (U : Int) ≠ 0 := Int.mul_ne_zero h (by omega)
    rw [if_neg h0, fint_units, Int.natAbs_mul, Int.natAbs_natCast]
    congr 1
    have := mulU_lt n 0
    rw [Int.zero_mul] at this
    rw [decide_eq_decide]
    exact this
theorem add_whole {x y : Nat} {a b : Int} (hx : Whole x a) (hy : Whole y b) : fop .add x y = fint (a + b) := by
  rw [fop_add x y hx.fin hy.fin, hx.v, hy.v, ← Int.add_mul]
  refine addW_whole _ _ fun h => ?_
  rw [hx.sg, hy.sg]
  simp only [Bool.and_eq_false_iff, decide_eq_false_iff_not]
  omega
theorem sub_whole {x y : Nat} {a b : Int} (hx : Whole x a) (hy : Whole y b) : fop .sub x y = fint (a - b) := by
  rw [fop_sub x y hx.fin hy.fin, hx.v, hy.v, ← Int.sub_mul]
  refine addW_whole _ _ fun h => ?_
  rw [hx.sg, hy.sg]
  simp only [Bool.and_eq_false_iff, decide_eq_false_iff_not, Bool.not_eq_false', decide_eq_true_eq]
  omega
theorem mul_units {x y : Nat} {a b : Int} (hx : Whole x a) (hy : Whole y b) : fop .mul x y = double.nearest (sg x ^^ sg y) ((a.natAbs * b.natAbs) * U) (-1074) := by
  rw [fop_mul x y hx.fin hy.fin, hx.u, hy.u]
  have hP := PL_eq
  refine nearest_worth _ _ _ _ _ (-2148) (by omega) (by omega) ?_
  rw [show (-1074 - -2148 : Int).toNat = PL by omega, ← U_eq]
  simp only [Int.sub_self, Int.toNat_zero, Nat.pow_zero, Nat.mul_one]
  rw [Nat.mul_mul_mul_comm, Nat.mul_assoc (a.natAbs * b.natAbs)]
theorem mul_toInt {x y : Nat} {a b : Int} (hx : Whole x a) (hy : Whole y b) (h : (a * b).natAbs < 9007199254740992) : ftoi (fop .mul x y) = a * b := by
  rw [mul_units hx hy, ← Int.natAbs_mul, hx.sg, hy.sg]
  have hP := PL_eq
  obtain ⟨r, hr, e, e2⟩ := nearest_exact (decide (a < 0) ^^ decide (b < 0)) (a * b).natAbs PL h (by omega)
  rw [← U_eq] at e e2
  rw [e2, ftoi_of _ (a * b).natAbs (isn_word _ _ (by omega)) (by rw [rg_word _ _ (by omega), e]) (.inl (by omega)), sg_word _ _ (by omega)]
  unfold sgi
  rcases Int.lt_trichotomy a 0 with h1 | h1 | h1 <;> rcases Int.lt_trichotomy b 0 with h2 | h2 | h2
  · have := Int.mul_pos_of_neg_of_neg h1 h2
    simp only [h1, h2, decide_true, Bool.xor_self, Bool.false_eq_true, if_false]; omega
  · subst h2; simp
  · have := Int.mul_neg_of_neg_of_pos h1 h2
    simp only [h1, decide_true, show ¬ b < 0 by omega, decide_false, Bool.xor_false, if_true]; omega
  · subst h1; simp
  · subst h1; simp
  · subst h1; simp
  · have := Int.mul_neg_of_pos_of_neg h1 h2
    simp only [h2, decide_true, show ¬ a < 0 by omega, decide_false, Bool.false_xor, if_true]; omega
  · subst h2; simp
  · have := Int.mul_pos h1 h2
    simp only [show ¬ a < 0 by omega, show ¬ b < 0 by omega, decide_false, Bool.xor_self, Bool.false_eq_true, if_false]; omega

theorem whole_two : Whole 4611686018427387904 2 := by
  have h := whole_fint 2 (by omega)
  rwa [show fint 2 = 4611686018427387904 by decide +kernel] at h
theorem mul_two {x : Nat} {a : Int} (hx : Whole x a) : fop .mul x 4611686018427387904 = fint (a * 2) := by
  rw [mul_units hx whole_two, fint_units, whole_two.sg, hx.sg, Int.natAbs_mul]
  congr 1
  simp
  omega
/-- Half of a whole number, and that doubled. -/
theorem half_double (a : Int) (h : a.natAbs < 9007199254740992) : fop .mul (fop .quo (fint a) 4611686018427387904) 4611686018427387904 = fint a := by
  have hx := whole_fint a (by omega)
  obtain ⟨m, i, rx, ex, _, _, _, elow⟩ := read_fin (fint a) hx.fin
  have rt : double.read 4611686018427387904 = .number (sg 4611686018427387904) 4503599627370496 (-1074 + (1023 : Nat)) := by decide +kernel
  have hq := fop_quo (fint a) 4611686018427387904 m 4503599627370496 i 1023 rx rt (by omega)
  have hs2 : sg 4611686018427387904 = false := by decide +kernel
  rw [hs2, Bool.xor_false] at hq
  have hP := PL_eq
  have hlog : m.log2 ≤ 52 := by
    by_cases h0 : m = 0
    · subst h0; decide
    · have := (Nat.log2_lt h0 (k := 53)).2 (by omega); omega
  have hmore : quoMore m 4503599627370496 = 106 - m.log2 := by
    unfold quoMore
    rw [show Nat.log2 4503599627370496 = 52 by decide +kernel]
  have hmag : quoMag m 4503599627370496 = m * 2 ^ (quoMore m 4503599627370496 - 51) := by
    unfold quoMag
    rw [shl_pow]
    have hq1 : 54 ≤ quoMore m 4503599627370496 := by omega
    clear hmore hq
    generalize quoMore m 4503599627370496 = qm at *
    have e : 2 ^ qm = 2 ^ (qm - 52) * 4503599627370496 := by
      rw [show (4503599627370496 : Nat) = 2 ^ 52 by decide, ← Nat.pow_add]; congr 1; omega
    have e2 : 2 ^ (qm - 51) = 2 ^ (qm - 52) * 2 := by
      rw [← Nat.pow_succ]; congr 1; omega
    rw [e, ← Nat.mul_assoc, Nat.mul_div_cancel _ (by omega), Nat.mul_mod_left, e2, ← Nat.mul_assoc]
    show 2 * m * 2 ^ (qm - 52) + 0 = m * (2 ^ (qm - 52) * 2)
    rw [Nat.add_zero, ← Nat.mul_assoc, Nat.mul_assoc 2, Nat.mul_comm 2]
  have hw : double.nearest (sg (fint a)) (quoMag m 4503599627370496) ((i : Int) - (1023 : Nat) - quoMore m 4503599627370496 - 1) = double.nearest (sg (fint a)) (a.natAbs * 2 ^ (PL - 1)) (-1074) := by
    refine nearest_worth _ _ _ _ _ (-2274) (by omega) (by omega) ?_
    rw [hmag, Nat.mul_assoc, ← Nat.pow_add, Nat.mul_assoc, ← Nat.pow_add]
    have e1 : quoMore m 4503599627370496 - 51 + ((i : Int) - (1023 : Nat) - quoMore m 4503599627370496 - 1 - -2274).toNat = i + 1199 := by omega
    have e2 : PL - 1 + (-1074 - -2274 : Int).toNat = PL + 1199 := by omega
    rw [e1, e2, Nat.pow_add, Nat.pow_add, ← Nat.mul_assoc, ← Nat.mul_assoc, ex, hx.u, U_eq]
  rw [hw] at hq
  obtain ⟨r, hr, e, e2⟩ := nearest_exact (sg (fint a)) a.natAbs (PL - 1) h (by omega)
  rw [e2] at hq
  have f1 : fin (double.word (sg (fint a)) r) := by unfold fin; rw [rg_word _ _ (by omega)]; exact hr
  rw [hq, fop_mul _ _ f1 whole_two.fin, sg_word _ _ (by omega), rg_word _ _ (by omega), e, whole_two.u, hs2, Bool.xor_false, hx.sg, fint_units]
  refine nearest_worth _ _ _ _ _ (-2148) (by omega) (by omega) ?_
  rw [show (-1074 - -2148 : Int).toNat = PL by omega, ← U_eq]
  simp only [Int.sub_self, Int.toNat_zero, Nat.pow_zero, Nat.mul_one]
  have e3 : 2 ^ (PL - 1) * 2 = U := by rw [U_eq, ← Nat.pow_succ]; congr 1; omega
  rw [show (2 : Int).natAbs = 2 from rfl, ← Nat.mul_assoc, Nat.mul_assoc a.natAbs, e3]
theorem whole_less {x y : Nat} {a b : Int} (hx : Whole x a) (hy : Whole y b) : (double.order x y == some .lt) = decide (a < b) := by
  rw [cmp_lt x y hx.nn hy.nn, hx.v, hy.v, decide_eq_decide, mulU_lt]
theorem whole_eq {x y : Nat} {a b : Int} (hx : Whole x a) (hy : Whole y b) : (double.order x y == some .eq) = (a == b) := by
  rw [cmp_eq x y hx.nn hy.nn, hx.v, hy.v, Bool.eq_iff_iff]
  have hU := U_pos
  simp only [decide_eq_true_eq, beq_iff_eq]
  exact ⟨fun h => Int.eq_of_mul_eq_mul_right (by omega) h, fun h => by rw [h]⟩
end Go.Proofs.Ytmdcdicmlnlenaa
