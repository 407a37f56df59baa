/- Floats as whole numbers of the least place: what bits are worth, that rounding hangs on the worth alone, that what bits are worth is rounded to them. Nothing of the program. -/
import Derived.Test.YtmdcdicmlnlenaaP
namespace Go.Proofs.Ytmdcdicmlnlenaa
open Ieee

theorem two_pos (k : Nat) : 0 < 2 ^ k := Nat.two_pow_pos k

/-- n / 2^d to the nearest, of two the even one. -/
def up (n d : Nat) : Nat := if 2 ^ d < 2 * (n % 2 ^ d) ∨ (2 ^ d = 2 * (n % 2 ^ d) ∧ n / 2 ^ d % 2 = 1) then 1 else 0
def half (n d : Nat) : Nat := n / 2 ^ d + up n d
theorem up_le (n d : Nat) : up n d ≤ 1 := by unfold up; split <;> omega

theorem cut_even (s : Bool) (n d : Nat) : Toward.even.cut s n d = half n d := by
  show n / (1 <<< min d (n.log2 + 2)) + ((1 <<< min d (n.log2 + 2) < 2 * (n % (1 <<< min d (n.log2 + 2))) || (1 <<< min d (n.log2 + 2) == 2 * (n % (1 <<< min d (n.log2 + 2))) && n / (1 <<< min d (n.log2 + 2)) % 2 == 1)) : Bool).toNat = _
  rw [Nat.one_shiftLeft]
  by_cases h : d ≤ n.log2 + 2
  · rw [Nat.min_eq_left h]
    unfold half up
    congr 1
    generalize n % 2 ^ d = r
    generalize n / 2 ^ d = q
    generalize 2 ^ d = g
    by_cases h1 : g < 2 * r
    · simp [h1]
    · by_cases h2 : g = 2 * r
      · subst h2
        by_cases h3 : q % 2 = 1 <;> simp [h3]
      · simp [h1, h2]
  · rw [Nat.min_eq_right (by omega)]
    have hn : n < 2 ^ (n.log2 + 1) := Nat.lt_log2_self
    have h1 : 2 ^ (n.log2 + 2) = 2 * 2 ^ (n.log2 + 1) := by rw [Nat.pow_succ, Nat.mul_comm]
    have h2 : 2 ^ (n.log2 + 2) ≤ 2 ^ d := Nat.pow_le_pow_right (by omega) (by omega)
    unfold half up
    have f1 : n < 2 ^ (n.log2 + 2) := by omega
    have f2 : n < 2 ^ d := by omega
    rw [Nat.div_eq_of_lt f1, Nat.mod_eq_of_lt f1, Nat.div_eq_of_lt f2, Nat.mod_eq_of_lt f2, if_neg (by omega)]
    have e1 : decide (2 ^ (n.log2 + 2) < 2 * n) = false := by simp; omega
    rw [e1]
    simp

theorem half_scale (n d k : Nat) : half (n * 2 ^ k) (d + k) = half n d := by
  have e : 2 ^ (d + k) = 2 ^ d * 2 ^ k := Nat.pow_add ..
  have hk := two_pos k
  have hq : n * 2 ^ k / 2 ^ (d + k) = n / 2 ^ d := by rw [e, Nat.mul_div_mul_right _ _ hk]
  have hr : n * 2 ^ k % 2 ^ (d + k) = n % 2 ^ d * 2 ^ k := by rw [e, Nat.mul_mod_mul_right]
  unfold half up
  rw [hq, hr, e, ← Nat.mul_assoc]
  congr 1
  have i1 : (2 ^ d * 2 ^ k < 2 * (n % 2 ^ d) * 2 ^ k) = (2 ^ d < 2 * (n % 2 ^ d)) := by rw [Nat.mul_lt_mul_right hk]
  have i2 : (2 ^ d * 2 ^ k = 2 * (n % 2 ^ d) * 2 ^ k) = (2 ^ d = 2 * (n % 2 ^ d)) := by rw [Nat.mul_left_inj (by omega)]
  simp only [i1, i2]
theorem half_zero (n : Nat) : half n 0 = n := by unfold half up; simp [Nat.mod_one]
theorem half_whole (n k : Nat) : half (n * 2 ^ k) k = n := by
  have := half_scale n 0 k
  rwa [Nat.zero_add, half_zero] at this

/-- The place of the last digit that is kept. -/
def lastOf (m : Nat) (p : Int) : Int := max (p + m.log2 - 52) (-1074)
def rungOf (m : Nat) (p : Int) : Nat := min ((lastOf m p + 1074).toNat * 4503599627370496 + half (m <<< (p - lastOf m p).toNat) (lastOf m p - p).toNat) 9218868437227405312
theorem nearest_zero (s : Bool) (p : Int) : double.nearest s 0 p = double.word s 0 := by unfold Format.nearest; rw [if_pos rfl]
theorem nearest_eq (s : Bool) (m : Nat) (p : Int) (h : m ≠ 0) : double.nearest s m p = double.word s (rungOf m p) := by
  unfold Format.nearest rungOf lastOf
  rw [if_neg h]
  dsimp only
  rw [cut_even, d_lp, d_bin, d_inf, d_fb]
  have e : (-1074 : Int) = -1074 := rfl
  congr 3
theorem log2_scale (m k : Nat) (h : m ≠ 0) : (m * 2 ^ k).log2 = m.log2 + k := by
  have hk := two_pos k
  have h1 : 2 ^ m.log2 ≤ m := Nat.log2_self_le h
  have h2 : m < 2 ^ (m.log2 + 1) := Nat.lt_log2_self
  rw [Nat.log2_eq_iff (Nat.mul_ne_zero h (by omega))]
  refine ⟨by rw [Nat.pow_add]; exact Nat.mul_le_mul_right _ h1, ?_⟩
  rw [show m.log2 + k + 1 = m.log2 + 1 + k by omega, Nat.pow_add]
  exact Nat.mul_lt_mul_of_pos_right h2 hk
theorem shl_pow (m a : Nat) : m <<< a = m * 2 ^ a := Nat.shiftLeft_eq m a

theorem rung_scale (m k : Nat) (p : Int) (h : m ≠ 0) : rungOf (m * 2 ^ k) p = rungOf m (p + k) := by
  have hl : lastOf (m * 2 ^ k) p = lastOf m (p + k) := by
    unfold lastOf
    rw [log2_scale m k h]
    omega
  unfold rungOf
  rw [hl]
  generalize lastOf m (p + k) = l
  congr 2
  rw [shl_pow, shl_pow, Nat.mul_assoc, ← Nat.pow_add]
  by_cases h1 : 0 ≤ p - l
  · rw [show (l - p).toNat = 0 by omega, show (l - (p + k)).toNat = 0 by omega, show k + (p - l).toNat = (p + k - l).toNat by omega]
  · by_cases h2 : 0 ≤ p + k - l
    · rw [show k + (p - l).toNat = (p + k - l).toNat + (l - p).toNat by omega, Nat.pow_add, ← Nat.mul_assoc, half_whole, show (l - (p + k)).toNat = 0 by omega, half_zero]
    · rw [show (p - l).toNat = 0 by omega, show (p + k - l).toNat = 0 by omega, show (l - p).toNat = (l - (p + k)).toNat + k by omega, Nat.add_zero, half_scale, Nat.pow_zero, Nat.mul_one]
theorem nearest_scale (s : Bool) (m k : Nat) (p : Int) : double.nearest s (m * 2 ^ k) p = double.nearest s m (p + k) := by
  by_cases h : m = 0
  · subst h; rw [Nat.zero_mul, nearest_zero, nearest_zero]
  · have hk := two_pos k
    rw [nearest_eq _ _ _ (Nat.mul_ne_zero h (by omega)), nearest_eq _ _ _ h, rung_scale _ _ _ h]
/-- Rounding hangs on the worth alone. -/
theorem nearest_worth (s : Bool) (m n : Nat) (p q b : Int) (hp : b ≤ p) (hq : b ≤ q) (h : m * 2 ^ (p - b).toNat = n * 2 ^ (q - b).toNat) : double.nearest s m p = double.nearest s n q := by
  have h1 := nearest_scale s m (p - b).toNat b
  have h2 := nearest_scale s n (q - b).toNat b
  rw [show b + ((p - b).toNat : Int) = p by omega] at h1
  rw [show b + ((q - b).toNat : Int) = q by omega] at h2
  rw [← h1, ← h2, h]

/-- What a rung is worth, in units of the least place. -/
def uval (r : Nat) : Nat := if r < 4503599627370496 then r else (4503599627370496 + r % 4503599627370496) * 2 ^ (r / 4503599627370496 - 1)
theorem uval_low {r : Nat} (h : r < 4503599627370496) : uval r = r := by unfold uval; rw [if_pos h]
theorem uval_kept (l k : Nat) (h : 4503599627370496 ≤ k) (h2 : k ≤ 9007199254740992) : uval (l * 4503599627370496 + k) = k * 2 ^ l := by
  unfold uval
  rw [if_neg (by omega)]
  by_cases e : k = 9007199254740992
  · subst e
    rw [show (l * 4503599627370496 + 9007199254740992) % 4503599627370496 = 0 by omega, show (l * 4503599627370496 + 9007199254740992) / 4503599627370496 - 1 = l + 1 by omega, Nat.pow_succ]
    omega
  · rw [show (l * 4503599627370496 + k) % 4503599627370496 = k - 4503599627370496 by omega, show (l * 4503599627370496 + k) / 4503599627370496 - 1 = l by omega, show 4503599627370496 + (k - 4503599627370496) = k by omega]
theorem uval_form (r : Nat) (h : 4503599627370496 ≤ r) : ∃ l k, r = l * 4503599627370496 + k ∧ 4503599627370496 ≤ k ∧ k < 9007199254740992 ∧ uval r = k * 2 ^ l := by
  refine ⟨r / 4503599627370496 - 1, 4503599627370496 + r % 4503599627370496, by omega, by omega, by omega, ?_⟩
  unfold uval
  rw [if_neg (by omega)]
theorem uval_lt (r t : Nat) (h : r < t) : uval r < uval t := by
  by_cases h1 : t < 4503599627370496
  · rw [uval_low h1, uval_low (by omega)]; exact h
  · obtain ⟨l, k, rfl, k0, k1, e⟩ := uval_form t (by omega)
    rw [e]
    have hl := two_pos l
    by_cases h2 : r < 4503599627370496
    · rw [uval_low h2]
      have : k * 1 ≤ k * 2 ^ l := Nat.mul_le_mul_left _ hl
      omega
    · obtain ⟨l2, k2, rfl, k20, k21, e2⟩ := uval_form r (by omega)
      rw [e2]
      by_cases h3 : l2 = l
      · subst h3; exact Nat.mul_lt_mul_of_pos_right (by omega) hl
      · have h4 : 2 ^ l = 2 ^ (l2 + 1) * 2 ^ (l - l2 - 1) := by rw [← Nat.pow_add]; congr 1; omega
        have h5 := two_pos (l - l2 - 1)
        have h6 := two_pos l2
        have h7 : k2 * 2 ^ l2 < 9007199254740992 * 2 ^ l2 := Nat.mul_lt_mul_of_pos_right k21 h6
        have h8 : 4503599627370496 * 2 ^ l ≤ k * 2 ^ l := Nat.mul_le_mul_right _ k0
        have h9 : 2 ^ (l2 + 1) * 1 ≤ 2 ^ l := by rw [h4]; exact Nat.mul_le_mul_left _ h5
        rw [Nat.pow_succ] at h9
        omega
theorem uval_le (r t : Nat) (h : r ≤ t) : uval r ≤ uval t := by
  rcases Nat.lt_or_eq_of_le h with h | rfl
  · exact Nat.le_of_lt (uval_lt r t h)
  · exact Nat.le_refl _
theorem uval_inj {r t : Nat} (h : uval r = uval t) : r = t := by
  rcases Nat.lt_trichotomy r t with h1 | h1 | h1
  · have := uval_lt r t h1; omega
  · exact h1
  · have := uval_lt t r h1; omega

/-- What bits are worth is rounded to them. -/
theorem rung_uval (r : Nat) (h0 : r ≠ 0) (h : r < 9218868437227405312) : rungOf (uval r) (-1074) = r := by
  by_cases h1 : r < 4503599627370496
  · rw [uval_low h1]
    have hl : r.log2 < 52 := (Nat.log2_lt h0).2 (by omega)
    unfold rungOf
    rw [show lastOf r (-1074) = -1074 by unfold lastOf; omega]
    simp only [Int.sub_self, Int.toNat_zero, shl_pow, Nat.pow_zero, Nat.mul_one, half_zero]
    omega
  · obtain ⟨l, k, rfl, k0, k1, e⟩ := uval_form r (by omega)
    rw [e, rung_scale _ _ _ (by omega)]
    have hl : k.log2 = 52 := (Nat.log2_eq_iff (by omega)).2 (by omega)
    unfold rungOf
    rw [show lastOf k (-1074 + l) = -1074 + l by unfold lastOf; omega]
    simp only [Int.sub_self, Int.toNat_zero, shl_pow, Nat.pow_zero, Nat.mul_one, half_zero]
    omega
theorem nearest_uval (s : Bool) (r : Nat) (h : r < 9218868437227405312) : double.nearest s (uval r) (-1074) = double.word s r := by
  by_cases h0 : r = 0
  · subst h0; exact nearest_zero _ _
  · have := uval_lt 0 r (by omega)
    rw [nearest_eq _ _ _ (by omega), rung_uval r h0 h]
theorem exact_rung (t : Nat) : ∀ K, K < 9007199254740992 → t ≤ 2045 → ∃ r, r < 9218868437227405312 ∧ uval r = K * 2 ^ t := by
  induction t with
  | zero =>
    intro K hK _
    by_cases h : K < 4503599627370496
    · exact ⟨K, by omega, by rw [uval_low h]; omega⟩
    · refine ⟨0 * 4503599627370496 + K, by omega, uval_kept 0 K (by omega) (by omega)⟩
  | succ t ih =>
    intro K hK ht
    by_cases h : K < 4503599627370496
    · obtain ⟨r, hr, e⟩ := ih (K * 2) (by omega) (by omega)
      exact ⟨r, hr, by rw [e, Nat.pow_succ, Nat.mul_assoc, Nat.mul_comm 2]⟩
    · exact ⟨(t + 1) * 4503599627370496 + K, by omega, uval_kept (t + 1) K (by omega) (by omega)⟩
/-- A number of up to 53 digits, in no place that is too great, is exact. -/
theorem nearest_exact (s : Bool) (K t : Nat) (hK : K < 9007199254740992) (ht : t ≤ 2045) : ∃ r, r < 9218868437227405312 ∧ uval r = K * 2 ^ t ∧ double.nearest s (K * 2 ^ t) (-1074) = double.word s r := by
  obtain ⟨r, hr, e⟩ := exact_rung t K hK ht
  exact ⟨r, hr, e, by rw [← e]; exact nearest_uval s r hr⟩
end Go.Proofs.Ytmdcdicmlnlenaa
