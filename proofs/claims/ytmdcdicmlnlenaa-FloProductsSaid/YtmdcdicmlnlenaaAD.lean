/- The document's rounding: Pack. Its parts. -/
import Derived.Test.YtmdcdicmlnlenaaAC
import Derived.Test.YtmdcdicmlnlenaaR
import Derived.Test.YtmdcdicmlnlenaaE
import Derived.Deep.DeepCutAuto
import Derived.Deep.CutBlock
namespace Go.Proofs.Ytmdcdicmlnlenaa
open Go.ChangeShapes Go.WideShapes Go.ChangeAt Go.RowKit

def packQ (m : Nat) (e : Int) : Nat := if lastOf m e ≤ e then m * 2 ^ (e - lastOf m e).toNat else m / 2 ^ (lastOf m e - e).toNat
def packUp (m : Nat) (e : Int) (more : Bool) : Bool :=
  if lastOf m e ≤ e then false
  else bitN m ((lastOf m e - e).toNat - 1) == 1 && (more || m / 2 ^ ((lastOf m e - e).toNat - 1) * 2 ^ ((lastOf m e - e).toNat - 1) != m || bitN (m / 2 ^ (lastOf m e - e).toNat) 0 == 1)
def packFin (neg : Bool) (T : Int) (W : Nat) : Nat :=
  if W = 9007199254740992 then (if 971 < T + 1 then Ieee.double.word neg 9218868437227405312 else Ieee.double.word neg ((T + 1 + 1075).toNat * 4503599627370496))
  else if 971 < T then Ieee.double.word neg 9218868437227405312 else if W < 4503599627370496 then Ieee.double.word neg W else Ieee.double.word neg ((T + 1075).toNat * 4503599627370496 + (W - 4503599627370496))
def pack (neg : Bool) (m : Nat) (e : Int) (more : Bool) : Nat := if m = 0 then Ieee.double.word neg 0 else packFin neg (lastOf m e) (packQ m e + (packUp m e more).toNat)

/-- The program's rounding is IEEE's. -/
theorem bit_half (m k : Nat) (hk : k ≠ 0) : (bitN m (k - 1) == 1 && (m / 2 ^ (k - 1) * 2 ^ (k - 1) != m || bitN (m / 2 ^ k) 0 == 1)).toNat = up m k := by
  obtain ⟨j, rfl⟩ : ∃ j, k = j + 1 := ⟨k - 1, by omega⟩
  rw [Nat.add_sub_cancel]
  unfold bitN up
  have hj := two_pos j
  rw [Nat.pow_succ, ← Nat.div_div_eq_div_mul, Nat.mod_mul, Nat.pow_zero, Nat.div_one]
  have h1 := Nat.div_add_mod m (2 ^ j)
  have h2 := Nat.mod_lt m hj
  rw [Nat.mul_comm] at h1
  have hne : (m / 2 ^ j * 2 ^ j != m) = decide (m % 2 ^ j ≠ 0) := by
    rw [Bool.eq_iff_iff]; simp only [bne_iff_ne, decide_eq_true_eq]; omega
  rw [hne]
  generalize m % 2 ^ j = r at *
  generalize m / 2 ^ j = q at *
  clear h1 hne
  generalize 2 ^ j = g at *
  rcases (by omega : q % 2 = 0 ∨ q % 2 = 1) with hb | hb
  · rw [hb, Nat.mul_zero, Nat.add_zero, if_neg (by omega)]; rfl
  · rw [hb, Nat.mul_one]
    by_cases h0 : r = 0
    · subst h0
      by_cases h3 : q / 2 % 2 = 1
      · rw [if_pos (by omega), h3]; rfl
      · rw [if_neg (by omega), show q / 2 % 2 = 0 by omega]; rfl
    · rw [if_pos (by omega)]; simp [h0]
theorem pack_kept (m : Nat) (e : Int) : packQ m e + (packUp m e false).toNat = keptOf m e := by
  unfold packQ packUp keptOf
  rw [shl_pow]
  generalize lastOf m e = l
  by_cases h : l ≤ e
  · rw [if_pos h, if_pos h, show (l - e).toNat = 0 by omega, half_zero]; rfl
  · rw [if_neg h, if_neg h, show (e - l).toNat = 0 by omega, Nat.pow_zero, Nat.mul_one, Bool.false_or, bit_half _ _ (by omega)]
    rfl
theorem packFin_rung (neg : Bool) (T : Int) (W : Nat) (hT : -1074 ≤ T) (hW : W ≤ 9007199254740992) (h : T = -1074 ∨ 4503599627370496 ≤ W) :
    packFin neg T W = Ieee.double.word neg (min ((T + 1074).toNat * 4503599627370496 + W) 9218868437227405312) := by
  unfold packFin
  by_cases h1 : W = 9007199254740992
  · rw [if_pos h1]
    by_cases h2 : 971 < T + 1
    · rw [if_pos h2, Nat.min_eq_right (by omega)]
    · rw [if_neg h2, Nat.min_eq_left (by omega)]; exact congrArg (Ieee.double.word neg) (by omega)
  · rw [if_neg h1]
    by_cases h2 : 971 < T
    · rw [if_pos h2, Nat.min_eq_right (by omega)]
    · rw [if_neg h2]
      by_cases h3 : W < 4503599627370496
      · rw [if_pos h3, Nat.min_eq_left (by omega)]; exact congrArg (Ieee.double.word neg) (by omega)
      · rw [if_neg h3, Nat.min_eq_left (by omega)]; exact congrArg (Ieee.double.word neg) (by omega)
theorem pack_nearest (neg : Bool) (m : Nat) (e : Int) : pack neg m e false = Ieee.double.nearest neg m e := by
  unfold pack
  by_cases h : m = 0
  · subst h; rw [if_pos rfl, nearest_zero]
  · rw [if_neg h, nearest_eq _ _ _ h, pack_kept, packFin_rung _ _ _ (last_ge m e) (kept_bd m e h).1 (kept_bd m e h).2, rungOf_kept]

/-- The sign's bit and what stands below it. -/
def sgn (neg : Bool) : Nat := if neg then 9223372036854775808 else 0
theorem sgn_or (neg : Bool) (x : Nat) (hx : x < 9223372036854775808) : bits .or .u64 (sgn neg : Nat) (x : Int) = (Ieee.double.word neg x : Nat) := by
  rw [word_eq]
  unfold sgn
  cases neg
  · simp only [Bool.false_eq_true, if_false]
    have := u64_or_nat 0 x (by omega) (by omega)
    rwa [Nat.zero_or] at this
  · simp only [if_true]
    have := u64_or_nat 9223372036854775808 x (by omega) (by omega)
    rw [Nat.or_comm, or_sgn x hx] at this
    rw [this]; omega
theorem word_lt' (neg : Bool) (x : Nat) (hx : x < 9223372036854775808) : Ieee.double.word neg x < 18446744073709551616 := by rw [word_eq]; split <;> omega
/-- Exponent and fraction. -/
theorem sgn_or3 (neg : Bool) (E f : Nat) (hE : E < 2048) (hf : f < 4503599627370496) : bits .or .u64 (bits .or .u64 (sgn neg : Nat) ((E * 4503599627370496 : Nat) : Int)) (f : Int) = (Ieee.double.word neg (E * 4503599627370496 + f) : Nat) := by
  rw [sgn_or neg _ (by omega), u64_or_nat _ _ (word_lt' neg _ (by omega)) (by omega)]
  congr 1
  have e52 : (4503599627370496 : Nat) = 2 ^ 52 := by decide
  have key : ∀ a, a * 4503599627370496 ||| f = a * 4503599627370496 + f := fun a => by
    rw [e52, Nat.mul_comm, ← Nat.two_pow_add_eq_or_of_lt (by rw [← e52]; exact hf)]
  rw [word_eq, word_eq]
  cases neg
  · simp only [Bool.false_eq_true, if_false]; exact key E
  · simp only [if_true]
    rw [show 9223372036854775808 + E * 4503599627370496 = (2048 + E) * 4503599627370496 by omega, key]
    omega
theorem mask52 (a : Nat) (ha : a < 18446744073709551616) : bits .and .u64 (a : Int) 4503599627370495 = ((a % 4503599627370496 : Nat) : Int) := by
  have h := u64_and_nat a 4503599627370495 ha (by omega)
  have e : a &&& 4503599627370495 = a % 4503599627370496 := Nat.and_two_pow_sub_one_eq_mod a 52
  rw [e] at h
  exact h
theorem sgn_or_inf (neg : Bool) : bits .or .u64 (sgn neg : Nat) 9218868437227405312 = (Ieee.double.word neg 9218868437227405312 : Nat) := sgn_or neg 9218868437227405312 (by omega)
/-- A number's word, by its exponent and its fraction: the sums that the walk makes. -/
theorem normal_word (neg : Bool) (E f : Nat) (hE : E < 2048) (hf : f < 4503599627370496) : ∃ P x r : Nat, (E : Int) * 4503599627370496 = (P : Int) ∧ P < 9223372036854775808 ∧
    bits .or .u64 (sgn neg : Nat) (P : Int) = (x : Int) ∧ bits .or .u64 (x : Int) (f : Int) = (r : Int) ∧ r = Ieee.double.word neg (E * 4503599627370496 + f) := by
  refine ⟨E * 4503599627370496, Ieee.double.word neg (E * 4503599627370496), _, by omega, by omega, sgn_or neg _ (by omega), ?_, rfl⟩
  rw [← sgn_or3 neg E f hE hf, sgn_or neg _ (by omega)]
theorem mask_zero : bits .and .u64 4503599627370496 4503599627370495 = 0 := mask52 4503599627370496 (by omega)
theorem mask_frac (W : Nat) (h : 4503599627370496 ≤ W) (h2 : W < 9007199254740992) : bits .and .u64 (W : Int) 4503599627370495 = ((W - 4503599627370496 : Nat) : Int) := by
  rw [mask52 W (by omega), show W % 4503599627370496 = W - 4503599627370496 by omega]
theorem packQ_lt (m : Nat) (e : Int) : packQ m e < 9007199254740992 := by
  have h2 : m < 2 ^ (m.log2 + 1) := Nat.lt_log2_self
  have e53 : (9007199254740992 : Nat) = 2 ^ 53 := by decide
  have hl : e + m.log2 - 52 ≤ lastOf m e := by unfold lastOf; omega
  unfold packQ
  generalize lastOf m e = l at *
  rw [e53]
  split
  · have hk : m * 2 ^ (e - l).toNat < 2 ^ (m.log2 + 1) * 2 ^ (e - l).toNat := Nat.mul_lt_mul_of_pos_right h2 (two_pos _)
    rw [← Nat.pow_add] at hk
    have hk2 : 2 ^ (m.log2 + 1 + (e - l).toNat) ≤ 2 ^ 53 := Nat.pow_le_pow_right (by omega) (by omega)
    omega
  · refine Nat.div_lt_of_lt_mul ?_
    rw [← Nat.pow_add]
    have : 2 ^ (m.log2 + 1) ≤ 2 ^ ((l - e).toNat + 53) := Nat.pow_le_pow_right (by omega) (by omega)
    omega
end Go.Proofs.Ytmdcdicmlnlenaa
