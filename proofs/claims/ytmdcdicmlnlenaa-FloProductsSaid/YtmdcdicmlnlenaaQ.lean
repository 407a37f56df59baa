/- Bits of 64 with the sign's bit, as plain sums. Nothing of the program. -/
import Derived.Test.YtmdcdicmlnlenaaP
import Derived.Laws.BitsAllLaws
import Derived.Laws.Bits64b
namespace Go.Proofs.Ytmdcdicmlnlenaa

/-- The sign's bit: turned, alone, taken away, laid. -/
def flip (a : Nat) : Nat := if a < 9223372036854775808 then a + 9223372036854775808 else a - 9223372036854775808
def isi (b : Nat) : Bool := decide (b % 9223372036854775808 = 9218868437227405312)
def isz (b : Nat) : Bool := decide (b % 9223372036854775808 = 0)
def ngt (b : Nat) : Bool := decide (9223372036854775808 ≤ b)

theorem two63 : (2 : Nat) ^ 63 = 9223372036854775808 := by decide
theorem xor_sgn (a : Nat) (ha : a < 18446744073709551616) : a ^^^ 9223372036854775808 = flip a := by
  unfold flip
  rw [← two63]
  by_cases h : a < 2 ^ 63
  · rw [if_pos h]
    have := Nat.two_pow_add_eq_or_of_lt h 1
    rw [Nat.mul_one] at this
    rw [Nat.add_comm, this]
    refine Nat.eq_of_testBit_eq fun i => ?_
    rw [Nat.testBit_xor, Nat.testBit_or, Nat.testBit_two_pow]
    by_cases hi : 63 = i
    · subst hi; rw [Nat.testBit_lt_two_pow h]; rfl
    · simp [hi]
  · rw [if_neg h]
    obtain ⟨b, rfl⟩ : ∃ b, a = 2 ^ 63 + b := ⟨a - 2 ^ 63, by omega⟩
    have hb : b < 2 ^ 63 := by rw [two63] at *; omega
    have e := Nat.two_pow_add_eq_or_of_lt hb 1
    rw [Nat.mul_one] at e
    rw [show 2 ^ 63 + b - 2 ^ 63 = b by omega, e]
    refine Nat.eq_of_testBit_eq fun i => ?_
    rw [Nat.testBit_xor, Nat.testBit_or, Nat.testBit_two_pow]
    by_cases hi : 63 = i
    · subst hi; rw [Nat.testBit_lt_two_pow hb]; rfl
    · simp [hi]
theorem or_sgn (a : Nat) (ha : a < 9223372036854775808) : a ||| 9223372036854775808 = a + 9223372036854775808 := by
  rw [← two63] at *
  have := Nat.two_pow_add_eq_or_of_lt ha 1
  rw [Nat.mul_one] at this
  rw [Nat.add_comm, this, Nat.or_comm]
theorem and_sgn (a : Nat) (ha : a < 18446744073709551616) : a &&& 9223372036854775808 = if a < 9223372036854775808 then 0 else 9223372036854775808 := by
  rw [← two63]
  refine Nat.eq_of_testBit_eq fun i => ?_
  rw [Nat.testBit_and, Nat.testBit_two_pow]
  by_cases h : a < 2 ^ 63
  · rw [if_pos h]
    by_cases hi : 63 = i
    · subst hi; rw [Nat.testBit_lt_two_pow h]; rfl
    · simp [hi]
  · rw [if_neg h]
    by_cases hi : 63 = i
    · subst hi
      rw [Nat.testBit_two_pow, Nat.testBit_eq_decide_div_mod_eq]
      have : a / 2 ^ 63 % 2 = 1 := by rw [two63] at *; omega
      simp [this]
    · rw [Nat.testBit_two_pow]; simp [hi]

theorem not_sgn (a : Nat) : a &&& (18446744073709551615 - 9223372036854775808) = a % 9223372036854775808 := by
  have e : 18446744073709551615 - 9223372036854775808 = 2 ^ 63 - 1 := by decide
  rw [e, Nat.and_two_pow_sub_one_eq_mod, two63]

theorem xor_all (a : Nat) (ha : a < 18446744073709551616) : 18446744073709551615 ^^^ a = 18446744073709551615 - a := by
  have h : (BitVec.ofNat 64 18446744073709551615 ^^^ BitVec.ofNat 64 a) = ~~~ (BitVec.ofNat 64 a) := by
    rw [show BitVec.ofNat 64 18446744073709551615 = BitVec.allOnes 64 by decide +kernel, BitVec.allOnes_xor]
  have h2 := congrArg BitVec.toNat h
  rw [BitVec.toNat_xor, BitVec.toNat_not, BitVec.toNat_ofNat, BitVec.toNat_ofNat] at h2
  rw [Nat.mod_eq_of_lt (a := a) (by omega)] at h2
  exact h2.trans (by omega)
/-- The same of Go's operations. -/
theorem go_not (a : Int) (h0 : 0 ≤ a) (h1 : a ≤ 18446744073709551615) : bits .xor .u64 IntKind.u64.max a = 18446744073709551615 - a := by
  obtain ⟨n, rfl⟩ := Int.eq_ofNat_of_zero_le h0
  have h := u64_xor_nat 18446744073709551615 n (by omega) (by omega)
  rw [xor_all n (by omega)] at h
  exact h.trans (by omega)
theorem go_xor (a : Int) (h0 : 0 ≤ a) (h1 : a ≤ 18446744073709551615) : bits .xor .u64 a 9223372036854775808 = (flip a.toNat : Nat) := by
  obtain ⟨n, rfl⟩ := Int.eq_ofNat_of_zero_le h0
  have h := u64_xor_nat n 9223372036854775808 (by omega) (by omega)
  rw [xor_sgn n (by omega)] at h
  exact h
theorem go_and (a : Int) (h0 : 0 ≤ a) (h1 : a ≤ 18446744073709551615) : bits .and .u64 a 9223372036854775808 = if a < 9223372036854775808 then 0 else 9223372036854775808 := by
  obtain ⟨n, rfl⟩ := Int.eq_ofNat_of_zero_le h0
  have h := u64_and_nat n 9223372036854775808 (by omega) (by omega)
  rw [and_sgn n (by omega)] at h
  refine h.trans ?_
  by_cases hn : n < 9223372036854775808
  · rw [if_pos hn, if_pos (by omega)]; rfl
  · rw [if_neg hn, if_neg (by omega)]; rfl
theorem go_or (a : Int) (h0 : 0 ≤ a) (h1 : a < 9223372036854775808) : bits .or .u64 a 9223372036854775808 = a + 9223372036854775808 := by
  obtain ⟨n, rfl⟩ := Int.eq_ofNat_of_zero_le h0
  have h := u64_or_nat n 9223372036854775808 (by omega) (by omega)
  rw [or_sgn n (by omega)] at h
  exact h.trans (by omega)
theorem go_andNot (a : Int) (h0 : 0 ≤ a) (h1 : a ≤ 18446744073709551615) : bits .andNot .u64 a 9223372036854775808 = a % 9223372036854775808 := by
  obtain ⟨n, rfl⟩ := Int.eq_ofNat_of_zero_le h0
  have h := u64_andNot_nat n 9223372036854775808 (by omega) (by omega)
  rw [not_sgn n] at h
  exact h.trans (by omega)
end Go.Proofs.Ytmdcdicmlnlenaa
