/- Plain arithmetic under the document's own answers of layer 1: the bits of a number of four digits, and the division bit by bit; no program is named here. -/
import Derived.Test.YtlpgfdphoiideaaM
namespace Go.Proofs.Ytlpgfdphoiideaa.M

/-- The number of four digits. -/
def val (d0 d1 d2 d3 : Int) : Int := d0 + d1 * 4294967296 + d2 * 18446744073709551616 + d3 * 79228162514264337593543950336

/-- The bit of V at the place k. -/
def bitAt (V : Int) (k : Nat) : Int := V / 2 ^ k % 2

theorem bitAt_bd (V : Int) (k : Nat) : 0 ≤ bitAt V k ∧ bitAt V k ≤ 1 := by unfold bitAt; omega

theorem two_split (m : Nat) (h : m ≤ 31) : (2 : Int) ^ m * (2 * 2 ^ (31 - m)) = 4294967296 ∧ 0 < (2 : Int) ^ m := by
  refine ⟨?_, Int.pow_pos (by omega)⟩
  rw [show (2 : Int) * 2 ^ (31 - m) = 2 ^ (31 - m + 1) from by rw [Int.pow_succ, Int.mul_comm], ← Int.pow_add, show m + (31 - m + 1) = 32 from by omega]
  rfl
/-- A digit's bit is the whole number's. -/
theorem digit_bit (low d high : Int) (m : Nat) (hm : m ≤ 31) (p : Int) (hp : 0 < p) (h0 : 0 ≤ low) (h1 : low < p) :
    (low + (d + high * 4294967296) * p) / (p * 2 ^ m) % 2 = d / 2 ^ m % 2 := by
  obtain ⟨e, hm0⟩ := two_split m hm
  have e1 : (low + (d + high * 4294967296) * p) / p = d + high * 4294967296 := by
    rw [Int.add_mul_ediv_right _ _ (by omega), Int.ediv_eq_zero_of_lt h0 h1]; omega
  rw [← Int.ediv_ediv_of_nonneg (by omega), e1, ← e]
  rw [show d + high * (2 ^ m * (2 * 2 ^ (31 - m))) = d + (high * 2 ^ (31 - m) * 2) * 2 ^ m from by grind, Int.add_mul_ediv_right _ _ (by omega)]
  omega

theorem bit0 {d0 d1 d2 d3 : Int} (m : Nat) (hm : m ≤ 31) : bitAt (val d0 d1 d2 d3) m = d0 / 2 ^ m % 2 := by
  have h := digit_bit 0 d0 (d1 + d2 * 4294967296 + d3 * 18446744073709551616) m hm 1 (by omega) (by omega) (by omega)
  rw [← h]; unfold bitAt val
  congr 2
  · omega
  · omega
theorem bit1 {d0 d1 d2 d3 : Int} (a0 : 0 ≤ d0) (b0 : d0 < 4294967296) (m : Nat) (hm : m ≤ 31) : bitAt (val d0 d1 d2 d3) (32 + m) = d1 / 2 ^ m % 2 := by
  have h := digit_bit d0 d1 (d2 + d3 * 4294967296) m hm 4294967296 (by omega) (by omega) (by omega)
  rw [← h]; unfold bitAt val
  congr 2
  · omega
  · rw [Int.pow_add]; rfl
theorem bit2 {d0 d1 d2 d3 : Int} (a0 : 0 ≤ d0) (b0 : d0 < 4294967296) (a1 : 0 ≤ d1) (b1 : d1 < 4294967296) (m : Nat) (hm : m ≤ 31) : bitAt (val d0 d1 d2 d3) (64 + m) = d2 / 2 ^ m % 2 := by
  have h := digit_bit (d0 + d1 * 4294967296) d2 d3 m hm 18446744073709551616 (by omega) (by omega) (by omega)
  rw [← h]; unfold bitAt val
  congr 2
  · omega
  · rw [Int.pow_add]; rfl
theorem bit3 {d0 d1 d2 d3 : Int} (a0 : 0 ≤ d0) (b0 : d0 < 4294967296) (a1 : 0 ≤ d1) (b1 : d1 < 4294967296) (a2 : 0 ≤ d2) (b2 : d2 < 4294967296) (m : Nat) (hm : m ≤ 31) :
    bitAt (val d0 d1 d2 d3) (96 + m) = d3 / 2 ^ m % 2 := by
  have h := digit_bit (d0 + d1 * 4294967296 + d2 * 18446744073709551616) d3 0 m hm 79228162514264337593543950336 (by omega) (by omega) (by omega)
  rw [← h]; unfold bitAt val
  congr 2
  · omega
  · rw [Int.pow_add]; rfl

/-- What the division bit by bit keeps behind the bits from the place k on: rest and quotient (cut to 64 bits), and whether the quotient has had more. -/
structure Div (V c : Int) (k : Nat) (rest q : Int) (over : Bool) : Prop where
  rest_eq : rest = V / 2 ^ k % c
  q_eq : q = V / 2 ^ k / c % 18446744073709551616
  over_iff : over = decide (18446744073709551616 ≤ V / 2 ^ k / c)

theorem Div.start {V c : Int} (h0 : 0 ≤ V) (h : V < 340282366920938463463374607431768211456) : Div V c 128 0 0 false := by
  have e : V / 2 ^ 128 = 0 := Int.ediv_eq_zero_of_lt h0 (by omega)
  refine ⟨?_, ?_, ?_⟩ <;> rw [e] <;> simp
theorem half (V : Int) (k : Nat) : V / 2 ^ k = 2 * (V / 2 ^ (k + 1)) + bitAt V k := by
  unfold bitAt
  rw [Int.pow_succ, ← Int.ediv_ediv_of_nonneg (by exact Int.le_of_lt (Int.pow_pos (by omega)))]
  omega
/-- One round: P is the dividend so far, b its next bit. -/
theorem round_no {P b c : Int} (hc : 0 < c) (hb0 : 0 ≤ b) (h : 2 * (P % c) + b < c) : (2 * P + b) / c = 2 * (P / c) ∧ (2 * P + b) % c = 2 * (P % c) + b := by
  have e := Int.ediv_mul_add_emod P c
  have hm := mod_bd P c hc
  have e2 : 2 * P + b = (2 * (P % c) + b) + 2 * (P / c) * c := by
    rw [Int.mul_assoc]; omega
  constructor
  · rw [e2, Int.add_mul_ediv_right _ _ (by omega), Int.ediv_eq_zero_of_lt (by omega) h]; omega
  · rw [e2, Int.add_mul_emod_self_right, Int.emod_eq_of_lt (by omega) h]
theorem round_yes {P b c : Int} (hc : 0 < c) (hb1 : b ≤ 1) (h : c ≤ 2 * (P % c) + b) : (2 * P + b) / c = 2 * (P / c) + 1 ∧ (2 * P + b) % c = 2 * (P % c) + b - c := by
  have e := Int.ediv_mul_add_emod P c
  have hm := mod_bd P c hc
  have e2 : 2 * P + b = (2 * (P % c) + b - c) + (2 * (P / c) + 1) * c := by
    rw [Int.add_mul, Int.mul_assoc]; omega
  constructor
  · rw [e2, Int.add_mul_ediv_right _ _ (by omega), Int.ediv_eq_zero_of_lt (by omega) (by omega)]; omega
  · rw [e2, Int.add_mul_emod_self_right, Int.emod_eq_of_lt (by omega) (by omega)]
theorem Div.no {V c : Int} {k : Nat} {rest q : Int} {o : Bool} (hV : 0 ≤ V) (hc : 0 < c) (s : Div V c (k + 1) rest q o) (h : 2 * rest + bitAt V k < c) :
    Div V c k (2 * rest + bitAt V k) (2 * q % 18446744073709551616) (o || decide (9223372036854775808 ≤ q)) := by
  have hb := bitAt_bd V k
  have hp : 0 ≤ V / 2 ^ (k + 1) := Int.ediv_nonneg hV (Int.le_of_lt (Int.pow_pos (by omega)))
  have hq0 : 0 ≤ V / 2 ^ (k + 1) / c := Int.ediv_nonneg hp (by omega)
  obtain ⟨r, q', o'⟩ := s
  rw [r] at h
  obtain ⟨e1, e2⟩ := round_no hc hb.1 h
  refine ⟨by rw [half, e2, r], ?_, ?_⟩
  · rw [half, e1, q']; omega
  · rw [half, e1, o', q', Bool.eq_iff_iff]; simp; omega
theorem Div.yes {V c : Int} {k : Nat} {rest q : Int} {o : Bool} (hV : 0 ≤ V) (hc : 0 < c) (s : Div V c (k + 1) rest q o) (h : c ≤ 2 * rest + bitAt V k) :
    Div V c k (2 * rest + bitAt V k - c) (2 * q % 18446744073709551616 + 1) (o || decide (9223372036854775808 ≤ q)) := by
  have hb := bitAt_bd V k
  have hp : 0 ≤ V / 2 ^ (k + 1) := Int.ediv_nonneg hV (Int.le_of_lt (Int.pow_pos (by omega)))
  have hq0 : 0 ≤ V / 2 ^ (k + 1) / c := Int.ediv_nonneg hp (by omega)
  obtain ⟨r, q', o'⟩ := s
  rw [r] at h
  obtain ⟨e1, e2⟩ := round_yes hc hb.2 h
  refine ⟨by rw [half, e2, r], ?_, ?_⟩
  · rw [half, e1, q']; omega
  · rw [half, e1, o', q', Bool.eq_iff_iff]; simp; omega
theorem Div.finish {V c : Int} {rest q : Int} {o : Bool} (hV : 0 ≤ V) (hc : 0 < c) (s : Div V c 0 rest q o) : (if o then 18446744073709551615 else q) = sat (V / c) := by
  obtain ⟨r, q', o'⟩ := s
  have hq0 : 0 ≤ V / c := Int.ediv_nonneg hV (by omega)
  rw [show V / 2 ^ 0 = V from by simp] at q' o'
  unfold sat
  by_cases h : V / c < 18446744073709551616
  · rw [if_pos h, o', decide_eq_false (by omega)]; simp; omega
  · rw [if_neg h, o', decide_eq_true (by omega)]; simp
theorem Div.bd {V c : Int} {k : Nat} {rest q : Int} {o : Bool} (hc : 0 < c) (s : Div V c k rest q o) : 0 ≤ rest ∧ rest < c ∧ 0 ≤ q ∧ q < 18446744073709551616 := by
  obtain ⟨r, q', _⟩ := s
  have := mod_bd (V / 2 ^ k) c hc
  omega
end Go.Proofs.Ytlpgfdphoiideaa.M
