/- Contracts: the number of leading noughts, and the division of 128 bits by 64. -/
import Derived.Test.YtlpgfdphoiideaaA
import Derived.Lib.BitFns
import Derived.Lib.Strings
import Derived.Lib.Slices
import Derived.Lib.Small
import Derived.Lib.Walk
import Derived.Deep.DeepCutAuto
import Derived.Deep.CutBlock
namespace Go.Proofs.Ytlpgfdphoiideaa
open Go.ChangeShapes Go.WideShapes Go.ChangeAt Go.RowKit

theorem t8 (i : Int) (h0 : 0 ≤ i) (h1 : i ≤ 255) (h : i.toNat < Lib.len8tab.size) : ((Lib.len8tab[i.toNat]'h).toNat : Int) = (Lib.bitLen i.toNat : Int) ∧ Lib.bitLen i.toNat ≤ 8 := by
  have e := Lib.len8_eq ⟨i.toNat, by omega⟩
  have l := Lib.bitLen_le8 ⟨i.toNat, by omega⟩
  simp only [Int.toNat_of_nonneg h0] at e l
  refine ⟨?_, l⟩
  rw [← e]
  simp only [Lib.len8, ByteArray.getElem?_lt' _ _ h, Option.getD_some]

/-- What the table says of a number's upper byte, added to the bits below it. -/
theorem top8 (x : Int) (k : Nat) (i : Int) (h0 : 0 ≤ i) (h1 : i ≤ 255) (h : i.toNat < Lib.len8tab.size) (hk : k ≤ 56)
    (hb : Lib.bitLen x.toNat = k + Lib.bitLen i.toNat) : wrap64 ((k : Int) + wrap64 ((Lib.len8tab[i.toNat]'h).toNat : Int)) = (Lib.bitLen x.toNat : Int) := by
  obtain ⟨e, l⟩ := t8 i h0 h1 h
  rw [e, hb]
  unfold wrap64
  omega

set_option maxHeartbeats 4000000 in
set_option maxRecDepth 100000 in
theorem len64_any (x : Int) (w : World) (h0 : 0 ≤ x) (h1 : x ≤ 18446744073709551615) :
    Calls Try.prog 66 #[.int .u64 x] w fun e w' => e = .returned (.int .i64 (Lib.bitLen x.toNat)) ∧ w' = w := by
  have hs8 : Lib.len8tab.size = 256 := Lib.len8tab_size
  go_enter Try.func66, Try.ntmps66
  go_wp2
  all_goals (go_ret; refine ⟨congrArg Ending.returned (congrArg (Value.int IntKind.i64) ?_), rfl⟩)
  · exact top8 x 56 _ (by omega) (by omega) _ (by omega) (by rw [show (x / 4294967296 / 65536 / 256).toNat = x.toNat / 72057594037927936 from by omega]; exact Lib.bitLen_shift56 x.toNat (by omega) (by omega))
  · exact top8 x 48 _ (by omega) (by omega) _ (by omega) (by rw [show (x / 4294967296 / 65536).toNat = x.toNat / 281474976710656 from by omega]; exact Lib.bitLen_shift48 x.toNat (by omega) (by omega))
  · exact top8 x 40 _ (by omega) (by omega) _ (by omega) (by rw [show (x / 4294967296 / 256).toNat = x.toNat / 1099511627776 from by omega]; exact Lib.bitLen_shift40 x.toNat (by omega) (by omega))
  · exact top8 x 32 _ (by omega) (by omega) _ (by omega) (by rw [show (x / 4294967296).toNat = x.toNat / 4294967296 from by omega]; exact Lib.bitLen_shift32 x.toNat (by omega) (by omega))
  · exact top8 x 24 _ (by omega) (by omega) _ (by omega) (by rw [show (x / 65536 / 256).toNat = x.toNat / 16777216 from by omega]; exact Lib.bitLen_shift24 x.toNat (by omega) (by omega))
  · exact top8 x 16 _ (by omega) (by omega) _ (by omega) (by rw [show (x / 65536).toNat = x.toNat / 65536 from by omega]; exact Lib.bitLen_shift16 x.toNat (by omega) (by omega))
  · exact top8 x 8 _ (by omega) (by omega) _ (by omega) (by rw [show (x / 256).toNat = x.toNat / 256 from by omega]; exact Lib.bitLen_shift8 x.toNat (by omega) (by omega))
  · obtain ⟨e, l⟩ := t8 x (by omega) (by omega) (by omega)
    rw [e]
    unfold wrap64
    omega

theorem aux_bd : ∀ (f x : Nat), x < 2 ^ f → Lib.bitLenAux f x ≤ f ∧ x < 2 ^ Lib.bitLenAux f x ∧ (x ≠ 0 → 2 ^ Lib.bitLenAux f x ≤ 2 * x)
  | 0, x, h => by
    have : x = 0 := by simpa using h
    subst this
    simp [Lib.bitLenAux]
  | f + 1, x, h => by
    by_cases h0 : x = 0
    · subst h0; simp [Lib.bitLenAux]
    · have ih := aux_bd f (x / 2) (by rw [Nat.pow_succ] at h; omega)
      simp only [Lib.bitLenAux, if_neg h0, Nat.pow_add, Nat.pow_one]
      obtain ⟨i1, i2, i3⟩ := ih
      refine ⟨by omega, by omega, fun _ => ?_⟩
      by_cases h1 : x / 2 = 0
      · rw [h1] at *
        have : Lib.bitLenAux f 0 = 0 := by cases f <;> simp [Lib.bitLenAux]
        rw [this]; omega
      · have := i3 h1; omega
theorem bitLen_bd (x : Nat) (h0 : x ≠ 0) (h : x < 18446744073709551616) : Lib.bitLen x ≤ 64 ∧ x < 2 ^ Lib.bitLen x ∧ 2 ^ Lib.bitLen x ≤ 2 * x := by
  have := aux_bd 64 x (by omega)
  exact ⟨this.1, this.2.1, this.2.2 h0⟩

/-- The number of leading noughts s: shifted by s, the uppermost bit is set. -/
def Lead (x : Int) (w : World) (e : Ending) (w' : World) : Prop :=
  ∃ s : Int, 0 ≤ s ∧ s ≤ 63 ∧ 9223372036854775808 ≤ x * 2 ^ s.toNat ∧ x * 2 ^ s.toNat < 18446744073709551616 ∧ e = .returned (.int .i64 s) ∧ w = w'

theorem lead_num (n : Nat) (h0 : n ≠ 0) (h : n < 18446744073709551616) :
    9223372036854775808 ≤ (n : Int) * 2 ^ (64 - (Lib.bitLen n : Int)).toNat ∧ (n : Int) * 2 ^ (64 - (Lib.bitLen n : Int)).toNat < 18446744073709551616 := by
  obtain ⟨h1, h2, h3⟩ := bitLen_bd n h0 h
  have e : (64 - (Lib.bitLen n : Int)).toNat = 64 - Lib.bitLen n := by omega
  rw [e]
  have hp : 2 ^ Lib.bitLen n * 2 ^ (64 - Lib.bitLen n) = 18446744073709551616 := by rw [← Nat.pow_add, show Lib.bitLen n + (64 - Lib.bitLen n) = 64 from by omega]
  have hq : 0 < 2 ^ (64 - Lib.bitLen n) := Nat.pow_pos (by omega)
  have h4 : n * 2 ^ (64 - Lib.bitLen n) < 2 ^ Lib.bitLen n * 2 ^ (64 - Lib.bitLen n) := Nat.mul_lt_mul_of_pos_right h2 hq
  have h5 : 2 ^ Lib.bitLen n * 2 ^ (64 - Lib.bitLen n) ≤ 2 * n * 2 ^ (64 - Lib.bitLen n) := Nat.mul_le_mul_right _ h3
  rw [hp] at h4 h5
  rw [Nat.mul_assoc] at h5
  have e2 : (n : Int) * 2 ^ (64 - Lib.bitLen n) = ((n * 2 ^ (64 - Lib.bitLen n) : Nat) : Int) := by rw [Int.natCast_mul, Int.natCast_pow]; rfl
  rw [e2]
  omega

theorem lead_any (x : Int) (w : World) (h0 : 0 < x) (h1 : x ≤ 18446744073709551615) :
    Calls Try.prog 65 #[.int .u64 x] w (Lead x w) := by
  have hb := bitLen_bd x.toNat (by omega) (by omega)
  have hn := lead_num x.toNat (by omega) (by omega)
  have hl : Lib.bitLen x.toNat ≤ 64 := hb.1
  have hl1 : 1 ≤ Lib.bitLen x.toNat := by
    have h2 := hb.2.1
    have : Lib.bitLen x.toNat ≠ 0 := by intro h; rw [h] at h2; omega
    omega
  rw [Int.toNat_of_nonneg (by omega)] at hn
  have H : Hid _ := hn
  clear hn hb
  go_enter Try.func65, Try.ntmps65
  go_wp2_with (go_at_call 66; refine (len64_any _ _ (by omega) (by omega)).mono ?_; rintro e w' ⟨rfl, rfl⟩)
  go_ret
  exact ⟨_, by omega, by omega, H.out.1, H.out.2, ret_int rfl, rfl⟩

end Go.Proofs.Ytlpgfdphoiideaa
