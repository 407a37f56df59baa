/- The statement on edges, put together. -/
import Derived.Test.YtmdcdicmlnlenaaK
namespace Go.Proofs.Ytmdcdicmlnlenaa
open Go.ChangeShapes Go.WideShapes Go.ChangeAt Go.RowKit

theorem edges_walk (a b c : Int) (w : World) (a0 : 0 ≤ a) (a1 : a ≤ 18446744073709551615) (b0 : 0 ≤ b) (b1 : b ≤ 18446744073709551615) (c0 : 0 ≤ c) (c1 : c ≤ 18446744073709551615) :
    Calls Try.prog 7 #[.int .u64 a, .int .u64 b, .int .u64 c] w fun e w' => e = .returned (.bool true) ∧ Grown w w' := by
  have ha : a.toNat < 18446744073709551616 := by omega
  have hb : b.toNat < 18446744073709551616 := by omega
  have S1 := Lib.hid (fun w => add_any a b w)
  have S2 := Lib.hid (fun w => add_any b a w)
  have M1 := Lib.hid (fun w => mul_any a b w)
  have M2 := Lib.hid (fun w => mul_any b a w)
  rw [add_comm'] at S2
  rw [mul_comm'] at M2
  have D := Lib.hid (fun w => sub_any a a w)
  have O1 := Lib.hid (fun w => order_any a b w a1 b1)
  have O2 := Lib.hid (fun w => order_any b a w b1 a1)
  have O3 := Lib.hid (fun w => order_any b c w b1 c1)
  have O4 := Lib.hid (fun w => order_any a c w a1 c1)
  rw [ford_swap] at O2
  have O5 : Hid (∀ w, Calls Try.prog 25 #[.int .u64 9223372036854775808, .int .u64 0] w fun e w' => e = .returned (.int .i64 (-1)) ∧ w = w') :=
    fun w => (order_any _ _ w (by omega) (by omega)).mono fun e w' h => ⟨h.1.trans (ret_int (by decide +kernel)), h.2⟩
  have L := Lib.hid (fun w => less_any a b w)
  have E := Lib.hid (fun w => equal_any a a w)
  have E0 : Hid (∀ w, Calls Try.prog 21 #[.int .u64 0, .int .u64 9223372036854775808] w fun e w' => e = .returned (.bool true) ∧ w = w') :=
    fun w => (equal_any _ _ w).mono fun e w' h => ⟨h.1.trans (ret_bool (by decide +kernel)), h.2⟩
  have MN := Lib.hid (fun w => min_any a b w a0 a1 b0 b1)
  have T := Lib.hid (fun w => toInt_any a w)
  have K := Lib.hid (fun w => class_any a w a0 a1)
  have N1 := Lib.hid (fun w => neg_any a w a0 a1)
  have hn1 : fneg a.toNat < 18446744073709551616 := by unfold fneg; split; decide +kernel; exact flip_lt ha
  have N2 := Lib.hid (fun w => neg_any (fneg a.toNat : Nat) w (by omega) (by omega))
  have ho : (ford a.toNat b.toNat = 1 ∧ fless a.toNat b.toNat = false) ∨ (ford a.toNat b.toNat = 0 ∧ fless a.toNat b.toNat = false) ∨ ford a.toNat b.toNat = -1 := by
    have h1 := ford_bd a.toNat b.toNat
    cases h : fless a.toNat b.toNat
    · rcases (by omega : ford a.toNat b.toNat = 1 ∨ ford a.toNat b.toNat = 0 ∨ ford a.toNat b.toNat = -1) with e | e | e
      · exact .inl ⟨e, rfl⟩
      · exact .inr (.inl ⟨e, rfl⟩)
      · exact .inr (.inr e)
    · exact .inr (.inr (less_ford _ _ ha hb h))
  have ho2 := ford_trans a.toNat b.toNat c.toNat
  rw [Int.toNat_natCast] at N2
  have bk := cls_bd a.toNat
  rcases cls_cases a.toNat with ⟨ca, na⟩ | ⟨ca, na, ia⟩ | hfin
  · have s0 : (fop .add a.toNat b.toNat : Int) = 9221120237041090561 := by rw [fop_nan_l _ _ _ na]; rfl
    have m0 : (fop .mul a.toNat b.toNat : Int) = 9221120237041090561 := by rw [fop_nan_l _ _ _ na]; rfl
    have l0 : fless a.toNat b.toNat = false := by rw [fless_rless _ _ ha hb]; unfold rless; rw [na]; rfl
    have q0 : feq a.toNat a.toNat = false := by rw [feq_req _ _ ha ha]; unfold req; rw [na]; rfl
    have mn0 : (fmin a.toNat b.toNat : Int) = 9221120237041090561 := by unfold fmin; rw [na]; rfl
    have t0 : ftoi a.toNat = 0 := by unfold ftoi; rw [na]; rfl
    exact edges_nan a b c _ _ _ _ _ _ _ _ _ _ _ w a0 a1 S1 S2 M1 M2 D O1 O2 O3 O4 O5 L E E0 MN T K ho ho2 s0 m0 l0 q0 mn0 t0 ca
  · have n2 := neg_neg' a.toNat ha na
    rw [n2, Int.toNat_of_nonneg a0] at N2
    have d0 : (fop .sub a.toNat a.toNat : Int) = 9221120237041090561 := by rw [sub_self_inf _ ia]; rfl
    exact edges_inf a b c _ _ _ _ _ _ _ _ _ _ _ _ w a0 a1 S1 S2 M1 M2 D O1 O2 O3 O4 O5 L E E0 MN T K N1 N2 ho ho2 ca d0
  · have hf : fin a.toNat ∧ isn a.toNat = false ∧ (cls a.toNat = 0 ∨ cls a.toNat = 1 ∨ cls a.toNat = 2) := by
      rcases hfin with ⟨h, h2, h3, _⟩ | ⟨h, h2, h3, _⟩
      · exact ⟨h3, h2, .inl h⟩
      · exact ⟨h3, h2, .inr h⟩
    obtain ⟨fa, na, hk⟩ := hf
    have n2 := neg_neg' a.toNat ha na
    rw [n2, Int.toNat_of_nonneg a0] at N2
    have d0 : (fop .sub a.toNat a.toNat : Int) = 0 := by rw [sub_self' _ fa]; rfl
    exact edges_fin a b c _ _ _ _ _ _ _ _ _ _ _ _ w a0 a1 S1 S2 M1 M2 D O1 O2 O3 O4 O5 L E E0 MN T K N1 N2 ho ho2 (by simp; omega) (by simp; omega) (by omega) d0
end Go.Proofs.Ytmdcdicmlnlenaa
