/- The document's Mul and Quo of all floats; the walk of the statement on products. -/
import Derived.Test.YtmdcdicmlnlenaaAR
namespace Go.Proofs.Ytmdcdicmlnlenaa
open Go.ChangeShapes Go.WideShapes Go.ChangeAt Go.RowKit

theorem isi_rg (a : Nat) : isi a = decide (rg a = 9218868437227405312) := rfl
theorem mul_v (x y : Nat) (hx : isn x = false) (hy : isn y = false) (key : isi x = true ∨ isi y = true) :
    fop .mul x y = if isi x && isz y || isz x && isi y then NaN else Ieee.double.word (sg x ^^ sg y) 9218868437227405312 := by
  rw [isi_rg, isi_rg] at key ⊢
  rw [isz_rg, isz_rg]
  simp only [decide_eq_true_eq] at key
  rw [fop_mul_inf x y key hx hy]
  by_cases h0 : rg x = 0 ∨ rg y = 0
  · rw [if_pos h0, if_pos (by simp only [Bool.or_eq_true, Bool.and_eq_true, decide_eq_true_eq]; omega)]
  · rw [if_neg h0, if_neg (by simp only [Bool.or_eq_true, Bool.and_eq_true, decide_eq_true_eq]; omega)]
theorem zero_quo (x y : Nat) (hx : fin x) (hy : fin y) (h0 : rg x = 0) (h1 : rg y ≠ 0) : fop .quo x y = Ieee.double.word (sg x ^^ sg y) 0 := by
  obtain ⟨m, i, rx, _, _, _, _, e2⟩ := read_fin x hx
  obtain ⟨n, j, ry, _, _, _, f1, f2⟩ := read_fin y hy
  rw [fop_quo x y m n i j rx ry (by omega)]
  have hm : m = 0 := by omega
  subst hm
  have : quoMag 0 n = 0 := by unfold quoMag; simp
  rw [this, nearest_zero]
theorem quo_v (x y : Nat) (hx : isn x = false) (hy : isn y = false) (key : isi x = true ∨ isi y = true ∨ isz x = true ∨ isz y = true) :
    fop .quo x y = if isi x && isi y || isz x && isz y then NaN else if isi x || isz y then Ieee.double.word (sg x ^^ sg y) 9218868437227405312 else Ieee.double.word (sg x ^^ sg y) 0 := by
  rw [isi_rg, isi_rg, isz_rg, isz_rg] at key ⊢
  simp only [decide_eq_true_eq] at key
  rcases not_nan x hx with fx | ix
  · rcases not_nan y hy with fy | iy
    · have fx' := fx
      have fy' := fy
      unfold fin at fx' fy'
      by_cases h0 : rg y = 0
      · rw [fop_quo_zero x y fx h0]
        by_cases h1 : rg x = 0
        · rw [if_pos h1, if_pos (by simp only [Bool.or_eq_true, Bool.and_eq_true, decide_eq_true_eq]; omega)]
        · rw [if_neg h1, if_neg (by simp only [Bool.or_eq_true, Bool.and_eq_true, decide_eq_true_eq]; omega), if_pos (by simp only [Bool.or_eq_true, decide_eq_true_eq]; omega)]
      · rw [zero_quo x y fx fy (by omega) h0, if_neg (by simp only [Bool.or_eq_true, Bool.and_eq_true, decide_eq_true_eq]; omega), if_neg (by simp only [Bool.or_eq_true, decide_eq_true_eq]; omega)]
    · have fx' := fx
      unfold fin at fx'
      rw [fop_quo_inf_r x y fx iy, if_neg (by simp only [Bool.or_eq_true, Bool.and_eq_true, decide_eq_true_eq]; omega), if_neg (by simp only [Bool.or_eq_true, decide_eq_true_eq]; omega)]
  · rcases not_nan y hy with fy | iy
    · have fy' := fy
      unfold fin at fy'
      rw [fop_quo_inf_l x y ix fy, if_neg (by simp only [Bool.or_eq_true, Bool.and_eq_true, decide_eq_true_eq]; omega), if_pos (by simp only [Bool.or_eq_true, decide_eq_true_eq]; omega)]
    · rw [fop_quo_inf x y ix iy, if_pos (by simp only [Bool.or_eq_true, Bool.and_eq_true, decide_eq_true_eq]; omega)]

set_option maxRecDepth 100000 in
set_option maxHeartbeats 4000000 in
theorem mul_other (a b : Int) (w : World) (a0 : 0 ≤ a) (a1 : a ≤ 18446744073709551615) (b0 : 0 ≤ b) (b1 : b ≤ 18446744073709551615) (hna : isn a.toNat = false) (hnb : isn b.toNat = false)
    (key : isi a.toNat = true ∨ isi b.toNat = true) :
    Calls Try.prog 18 #[.int .u64 a, .int .u64 b] w fun e w' => e = .returned (.int .u64 (fop .mul a.toNat b.toNat : Nat)) ∧ Grown w w' := by
  have Na := Lib.hid (fun w => isNaN_ref a w a0 a1)
  have Nb := Lib.hid (fun w => isNaN_ref b w b0 b1)
  have Ia := Lib.hid (fun w => isInf_ref a w a0 a1)
  have Ib := Lib.hid (fun w => isInf_ref b w b0 b1)
  have Za := Lib.hid (fun w => isZero_ref a w a0 a1)
  have Zb := Lib.hid (fun w => isZero_ref b w b0 b1)
  have V := mul_v a.toNat b.toNat hna hnb key
  rw [hna] at Na
  rw [hnb] at Nb
  obtain ⟨xx, hx1, hx2⟩ := sign_xor a b a0 a1 b0 b1
  clear hna hnb
  generalize fop .mul a.toNat b.toNat = r at *
  generalize isi a.toNat = ia at *
  generalize isi b.toNat = ib at *
  generalize isz a.toNat = za at *
  generalize isz b.toNat = zb at *
  generalize (sg a.toNat ^^ sg b.toNat) = σ at *
  have ho := sgn_or_inf σ
  have hz := sgn_word σ
  try rw [hz] at V
  clear hz
  generalize sgn σ = sn at *
  generalize Ieee.double.word σ 9218868437227405312 = wi at *
  cases ia <;> cases ib <;> cases za <;> cases zb
  all_goals
    simp only [Bool.and_true, Bool.and_false, Bool.or_false, Bool.or_true, Bool.false_eq_true, if_false, if_true, or_self, or_true, true_or] at V key
  all_goals
    clear key
    have V' := Lib.hid V
    clear V
    go_enter Try.func18, Try.ntmps18
    go_wp2_with (first
      | (go_at_call 43; ((with_reducible refine (Na.out _).mono ?_); rintro e3 w3 ⟨rfl, rfl⟩))
      | (go_at_call 43; ((with_reducible refine (Nb.out _).mono ?_); rintro e3 w3 ⟨rfl, rfl⟩))
      | (go_at_call 44; ((with_reducible refine (Ia.out _).mono ?_); rintro e3 w3 ⟨rfl, rfl⟩))
      | (go_at_call 44; ((with_reducible refine (Ib.out _).mono ?_); rintro e3 w3 ⟨rfl, rfl⟩))
      | (go_at_call 45; ((with_reducible refine (Za.out _).mono ?_); rintro e3 w3 ⟨rfl, rfl⟩))
      | (go_at_call 45; ((with_reducible refine (Zb.out _).mono ?_); rintro e3 w3 ⟨rfl, rfl⟩)))
    go_ret
    exact ⟨ret_int (by rw [V'.out]; first | done | rfl), Grown.refl _⟩

set_option maxRecDepth 100000 in
set_option maxHeartbeats 4000000 in
theorem quo_other (a b : Int) (w : World) (a0 : 0 ≤ a) (a1 : a ≤ 18446744073709551615) (b0 : 0 ≤ b) (b1 : b ≤ 18446744073709551615) (hna : isn a.toNat = false) (hnb : isn b.toNat = false)
    (key : isi a.toNat = true ∨ isi b.toNat = true ∨ isz a.toNat = true ∨ isz b.toNat = true) :
    Calls Try.prog 20 #[.int .u64 a, .int .u64 b] w fun e w' => e = .returned (.int .u64 (fop .quo a.toNat b.toNat : Nat)) ∧ Grown w w' := by
  have Na := Lib.hid (fun w => isNaN_ref a w a0 a1)
  have Nb := Lib.hid (fun w => isNaN_ref b w b0 b1)
  have Ia := Lib.hid (fun w => isInf_ref a w a0 a1)
  have Ib := Lib.hid (fun w => isInf_ref b w b0 b1)
  have Za := Lib.hid (fun w => isZero_ref a w a0 a1)
  have Zb := Lib.hid (fun w => isZero_ref b w b0 b1)
  have V := quo_v a.toNat b.toNat hna hnb key
  rw [hna] at Na
  rw [hnb] at Nb
  obtain ⟨xx, hx1, hx2⟩ := sign_xor a b a0 a1 b0 b1
  clear hna hnb
  generalize fop .quo a.toNat b.toNat = r at *
  generalize isi a.toNat = ia at *
  generalize isi b.toNat = ib at *
  generalize isz a.toNat = za at *
  generalize isz b.toNat = zb at *
  generalize (sg a.toNat ^^ sg b.toNat) = σ at *
  have ho := sgn_or_inf σ
  have hz := sgn_word σ
  try rw [hz] at V
  clear hz
  generalize sgn σ = sn at *
  generalize Ieee.double.word σ 9218868437227405312 = wi at *
  cases ia <;> cases ib <;> cases za <;> cases zb
  all_goals
    simp only [Bool.and_true, Bool.and_false, Bool.or_false, Bool.or_true, Bool.false_eq_true, if_false, if_true, or_self, or_true, true_or] at V key
  all_goals
    clear key
    have V' := Lib.hid V
    clear V
    go_enter Try.func20, Try.ntmps20
    go_wp2_with (first
      | (go_at_call 43; ((with_reducible refine (Na.out _).mono ?_); rintro e3 w3 ⟨rfl, rfl⟩))
      | (go_at_call 43; ((with_reducible refine (Nb.out _).mono ?_); rintro e3 w3 ⟨rfl, rfl⟩))
      | (go_at_call 44; ((with_reducible refine (Ia.out _).mono ?_); rintro e3 w3 ⟨rfl, rfl⟩))
      | (go_at_call 44; ((with_reducible refine (Ib.out _).mono ?_); rintro e3 w3 ⟨rfl, rfl⟩))
      | (go_at_call 45; ((with_reducible refine (Za.out _).mono ?_); rintro e3 w3 ⟨rfl, rfl⟩))
      | (go_at_call 45; ((with_reducible refine (Zb.out _).mono ?_); rintro e3 w3 ⟨rfl, rfl⟩)))
    go_ret
    exact ⟨ret_int (by rw [V'.out]; first | done | rfl), Grown.refl _⟩

theorem mul_ref (a b : Int) (w : World) (a0 : 0 ≤ a) (a1 : a ≤ 18446744073709551615) (b0 : 0 ≤ b) (b1 : b ≤ 18446744073709551615) :
    Calls Try.prog 18 #[.int .u64 a, .int .u64 b] w fun e w' => e = .returned (.int .u64 (fop .mul a.toNat b.toNat : Nat)) ∧ Grown w w' := by
  have Na := Lib.hid (fun w => isNaN_ref a w a0 a1)
  have Nb := Lib.hid (fun w => isNaN_ref b w b0 b1)
  obtain ⟨xx, hx1, hx2⟩ := sign_xor a b a0 a1 b0 b1
  cases hna : isn a.toNat
  case true =>
    have F := Lib.hid (fop_nan_l .mul a.toNat b.toNat hna)
    rw [hna] at Na
    clear hna
    go_enter Try.func18, Try.ntmps18
    go_wp2_with (go_at_call 43; ((with_reducible refine (Na.out _).mono ?_); rintro e3 w3 ⟨rfl, rfl⟩))
    go_ret
    exact ⟨ret_int (by rw [F.out]; rfl), Grown.refl _⟩
  case false =>
    cases hnb : isn b.toNat
    case true =>
      have F := Lib.hid (fop_nan_r .mul a.toNat b.toNat hnb)
      rw [hna] at Na
      rw [hnb] at Nb
      clear hna hnb
      go_enter Try.func18, Try.ntmps18
      go_wp2_with (first
        | (go_at_call 43; ((with_reducible refine (Na.out _).mono ?_); rintro e3 w3 ⟨rfl, rfl⟩))
        | (go_at_call 43; ((with_reducible refine (Nb.out _).mono ?_); rintro e3 w3 ⟨rfl, rfl⟩)))
      go_ret
      exact ⟨ret_int (by rw [F.out]; rfl), Grown.refl _⟩
    case false =>
      rcases not_nan _ hna with fa | ia
      · rcases not_nan _ hnb with fb | ib
        · exact mul_walk a b w a0 a1 b0 b1 fa fb
        · exact mul_other a b w a0 a1 b0 b1 hna hnb (.inr (isi_of _ ib))
      · exact mul_other a b w a0 a1 b0 b1 hna hnb (.inl (isi_of _ ia))

theorem quo_ref (a b : Int) (w : World) (a0 : 0 ≤ a) (a1 : a ≤ 18446744073709551615) (b0 : 0 ≤ b) (b1 : b ≤ 18446744073709551615) :
    Calls Try.prog 20 #[.int .u64 a, .int .u64 b] w fun e w' => e = .returned (.int .u64 (fop .quo a.toNat b.toNat : Nat)) ∧ Grown w w' := by
  have Na := Lib.hid (fun w => isNaN_ref a w a0 a1)
  have Nb := Lib.hid (fun w => isNaN_ref b w b0 b1)
  obtain ⟨xx, hx1, hx2⟩ := sign_xor a b a0 a1 b0 b1
  cases hna : isn a.toNat
  case true =>
    have F := Lib.hid (fop_nan_l .quo a.toNat b.toNat hna)
    rw [hna] at Na
    clear hna
    go_enter Try.func20, Try.ntmps20
    go_wp2_with (go_at_call 43; ((with_reducible refine (Na.out _).mono ?_); rintro e3 w3 ⟨rfl, rfl⟩))
    go_ret
    exact ⟨ret_int (by rw [F.out]; rfl), Grown.refl _⟩
  case false =>
    cases hnb : isn b.toNat
    case true =>
      have F := Lib.hid (fop_nan_r .quo a.toNat b.toNat hnb)
      rw [hna] at Na
      rw [hnb] at Nb
      clear hna hnb
      go_enter Try.func20, Try.ntmps20
      go_wp2_with (first
        | (go_at_call 43; ((with_reducible refine (Na.out _).mono ?_); rintro e3 w3 ⟨rfl, rfl⟩))
        | (go_at_call 43; ((with_reducible refine (Nb.out _).mono ?_); rintro e3 w3 ⟨rfl, rfl⟩)))
      go_ret
      exact ⟨ret_int (by rw [F.out]; rfl), Grown.refl _⟩
    case false =>
      rcases not_nan _ hna with fa | ia
      · rcases not_nan _ hnb with fb | ib
        · cases za : isz a.toNat
          · cases zb : isz b.toNat
            · exact quo_walk a b w a0 a1 b0 b1 fa fb za zb
            · exact quo_other a b w a0 a1 b0 b1 hna hnb (.inr (.inr (.inr zb)))
          · exact quo_other a b w a0 a1 b0 b1 hna hnb (.inr (.inr (.inl za)))
        · exact quo_other a b w a0 a1 b0 b1 hna hnb (.inr (.inl (isi_of _ ib)))
      · exact quo_other a b w a0 a1 b0 b1 hna hnb (.inl (isi_of _ ia))

theorem products_walk (a b : Int) (w : World) (a0 : 0 ≤ a) (a1 : a ≤ 18446744073709551615) (b0 : 0 ≤ b) (b1 : b ≤ 18446744073709551615) :
    Calls Try.prog 4 #[.int .u64 a, .int .u64 b] w fun e w' => e = .returned (.bool true) ∧ Grown w w' := by
  have A1 := Lib.hid (fun w => mul_any a b w)
  have A2 := Lib.hid (fun w => mul_ref a b w a0 a1 b0 b1)
  have S1 := Lib.hid (fun w => div_any a b w)
  have S2 := Lib.hid (fun w => quo_ref a b w a0 a1 b0 b1)
  generalize fop .mul a.toNat b.toNat = x at *
  generalize fop .quo a.toNat b.toNat = y at *
  go_enter Try.func4, Try.ntmps4
  go_wp2_with (first
    | (go_at_call 12; refine (awake _).mono ?_; rintro e w9 ⟨rfl, hg⟩)
    | (go_at_call 17; refine (A1.out _).mono ?_; rintro e w1 ⟨rfl, hg1⟩)
    | (go_at_call 18; refine (A2.out _).mono ?_; rintro e w2 ⟨rfl, hg2⟩)
    | (go_at_call 19; refine (S1.out _).mono ?_; rintro e w3 ⟨rfl, hg3⟩)
    | (go_at_call 20; refine (S2.out _).mono ?_; rintro e w4 ⟨rfl, hg4⟩))
  go_ret
  exact ⟨rfl, Grown.trans hg (Grown.trans hg1 (Grown.trans hg2 (Grown.trans hg3 hg4)))⟩
end Go.Proofs.Ytmdcdicmlnlenaa
