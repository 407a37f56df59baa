/- The document's Add and Sub of all floats; the walk of the statement on sums. -/
import Derived.Test.YtmdcdicmlnlenaaAK
import Derived.Test.YtmdcdicmlnlenaaH
namespace Go.Proofs.Ytmdcdicmlnlenaa
open Go.ChangeShapes Go.WideShapes Go.ChangeAt Go.RowKit

theorem isi_of (b : Nat) (h : rg b = 9218868437227405312) : isi b = true := by unfold isi; unfold rg at h; simp [h]
theorem isi_fin (b : Nat) (h : fin b) : isi b = false := by unfold fin rg at h; unfold isi; simp; omega
theorem and_noughts (a b : Int) (a0 : 0 ≤ a) (a1 : a ≤ 18446744073709551615) (b0 : 0 ≤ b) (b1 : b ≤ 18446744073709551615) (ha : rg a.toNat = 0) (hb : rg b.toNat = 0) :
    bits .and .u64 a b = (fop .add a.toNat b.toNat : Nat) := by
  have fa : fin a.toNat := by unfold fin; omega
  have fb : fin b.toNat := by unfold fin; omega
  rw [fop_add _ _ fa fb]
  have va : ival a.toNat = 0 := by unfold ival sgi; rw [ha, uval_zero]; simp
  have vb : ival b.toNat = 0 := by unfold ival sgi; rw [hb, uval_zero]; simp
  rw [va, vb]
  unfold addW
  rw [if_pos (by omega), word_eq]
  unfold rg at ha hb
  rcases (by omega : a = 0 ∨ a = 9223372036854775808) with rfl | rfl
  · rcases (by omega : b = 0 ∨ b = 9223372036854775808) with rfl | rfl
    · decide +kernel
    · decide +kernel
  · rcases (by omega : b = 0 ∨ b = 9223372036854775808) with rfl | rfl
    · decide +kernel
    · decide +kernel

theorem nan_int : ((NaN : Nat) : Int) = 9221120237041090561 := rfl
set_option maxRecDepth 100000 in
set_option maxHeartbeats 2000000 in
theorem add_ref (a b : Int) (w : World) (a0 : 0 ≤ a) (a1 : a ≤ 18446744073709551615) (b0 : 0 ≤ b) (b1 : b ≤ 18446744073709551615) :
    Calls Try.prog 14 #[.int .u64 a, .int .u64 b] w fun e w' => e = .returned (.int .u64 (fop .add a.toNat b.toNat : Nat)) ∧ Grown w w' := by
  have Na := Lib.hid (fun w => isNaN_ref a w a0 a1)
  have Nb := Lib.hid (fun w => isNaN_ref b w b0 b1)
  have Ia := Lib.hid (fun w => isInf_ref a w a0 a1)
  have Ib := Lib.hid (fun w => isInf_ref b w b0 b1)
  have Za := Lib.hid (fun w => isZero_ref a w a0 a1)
  have Zb := Lib.hid (fun w => isZero_ref b w b0 b1)
  cases hna : isn a.toNat
  case true =>
    have F := Lib.hid (fop_nan_l .add a.toNat b.toNat hna)
    rw [hna] at Na
    clear hna
    go_enter Try.func14, Try.ntmps14
    go_wp2_with (go_at_call 43; ((with_reducible refine (Na.out _).mono ?_); rintro e3 w3 ⟨rfl, rfl⟩))
    go_ret
    exact ⟨ret_int (by rw [F.out]; rfl), Grown.refl _⟩
  case false =>
    cases hnb : isn b.toNat
    case true =>
      have F := Lib.hid (fop_nan_r .add a.toNat b.toNat hnb)
      rw [hna] at Na
      rw [hnb] at Nb
      clear hna hnb
      go_enter Try.func14, Try.ntmps14
      go_wp2_with (first
        | (go_at_call 43; ((with_reducible refine (Na.out _).mono ?_); rintro e3 w3 ⟨rfl, rfl⟩))
        | (go_at_call 43; ((with_reducible refine (Nb.out _).mono ?_); rintro e3 w3 ⟨rfl, rfl⟩)))
      go_ret
      exact ⟨ret_int (by rw [F.out]; rfl), Grown.refl _⟩
    case false =>
      have wa := word_back a.toNat (by omega)
      have wb := word_back b.toNat (by omega)
      rcases not_nan _ hna with fa | ia
      · rcases not_nan _ hnb with fb | ib
        · by_cases hz : isz a.toNat = true ∧ isz b.toNat = true
          · have ra : rg a.toNat = 0 := by have h := hz.1; rw [isz_rg] at h; simpa using h
            have rb : rg b.toNat = 0 := by have h := hz.2; rw [isz_rg] at h; simpa using h
            have hand := and_noughts a b a0 a1 b0 b1 ra rb
            rw [hna] at Na
            rw [hnb] at Nb
            rw [isi_fin _ fa] at Ia
            rw [isi_fin _ fb] at Ib
            rw [hz.1] at Za
            rw [hz.2] at Zb
            clear wa wb hna hnb fa fb hz ra rb
            generalize fop .add a.toNat b.toNat = r at *
            go_enter Try.func14, Try.ntmps14
            go_wp2_with (first
              | (go_at_call 43; ((with_reducible refine (Na.out _).mono ?_); rintro e3 w3 ⟨rfl, rfl⟩))
              | (go_at_call 43; ((with_reducible refine (Nb.out _).mono ?_); rintro e3 w3 ⟨rfl, rfl⟩))
              | (go_at_call 44; ((with_reducible refine (Ia.out _).mono ?_); rintro e3 w3 ⟨rfl, rfl⟩))
              | (go_at_call 44; ((with_reducible refine (Ib.out _).mono ?_); rintro e3 w3 ⟨rfl, rfl⟩))
              | (go_at_call 45; ((with_reducible refine (Za.out _).mono ?_); rintro e3 w3 ⟨rfl, rfl⟩))
              | (go_at_call 45; ((with_reducible refine (Zb.out _).mono ?_); rintro e3 w3 ⟨rfl, rfl⟩)))
            go_ret
            exact ⟨rfl, Grown.refl _⟩
          · exact add_walk a b w a0 a1 b0 b1 fa fb hz
        · have F : fop .add a.toNat b.toNat = b.toNat := by rw [fop_add_inf_r _ _ fa ib, ← ib, wb]
          have F' : Hid ((fop .add a.toNat b.toNat : Int) = b) := by show _ = _; omega
          rw [hna] at Na
          rw [hnb] at Nb
          rw [isi_fin _ fa] at Ia
          rw [isi_of _ ib] at Ib
          clear wa wb hna hnb fa ib F
          go_enter Try.func14, Try.ntmps14
          go_wp2_with (first
            | (go_at_call 43; ((with_reducible refine (Na.out _).mono ?_); rintro e3 w3 ⟨rfl, rfl⟩))
            | (go_at_call 43; ((with_reducible refine (Nb.out _).mono ?_); rintro e3 w3 ⟨rfl, rfl⟩))
            | (go_at_call 44; ((with_reducible refine (Ia.out _).mono ?_); rintro e3 w3 ⟨rfl, rfl⟩))
            | (go_at_call 44; ((with_reducible refine (Ib.out _).mono ?_); rintro e3 w3 ⟨rfl, rfl⟩)))
          go_ret
          exact ⟨ret_int (by rw [F'.out]), Grown.refl _⟩
      · rcases not_nan _ hnb with fb | ib
        · have F : fop .add a.toNat b.toNat = a.toNat := by rw [fop_add_inf_l _ _ ia fb, ← ia, wa]
          have F' : Hid ((fop .add a.toNat b.toNat : Int) = a) := by show _ = _; omega
          rw [hna] at Na
          rw [hnb] at Nb
          rw [isi_of _ ia] at Ia
          rw [isi_fin _ fb] at Ib
          clear wa wb hna hnb ia fb F
          go_enter Try.func14, Try.ntmps14
          go_wp2_with (first
            | (go_at_call 43; ((with_reducible refine (Na.out _).mono ?_); rintro e3 w3 ⟨rfl, rfl⟩))
            | (go_at_call 43; ((with_reducible refine (Nb.out _).mono ?_); rintro e3 w3 ⟨rfl, rfl⟩))
            | (go_at_call 44; ((with_reducible refine (Ia.out _).mono ?_); rintro e3 w3 ⟨rfl, rfl⟩))
            | (go_at_call 44; ((with_reducible refine (Ib.out _).mono ?_); rintro e3 w3 ⟨rfl, rfl⟩)))
          go_ret
          exact ⟨ret_int (by rw [F'.out]), Grown.refl _⟩
        · have F0 := fop_add_inf _ _ ia ib
          rw [hna] at Na
          rw [hnb] at Nb
          rw [isi_of _ ia] at Ia
          rw [isi_of _ ib] at Ib
          by_cases hab : a = b
          · subst hab
            rw [if_pos rfl, ← ia, wa] at F0
            have F' : Hid ((fop .add a.toNat a.toNat : Int) = a) := by show _ = _; omega
            clear wa wb hna hnb ia ib F0
            go_enter Try.func14, Try.ntmps14
            go_wp2_with (first
              | (go_at_call 43; ((with_reducible refine (Na.out _).mono ?_); rintro e3 w3 ⟨rfl, rfl⟩))
              | (go_at_call 44; ((with_reducible refine (Ia.out _).mono ?_); rintro e3 w3 ⟨rfl, rfl⟩)))
            go_ret
            exact ⟨ret_int (by rw [F'.out]), Grown.refl _⟩
          · have hs : sg a.toNat ≠ sg b.toNat := by
              intro h
              rw [ia] at wa
              rw [ib, ← h] at wb
              omega
            rw [if_neg hs] at F0
            have F' := Lib.hid F0
            have hne : (a != b) = true := by simpa using hab
            clear wa wb hna hnb ia ib F0 hs hab
            go_enter Try.func14, Try.ntmps14
            go_wp2_with (first
              | (go_at_call 43; ((with_reducible refine (Na.out _).mono ?_); rintro e3 w3 ⟨rfl, rfl⟩))
              | (go_at_call 43; ((with_reducible refine (Nb.out _).mono ?_); rintro e3 w3 ⟨rfl, rfl⟩))
              | (go_at_call 44; ((with_reducible refine (Ia.out _).mono ?_); rintro e3 w3 ⟨rfl, rfl⟩))
              | (go_at_call 44; ((with_reducible refine (Ib.out _).mono ?_); rintro e3 w3 ⟨rfl, rfl⟩)))
            go_ret
            exact ⟨ret_int (by rw [F'.out]; rfl), Grown.refl _⟩

theorem read_flip (y : Nat) (h : y < 18446744073709551616) : Ieee.double.read (flip y) = (Ieee.double.read y).opposite := by
  have hr : rg (flip y) = rg y := by unfold rg flip; split <;> omega
  have hs : sg (flip y) = !sg y := by
    unfold sg flip
    by_cases h1 : y < 9223372036854775808
    · rw [if_pos h1, show (y + 9223372036854775808) / 9223372036854775808 % 2 = 1 by omega, show y / 9223372036854775808 % 2 = 0 by omega]; rfl
    · rw [if_neg h1, show (y - 9223372036854775808) / 9223372036854775808 % 2 = 0 by omega, show y / 9223372036854775808 % 2 = 1 by omega]; rfl
  unfold Ieee.Format.read
  simp only [d_sw, d_bin, d_inf, d_lp]
  have e1 : (flip y / 9223372036854775808 % 2 == 1) = !(y / 9223372036854775808 % 2 == 1) := hs
  have e2 : flip y % 9223372036854775808 = y % 9223372036854775808 := hr
  rw [e1, e2]
  (repeat' split) <;> rfl
theorem sub_add (x y : Nat) (h : y < 18446744073709551616) (hn : isn y = false) : fop .sub x y = fop .add x (fneg y) := by
  have e : fneg y = flip y := by unfold fneg; simp [hn]
  rw [e]
  exact fop_sub_add x y _ (read_flip y h)
theorem sub_ref (a b : Int) (w : World) (a0 : 0 ≤ a) (a1 : a ≤ 18446744073709551615) (b0 : 0 ≤ b) (b1 : b ≤ 18446744073709551615) :
    Calls Try.prog 16 #[.int .u64 a, .int .u64 b] w fun e w' => e = .returned (.int .u64 (fop .sub a.toNat b.toNat : Nat)) ∧ Grown w w' := by
  have Na := Lib.hid (fun w => isNaN_ref a w a0 a1)
  have Nb := Lib.hid (fun w => isNaN_ref b w b0 b1)
  cases hna : isn a.toNat
  case true =>
    have F := Lib.hid (fop_nan_l .sub a.toNat b.toNat hna)
    rw [hna] at Na
    clear hna
    go_enter Try.func16, Try.ntmps16
    go_wp2_with (go_at_call 43; ((with_reducible refine (Na.out _).mono ?_); rintro e3 w3 ⟨rfl, rfl⟩))
    go_ret
    exact ⟨ret_int (by rw [F.out]; rfl), Grown.refl _⟩
  case false =>
    cases hnb : isn b.toNat
    case true =>
      have F := Lib.hid (fop_nan_r .sub a.toNat b.toNat hnb)
      rw [hna] at Na
      rw [hnb] at Nb
      clear hna hnb
      go_enter Try.func16, Try.ntmps16
      go_wp2_with (first
        | (go_at_call 43; ((with_reducible refine (Na.out _).mono ?_); rintro e3 w3 ⟨rfl, rfl⟩))
        | (go_at_call 43; ((with_reducible refine (Nb.out _).mono ?_); rintro e3 w3 ⟨rfl, rfl⟩)))
      go_ret
      exact ⟨ret_int (by rw [F.out]; rfl), Grown.refl _⟩
    case false =>
      have F := Lib.hid (sub_add a.toNat b.toNat (by omega) hnb)
      have hl : fneg b.toNat < 18446744073709551616 := by unfold fneg; split; decide +kernel; exact flip_lt (by omega)
      have G := Lib.hid (fun w => neg_ref b w b0 b1)
      have A := Lib.hid (fun w => add_ref a (fneg b.toNat : Nat) w a0 a1 (by omega) (by omega))
      rw [Int.toNat_natCast] at A
      rw [hna] at Na
      rw [hnb] at Nb
      clear hna hnb hl
      generalize fneg b.toNat = f at *
      go_enter Try.func16, Try.ntmps16
      go_wp2_with (first
        | (go_at_call 43; ((with_reducible refine (Na.out _).mono ?_); rintro e3 w3 ⟨rfl, rfl⟩))
        | (go_at_call 43; ((with_reducible refine (Nb.out _).mono ?_); rintro e3 w3 ⟨rfl, rfl⟩))
        | (go_at_call 34; ((with_reducible refine (G.out _).mono ?_); rintro e3 w3 ⟨rfl, rfl⟩))
        | (go_at_call 14; ((with_reducible refine (A.out _).mono ?_); rintro e3 w4 ⟨rfl, hg⟩)))
      go_ret
      exact ⟨ret_int (by rw [F.out]), hg⟩

theorem sums_walk (a b : Int) (w : World) (a0 : 0 ≤ a) (a1 : a ≤ 18446744073709551615) (b0 : 0 ≤ b) (b1 : b ≤ 18446744073709551615) :
    Calls Try.prog 3 #[.int .u64 a, .int .u64 b] w fun e w' => e = .returned (.bool true) ∧ Grown w w' := by
  have A1 := Lib.hid (fun w => add_any a b w)
  have A2 := Lib.hid (fun w => add_ref a b w a0 a1 b0 b1)
  have S1 := Lib.hid (fun w => sub_any a b w)
  have S2 := Lib.hid (fun w => sub_ref a b w a0 a1 b0 b1)
  generalize fop .add a.toNat b.toNat = x at *
  generalize fop .sub a.toNat b.toNat = y at *
  go_enter Try.func3, Try.ntmps3
  go_wp2_with (first
    | (go_at_call 12; refine (awake _).mono ?_; rintro e w9 ⟨rfl, hg⟩)
    | (go_at_call 13; refine (A1.out _).mono ?_; rintro e w1 ⟨rfl, hg1⟩)
    | (go_at_call 14; refine (A2.out _).mono ?_; rintro e w2 ⟨rfl, hg2⟩)
    | (go_at_call 15; refine (S1.out _).mono ?_; rintro e w3 ⟨rfl, hg3⟩)
    | (go_at_call 16; refine (S2.out _).mono ?_; rintro e w4 ⟨rfl, hg4⟩))
  go_ret
  exact ⟨rfl, Grown.trans hg (Grown.trans hg1 (Grown.trans hg2 (Grown.trans hg3 hg4)))⟩
end Go.Proofs.Ytmdcdicmlnlenaa
