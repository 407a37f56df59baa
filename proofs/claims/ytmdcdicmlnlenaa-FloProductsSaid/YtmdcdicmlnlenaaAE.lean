/- The document's rounding: the walk of Pack. -/
import Derived.Test.YtmdcdicmlnlenaaAD
namespace Go.Proofs.Ytmdcdicmlnlenaa
open Go.ChangeShapes Go.WideShapes Go.ChangeAt Go.RowKit

theorem pack_zero (neg : Bool) (v : Value) (e : Int) (more : Bool) (w : World) (h : Num w v 0) :
    Calls Try.prog 48 #[.bool neg, v, .int .i64 e, .bool more] w fun e w' => e = .returned (.int .u64 (Ieee.double.word neg 0 : Nat)) ∧ Grown w w' := by
  obtain ⟨A, c, rfl, _, _⟩ := h
  rw [digs_zero]
  cases neg
  all_goals
    go_enter Try.func48, Try.ntmps48
    go_wp2
    go_ret
    exact ⟨ret_int (by rw [word_eq]; rfl), Grown.refl _⟩

def QRel (w : World) (Q : Nat) (up : Bool) (v b : Value) (wx : World) : Prop := Num wx v Q ∧ b = .bool up ∧ Grown w wx

set_option maxRecDepth 100000 in
set_option maxHeartbeats 4000000 in
theorem pack_walk (neg : Bool) (v : Value) (m : Nat) (e : Int) (more : Bool) (w : World) (hv : Num w v m) (hm : m ≠ 0) (hd : digs m ≤ 10000) (hb : blen m ≤ 320000) (e0 : -4000 ≤ e) (e1 : e ≤ 4000) :
    Calls Try.prog 48 #[.bool neg, v, .int .i64 e, .bool more] w fun e' w' => e' = .returned (.int .u64 (pack neg m e more : Nat)) ∧ Grown w w' := by
  have L := Lib.hid (len_any v m w hv (by omega))
  have hT : lastOf m e = max (e + (blen m : Nat) - 53) (-1074) := by unfold lastOf blen; rw [if_neg hm]; omega
  have hT' := Lib.hid hT
  have hT0 := last_ge m e
  have hT1 : lastOf m e ≤ 330000 := by omega
  have hfin : pack neg m e more = packFin neg (lastOf m e) (packQ m e + (packUp m e more).toNat) := by unfold pack; rw [if_neg hm]
  have Hfin := Lib.hid hfin
  have hz := digs_pos hm
  have hzz : ((digs m : Int) == 0) = false := by simp; omega
  clear hT hfin
  obtain ⟨A, c, rfl, hc, hA⟩ := id hv
  have Hv := Lib.hid hv
  clear hA hv
  go_enter Try.func48, Try.ntmps48
  go_upto_if 16 with fail
  go_cut [9] (fun s wx => s = .int .u64 (sgn neg : Nat) ∧ wx = w)
  case first =>
    cases neg
    all_goals
      go_wp2_with fail
      go_meet
      exact ⟨rfl, rfl⟩
  case rest =>
    obtain ⟨rfl, hw⟩ := hcut
    rw [hw]
    clear hw wc
    go_upto_if 27 with (go_at_call 60; ((with_reducible refine (L.out).mono ?_); rintro e w1 ⟨rfl, rfl⟩))
    go_cut [10] (fun s wx => s = .int .i64 (lastOf m e) ∧ wx = w)
    case first =>
      rcases (by omega : e + (blen m : Nat) - 53 < -1074 ∨ -1074 ≤ e + (blen m : Nat) - 53) with h | h
      all_goals
        go_wp2_with fail
        go_meet
        exact ⟨congrArg (Value.int .i64) (by have := hT'.out; omega), rfl⟩
    case rest =>
      obtain ⟨rfl, hw⟩ := hcut
      rw [hw]
      clear hw wc
      go_upto_if 30 with fail
      go_cut [11, 12] (QRel w (packQ m e) (packUp m e more))
      case first =>
        have hq : packQ m e = if lastOf m e ≤ e then m * 2 ^ (e - lastOf m e).toNat else m / 2 ^ (lastOf m e - e).toNat := rfl
        have hu : packUp m e more = if lastOf m e ≤ e then false else bitN m ((lastOf m e - e).toNat - 1) == 1 && (more || m / 2 ^ ((lastOf m e - e).toNat - 1) * 2 ^ ((lastOf m e - e).toNat - 1) != m || bitN (m / 2 ^ (lastOf m e - e).toNat) 0 == 1) := rfl
        by_cases hle : lastOf m e ≤ e
        · rw [if_pos hle] at hq hu
          have hsh := Lib.hid (shl_any _ m (e - lastOf m e) w Hv.out (by omega) (by omega) (by omega))
          rw [← hq] at hsh
          generalize packUp m e more = u at *
          subst hu
          generalize packQ m e = Q at *
          generalize lastOf m e = T at *
          clear hq
          go_wp2_with (go_at_call 47; ((with_reducible refine (hsh.out).mono ?_); rintro e w1 ⟨vq, rfl, hn, hg⟩))
          go_meet
          exact ⟨hn, rfl, hg⟩
        · rw [if_neg hle] at hq hu
          obtain ⟨j, hj⟩ : ∃ j : Nat, lastOf m e - e = ((j + 1 : Nat) : Int) := ⟨(lastOf m e - e).toNat - 1, by omega⟩
          rw [hj, Int.toNat_natCast] at hq hu
          rw [Nat.add_sub_cancel] at hu
          have hj' : lastOf m e - e = (j : Int) + 1 := by omega
          have jb : j ≤ 400000 := by omega
          have S1 := shr_any _ m ((j : Int) + 1) w Hv.out (by omega) (by omega) (by omega) (by omega)
          rw [show ((j : Int) + 1).toNat = j + 1 by omega, ← hq] at S1
          have jn : ¬ (j : Int) < 0 := by omega
          have B1 : ∀ W, Grown w W → Calls Try.prog 65 #[.slice A (digs m) c, .int .i64 (j : Int)] W fun e w' => e = .returned (.int .u64 (bitN m j : Nat)) ∧ W = w' := fun W hg => by
            have h := bit_any _ m (j : Int) W (Num.grown Hv.out hg) (by omega) (by omega) (by omega)
            rwa [if_neg jn, Int.toNat_natCast] at h
          have S2 : ∀ W, Grown w W → Calls Try.prog 59 #[.slice A (digs m) c, .int .i64 (j : Int)] W (RetNum (m / 2 ^ j) W) := fun W hg => by
            have h := shr_any _ m (j : Int) W (Num.grown Hv.out hg) (by omega) (by omega) (by omega) (by omega)
            rwa [Int.toNat_natCast] at h
          have hd2 : digs (m / 2 ^ j) ≤ 10000 := Nat.le_trans (digs_le (Nat.lt_of_le_of_lt (Nat.div_le_self _ _) (lt_digs m))) hd
          have hd3 : digs (m / 2 ^ j * 2 ^ j) ≤ 10000 := Nat.le_trans (digs_le (Nat.lt_of_le_of_lt (Nat.div_mul_le_self _ _) (lt_digs m))) hd
          have hdq : digs (packQ m e) ≤ 10000 := by rw [hq]; exact Nat.le_trans (digs_le (Nat.lt_of_le_of_lt (Nat.div_le_self _ _) (lt_digs m))) hd
          rw [← hq] at hu
          have hne : (cmpN (m / 2 ^ j * 2 ^ j) m != 0) = (m / 2 ^ j * 2 ^ j != m) := by
            unfold cmpN
            rw [Bool.eq_iff_iff]
            simp only [bne_iff_ne]
            (repeat' split) <;> omega
          have hb1 : ((bitN m j : Nat) : Int) = 0 ∨ ((bitN m j : Nat) : Int) = 1 := by have : bitN m j < 2 := Nat.mod_lt _ (by omega); omega
          have hb2 : ((bitN (packQ m e) 0 : Nat) : Int) = 0 ∨ ((bitN (packQ m e) 0 : Nat) : Int) = 1 := by have : bitN (packQ m e) 0 < 2 := Nat.mod_lt _ (by omega); omega
          have S1' := Lib.hid S1
          have S2' := Lib.hid S2
          have B1' := Lib.hid B1
          clear S1 S2 B1 hq hj hle
          cases more
          case true =>
            have hu0 : bitN m j = 0 → packUp m e true = false := fun h => by rw [hu, h]; rfl
            have hu1 : bitN m j = 1 → packUp m e true = true := fun h => by rw [hu, h]; rfl
            clear hu hne
            generalize packUp m e true = u at *
            generalize bitN m j = b at *
            generalize lastOf m e = T at *
            rcases (by omega : b = 0 ∨ b = 1) with rfl | rfl
            · obtain rfl := hu0 rfl
              clear hu0 hu1 hb1
              go_wp2_with fail
              refine (S1'.out).mono ?_; rintro e1 w1 ⟨v1, rfl, hn1, hg1⟩
              go_wp2_with fail
              refine (B1'.out w1 hg1).mono ?_; rintro e2 w2 ⟨rfl, rfl⟩
              go_wp2_with fail
              go_meet
              exact ⟨hn1, rfl, hg1⟩
            · obtain rfl := hu1 rfl
              clear hu0 hu1 hb1
              go_wp2_with fail
              refine (S1'.out).mono ?_; rintro e1 w1 ⟨v1, rfl, hn1, hg1⟩
              go_wp2_with fail
              refine (B1'.out w1 hg1).mono ?_; rintro e2 w2 ⟨rfl, rfl⟩
              go_wp2_with fail
              go_meet
              exact ⟨hn1, rfl, hg1⟩
          case false =>
            have hu0 : bitN m j = 0 → packUp m e false = false := fun h => by rw [hu, h]; rfl
            have hu1 : bitN m j = 1 → (m / 2 ^ j * 2 ^ j != m) = true → packUp m e false = true := fun h h2 => by rw [hu, h, h2]; rfl
            have hu2 : bitN m j = 1 → (m / 2 ^ j * 2 ^ j != m) = false → bitN (packQ m e) 0 = 0 → packUp m e false = false := fun h h2 h3 => by rw [hu, h, h2, h3]; rfl
            have hu3 : bitN m j = 1 → (m / 2 ^ j * 2 ^ j != m) = false → bitN (packQ m e) 0 = 1 → packUp m e false = true := fun h h2 h3 => by rw [hu, h, h2, h3]; rfl
            rw [← hne] at hu1 hu2 hu3
            clear hu hne
            generalize packUp m e false = u at *
            generalize bitN m j = b at *
            generalize lastOf m e = T at *
            generalize hX : m / 2 ^ j * 2 ^ j = X at *
            have HX := Lib.hid hX
            clear hX
            rcases (by omega : b = 0 ∨ b = 1) with rfl | rfl
            · obtain rfl := hu0 rfl
              clear hu0 hu1 hu2 hu3 hb1
              go_wp2_with fail
              refine (S1'.out).mono ?_; rintro e1 w1 ⟨v1, rfl, hn1, hg1⟩
              go_wp2_with fail
              refine (S2'.out w1 hg1).mono ?_; rintro e2 w2 ⟨v2, rfl, hn2, hg2⟩
              go_wp2_with fail
              refine (shl_any v2 _ (j : Int) w2 hn2 (by omega) (by omega) (by omega)).mono ?_; rintro e3 w3 ⟨v3, rfl, hn3, hg3⟩
              rw [Int.toNat_natCast, HX.out] at hn3
              have g13 := Grown.trans hg1 (Grown.trans hg2 hg3)
              go_wp2_with fail
              refine (cmp_any v3 _ _ m w3 hn3 (Num.grown Hv.out g13) (by omega)).mono ?_; rintro e4 w4 ⟨rfl, hg4⟩
              have g14 := Grown.trans g13 hg4
              go_wp2_with fail
              refine (B1'.out w4 g14).mono ?_; rintro e5 w5 ⟨rfl, rfl⟩
              go_wp2_with fail
              go_meet
              exact ⟨Num.grown hn1 (Grown.trans hg2 (Grown.trans hg3 hg4)), rfl, g14⟩
            cases hr : (cmpN X m != 0)
            case true =>
              obtain rfl := hu1 rfl hr
              clear hu0 hu1 hu2 hu3 hb1
              go_wp2_with fail
              refine (S1'.out).mono ?_; rintro e1 w1 ⟨v1, rfl, hn1, hg1⟩
              go_wp2_with fail
              refine (S2'.out w1 hg1).mono ?_; rintro e2 w2 ⟨v2, rfl, hn2, hg2⟩
              go_wp2_with fail
              refine (shl_any v2 _ (j : Int) w2 hn2 (by omega) (by omega) (by omega)).mono ?_; rintro e3 w3 ⟨v3, rfl, hn3, hg3⟩
              rw [Int.toNat_natCast, HX.out] at hn3
              have g13 := Grown.trans hg1 (Grown.trans hg2 hg3)
              go_wp2_with fail
              refine (cmp_any v3 _ _ m w3 hn3 (Num.grown Hv.out g13) (by omega)).mono ?_; rintro e4 w4 ⟨rfl, hg4⟩
              have g14 := Grown.trans g13 hg4
              go_wp2_with fail
              refine (B1'.out w4 g14).mono ?_; rintro e5 w5 ⟨rfl, rfl⟩
              go_wp2_with fail
              go_meet
              exact ⟨Num.grown hn1 (Grown.trans hg2 (Grown.trans hg3 hg4)), rfl, g14⟩
            case false =>
              rcases (by omega : bitN (packQ m e) 0 = 0 ∨ bitN (packQ m e) 0 = 1) with hq0 | hq0
              · obtain rfl := hu2 rfl hr hq0
                have Hq0 := Lib.hid hq0
                clear hu0 hu1 hu2 hu3 hb1 hb2 hq0
                go_wp2_with fail
                refine (S1'.out).mono ?_; rintro e1 w1 ⟨v1, rfl, hn1, hg1⟩
                go_wp2_with fail
                refine (S2'.out w1 hg1).mono ?_; rintro e2 w2 ⟨v2, rfl, hn2, hg2⟩
                go_wp2_with fail
                refine (shl_any v2 _ (j : Int) w2 hn2 (by omega) (by omega) (by omega)).mono ?_; rintro e3 w3 ⟨v3, rfl, hn3, hg3⟩
                rw [Int.toNat_natCast, HX.out] at hn3
                have g13 := Grown.trans hg1 (Grown.trans hg2 hg3)
                go_wp2_with fail
                refine (cmp_any v3 _ _ m w3 hn3 (Num.grown Hv.out g13) (by omega)).mono ?_; rintro e4 w4 ⟨rfl, hg4⟩
                have g14 := Grown.trans g13 hg4
                go_wp2_with fail
                refine (B1'.out w4 g14).mono ?_; rintro e5 w5 ⟨rfl, rfl⟩
                go_wp2_with fail
                refine (bit_any v1 _ 0 _ (Num.grown hn1 (Grown.trans hg2 (Grown.trans hg3 hg4))) (by omega) (by omega) (by omega)).mono ?_; rintro e6 w6 ⟨rfl, rfl⟩
                rw [if_neg (by omega), show (0 : Int).toNat = 0 from rfl, Hq0.out]
                go_wp2_with fail
                go_meet
                exact ⟨Num.grown hn1 (Grown.trans hg2 (Grown.trans hg3 hg4)), rfl, g14⟩
              · obtain rfl := hu3 rfl hr hq0
                have Hq0 := Lib.hid hq0
                clear hu0 hu1 hu2 hu3 hb1 hb2 hq0
                go_wp2_with fail
                refine (S1'.out).mono ?_; rintro e1 w1 ⟨v1, rfl, hn1, hg1⟩
                go_wp2_with fail
                refine (S2'.out w1 hg1).mono ?_; rintro e2 w2 ⟨v2, rfl, hn2, hg2⟩
                go_wp2_with fail
                refine (shl_any v2 _ (j : Int) w2 hn2 (by omega) (by omega) (by omega)).mono ?_; rintro e3 w3 ⟨v3, rfl, hn3, hg3⟩
                rw [Int.toNat_natCast, HX.out] at hn3
                have g13 := Grown.trans hg1 (Grown.trans hg2 hg3)
                go_wp2_with fail
                refine (cmp_any v3 _ _ m w3 hn3 (Num.grown Hv.out g13) (by omega)).mono ?_; rintro e4 w4 ⟨rfl, hg4⟩
                have g14 := Grown.trans g13 hg4
                go_wp2_with fail
                refine (B1'.out w4 g14).mono ?_; rintro e5 w5 ⟨rfl, rfl⟩
                go_wp2_with fail
                refine (bit_any v1 _ 0 _ (Num.grown hn1 (Grown.trans hg2 (Grown.trans hg3 hg4))) (by omega) (by omega) (by omega)).mono ?_; rintro e6 w6 ⟨rfl, rfl⟩
                rw [if_neg (by omega), show (0 : Int).toNat = 0 from rfl, Hq0.out]
                go_wp2_with fail
                go_meet
                exact ⟨Num.grown hn1 (Grown.trans hg2 (Grown.trans hg3 hg4)), rfl, g14⟩
      case rest =>
        obtain ⟨hn, rfl, hg⟩ := hcut
        have hQ := packQ_lt m e
        have hQd : digs (packQ m e) ≤ 900000 := Nat.le_trans (digs_le (m := 2) (by omega)) (by omega)
        generalize packUp m e more = u at *
        generalize packQ m e = Q at *
        generalize lastOf m e = T at *
        clear hT' L Hv hz hzz
        go_upto_if 68 with fail
        go_cut [11] (fun vq wx => Num wx vq (Q + u.toNat) ∧ Grown w wx)
        case first =>
          cases u
          case false =>
            go_wp2_with fail
            go_meet
            exact ⟨hn, hg⟩
          case true =>
            go_wp2_with fail
            refine (of_any 1 _ (by omega) (by omega)).mono ?_; rintro e1 w1 ⟨v1, rfl, hn1, hg1⟩
            go_wp2_with fail
            refine (plus_any _ v1 Q _ w1 (Num.grown hn hg1) hn1 hQd (by decide +kernel)).mono ?_; rintro e2 w2 ⟨v2, rfl, hn2, hg2⟩
            go_wp2_with fail
            go_meet
            exact ⟨hn2, Grown.trans hg (Grown.trans hg1 hg2)⟩
        case rest =>
          obtain ⟨hn3, hg3⟩ := hcut
          have hW : Q + u.toNat ≤ 9007199254740992 := by cases u <;> simp <;> omega
          generalize Q + u.toNat = W at *
          clear hn hg hQ hQd
          have S := Lib.hid (small_any _ W wc hn3 (by omega))
          clear hn3
          have hWI : (W : Int) ≤ 9007199254740992 := by omega
          have g9 := Lib.hid hg3
          clear hg3
          have o1 := sgn_or_inf neg
          by_cases h1 : W = 9007199254740992
          · subst h1
            have f : packFin neg T 9007199254740992 = if 971 < T + 1 then Ieee.double.word neg 9218868437227405312 else Ieee.double.word neg ((T + 1 + 1075).toNat * 4503599627370496) := by unfold packFin; rw [if_pos rfl]
            have hWe : ((9007199254740992 : Nat) : Int) = 9007199254740992 := rfl
            rw [hWe] at S
            clear hWI hW hWe
            by_cases h2 : 971 < T + 1
            · rw [if_pos h2] at f
              have F := Lib.hid f
              clear f
              go_wp2_with (go_at_call 61; ((with_reducible refine (S.out).mono ?_); rintro e1 w1 ⟨rfl, rfl⟩))
              go_ret
              exact ⟨ret_int (by rw [Hfin.out, F.out]), g9.out⟩
            · rw [if_neg h2] at f
              obtain ⟨E, hE⟩ : ∃ E : Nat, T + 1 + 1075 = (E : Int) := ⟨(T + 1 + 1075).toNat, by omega⟩
              rw [hE, Int.toNat_natCast] at f
              obtain ⟨P, x, r, hP, hPl, ho2, ho3, hr⟩ := normal_word neg E 0 (by omega) (by omega)
              rw [Nat.add_zero] at hr
              rw [← hr] at f
              have F := Lib.hid f
              have hEb : (E : Int) ≤ 2046 := by omega
              have m0 := mask_zero
              have ho3' : bits .or .u64 (x : Int) 0 = (r : Int) := ho3
              clear f o1 hr ho3
              go_wp2_with (go_at_call 61; ((with_reducible refine (S.out).mono ?_); rintro e1 w1 ⟨rfl, rfl⟩))
              go_ret
              exact ⟨ret_int (by rw [Hfin.out, F.out]), g9.out⟩
          · have h1' : ((W : Int) == 9007199254740992) = false := by simp; omega
            have f : packFin neg T W = if 971 < T then Ieee.double.word neg 9218868437227405312 else if W < 4503599627370496 then Ieee.double.word neg W else Ieee.double.word neg ((T + 1075).toNat * 4503599627370496 + (W - 4503599627370496)) := by unfold packFin; rw [if_neg h1]
            have hWlt : W < 9007199254740992 := by omega
            clear h1
            by_cases h2 : 971 < T
            · rw [if_pos h2] at f
              have F := Lib.hid f
              clear f
              go_wp2_with (go_at_call 61; ((with_reducible refine (S.out).mono ?_); rintro e1 w1 ⟨rfl, rfl⟩))
              go_ret
              exact ⟨ret_int (by rw [Hfin.out, F.out]), g9.out⟩
            · rw [if_neg h2] at f
              by_cases h3 : W < 4503599627370496
              · rw [if_pos h3] at f
                have o2 := sgn_or neg W (by omega)
                have F := Lib.hid f
                have h3' : (W : Int) < 4503599627370496 := by omega
                have h3n : 0 ≤ (W : Int) := by omega
                clear f h3 o1 hW hWlt
                generalize (W : Int) = V at *
                go_wp2_with (go_at_call 61; ((with_reducible refine (S.out).mono ?_); rintro e1 w1 ⟨rfl, rfl⟩))
                go_ret
                exact ⟨ret_int (by rw [Hfin.out, F.out]), g9.out⟩
              · rw [if_neg h3] at f
                obtain ⟨E, hE⟩ : ∃ E : Nat, T + 1075 = (E : Int) := ⟨(T + 1075).toNat, by omega⟩
                have hm52 := mask_frac W (by omega) (by omega)
                rw [hE, Int.toNat_natCast] at f
                have hf2 : W - 4503599627370496 < 4503599627370496 := by omega
                generalize W - 4503599627370496 = fr at *
                obtain ⟨P, x, r, hP, hPl, ho2, ho3, hr⟩ := normal_word neg E fr (by omega) hf2
                rw [← hr] at f
                have F := Lib.hid f
                have h3' : 4503599627370496 ≤ (W : Int) := by omega
                have hEb : (E : Int) ≤ 2046 := by omega
                clear f h3 o1 hr hW hWlt
                generalize (W : Int) = V at *
                go_wp2_with (go_at_call 61; ((with_reducible refine (S.out).mono ?_); rintro e1 w1 ⟨rfl, rfl⟩))
                go_ret
                exact ⟨ret_int (by rw [Hfin.out, F.out]), g9.out⟩
end Go.Proofs.Ytmdcdicmlnlenaa
