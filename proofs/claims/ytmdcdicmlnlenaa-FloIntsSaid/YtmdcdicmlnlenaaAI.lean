/- The document's ToInt of every float, Class; the walk of the statement on ints. -/
import Derived.Test.YtmdcdicmlnlenaaAH
namespace Go.Proofs.Ytmdcdicmlnlenaa
open Go.ChangeShapes Go.WideShapes Go.ChangeAt Go.RowKit

set_option maxHeartbeats 1000000 in
theorem toInt_ref (a : Int) (w : World) (a0 : 0 ≤ a) (a1 : a ≤ 18446744073709551615) :
    Calls Try.prog 38 #[.int .u64 a] w fun e w' => e = .returned (.int .i64 (ftoi a.toNat)) ∧ Grown w w' := by
  cases hn : isn a.toNat
  case false =>
    rcases not_nan _ hn with hf | hi
    · exact toInt_ref_fin a w a0 a1 hf
    · have hii : isi a.toNat = true := by unfold isi; unfold rg at hi; simp [hi]
      have CN : ∀ w, Calls Try.prog 43 #[.int .u64 a] w fun e w' => e = .returned (.bool false) ∧ w = w' := fun w => by
        have h := isNaN_ref a w a0 a1
        rwa [hn] at h
      have CI : ∀ w, Calls Try.prog 44 #[.int .u64 a] w fun e w' => e = .returned (.bool true) ∧ w = w' := fun w => by
        have h := isInf_ref a w a0 a1
        rwa [hii] at h
      have et := top_bit a a0 a1
      have F := ftoi_inf a.toNat hi
      have CN' := Lib.hid CN
      have CI' := Lib.hid CI
      clear CN CI hn hi hii
      generalize ftoi a.toNat = r at *
      generalize sg a.toNat = s at *
      cases s
      all_goals
        simp only [Bool.false_eq_true, if_false, if_true] at F
        have F' := Lib.hid F
        clear F
        go_enter Try.func38, Try.ntmps38
        go_wp2_with (first
          | (go_at_call 43; ((with_reducible refine (CN'.out _).mono ?_); rintro e3 w3 ⟨rfl, rfl⟩))
          | (go_at_call 44; ((with_reducible refine (CI'.out _).mono ?_); rintro e3 w3 ⟨rfl, rfl⟩)))
        go_ret
        exact ⟨ret_int (by rw [F'.out]), Grown.refl _⟩
  case true =>
    have CN : ∀ w, Calls Try.prog 43 #[.int .u64 a] w fun e w' => e = .returned (.bool true) ∧ w = w' := fun w => by
      have h := isNaN_ref a w a0 a1
      rwa [hn] at h
    have F : ftoi a.toNat = 0 := by unfold ftoi; rw [hn]; rfl
    have F' := Lib.hid F
    have CN' := Lib.hid CN
    clear CN hn F
    generalize ftoi a.toNat = r at *
    go_enter Try.func38, Try.ntmps38
    go_wp2_with (go_at_call 43; ((with_reducible refine (CN'.out _).mono ?_); rintro e3 w3 ⟨rfl, rfl⟩))
    go_ret
    exact ⟨ret_int (by rw [F'.out]), Grown.refl _⟩

theorem class_ref (a : Int) (w : World) (a0 : 0 ≤ a) (a1 : a ≤ 18446744073709551615) :
    Calls Try.prog 40 #[.int .u64 a] w fun e w' => e = .returned (.int .i64 (cls a.toNat)) ∧ w = w' := by
  have CN := Lib.hid (fun w => isNaN_ref a w a0 a1)
  have CI := Lib.hid (fun w => isInf_ref a w a0 a1)
  have CZ := Lib.hid (fun w => isZero_ref a w a0 a1)
  have hw := twice a
  have F : cls a.toNat = if isn a.toNat then 4 else if isi a.toNat then 3 else if isz a.toNat then 0 else if a * 2 % 18446744073709551616 < 9007199254740992 then 1 else 2 := by
    unfold cls isn isi isz
    simp only [decide_eq_true_eq]
    (repeat' split) <;> omega
  generalize isn a.toNat = n at *
  generalize isi a.toNat = i at *
  generalize isz a.toNat = z at *
  generalize cls a.toNat = r at *
  have hb : 0 ≤ a * 2 % 18446744073709551616 := by omega
  generalize a * 2 % 18446744073709551616 = t at *
  rcases (by omega : t < 9007199254740992 ∨ 9007199254740992 ≤ t) with ht | ht
  all_goals
    cases n <;> cases i <;> cases z
  all_goals
    simp only [Bool.false_eq_true, if_false, if_true] at F
    have F' := Lib.hid F
    clear F
    go_enter Try.func40, Try.ntmps40
    go_wp2_with (first
      | (go_at_call 43; ((with_reducible refine (CN.out _).mono ?_); rintro e3 w3 ⟨rfl, rfl⟩))
      | (go_at_call 44; ((with_reducible refine (CI.out _).mono ?_); rintro e3 w3 ⟨rfl, rfl⟩))
      | (go_at_call 45; ((with_reducible refine (CZ.out _).mono ?_); rintro e3 w3 ⟨rfl, rfl⟩)))
    go_ret
    exact ⟨ret_int (by rw [F'.out]; try (first | rw [if_pos (by omega)] | rw [if_neg (by omega)])), rfl⟩

set_option maxHeartbeats 1000000 in
theorem ints_walk (a n : Int) (w : World) (a0 : 0 ≤ a) (a1 : a ≤ 18446744073709551615) (n0 : -9223372036854775808 ≤ n) (n1 : n ≤ 9223372036854775807) :
    Calls Try.prog 6 #[.int .u64 a, .int .i64 n] w fun e w' => e = .returned (.bool true) ∧ Grown w w' := by
  have C1 := Lib.hid (fun w => canon_any a w)
  have C2 := Lib.hid (fun w => canon_ref a w a0 a1)
  have N1 := Lib.hid (fun w => neg_any a w a0 a1)
  have N2 := Lib.hid (fun w => neg_ref a w a0 a1)
  have F1 := Lib.hid (fun w => fromInt_any n w)
  have F2 := Lib.hid (fun w => fromInt_ref n w n0 n1)
  have T1 := Lib.hid (fun w => toInt_any a w)
  have T2 := Lib.hid (fun w => toInt_ref a w a0 a1)
  have K1 := Lib.hid (fun w => class_any a w a0 a1)
  have K2 := Lib.hid (fun w => class_ref a w a0 a1)
  generalize canon a.toNat = v1 at *
  generalize fneg a.toNat = v2 at *
  generalize fint n = v3 at *
  generalize ftoi a.toNat = v4 at *
  generalize cls a.toNat = v5 at *
  go_enter Try.func6, Try.ntmps6
  go_wp2_with (first
    | (go_at_call 12; refine (awake _).mono ?_; rintro e w9 ⟨rfl, hg⟩)
    | (go_at_call 32; refine (C1.out _).mono ?_; rintro e w1 ⟨rfl, rfl⟩)
    | (go_at_call 29; refine (C2.out _).mono ?_; rintro e w1 ⟨rfl, rfl⟩)
    | (go_at_call 33; refine (N1.out _).mono ?_; rintro e w1 ⟨rfl, rfl⟩)
    | (go_at_call 34; refine (N2.out _).mono ?_; rintro e w1 ⟨rfl, rfl⟩)
    | (go_at_call 35; refine (F1.out _).mono ?_; rintro e w1 ⟨rfl, rfl⟩)
    | (go_at_call 36; refine (F2.out _).mono ?_; rintro e w1 ⟨rfl, hg2⟩)
    | (go_at_call 37; refine (T1.out _).mono ?_; rintro e w1 ⟨rfl, rfl⟩)
    | (go_at_call 38; refine (T2.out _).mono ?_; rintro e w1 ⟨rfl, hg3⟩)
    | (go_at_call 39; refine (K1.out _).mono ?_; rintro e w1 ⟨rfl, rfl⟩)
    | (go_at_call 40; refine (K2.out _).mono ?_; rintro e w1 ⟨rfl, rfl⟩))
  go_ret
  exact ⟨rfl, Grown.trans hg (Grown.trans hg2 hg3)⟩
end Go.Proofs.Ytmdcdicmlnlenaa
