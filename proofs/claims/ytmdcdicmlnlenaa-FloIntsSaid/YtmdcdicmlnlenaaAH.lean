/- The document's ToInt. -/
import Derived.Test.YtmdcdicmlnlenaaAG
namespace Go.Proofs.Ytmdcdicmlnlenaa
open Go.ChangeShapes Go.WideShapes Go.ChangeAt Go.RowKit

set_option maxHeartbeats 2000000 in
theorem toInt_ref_fin (a : Int) (w : World) (a0 : 0 ≤ a) (a1 : a ≤ 18446744073709551615) (hf : fin a.toNat) :
    Calls Try.prog 38 #[.int .u64 a] w fun e w' => e = .returned (.int .i64 (ftoi a.toNat)) ∧ Grown w w' := by
  have hn : isn a.toNat = false := fin_not _ hf
  have hi : isi a.toNat = false := by unfold fin rg at hf; unfold isi; simp; omega
  have CN : ∀ w, Calls Try.prog 43 #[.int .u64 a] w fun e w' => e = .returned (.bool false) ∧ w = w' := fun w => by
    have h := isNaN_ref a w a0 a1
    rwa [hn] at h
  have CI : ∀ w, Calls Try.prog 44 #[.int .u64 a] w fun e w' => e = .returned (.bool false) ∧ w = w' := fun w => by
    have h := isInf_ref a w a0 a1
    rwa [hi] at h
  have R := Lib.hid (read_any a w a0 a1 hf)
  have et := top_bit a a0 a1
  have F := ftoi_fin a.toNat hf
  rw [← whole_K] at F
  have hm := rdm_lt a.toNat
  have he := rde_bd a.toNat hf
  have CN' := Lib.hid CN
  have CI' := Lib.hid CI
  clear CN CI hn hi hf
  generalize ftoi a.toNat = r at *
  generalize rdm a.toNat = m at *
  generalize rde a.toNat = e at *
  generalize sg a.toNat = s at *
  rcases (by omega : 0 < e ∨ e < 0 ∨ e = 0) with h | h | h
  · have hK : whole m e = m * 2 ^ e.toNat := by unfold whole; rw [if_pos h]
    rw [hK] at F
    clear hK
    go_enter Try.func38, Try.ntmps38
    go_wp2_with (first
      | (go_at_call 43; ((with_reducible refine (CN'.out _).mono ?_); rintro e3 w3 ⟨rfl, rfl⟩))
      | (go_at_call 44; ((with_reducible refine (CI'.out _).mono ?_); rintro e3 w3 ⟨rfl, rfl⟩))
      | (go_at_call 46; ((with_reducible refine (R.out).mono ?_); rintro e3 w1 ⟨v1, rfl, hn1, hg1⟩; have hn1' := hn1; obtain ⟨A, c, rfl, _, _⟩ := hn1')))
    have hP := PL_eq
    have hm2 : m * 2 ^ e.toNat < 2 ^ (PL + 26) := by
      have : m * 2 ^ e.toNat < 2 ^ 53 * 2 ^ e.toNat := Nat.mul_lt_mul_of_pos_right (by omega) (two_pos _)
      rw [← Nat.pow_add] at this
      exact Nat.lt_of_lt_of_le this (Nat.pow_le_pow_right (by omega) (by omega))
    have hkb := blen_small hm2
    have hkd : digs (m * 2 ^ e.toNat) ≤ 2000 := Nat.le_trans (digs_le (m := PL) (by rw [bb_two]; exact Nat.lt_of_lt_of_le hm2 (Nat.pow_le_pow_right (by omega) (by omega)))) (by omega)
    refine (shl_any _ m e _ (Num.grown hn1 ((Grown.refl w1).alloc _ _)) (by have := digs_small (N := m) (by omega); omega) (by omega) (by omega)).mono ?_; rintro e4 w3 ⟨v3, rfl, hn3, hg3⟩
    generalize m * 2 ^ e.toNat = K at *
    have hblk3 : w3.heap[w1.heap.size]? = some (.cells #[.bool s, .slice A (digs m) c, .int .i64 e] 42 (0, 0)) := (Grown.block hg3 (by simp)).trans (heap_alloc_new w1 _)
    have k2 := cell_of_row w3 w1.heap.size 2 _ 42 _ hblk3
    have G3 : Grown w w3 := Grown.trans hg1 (Grown.trans ((Grown.refl w1).alloc _ _) hg3)
    clear hblk3 hm2 hP
    have LK := Lib.hid (len_any _ K w3 hn3 (by omega))
    have SK := Lib.hid (small_all _ K w3 hn3)
    have hbl := blen_gt K
    clear hn3 hg1 hg3
    rcases (by omega : 63 < blen K ∨ ¬ 63 < blen K) with hb | hb
    · rw [if_pos (by rw [← hbl]; exact hb)] at F
      have hb' : 63 < ((blen K : Nat) : Int) := by omega
      clear hbl hb
      generalize blen K = bl at *
      generalize K % 18446744073709551616 = kk at *
      cases s
      all_goals
        simp only [Bool.false_eq_true, if_false, if_true] at F
        have F' := Lib.hid F
        clear F
        go_wp2_with (first
          | (go_at_call 60; ((with_reducible refine (LK.out).mono ?_); rintro e5 w5 ⟨rfl, rfl⟩))
          | (go_at_call 61; ((with_reducible refine (SK.out).mono ?_); rintro e6 w6 ⟨rfl, rfl⟩)))
        go_ret
        exact ⟨ret_int (by rw [F'.out]), G3⟩
    · have hk63 : ¬ 9223372036854775808 ≤ K := by rw [← hbl]; exact hb
      rw [if_neg hk63] at F
      rw [Nat.mod_eq_of_lt (by omega)] at SK
      have hb' : ((blen K : Nat) : Int) ≤ 63 := by omega
      have hki : ((K : Nat) : Int) ≤ 9223372036854775807 := by omega
      have hk0 : 0 ≤ ((K : Nat) : Int) := by omega
      clear hbl hb hk63
      generalize blen K = bl at *
      unfold sgi at F
      generalize ((K : Nat) : Int) = V at *
      cases s
      all_goals
        simp only [Bool.false_eq_true, if_false, if_true] at F
        have F' := Lib.hid F
        clear F
        go_wp2_with (first
          | (go_at_call 60; ((with_reducible refine (LK.out).mono ?_); rintro e5 w5 ⟨rfl, rfl⟩))
          | (go_at_call 61; ((with_reducible refine (SK.out).mono ?_); rintro e6 w6 ⟨rfl, rfl⟩)))
        go_ret
        exact ⟨ret_int (by rw [F'.out]), G3⟩
  · have hK : whole m e = m / 2 ^ (-e).toNat := by unfold whole; rw [if_neg (by omega)]
    rw [hK] at F
    clear hK
    go_enter Try.func38, Try.ntmps38
    go_wp2_with (first
      | (go_at_call 43; ((with_reducible refine (CN'.out _).mono ?_); rintro e3 w3 ⟨rfl, rfl⟩))
      | (go_at_call 44; ((with_reducible refine (CI'.out _).mono ?_); rintro e3 w3 ⟨rfl, rfl⟩))
      | (go_at_call 46; ((with_reducible refine (R.out).mono ?_); rintro e3 w1 ⟨v1, rfl, hn1, hg1⟩; have hn1' := hn1; obtain ⟨A, c, rfl, _, _⟩ := hn1')))
    have hP := PL_eq
    have hm2 : m / 2 ^ (-e).toNat < 2 ^ (PL + 26) := Nat.lt_of_le_of_lt (Nat.div_le_self _ _) (Nat.lt_of_lt_of_le (show m < 2 ^ 53 by omega) (Nat.pow_le_pow_right (by omega) (by omega)))
    have hkb := blen_small hm2
    have hkd : digs (m / 2 ^ (-e).toNat) ≤ 2000 := Nat.le_trans (digs_le (m := PL) (by rw [bb_two]; exact Nat.lt_of_lt_of_le hm2 (Nat.pow_le_pow_right (by omega) (by omega)))) (by omega)
    refine (shr_any _ m (-e) _ (Num.grown hn1 ((Grown.refl w1).alloc _ _)) (by have := digs_small (N := m) (by omega); omega) (by have := blen_small (N := m) (k := 53) (by omega); omega) (by omega) (by omega)).mono ?_; rintro e4 w3 ⟨v3, rfl, hn3, hg3⟩
    generalize m / 2 ^ (-e).toNat = K at *
    have hblk3 : w3.heap[w1.heap.size]? = some (.cells #[.bool s, .slice A (digs m) c, .int .i64 e] 42 (0, 0)) := (Grown.block hg3 (by simp)).trans (heap_alloc_new w1 _)
    have k2 := cell_of_row w3 w1.heap.size 2 _ 42 _ hblk3
    have G3 : Grown w w3 := Grown.trans hg1 (Grown.trans ((Grown.refl w1).alloc _ _) hg3)
    clear hblk3 hm2 hP
    have LK := Lib.hid (len_any _ K w3 hn3 (by omega))
    have SK := Lib.hid (small_all _ K w3 hn3)
    have hbl := blen_gt K
    clear hn3 hg1 hg3
    rcases (by omega : 63 < blen K ∨ ¬ 63 < blen K) with hb | hb
    · rw [if_pos (by rw [← hbl]; exact hb)] at F
      have hb' : 63 < ((blen K : Nat) : Int) := by omega
      clear hbl hb
      generalize blen K = bl at *
      generalize K % 18446744073709551616 = kk at *
      cases s
      all_goals
        simp only [Bool.false_eq_true, if_false, if_true] at F
        have F' := Lib.hid F
        clear F
        go_wp2_with (first
          | (go_at_call 60; ((with_reducible refine (LK.out).mono ?_); rintro e5 w5 ⟨rfl, rfl⟩))
          | (go_at_call 61; ((with_reducible refine (SK.out).mono ?_); rintro e6 w6 ⟨rfl, rfl⟩)))
        go_ret
        exact ⟨ret_int (by rw [F'.out]), G3⟩
    · have hk63 : ¬ 9223372036854775808 ≤ K := by rw [← hbl]; exact hb
      rw [if_neg hk63] at F
      rw [Nat.mod_eq_of_lt (by omega)] at SK
      have hb' : ((blen K : Nat) : Int) ≤ 63 := by omega
      have hki : ((K : Nat) : Int) ≤ 9223372036854775807 := by omega
      have hk0 : 0 ≤ ((K : Nat) : Int) := by omega
      clear hbl hb hk63
      generalize blen K = bl at *
      unfold sgi at F
      generalize ((K : Nat) : Int) = V at *
      cases s
      all_goals
        simp only [Bool.false_eq_true, if_false, if_true] at F
        have F' := Lib.hid F
        clear F
        go_wp2_with (first
          | (go_at_call 60; ((with_reducible refine (LK.out).mono ?_); rintro e5 w5 ⟨rfl, rfl⟩))
          | (go_at_call 61; ((with_reducible refine (SK.out).mono ?_); rintro e6 w6 ⟨rfl, rfl⟩)))
        go_ret
        exact ⟨ret_int (by rw [F'.out]), G3⟩
  · have hK : whole m e = m := by unfold whole; rw [if_neg (by omega), h]; simp
    rw [hK] at F
    clear hK
    subst h
    go_enter Try.func38, Try.ntmps38
    go_wp2_with (first
      | (go_at_call 43; ((with_reducible refine (CN'.out _).mono ?_); rintro e3 w3 ⟨rfl, rfl⟩))
      | (go_at_call 44; ((with_reducible refine (CI'.out _).mono ?_); rintro e3 w3 ⟨rfl, rfl⟩))
      | (go_at_call 46; ((with_reducible refine (R.out).mono ?_); rintro e3 w1 ⟨v1, rfl, hn1, hg1⟩; have hn1' := hn1; obtain ⟨A, c, rfl, _, _⟩ := hn1')))
    have hn3 := Num.grown hn1 ((Grown.refl w1).alloc #[.bool s, .slice A (digs m) c, .int .i64 0] 42)
    have G3 : Grown w _ := Grown.trans hg1 ((Grown.refl w1).alloc #[.bool s, .slice A (digs m) c, .int .i64 0] 42)
    have hkd := digs_small (N := m) (by omega)
    have LK := Lib.hid (len_any _ m _ hn3 (by omega))
    have SK := Lib.hid (small_all _ m _ hn3)
    have hbl := blen_gt m
    clear hn3 hg1
    rcases (by omega : 63 < blen m ∨ ¬ 63 < blen m) with hb | hb
    · rw [if_pos (by rw [← hbl]; exact hb)] at F
      have hb' : 63 < ((blen m : Nat) : Int) := by omega
      clear hbl hb
      generalize blen m = bl at *
      generalize m % 18446744073709551616 = kk at *
      cases s
      all_goals
        simp only [Bool.false_eq_true, if_false, if_true] at F
        have F' := Lib.hid F
        clear F
        go_wp2_with (first
          | (go_at_call 60; ((with_reducible refine (LK.out).mono ?_); rintro e5 w5 ⟨rfl, rfl⟩))
          | (go_at_call 61; ((with_reducible refine (SK.out).mono ?_); rintro e6 w6 ⟨rfl, rfl⟩)))
        go_ret
        exact ⟨ret_int (by rw [F'.out]), G3⟩
    · have hk63 : ¬ 9223372036854775808 ≤ m := by rw [← hbl]; exact hb
      rw [if_neg hk63] at F
      rw [Nat.mod_eq_of_lt (by omega)] at SK
      have hb' : ((blen m : Nat) : Int) ≤ 63 := by omega
      have hki : ((m : Nat) : Int) ≤ 9223372036854775807 := by omega
      have hk0 : 0 ≤ ((m : Nat) : Int) := by omega
      clear hbl hb hk63 hm hn1
      generalize blen m = bl at *
      unfold sgi at F
      generalize ((m : Nat) : Int) = V at *
      cases s
      all_goals
        simp only [Bool.false_eq_true, if_false, if_true] at F
        have F' := Lib.hid F
        clear F
        go_wp2_with (first
          | (go_at_call 60; ((with_reducible refine (LK.out).mono ?_); rintro e5 w5 ⟨rfl, rfl⟩))
          | (go_at_call 61; ((with_reducible refine (SK.out).mono ?_); rintro e6 w6 ⟨rfl, rfl⟩)))
        go_ret
        exact ⟨ret_int (by rw [F'.out]), G3⟩
end Go.Proofs.Ytmdcdicmlnlenaa
