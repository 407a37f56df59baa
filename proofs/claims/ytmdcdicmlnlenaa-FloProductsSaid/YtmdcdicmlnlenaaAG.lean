/- The document's FromInt and ToInt; the walk of the statement on ints. -/
import Derived.Test.YtmdcdicmlnlenaaAE
import Derived.Test.YtmdcdicmlnlenaaAF
namespace Go.Proofs.Ytmdcdicmlnlenaa
open Go.ChangeShapes Go.WideShapes Go.ChangeAt Go.RowKit

theorem digs_small {N : Nat} (h : N < 18446744073709551616) : digs N ≤ 2 := digs_le (by omega)
theorem blen_small {N k : Nat} (h : N < 2 ^ k) : blen N ≤ k := by
  by_cases h0 : N = 0
  · subst h0; rw [blen_zero]; omega
  · have h1 := blen_ge h0
    rcases Nat.lt_or_ge k (blen N) with h2 | h2
    · have h3 : 2 ^ k ≤ 2 ^ (blen N - 1) := Nat.pow_le_pow_right (by omega) (by omega)
      omega
    · exact h2
/-- Pack, whatever the number. -/
theorem pack_any (neg : Bool) (v : Value) (m : Nat) (e : Int) (more : Bool) (w : World) (hv : Num w v m) (hd : digs m ≤ 10000) (hb : blen m ≤ 320000) (e0 : -4000 ≤ e) (e1 : e ≤ 4000) :
    Calls Try.prog 48 #[.bool neg, v, .int .i64 e, .bool more] w fun e' w' => e' = .returned (.int .u64 (pack neg m e more : Nat)) ∧ Grown w w' := by
  by_cases hm : m = 0
  · subst hm
    have h := pack_zero neg v e more w hv
    have hp : pack neg 0 e more = Ieee.double.word neg 0 := by unfold pack; rw [if_pos rfl]
    rwa [← hp] at h
  · exact pack_walk neg v m e more w hv hm hd hb e0 e1

theorem fromInt_ref (n : Int) (w : World) (n0 : -9223372036854775808 ≤ n) (n1 : n ≤ 9223372036854775807) :
    Calls Try.prog 36 #[.int .i64 n] w fun e w' => e = .returned (.int .u64 (fint n : Nat)) ∧ Grown w w' := by
  have hf : fint n = pack (decide (n < 0)) n.natAbs 0 false := (pack_nearest _ _ _).symm
  have Hf := Lib.hid hf
  have hd := digs_small (N := n.natAbs) (by omega)
  have hb : blen n.natAbs ≤ 64 := blen_small (by omega)
  have O : ∀ W M, M = (n.natAbs : Int) → Calls Try.prog 58 #[.int .u64 M] W (RetNum n.natAbs W) := fun W M h => by
    have h1 := of_any M W (by omega) (by omega)
    rwa [show M.toNat = n.natAbs by omega] at h1
  clear hf
  by_cases h : n < 0
  · obtain ⟨C, hC⟩ : ∃ C, C = n + 18446744073709551616 := ⟨_, rfl⟩
    obtain ⟨M, hM⟩ : ∃ M, M = -n := ⟨_, rfl⟩
    have hw : IntKind.u64.wrap n = C := by rw [IntKind.wrap_u64]; omega
    have hw2 : IntKind.u64.wrap (-C) = M := by rw [IntKind.wrap_u64]; omega
    have O' := Lib.hid (fun W => O W M (by omega))
    have hdn : decide (n < 0) = true := by simp [h]
    rw [hdn] at Hf
    clear O hC hM hdn
    generalize n.natAbs = a at *
    go_enter Try.func36, Try.ntmps36
    go_wp2_with fail
    refine (O'.out _).mono ?_; rintro e1 w1 ⟨v1, rfl, hn1, hg1⟩
    go_wp2_with fail
    refine (pack_any true v1 a 0 false w1 hn1 (by omega) (by omega) (by omega) (by omega)).mono ?_; rintro e2 w2 ⟨rfl, hg2⟩
    go_wp2_with fail
    go_ret
    exact ⟨ret_int (by rw [Hf.out]), Grown.trans hg1 hg2⟩
  · have O' := Lib.hid (fun W => O W n (by omega))
    have hdn : decide (n < 0) = false := by simp; omega
    rw [hdn] at Hf
    clear O hdn
    generalize n.natAbs = a at *
    go_enter Try.func36, Try.ntmps36
    go_wp2_with fail
    refine (O'.out _).mono ?_; rintro e1 w1 ⟨v1, rfl, hn1, hg1⟩
    go_wp2_with fail
    refine (pack_any false v1 a 0 false w1 hn1 (by omega) (by omega) (by omega) (by omega)).mono ?_; rintro e2 w2 ⟨rfl, hg2⟩
    go_wp2_with fail
    go_ret
    exact ⟨ret_int (by rw [Hf.out]), Grown.trans hg1 hg2⟩

/-- What ToInt answers, by the whole part. -/
theorem ftoi_fin (a : Nat) (h : fin a) : ftoi a = if 9223372036854775808 ≤ uval (rg a) / U then (if sg a then -9223372036854775808 else 9223372036854775807) else sgi (sg a) (uval (rg a) / U) := by
  have hU := U_pos
  have hn := fin_not a h
  by_cases hK : 9223372036854775808 ≤ uval (rg a) / U
  · rw [if_pos hK]
    have hu : 9223372036854775808 * U ≤ uval (rg a) := (Nat.le_div_iff_mul_le hU).1 hK
    have hK2 : uval (rg a) / U * U ≤ uval (rg a) := Nat.div_mul_le_self _ _
    unfold ftoi ival sgi
    rw [hn]
    simp only [Bool.false_eq_true, if_false]
    cases hs : sg a
    · simp only [Bool.false_eq_true, if_false]
      rw [if_pos (by omega)]
    · simp only [if_true]
      rw [if_neg (by omega)]
      by_cases h2 : -((uval (rg a) : Nat) : Int) < -9223372036854775808 * (U : Int)
      · rw [if_pos h2]
      · rw [if_neg h2]
        have e : uval (rg a) = 9223372036854775808 * U := by omega
        rw [e, Nat.mul_div_cancel _ hU]
        rfl
  · rw [if_neg hK]
    have hlt : uval (rg a) < 9223372036854775808 * U := by
      rcases Nat.lt_or_ge (uval (rg a)) (9223372036854775808 * U) with h1 | h1
      · exact h1
      · exact absurd ((Nat.le_div_iff_mul_le hU).2 h1) hK
    unfold ftoi
    rw [hn]
    simp only [Bool.false_eq_true, if_false]
    have h1 : ¬ 9223372036854775808 * (U : Int) ≤ ival a := by
      unfold ival sgi; split <;> omega
    have h2 : ¬ ival a < -9223372036854775808 * (U : Int) := by
      unfold ival sgi; split <;> omega
    rw [if_neg h1, if_neg h2]
theorem ftoi_inf (a : Nat) (h : rg a = 9218868437227405312) : ftoi a = if sg a then -9223372036854775808 else 9223372036854775807 := by
  have hn : isn a = false := by unfold isn; unfold rg at h; rw [h]; rfl
  have hlt := uval_lt 4890909195324358656 9218868437227405312 (by omega)
  rw [uval_big] at hlt
  unfold ftoi ival
  rw [hn, h]
  simp only [Bool.false_eq_true, if_false]
  generalize uval 9218868437227405312 = I at *
  have hU := U_pos
  unfold sgi
  cases sg a
  · simp only [Bool.false_eq_true, if_false]
    rw [if_pos (by omega)]
  · simp only [if_true]
    rw [if_neg (by omega), if_pos (by omega)]
/-- The whole part, by what Read tells. -/
def whole (m : Nat) (e : Int) : Nat := if 0 < e then m * 2 ^ e.toNat else m / 2 ^ (-e).toNat
theorem whole_K (a : Nat) : whole (rdm a) (rde a) = uval (rg a) / U := by
  have hP := PL_eq
  have he : -1074 ≤ rde a := by unfold rde; split <;> omega
  rw [← rd_uval a, U_eq]
  unfold whole
  generalize rdm a = m
  generalize rde a = e at *
  by_cases h : 0 < e
  · rw [if_pos h, show (e + 1074).toNat = e.toNat + PL by omega, Nat.pow_add, ← Nat.mul_assoc, Nat.mul_div_cancel _ (two_pos _)]
  · rw [if_neg h]
    have e2 : 2 ^ PL = 2 ^ (-e).toNat * 2 ^ (e + 1074).toNat := by rw [← Nat.pow_add]; congr 1; omega
    rw [e2, Nat.mul_div_mul_right _ _ (two_pos _)]
theorem blen_gt (K : Nat) : (63 < blen K) = (9223372036854775808 ≤ K) := by
  have e63 : (9223372036854775808 : Nat) = 2 ^ 63 := by decide
  rw [eq_iff_iff, e63]
  constructor
  · intro h
    have h0 : K ≠ 0 := by intro e; subst e; rw [blen_zero] at h; omega
    have h1 := blen_ge h0
    have h2 : 2 ^ 63 ≤ 2 ^ (blen K - 1) := Nat.pow_le_pow_right (by omega) (by omega)
    omega
  · intro h
    rcases Nat.lt_or_ge 63 (blen K) with h1 | h1
    · exact h1
    · have h2 := lt_blen K
      have h3 : 2 ^ blen K ≤ 2 ^ 63 := Nat.pow_le_pow_right (by omega) h1
      omega
end Go.Proofs.Ytmdcdicmlnlenaa
