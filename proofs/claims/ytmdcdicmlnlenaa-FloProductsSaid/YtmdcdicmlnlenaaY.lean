/- Contracts of the document's whole numbers of any length: Len, small, Shl. -/
import Derived.Test.YtmdcdicmlnlenaaW
namespace Go.Proofs.Ytmdcdicmlnlenaa
open Go.ChangeShapes Go.WideShapes Go.ChangeAt Go.RowKit

def blen (N : Nat) : Nat := if N = 0 then 0 else N.log2 + 1
theorem blen_zero : blen 0 = 0 := rfl
theorem lt_blen (N : Nat) : N < 2 ^ blen N := by
  unfold blen
  split
  · rename_i h; subst h; decide
  · exact Nat.lt_log2_self
theorem blen_ge {N : Nat} (h : N ≠ 0) : 2 ^ (blen N - 1) ≤ N := by unfold blen; rw [if_neg h]; exact Nat.log2_self_le h
theorem blen_eq {N k : Nat} (h1 : 2 ^ k ≤ N) (h2 : N < 2 ^ (k + 1)) : blen N = k + 1 := by
  have := two_pos k
  have h0 : N ≠ 0 := by omega
  unfold blen
  rw [if_neg h0, (Nat.log2_eq_iff h0).2 ⟨h1, h2⟩]
structure LenRel (top j t : Nat) : Prop where
  e : t = top / 2 ^ j
  h : j = 0 ∨ top / 2 ^ (j - 1) ≠ 0
theorem LenRel.next {top j t : Nat} (r : LenRel top j t) (h : t ≠ 0) : LenRel top (j + 1) (t / 2) := by
  obtain ⟨e, _⟩ := r
  subst e
  exact ⟨by rw [Nat.div_div_eq_div_mul, ← Nat.pow_succ], .inr (by simpa using h)⟩
theorem LenRel.bd {top j t : Nat} (r : LenRel top j t) (hd : top < 4294967296) : j ≤ 32 := by
  obtain ⟨e, h⟩ := r
  rcases h with h | h
  · omega
  · rcases Nat.lt_or_ge 32 j with h2 | h2
    · exfalso; apply h
      have h3 : 2 ^ 32 ≤ 2 ^ (j - 1) := Nat.pow_le_pow_right (by omega) (by omega)
      exact Nat.div_eq_of_lt (by omega)
    · exact h2
theorem LenRel.fin {N j t : Nat} (hN : N ≠ 0) (r : LenRel (dig N (digs N - 1)) j t) (h : t = 0) : 32 * (digs N - 1) + j = blen N := by
  obtain ⟨e, hj⟩ := r
  have ht := dig_top hN
  rw [h] at e
  have hlt : dig N (digs N - 1) < 2 ^ j := by
    rcases Nat.lt_or_ge (dig N (digs N - 1)) (2 ^ j) with h2 | h2
    · exact h2
    · have : 1 ≤ dig N (digs N - 1) / 2 ^ j := (Nat.le_div_iff_mul_le (two_pos j)).2 (by omega)
      omega
  have hj0 : j ≠ 0 := by intro h0; subst h0; simp at hlt; omega
  have hge : 2 ^ (j - 1) ≤ dig N (digs N - 1) := by
    rcases hj with hj | hj
    · omega
    · rcases Nat.lt_or_ge (dig N (digs N - 1)) (2 ^ (j - 1)) with h2 | h2
      · exact absurd (Nat.div_eq_of_lt h2) hj
      · exact h2
  have hN2 : N / 4294967296 ^ (digs N - 1) = dig N (digs N - 1) := by
    have h1 := lt_digs N
    have h3 := digs_pos hN
    rw [show digs N = digs N - 1 + 1 by omega, bb_succ] at h1
    unfold dig
    rw [Nat.mod_eq_of_lt (Nat.div_lt_of_lt_mul (by simpa using h1))]
  have hs := Nat.div_add_mod N (4294967296 ^ (digs N - 1))
  rw [hN2] at hs
  have hm := Nat.mod_lt N (bb_pos (digs N - 1))
  have e1 : 2 ^ (32 * (digs N - 1) + j) = 4294967296 ^ (digs N - 1) * 2 ^ j := by rw [bb_two, ← Nat.pow_add]
  have e2 : 2 ^ (32 * (digs N - 1) + j - 1) = 4294967296 ^ (digs N - 1) * 2 ^ (j - 1) := by rw [bb_two, ← Nat.pow_add]; congr 1; omega
  have g1 : 4294967296 ^ (digs N - 1) * 2 ^ (j - 1) ≤ 4294967296 ^ (digs N - 1) * dig N (digs N - 1) := Nat.mul_le_mul_left _ hge
  have g2 : 4294967296 ^ (digs N - 1) * (dig N (digs N - 1) + 1) ≤ 4294967296 ^ (digs N - 1) * 2 ^ j := Nat.mul_le_mul_left _ hlt
  rw [Nat.mul_add] at g2
  have := blen_eq (N := N) (k := 32 * (digs N - 1) + j - 1) (by rw [e2]; omega) (by rw [show 32 * (digs N - 1) + j - 1 + 1 = 32 * (digs N - 1) + j by omega, e1]; omega)
  omega

theorem len_any (v : Value) (N : Nat) (w : World) (h : Num w v N) (hn : digs N ≤ 1000000) :
    Calls Try.prog 60 #[v] w fun e w' => e = .returned (.int .i64 (blen N : Nat)) ∧ w = w' := by
  obtain ⟨A, c, rfl, hc, hA⟩ := h
  by_cases hN : N = 0
  · subst hN
    rw [digs_zero, blen_zero]
    clear hA
    go_enter Try.func60, Try.ntmps60
    go_wp2
    go_ret
    exact ⟨rfl, rfl⟩
  · have hp := digs_pos hN
    rcases hA with hA | ⟨g, m, rfl, hm, hB⟩
    · omega
    · have hcell := hB.cell (digs N - 1) (by omega)
      have hfin : ∀ j t, LenRel (dig N (digs N - 1)) j t → t = 0 → 32 * (digs N - 1) + j = blen N := fun j t r h => r.fin hN h
      have hd := dig_lt N (digs N - 1)
      have hz : ((digs N : Int) == 0) = false := by simp; omega
      have hfin' := Lib.hid hfin
      clear hm hB hfin
      generalize digs N = dn at *
      obtain ⟨n, rfl⟩ : ∃ n, dn = n + 1 := ⟨dn - 1, by omega⟩
      simp only [Nat.add_sub_cancel] at hcell hd hfin'
      generalize dig N n = top at *
      go_enter Try.func60, Try.ntmps60
      go_wp2
      go_loop [3, 4] (fun a x => ∃ j t : Nat, LenRel top j t ∧ a = .int .i64 (32 * (n : Int) + j) ∧ x = .int .u64 (t : Nat)) (fun _ x => (intOf x).toNat)
      case atStart => exact ⟨0, top, ⟨by simp, .inl rfl⟩, by simp, rfl⟩
      case round =>
        obtain ⟨j, t, hr, rfl, rfl⟩ := hrel
        have hj := hr.bd hd
        by_cases h0 : t = 0
        · have hf := Lib.hid (hfin'.out j t hr h0)
          subst h0
          go_wp2
          go_ret
          exact ⟨ret_int (by rw [← hf.out]; push_cast; rfl), rfl⟩
        · have hnx := hr.next h0
          go_wp2
          go_round
          case rel => exact ⟨j + 1, t / 2, hnx, by push_cast; rw [Int.add_assoc], by push_cast; rfl⟩
          case measure => simp [intOf]; omega
end Go.Proofs.Ytmdcdicmlnlenaa
