/- Quotients: the document's, of 120 digits and a rest, are rounded as IEEE's. -/
import Derived.Test.YtmdcdicmlnlenaaAD
import Derived.Test.YtmdcdicmlnlenaaAF
namespace Go.Proofs.Ytmdcdicmlnlenaa

theorem mod_zero (X n k : Nat) : X % (n * k) = 0 ↔ X % n = 0 ∧ X / n % k = 0 := by
  rw [Nat.mod_mul]
  constructor
  · intro h
    have h1 : X % n = 0 := by omega
    refine ⟨h1, ?_⟩
    rcases Nat.eq_zero_or_pos n with h0 | h0
    · subst h0; simp
    · have h2 : n * (X / n % k) = 0 := by omega
      rcases Nat.mul_eq_zero.1 h2 with h3 | h3
      · omega
      · exact h3
  · rintro ⟨h1, h2⟩
    rw [h1, h2, Nat.mul_zero]
theorem log2_between {N k : Nat} (h1 : 2 ^ k ≤ N) (h2 : N < 2 ^ (k + 1)) : N.log2 = k := by
  have := two_pos k
  exact (Nat.log2_eq_iff (by omega)).2 ⟨h1, h2⟩
/-- What is cut off, and whether it is a half, more or less: told by the finer quotient and its rest as by the coarser one with one digit more. -/
theorem quo_up (N n t r : Nat) (hr : r ≠ 0) :
    (bitN (N * 2 ^ t / n) (r + t - 1) == 1 && (decide (N * 2 ^ t % n ≠ 0) || N * 2 ^ t / n / 2 ^ (r + t - 1) * 2 ^ (r + t - 1) != N * 2 ^ t / n || bitN (N * 2 ^ t / n / 2 ^ (r + t)) 0 == 1)).toNat
      = up (2 * (N / n) + (N % n != 0).toNat) (r + 1) := by
  have ht := two_pos t
  obtain ⟨k, rfl⟩ : ∃ k, r = k + 1 := ⟨r - 1, by omega⟩
  have hk := two_pos k
  rw [show k + 1 + t - 1 = k + t by omega, show k + 1 + t = k + t + 1 by omega]
  have hQt : N * 2 ^ t / n / 2 ^ t = N / n := by
    rw [Nat.div_div_eq_div_mul, Nat.mul_div_mul_right _ _ ht]
  have hsplit : ∀ x, N * 2 ^ t / n / 2 ^ (x + t) = N / n / 2 ^ x := fun x => by
    rw [show x + t = t + x by omega, Nat.pow_add, ← Nat.div_div_eq_div_mul, hQt]
  have hst : (decide (N * 2 ^ t % n ≠ 0) || N * 2 ^ t / n / 2 ^ (k + t) * 2 ^ (k + t) != N * 2 ^ t / n) = (N % n != 0 || N / n % 2 ^ k != 0) := by
    have e1 : (N * 2 ^ t / n / 2 ^ (k + t) * 2 ^ (k + t) != N * 2 ^ t / n) = (N * 2 ^ t / n % 2 ^ (k + t) != 0) := by
      have h1 := Nat.div_add_mod (N * 2 ^ t / n) (2 ^ (k + t))
      rw [Nat.mul_comm] at h1
      rw [Bool.eq_iff_iff]; simp only [bne_iff_ne]; omega
    rw [e1]
    have a1 := mod_zero (N * 2 ^ t) n (2 ^ (k + t))
    have a2 := mod_zero N n (2 ^ k)
    have a3 : N * 2 ^ t % (n * 2 ^ (k + t)) = N % (n * 2 ^ k) * 2 ^ t := by rw [Nat.pow_add, ← Nat.mul_assoc, Nat.mul_mod_mul_right]
    rw [Bool.eq_iff_iff]
    simp only [Bool.or_eq_true, decide_eq_true_eq, bne_iff_ne]
    have a4 : N * 2 ^ t % (n * 2 ^ (k + t)) = 0 ↔ N % (n * 2 ^ k) = 0 := by
      rw [a3]
      constructor
      · intro h
        rcases Nat.mul_eq_zero.1 h with h | h
        · exact h
        · omega
      · intro h; rw [h, Nat.zero_mul]
    have a5 := a1.symm.trans (a4.trans a2)
    constructor
    · intro h
      by_cases b1 : N % n = 0
      · right; intro b2
        have := a5.2 ⟨b1, b2⟩
        omega
      · exact .inl b1
    · intro h
      by_cases b1 : N * 2 ^ t % n = 0
      · right; intro b2
        have := a5.1 ⟨b1, b2⟩
        omega
      · exact .inl b1
  rw [hst]
  unfold bitN up
  rw [show k + t + 1 = (k + 1) + t by omega, hsplit, hsplit, Nat.pow_zero, Nat.div_one]
  generalize (N % n != 0) = st
  generalize N / n = q
  have hmag : (2 * q + st.toNat) % 2 ^ (k + 1 + 1) = 2 * (q % 2 ^ (k + 1)) + st.toNat := by
    rw [show (2 : Nat) ^ (k + 1 + 1) = 2 * 2 ^ (k + 1) by rw [Nat.pow_succ, Nat.mul_comm], Nat.mod_mul]
    cases st
    · rw [show (2 * q + false.toNat) % 2 = 0 by simp, show (2 * q + false.toNat) / 2 = q by simp]; simp
    · rw [show (2 * q + true.toNat) % 2 = 1 by simp, show (2 * q + true.toNat) / 2 = q by simp; omega]; simp; omega
  have hdv : (2 * q + st.toNat) / 2 ^ (k + 1 + 1) = q / 2 ^ (k + 1) := by
    rw [show (2 : Nat) ^ (k + 1 + 1) = 2 * 2 ^ (k + 1) by rw [Nat.pow_succ, Nat.mul_comm], ← Nat.div_div_eq_div_mul]
    congr 1
    cases st
    · simp
    · simp; omega
  rw [hmag, hdv, Nat.pow_succ, ← Nat.div_div_eq_div_mul, Nat.mod_mul]
  have hρ := Nat.mod_lt q hk
  have e2 : 2 ^ (k + 1 + 1) = 2 * (2 * 2 ^ k) := by rw [Nat.pow_succ, Nat.pow_succ]; omega
  rw [e2]
  generalize q % 2 ^ k = ρ at *
  generalize q / 2 ^ k = z at *
  clear hmag hdv hst hsplit hQt e2
  generalize 2 ^ k = g at *
  rcases (by omega : z % 2 = 0 ∨ z % 2 = 1) with hb | hb
  · rw [hb, Nat.mul_zero, Nat.add_zero]
    cases st
    · rw [if_neg (by simp; omega)]; rfl
    · rw [if_neg (by simp; omega)]; rfl
  · rw [hb, Nat.mul_one]
    cases st
    · by_cases h0 : ρ = 0
      · subst h0
        by_cases h3 : z / 2 % 2 = 1
        · rw [if_pos (by simp; omega), h3]; rfl
        · rw [if_neg (by simp; omega), show z / 2 % 2 = 0 by omega]; rfl
      · rw [if_pos (by simp; omega)]; simp [h0]
    · rw [if_pos (by simp; omega)]; simp

theorem quo_pack (σ : Bool) (m n : Nat) (p0 : Int) (hm : 0 < m) (hn : 0 < n) (hm53 : m < 9007199254740992) (hn53 : n < 9007199254740992) :
    pack σ (m * 2 ^ 120 / n) (p0 - 120) (decide (m * 2 ^ 120 % n ≠ 0)) = Ieee.double.nearest σ (quoMag m n) (p0 - quoMore m n - 1) := by
  have hlm : m.log2 < 53 := (Nat.log2_lt (by omega)).2 (by omega)
  have hln : n.log2 < 53 := (Nat.log2_lt (by omega)).2 (by omega)
  have hmore : quoMore m n = 54 + n.log2 - m.log2 := rfl
  have hmag : quoMag m n = 2 * (m * 2 ^ quoMore m n / n) + (m * 2 ^ quoMore m n % n != 0).toNat := by unfold quoMag; rw [shl_pow]
  have m1 : 2 ^ m.log2 ≤ m := Nat.log2_self_le (by omega)
  have n2 : n < 2 ^ (n.log2 + 1) := Nat.lt_log2_self
  have hN : 2 ^ (54 + n.log2) ≤ m * 2 ^ quoMore m n := by
    have h := Nat.mul_le_mul_right (2 ^ quoMore m n) m1
    rw [← Nat.pow_add, show m.log2 + quoMore m n = 54 + n.log2 by omega] at h
    exact h
  obtain ⟨t, ht⟩ : ∃ t, quoMore m n + t = 120 := ⟨120 - quoMore m n, by omega⟩
  have hmt : m * 2 ^ 120 = m * 2 ^ quoMore m n * 2 ^ t := by rw [Nat.mul_assoc, ← Nat.pow_add, ht]
  rw [hmt]
  have hq53 : 2 ^ 53 ≤ m * 2 ^ quoMore m n / n := by
    refine (Nat.le_div_iff_mul_le hn).2 (Nat.le_trans ?_ hN)
    have h : 2 ^ 53 * n ≤ 2 ^ 53 * 2 ^ (n.log2 + 1) := Nat.mul_le_mul_left _ (Nat.le_of_lt n2)
    rw [← Nat.pow_add, show 53 + (n.log2 + 1) = 54 + n.log2 by omega] at h
    exact h
  have hm1 : (quoMore m n : Int) = 120 - t := by omega
  clear hmt hN m1 n2 hmore
  generalize m * 2 ^ quoMore m n = N at *
  have hup : ∀ r, r ≠ 0 → _ := fun r hr => quo_up N n t r hr
  rw [hmag]
  have hQt : N * 2 ^ t / n / 2 ^ t = N / n := by
    rw [Nat.div_div_eq_div_mul, Nat.mul_div_mul_right _ _ (two_pos t)]
  have hQd := Nat.div_add_mod (N * 2 ^ t / n) (2 ^ t)
  have hQm := Nat.mod_lt (N * 2 ^ t / n) (two_pos t)
  rw [hQt] at hQd
  have hst : (N % n != 0).toNat ≤ 1 := by cases (N % n != 0) <;> simp
  generalize (N % n != 0).toNat = st at *
  generalize decide (N * 2 ^ t % n ≠ 0) = mr at *
  generalize N * 2 ^ t / n = Q at *
  generalize hqe : N / n = q at *
  have q1 : 2 ^ q.log2 ≤ q := Nat.log2_self_le (by omega)
  have q2 : q < 2 ^ (q.log2 + 1) := Nat.lt_log2_self
  have hL : 53 ≤ q.log2 := (Nat.le_log2 (by omega)).2 hq53
  have lmag : (2 * q + st).log2 = q.log2 + 1 := log2_between (by rw [Nat.pow_succ]; omega) (by rw [Nat.pow_succ]; omega)
  have lQ : Q.log2 = q.log2 + t := by
    refine log2_between ?_ ?_
    · rw [Nat.pow_add]
      have h := Nat.mul_le_mul_right (2 ^ t) q1
      rw [Nat.mul_comm (2 ^ t)] at hQd
      omega
    · rw [show q.log2 + t + 1 = q.log2 + 1 + t by omega, Nat.pow_add]
      have h := Nat.mul_le_mul_right (2 ^ t) (show q + 1 ≤ 2 ^ (q.log2 + 1) from q2)
      rw [Nat.mul_comm (2 ^ t)] at hQd
      rw [Nat.add_mul] at h
      omega
  have hQ0 : Q ≠ 0 := by intro h; rw [h] at hQt; simp at hQt; omega
  have hl1 : lastOf Q (p0 - 120) = lastOf (2 * q + st) (p0 - quoMore m n - 1) := by
    unfold lastOf; rw [lmag, lQ]; omega
  have hl2 : p0 - quoMore m n + 1 ≤ lastOf Q (p0 - 120) := by unfold lastOf; rw [lQ]; omega
  have hmg0 : 2 * q + st ≠ 0 := by omega
  have hk : packQ Q (p0 - 120) + (packUp Q (p0 - 120) mr).toNat = keptOf (2 * q + st) (p0 - quoMore m n - 1) := by
    unfold packQ packUp keptOf
    rw [← hl1]
    generalize lastOf Q (p0 - 120) = l at *
    obtain ⟨r, hr⟩ : ∃ r : Nat, l - (p0 - quoMore m n) = (r : Int) := ⟨(l - (p0 - quoMore m n)).toNat, by omega⟩
    rw [if_neg (by omega), if_neg (by omega), show (l - (p0 - 120)).toNat = r + t by omega, show (p0 - quoMore m n - 1 - l).toNat = 0 by omega,
      show (l - (p0 - quoMore m n - 1)).toNat = r + 1 by omega, shl_pow, Nat.pow_zero, Nat.mul_one]
    unfold half
    rw [hup r (by omega)]
    congr 1
    rw [show r + t = t + r by omega, Nat.pow_add, ← Nat.div_div_eq_div_mul, hQt, Nat.pow_succ, Nat.mul_comm (2 ^ r), ← Nat.div_div_eq_div_mul]
    congr 1
    omega
  unfold pack
  rw [if_neg hQ0, hk, nearest_eq _ _ _ hmg0, hl1, packFin_rung _ _ _ (last_ge _ _) (kept_bd _ _ hmg0).1 (kept_bd _ _ hmg0).2, rungOf_kept]
end Go.Proofs.Ytmdcdicmlnlenaa
