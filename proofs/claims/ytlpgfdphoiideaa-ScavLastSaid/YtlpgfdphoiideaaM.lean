/- Plain arithmetic under layer 1: what is too great is the greatest number; the long division of 128 bits by 64; no program is named here. -/
namespace Go.Proofs.Ytlpgfdphoiideaa.M

def sat (x : Int) : Int := if x < 18446744073709551616 then x else 18446744073709551615

theorem sat_bd (x : Int) (h : 0 ≤ x) : 0 ≤ sat x ∧ sat x ≤ 18446744073709551615 := by
  unfold sat; split <;> omega
theorem sat_in (x : Int) (h : x < 18446744073709551616) : sat x = x := if_pos h
theorem sat_out (x : Int) (h : 18446744073709551616 ≤ x) : sat x = 18446744073709551615 := if_neg (by omega)
def dif (a b : Int) : Int := if a < b then 0 else a - b
theorem dif_lt {a b : Int} (h : a < b) : dif a b = 0 := if_pos h
theorem dif_ge {a b : Int} (h : b ≤ a) : dif a b = a - b := if_neg (by omega)
theorem dif_bd (a b : Int) (h : 0 ≤ a) (hb : 0 ≤ b) : 0 ≤ dif a b ∧ dif a b ≤ a := by unfold dif; split <;> omega
theorem sat_mono {x y : Int} (h : x ≤ y) : sat x ≤ sat y := by
  unfold sat; split <;> split <;> omega

/-- One step of the school's division: what is tried is too great just where the test says so. -/
theorem step_gt {v n1 n0 q r u d : Int} (hv : v = n1 * 4294967296 + n0) (hu : u = q * n1 + r) (h : 4294967296 * r + d < q * n0) : u * 4294967296 + d < q * v := by
  subst hv hu
  rw [Int.mul_add, ← Int.mul_assoc]
  generalize q * n1 = t at *
  omega
theorem step_le {v n1 n0 q r u d : Int} (hv : v = n1 * 4294967296 + n0) (hu : u = q * n1 + r) (h : q * n0 ≤ 4294967296 * r + d) : q * v ≤ u * 4294967296 + d := by
  subst hv hu
  rw [Int.mul_add, ← Int.mul_assoc]
  generalize q * n1 = t at *
  omega
theorem quo_lt {a v q : Int} (hv : 0 < v) (h : a < q * v) : a / v < q := (Int.ediv_lt_iff_lt_mul hv).2 h
theorem quo_ge {a v q : Int} (hv : 0 < v) (h : q * v ≤ a) : q ≤ a / v := (Int.le_ediv_iff_mul_le hv).2 h
/-- The quotient of one step has 32 bits. -/
theorem quo_small {u v d : Int} (hv : 0 < v) (huv : u < v) (hd : d < 4294967296) : (u * 4294967296 + d) / v < 4294967296 := by
  apply quo_lt hv
  omega

/-- What a step's loop keeps: q parts of n1 and a rest, q not below the quotient. -/
structure Step (v n1 n0 u d q r : Int) : Prop where
  parts : u = q * n1 + r
  rest0 : 0 ≤ r
  notBelow : (u * 4294967296 + d) / v ≤ q

theorem Step.start {v n1 n0 u d : Int} (hv : v = n1 * 4294967296 + n0) (h1 : 2147483648 ≤ n1) (h2 : 0 ≤ n0) (hu : 0 ≤ u) (hd : 0 ≤ d) (hd2 : d < 4294967296) :
    Step v n1 n0 u d (u / n1) (u - u / n1 * n1) := by
  have hr0 : 0 ≤ u % n1 := Int.emod_nonneg _ (by omega)
  have hr1 : u % n1 < n1 := Int.emod_lt_of_pos _ (by omega)
  have he : u / n1 * n1 + u % n1 = u := Int.ediv_mul_add_emod u n1
  refine ⟨by omega, by omega, ?_⟩
  have hlt : (u * 4294967296 + d) / v < u / n1 + 1 := by
    apply quo_lt (by omega)
    subst hv
    have hq0 : 0 ≤ u / n1 := Int.ediv_nonneg hu (by omega)
    have e1 : (u / n1 + 1) * (n1 * 4294967296 + n0) = (u / n1 * n1) * 4294967296 + n1 * 4294967296 + (u / n1 + 1) * n0 := by grind
    have e2 : 0 ≤ (u / n1 + 1) * n0 := Int.mul_nonneg (by omega) h2
    rw [e1]
    generalize u / n1 * n1 = t at *
    generalize (u / n1 + 1) * n0 = t2 at *
    omega
  omega
theorem start_q {v n1 n0 u : Int} (hv : v = n1 * 4294967296 + n0) (h1 : 2147483648 ≤ n1) (h3 : n0 < 4294967296) (hu : u < v) : u / n1 ≤ 4294967297 := by
  have : u / n1 < 4294967298 := by
    apply quo_lt (by omega)
    omega
  omega

/-- The test says yes: one less, and the rest a part more. -/
theorem Step.down {v n1 n0 u d q r : Int} (hv0 : 0 < v) (hv : v = n1 * 4294967296 + n0) (huv : u < v) (hd2 : d < 4294967296) (h1 : 0 ≤ n1) (s : Step v n1 n0 u d q r)
    (h : 4294967296 ≤ q ∨ 4294967296 * r + d < q * n0) : Step v n1 n0 u d (q - 1) (r + n1) := by
  refine ⟨?_, ?_, ?_⟩
  · have := s.parts
    rw [Int.sub_mul]; omega
  · have := s.rest0; omega
  · have hs := quo_small (d := d) hv0 huv hd2
    rcases h with h | h
    · omega
    · have := quo_lt hv0 (step_gt hv s.parts h)
      omega
theorem Step.pos {v n1 n0 u d q r : Int} (hv0 : 0 < v) (hu : 0 ≤ u) (hd : 0 ≤ d) (hv : v = n1 * 4294967296 + n0) (s : Step v n1 n0 u d q r)
    (h : 4294967296 ≤ q ∨ 4294967296 * r + d < q * n0) : 1 ≤ q := by
  rcases h with h | h
  · omega
  · have h1 := quo_lt hv0 (step_gt hv s.parts h)
    have h2 : 0 ≤ (u * 4294967296 + d) / v := Int.ediv_nonneg (by omega) (by omega)
    omega
/-- The test says no: that is the quotient. -/
theorem Step.done {v n1 n0 u d q r : Int} (hv0 : 0 < v) (hv : v = n1 * 4294967296 + n0) (s : Step v n1 n0 u d q r)
    (h : q * n0 ≤ 4294967296 * r + d) : q = (u * 4294967296 + d) / v := by
  have h1 := quo_ge hv0 (step_le hv s.parts h)
  have h2 := s.notBelow
  omega
/-- The rest has more than 32 bits: that is the quotient, too. -/
theorem Step.wide {v n1 n0 u d q r : Int} (hv0 : 0 < v) (hv : v = n1 * 4294967296 + n0) (s : Step v n1 n0 u d q r) (hd : 0 ≤ d) (h0 : 0 ≤ n0) (h3 : n0 < 4294967296)
    (hq : q ≤ 4294967296) (h : 4294967296 ≤ r) : q = (u * 4294967296 + d) / v := by
  refine s.done hv0 hv ?_
  have h1 : q * n0 ≤ 4294967296 * n0 := Int.mul_le_mul_of_nonneg_right hq h0
  omega
/-- What is left of a step. -/
theorem left_eq (u d v : Int) : u * 4294967296 + d - (u * 4294967296 + d) / v * v = (u * 4294967296 + d) % v := by
  have := Int.ediv_mul_add_emod (u * 4294967296 + d) v
  omega
theorem mod_bd (a v : Int) (hv : 0 < v) : 0 ≤ a % v ∧ a % v < v := ⟨Int.emod_nonneg _ (by omega), Int.emod_lt_of_pos _ hv⟩

/-- Two steps are the quotient of the whole. -/
theorem two_steps {u d d' v : Int} (hv : 0 < v) :
    (u * 4294967296 + d) / v * 4294967296 + ((u * 4294967296 + d) % v * 4294967296 + d') / v = (u * 18446744073709551616 + (d * 4294967296 + d')) / v := by
  have e := Int.ediv_mul_add_emod (u * 4294967296 + d) v
  have e2 : u * 18446744073709551616 + (d * 4294967296 + d') = ((u * 4294967296 + d) % v * 4294967296 + d') + ((u * 4294967296 + d) / v * 4294967296) * v := by
    rw [Int.mul_right_comm]
    generalize (u * 4294967296 + d) / v * v = t at *
    generalize (u * 4294967296 + d) % v = t' at *
    omega
  rw [e2, Int.add_mul_ediv_right _ _ (by omega)]
  omega
/-- Shifted alike, dividend and divisor give the same quotient. -/
theorem shifted {T y p : Int} (hp : 0 < p) : T * p / (y * p) = T / y := Int.mul_ediv_mul_of_pos_left T y hp

/-- The dividend, shifted: its upper and its lower half. -/
theorem halves {hi lo p p' : Int} (hp : 0 < p) (hpp : p * p' = 18446744073709551616) :
    (hi * 18446744073709551616 + lo) * p = (hi * p + lo / p') * 18446744073709551616 + lo * p % 18446744073709551616 := by
  have e : lo * p / 18446744073709551616 = lo / p' := by
    rw [← hpp, Int.mul_comm lo p]
    exact Int.mul_ediv_mul_of_pos lo p' hp
  have e2 := Int.ediv_mul_add_emod (lo * p) 18446744073709551616
  rw [e] at e2
  have e3 : (hi * 18446744073709551616 + lo) * p = hi * p * 18446744073709551616 + lo * p := by grind
  rw [e3]
  generalize lo * p = t at *
  omega

theorem mul_bd {a b A B : Int} (ha : 0 ≤ a) (hb : 0 ≤ b) (hA : a ≤ A) (hB : b ≤ B) : 0 ≤ a * b ∧ a * b ≤ A * B :=
  ⟨Int.mul_nonneg ha hb, Int.mul_le_mul hA hB hb (by omega)⟩
end Go.Proofs.Ytlpgfdphoiideaa.M
