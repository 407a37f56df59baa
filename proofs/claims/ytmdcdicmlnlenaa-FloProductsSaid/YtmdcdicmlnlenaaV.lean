/- Whole numbers by their digits in the base 2^32. Nothing of the program. -/
import Derived.Laws.Rows
import Derived.RowKit
import Derived.Deep.Draws
import Derived.Below
import Derived.OwnWalk
namespace Go.Proofs.Ytmdcdicmlnlenaa

abbrev BB : Nat := 4294967296
theorem bb_pos (k : Nat) : 0 < 4294967296 ^ k := Nat.pow_pos (by omega)
theorem bb_succ (k : Nat) : 4294967296 ^ (k + 1) = 4294967296 ^ k * 4294967296 := Nat.pow_succ ..
theorem bb_two (k : Nat) : 4294967296 ^ k = 2 ^ (32 * k) := by rw [Nat.pow_mul]
def dig (N i : Nat) : Nat := N / 4294967296 ^ i % 4294967296
theorem dig_lt (N i : Nat) : dig N i < 4294967296 := Nat.mod_lt _ (by omega)
theorem dig_big (N i : Nat) (h : N < 4294967296 ^ i) : dig N i = 0 := by unfold dig; rw [Nat.div_eq_of_lt h]
/-- How many digits. -/
def digs (N : Nat) : Nat := if N = 0 then 0 else N.log2 / 32 + 1
theorem digs_zero : digs 0 = 0 := rfl
theorem lt_digs (N : Nat) : N < 4294967296 ^ digs N := by
  unfold digs
  by_cases h : N = 0
  · subst h; decide
  · rw [if_neg h, bb_two]
    have h1 : N < 2 ^ (N.log2 + 1) := Nat.lt_log2_self
    have h2 : 2 ^ (N.log2 + 1) ≤ 2 ^ (32 * (N.log2 / 32 + 1)) := Nat.pow_le_pow_right (by omega) (by omega)
    omega
theorem digs_pos {N : Nat} (h : N ≠ 0) : 0 < digs N := by unfold digs; rw [if_neg h]; omega
theorem digs_ge {N : Nat} (h : N ≠ 0) : 4294967296 ^ (digs N - 1) ≤ N := by
  unfold digs
  rw [if_neg h, bb_two]
  have h1 : 2 ^ N.log2 ≤ N := Nat.log2_self_le h
  have h2 : 2 ^ (32 * (N.log2 / 32 + 1 - 1)) ≤ 2 ^ N.log2 := Nat.pow_le_pow_right (by omega) (by omega)
  omega
theorem digs_le {N m : Nat} (h : N < 4294967296 ^ m) : digs N ≤ m := by
  by_cases h0 : N = 0
  · subst h0; rw [digs_zero]; omega
  · have h1 := digs_ge h0
    rcases Nat.lt_or_ge m (digs N) with h2 | h2
    · have h3 : 4294967296 ^ m ≤ 4294967296 ^ (digs N - 1) := Nat.pow_le_pow_right (by omega) (by omega)
      omega
    · exact h2
theorem digs_eq {N m : Nat} (h : N < 4294967296 ^ (m + 1)) (h2 : 4294967296 ^ m ≤ N) : digs N = m + 1 := by
  have h1 := digs_le h
  have h3 := lt_digs N
  rcases Nat.lt_or_ge (digs N) (m + 1) with h4 | h4
  · have h5 : 4294967296 ^ digs N ≤ 4294967296 ^ m := Nat.pow_le_pow_right (by omega) (by omega)
    omega
  · omega
theorem dig_top {N : Nat} (h : N ≠ 0) : dig N (digs N - 1) ≠ 0 := by
  have h1 := digs_ge h
  have h2 := lt_digs N
  have h3 := digs_pos h
  rw [show digs N = digs N - 1 + 1 by omega, bb_succ] at h2
  unfold dig
  have hp := bb_pos (digs N - 1)
  have h4 : N / 4294967296 ^ (digs N - 1) < 4294967296 := Nat.div_lt_of_lt_mul (by omega)
  rw [Nat.mod_eq_of_lt h4]
  have : 1 ≤ N / 4294967296 ^ (digs N - 1) := (Nat.le_div_iff_mul_le hp).2 (by omega)
  omega
theorem dig_out {N i : Nat} (h : digs N ≤ i) : dig N i = 0 := by
  have h1 := lt_digs N
  have h2 : 4294967296 ^ digs N ≤ 4294967296 ^ i := Nat.pow_le_pow_right (by omega) h
  exact dig_big N i (by omega)
/-- A number is its digits below k, the k-th one, and those above. -/
theorem mod_succ (N k : Nat) : N % 4294967296 ^ (k + 1) = N % 4294967296 ^ k + dig N k * 4294967296 ^ k := by
  unfold dig
  rw [bb_succ, Nat.mod_mul]
  rw [Nat.mul_comm (4294967296 ^ k)]
theorem split_at (N p : Nat) : N = N / 4294967296 ^ (p + 1) * 4294967296 ^ (p + 1) + dig N p * 4294967296 ^ p + N % 4294967296 ^ p := by
  have h1 := Nat.div_add_mod N (4294967296 ^ (p + 1))
  have h2 := mod_succ N p
  rw [Nat.mul_comm] at h1
  omega
/-- Another digit in one place. -/
theorem dig_set (H L p y i : Nat) (hL : L < 4294967296 ^ p) (hy : y < 4294967296) :
    dig (H * 4294967296 ^ (p + 1) + y * 4294967296 ^ p + L) i = if i = p then y else if i < p then dig L i else dig H (i - p - 1) := by
  have hp := bb_pos p
  have e1 : H * 4294967296 ^ (p + 1) + y * 4294967296 ^ p + L = L + 4294967296 ^ p * (H * 4294967296 + y) := by
    rw [bb_succ, Nat.mul_add, Nat.mul_comm (4294967296 ^ p) (H * 4294967296), Nat.mul_comm (4294967296 ^ p) y, Nat.mul_assoc, Nat.mul_comm (4294967296 ^ p) 4294967296]
    omega
  unfold dig
  by_cases h1 : i = p
  · subst h1
    rw [if_pos rfl, e1, Nat.add_mul_div_left _ _ hp, Nat.div_eq_of_lt hL]
    omega
  · rw [if_neg h1]
    by_cases h2 : i < p
    · rw [if_pos h2]
      have e2 : 4294967296 ^ p = 4294967296 ^ i * (4294967296 * 4294967296 ^ (p - i - 1)) := by
        rw [← Nat.mul_assoc, ← bb_succ, ← Nat.pow_add]; congr 1; omega
      rw [e1, e2, Nat.mul_assoc, Nat.add_mul_div_left _ _ (bb_pos i), Nat.mul_assoc, Nat.add_mul_mod_self_left]
    · rw [if_neg h2]
      have e3 : 4294967296 ^ i = 4294967296 ^ (p + 1) * 4294967296 ^ (i - p - 1) := by rw [← Nat.pow_add]; congr 1; omega
      have hb : y * 4294967296 ^ p + L < 4294967296 ^ (p + 1) := by
        rw [bb_succ]
        have : (y + 1) * 4294967296 ^ p ≤ 4294967296 * 4294967296 ^ p := Nat.mul_le_mul_right _ (by omega)
        rw [Nat.add_mul] at this
        omega
      rw [e3, ← Nat.div_div_eq_div_mul, Nat.add_assoc, Nat.add_comm, Nat.add_mul_div_right _ _ (bb_pos _), Nat.div_eq_of_lt hb, Nat.zero_add]
theorem dig_set' (N N' p y : Nat) (hy : y < 4294967296) (h : N' = N - dig N p * 4294967296 ^ p + y * 4294967296 ^ p) (i : Nat) : dig N' i = if i = p then y else dig N i := by
  have s := split_at N p
  have hL : N % 4294967296 ^ p < 4294967296 ^ p := Nat.mod_lt _ (bb_pos p)
  have e : N' = N / 4294967296 ^ (p + 1) * 4294967296 ^ (p + 1) + y * 4294967296 ^ p + N % 4294967296 ^ p := by omega
  rw [e, dig_set _ _ _ _ _ hL hy]
  by_cases h1 : i = p
  · rw [if_pos h1, if_pos h1]
  · rw [if_neg h1, if_neg h1]
    have e2 := dig_set (N / 4294967296 ^ (p + 1)) (N % 4294967296 ^ p) p (dig N p) i hL (dig_lt N p)
    rw [← s, if_neg h1] at e2
    exact e2.symm

/-- The cells of a row of m digits. -/
def dcells (m N : Nat) : Array Value := (Array.range m).map fun i => Value.int .u64 (dig N i : Nat)
theorem size_dcells (m N : Nat) : (dcells m N).size = m := by simp [dcells]
theorem get_dcells (m N i : Nat) (h : i < m) : (dcells m N)[i]? = some (Value.int .u64 (dig N i : Nat)) := by
  simp [dcells, h]
theorem set_dcells (m N N' p y : Nat) (hy : y < 4294967296) (h : N' = N - dig N p * 4294967296 ^ p + y * 4294967296 ^ p) :
    (dcells m N).setIfInBounds p (Value.int .u64 (y : Nat)) = dcells m N' := by
  apply Array.ext
  · simp [dcells]
  · intro i h1 h2
    have hi : i < m := by simpa [dcells] using h2
    rw [Array.getElem_setIfInBounds (by simpa [dcells] using hi)]
    simp only [dcells, Array.getElem_map, Array.getElem_range]
    rw [dig_set' N N' p y hy h i]
    by_cases e : p = i
    · subst e; simp
    · have e2 : ¬ i = p := fun h => e h.symm
      rw [if_neg e, if_neg e2]
theorem zero_dcells (m : Nat) : dcells m 0 = (Array.range m).map fun _ => Value.int .u64 0 := by
  unfold dcells
  congr 1
  funext i
  simp [dig]

/-- Block g is a row of m cells, the digits of N. -/
def Blk (w : World) (g m N : Nat) : Prop := w.heap[g]? = some (.cells (dcells m N) 22 (0, 0))
theorem Blk.cell {w : World} {g m N : Nat} (h : Blk w g m N) (i : Nat) (hi : i < m) : w.cell? ⟨g, i, none⟩ = some (.int .u64 (dig N i : Nat)) :=
  (cell_of_row w g i _ 22 (0, 0) h).trans (get_dcells m N i hi)
theorem Blk.free {w : World} {g m N : Nat} (h : Blk w g m N) (i : Nat) : w.frozen? ⟨g, i, none⟩ = false := frozen_of_row w g i _ 22 h
theorem Blk.lt {w : World} {g m N : Nat} (h : Blk w g m N) : g < w.heap.size := by
  rcases Nat.lt_or_ge g w.heap.size with h1 | h1
  · exact h1
  · unfold Blk at h; rw [Array.getElem?_eq_none h1] at h; cases h
theorem Blk.set {w : World} {g m N N' : Nat} (h : Blk w g m N) (p y : Nat) (hy : y < 4294967296) (e : N' = N - dig N p * 4294967296 ^ p + y * 4294967296 ^ p) : Blk (w.setCell ⟨g, p, none⟩ (.int .u64 (y : Nat))) g m N' := by
  have := heap_setCell_same w g p (dcells m N) 22 (.int .u64 (y : Nat)) h
  rw [set_dcells m N N' p y hy e] at this
  exact this
theorem Blk.far {w : World} {g m N : Nat} (h : Blk w g m N) {a : Addr} (v : Value) (hn : g ≠ a.block) : Blk (w.setCell a v) g m N := (heap_setCell_other w a g v hn).trans h
theorem Blk.alloc {w : World} {g m N : Nat} (h : Blk w g m N) (o : Obj) : Blk (w.alloc o) g m N := (heap_alloc_old w o g h.lt).trans h
theorem Blk.drew {w : World} {g m N : Nat} (h : Blk w g m N) : Blk w.drew g m N := h
theorem Blk.drewN {w : World} {g m N : Nat} (h : Blk w g m N) (k : Nat) : Blk (w.drewN k) g m N := h

/-- A slice value that is a number: its digits, the least one first, no nought at its end. -/
def Num (w : World) (v : Value) (N : Nat) : Prop :=
  ∃ A c, v = .slice A (digs N) c ∧ digs N ≤ c ∧ (digs N = 0 ∨ ∃ g m, A = some ⟨g, 0, none⟩ ∧ digs N ≤ m ∧ Blk w g m N)
end Go.Proofs.Ytmdcdicmlnlenaa
