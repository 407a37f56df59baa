/- Contracts of the document's whole numbers of any length: at, Bit, trim, Of, Len, small. -/
import Derived.Test.YtmdcdicmlnlenaaC
import Derived.Test.YtmdcdicmlnlenaaV
import Derived.LoopN
import Derived.Laws.ShiftsVar
namespace Go.Proofs.Ytmdcdicmlnlenaa
open Go.ChangeShapes Go.WideShapes Go.ChangeAt Go.RowKit

theorem at_any (v : Value) (N : Nat) (i : Int) (w : World) (h : Num w v N) (i0 : 0 ≤ i) (i1 : i ≤ 1000000) :
    Calls Try.prog 66 #[v, .int .i64 i] w fun e w' => e = .returned (.int .u64 (dig N i.toNat : Nat)) ∧ w = w' := by
  obtain ⟨A, c, rfl, hc, hA⟩ := h
  by_cases hk : i.toNat < digs N
  · rcases hA with hA | ⟨g, m, rfl, hm, hB⟩
    · omega
    · have hcell := hB.cell i.toNat (by omega)
      have hk' : i < (digs N : Int) := by omega
      clear hm hB hk
      generalize digs N = n at *
      generalize dig N i.toNat = d at *
      obtain ⟨k, rfl⟩ := Int.eq_ofNat_of_zero_le i0
      rw [Int.toNat_natCast] at hcell
      go_enter Try.func66, Try.ntmps66
      go_wp2
      go_ret
      exact ⟨rfl, rfl⟩
  · have hz := Lib.hid (dig_out (by omega : digs N ≤ i.toNat))
    have hk' : (digs N : Int) ≤ i := by omega
    clear hA hk
    generalize digs N = n at *
    go_enter Try.func66, Try.ntmps66
    go_wp2
    go_ret
    exact ⟨ret_int (by rw [hz.out]; rfl), rfl⟩

theorem trim_any (g m c N : Nat) (w : World) (hB : Blk w g m N) (hN : N < 4294967296 ^ m) (hc : m ≤ c) (hc2 : c ≤ 1000000) :
    Calls Try.prog 64 #[.slice (some ⟨g, 0, none⟩) m c] w fun e w' => e = .returned (.slice (some ⟨g, 0, none⟩) (digs N) c) ∧ w = w' := by
  have hd := digs_le hN
  go_enter Try.func64, Try.ntmps64
  go_wp2
  go_loop [3] (fun i => ∃ k : Nat, digs N ≤ k ∧ k ≤ m ∧ i = .int .i64 k) (fun i => (intOf i).toNat)
  case atStart => exact ⟨m, hd, Nat.le_refl _, rfl⟩
  case round =>
    obtain ⟨k, hk, hk2, rfl⟩ := hrel
    by_cases h0 : k = 0
    · have hz : digs N = 0 := by omega
      have hz' := Lib.hid hz
      subst h0
      clear hz hk
      go_wp2
      go_ret
      exact ⟨by rw [hz'.out]; rfl, rfl⟩
    · obtain ⟨j, rfl⟩ : ∃ j, k = j + 1 := ⟨k - 1, by omega⟩
      have hcell := hB.cell j (by omega)
      by_cases h1 : digs N = j + 1
      · have hnz : dig N j ≠ 0 := by
          have h2 := dig_top (N := N) (by intro e; subst e; rw [digs_zero] at h1; omega)
          rwa [h1] at h2
        have hb : ((dig N j : Int) == 0) = false := by simp; omega
        have h1' := Lib.hid h1
        clear hnz h1 hk
        go_wp2
        go_ret
        exact ⟨by rw [h1'.out]; rfl, rfl⟩
      · have hzd : dig N j = 0 := dig_out (by omega)
        rw [hzd] at hcell
        clear hzd
        go_wp2
        go_round
        case rel => exact ⟨j, by omega, by omega, by go_num⟩
        case measure => simp [intOf]

/-- A number is answered. -/
def RetNum (N : Nat) (w : World) (e : Ending) (w' : World) : Prop := ∃ v, e = .returned v ∧ Num w' v N ∧ Grown w w'
theorem Num.of_blk {w : World} {g m c N : Nat} (hB : Blk w g m N) (hN : N < 4294967296 ^ m) (hc : m ≤ c) : Num w (.slice (some ⟨g, 0, none⟩) (digs N) c) N := by
  have := digs_le hN
  exact ⟨_, _, rfl, by omega, .inr ⟨g, m, rfl, this, hB⟩⟩
theorem Grown.block {a b : World} (h : Grown a b) {i : Nat} (hi : i < a.heap.size) : b.heap[i]? = a.heap[i]? := World.keptBut.block h.1 hi (fun _ f => f.elim)
theorem Blk.grown {w w' : World} {g m N : Nat} (h : Blk w g m N) (hg : Grown w w') : Blk w' g m N := (Grown.block hg h.lt).trans h
theorem Num.grown {w w' : World} {v : Value} {N : Nat} (h : Num w v N) (hg : Grown w w') : Num w' v N := by
  obtain ⟨A, c, e, h1, h2⟩ := h
  refine ⟨A, c, e, h1, ?_⟩
  rcases h2 with h2 | ⟨g, m, e2, h3, h4⟩
  · exact .inl h2
  · exact .inr ⟨g, m, e2, h3, h4.grown hg⟩

/-- A bit of a number. -/
def bitN (N k : Nat) : Nat := N / 2 ^ k % 2
theorem dig_bit (N k : Nat) : dig N (k / 32) / 2 ^ (k % 32) % 2 = bitN N k := by
  unfold dig bitN
  have e : 2 ^ k = 4294967296 ^ (k / 32) * 2 ^ (k % 32) := by rw [bb_two, ← Nat.pow_add]; congr 1; omega
  have e2 : (4294967296 : Nat) = 2 ^ (k % 32) * (2 * 2 ^ (31 - k % 32)) := by
    rw [← Nat.mul_assoc, ← Nat.pow_succ, ← Nat.pow_add, show k % 32 + 1 + (31 - k % 32) = 32 by omega]
  rw [e, ← Nat.div_div_eq_div_mul]
  generalize N / 4294967296 ^ (k / 32) = M
  rw [e2]
  rw [Nat.mod_mul_right_div_self, Nat.mod_mul_right_mod]
theorem mask1 (a : Int) (h0 : 0 ≤ a) (ha : a < 18446744073709551616) : bits .and .u64 a 1 = a % 2 := by
  obtain ⟨n, rfl⟩ := Int.eq_ofNat_of_zero_le h0
  have h := u64_and_nat n 1 (by omega) (by omega)
  rw [Nat.and_one_is_mod] at h
  exact h.trans (by omega)
theorem bit_any (v : Value) (N : Nat) (i : Int) (w : World) (h : Num w v N) (hn : digs N ≤ 1000000) (i1 : i ≤ 1000000) (i2 : -1000000 ≤ i) :
    Calls Try.prog 65 #[v, .int .i64 i] w fun e w' => e = .returned (.int .u64 (if i < 0 then 0 else (bitN N i.toNat : Nat))) ∧ w = w' := by
  obtain ⟨A, c, rfl, hc, hA⟩ := h
  by_cases h0 : i < 0
  · rw [if_pos h0]
    clear hA
    go_enter Try.func65, Try.ntmps65
    go_wp2
    go_ret
    exact ⟨rfl, rfl⟩
  rw [if_neg h0]
  obtain ⟨k, rfl⟩ := Int.eq_ofNat_of_zero_le (by omega : 0 ≤ i)
  rw [Int.toNat_natCast]
  have hb := Lib.hid (dig_bit N k)
  by_cases hk : k / 32 < digs N
  · rcases hA with hA | ⟨g, m, rfl, hm, hB⟩
    · omega
    · have hcell := hB.cell (k / 32) (by omega)
      have hd := dig_lt N (k / 32)
      have hk' : (k : Int) / 32 < (digs N : Int) := by omega
      have hq := mask1 (((dig N (k / 32) : Nat) : Int) / 2 ^ (k % 32)) (by
        have : (0 : Int) < 2 ^ (k % 32) := Int.pow_pos (by omega)
        exact Int.ediv_nonneg (by omega) (by omega)) (by
        have : (0 : Int) < 2 ^ (k % 32) := Int.pow_pos (by omega)
        have h2 : ((dig N (k / 32) : Nat) : Int) / 2 ^ (k % 32) ≤ (dig N (k / 32) : Nat) := Int.ediv_le_self _ (by omega)
        omega)
      have hq' := Lib.hid hq
      clear hm hB hk hq h0
      generalize digs N = n at *
      generalize dig N (k / 32) = d at *
      go_enter Try.func65, Try.ntmps65
      go_wp2
      go_ret
      exact ⟨ret_int (by rw [hq'.out, ← hb.out]; push_cast; rfl), rfl⟩
  · have hz := Lib.hid (dig_out (by omega : digs N ≤ k / 32))
    have hk' : (digs N : Int) ≤ (k : Int) / 32 := by omega
    clear hA hk h0
    generalize digs N = n at *
    go_enter Try.func65, Try.ntmps65
    go_wp2
    go_ret
    exact ⟨ret_int (by rw [← hb.out, hz.out]; simp), rfl⟩

theorem dcells_two (a : Nat) (h : a < 18446744073709551616) : dcells 2 a = #[.int .u64 ((a : Int) % 4294967296), .int .u64 ((a : Int) / 4294967296)] := by
  have h0 : dig a 0 = a % 4294967296 := by unfold dig; simp
  have h1 : dig a 1 = a / 4294967296 := by unfold dig; rw [Nat.pow_one]; omega
  apply Array.ext
  · simp [dcells]
  · intro i i1 i2
    have hi : i < 2 := by simpa [dcells] using i1
    rcases (by omega : i = 0 ∨ i = 1) with rfl | rfl
    · simp only [dcells, Array.getElem_map, Array.getElem_range, h0]; rfl
    · simp only [dcells, Array.getElem_map, Array.getElem_range, h1]; rfl
theorem maskI (a : Int) (h0 : 0 ≤ a) (ha : a < 18446744073709551616) : bits .and .u64 a 4294967295 = a % 4294967296 := by
  obtain ⟨n, rfl⟩ := Int.eq_ofNat_of_zero_le h0
  have h := u64_and_nat n 4294967295 (by omega) (by omega)
  have e : n &&& 4294967295 = n % 4294967296 := Nat.and_two_pow_sub_one_eq_mod n 32
  rw [e] at h
  exact h.trans (by omega)
theorem of_any (a : Int) (w : World) (a0 : 0 ≤ a) (a1 : a ≤ 18446744073709551615) : Calls Try.prog 58 #[.int .u64 a] w (RetNum a.toNat w) := by
  have hm := maskI a a0 (by omega)
  have hblk : Blk (w.alloc (.cells #[.int .u64 (a % 4294967296), .int .u64 (a / 4294967296)] 22)) w.heap.size 2 a.toNat := by
    have hd := dcells_two a.toNat (by omega)
    rw [Int.toNat_of_nonneg a0] at hd
    rw [← hd]
    exact heap_alloc_new w _
  have hlt' := Lib.hid (show a.toNat < 4294967296 ^ 2 by omega)
  go_enter Try.func58, Try.ntmps58
  go_wp2_with (go_at_call 64; refine (trim_any w.heap.size 2 2 a.toNat _ hblk hlt'.out (by omega) (by omega)).mono ?_; rintro e w1 ⟨rfl, rfl⟩)
  go_ret
  exact ⟨_, rfl, Num.of_blk hblk hlt'.out (by omega), (Grown.refl w).alloc _ _⟩
end Go.Proofs.Ytmdcdicmlnlenaa
