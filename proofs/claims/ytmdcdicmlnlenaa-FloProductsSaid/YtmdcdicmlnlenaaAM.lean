/- Contracts of the document's whole numbers of any length: Times. -/
import Derived.Test.YtmdcdicmlnlenaaAC
import Derived.Test.YtmdcdicmlnlenaaE
namespace Go.Proofs.Ytmdcdicmlnlenaa
open Go.ChangeShapes Go.WideShapes Go.ChangeAt Go.RowKit

structure TRel (P0 x M i j C cy : Nat) : Prop where
  e : C + cy * 4294967296 ^ (i + j) = P0 + x * (M % 4294967296 ^ j) * 4294967296 ^ i
  c1 : cy < 4294967296
theorem dig_le (C p : Nat) : dig C p * 4294967296 ^ p ≤ C := by have := split_at C p; omega
theorem TRel.bound {o x y cy : Nat} (ho : o < 4294967296) (hx : x < 4294967296) (hy : y < 4294967296) (hc : cy < 4294967296) : x * y ≤ 18446744065119617025 ∧ o + x * y + cy < 18446744073709551616 := by
  have h := Nat.mul_le_mul (show x ≤ 4294967295 by omega) (show y ≤ 4294967295 by omega)
  omega
theorem TRel.next {P0 x M i j C cy t : Nat} (r : TRel P0 x M i j C cy) (hx : x < 4294967296) (ht : t = dig C (i + j) + x * dig M j + cy) :
    TRel P0 x M i (j + 1) (C - dig C (i + j) * 4294967296 ^ (i + j) + t % 4294967296 * 4294967296 ^ (i + j)) (t / 4294967296) := by
  have h1 := r.e
  have hb := (TRel.bound (dig_lt C (i + j)) hx (dig_lt M j) r.c1).2
  have hle := dig_le C (i + j)
  have hdm := Nat.div_add_mod t 4294967296
  refine ⟨?_, by omega⟩
  rw [show i + (j + 1) = i + j + 1 by omega, bb_succ, mod_succ, Nat.mul_add, Nat.add_mul]
  have e1 : x * (dig M j * 4294967296 ^ j) * 4294967296 ^ i = x * dig M j * 4294967296 ^ (i + j) := by
    rw [Nat.pow_add, ← Nat.mul_assoc, Nat.mul_assoc (x * dig M j), Nat.mul_comm (4294967296 ^ j)]
  rw [e1]
  generalize x * dig M j = xy at *
  generalize dig C (i + j) = o at *
  generalize 4294967296 ^ (i + j) = P at *
  have e2 : t * P = (4294967296 * (t / 4294967296) + t % 4294967296) * P := by rw [hdm]
  rw [Nat.add_mul] at e2
  have e3 : t / 4294967296 * (P * 4294967296) = 4294967296 * (t / 4294967296) * P := by rw [Nat.mul_comm P, ← Nat.mul_assoc, Nat.mul_comm (t / 4294967296)]
  have e4 : t * P = o * P + xy * P + cy * P := by rw [ht, Nat.add_mul, Nat.add_mul]
  omega
theorem TRel.fin {A M i n C cy : Nat} (r : TRel (A % 4294967296 ^ i * M) (dig A i) M i n C cy) (hM : M < 4294967296 ^ n) :
    C + cy * 4294967296 ^ (i + n) = A % 4294967296 ^ (i + 1) * M ∧ dig C (i + n) + cy < 4294967296 ∧
      C + cy * 4294967296 ^ (i + n) = C - dig C (i + n) * 4294967296 ^ (i + n) + (dig C (i + n) + cy) * 4294967296 ^ (i + n) := by
  have h1 := r.e
  rw [Nat.mod_eq_of_lt hM] at h1
  have hle := dig_le C (i + n)
  have e0 : C + cy * 4294967296 ^ (i + n) = A % 4294967296 ^ (i + 1) * M := by
    rw [h1, mod_succ, Nat.add_mul]
    congr 1
    rw [Nat.mul_assoc, Nat.mul_comm M, ← Nat.mul_assoc]
  refine ⟨e0, ?_, by rw [Nat.add_mul]; omega⟩
  have hA := Nat.mod_lt A (bb_pos (i + 1))
  have hlt : C + cy * 4294967296 ^ (i + n) < 4294967296 * 4294967296 ^ (i + n) := by
    rw [e0]
    have h2 : A % 4294967296 ^ (i + 1) * M < 4294967296 ^ (i + 1) * 4294967296 ^ n := by
      rcases Nat.eq_zero_or_pos M with h0 | h0
      · subst h0; rw [Nat.mul_zero]; exact Nat.mul_pos (bb_pos _) (bb_pos _)
      · exact Nat.lt_of_lt_of_le (Nat.mul_lt_mul_of_pos_right hA h0) (Nat.mul_le_mul_left _ (Nat.le_of_lt hM))
    have e5 : 4294967296 ^ (i + 1) * 4294967296 ^ n = 4294967296 * 4294967296 ^ (i + n) := by rw [← Nat.pow_add, show i + 1 + n = i + n + 1 by omega, bb_succ (i + n), Nat.mul_comm]
    rw [e5] at h2
    exact h2
  have h3 : (dig C (i + n) + cy) * 4294967296 ^ (i + n) < 4294967296 * 4294967296 ^ (i + n) := by rw [Nat.add_mul]; omega
  exact Nat.lt_of_mul_lt_mul_right h3

set_option maxHeartbeats 4000000 in
theorem times_any (va vb : Value) (A M : Nat) (w : World) (ha : Num w va A) (hb : Num w vb M) (h1 : digs A ≤ 1000) (h2 : digs M ≤ 1000) :
    Calls Try.prog 52 #[va, vb] w (RetNum (A * M) w) := by
  have kmk := mk (digs A + digs M + 1) (by omega)
  have hnew := blk_new w (digs A + digs M + 1)
  have hA' := Lib.hid (lt_digs A)
  have hM' := Lib.hid (lt_digs M)
  obtain ⟨Aa, ca, rfl, _, hAc⟩ := ha
  obtain ⟨Ab, cb, rfl, _, hBc⟩ := hb
  have hcells : ∀ W, Grown w W → ∀ k : Nat, k < digs A → ∃ g, Aa = some ⟨g, 0, none⟩ ∧ W.cell? ⟨g, k, none⟩ = some (.int .u64 (dig A k : Nat)) := fun W hg k hk => by
    rcases hAc with h | ⟨g, m, e, h1, h2⟩
    · omega
    · exact ⟨g, e, (Blk.grown h2 hg).cell k (by omega)⟩
  have hcellsB : ∀ W, Grown w W → ∀ k : Nat, k < digs M → ∃ g, Ab = some ⟨g, 0, none⟩ ∧ W.cell? ⟨g, k, none⟩ = some (.int .u64 (dig M k : Nat)) := fun W hg k hk => by
    rcases hBc with h | ⟨g, m, e, h1, h2⟩
    · omega
    · exact ⟨g, e, (Blk.grown h2 hg).cell k (by omega)⟩
  have Ha := Lib.hid hcells
  have Hb := Lib.hid hcellsB
  clear hcells hcellsB hAc hBc
  generalize digs A = n at *
  generalize digs M = m at *
  obtain ⟨q, hq⟩ : ∃ q, q = n + m + 1 := ⟨_, rfl⟩
  rw [← hq] at kmk hnew
  have hcast : (n : Int) + (m : Int) + 1 = (q : Int) := by omega
  have Hq := Lib.hid hq
  have hqb : q ≤ 2001 := by omega
  clear hq
  go_enter Try.func52, Try.ntmps52
  go_wp2
  clear hcast
  go_loopw [6] (fun iv wr => ∃ i : Nat, i ≤ n ∧ iv = .int .i64 i ∧ Blk wr w.heap.size q (A % 4294967296 ^ i * M) ∧ Grown w wr)
    (fun iv _ => n - (intOf iv).toNat)
  case atStart => exact ⟨0, by omega, rfl, by simpa [Nat.mod_one] using hnew, (Grown.refl w).alloc _ _⟩
  case round =>
    obtain ⟨i, hi, rfl, hblk, hg⟩ := hrel
    by_cases hin : i < n
    · have hin' : (i : Int) < n := by omega
      go_wp2
      obtain ⟨wo, rfl⟩ : ∃ wo : World, wo = wr := ⟨_, rfl⟩
      go_loopw [7, 8] (fun cv jv wr => ∃ j C cy : Nat, j ≤ m ∧ TRel (A % 4294967296 ^ i * M) (dig A i) M i j C cy ∧ cv = .int .u64 (cy : Nat) ∧ jv = .int .i64 j ∧ Blk wr w.heap.size q C ∧ Grown w wr)
        (fun _ jv _ => m - (intOf jv).toNat)
      case atStart => exact ⟨0, _, 0, by omega, ⟨by simp [Nat.mod_one], by omega⟩, rfl, rfl, hblk, hg⟩
      case round =>
        obtain ⟨j, C, cy, hj, hr, rfl, rfl, hblk2, hg2⟩ := hrel
        by_cases hjm : j < m
        · obtain ⟨ga, rfl, cA⟩ := Ha.out wr hg2 i hin
          obtain ⟨gb, rfl, cB⟩ := Hb.out wr hg2 j hjm
          have hnx := hr.next (t := dig C (i + j) + dig A i * dig M j + cy) (dig_lt A i) rfl
          have hbd := TRel.bound (dig_lt C (i + j)) (dig_lt A i) (dig_lt M j) hr.c1
          have hq := Hq.out
          have cO := hblk2.cell (i + j) (by omega)
          have fO := hblk2.free (i + j)
          have hcy := hr.c1
          have s0 : IntKind.i64.wrap ((i : Int) + (j : Int)) = (i : Int) + (j : Int) := by rw [IntKind.wrap_i64]; omega
          have p1 : 0 ≤ (i : Int) + (j : Int) := by omega
          have p2 : (i : Int) + (j : Int) < (q : Int) := by omega
          have p3 : ((i : Int) + (j : Int)).toNat = i + j := by omega
          have smul : IntKind.u64.wrap ((dig A i : Nat) * (dig M j : Nat) : Int) = ((dig A i * dig M j : Nat) : Int) := by rw [← Int.natCast_mul, IntKind.wrap_u64]; omega
          have hset := hblk2.set (i + j) ((dig C (i + j) + dig A i * dig M j + cy) % 4294967296) (Nat.mod_lt _ (by omega)) rfl
          have hmask := maskI ((dig C (i + j) + dig A i * dig M j + cy : Nat) : Int) (by omega) (by omega)
          have hg3 := hg2.setCell (a := ⟨w.heap.size, i + j, none⟩) (Nat.le_refl _) (.int .u64 (((dig C (i + j) + dig A i * dig M j + cy) % 4294967296 : Nat) : Int))
          have o0 := dig_lt C (i + j)
          generalize dig A i * dig M j = xy at *
          have sadd1 : IntKind.u64.wrap ((dig C (i + j) : Nat) + (xy : Nat) : Int) = ((dig C (i + j) + xy : Nat) : Int) := by rw [IntKind.wrap_u64]; omega
          have sadd2 : IntKind.u64.wrap (((dig C (i + j) + xy : Nat) : Int) + (cy : Nat)) = ((dig C (i + j) + xy + cy : Nat) : Int) := by rw [IntKind.wrap_u64]; omega
          have tl : dig C (i + j) + xy + cy < 18446744073709551616 := hbd.2
          generalize dig C (i + j) + xy + cy = t at *
          generalize dig C (i + j) + xy = t1 at *
          have hm2 : ((t : Nat) : Int) % 4294967296 = ((t % 4294967296 : Nat) : Int) := by omega
          have hq2 : ((t : Nat) : Int) / 4294967296 = ((t / 4294967296 : Nat) : Int) := by omega
          rw [hm2] at hmask
          have tb : ((t : Nat) : Int) ≤ 18446744073709551615 := by omega
          have HS := Lib.hid hset
          have HN := Lib.hid hnx
          have G3 := Lib.hid hg3
          have hin2 : 0 ≤ (i : Int) := by omega
          have hjn : (j : Int) < m := by omega
          have hjn2 : 0 ≤ (j : Int) := by omega
          clear hset hnx hg3 hbd hr hq hm2 hblk2 tl hcy o0
          generalize dig A i = x at *
          generalize dig M j = y at *
          generalize dig C (i + j) = o at *
          generalize t % 4294967296 = z at *
          generalize t / 4294967296 = c2 at *
          go_wp2
          go_quiet (fail)
          clear s0 p3
          go_wp2
          go_roundw
          case rel => exact ⟨j + 1, _, c2, by omega, HN.out, rfl, by go_num, HS.out, G3.out⟩
          case measure => simp [intOf]; omega
        · obtain rfl : j = m := by omega
          obtain ⟨e0, hs1, e1⟩ := hr.fin hM'.out
          have hq := Hq.out
          have cO := hblk2.cell (i + j) (by omega)
          have fO := hblk2.free (i + j)
          have hset := hblk2.set (i + j) _ hs1 e1
          rw [e0] at hset
          have hg3 := hg2.setCell (a := ⟨w.heap.size, i + j, none⟩) (Nat.le_refl _) (.int .u64 ((dig C (i + j) + cy : Nat) : Int))
          have hsum : ((dig C (i + j) : Nat) : Int) + (cy : Nat) = ((dig C (i + j) + cy : Nat) : Int) := by omega
          have hsb : ((dig C (i + j) + cy : Nat) : Int) ≤ 4294967295 := by omega
          have hnc : ((cy : Nat) : Int) ≤ 4294967295 := by omega
          have hno : ((dig C (i + j) : Nat) : Int) ≤ 4294967295 := by omega
          have p2 : i + j < q := by omega
          have HS := Lib.hid hset
          have G3 := Lib.hid hg3
          clear hset hg3 e0 e1 hr hq hs1 hblk2
          generalize dig C (i + j) + cy = sm at *
          generalize dig C (i + j) = o at *
          go_wp2
          go_roundw
          case rel => exact ⟨i + 1, by omega, by go_num, HS.out, G3.out⟩
          case measure => simp [intOf]; omega
    · obtain rfl : i = n := by omega
      rw [Nat.mod_eq_of_lt hA'.out] at hblk
      have hlt : A * M < 4294967296 ^ q := by
        have h3 := hA'.out
        have h4 := hM'.out
        rw [Hq.out, Nat.pow_succ, Nat.pow_add]
        have h5 : A * M ≤ 4294967296 ^ i * 4294967296 ^ m := Nat.mul_le_mul (Nat.le_of_lt h3) (Nat.le_of_lt h4)
        have h6 : 0 < 4294967296 ^ i * 4294967296 ^ m := Nat.mul_pos (bb_pos _) (bb_pos _)
        omega
      have hlt2 := Lib.hid hlt
      clear hlt
      go_wp2_with (go_at_call 64; refine (trim_any w.heap.size q q (A * M) _ hblk hlt2.out (by omega) (by omega)).mono ?_; rintro e w1 ⟨rfl, rfl⟩)
      go_ret
      exact ⟨_, rfl, Num.of_blk hblk hlt2.out (by omega), hg⟩
end Go.Proofs.Ytmdcdicmlnlenaa
