/- Contracts of the document's whole numbers of any length: Shr. -/
import Derived.Test.YtmdcdicmlnlenaaAA
import Derived.StillTailTactics
namespace Go.Proofs.Ytmdcdicmlnlenaa
open Go.ChangeShapes Go.WideShapes Go.ChangeAt Go.RowKit

structure ShrStep (M j T b T' d : Nat) : Prop where
  hd : dig T (j / 32) = d
  dl : d < 4294967296
  hb : b < 2
  hw : b * 2 ^ (j % 32) < 4294967296
  hor : d ||| b * 2 ^ (j % 32) = d + b * 2 ^ (j % 32)
  hl : d + b * 2 ^ (j % 32) < 4294967296
  t : T' = T - dig T (j / 32) * 4294967296 ^ (j / 32) + (d + b * 2 ^ (j % 32)) * 4294967296 ^ (j / 32)
  hfin : T' = M % 2 ^ (j + 1)
theorem shr_step (M j : Nat) : ∃ T' d, ShrStep M j (M % 2 ^ j) (bitN M j) T' d := by
  have hT : M % 2 ^ j < 2 ^ j := Nat.mod_lt _ (two_pos j)
  have e : 2 ^ j = 4294967296 ^ (j / 32) * 2 ^ (j % 32) := by rw [bb_two, ← Nat.pow_add]; congr 1; omega
  have hs : 2 ^ (j % 32) ≤ 2 ^ 31 := Nat.pow_le_pow_right (by omega) (by omega)
  have hq : M % 2 ^ j / 4294967296 ^ (j / 32) < 2 ^ (j % 32) := Nat.div_lt_of_lt_mul (by rw [← e]; exact hT)
  have hd : dig (M % 2 ^ j) (j / 32) = M % 2 ^ j / 4294967296 ^ (j / 32) := by unfold dig; exact Nat.mod_eq_of_lt (by omega)
  have hb : bitN M j < 2 := Nat.mod_lt _ (by omega)
  have hbs : bitN M j * 2 ^ (j % 32) ≤ 1 * 2 ^ (j % 32) := Nat.mul_le_mul_right _ (by omega)
  have hfin : M % 2 ^ (j + 1) = M % 2 ^ j + bitN M j * 2 ^ j := by unfold bitN; rw [Nat.pow_succ, Nat.mod_mul, Nat.mul_comm (2 ^ j)]
  have hle := split_at (M % 2 ^ j) (j / 32)
  refine ⟨_, _, hd, by omega, hb, by omega, ?_, by omega, rfl, ?_⟩
  · rw [Nat.or_comm, Nat.mul_comm, ← Nat.two_pow_add_eq_or_of_lt hq, Nat.add_comm]
  · rw [hfin, hd, Nat.add_mul, Nat.mul_assoc (bitN M j), Nat.mul_comm (2 ^ (j % 32)), ← e]
    rw [hd] at hle
    omega

set_option maxHeartbeats 1000000 in
theorem shr_walk (v : Value) (N : Nat) (k n m : Nat) (w : World) (hv : Num w v N) (hd : digs N ≤ 100000) (hk : k ≤ 1000000) (hn : blen N = k + n) (hn0 : n ≠ 0) (hm : m = (n + 31) / 32) (hb : blen N ≤ 900000) :
    Calls Try.prog 59 #[v, .int .i64 (k : Int)] w (RetNum (N / 2 ^ k) w) := by
  have L := len_any v N w hv (by omega)
  rw [hn] at L
  have L' := Lib.hid L
  have bitc : ∀ W, Grown w W → ∀ j : Nat, j < n → Calls Try.prog 65 #[v, .int .i64 ((j : Int) + (k : Int))] W fun e w' => e = .returned (.int .u64 (bitN (N / 2 ^ k) j : Nat)) ∧ W = w' := fun W hg j hj => by
    have h := bit_any v N ((j : Int) + (k : Int)) W (hv.grown hg) (by omega) (by omega) (by omega)
    rw [if_neg (by omega), show ((j : Int) + (k : Int)).toNat = k + j by omega] at h
    have e : bitN N (k + j) = bitN (N / 2 ^ k) j := by unfold bitN; rw [Nat.pow_add, Nat.div_div_eq_div_mul]
    rwa [e] at h
  have Bc := Lib.hid bitc
  have kmk := mk m (by omega)
  have hnew := blk_new w m
  have hnm : ((n : Int) + 31) / 32 = (m : Int) := by omega
  have hkn : (k : Int) + (n : Int) - (k : Int) = (n : Int) := by omega
  obtain ⟨A, c, rfl, _, _⟩ := hv
  have hlt := lt_blen N
  rw [hn] at hlt
  have hlt' := Lib.hid hlt
  have hn1 : 0 < (n : Int) := by omega
  have hm' := Lib.hid hm
  have hnb : n ≤ 900000 := by omega
  clear L bitc hlt hn hm
  go_enter Try.func59, Try.ntmps59
  go_wp2_with (go_at_call 60; ((with_reducible refine (L'.out).mono ?_); rintro e w1 ⟨rfl, rfl⟩))
  clear hnm hkn
  go_loopw [7] (fun i wr => ∃ j : Nat, j ≤ n ∧ i = .int .i64 j ∧ Blk wr w.heap.size m (N / 2 ^ k % 2 ^ j) ∧ Grown w wr)
    (fun i _ => n - (intOf i).toNat)
  case atStart => exact ⟨0, by omega, rfl, by simpa [Nat.mod_one] using hnew, (Grown.refl w).alloc _ _⟩
  case round =>
    obtain ⟨j, hj, rfl, hblk, hg⟩ := hrel
    by_cases hjn : j < n
    · obtain ⟨T', d, S⟩ := shr_step (N / 2 ^ k) j
      have hgd : Grown w wr.drew := hg.drew
      have hbd : Blk wr.drew w.heap.size m (N / 2 ^ k % 2 ^ j) := hblk.drew
      generalize hWd : wr.drew = W at hgd hbd
      have HW := Lib.hid hWd
      clear hWd
      have B1 := Lib.hid (Bc.out W hgd j hjn)
      generalize bitN (N / 2 ^ k) j = b at *
      generalize N / 2 ^ k % 2 ^ j = T at *
      obtain ⟨hd1, dl, hb2, hw2, hor, hl, t, hfin⟩ := S
      have jn' : (j : Int) < n := by omega
      have hc1 := hbd.cell (j / 32) (by have := hm'.out; omega)
      rw [hd1] at hc1
      have hf1 := hbd.free (j / 32)
      have b1 := hbd.set (j / 32) _ hl t
      rw [hfin] at b1
      have g1 := hgd.setCell (a := ⟨w.heap.size, j / 32, none⟩) (Nat.le_refl _) (.int .u64 ((d + b * 2 ^ (j % 32) : Nat) : Int))
      have hpx : (2 : Int) ^ (j % 32) = ((2 ^ (j % 32) : Nat) : Int) := by push_cast; rfl
      have hW : IntKind.u64.wrap ((b : Int) * 2 ^ (j % 32)) = ((b * 2 ^ (j % 32) : Nat) : Int) := by rw [hpx, IntKind.wrap_u64]; omega
      have ho1 : bits .or .u64 (d : Int) ((b * 2 ^ (j % 32) : Nat) : Int) = ((d + b * 2 ^ (j % 32) : Nat) : Int) := by rw [u64_or_nat _ _ (by omega) (by omega), hor]
      have B2 := Lib.hid b1
      have G2 := Lib.hid g1
      have hjm : j / 32 < m := by have := hm'.out; omega
      clear hd1 hor t hfin b1 hblk hbd g1 hpx hw2 hl
      generalize d + b * 2 ^ (j % 32) = s at *
      generalize b * 2 ^ (j % 32) = y at *
      go_wp2
      have s1 : IntKind.i64.wrap ((j : Int) / 32) = (j : Int) / 32 := by rw [IntKind.wrap_i64]; omega
      have p1 : 0 ≤ (j : Int) / 32 := by omega
      have p2 : (j : Int) / 32 < (m : Int) := by omega
      have p3 : ((j : Int) / 32).toNat = j / 32 := by omega
      have s2 : IntKind.i64.wrap ((j : Int) + (k : Int)) = (j : Int) + (k : Int) := by rw [IntKind.wrap_i64]; omega
      have s3 : (j : Int).tmod 32 = (j : Int) % 32 := Int.tmod_eq_emod_of_nonneg (by omega)
      have s4 : IntKind.u64.wrap ((j : Int) % 32) = (j : Int) % 32 := by rw [IntKind.wrap_u64]; omega
      have s5 : IntKind.i64.wrap ((j : Int) % 32) = (j : Int) % 32 := by rw [IntKind.wrap_i64]; omega
      have p4 : ((j : Int) % 32).toNat = j % 32 := by omega
      refine wp_region_still_tail 16 (by kernel_rfl) (by kernel_rfl) ?_
      change wpStill _ _ wr.drew _ _ _
      rw [HW.out]
      simp only [List.take_succ_cons, List.take_zero, List.drop_succ_cons, List.drop_zero]
      repeat still_step
      still_call ((B1.out).mono fun _ _ h => ⟨h.1, h.2.symm⟩)
      repeat still_step
      refine wpStill_nil ?_
      change wpList _ _ _ _ _ wr.drew
      rw [HW.out]
      clear s1 s2 s3 s4 s5 p1 p2 p3 p4
      go_wp2
      go_roundw
      case rel => exact ⟨j + 1, by omega, by go_num, B2.out, G2.out⟩
      case measure => simp [intOf]; omega
    · obtain rfl : j = n := by omega
      have hMlt : N / 2 ^ k < 2 ^ j := Nat.div_lt_of_lt_mul (by rw [← Nat.pow_add]; exact hlt'.out)
      rw [Nat.mod_eq_of_lt hMlt] at hblk
      have hlt2 : N / 2 ^ k < 4294967296 ^ m := by
        rw [bb_two]
        have : 2 ^ j ≤ 2 ^ (32 * m) := Nat.pow_le_pow_right (by omega) (by have := hm'.out; omega)
        omega
      have hlt2' := Lib.hid hlt2
      have hmb : m ≤ 1000000 := by have := hm'.out; omega
      clear hMlt hlt2
      go_wp2_with (go_at_call 64; refine (trim_any w.heap.size m m (N / 2 ^ k) _ hblk hlt2'.out (by omega) (by omega)).mono ?_; rintro e w1 ⟨rfl, rfl⟩)
      go_ret
      exact ⟨_, rfl, Num.of_blk hblk hlt2'.out (by omega), hg⟩
theorem Num.none_ (w : World) : Num w (.slice none 0 0) 0 := ⟨none, 0, rfl, Nat.le_refl _, .inl rfl⟩
theorem shr_any (v : Value) (N : Nat) (k : Int) (w : World) (h : Num w v N) (hn : digs N ≤ 20000) (hb : blen N ≤ 640000) (k0 : 0 ≤ k) (k1 : k ≤ 1000000) :
    Calls Try.prog 59 #[v, .int .i64 k] w (RetNum (N / 2 ^ k.toNat) w) := by
  obtain ⟨kk, rfl⟩ := Int.eq_ofNat_of_zero_le k0
  rw [Int.toNat_natCast]
  by_cases hk : kk < blen N
  · exact shr_walk v N kk (blen N - kk) ((blen N - kk + 31) / 32) w h (by omega) (by omega) (by omega) (by omega) rfl (by omega)
  · have hz : N / 2 ^ kk = 0 := Nat.div_eq_of_lt (Nat.lt_of_lt_of_le (lt_blen N) (Nat.pow_le_pow_right (by omega) (by omega)))
    rw [hz]
    have L := Lib.hid (len_any v N w h (by omega))
    generalize blen N = b at *
    obtain ⟨A, c, rfl, _, _⟩ := h
    have hle : (b : Int) ≤ kk := by omega
    clear hz hk
    go_enter Try.func59, Try.ntmps59
    go_wp2_with (go_at_call 60; ((with_reducible refine (L.out).mono ?_); rintro e w1 ⟨rfl, rfl⟩))
    go_ret
    exact ⟨_, rfl, Num.none_ _, Grown.refl _⟩
end Go.Proofs.Ytmdcdicmlnlenaa
