/- Contracts of the document's whole numbers of any length: Shl. -/
import Derived.Test.YtmdcdicmlnlenaaZ
namespace Go.Proofs.Ytmdcdicmlnlenaa
open Go.ChangeShapes Go.WideShapes Go.ChangeAt Go.RowKit

/-- What a round of Shl makes of the digits: x the digit, h what stands there. -/
structure ShlStep (N q r i T x h l u T1 T2 : Nat) : Prop where
  hx : x < 4294967296
  hd : dig T (i + q) = h
  ll : l < 4294967296
  hor : h ||| l = h + l
  hl : h + l < 4294967296
  t1 : T1 = T - dig T (i + q) * 4294967296 ^ (i + q) + (h + l) * 4294967296 ^ (i + q)
  hz : dig T1 (i + q + 1) = 0
  t2 : T2 = T1 - dig T1 (i + q + 1) * 4294967296 ^ (i + q + 1) + u * 4294967296 ^ (i + q + 1)
  uu : u < 4294967296
  hfin : T2 = N % 4294967296 ^ (i + 1) * 2 ^ r * 4294967296 ^ q
  wl : x * 2 ^ r % 4294967296 = l
  wu : x * 2 ^ r / 4294967296 = u
  hw : x * 2 ^ r < 18446744073709551616

theorem shl_step (N q r i : Nat) (hr : r < 32) : ∃ h l u T1 T2, ShlStep N q r i (N % 4294967296 ^ i * 2 ^ r * 4294967296 ^ q) (dig N i) h l u T1 T2 := by
  have hx := dig_lt N i
  have hp := bb_pos (i + q)
  have hpi := bb_pos i
  have h2r := two_pos r
  have hrlt : 2 ^ r < 4294967296 := by
    have : 2 ^ r ≤ 2 ^ 31 := Nat.pow_le_pow_right (by omega) (by omega)
    omega
  generalize hxe : dig N i = x at *
  have hM : N % 4294967296 ^ i < 4294967296 ^ i := Nat.mod_lt _ hpi
  have hms := mod_succ N i
  rw [hxe] at hms
  generalize N % 4294967296 ^ i = M at *
  have hw : x * 2 ^ r < 4294967296 * 2 ^ r := Nat.mul_lt_mul_of_pos_right hx h2r
  -- the digit that stands there
  have hTlt : M * 2 ^ r < 4294967296 ^ i * 2 ^ r := Nat.mul_lt_mul_of_pos_right hM h2r
  have hh : M * 2 ^ r / 4294967296 ^ i < 2 ^ r := Nat.div_lt_of_lt_mul hTlt
  have hdig : dig (M * 2 ^ r * 4294967296 ^ q) (i + q) = M * 2 ^ r / 4294967296 ^ i := by
    unfold dig
    rw [Nat.pow_add, Nat.mul_div_mul_right _ _ (bb_pos q), Nat.mod_eq_of_lt (by omega)]
  have hl : x * 2 ^ r % 4294967296 < 4294967296 := Nat.mod_lt _ (by omega)
  have hu : x * 2 ^ r / 4294967296 < 2 ^ r := Nat.div_lt_of_lt_mul hw
  have hlm : x * 2 ^ r % 4294967296 = 2 ^ r * (x % 2 ^ (32 - r)) := by
    have e : (4294967296 : Nat) = 2 ^ r * 2 ^ (32 - r) := by rw [← Nat.pow_add, show r + (32 - r) = 32 by omega]
    rw [e, Nat.mul_comm x, Nat.mul_mod_mul_left]
  have hor : M * 2 ^ r / 4294967296 ^ i ||| x * 2 ^ r % 4294967296 = M * 2 ^ r / 4294967296 ^ i + x * 2 ^ r % 4294967296 := by
    rw [hlm, Nat.or_comm, ← Nat.two_pow_add_eq_or_of_lt hh, Nat.add_comm]
  have hsum : M * 2 ^ r / 4294967296 ^ i + x * 2 ^ r % 4294967296 < 4294967296 := by
    rw [← hor]
    exact Nat.or_lt_two_pow (n := 32) (by omega) (by omega)
  have hdm := Nat.div_add_mod (x * 2 ^ r) 4294967296
  have hT1lt : M * 2 ^ r * 4294967296 ^ q + x * 2 ^ r % 4294967296 * 4294967296 ^ (i + q) < 4294967296 ^ (i + q + 1) := by
    have h1 := Nat.div_add_mod (M * 2 ^ r) (4294967296 ^ i)
    have h3 := Nat.mod_lt (M * 2 ^ r) hpi
    generalize M * 2 ^ r / 4294967296 ^ i = h at *
    generalize x * 2 ^ r % 4294967296 = l at *
    generalize M * 2 ^ r % 4294967296 ^ i = t at *
    rw [← h1, bb_succ, Nat.pow_add, Nat.add_mul]
    have h4 : (h + l + 1) * (4294967296 ^ i * 4294967296 ^ q) ≤ 4294967296 * (4294967296 ^ i * 4294967296 ^ q) := Nat.mul_le_mul_right _ hsum
    have h5 : t * 4294967296 ^ q < 4294967296 ^ i * 4294967296 ^ q := Nat.mul_lt_mul_of_pos_right h3 (bb_pos q)
    rw [Nat.add_mul, Nat.add_mul, Nat.one_mul] at h4
    have e1 : 4294967296 ^ i * h * 4294967296 ^ q = h * (4294967296 ^ i * 4294967296 ^ q) := by rw [Nat.mul_comm _ h, Nat.mul_assoc]
    omega
  refine ⟨_, _, _, M * 2 ^ r * 4294967296 ^ q + x * 2 ^ r % 4294967296 * 4294967296 ^ (i + q), (M * 2 ^ r * 4294967296 ^ q + x * 2 ^ r % 4294967296 * 4294967296 ^ (i + q)) + x * 2 ^ r / 4294967296 * 4294967296 ^ (i + q + 1), hx, hdig, hl, hor, hsum, ?_, dig_big _ _ hT1lt, ?_, by omega, ?_, rfl, rfl, ?_⟩
  · have hle : dig (M * 2 ^ r * 4294967296 ^ q) (i + q) * 4294967296 ^ (i + q) ≤ M * 2 ^ r * 4294967296 ^ q := by
      have := split_at (M * 2 ^ r * 4294967296 ^ q) (i + q)
      omega
    rw [hdig] at *
    rw [Nat.add_mul]
    omega
  · rw [dig_big _ _ hT1lt]; omega
  · rw [hms, Nat.add_mul, Nat.add_mul]
    have e1 : x * 4294967296 ^ i * 2 ^ r * 4294967296 ^ q = x * 2 ^ r * 4294967296 ^ (i + q) := by
      rw [Nat.pow_add, Nat.mul_assoc x, Nat.mul_comm (4294967296 ^ i) (2 ^ r), ← Nat.mul_assoc x, Nat.mul_assoc (x * 2 ^ r)]
    rw [e1, bb_succ]
    generalize x * 2 ^ r % 4294967296 = l at *
    generalize x * 2 ^ r / 4294967296 = u at *
    rw [← hdm, Nat.add_mul]
    have e2 : u * (4294967296 ^ (i + q) * 4294967296) = 4294967296 * u * 4294967296 ^ (i + q) := by rw [Nat.mul_comm (4294967296 ^ (i + q)), ← Nat.mul_assoc, Nat.mul_comm u]
    omega
  · omega

set_option maxHeartbeats 1000000 in
theorem shl_walk (g m0 c N k q r n m : Nat) (w : World) (hB : Blk w g m0 N) (hm0 : n ≤ m0) (hnc : n ≤ c) (hn : digs N = n) (hn0 : n ≠ 0) (hnb : n ≤ 100000) (hk : k ≤ 1000000) (hq : (k : Int) / 32 = (q : Int)) (hr : (k : Int) % 32 = (r : Int)) (hm : n + q + 1 = m) :
    Calls Try.prog 47 #[.slice (some ⟨g, 0, none⟩) n c, .int .i64 (k : Int)] w (RetNum (N * 2 ^ k) w) := by
  have kmk := mk m (by omega)
  have hnew := blk_new w m
  have hcast : (n : Int) + (q : Int) + 1 = (m : Int) := by omega
  have hz : ((n : Int) == 0) = false := by simp; omega
  have hn' := Lib.hid hn
  have hr32 : r < 32 := by omega
  have hqr := Lib.hid (show k = 32 * q + r by omega)
  have hm' : m ≤ 1000000 := by omega
  have hqm := Lib.hid hm
  have hbnd : n + q < m := by omega
  clear hn hm
  go_enter Try.func47, Try.ntmps47
  go_wp2
  go_loopw [6] (fun i wr => ∃ j : Nat, j ≤ n ∧ i = .int .i64 j ∧ Blk wr w.heap.size m (N % 4294967296 ^ j * 2 ^ r * 4294967296 ^ q) ∧ Grown w wr)
    (fun i _ => n - (intOf i).toNat)
  case atStart => exact ⟨0, by omega, rfl, by simpa [Nat.mod_one] using hnew, (Grown.refl w).alloc _ _⟩
  case round =>
    obtain ⟨j, hj, rfl, hblk, hg⟩ := hrel
    by_cases hjn : j < n
    · obtain ⟨h, l, u, T1, T2, S⟩ := shl_step N q r j hr32
      have hcell := (Blk.grown hB hg).cell j (by omega)
      generalize dig N j = x at *
      generalize N % 4294967296 ^ j * 2 ^ r * 4294967296 ^ q = T at *
      obtain ⟨hx, hd, ll, hor, hl, t1, hz1, t2, uu, hfin, wl, wu, hw⟩ := S
      have jn' : (j : Int) < n := by omega
      have hc1 := hblk.cell (j + q) (by omega)
      rw [hd] at hc1
      have hf1 := hblk.free (j + q)
      have b1 := hblk.set (j + q) (h + l) hl t1
      have hc2 := (b1.cell (j + q + 1) (by omega)).trans (show _ = some (Value.int .u64 0) by rw [hz1]; rfl)
      have hf2 := b1.free (j + q + 1)
      have b2 := b1.set (j + q + 1) u uu t2
      rw [hfin] at b2
      have g2 := (hg.setCell (a := ⟨w.heap.size, j + q, none⟩) (Nat.le_refl _) (.int .u64 ((h + l : Nat) : Int))).setCell (a := ⟨w.heap.size, j + q + 1, none⟩) (Nat.le_refl _) (.int .u64 ((u : Nat) : Int))
      have hpx : (2 : Int) ^ r = ((2 ^ r : Nat) : Int) := by push_cast; rfl
      have hW : IntKind.u64.wrap ((x : Int) * 2 ^ r) = ((x * 2 ^ r : Nat) : Int) := by rw [hpx, IntKind.wrap_u64]; omega
      have hmask := maskI ((x * 2 ^ r : Nat) : Int) (by omega) (by omega)
      rw [show ((x * 2 ^ r : Nat) : Int) % 4294967296 = ((l : Nat) : Int) by omega] at hmask
      have hshr : ((x * 2 ^ r : Nat) : Int) / 4294967296 = ((u : Nat) : Int) := by omega
      have ho1 : bits .or .u64 (h : Int) (l : Int) = ((h + l : Nat) : Int) := by rw [u64_or_nat _ _ (by omega) (by omega), hor]
      have ho2 : bits .or .u64 0 (u : Int) = (u : Int) := by have := u64_or_nat 0 u (by omega) (by omega); rw [Nat.zero_or] at this; exact this
      have B2 := Lib.hid b2
      have G2 := Lib.hid g2
      have hwx : ((x * 2 ^ r : Nat) : Int) ≤ 18446744073709551615 := by omega
      clear hd hor t1 hz1 t2 hfin wl wu b1 b2 hblk g2 hpx hw
      generalize h + l = s at *
      generalize x * 2 ^ r = y at *
      go_wp2
      go_roundw
      case rel => exact ⟨j + 1, by omega, by go_num, B2.out, G2.out⟩
      case measure => simp [intOf]; omega
    · obtain rfl : j = n := by omega
      have hNlt := lt_digs N
      rw [hn'.out] at hNlt
      rw [Nat.mod_eq_of_lt hNlt] at hblk
      have e : N * 2 ^ r * 4294967296 ^ q = N * 2 ^ k := by rw [hqr.out, Nat.pow_add, bb_two, Nat.mul_assoc, Nat.mul_comm (2 ^ r)]
      have hlt2 : N * 2 ^ k < 4294967296 ^ m := by
        rw [← e, ← hqm.out, show j + q + 1 = j + 1 + q by omega, Nat.pow_add, Nat.pow_add]
        refine Nat.mul_lt_mul_of_pos_right ?_ (bb_pos q)
        have h2 : 2 ^ r ≤ 4294967296 ^ 1 := by rw [bb_two]; exact Nat.pow_le_pow_right (by omega) (by omega)
        exact Nat.lt_of_lt_of_le (Nat.mul_lt_mul_of_pos_right hNlt (two_pos r)) (Nat.mul_le_mul_left _ h2)
      rw [e] at hblk
      have hlt2' := Lib.hid hlt2
      clear hNlt e hlt2
      go_wp2_with (go_at_call 64; refine (trim_any w.heap.size m m (N * 2 ^ k) _ hblk hlt2'.out (by omega) (by omega)).mono ?_; rintro e w1 ⟨rfl, rfl⟩)
      go_ret
      exact ⟨_, rfl, Num.of_blk hblk hlt2'.out (by omega), hg⟩
theorem shl_any (v : Value) (N : Nat) (k : Int) (w : World) (h : Num w v N) (hn : digs N ≤ 100000) (k0 : 0 ≤ k) (k1 : k ≤ 1000000) :
    Calls Try.prog 47 #[v, .int .i64 k] w (RetNum (N * 2 ^ k.toNat) w) := by
  obtain ⟨kk, rfl⟩ := Int.eq_ofNat_of_zero_le k0
  rw [Int.toNat_natCast]
  have h' := h
  obtain ⟨A, c, rfl, hc, hA⟩ := h
  by_cases hN : N = 0
  · subst hN
    rw [Nat.zero_mul]
    rw [digs_zero] at *
    clear hA
    go_enter Try.func47, Try.ntmps47
    go_wp2
    go_ret
    exact ⟨_, rfl, h', Grown.refl _⟩
  · have hp := digs_pos hN
    rcases hA with hA | ⟨g, m, rfl, hm, hB⟩
    · omega
    · exact shl_walk g m c N kk (kk / 32) (kk % 32) (digs N) (digs N + kk / 32 + 1) w hB hm hc rfl (by omega) hn (by omega) (by omega) (by omega) rfl
end Go.Proofs.Ytmdcdicmlnlenaa
