/- The document's Div of whole numbers: bit by bit. -/
import Derived.Test.YtmdcdicmlnlenaaAN
import Derived.Test.YtmdcdicmlnlenaaAG
namespace Go.Proofs.Ytmdcdicmlnlenaa
open Go.ChangeShapes Go.WideShapes Go.ChangeAt Go.RowKit

/-- A round of the division: the number's next bit comes in. -/
theorem div_in (A M j : Nat) (hM : 0 < M) : A / 2 ^ j = A / 2 ^ (j + 1) * 2 + bitN A j ∧
    A / 2 ^ (j + 1) % M * 2 + bitN A j < 2 * M ∧
    (A / 2 ^ (j + 1) % M * 2 + bitN A j < M → A / 2 ^ j % M = A / 2 ^ (j + 1) % M * 2 + bitN A j ∧ A / 2 ^ j / M = A / 2 ^ (j + 1) / M * 2) ∧
    (M ≤ A / 2 ^ (j + 1) % M * 2 + bitN A j → A / 2 ^ j % M = A / 2 ^ (j + 1) % M * 2 + bitN A j - M ∧ A / 2 ^ j / M = A / 2 ^ (j + 1) / M * 2 + 1) := by
  have hb : bitN A j < 2 := Nat.mod_lt _ (by omega)
  have e : A / 2 ^ j = A / 2 ^ (j + 1) * 2 + bitN A j := by
    unfold bitN
    rw [Nat.pow_succ, ← Nat.div_div_eq_div_mul]
    omega
  have hd := Nat.div_add_mod (A / 2 ^ (j + 1)) M
  have hm := Nat.mod_lt (A / 2 ^ (j + 1)) hM
  generalize bitN A j = b at *
  generalize A / 2 ^ (j + 1) = H at *
  generalize H / M = q at *
  generalize H % M = r at *
  refine ⟨e, by omega, fun h => ?_, fun h => ?_⟩
  · have e2 : A / 2 ^ j = (r * 2 + b) + M * (q * 2) := by rw [e, ← hd, Nat.add_mul, Nat.mul_assoc]; omega
    rw [e2, Nat.add_mul_mod_self_left, Nat.add_mul_div_left _ _ hM, Nat.mod_eq_of_lt h, Nat.div_eq_of_lt h]
    exact ⟨rfl, by omega⟩
  · have e2 : A / 2 ^ j = (r * 2 + b - M) + M * (q * 2 + 1) := by rw [e, ← hd, Nat.add_mul, Nat.mul_add, Nat.mul_one, Nat.mul_assoc]; omega
    have h2 : r * 2 + b - M < M := by omega
    rw [e2, Nat.add_mul_mod_self_left, Nat.add_mul_div_left _ _ hM, Nat.mod_eq_of_lt h2, Nat.div_eq_of_lt h2]
    exact ⟨rfl, by omega⟩
structure DivSet (X j Q Q' d : Nat) : Prop where
  hd : dig Q (j / 32) = d
  hs : 2 ^ (j % 32) < 4294967296
  dl : d < 4294967296
  hor : d ||| 2 ^ (j % 32) = d + 2 ^ (j % 32)
  hl : d + 2 ^ (j % 32) < 4294967296
  t : Q' = Q - dig Q (j / 32) * 4294967296 ^ (j / 32) + (d + 2 ^ (j % 32)) * 4294967296 ^ (j / 32)
  fin' : Q' = (X * 2 + 1) * 2 ^ j
theorem div_set (X j : Nat) : ∃ Q' d, DivSet X j (X * 2 ^ (j + 1)) Q' d := by
  have e : 2 ^ j = 4294967296 ^ (j / 32) * 2 ^ (j % 32) := by rw [bb_two, ← Nat.pow_add]; congr 1; omega
  have hs : 2 ^ (j % 32) ≤ 2 ^ 31 := Nat.pow_le_pow_right (by omega) (by omega)
  have hq : X * 2 ^ (j + 1) / 4294967296 ^ (j / 32) = 2 ^ (j % 32 + 1) * X := by
    rw [Nat.pow_succ, e, Nat.mul_comm X, Nat.mul_assoc, Nat.mul_assoc, Nat.mul_div_cancel_left _ (bb_pos _), Nat.pow_succ, Nat.mul_assoc]
  have hd : dig (X * 2 ^ (j + 1)) (j / 32) = 2 ^ (j % 32 + 1) * (X % 2 ^ (31 - j % 32)) := by
    unfold dig
    rw [hq]
    have e2 : (4294967296 : Nat) = 2 ^ (j % 32 + 1) * 2 ^ (31 - j % 32) := by rw [← Nat.pow_add, show j % 32 + 1 + (31 - j % 32) = 32 by omega]
    rw [e2, Nat.mul_mod_mul_left]
  have hdl := dig_lt (X * 2 ^ (j + 1)) (j / 32)
  have hor : dig (X * 2 ^ (j + 1)) (j / 32) ||| 2 ^ (j % 32) = dig (X * 2 ^ (j + 1)) (j / 32) + 2 ^ (j % 32) := by
    rw [hd, ← Nat.two_pow_add_eq_or_of_lt (Nat.pow_lt_pow_right (by omega) (by omega))]
  have hle := dig_le (X * 2 ^ (j + 1)) (j / 32)
  refine ⟨_, _, rfl, by omega, hdl, hor, ?_, rfl, ?_⟩
  · rw [← hor]
    exact Nat.or_lt_two_pow (n := 32) (by omega) (by omega)
  · have e9 : (X * 2 + 1) * 2 ^ j = X * 2 ^ (j + 1) + 2 ^ j := by rw [Nat.add_mul, Nat.one_mul, Nat.pow_succ, Nat.mul_assoc, Nat.mul_comm 2 (2 ^ j)]
    have e8 : 2 ^ (j % 32) * 4294967296 ^ (j / 32) = 2 ^ j := by rw [Nat.mul_comm, ← e]
    rw [e9, Nat.add_mul, e8]
    omega

set_option maxHeartbeats 4000000 in
theorem div_walk (va vb : Value) (A M : Nat) (w : World) (ha : Num w va A) (hb : Num w vb M) (hM : 0 < M) (h1 : digs A ≤ 10000) (h2 : digs M ≤ 10000) (h3 : blen A ≤ 320000) :
    Calls Try.prog 53 #[va, vb] w fun e w' => ∃ v1 v2, e = .returned (.tuple #[v1, v2]) ∧ Num w' v1 (A / M) ∧ Num w' v2 (A % M) ∧ Grown w w' := by
  have kmk := mk (digs A) (by omega)
  have hnew := blk_new w (digs A)
  have hAl := Lib.hid (lt_digs A)
  have L := Lib.hid (fun W (hW : Grown w W) => len_any va A W (ha.grown hW) (by omega))
  have BT : ∀ W, Grown w W → ∀ j : Nat, j < 320000 → Calls Try.prog 65 #[va, .int .i64 (j : Int)] W fun e w' => e = .returned (.int .u64 (bitN A j : Nat)) ∧ W = w' := fun W hW j hj => by
    have h := bit_any va A (j : Int) W (ha.grown hW) (by omega) (by omega) (by omega)
    rwa [if_neg (by omega), Int.toNat_natCast] at h
  have Bt := Lib.hid BT
  have HB := Lib.hid hb
  have hbl := Lib.hid (lt_blen A)
  obtain ⟨Aa, ca, rfl, hca, _⟩ := id ha
  obtain ⟨Ab, cb, rfl, hcb, _⟩ := id hb
  have hMd : ∀ R, R < M → digs R ≤ 10000 := fun R hR => Nat.le_trans (digs_le (Nat.lt_trans hR (lt_digs M))) h2
  have hMd' := Lib.hid hMd
  have hnq : ∀ j, j < blen A → j / 32 < digs A := fun j hj => by
    have hA0 : A ≠ 0 := by intro e; subst e; rw [blen_zero] at hj; omega
    unfold digs; rw [if_neg hA0]
    unfold blen at hj; rw [if_neg hA0] at hj
    omega
  have Hnq := Lib.hid hnq
  clear BT ha hb hMd hnq
  generalize hn : digs A = n at *
  generalize hm : digs M = m at *
  generalize hbA : blen A = b at *
  clear hn hm hbA
  go_enter Try.func53, Try.ntmps53
  go_wp2_with fail
  refine (L.out _ ((Grown.refl w).alloc _ _)).mono ?_; rintro e1 w1 ⟨rfl, rfl⟩
  go_wp2_with fail
  go_loopw [7, 8] (fun rv kv wr => ∃ k : Nat, k ≤ b ∧ kv = .int .i64 ((k : Int) - 1) ∧ NumF (w.heap.size + 1) wr rv (A / 2 ^ k % M) ∧ Blk wr w.heap.size n (A / 2 ^ k / M * 2 ^ k) ∧ Grown w wr)
    (fun _ kv _ => (intOf kv + 1).toNat)
  case atStart =>
    have e0 : A / 2 ^ b = 0 := Nat.div_eq_of_lt hbl.out
    refine ⟨b, Nat.le_refl _, rfl, ?_, ?_, (Grown.refl w).alloc _ _⟩
    · rw [e0, Nat.zero_mod]; exact NumF.none_ _ _
    · rw [e0, Nat.zero_div, Nat.zero_mul]; exact hnew
  case round =>
    obtain ⟨k, hk, rfl, hrn, hblk, hg⟩ := hrel
    by_cases hk0 : k = 0
    · subst hk0
      rw [Nat.pow_zero, Nat.div_one] at hrn hblk
      rw [Nat.mul_one] at hblk
      have hlt := Lib.hid (Nat.lt_of_le_of_lt (Nat.div_le_self A M) hAl.out)
      have hr2 := Lib.hid hrn
      have hb2 := Lib.hid hblk
      clear hrn hblk
      go_wp2_with (go_at_call 64; refine (trim_any w.heap.size n n (A / M) _ hb2.out hlt.out (by omega) (by omega)).mono ?_; rintro e w1 ⟨rfl, rfl⟩)
      go_ret2
      exact ⟨_, _, rfl, Num.of_blk hb2.out hlt.out (by omega), hr2.out.num, hg⟩
    · obtain ⟨j, rfl⟩ : ∃ j, k = j + 1 := ⟨k - 1, by omega⟩
      have ej : ((j + 1 : Nat) : Int) - 1 = (j : Int) := by omega
      rw [ej]
      obtain ⟨dI, dlt, dno, dyes⟩ := div_in A M j hM
      have hRM := Nat.mod_lt (A / 2 ^ (j + 1)) hM
      have jn := Hnq.out j (by omega)
      have hbit := Lib.hid (Bt.out wr hg j (by omega))
      have hdR := hMd'.out _ hRM
      have hgs := hblk.lt
      have bl2 : bitN A j < 2 := Nat.mod_lt _ (by omega)
      have HD := Lib.hid dno
      have HY := Lib.hid dyes
      have HR := Lib.hid hrn
      have HB2 := Lib.hid hblk
      have i0 : 0 ≤ (j : Int) := by omega
      clear dI dno dyes hrn hblk ej
      generalize A / 2 ^ (j + 1) % M = R at *
      generalize A / 2 ^ (j + 1) / M = X at *
      go_wp2_with fail
      refine (shl_any _ R 1 wr HR.out.num (by omega) (by omega) (by omega)).mono ?_; rintro e1 w1 ⟨v1, rfl, hn1, hg1⟩
      rw [show (2 : Nat) ^ (1 : Int).toNat = 2 from rfl] at hn1
      go_wp2_with fail
      refine (Bt.out w1 (Grown.trans hg hg1) j (by omega)).mono ?_; rintro e2 w2 ⟨rfl, rfl⟩
      generalize bitN A j = bt at *
      go_wp2_with fail
      refine (of_any (bt : Int) w1 (by omega) (by omega)).mono ?_; rintro e3 w3 ⟨v3, rfl, hn3, hg3⟩
      rw [Int.toNat_natCast] at hn3
      have dR2 : digs (R * 2) ≤ 20000 := by
        have h := lt_digs R
        refine Nat.le_trans (digs_le (m := digs R + 1) ?_) (by omega)
        rw [bb_succ]; omega
      have dbt : digs bt ≤ 2 := digs_small (by omega)
      go_wp2_with fail
      refine (plus_new v1 v3 (R * 2) bt w3 (Num.grown hn1 hg3) hn3 (by omega) (by omega)).mono ?_; rintro e4 w4 ⟨v4, rfl, hn4, hg4⟩
      have g34 := Grown.trans hg1 (Grown.trans hg3 hg4)
      have g04 := Grown.trans hg g34
      have n4 := hn4.more (show w.heap.size + 1 ≤ w3.heap.size by have := hg1.2.2; have := hg3.2.2; omega)
      have dR3 : digs (R * 2 + bt) ≤ 20000 := by
        have h := lt_digs R
        refine Nat.le_trans (digs_le (m := digs R + 1) ?_) (by omega)
        rw [bb_succ]; omega
      go_wp2_with fail
      refine (cmp_any v4 _ (R * 2 + bt) M w4 hn4.num (Num.grown HB.out g04) (by omega)).mono ?_; rintro e5 w5 ⟨rfl, hg5⟩
      have g05 := Grown.trans g04 hg5
      have n5 := n4.grown hg5
      have HB5 := Lib.hid (Blk.grown HB2.out (Grown.trans g34 hg5))
      clear hn1 hn3 hn4 hg1 hg3 hg4 hg5 g34 g04 n4 HB2 HR hg hbit
      by_cases hle : M ≤ R * 2 + bt
      · have hcv : 0 ≤ cmpN (R * 2 + bt) M := by unfold cmpN; (repeat' split) <;> omega
        have hcv1 : cmpN (R * 2 + bt) M ≤ 1 := by unfold cmpN; (repeat' split) <;> omega
        generalize cmpN (R * 2 + bt) M = cv at *
        obtain ⟨y1, y2⟩ := HY.out hle
        have HY1 := Lib.hid y1
        have HY2 := Lib.hid y2
        clear y1 y2
        go_wp2_with fail
        refine (minus_new v4 _ (R * 2 + bt) M w5 n5.num (Num.grown HB.out g05) (by omega) hle).mono ?_; rintro e6 w6 ⟨v6, rfl, hn6, hg6⟩
        have n6 := hn6.more (show w.heap.size + 1 ≤ w5.heap.size by have := HB5.out.lt; omega)
        have g06 := Grown.trans g05 hg6
        have hb6 := HB5.out.grown hg6
        obtain ⟨Q', d, S⟩ := div_set X j
        generalize X * 2 ^ (j + 1) = Q at *
        obtain ⟨hd1, hs32, dl, hor, hl, t, hfin⟩ := S
        have hc1 := hb6.cell (j / 32) jn
        rw [hd1] at hc1
        have hf1 := hb6.free (j / 32)
        have b1 := hb6.set (j / 32) _ hl t
        rw [hfin] at b1
        have g1 := g06.setCell (a := ⟨w.heap.size, j / 32, none⟩) (Nat.le_refl _) (.int .u64 ((d + 2 ^ (j % 32) : Nat) : Int))
        have n7 := n6.far (a := ⟨w.heap.size, j / 32, none⟩) (Nat.lt_succ_self _) (.int .u64 ((d + 2 ^ (j % 32) : Nat) : Int))
        have hpx : (2 : Int) ^ (j % 32) = ((2 ^ (j % 32) : Nat) : Int) := by push_cast; rfl
        have hW2 : IntKind.u64.wrap ((2 : Int) ^ (j % 32)) = (2 : Int) ^ (j % 32) := by
          rw [hpx, IntKind.wrap_u64]
          clear hpx
          generalize 2 ^ (j % 32) = pw at hs32 ⊢
          omega
        have ho1 : bits .or .u64 (d : Int) ((2 : Int) ^ (j % 32)) = ((d + 2 ^ (j % 32) : Nat) : Int) := by rw [hpx, u64_or_nat _ _ (by omega) (by omega), hor]
        have B2 := Lib.hid b1
        have G2 := Lib.hid g1
        have N2 := Lib.hid n7
        clear hd1 hor t hfin b1 hb6 g1 n7 hpx hl n6 hn6 g05 g06 n5 HB5 hg6
        generalize hsz : d + 2 ^ (j % 32) = sm at *
        clear hsz
        go_wp2_with fail
        go_roundw
        case rel =>
          refine ⟨j, by omega, rfl, ?_, ?_, G2.out⟩
          · rw [HY1.out]; exact N2.out
          · rw [HY2.out]; exact B2.out
        case measure => simp [intOf]
      · have hcv : cmpN (R * 2 + bt) M < 0 := by unfold cmpN; (repeat' split) <;> omega
        have hcv1 : -1 ≤ cmpN (R * 2 + bt) M := by unfold cmpN; (repeat' split) <;> omega
        generalize cmpN (R * 2 + bt) M = cv at *
        obtain ⟨y1, y2⟩ := HD.out (by omega)
        have HY1 := Lib.hid y1
        have HY2 := Lib.hid y2
        have N2 := Lib.hid n5
        have G2 := Lib.hid g05
        clear y1 y2 n5 g05
        go_wp2_with fail
        go_roundw
        case rel =>
          refine ⟨j, by omega, rfl, ?_, ?_, G2.out⟩
          · rw [HY1.out]; exact N2.out
          · have e9 : X * 2 * 2 ^ j = X * 2 ^ (j + 1) := by rw [Nat.pow_succ, Nat.mul_assoc, Nat.mul_comm 2 (2 ^ j)]
            rw [HY2.out, e9]; exact HB5.out
        case measure => simp [intOf]
end Go.Proofs.Ytmdcdicmlnlenaa
