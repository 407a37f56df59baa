/- Contracts of the document's whole numbers of any length: Minus. -/
import Derived.Test.YtmdcdicmlnlenaaAC
import Derived.Test.YtmdcdicmlnlenaaE
namespace Go.Proofs.Ytmdcdicmlnlenaa
open Go.ChangeShapes Go.WideShapes Go.ChangeAt Go.RowKit

structure MinusRel (A M k S c : Nat) : Prop where
  lt : S < 4294967296 ^ k
  e : A % 4294967296 ^ k + c * 4294967296 ^ k = S + M % 4294967296 ^ k
  c1 : c ≤ 1
theorem MinusRel.next {A M k S c t z q : Nat} (r : MinusRel A M k S c) (ht : t = dig A k + 4294967296 - dig M k - c) (hz : z = t % 4294967296) (hq : q = t / 4294967296) :
    MinusRel A M (k + 1) (S + z * 4294967296 ^ k) (1 - q) := by
  have hp := bb_pos k
  have h1 := r.lt
  have h2 := r.e
  have h3 := r.c1
  have hx := dig_lt A k
  have hy := dig_lt M k
  have hzl : z < 4294967296 := by omega
  have hql : q ≤ 1 := by omega
  have hkey : dig A k + (1 - q) * 4294967296 = z + dig M k + c := by
    rcases (by omega : q = 0 ∨ q = 1) with h | h
    · rw [h]; omega
    · rw [h]; omega
  refine ⟨?_, ?_, by omega⟩
  · rw [bb_succ]
    have : (z + 1) * 4294967296 ^ k ≤ 4294967296 * 4294967296 ^ k := Nat.mul_le_mul_right _ hzl
    rw [Nat.add_mul] at this
    omega
  · rw [mod_succ, mod_succ, bb_succ]
    have e2 : (dig A k + (1 - q) * 4294967296) * 4294967296 ^ k = (z + dig M k + c) * 4294967296 ^ k := by rw [hkey]
    rw [Nat.add_mul, Nat.add_mul, Nat.add_mul] at e2
    have e3 : (1 - q) * (4294967296 ^ k * 4294967296) = (1 - q) * 4294967296 * 4294967296 ^ k := by rw [Nat.mul_comm (4294967296 ^ k), ← Nat.mul_assoc]
    rw [e3]
    omega
theorem MinusRel.fin {A M n S c : Nat} (r : MinusRel A M n S c) (hA : A < 4294967296 ^ n) (hM : M ≤ A) : S = A - M := by
  have h2 := r.e
  have h1 := r.lt
  rw [Nat.mod_eq_of_lt hA, Nat.mod_eq_of_lt (by omega)] at h2
  rcases Nat.eq_zero_or_pos c with h | h
  · subst h; omega
  · have : 1 * 4294967296 ^ n ≤ c * 4294967296 ^ n := Nat.mul_le_mul_right _ h
    omega

set_option maxHeartbeats 2000000 in
theorem minus_any (va vb : Value) (A M : Nat) (w : World) (ha : Num w va A) (hb : Num w vb M) (hn : digs A ≤ 900000) (hle : M ≤ A) :
    Calls Try.prog 51 #[va, vb] w (RetNum (A - M) w) := by
  have hb2 : ∀ W, Grown w W → ∀ k : Nat, k ≤ 900000 → Calls Try.prog 66 #[vb, .int .i64 (k : Int)] W fun e w' => e = .returned (.int .u64 (dig M k : Nat)) ∧ w' = W := fun W hg k hk => (at_any vb M k W (hb.grown hg) (by omega) (by omega)).mono fun _ _ h => ⟨h.1, h.2.symm⟩
  have Cb := Lib.hid hb2
  have kmk := mk (digs A) (by omega)
  have hnew := blk_new w (digs A)
  have hA' := Lib.hid (lt_digs A)
  obtain ⟨Aa, ca, rfl, _, hAc⟩ := ha
  obtain ⟨Ab, cb, rfl, _, _⟩ := hb
  have hcells : ∀ W, Grown w W → ∀ k : Nat, k < digs A → ∃ g, Aa = some ⟨g, 0, none⟩ ∧ W.cell? ⟨g, k, none⟩ = some (.int .u64 (dig A k : Nat)) := fun W hg k hk => by
    rcases hAc with h | ⟨g, m, e, h1, h2⟩
    · omega
    · exact ⟨g, e, (Blk.grown h2 hg).cell k (by omega)⟩
  have Hc := Lib.hid hcells
  clear hb2 hcells hAc
  generalize digs A = n at *
  generalize digs M = n2 at *
  go_enter Try.func51, Try.ntmps51
  go_wp2
  go_loopw [6, 7] (fun cv i wr => ∃ k S c : Nat, k ≤ n ∧ MinusRel A M k S c ∧ cv = .int .u64 (c : Nat) ∧ i = .int .i64 k ∧ Blk wr w.heap.size n S ∧ Grown w wr)
    (fun _ i _ => n - (intOf i).toNat)
  case atStart => exact ⟨0, 0, 0, by omega, ⟨by simp, by simp [Nat.mod_one], by omega⟩, rfl, rfl, hnew, (Grown.refl w).alloc _ _⟩
  case round =>
    obtain ⟨k, S, c, hk, hr, rfl, rfl, hblk, hg⟩ := hrel
    by_cases hkn : k < n
    · obtain ⟨g, rfl, hcell⟩ := Hc.out wr hg k hkn
      have hc := hr.c1
      have hnx := hr.next (t := dig A k + 4294967296 - dig M k - c) rfl rfl rfl
      have hS0 : dig S k = 0 := dig_big _ _ hr.lt
      have dA := dig_lt A k
      have dM := dig_lt M k
      have C2 := Lib.hid (fun W (hW : Grown w W) => Cb.out W hW k (by omega))
      have s1 : IntKind.u64.wrap ((dig A k : Nat) + 4294967296 : Int) = ((dig A k + 4294967296 : Nat) : Int) := by rw [IntKind.wrap_u64]; omega
      have s2 : IntKind.u64.wrap (((dig A k + 4294967296 : Nat) : Int) - (dig M k : Nat)) = ((dig A k + 4294967296 - dig M k : Nat) : Int) := by rw [IntKind.wrap_u64]; omega
      have s3 : IntKind.u64.wrap (((dig A k + 4294967296 - dig M k : Nat) : Int) - (c : Nat)) = ((dig A k + 4294967296 - dig M k - c : Nat) : Int) := by rw [IntKind.wrap_u64]; omega
      have tl : dig A k + 4294967296 - dig M k - c < 8589934592 := by omega
      generalize dig A k + 4294967296 - dig M k - c = t at *
      generalize dig A k + 4294967296 - dig M k = t2 at *
      generalize dig A k + 4294967296 = t1 at *
      generalize dig A k = x at *
      generalize dig M k = y at *
      have hm := maskI (t : Int) (by omega) (by omega)
      have hzz : (t : Int) % 4294967296 = ((t % 4294967296 : Nat) : Int) := by omega
      have hqq : (t : Int) / 4294967296 = ((t / 4294967296 : Nat) : Int) := by omega
      rw [hzz] at hm
      have hz1 : t % 4294967296 < 4294967296 := Nat.mod_lt _ (by omega)
      have hset := hblk.set k _ hz1 rfl
      rw [hS0, Nat.zero_mul, Nat.sub_zero] at hset
      have hg2 := hg.setCell (a := ⟨w.heap.size, k, none⟩) (Nat.le_refl _) (.int .u64 ((t % 4294967296 : Nat) : Int))
      have hcell2 := hblk.cell k hkn
      have hfree := hblk.free k
      have hqb : t / 4294967296 ≤ 1 := by omega
      have h1q : (1 : Int) - ((t / 4294967296 : Nat) : Int) = ((1 - t / 4294967296 : Nat) : Int) := by omega
      have hkn' : (k : Int) < n := by omega
      have hk0 : 0 ≤ (k : Int) := by omega
      have HS := Lib.hid hset
      have HN := Lib.hid hnx
      clear hzz hS0 hr hset hnx hblk
      generalize t % 4294967296 = z at *
      generalize hq : 1 - t / 4294967296 = c2 at *
      generalize t / 4294967296 = q at *
      clear hq
      go_wp2
      go_quiet ((go_at_call 66; exact Calls.quiet_of_same (C2.out _ hg)))
      go_wp2
      go_roundw
      case rel => exact ⟨k + 1, _, c2, by omega, HN.out, rfl, by go_num, HS.out, hg2⟩
      case measure => simp [intOf]; omega
    · obtain rfl : k = n := by omega
      have hS := hr.fin hA'.out hle
      have hS' := Lib.hid hS
      have hlt2 := Lib.hid hr.lt
      clear hS hr
      go_wp2_with (go_at_call 64; refine (trim_any w.heap.size k k S _ hblk hlt2.out (by omega) (by omega)).mono ?_; rintro e w1 ⟨rfl, rfl⟩)
      go_ret
      exact ⟨_, rfl, by rw [← hS'.out]; exact Num.of_blk hblk hlt2.out (by omega), hg⟩
end Go.Proofs.Ytmdcdicmlnlenaa
