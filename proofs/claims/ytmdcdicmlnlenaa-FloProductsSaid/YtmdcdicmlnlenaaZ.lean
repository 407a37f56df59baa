/- Contracts of the document's whole numbers of any length: small, Plus. -/
import Derived.Test.YtmdcdicmlnlenaaY
import Derived.Laws.OwnMore
import Derived.Laws.MakeOwn
namespace Go.Proofs.Ytmdcdicmlnlenaa
open Go.ChangeShapes Go.WideShapes Go.ChangeAt Go.RowKit

theorem info22 : (Try.prog.info? 22).map (fun i => (i.zero, i.size, i.bytes)) = some (some (.int .u64 0), 1, 8) := by kernel_rfl
theorem made_zero (m : Nat) : madeCells (Value.int .u64 0).cells (m * 1) = dcells m 0 := by
  rw [zero_dcells, Nat.mul_one]
  unfold madeCells
  congr 1
  funext x
  show (#[Value.int .u64 0])[x % 1]! = _
  rw [Nat.mod_one]
  rfl
theorem mk (m : Nat) (hm : m ≤ 1000000) (W : World) : (Instr.makeSlice 40 (.int .i64 (m : Int)) (.int .i64 (m : Int))).run Try.prog W = .ok (.slice (some ⟨W.heap.size, 0, none⟩) m m) (W.alloc (.cells (dcells m 0) 22)) := by
  obtain ⟨i, hi, hz, hs, hb⟩ := info_parts info22
  have h := run_make (P := Try.prog) W 40 22 i _ Try.underlying40 hi hz .i64 .i64 (m : Int) (m : Int) (by omega) (by omega) (by rw [hb]; omega) (by omega)
  rw [hs, Int.toNat_natCast, made_zero] at h
  exact h
theorem blk_new (w : World) (m : Nat) : Blk (w.alloc (.cells (dcells m 0) 22)) w.heap.size m 0 := heap_alloc_new w _

theorem two_digits (N : Nat) : bits .or .u64 (dig N 0 : Nat) ((dig N 1 : Nat) * 4294967296) = ((N % 18446744073709551616 : Nat) : Int) := by
  have h0 : dig N 0 = N % 4294967296 := by unfold dig; simp
  have h1 : dig N 1 = N / 4294967296 % 4294967296 := by unfold dig; rw [Nat.pow_one]
  have e : ((dig N 1 : Nat) : Int) * 4294967296 = ((2 ^ 32 * (N / 4294967296 % 4294967296) : Nat) : Int) := by rw [h1]; omega
  rw [e, u64_or_nat _ _ (by have := dig_lt N 0; omega) (by omega), Nat.or_comm, ← Nat.two_pow_add_eq_or_of_lt (by have := dig_lt N 0; omega), h0]
  omega
theorem small_all (v : Value) (N : Nat) (w : World) (h : Num w v N) :
    Calls Try.prog 61 #[v] w fun e w' => e = .returned (.int .u64 (N % 18446744073709551616 : Nat)) ∧ w = w' := by
  have C0 := Lib.hid (at_any v N 0 w h (by omega) (by omega))
  have C1 := Lib.hid (at_any v N 1 w h (by omega) (by omega))
  have E := two_digits N
  have d0 := dig_lt N 0
  have d1 := dig_lt N 1
  rw [show (0 : Int).toNat = 0 from rfl] at C0
  rw [show (1 : Int).toNat = 1 from rfl] at C1
  generalize dig N 0 = x at *
  generalize dig N 1 = y at *
  generalize N % 18446744073709551616 = z at *
  clear h
  go_enter Try.func61, Try.ntmps61
  go_wp2_with (first
    | (go_at_call 66; ((with_reducible refine (C0.out).mono ?_); rintro e w1 ⟨rfl, rfl⟩))
    | (go_at_call 66; ((with_reducible refine (C1.out).mono ?_); rintro e w1 ⟨rfl, rfl⟩)))
  go_ret
  exact ⟨rfl, rfl⟩
theorem small_any (v : Value) (N : Nat) (w : World) (h : Num w v N) (hN : N < 18446744073709551616) :
    Calls Try.prog 61 #[v] w fun e w' => e = .returned (.int .u64 (N : Nat)) ∧ w = w' := by
  have h := small_all v N w h
  rwa [Nat.mod_eq_of_lt hN] at h

structure PlusRel (A M k S c : Nat) : Prop where
  lt : S < 4294967296 ^ k
  e : A % 4294967296 ^ k + M % 4294967296 ^ k = S + c * 4294967296 ^ k
theorem PlusRel.le {A M k S c : Nat} (r : PlusRel A M k S c) : c ≤ 1 := by
  have h1 := Nat.mod_lt A (bb_pos k)
  have h2 := Nat.mod_lt M (bb_pos k)
  have h3 := r.e
  rcases Nat.lt_or_ge 1 c with h | h
  · have : 2 * 4294967296 ^ k ≤ c * 4294967296 ^ k := Nat.mul_le_mul_right _ h
    omega
  · exact h
theorem PlusRel.next {A M k S c : Nat} (r : PlusRel A M k S c) : PlusRel A M (k + 1) (S + (dig A k + dig M k + c) % 4294967296 * 4294967296 ^ k) ((dig A k + dig M k + c) / 4294967296) := by
  have hp := bb_pos k
  have h1 := r.lt
  have h2 := r.e
  have e := Nat.div_add_mod (dig A k + dig M k + c) 4294967296
  have hm : (dig A k + dig M k + c) % 4294967296 < 4294967296 := Nat.mod_lt _ (by omega)
  refine ⟨?_, ?_⟩
  · rw [bb_succ]
    generalize (dig A k + dig M k + c) % 4294967296 = z at *
    have : (z + 1) * 4294967296 ^ k ≤ 4294967296 * 4294967296 ^ k := Nat.mul_le_mul_right _ hm
    rw [Nat.add_mul] at this
    omega
  · rw [mod_succ, mod_succ, bb_succ]
    generalize (dig A k + dig M k + c) % 4294967296 = z at *
    generalize (dig A k + dig M k + c) / 4294967296 = q at *
    have e2 : (dig A k + dig M k + c) * 4294967296 ^ k = (4294967296 * q + z) * 4294967296 ^ k := by rw [e]
    rw [Nat.add_mul, Nat.add_mul, Nat.add_mul] at e2
    have e3 : q * (4294967296 ^ k * 4294967296) = 4294967296 * q * 4294967296 ^ k := by rw [Nat.mul_comm (4294967296 ^ k), ← Nat.mul_assoc, Nat.mul_comm q]
    omega
theorem PlusRel.fin {A M n S c : Nat} (r : PlusRel A M (n + 1) S c) (hA : A < 4294967296 ^ n) (hM : M < 4294967296 ^ n) : S = A + M := by
  have h2 := r.e
  have h1 := r.lt
  have hs := bb_succ n
  rw [Nat.mod_eq_of_lt (by omega), Nat.mod_eq_of_lt (by omega)] at h2
  rcases Nat.eq_zero_or_pos c with h | h
  · subst h; omega
  · have : 1 * 4294967296 ^ (n + 1) ≤ c * 4294967296 ^ (n + 1) := Nat.mul_le_mul_right _ h
    omega

set_option maxHeartbeats 1000000 in
theorem plus_walk (va vb : Value) (A M n : Nat) (w : World) (ha : Num w va A) (hb : Num w vb M) (hn : n ≤ 900000) (hA : A < 4294967296 ^ n) (hM : M < 4294967296 ^ n)
    (hmax : n = if digs A < digs M then digs M else digs A) :
    Calls Try.prog 49 #[va, vb] w (RetNum (A + M) w) := by
  have ha2 : ∀ W, Grown w W → ∀ k : Nat, k ≤ n → Calls Try.prog 66 #[va, .int .i64 (k : Int)] W fun e w' => e = .returned (.int .u64 (dig A k : Nat)) ∧ W = w' := fun W hg k hk => at_any va A k W (ha.grown hg) (by omega) (by omega)
  have hb2 : ∀ W, Grown w W → ∀ k : Nat, k ≤ n → Calls Try.prog 66 #[vb, .int .i64 (k : Int)] W fun e w' => e = .returned (.int .u64 (dig M k : Nat)) ∧ W = w' := fun W hg k hk => at_any vb M k W (hb.grown hg) (by omega) (by omega)
  have Ca := Lib.hid ha2
  have Cb := Lib.hid hb2
  have kmk := mk (n + 1) (by omega)
  have hnew := blk_new w (n + 1)
  have hA' := Lib.hid hA
  have hM' := Lib.hid hM
  obtain ⟨Aa, ca, rfl, _, _⟩ := ha
  obtain ⟨Ab, cb, rfl, _, _⟩ := hb
  clear ha2 hb2 hA hM
  generalize digs A = n1 at *
  generalize digs M = n2 at *
  have hcast : ((n + 1 : Nat) : Int) = (n : Int) + 1 := by omega
  rw [hcast] at kmk
  clear hcast
  by_cases hlt : n1 < n2
  all_goals
    first
    | rw [if_pos hlt] at hmax
    | rw [if_neg hlt] at hmax
  all_goals subst hmax
  all_goals
    go_enter Try.func49, Try.ntmps49
    go_wp2
    go_loopw [7, 8] (fun cv i wr => ∃ k S c : Nat, k ≤ n + 1 ∧ PlusRel A M k S c ∧ cv = .int .u64 (c : Nat) ∧ i = .int .i64 k ∧ Blk wr w.heap.size (n + 1) S ∧ Grown w wr)
      (fun _ i _ => n + 1 - (intOf i).toNat)
    case atStart => exact ⟨0, 0, 0, by omega, ⟨by simp, by simp [Nat.mod_one]⟩, rfl, rfl, hnew, (Grown.refl w).alloc _ _⟩
    case round =>
      obtain ⟨k, S, c, hk, hr, rfl, rfl, hblk, hg⟩ := hrel
      by_cases hkn : k ≤ n
      · have hc := hr.le
        have hnx := hr.next
        have hS0 : dig S k = 0 := dig_big _ _ hr.lt
        have hm := maskI ((dig A k : Nat) + (dig M k : Nat) + (c : Nat)) (by omega) (by have := dig_lt A k; have := dig_lt M k; omega)
        have hz : ((dig A k : Nat) + (dig M k : Nat) + (c : Nat) : Int) % 4294967296 = (((dig A k + dig M k + c) % 4294967296 : Nat) : Int) := by omega
        have hq : ((dig A k : Nat) + (dig M k : Nat) + (c : Nat) : Int) / 4294967296 = (((dig A k + dig M k + c) / 4294967296 : Nat) : Int) := by omega
        rw [hz] at hm
        have hz1 : (dig A k + dig M k + c) % 4294967296 < 4294967296 := Nat.mod_lt _ (by omega)
        have hset := hblk.set k _ hz1 rfl
        rw [hS0, Nat.zero_mul, Nat.sub_zero] at hset
        have hg2 := hg.setCell (a := ⟨w.heap.size, k, none⟩) (Nat.le_refl _) (.int .u64 (((dig A k + dig M k + c) % 4294967296 : Nat) : Int))
        have hcell := hblk.cell k (by omega)
        have hfree := hblk.free k
        have dA := dig_lt A k
        have dM := dig_lt M k
        have C1 := Lib.hid (Ca.out wr hg k hkn)
        have C2 := Lib.hid (Cb.out wr hg k hkn)
        have hkn' : (k : Int) ≤ n := by omega
        clear hz hS0 hr
        generalize (dig A k + dig M k + c) % 4294967296 = z at *
        generalize (dig A k + dig M k + c) / 4294967296 = q at *
        generalize dig A k = x at *
        generalize dig M k = y at *
        go_wp2_with (first
          | (go_at_call 66; ((with_reducible refine (C1.out).mono ?_); rintro e w1 ⟨rfl, rfl⟩))
          | (go_at_call 66; ((with_reducible refine (C2.out).mono ?_); rintro e w1 ⟨rfl, rfl⟩)))
        go_roundw
        case rel => exact ⟨k + 1, _, q, by omega, hnx, rfl, by go_num, hset, hg2⟩
        case measure => simp [intOf]; omega
      · obtain rfl : k = n + 1 := by omega
        have hS := hr.fin hA'.out hM'.out
        have hS' := Lib.hid hS
        have hlt2 := Lib.hid hr.lt
        clear hS hr
        go_wp2_with (go_at_call 64; refine (trim_any w.heap.size (n + 1) (n + 1) S _ hblk hlt2.out (by omega) (by omega)).mono ?_; rintro e w1 ⟨rfl, rfl⟩)
        go_ret
        exact ⟨_, rfl, by rw [← hS'.out]; exact Num.of_blk hblk hlt2.out (by omega), hg⟩
theorem plus_any (va vb : Value) (A M : Nat) (w : World) (ha : Num w va A) (hb : Num w vb M) (h1 : digs A ≤ 900000) (h2 : digs M ≤ 900000) :
    Calls Try.prog 49 #[va, vb] w (RetNum (A + M) w) := by
  have l1 := lt_digs A
  have l2 := lt_digs M
  refine plus_walk va vb A M (if digs A < digs M then digs M else digs A) w ha hb (by split <;> omega) ?_ ?_ rfl
  · split
    · have : 4294967296 ^ digs A ≤ 4294967296 ^ digs M := Nat.pow_le_pow_right (by omega) (by omega)
      omega
    · exact l1
  · split
    · exact l2
    · have : 4294967296 ^ digs M ≤ 4294967296 ^ digs A := Nat.pow_le_pow_right (by omega) (by omega)
      omega
end Go.Proofs.Ytmdcdicmlnlenaa
