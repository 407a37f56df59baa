/- Plus and Minus, whose results lie in new memory; Div. -/
import Derived.Test.YtmdcdicmlnlenaaAM
import Derived.Test.YtmdcdicmlnlenaaAJ
namespace Go.Proofs.Ytmdcdicmlnlenaa
open Go.ChangeShapes Go.WideShapes Go.ChangeAt Go.RowKit

/-- A number whose digits lie in a block from B on. -/
def NumF (B : Nat) (w : World) (v : Value) (N : Nat) : Prop :=
  ∃ A c, v = .slice A (digs N) c ∧ digs N ≤ c ∧ (digs N = 0 ∨ ∃ g m, A = some ⟨g, 0, none⟩ ∧ B ≤ g ∧ digs N ≤ m ∧ Blk w g m N)
def RetNumF (N : Nat) (w : World) (e : Ending) (w' : World) : Prop := ∃ v, e = .returned v ∧ NumF w.heap.size w' v N ∧ Grown w w'
theorem NumF.of_blk {B : Nat} {w : World} {g m c N : Nat} (hB : Blk w g m N) (hN : N < 4294967296 ^ m) (hc : m ≤ c) (hg : B ≤ g) : NumF B w (.slice (some ⟨g, 0, none⟩) (digs N) c) N := by
  have := digs_le hN
  exact ⟨_, _, rfl, by omega, .inr ⟨g, m, rfl, hg, this, hB⟩⟩
theorem NumF.num {B : Nat} {w : World} {v : Value} {N : Nat} (h : NumF B w v N) : Num w v N := by
  obtain ⟨A, c, e, h1, h2⟩ := h
  refine ⟨A, c, e, h1, ?_⟩
  rcases h2 with h2 | ⟨g, m, e2, _, h3, h4⟩
  · exact .inl h2
  · exact .inr ⟨g, m, e2, h3, h4⟩
theorem NumF.more {B B' : Nat} {w : World} {v : Value} {N : Nat} (h : NumF B w v N) (hb : B' ≤ B) : NumF B' w v N := by
  obtain ⟨A, c, e, h1, h2⟩ := h
  refine ⟨A, c, e, h1, ?_⟩
  rcases h2 with h2 | ⟨g, m, e2, h0, h3, h4⟩
  · exact .inl h2
  · exact .inr ⟨g, m, e2, by omega, h3, h4⟩
theorem NumF.grown {B : Nat} {w w' : World} {v : Value} {N : Nat} (h : NumF B w v N) (hg : Grown w w') : NumF B w' v N := by
  obtain ⟨A, c, e, h1, h2⟩ := h
  refine ⟨A, c, e, h1, ?_⟩
  rcases h2 with h2 | ⟨g, m, e2, h0, h3, h4⟩
  · exact .inl h2
  · exact .inr ⟨g, m, e2, h0, h3, h4.grown hg⟩
theorem NumF.far {B : Nat} {w : World} {v : Value} {N : Nat} (h : NumF B w v N) {a : Addr} (ha : a.block < B) (x : Value) : NumF B (w.setCell a x) v N := by
  obtain ⟨A, c, e, h1, h2⟩ := h
  refine ⟨A, c, e, h1, ?_⟩
  rcases h2 with h2 | ⟨g, m, e2, h0, h3, h4⟩
  · exact .inl h2
  · exact .inr ⟨g, m, e2, h0, h3, h4.far x (by omega)⟩
theorem NumF.none_ (B : Nat) (w : World) : NumF B w (.slice none 0 0) 0 := ⟨none, 0, rfl, Nat.le_refl _, .inl rfl⟩

set_option maxHeartbeats 1000000 in
theorem plus_walkF (va vb : Value) (A M n : Nat) (w : World) (ha : Num w va A) (hb : Num w vb M) (hn : n ≤ 900000) (hA : A < 4294967296 ^ n) (hM : M < 4294967296 ^ n)
    (hmax : n = if digs A < digs M then digs M else digs A) :
    Calls Try.prog 49 #[va, vb] w (RetNumF (A + M) w) := by
  have ha2 : ∀ W, Grown w W → ∀ k : Nat, k ≤ n → Calls Try.prog 66 #[va, .int .i64 (k : Int)] W fun e w' => e = .returned (.int .u64 (dig A k : Nat)) ∧ W = w' := fun W hg k hk => at_any va A k W (ha.grown hg) (by omega) (by omega)
  have hb2 : ∀ W, Grown w W → ∀ k : Nat, k ≤ n → Calls Try.prog 66 #[vb, .int .i64 (k : Int)] W fun e w' => e = .returned (.int .u64 (dig M k : Nat)) ∧ W = w' := fun W hg k hk => at_any vb M k W (hb.grown hg) (by omega) (by omega)
  have Ca := Lib.hid ha2
  have Cb := Lib.hid hb2
  have kmk := mk (n + 1) (by omega)
  have hnew := blk_new w (n + 1)
  have hA' := Lib.hid hA
  have hM' := Lib.hid hM
  obtain ⟨Aa, ca, rfl, _, _⟩ := ha
  obtain ⟨Ab, cb, rfl, _, _⟩ := hb
  clear ha2 hb2 hA hM
  generalize digs A = n1 at *
  generalize digs M = n2 at *
  have hcast : ((n + 1 : Nat) : Int) = (n : Int) + 1 := by omega
  rw [hcast] at kmk
  clear hcast
  by_cases hlt : n1 < n2
  all_goals
    first
    | rw [if_pos hlt] at hmax
    | rw [if_neg hlt] at hmax
  all_goals subst hmax
  all_goals
    go_enter Try.func49, Try.ntmps49
    go_wp2
    go_loopw [7, 8] (fun cv i wr => ∃ k S c : Nat, k ≤ n + 1 ∧ PlusRel A M k S c ∧ cv = .int .u64 (c : Nat) ∧ i = .int .i64 k ∧ Blk wr w.heap.size (n + 1) S ∧ Grown w wr)
      (fun _ i _ => n + 1 - (intOf i).toNat)
    case atStart => exact ⟨0, 0, 0, by omega, ⟨by simp, by simp [Nat.mod_one]⟩, rfl, rfl, hnew, (Grown.refl w).alloc _ _⟩
    case round =>
      obtain ⟨k, S, c, hk, hr, rfl, rfl, hblk, hg⟩ := hrel
      by_cases hkn : k ≤ n
      · have hc := hr.le
        have hnx := hr.next
        have hS0 : dig S k = 0 := dig_big _ _ hr.lt
        have hm := maskI ((dig A k : Nat) + (dig M k : Nat) + (c : Nat)) (by omega) (by have := dig_lt A k; have := dig_lt M k; omega)
        have hz : ((dig A k : Nat) + (dig M k : Nat) + (c : Nat) : Int) % 4294967296 = (((dig A k + dig M k + c) % 4294967296 : Nat) : Int) := by omega
        have hq : ((dig A k : Nat) + (dig M k : Nat) + (c : Nat) : Int) / 4294967296 = (((dig A k + dig M k + c) / 4294967296 : Nat) : Int) := by omega
        rw [hz] at hm
        have hz1 : (dig A k + dig M k + c) % 4294967296 < 4294967296 := Nat.mod_lt _ (by omega)
        have hset := hblk.set k _ hz1 rfl
        rw [hS0, Nat.zero_mul, Nat.sub_zero] at hset
        have hg2 := hg.setCell (a := ⟨w.heap.size, k, none⟩) (Nat.le_refl _) (.int .u64 (((dig A k + dig M k + c) % 4294967296 : Nat) : Int))
        have hcell := hblk.cell k (by omega)
        have hfree := hblk.free k
        have dA := dig_lt A k
        have dM := dig_lt M k
        have C1 := Lib.hid (Ca.out wr hg k hkn)
        have C2 := Lib.hid (Cb.out wr hg k hkn)
        have hkn' : (k : Int) ≤ n := by omega
        clear hz hS0 hr
        generalize (dig A k + dig M k + c) % 4294967296 = z at *
        generalize (dig A k + dig M k + c) / 4294967296 = q at *
        generalize dig A k = x at *
        generalize dig M k = y at *
        go_wp2_with (first
          | (go_at_call 66; ((with_reducible refine (C1.out).mono ?_); rintro e w1 ⟨rfl, rfl⟩))
          | (go_at_call 66; ((with_reducible refine (C2.out).mono ?_); rintro e w1 ⟨rfl, rfl⟩)))
        go_roundw
        case rel => exact ⟨k + 1, _, q, by omega, hnx, rfl, by go_num, hset, hg2⟩
        case measure => simp [intOf]; omega
      · obtain rfl : k = n + 1 := by omega
        have hS := hr.fin hA'.out hM'.out
        have hS' := Lib.hid hS
        have hlt2 := Lib.hid hr.lt
        clear hS hr
        go_wp2_with (go_at_call 64; refine (trim_any w.heap.size (n + 1) (n + 1) S _ hblk hlt2.out (by omega) (by omega)).mono ?_; rintro e w1 ⟨rfl, rfl⟩)
        go_ret
        exact ⟨_, rfl, by rw [← hS'.out]; exact NumF.of_blk hblk hlt2.out (by omega) (Nat.le_refl _), hg⟩
theorem plus_new (va vb : Value) (A M : Nat) (w : World) (ha : Num w va A) (hb : Num w vb M) (h1 : digs A ≤ 900000) (h2 : digs M ≤ 900000) :
    Calls Try.prog 49 #[va, vb] w (RetNumF (A + M) w) := by
  have l1 := lt_digs A
  have l2 := lt_digs M
  refine plus_walkF va vb A M (if digs A < digs M then digs M else digs A) w ha hb (by split <;> omega) ?_ ?_ rfl
  · split
    · have : 4294967296 ^ digs A ≤ 4294967296 ^ digs M := Nat.pow_le_pow_right (by omega) (by omega)
      omega
    · exact l1
  · split
    · exact l2
    · have : 4294967296 ^ digs M ≤ 4294967296 ^ digs A := Nat.pow_le_pow_right (by omega) (by omega)
      omega
set_option maxHeartbeats 2000000 in
theorem minus_new (va vb : Value) (A M : Nat) (w : World) (ha : Num w va A) (hb : Num w vb M) (hn : digs A ≤ 900000) (hle : M ≤ A) :
    Calls Try.prog 51 #[va, vb] w (RetNumF (A - M) w) := by
  have hb2 : ∀ W, Grown w W → ∀ k : Nat, k ≤ 900000 → Calls Try.prog 66 #[vb, .int .i64 (k : Int)] W fun e w' => e = .returned (.int .u64 (dig M k : Nat)) ∧ w' = W := fun W hg k hk => (at_any vb M k W (hb.grown hg) (by omega) (by omega)).mono fun _ _ h => ⟨h.1, h.2.symm⟩
  have Cb := Lib.hid hb2
  have kmk := mk (digs A) (by omega)
  have hnew := blk_new w (digs A)
  have hA' := Lib.hid (lt_digs A)
  obtain ⟨Aa, ca, rfl, _, hAc⟩ := ha
  obtain ⟨Ab, cb, rfl, _, _⟩ := hb
  have hcells : ∀ W, Grown w W → ∀ k : Nat, k < digs A → ∃ g, Aa = some ⟨g, 0, none⟩ ∧ W.cell? ⟨g, k, none⟩ = some (.int .u64 (dig A k : Nat)) := fun W hg k hk => by
    rcases hAc with h | ⟨g, m, e, h1, h2⟩
    · omega
    · exact ⟨g, e, (Blk.grown h2 hg).cell k (by omega)⟩
  have Hc := Lib.hid hcells
  clear hb2 hcells hAc
  generalize digs A = n at *
  generalize digs M = n2 at *
  go_enter Try.func51, Try.ntmps51
  go_wp2
  go_loopw [6, 7] (fun cv i wr => ∃ k S c : Nat, k ≤ n ∧ MinusRel A M k S c ∧ cv = .int .u64 (c : Nat) ∧ i = .int .i64 k ∧ Blk wr w.heap.size n S ∧ Grown w wr)
    (fun _ i _ => n - (intOf i).toNat)
  case atStart => exact ⟨0, 0, 0, by omega, ⟨by simp, by simp [Nat.mod_one], by omega⟩, rfl, rfl, hnew, (Grown.refl w).alloc _ _⟩
  case round =>
    obtain ⟨k, S, c, hk, hr, rfl, rfl, hblk, hg⟩ := hrel
    by_cases hkn : k < n
    · obtain ⟨g, rfl, hcell⟩ := Hc.out wr hg k hkn
      have hc := hr.c1
      have hnx := hr.next (t := dig A k + 4294967296 - dig M k - c) rfl rfl rfl
      have hS0 : dig S k = 0 := dig_big _ _ hr.lt
      have dA := dig_lt A k
      have dM := dig_lt M k
      have C2 := Lib.hid (fun W (hW : Grown w W) => Cb.out W hW k (by omega))
      have s1 : IntKind.u64.wrap ((dig A k : Nat) + 4294967296 : Int) = ((dig A k + 4294967296 : Nat) : Int) := by rw [IntKind.wrap_u64]; omega
      have s2 : IntKind.u64.wrap (((dig A k + 4294967296 : Nat) : Int) - (dig M k : Nat)) = ((dig A k + 4294967296 - dig M k : Nat) : Int) := by rw [IntKind.wrap_u64]; omega
      have s3 : IntKind.u64.wrap (((dig A k + 4294967296 - dig M k : Nat) : Int) - (c : Nat)) = ((dig A k + 4294967296 - dig M k - c : Nat) : Int) := by rw [IntKind.wrap_u64]; omega
      have tl : dig A k + 4294967296 - dig M k - c < 8589934592 := by omega
      generalize dig A k + 4294967296 - dig M k - c = t at *
      generalize dig A k + 4294967296 - dig M k = t2 at *
      generalize dig A k + 4294967296 = t1 at *
      generalize dig A k = x at *
      generalize dig M k = y at *
      have hm := maskI (t : Int) (by omega) (by omega)
      have hzz : (t : Int) % 4294967296 = ((t % 4294967296 : Nat) : Int) := by omega
      have hqq : (t : Int) / 4294967296 = ((t / 4294967296 : Nat) : Int) := by omega
      rw [hzz] at hm
      have hz1 : t % 4294967296 < 4294967296 := Nat.mod_lt _ (by omega)
      have hset := hblk.set k _ hz1 rfl
      rw [hS0, Nat.zero_mul, Nat.sub_zero] at hset
      have hg2 := hg.setCell (a := ⟨w.heap.size, k, none⟩) (Nat.le_refl _) (.int .u64 ((t % 4294967296 : Nat) : Int))
      have hcell2 := hblk.cell k hkn
      have hfree := hblk.free k
      have hqb : t / 4294967296 ≤ 1 := by omega
      have h1q : (1 : Int) - ((t / 4294967296 : Nat) : Int) = ((1 - t / 4294967296 : Nat) : Int) := by omega
      have hkn' : (k : Int) < n := by omega
      have hk0 : 0 ≤ (k : Int) := by omega
      have HS := Lib.hid hset
      have HN := Lib.hid hnx
      clear hzz hS0 hr hset hnx hblk
      generalize t % 4294967296 = z at *
      generalize hq : 1 - t / 4294967296 = c2 at *
      generalize t / 4294967296 = q at *
      clear hq
      go_wp2
      go_quiet ((go_at_call 66; exact Calls.quiet_of_same (C2.out _ hg)))
      go_wp2
      go_roundw
      case rel => exact ⟨k + 1, _, c2, by omega, HN.out, rfl, by go_num, HS.out, hg2⟩
      case measure => simp [intOf]; omega
    · obtain rfl : k = n := by omega
      have hS := hr.fin hA'.out hle
      have hS' := Lib.hid hS
      have hlt2 := Lib.hid hr.lt
      clear hS hr
      go_wp2_with (go_at_call 64; refine (trim_any w.heap.size k k S _ hblk hlt2.out (by omega) (by omega)).mono ?_; rintro e w1 ⟨rfl, rfl⟩)
      go_ret
      exact ⟨_, rfl, by rw [← hS'.out]; exact NumF.of_blk hblk hlt2.out (by omega) (Nat.le_refl _), hg⟩
end Go.Proofs.Ytmdcdicmlnlenaa
