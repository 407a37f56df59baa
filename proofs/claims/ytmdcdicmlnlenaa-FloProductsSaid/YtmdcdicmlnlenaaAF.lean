/- The document's Read: bits that are a finite number. -/
import Derived.Test.YtmdcdicmlnlenaaZ
import Derived.Test.YtmdcdicmlnlenaaE
namespace Go.Proofs.Ytmdcdicmlnlenaa
open Go.ChangeShapes Go.WideShapes Go.ChangeAt Go.RowKit

def rdm (a : Nat) : Nat := if rg a < 4503599627370496 then rg a else 4503599627370496 + rg a % 4503599627370496
def rde (a : Nat) : Int := if rg a < 4503599627370496 then -1074 else -1074 + (rg a / 4503599627370496 - 1 : Nat)
theorem read_rd (a : Nat) (h : fin a) : Ieee.double.read a = .number (sg a) (rdm a) (rde a) := by
  unfold rdm rde
  by_cases h1 : rg a < 4503599627370496
  · rw [if_pos h1, if_pos h1]; exact read_low a h1
  · rw [if_neg h1, if_neg h1]; exact read_mid a (by unfold rg at h1; omega) h
theorem rdm_lt (a : Nat) : rdm a < 9007199254740992 := by unfold rdm; split <;> omega
theorem rde_bd (a : Nat) (h : fin a) : -1074 ≤ rde a ∧ rde a ≤ 971 := by unfold fin at h; unfold rde; split <;> omega
theorem rd_uval (a : Nat) : rdm a * 2 ^ (rde a + 1074).toNat = uval (rg a) := by
  unfold rdm rde uval
  by_cases h1 : rg a < 4503599627370496
  · simp only [h1, if_true]; simp
  · simp only [h1, if_false]; congr 2; omega
theorem mask11 (a : Int) (h0 : 0 ≤ a) (h1 : a ≤ 18446744073709551615) : bits .and .u64 (a / 4503599627370496) 2047 = ((rg a.toNat / 4503599627370496 : Nat) : Int) := by
  obtain ⟨n, rfl⟩ := Int.eq_ofNat_of_zero_le h0
  have h := u64_and_nat (n / 4503599627370496) 2047 (by omega) (by omega)
  have e : n / 4503599627370496 &&& 2047 = n / 4503599627370496 % 2048 := Nat.and_two_pow_sub_one_eq_mod _ 11
  rw [e] at h
  refine (show _ = _ from h).trans ?_
  rw [Int.toNat_natCast]
  unfold rg
  omega
theorem mask52i (a : Int) (h0 : 0 ≤ a) (h1 : a ≤ 18446744073709551615) : bits .and .u64 a 4503599627370495 = ((rg a.toNat % 4503599627370496 : Nat) : Int) := by
  obtain ⟨n, rfl⟩ := Int.eq_ofNat_of_zero_le h0
  have h := u64_and_nat n 4503599627370495 (by omega) (by omega)
  have e : n &&& 4503599627370495 = n % 4503599627370496 := Nat.and_two_pow_sub_one_eq_mod n 52
  rw [e] at h
  refine h.trans ?_
  rw [Int.toNat_natCast]
  unfold rg
  omega
theorem or52 (f : Nat) (h : f < 4503599627370496) : bits .or .u64 (f : Int) 4503599627370496 = ((4503599627370496 + f : Nat) : Int) := by
  have h1 := u64_or_nat f 4503599627370496 (by omega) (by omega)
  have e52 : (4503599627370496 : Nat) = 2 ^ 52 := by decide
  have h2 := Nat.two_pow_add_eq_or_of_lt (i := 52) (b := f) (by rw [← e52]; exact h) 1
  rw [Nat.mul_one, ← e52] at h2
  rw [Nat.or_comm, ← h2] at h1
  exact h1
theorem not_row {w : World} {g m N : Nat} {cs : Array Value} (h : w.heap[g]? = some (.cells cs 42 (0, 0))) (hB : Blk w g m N) : False := by
  unfold Blk at hB
  rw [h] at hB
  injection hB with e
  injection e with _ e2
  exact absurd e2 (by decide)
theorem Num.far3 {w1 : World} {v : Value} {N : Nat} (w : World) (h : Num w1 v N) (hb : ∀ g m, Blk w1 g m N → g ≠ w.heap.size) (x y z : Value) :
    Num (((w1.setCell ⟨w.heap.size, 0, none⟩ x).setCell ⟨w.heap.size, 1, none⟩ y).setCell ⟨w.heap.size, 2, none⟩ z) v N := by
  obtain ⟨A, c, e, h1, h2⟩ := h
  refine ⟨A, c, e, h1, ?_⟩
  rcases h2 with h2 | ⟨g, m, e2, h3, h4⟩
  · exact .inl h2
  · have := hb g m h4
    exact .inr ⟨g, m, e2, h3, ((h4.far _ this).far _ this).far _ this⟩
def RetFloat (neg : Bool) (m : Nat) (e : Int) (w : World) (x : Ending) (w' : World) : Prop := ∃ v, x = .returned (.agg #[.bool neg, v, .int .i64 e]) ∧ Num w' v m ∧ Grown w w'
theorem top_bit (a : Int) (h0 : 0 ≤ a) (h1 : a ≤ 18446744073709551615) : (a / 9223372036854775808 == 1) = sg a.toNat := by
  unfold sg
  rw [Bool.eq_iff_iff]
  simp only [beq_iff_eq]
  omega

set_option maxHeartbeats 1000000 in
theorem read_any (a : Int) (w : World) (a0 : 0 ≤ a) (a1 : a ≤ 18446744073709551615) (hf : fin a.toNat) :
    Calls Try.prog 46 #[.int .u64 a] w (RetFloat (sg a.toNat) (rdm a.toNat) (rde a.toNat) w) := by
  have e1 := mask11 a a0 a1
  have e2 := mask52i a a0 a1
  have e3 := top_bit a a0 a1
  have hm : rdm a.toNat = if rg a.toNat < 4503599627370496 then rg a.toNat else 4503599627370496 + rg a.toNat % 4503599627370496 := rfl
  have he : rde a.toNat = if rg a.toNat < 4503599627370496 then (-1074 : Int) else -1074 + ((rg a.toNat / 4503599627370496 - 1 : Nat) : Int) := rfl
  unfold fin at hf
  generalize rdm a.toNat = m at *
  generalize rde a.toNat = ex at *
  generalize sg a.toNat = s at *
  have hr : rg a.toNat < 9223372036854775808 := Nat.mod_lt _ (by omega)
  generalize rg a.toNat = r at *
  by_cases hl : r < 4503599627370496
  · rw [if_pos hl] at hm he
    rw [show ((r / 4503599627370496 : Nat) : Int) = 0 by omega] at e1
    rw [show r % 4503599627370496 = r by omega] at e2
    subst hm he
    have hm' : (m : Int) ≤ 4503599627370495 := by omega
    have O := Lib.hid (fun W => of_any (m : Int) W (by omega) (by omega))
    rw [Int.toNat_natCast] at O
    clear hl hf hr
    go_enter Try.func46, Try.ntmps46
    go_wp2_with fail
    refine (O.out _).mono ?_; rintro x1 w1 ⟨v1, rfl, hn1, hg1⟩
    have hn1' := hn1
    obtain ⟨A, c, rfl, _, _⟩ := hn1'
    have hblk : w1.heap[w.heap.size]? = some (.cells #[.bool false, .slice none 0 0, .int .i64 0] 42 (0, 0)) := (Grown.block hg1 (by simp)).trans (heap_alloc_new w _)
    have k0 := cell_of_row w1 w.heap.size 0 _ 42 _ hblk
    have k1 := cell_of_row w1 w.heap.size 1 _ 42 _ hblk
    have k2 := cell_of_row w1 w.heap.size 2 _ 42 _ hblk
    have f0 := frozen_of_row w1 w.heap.size 0 _ 42 hblk
    have f1 := frozen_of_row w1 w.heap.size 1 _ 42 hblk
    have f2 := frozen_of_row w1 w.heap.size 2 _ 42 hblk
    have Hb := Lib.hid hblk
    have G1 : Grown w w1 := Grown.trans ((Grown.refl w).alloc _ _) hg1
    clear hblk hg1
    go_wp2_with fail
    exact bodyPost_ret (v := .agg #[.bool s, .slice A (digs m) c, .int .i64 (-1074)])
      (results_cell_row rfl _ _ w.heap.size 42 _ (0, 0) _ rfl (heap_setCell_same _ w.heap.size 2 _ 42 _ (heap_setCell_same _ w.heap.size 1 _ 42 _ (heap_setCell_same _ w.heap.size 0 _ 42 _ Hb.out))) Try.underlying42 rfl (by kernel_rfl)) rfl
      ⟨_, rfl, Num.far3 w hn1 (fun g m hB e => by subst e; exact not_row Hb.out hB) _ _ _, ((G1.setCell (Nat.le_refl _) _).setCell (Nat.le_refl _) _).setCell (Nat.le_refl _) _⟩
  · rw [if_neg hl] at hm he
    have hq : ((r / 4503599627370496 : Nat) : Int) ≠ 0 := by omega
    have hq' : (((r / 4503599627370496 : Nat) : Int) == 0) = false := by simp; omega
    have hf2 : r % 4503599627370496 < 4503599627370496 := Nat.mod_lt _ (by omega)
    have o52 := or52 _ hf2
    have hex : ((r / 4503599627370496 : Nat) : Int) - 1075 = ex := by omega
    have hqb : ((r / 4503599627370496 : Nat) : Int) ≤ 2047 := by omega
    rw [← hm] at o52
    have hm' : (m : Int) ≤ 9007199254740991 := by omega
    have O := Lib.hid (fun W => of_any (m : Int) W (by omega) (by omega))
    rw [Int.toNat_natCast] at O
    clear hl hf hr hm he hq
    generalize r / 4503599627370496 = q at *
    generalize r % 4503599627370496 = fr at *
    go_enter Try.func46, Try.ntmps46
    go_wp2_with fail
    refine (O.out _).mono ?_; rintro x1 w1 ⟨v1, rfl, hn1, hg1⟩
    have hn1' := hn1
    obtain ⟨A, c, rfl, _, _⟩ := hn1'
    have hblk : w1.heap[w.heap.size]? = some (.cells #[.bool false, .slice none 0 0, .int .i64 0] 42 (0, 0)) := (Grown.block hg1 (by simp)).trans (heap_alloc_new w _)
    have k0 := cell_of_row w1 w.heap.size 0 _ 42 _ hblk
    have k1 := cell_of_row w1 w.heap.size 1 _ 42 _ hblk
    have k2 := cell_of_row w1 w.heap.size 2 _ 42 _ hblk
    have f0 := frozen_of_row w1 w.heap.size 0 _ 42 hblk
    have f1 := frozen_of_row w1 w.heap.size 1 _ 42 hblk
    have f2 := frozen_of_row w1 w.heap.size 2 _ 42 hblk
    have Hb := Lib.hid hblk
    have G1 : Grown w w1 := Grown.trans ((Grown.refl w).alloc _ _) hg1
    clear hblk hg1
    go_wp2_with fail
    exact bodyPost_ret (v := .agg #[.bool s, .slice A (digs m) c, .int .i64 ex])
      (results_cell_row rfl _ _ w.heap.size 42 _ (0, 0) _ rfl (heap_setCell_same _ w.heap.size 2 _ 42 _ (heap_setCell_same _ w.heap.size 1 _ 42 _ (heap_setCell_same _ w.heap.size 0 _ 42 _ Hb.out))) Try.underlying42 rfl (by kernel_rfl)) rfl
      ⟨_, rfl, Num.far3 w hn1 (fun g m hB e => by subst e; exact not_row Hb.out hB) _ _ _, ((G1.setCell (Nat.le_refl _) _).setCell (Nat.le_refl _) _).setCell (Nat.le_refl _) _⟩
end Go.Proofs.Ytmdcdicmlnlenaa
