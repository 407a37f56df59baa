/- The document's product and quotient of two finite floats. -/
import Derived.Test.YtmdcdicmlnlenaaAO
import Derived.Test.YtmdcdicmlnlenaaAP
import Derived.Test.YtmdcdicmlnlenaaAL
import Derived.RegionTactic
import Derived.Deep.RegionHeld3
import Derived.Deep.DeepCutAuto
import Derived.Deep.CutBlock
namespace Go.Proofs.Ytmdcdicmlnlenaa
open Go.ChangeShapes Go.WideShapes Go.ChangeAt Go.RowKit

theorem mul_val (x y : Nat) (hx : fin x) (hy : fin y) : fop .mul x y = Ieee.double.nearest (sg x ^^ sg y) (rdm x * rdm y) (rde x + rde y) := by
  show (match Ieee.double.mul x y with | some r => r | none => NaN) = _
  unfold Ieee.Format.mul
  rw [read_rd x hx, read_rd y hy]
  rfl
theorem quo_val (x y : Nat) (hx : fin x) (hy : fin y) (hx0 : rdm x ≠ 0) (hy0 : rdm y ≠ 0) :
    fop .quo x y = pack (sg x ^^ sg y) (rdm x * 2 ^ 120 / rdm y) (rde x - rde y - 120) (decide (rdm x * 2 ^ 120 % rdm y ≠ 0)) := by
  rw [quo_pack _ _ _ _ (by omega) (by omega) (rdm_lt x) (rdm_lt y)]
  show (match Ieee.double.div x y with | some r => r | none => NaN) = _
  unfold Ieee.Format.div
  rw [read_rd x hx, read_rd y hy]
  simp only [Ieee.Datum.quotient, if_neg hy0, Option.map_some, d_fb]
  show Ieee.double.nearest _ _ _ = _
  rfl
/-- The sign of a product, as Go computes it. -/
theorem sign_xor (a b : Int) (a0 : 0 ≤ a) (a1 : a ≤ 18446744073709551615) (b0 : 0 ≤ b) (b1 : b ≤ 18446744073709551615) :
    ∃ x : Nat, bits .xor .u64 a b = (x : Int) ∧ bits .and .u64 (x : Int) 9223372036854775808 = (sgn (sg a.toNat ^^ sg b.toNat) : Nat) := by
  have h := u64_xor a b a0 (by omega) b0 (by omega)
  have hl : a.toNat ^^^ b.toNat < 2 ^ 64 := Nat.xor_lt_two_pow (by omega) (by omega)
  refine ⟨_, h, ?_⟩
  have ht := xor_top a.toNat b.toNat (by omega) (by omega)
  generalize a.toNat ^^^ b.toNat = x at *
  rw [go_and (x : Int) (by omega) (by omega)]
  unfold sgn
  cases hs : (sg a.toNat ^^ sg b.toNat) <;> rw [hs] at ht
  · rw [if_pos (by simp at ht; omega)]; rfl
  · rw [if_neg (by simp at ht; omega)]; rfl
theorem sgn_ne (s : Bool) : (((sgn s : Nat) : Int) != 0) = s := by cases s <;> rfl
theorem sgn_word (s : Bool) : Ieee.double.word s 0 = sgn s := by rw [word_eq]; cases s <;> rfl

set_option maxRecDepth 100000 in
set_option maxHeartbeats 4000000 in
theorem mul_walk (a b : Int) (w : World) (a0 : 0 ≤ a) (a1 : a ≤ 18446744073709551615) (b0 : 0 ≤ b) (b1 : b ≤ 18446744073709551615) (hfa : fin a.toNat) (hfb : fin b.toNat) :
    Calls Try.prog 18 #[.int .u64 a, .int .u64 b] w fun e w' => e = .returned (.int .u64 (fop .mul a.toNat b.toNat : Nat)) ∧ Grown w w' := by
  have hna : isn a.toNat = false := fin_not _ hfa
  have hnb : isn b.toNat = false := fin_not _ hfb
  have hia := isi_fin _ hfa
  have hib := isi_fin _ hfb
  have Na := Lib.hid (fun w => isNaN_ref a w a0 a1)
  have Nb := Lib.hid (fun w => isNaN_ref b w b0 b1)
  have Ia := Lib.hid (fun w => isInf_ref a w a0 a1)
  have Ib := Lib.hid (fun w => isInf_ref b w b0 b1)
  have Za := Lib.hid (fun w => isZero_ref a w a0 a1)
  rw [hna] at Na
  rw [hnb] at Nb
  rw [hia] at Ia
  rw [hib] at Ib
  have Ra := Lib.hid (fun w => read_any a w a0 a1 hfa)
  have Rb := Lib.hid (fun w => read_any b w b0 b1 hfb)
  have V := mul_val a.toNat b.toNat hfa hfb
  rw [← pack_nearest] at V
  obtain ⟨xx, hx1, hx2⟩ := sign_xor a b a0 a1 b0 b1
  have hsn := sgn_ne (sg a.toNat ^^ sg b.toNat)
  have ma := rdm_lt a.toNat
  have mb := rdm_lt b.toNat
  have ea := rde_bd a.toNat hfa
  have eb := rde_bd b.toNat hfb
  generalize fop .mul a.toNat b.toNat = r at *
  clear hna hnb hia hib hfa hfb
  generalize isz a.toNat = za at *
  generalize rdm a.toNat = m at *
  generalize rdm b.toNat = n at *
  generalize rde a.toNat = ex at *
  generalize rde b.toNat = ey at *
  generalize hσ : (sg a.toNat ^^ sg b.toNat) = σ at *
  clear hσ
  generalize sg a.toNat = s at *
  generalize sg b.toNat = t at *
  generalize sgn σ = sn at *
  have dm : digs m ≤ 2 := digs_small (by omega)
  have dn : digs n ≤ 2 := digs_small (by omega)
  have hmn : m * n < 2 ^ 106 := by
    have h := Nat.mul_le_mul (show m ≤ 2 ^ 53 - 1 by omega) (show n ≤ 2 ^ 53 - 1 by omega)
    omega
  have db := blen_small hmn
  have dd : digs (m * n) ≤ 4 := digs_le (by omega)
  have V' := Lib.hid V
  have we : IntKind.i64.wrap (ex + ey) = ex + ey := by rw [IntKind.wrap_i64]; omega
  have oe : -4000 ≤ ex + ey ∧ ex + ey ≤ 4000 := by omega
  clear V hmn
  cases za
  all_goals
    go_enter Try.func18, Try.ntmps18
    go_upto_region 7 with (first
      | (go_at_call 43; ((with_reducible refine (Na.out _).mono ?_); rintro e3 w3 ⟨rfl, rfl⟩))
      | (go_at_call 43; ((with_reducible refine (Nb.out _).mono ?_); rintro e3 w3 ⟨rfl, rfl⟩))
      | (go_at_call 44; ((with_reducible refine (Ia.out _).mono ?_); rintro e3 w3 ⟨rfl, rfl⟩))
      | (go_at_call 44; ((with_reducible refine (Ib.out _).mono ?_); rintro e3 w3 ⟨rfl, rfl⟩))
      | (go_at_call 45; ((with_reducible refine (Za.out _).mono ?_); rintro e3 w3 ⟨rfl, rfl⟩))
      | (go_at_call 46; ((with_reducible refine (Ra.out _).mono ?_); rintro e3 w1 ⟨v1, rfl, hn1, hg1⟩; have hn1' := hn1; obtain ⟨A, c, rfl, hcA, hcB⟩ := hn1'; clear hcA hcB))
      | (go_at_call 46; ((with_reducible refine (Rb.out _).mono ?_); rintro e3 w2 ⟨v2, rfl, hn2, hg2⟩; have hn2' := hn2; obtain ⟨B, d, rfl, hdA, hdB⟩ := hn2'; clear hdA hdB)))
    have gA : Grown w2 ((w2.alloc (.cells #[.bool s, .slice A (digs m) c, .int .i64 ex] 42)).alloc (.cells #[.bool t, .slice B (digs n) d, .int .i64 ey] 42)) := ((Grown.refl w2).alloc _ _).alloc _ _
    have bX := heap_alloc2_old w2 (.cells #[.bool s, .slice A (digs m) c, .int .i64 ex] 42) (.cells #[.bool t, .slice B (digs n) d, .int .i64 ey] 42)
    have bY := heap_alloc2_new w2 (.cells #[.bool s, .slice A (digs m) c, .int .i64 ex] 42) (.cells #[.bool t, .slice B (digs n) d, .int .i64 ey] 42)
    have hs6 : w2.heap.size + 1 < ((w2.alloc (.cells #[.bool s, .slice A (digs m) c, .int .i64 ex] 42)).alloc (.cells #[.bool t, .slice B (digs n) d, .int .i64 ey] 42)).heap.size := by simp
    generalize (w2.alloc (.cells #[.bool s, .slice A (digs m) c, .int .i64 ex] 42)).alloc (.cells #[.bool t, .slice B (digs n) d, .int .i64 ey] 42) = Wb at *
    generalize w2.heap.size = g5 at *
    have nX : Num Wb.drew _ m := Num.grown (Num.grown hn1 hg2) gA
    have nY : Num Wb.drew _ n := Num.grown hn2 gA
    have gW : Grown w Wb := Grown.trans hg1 (Grown.trans hg2 gA)
    have kX : ∀ W, Grown Wb W → W.cell? ⟨g5, 1, none⟩ = some (.slice A (digs m) c) ∧ W.cell? ⟨g5, 2, none⟩ = some (.int .i64 ex) ∧ W.cell? ⟨g5 + 1, 1, none⟩ = some (.slice B (digs n) d) ∧ W.cell? ⟨g5 + 1, 2, none⟩ = some (.int .i64 ey) := fun W hW => by
      have h := (Grown.block hW (by omega : g5 < Wb.heap.size)).trans bX
      have h2 := (Grown.block hW hs6).trans bY
      exact ⟨cell_of_row W g5 1 _ 42 _ h, cell_of_row W g5 2 _ 42 _ h, cell_of_row W (g5 + 1) 1 _ 42 _ h2, cell_of_row W (g5 + 1) 2 _ 42 _ h2⟩
    have KX := Lib.hid kX
    have gd : Grown Wb Wb.drew := (Grown.refl Wb).drew
    obtain ⟨cx1, cx2, cy1, cy2⟩ := kX Wb (Grown.refl _)
    clear kX bX bY gA hn1 hn2 hg1 hg2 Na Nb Ia Ib Za Ra Rb hs6 ma mb ea eb hx1 hx2
    go_region_held3 (fun w' => w'.cell? ⟨g5, 1, none⟩ = some (.slice A (digs m) c) ∧ w'.cell? ⟨g5, 2, none⟩ = some (.int .i64 ex) ∧ w'.cell? ⟨g5 + 1, 1, none⟩ = some (.slice B (digs n) d) ∧ w'.cell? ⟨g5 + 1, 2, none⟩ = some (.int .i64 ey))
      (first
        | go_keep
        | exact KX.out _ (by assumption))
      (first
        | (go_at_call 52; refine (times_any _ _ m n Wb.drew nX nY (by omega) (by omega)).mono ?_; rintro e5 w5 ⟨v5, rfl, hn5, hg5⟩; have hG5 : Grown Wb w5 := Grown.trans gd hg5)
        | (go_at_call 48; refine (pack_any σ v5 (m * n) (ex + ey) false w5 hn5 (by omega) (by omega) oe.1 oe.2).mono ?_; rintro e6 w6 ⟨rfl, hg6⟩; have hG6 : Grown Wb w6 := Grown.trans hG5 hg6))
    all_goals
      go_wp2_with fail
      go_ret
      exact ⟨ret_int (by rw [V'.out]), Grown.trans gW hG6⟩
end Go.Proofs.Ytmdcdicmlnlenaa
