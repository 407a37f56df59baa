/- The document's quotient of two finite floats that aren't 0. -/
import Derived.Test.YtmdcdicmlnlenaaAQ
namespace Go.Proofs.Ytmdcdicmlnlenaa
open Go.ChangeShapes Go.WideShapes Go.ChangeAt Go.RowKit

set_option maxRecDepth 100000 in
set_option maxHeartbeats 2000000 in
theorem quo_walk (a b : Int) (w : World) (a0 : 0 ≤ a) (a1 : a ≤ 18446744073709551615) (b0 : 0 ≤ b) (b1 : b ≤ 18446744073709551615) (hfa : fin a.toNat) (hfb : fin b.toNat) (hza : isz a.toNat = false) (hzb : isz b.toNat = false) :
    Calls Try.prog 20 #[.int .u64 a, .int .u64 b] w fun e w' => e = .returned (.int .u64 (fop .quo a.toNat b.toNat : Nat)) ∧ Grown w w' := by
  have hna : isn a.toNat = false := fin_not _ hfa
  have hnb : isn b.toNat = false := fin_not _ hfb
  have hia := isi_fin _ hfa
  have hib := isi_fin _ hfb
  have Na := Lib.hid (fun w => isNaN_ref a w a0 a1)
  have Nb := Lib.hid (fun w => isNaN_ref b w b0 b1)
  have Ia := Lib.hid (fun w => isInf_ref a w a0 a1)
  have Ib := Lib.hid (fun w => isInf_ref b w b0 b1)
  have Za := Lib.hid (fun w => isZero_ref a w a0 a1)
  have Zb := Lib.hid (fun w => isZero_ref b w b0 b1)
  rw [hza] at Za
  rw [hzb] at Zb
  rw [hna] at Na
  rw [hnb] at Nb
  rw [hia] at Ia
  rw [hib] at Ib
  have Ra := Lib.hid (fun w => read_any a w a0 a1 hfa)
  have Rb := Lib.hid (fun w => read_any b w b0 b1 hfb)
  have hm0 : rdm a.toNat ≠ 0 := by rw [isz_rg] at hza; have := of_decide_eq_false hza; unfold rdm; split <;> omega
  have hn0 : rdm b.toNat ≠ 0 := by rw [isz_rg] at hzb; have := of_decide_eq_false hzb; unfold rdm; split <;> omega
  have V := quo_val a.toNat b.toNat hfa hfb hm0 hn0
  obtain ⟨xx, hx1, hx2⟩ := sign_xor a b a0 a1 b0 b1
  have hsn := sgn_ne (sg a.toNat ^^ sg b.toNat)
  have ma := rdm_lt a.toNat
  have mb := rdm_lt b.toNat
  have ea := rde_bd a.toNat hfa
  have eb := rde_bd b.toNat hfb
  generalize fop .quo a.toNat b.toNat = r at *
  clear hna hnb hia hib hfa hfb
  generalize rdm a.toNat = m at *
  generalize rdm b.toNat = n at *
  generalize rde a.toNat = ex at *
  generalize rde b.toNat = ey at *
  generalize hσ : (sg a.toNat ^^ sg b.toNat) = σ at *
  clear hσ
  generalize sg a.toNat = s at *
  generalize sg b.toNat = t at *
  generalize sgn σ = sn at *
  have dm : digs m ≤ 2 := digs_small (by omega)
  have dn : digs n ≤ 2 := digs_small (by omega)
  have hmn : m * 2 ^ 120 < 2 ^ 173 := by omega
  have db := blen_small hmn
  have dd : digs (m * 2 ^ 120) ≤ 6 := digs_le (by omega)
  have dq : digs (m * 2 ^ 120 / n) ≤ 6 := Nat.le_trans (digs_le (Nat.lt_of_le_of_lt (Nat.div_le_self _ _) (lt_digs _))) dd
  have bq : blen (m * 2 ^ 120 / n) ≤ 173 := blen_small (Nat.lt_of_le_of_lt (Nat.div_le_self _ _) hmn)
  have V' := Lib.hid V
  have oe : -4000 ≤ ex - ey - 120 ∧ ex - ey - 120 ≤ 4000 := by omega
  have hp : 0 < n := by omega
  clear V hmn hza hzb hm0 hn0
  go_enter Try.func20, Try.ntmps20
  go_upto_region 10 with (first
    | (go_at_call 43; ((with_reducible refine (Na.out _).mono ?_); rintro e3 w3 ⟨rfl, rfl⟩))
    | (go_at_call 43; ((with_reducible refine (Nb.out _).mono ?_); rintro e3 w3 ⟨rfl, rfl⟩))
    | (go_at_call 44; ((with_reducible refine (Ia.out _).mono ?_); rintro e3 w3 ⟨rfl, rfl⟩))
    | (go_at_call 44; ((with_reducible refine (Ib.out _).mono ?_); rintro e3 w3 ⟨rfl, rfl⟩))
    | (go_at_call 45; ((with_reducible refine (Za.out _).mono ?_); rintro e3 w3 ⟨rfl, rfl⟩))
    | (go_at_call 45; ((with_reducible refine (Zb.out _).mono ?_); rintro e3 w3 ⟨rfl, rfl⟩))
    | (go_at_call 46; ((with_reducible refine (Ra.out _).mono ?_); rintro e3 w1 ⟨v1, rfl, hn1, hg1⟩; have hn1' := hn1; obtain ⟨A, c, rfl, hcA, hcB⟩ := hn1'; clear hcA hcB))
    | (go_at_call 46; ((with_reducible refine (Rb.out _).mono ?_); rintro e3 w2 ⟨v2, rfl, hn2, hg2⟩; have hn2' := hn2; obtain ⟨B, d, rfl, hdA, hdB⟩ := hn2'; clear hdA hdB)))
  have gA : Grown w2 ((w2.alloc (.cells #[.bool s, .slice A (digs m) c, .int .i64 ex] 42)).alloc (.cells #[.bool t, .slice B (digs n) d, .int .i64 ey] 42)) := ((Grown.refl w2).alloc _ _).alloc _ _
  have bX := heap_alloc2_old w2 (.cells #[.bool s, .slice A (digs m) c, .int .i64 ex] 42) (.cells #[.bool t, .slice B (digs n) d, .int .i64 ey] 42)
  have bY := heap_alloc2_new w2 (.cells #[.bool s, .slice A (digs m) c, .int .i64 ex] 42) (.cells #[.bool t, .slice B (digs n) d, .int .i64 ey] 42)
  have hs6 : w2.heap.size + 1 < ((w2.alloc (.cells #[.bool s, .slice A (digs m) c, .int .i64 ex] 42)).alloc (.cells #[.bool t, .slice B (digs n) d, .int .i64 ey] 42)).heap.size := by simp
  generalize (w2.alloc (.cells #[.bool s, .slice A (digs m) c, .int .i64 ex] 42)).alloc (.cells #[.bool t, .slice B (digs n) d, .int .i64 ey] 42) = Wb at *
  generalize w2.heap.size = g5 at *
  have nX : Num Wb.drew _ m := Num.grown (Num.grown hn1 hg2) gA
  have nY : Num Wb.drew _ n := Num.grown hn2 gA
  have gW : Grown w Wb := Grown.trans hg1 (Grown.trans hg2 gA)
  have kX : ∀ W, Grown Wb W → W.cell? ⟨g5, 1, none⟩ = some (.slice A (digs m) c) ∧ W.cell? ⟨g5, 2, none⟩ = some (.int .i64 ex) ∧ W.cell? ⟨g5 + 1, 1, none⟩ = some (.slice B (digs n) d) ∧ W.cell? ⟨g5 + 1, 2, none⟩ = some (.int .i64 ey) := fun W hW => by
    have h := (Grown.block hW (by omega : g5 < Wb.heap.size)).trans bX
    have h2 := (Grown.block hW hs6).trans bY
    exact ⟨cell_of_row W g5 1 _ 42 _ h, cell_of_row W g5 2 _ 42 _ h, cell_of_row W (g5 + 1) 1 _ 42 _ h2, cell_of_row W (g5 + 1) 2 _ 42 _ h2⟩
  have KX := Lib.hid kX
  have gd : Grown Wb Wb.drew := (Grown.refl Wb).drew
  obtain ⟨cx1, cx2, cy1, cy2⟩ := kX Wb (Grown.refl _)
  clear kX bX bY gA hn1 hn2 hg1 hg2 Na Nb Ia Ib Za Zb Ra Rb hs6 ma mb ea eb hx1 hx2
  go_region_held3 (fun w' => w'.cell? ⟨g5, 1, none⟩ = some (.slice A (digs m) c) ∧ w'.cell? ⟨g5, 2, none⟩ = some (.int .i64 ex) ∧ w'.cell? ⟨g5 + 1, 1, none⟩ = some (.slice B (digs n) d) ∧ w'.cell? ⟨g5 + 1, 2, none⟩ = some (.int .i64 ey))
    (first
      | go_keep
      | exact KX.out _ (by assumption))
    (first
      | (go_at_call 47; refine (shl_any _ m 120 Wb.drew nX (by omega) (by omega) (by omega)).mono ?_; rintro e5 w5 ⟨v5, rfl, hn5, hg5⟩; have hG5 : Grown Wb w5 := Grown.trans gd hg5)
      | (go_at_call 53; refine (div_walk v5 _ (m * 2 ^ (120 : Int).toNat) n w5 hn5 (Num.grown nY hg5) hp (by rw [show (120 : Int).toNat = 120 from rfl]; omega) (by omega) (by rw [show (120 : Int).toNat = 120 from rfl]; omega)).mono ?_; rintro e6 w6 ⟨vq, vr, rfl, hnq, hnr, hg6⟩; have hG6 : Grown Wb w6 := Grown.trans hG5 hg6))
  all_goals
    rw [show (120 : Int).toNat = 120 from rfl] at hnq hnr
    have hnr' := hnr
    obtain ⟨C, cc, rfl, hc1, hc2⟩ := hnr'
    clear hc1 hc2
    obtain ⟨kx1, kx2, ky1, ky2⟩ := KX.out w6 hG6
    clear cx1 cx2 cy1 cy2 hnr
    generalize m * 2 ^ 120 / n = QQ at *
    by_cases hR : m * 2 ^ 120 % n = 0
    · rw [hR, digs_zero]
      have W2 : Hid (r = pack σ QQ (ex - ey - 120) false) := by show _ = _; rw [V'.out, decide_eq_false (fun h => h hR)]
      clear hR V'
      go_wp2_with fail
      refine (pack_any σ vq QQ (ex - ey - 120) false w6 hnq (by omega) (by omega) oe.1 oe.2).mono ?_; rintro e7 w7 ⟨rfl, hg7⟩
      go_wp2_with fail
      go_ret
      exact ⟨ret_int (by rw [W2.out]), Grown.trans gW (Grown.trans hG6 hg7)⟩
    · have W2 : Hid (r = pack σ QQ (ex - ey - 120) true) := by show _ = _; rw [V'.out, decide_eq_true hR]
      have hpos : 0 < ((digs (m * 2 ^ 120 % n) : Nat) : Int) := by have := digs_pos hR; omega
      have hpn := digs_pos hR
      have hpb : decide (0 < digs (m * 2 ^ 120 % n)) = true := by simpa using hpn
      clear hR V'
      generalize digs (m * 2 ^ 120 % n) = dr at *
      go_wp2_with fail
      ((with_reducible refine (pack_any σ vq QQ (ex - ey - 120) true w6 hnq (by omega) (by omega) oe.1 oe.2).mono ?_); skip)
      rintro e7 w7 ⟨rfl, hg7⟩
      go_wp2_with fail
      go_ret
      exact ⟨ret_int (by rw [W2.out]), Grown.trans gW (Grown.trans hG6 hg7)⟩
end Go.Proofs.Ytmdcdicmlnlenaa
