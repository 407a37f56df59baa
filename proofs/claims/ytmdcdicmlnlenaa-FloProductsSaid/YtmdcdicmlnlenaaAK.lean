/- The document's sum of two finite floats. -/
import Derived.Test.YtmdcdicmlnlenaaAG
import Derived.Test.YtmdcdicmlnlenaaAJ
import Derived.RegionTactic
import Derived.Deep.RegionHeld3
import Derived.Deep.DeepCutAuto
import Derived.Deep.CutBlock
namespace Go.Proofs.Ytmdcdicmlnlenaa
open Go.ChangeShapes Go.WideShapes Go.ChangeAt Go.RowKit

theorem add_val (x y : Nat) (hx : fin x) (hy : fin y) (e : Int) (m n : Nat) (he : e = min (rde x) (rde y)) (hm : m = rdm x * 2 ^ (rde x - e).toNat) (hn : n = rdm y * 2 ^ (rde y - e).toNat) :
    fop .add x y = if sg x = sg y then Ieee.double.nearest (sg x) (m + n) e else if m = n then 0 else if n < m then Ieee.double.nearest (sg x) (m - n) e else Ieee.double.nearest (sg y) (n - m) e := by
  show (match Ieee.double.add x y with | some r => r | none => NaN) = _
  unfold Ieee.Format.add
  rw [read_rd x hx, read_rd y hy]
  simp only [Ieee.Datum.sum, signed_eq, Option.map_some]
  rw [← he, ← hm, ← hn]
  show Ieee.double.nearest _ _ _ = _
  have z : ∀ s, Ieee.double.nearest s 0 e = Ieee.double.word s 0 := fun s => nearest_zero s e
  unfold sgi
  cases hs : sg x <;> cases ht : sg y
  · simp only [Bool.false_eq_true, if_false, if_true]
    by_cases h0 : m + n = 0
    · rw [if_pos (by omega), h0, show ((m : Int) + n).natAbs = 0 by omega]; simp [z]
    · rw [if_neg (by omega), show ((m : Int) + n).natAbs = m + n by omega, decide_eq_false (by omega)]
  · simp only [Bool.false_eq_true, if_false, if_true]
    by_cases h0 : m = n
    · rw [if_pos (by omega), if_pos h0, show ((m : Int) + -n).natAbs = 0 by omega, z, word_eq]; rfl
    · rw [if_neg (by omega), if_neg h0]
      by_cases h1 : n < m
      · rw [if_pos h1, show ((m : Int) + -n).natAbs = m - n by omega, decide_eq_false (by omega)]
      · rw [if_neg h1, show ((m : Int) + -n).natAbs = n - m by omega, decide_eq_true (by omega)]
  · simp only [Bool.true_eq_false, if_false, if_true, Bool.false_eq_true]
    by_cases h0 : m = n
    · rw [if_pos (by omega), if_pos h0, show (-(m : Int) + n).natAbs = 0 by omega, z, word_eq]; rfl
    · rw [if_neg (by omega), if_neg h0]
      by_cases h1 : n < m
      · rw [if_pos h1, show (-(m : Int) + n).natAbs = m - n by omega, decide_eq_true (by omega)]
      · rw [if_neg h1, show (-(m : Int) + n).natAbs = n - m by omega, decide_eq_false (by omega)]
  · simp only [if_true]
    by_cases h0 : m + n = 0
    · rw [if_pos (by omega), h0, show (-(m : Int) + -n).natAbs = 0 by omega]; simp [z]
    · rw [if_neg (by omega), show (-(m : Int) + -n).natAbs = m + n by omega, decide_eq_true (by omega)]

set_option maxRecDepth 100000 in
set_option maxHeartbeats 4000000 in
theorem add_walk (a b : Int) (w : World) (a0 : 0 ≤ a) (a1 : a ≤ 18446744073709551615) (b0 : 0 ≤ b) (b1 : b ≤ 18446744073709551615) (hfa : fin a.toNat) (hfb : fin b.toNat) (hz : ¬ (isz a.toNat = true ∧ isz b.toNat = true)) :
    Calls Try.prog 14 #[.int .u64 a, .int .u64 b] w fun e w' => e = .returned (.int .u64 (fop .add a.toNat b.toNat : Nat)) ∧ Grown w w' := by
  have hna : isn a.toNat = false := fin_not _ hfa
  have hnb : isn b.toNat = false := fin_not _ hfb
  have hia : isi a.toNat = false := by unfold fin rg at hfa; unfold isi; simp; omega
  have hib : isi b.toNat = false := by unfold fin rg at hfb; unfold isi; simp; omega
  have Na := Lib.hid (fun w => isNaN_ref a w a0 a1)
  have Nb := Lib.hid (fun w => isNaN_ref b w b0 b1)
  have Ia := Lib.hid (fun w => isInf_ref a w a0 a1)
  have Ib := Lib.hid (fun w => isInf_ref b w b0 b1)
  have Za := Lib.hid (fun w => isZero_ref a w a0 a1)
  have Zb := Lib.hid (fun w => isZero_ref b w b0 b1)
  rw [hna] at Na
  rw [hnb] at Nb
  rw [hia] at Ia
  rw [hib] at Ib
  have Ra := Lib.hid (fun w => read_any a w a0 a1 hfa)
  have Rb := Lib.hid (fun w => read_any b w b0 b1 hfb)
  have V := add_val a.toNat b.toNat hfa hfb _ _ _ rfl rfl rfl
  have ma := rdm_lt a.toNat
  have mb := rdm_lt b.toNat
  have ea := rde_bd a.toNat hfa
  have eb := rde_bd b.toNat hfb
  generalize fop .add a.toNat b.toNat = r at *
  clear hna hnb hia hib hfa hfb
  generalize isz a.toNat = za at *
  generalize isz b.toNat = zb at *
  generalize rdm a.toNat = m at *
  generalize rdm b.toNat = n at *
  generalize rde a.toNat = ex at *
  generalize rde b.toNat = ey at *
  generalize sg a.toNat = s at *
  generalize sg b.toNat = t at *
  have zz : za = false ∨ (za = true ∧ zb = false) := by cases za <;> cases zb <;> simp_all
  have hord : ey < ex ∨ ex ≤ ey := by omega
  clear hz
  obtain ⟨e0, he0⟩ : ∃ e0, e0 = min ex ey := ⟨_, rfl⟩
  rw [← he0] at V
  obtain ⟨kx, hkx⟩ : ∃ kx, kx = ex - e0 := ⟨_, rfl⟩
  obtain ⟨ky, hky⟩ : ∃ ky, ky = ey - e0 := ⟨_, rfl⟩
  rw [← hkx, ← hky] at V
  have wkx : IntKind.i64.wrap (ex - e0) = kx := by rw [IntKind.wrap_i64]; omega
  have wky : IntKind.i64.wrap (ey - e0) = ky := by rw [IntKind.wrap_i64]; omega
  have ox : 0 ≤ kx ∧ kx ≤ 2045 := by omega
  have oy : 0 ≤ ky ∧ ky ≤ 2045 := by omega
  have oe : -1074 ≤ e0 ∧ e0 ≤ 971 := by omega
  have hP := PL_eq
  have bx : m * 2 ^ kx.toNat < 2 ^ (2 * PL) := by
    have h1 : m * 2 ^ kx.toNat < 2 ^ 53 * 2 ^ kx.toNat := Nat.mul_lt_mul_of_pos_right (by omega) (two_pos _)
    rw [← Nat.pow_add] at h1
    exact Nat.lt_of_lt_of_le h1 (Nat.pow_le_pow_right (by omega) (by omega))
  have bym : n * 2 ^ ky.toNat < 2 ^ (2 * PL) := by
    have h1 : n * 2 ^ ky.toNat < 2 ^ 53 * 2 ^ ky.toNat := Nat.mul_lt_mul_of_pos_right (by omega) (two_pos _)
    rw [← Nat.pow_add] at h1
    exact Nat.lt_of_lt_of_le h1 (Nat.pow_le_pow_right (by omega) (by omega))
  have dm : digs m ≤ 2 := digs_small (by omega)
  have dn : digs n ≤ 2 := digs_small (by omega)
  have dall : ∀ K, K < 2 ^ (2 * PL + 1) → digs K ≤ 2200 ∧ blen K ≤ 2200 := fun K hK =>
    ⟨Nat.le_trans (digs_le (m := 2 * PL + 1) (by rw [bb_two]; exact Nat.lt_of_lt_of_le hK (Nat.pow_le_pow_right (by omega) (by omega)))) (by omega), Nat.le_trans (blen_small hK) (by omega)⟩
  have hpp : 2 ^ (2 * PL + 1) = 2 ^ (2 * PL) * 2 := Nat.pow_succ ..
  have d1 := dall (m * 2 ^ kx.toNat) (by omega)
  have d2 := dall (n * 2 ^ ky.toNat) (by omega)
  have d3 := dall (m * 2 ^ kx.toNat + n * 2 ^ ky.toNat) (by omega)
  have d4 := dall (m * 2 ^ kx.toNat - n * 2 ^ ky.toNat) (by omega)
  have d5 := dall (n * 2 ^ ky.toNat - m * 2 ^ kx.toNat) (by omega)
  have V' := Lib.hid V
  have ho1 : e0 ≤ ex := by omega
  have ho2 : e0 ≤ ey := by omega
  have ho3 : ex = e0 ∨ ey = e0 := by omega
  clear V hP bx bym dall hpp hkx hky he0
  go_enter Try.func14, Try.ntmps14
  go_upto_region 7 with (first
    | (go_at_call 43; ((with_reducible refine (Na.out _).mono ?_); rintro e3 w3 ⟨rfl, rfl⟩))
    | (go_at_call 43; ((with_reducible refine (Nb.out _).mono ?_); rintro e3 w3 ⟨rfl, rfl⟩))
    | (go_at_call 44; ((with_reducible refine (Ia.out _).mono ?_); rintro e3 w3 ⟨rfl, rfl⟩))
    | (go_at_call 44; ((with_reducible refine (Ib.out _).mono ?_); rintro e3 w3 ⟨rfl, rfl⟩)))
  go_cut [38] (fun v wx => v = .bool false ∧ wx = w)
  case first =>
    rcases zz with rfl | ⟨rfl, rfl⟩
    all_goals
      go_wp2_with (first
        | (go_at_call 45; ((with_reducible refine (Za.out _).mono ?_); rintro e3 w3 ⟨rfl, rfl⟩))
        | (go_at_call 45; ((with_reducible refine (Zb.out _).mono ?_); rintro e3 w3 ⟨rfl, rfl⟩)))
      go_meet
      exact ⟨rfl, rfl⟩
  case rest =>
    obtain ⟨rfl, hw⟩ := hcut
    rw [hw]
    clear hw wc
    go_upto_if 57 with (first
      | (go_at_call 46; ((with_reducible refine (Ra.out _).mono ?_); rintro e3 w1 ⟨v1, rfl, hn1, hg1⟩; have hn1' := hn1; obtain ⟨A, c, rfl, hcA, hcB⟩ := hn1'; clear hcA hcB))
      | (go_at_call 46; ((with_reducible refine (Rb.out _).mono ?_); rintro e3 w2 ⟨v2, rfl, hn2, hg2⟩; have hn2' := hn2; obtain ⟨B, d, rfl, hdA, hdB⟩ := hn2'; clear hdA hdB)))
    have gA : Grown w2 ((w2.alloc (.cells #[.bool s, .slice A (digs m) c, .int .i64 ex] 42)).alloc (.cells #[.bool t, .slice B (digs n) d, .int .i64 ey] 42)) := ((Grown.refl w2).alloc _ _).alloc _ _
    have bX := heap_alloc2_old w2 (.cells #[.bool s, .slice A (digs m) c, .int .i64 ex] 42) (.cells #[.bool t, .slice B (digs n) d, .int .i64 ey] 42)
    have bY := heap_alloc2_new w2 (.cells #[.bool s, .slice A (digs m) c, .int .i64 ex] 42) (.cells #[.bool t, .slice B (digs n) d, .int .i64 ey] 42)
    go_cut [7] (fun v wx => v = .int .i64 e0 ∧ wx = ((w2.alloc (.cells #[.bool s, .slice A (digs m) c, .int .i64 ex] 42)).alloc (.cells #[.bool t, .slice B (digs n) d, .int .i64 ey] 42)))
    case first =>
      clear d1 d2 d3 d4 d5
      rcases hord with h | h
      · obtain rfl : ey = e0 := by omega
        go_wp2_with fail
        go_meet
        exact ⟨rfl, rfl⟩
      · obtain rfl : ex = e0 := by omega
        go_wp2_with fail
        go_meet
        exact ⟨rfl, rfl⟩
    case rest =>
      obtain ⟨rfl, hw⟩ := hcut
      rw [hw]
      clear hw wc
      have hs6 : w2.heap.size + 1 < ((w2.alloc (.cells #[.bool s, .slice A (digs m) c, .int .i64 ex] 42)).alloc (.cells #[.bool t, .slice B (digs n) d, .int .i64 ey] 42)).heap.size := by simp
      generalize (w2.alloc (.cells #[.bool s, .slice A (digs m) c, .int .i64 ex] 42)).alloc (.cells #[.bool t, .slice B (digs n) d, .int .i64 ey] 42) = Wb at *
      generalize w2.heap.size = g5 at *
      have nX := Num.grown (Num.grown hn1 hg2) gA
      have nY := Num.grown hn2 gA
      have gW : Grown w Wb := Grown.trans hg1 (Grown.trans hg2 gA)
      have kX : ∀ W, Grown Wb W → W.cell? ⟨g5, 0, none⟩ = some (.bool s) ∧ W.cell? ⟨g5, 1, none⟩ = some (.slice A (digs m) c) ∧ W.cell? ⟨g5, 2, none⟩ = some (.int .i64 ex) := fun W hW => by
        have h := (Grown.block hW (by omega : g5 < Wb.heap.size)).trans bX
        exact ⟨cell_of_row W g5 0 _ 42 _ h, cell_of_row W g5 1 _ 42 _ h, cell_of_row W g5 2 _ 42 _ h⟩
      have kY : ∀ W, Grown Wb W → W.cell? ⟨g5 + 1, 0, none⟩ = some (.bool t) ∧ W.cell? ⟨g5 + 1, 1, none⟩ = some (.slice B (digs n) d) ∧ W.cell? ⟨g5 + 1, 2, none⟩ = some (.int .i64 ey) := fun W hW => by
        have h := (Grown.block hW hs6).trans bY
        exact ⟨cell_of_row W (g5 + 1) 0 _ 42 _ h, cell_of_row W (g5 + 1) 1 _ 42 _ h, cell_of_row W (g5 + 1) 2 _ 42 _ h⟩
      have Sx : ∀ W, Grown Wb W → Calls Try.prog 47 #[.slice A (digs m) c, .int .i64 kx] W fun e w' => ∃ v, e = .returned v ∧ Num w' v (m * 2 ^ kx.toNat) ∧ Grown W w' ∧ Grown Wb w' := fun W hW =>
        (shl_any _ m kx W (Num.grown nX hW) (by omega) ox.1 (by omega)).mono fun _ _ ⟨v, h1, h2, h3⟩ => ⟨v, h1, h2, h3, Grown.trans hW h3⟩
      have Sy : ∀ W, Grown Wb W → Calls Try.prog 47 #[.slice B (digs n) d, .int .i64 ky] W fun e w' => ∃ v, e = .returned v ∧ Num w' v (n * 2 ^ ky.toNat) ∧ Grown W w' ∧ Grown Wb w' := fun W hW =>
        (shl_any _ n ky W (Num.grown nY hW) (by omega) oy.1 (by omega)).mono fun _ _ ⟨v, h1, h2, h3⟩ => ⟨v, h1, h2, h3, Grown.trans hW h3⟩
      have KX := Lib.hid kX
      have KY := Lib.hid kY
      have SX := Lib.hid Sx
      have SY := Lib.hid Sy
      clear kX kY Sx Sy bX bY gA hn1 hn2 hg1 hg2 nX nY
      go_upto_region 13 with fail
      go_cut [8, 9] (fun vx vy wx => Num wx vx (m * 2 ^ kx.toNat) ∧ Num wx vy (n * 2 ^ ky.toNat) ∧ Grown Wb wx)
      case first =>
        have g0 : Grown Wb Wb := Grown.refl _
        have gd : Grown Wb Wb.drew := g0.drew
        have cX := (KX.out Wb g0).2
        have cY := (KY.out Wb g0).2
        obtain ⟨cx1, cx2⟩ := cX
        obtain ⟨cy1, cy2⟩ := cY
        clear hord ho3 ho1 ho2 d1 d2 d3 d4 d5 zz
        go_region_held3 (fun w' => w'.cell? ⟨g5, 1, none⟩ = some (.slice A (digs m) c) ∧ w'.cell? ⟨g5, 2, none⟩ = some (.int .i64 ex) ∧ w'.cell? ⟨g5 + 1, 1, none⟩ = some (.slice B (digs n) d) ∧ w'.cell? ⟨g5 + 1, 2, none⟩ = some (.int .i64 ey))
          (first
            | go_keep
            | exact ⟨(KX.out _ (by assumption)).2.1, (KX.out _ (by assumption)).2.2, (KY.out _ (by assumption)).2.1, (KY.out _ (by assumption)).2.2⟩)
          (first
            | (go_at_call_of 47 (Value.slice A (digs m) c); refine (SX.out _ (by assumption)).mono ?_; rintro e5 w5 ⟨vx, rfl, hnx, hgx, hGx⟩)
            | (go_at_call_of 47 (Value.slice B (digs n) d); refine (SY.out _ (by assumption)).mono ?_; rintro e6 w6 ⟨vy, rfl, hny, hgy, hGy⟩))
        all_goals
          go_wp2_with fail
          go_meet
          first
          | exact ⟨Num.grown hnx hgy, hny, hGy⟩
          | exact ⟨hnx, Num.grown hny hgx, hGx⟩
      case rest =>
        obtain ⟨hnx, hny, hgB⟩ := hcut
        have G := Grown.trans gW hgB
        have bX0 := (KX.out _ hgB).1
        have bY0 := (KY.out _ hgB).1
        have KX2 := Lib.hid (fun W (hW : Grown wc W) => (KX.out W (Grown.trans hgB hW)).1)
        have KY2 := Lib.hid (fun W (hW : Grown wc W) => (KY.out W (Grown.trans hgB hW)).1)
        clear KX KY SX SY wkx wky hord ho3 ho1 ho2 zz ox oy dm dn Na Nb Ia Ib Za Zb Ra Rb hs6 hgB gW ma mb ea eb
        generalize m * 2 ^ kx.toNat = M at *
        generalize n * 2 ^ ky.toNat = N at *
        by_cases hst : s = t
        · have hV := V'.out
          rw [if_pos hst, ← pack_nearest] at hV
          have HV := Lib.hid hV
          subst hst
          clear hV V'
          go_upto_region 15 with fail
          have hnxD : Num wc.drew _ M := hnx
          have hnyD : Num wc.drew _ N := hny
          have gD : Grown wc wc.drew := (Grown.refl wc).drew
          go_region_held3 (fun w' => w'.cell? ⟨g5, 0, none⟩ = some (.bool s))
            (first
              | go_keep
              | exact KX2.out _ (by assumption))
            (first
              | (go_at_call 49; refine (plus_any _ _ M N wc.drew hnxD hnyD (by omega) (by omega)).mono ?_; rintro e5 w5 ⟨v5, rfl, hn5, hg5⟩; have hG5 : Grown wc w5 := Grown.trans gD hg5)
              | (go_at_call 48; refine (pack_any s v5 (M + N) e0 false w5 hn5 (by omega) (by omega) (by omega) (by omega)).mono ?_; rintro e6 w6 ⟨rfl, hg6⟩; have hG6 : Grown wc w6 := Grown.trans hG5 hg6))
          all_goals
            go_wp2_with fail
            go_ret
            exact ⟨ret_int (by rw [HV.out]), Grown.trans G hG6⟩
        · have hV := V'.out
          rw [if_neg hst] at hV
          have hstb : (s == t) = false := by simpa using hst
          have D4 := Lib.hid d4
          have D5 := Lib.hid d5
          clear V' hst d3 d4 d5
          rcases Nat.lt_trichotomy M N with hMN | hMN | hMN
          · rw [if_neg (by omega), if_neg (by omega), ← pack_nearest] at hV
            have HV := Lib.hid hV
            have hc := Lib.hid (cmp_lt' hMN)
            have hle := Lib.hid (Nat.le_of_lt hMN)
            clear hV hMN
            go_wp2_with fail
            refine (cmp_any _ _ M N wc hnx hny (by omega)).mono ?_; rintro e4 w4 ⟨rfl, hg4⟩
            rw [hc.out]
            go_upto_region 21 with fail
            have hnxD : Num w4.drew _ M := Num.grown hnx hg4
            have hnyD : Num w4.drew _ N := Num.grown hny hg4
            have gD : Grown wc w4.drew := hg4.drew
            have bY4 := KY2.out _ hg4
            go_region_held3 (fun w' => w'.cell? ⟨g5 + 1, 0, none⟩ = some (.bool t))
              (first
                | go_keep
                | exact KY2.out _ (by assumption))
              (first
                | (go_at_call 51; refine (minus_any _ _ N M w4.drew hnyD hnxD (by omega) hle.out).mono ?_; rintro e5 w5 ⟨v5, rfl, hn5, hg5⟩; have hG5 : Grown wc w5 := Grown.trans gD hg5)
                | (go_at_call 48; refine (pack_any t v5 (N - M) e0 false w5 hn5 (by have := D5.out; omega) (by have := D5.out; omega) (by omega) (by omega)).mono ?_; rintro e6 w6 ⟨rfl, hg6⟩; have hG6 : Grown wc w6 := Grown.trans hG5 hg6))
            all_goals
              go_wp2_with fail
              go_ret
              exact ⟨ret_int (by rw [HV.out]), Grown.trans G hG6⟩
          · rw [if_pos hMN] at hV
            have HV := Lib.hid hV
            have hc := Lib.hid (cmp_eq' hMN)
            clear hV hMN
            go_wp2_with fail
            refine (cmp_any _ _ M N wc hnx hny (by omega)).mono ?_; rintro e4 w4 ⟨rfl, hg4⟩
            rw [hc.out]
            go_wp2_with fail
            go_ret
            exact ⟨ret_int (by rw [HV.out]; rfl), Grown.trans G hg4⟩
          · rw [if_neg (by omega), if_pos hMN, ← pack_nearest] at hV
            have HV := Lib.hid hV
            have hc := Lib.hid (cmp_gt' hMN)
            have hle := Lib.hid (Nat.le_of_lt hMN)
            clear hV hMN
            go_wp2_with fail
            refine (cmp_any _ _ M N wc hnx hny (by omega)).mono ?_; rintro e4 w4 ⟨rfl, hg4⟩
            rw [hc.out]
            go_upto_region 20 with fail
            have hnxD : Num w4.drew _ M := Num.grown hnx hg4
            have hnyD : Num w4.drew _ N := Num.grown hny hg4
            have gD : Grown wc w4.drew := hg4.drew
            have bX4 := KX2.out _ hg4
            go_region_held3 (fun w' => w'.cell? ⟨g5, 0, none⟩ = some (.bool s))
              (first
                | go_keep
                | exact KX2.out _ (by assumption))
              (first
                | (go_at_call 51; refine (minus_any _ _ M N w4.drew hnxD hnyD (by omega) hle.out).mono ?_; rintro e5 w5 ⟨v5, rfl, hn5, hg5⟩; have hG5 : Grown wc w5 := Grown.trans gD hg5)
                | (go_at_call 48; refine (pack_any s v5 (M - N) e0 false w5 hn5 (by have := D4.out; omega) (by have := D4.out; omega) (by omega) (by omega)).mono ?_; rintro e6 w6 ⟨rfl, hg6⟩; have hG6 : Grown wc w6 := Grown.trans hG5 hg6))
            all_goals
              go_wp2_with fail
              go_ret
              exact ⟨ret_int (by rw [HV.out]), Grown.trans G hG6⟩
end Go.Proofs.Ytmdcdicmlnlenaa
