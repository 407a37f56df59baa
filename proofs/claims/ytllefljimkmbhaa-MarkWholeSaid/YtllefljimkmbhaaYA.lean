/- MarkSafe: its walk. -/
import Derived.Test.YtllefljimkmbhaaV
namespace Go.Proofs.Ytllefljimkmbhaa
open Go.ChangeShapes Go.WideShapes Go.ChangeAt Go.RowKit
variable {w0 W W' : World} {F : Nat → Prop} {bg bd : Nat} {g : Gr}

theorem cell_cha {b o : Nat} {v : Value} (c : Cha (fun _ => False) W W') (h : W.cell? ⟨b, o, none⟩ = some v) : W'.cell? ⟨b, o, none⟩ = some v := by
  have := c.old b (block_lt_of_cell h) (fun x => x)
  simpa [World.cell?, this] using h
/-- What the last loops load. -/
theorem fin_kit (h : Mine w0 (Duo bg bd g) W) : ∃ (ar : Option Addr) (cr bv ov cv : Nat) (f2 : Nat → Nat), g.n + 1 ≤ cv ∧ g.n ≤ 4096 ∧ g.roots.length ≤ 8192 ∧ g.roots.length ≤ cr ∧ ∀ W9, Cha (fun _ => False) W W9 →
    (W9.cell? ⟨bd, 0, none⟩ = some (.slice (some ⟨bv, ov, none⟩) (g.n + 1) cv) ∧ W9.cell? ⟨bd, 1, none⟩ = some (.slice ar g.roots.length cr)) ∧
    (∀ i, i < g.roots.length → ∃ br or, ar = some ⟨br, or, none⟩ ∧ W9.cell? ⟨br, or + i, none⟩ = some (.int .i64 ((g.roots.getD i 0 : Nat) : Int)) ∧ g.roots.getD i 0 ∈ g.roots ∧ 1 ≤ g.roots.getD i 0 ∧ g.roots.getD i 0 ≤ g.n) ∧
    (∀ id, 1 ≤ id → id ≤ g.n → W9.cell? ⟨bv, ov + id, none⟩ = some (.slice (some ⟨f2 id, 0, none⟩) (g.fs id).length (g.fs id).length) ∧ (g.fs id).length ≤ 16 ∧ ∀ i, i < (g.fs id).length → W9.cell? ⟨f2 id, i, none⟩ = some (.int .i64 (((g.fs id).getD i 0 : Nat) : Int))) ∧
    (∀ id, id ∈ g.roots → ∀ k, k < (g.fs id).length → Calls Try.prog 24 #[.pointer (some ⟨bg, 0, none⟩), .int .i64 (id : Int), .int .i64 (k : Int)] W9 fun e w => e = .returned (.tuple #[.int .i64 (((g.fs id).getD k 0 : Nat) : Int), .int .i64 0]) ∧ w = W9) := by
  obtain ⟨F, q, _⟩ := h
  obtain ⟨K, hi⟩ := duo_inv q
  obtain ⟨F2, vf, vr, f2, T, im⟩ := duo_im q
  obtain ⟨x0, x1, _⟩ := im.facts
  obtain ⟨bv, ov, cv, ev, hv1, hv2, hv3⟩ := im.sls
  obtain ⟨ar, cr, er, hr1, hr2, hr3⟩ := im.lr.ints
  subst ev er
  refine ⟨ar, cr, bv, ov, cv, f2, hv1, im.n4, im.r8, hr1, fun W9 c => ⟨⟨cell_cha c x0, cell_cha c x1⟩, fun i hi9 => ?_, fun id a b => ⟨cell_cha c (hv3 id a b), im.f16 id, fun i hi => cell_cha c (im.fc a b hi).1⟩, fun id a k b => ?_⟩⟩
  · obtain ⟨br, or, e, hc⟩ := hr3 (by omega)
    have hm : g.roots.getD i 0 ∈ g.roots := by
      have e : g.roots.getD i 0 = g.roots[i] := by simp [hi9]
      rw [e]; exact List.getElem_mem hi9
    exact ⟨br, or, e, cell_cha c (hc i hi9).1, hm, (hi.kroot _ hm).2.1, (hi.kroot _ hm).2.2⟩
  · obtain ⟨F1, F3, p1, _⟩ := (fit_duo bg bd g).same q c
    obtain ⟨K, vo, vr, vq, q, f, T, hi, p⟩ := p1.open
    have := get_any p hi.rk (id : Int) (k : Int)
    have hg : g.get (id : Int) (k : Int) = ((((g.fs id).getD k 0 : Nat) : Int), 0) := by
      unfold Gr.get
      have hk := hi.kroot id a
      have hroot : g.isRoot (id : Int) = true := (isRoot_iff _).2 ⟨by omega, by simpa using a⟩
      rw [if_pos hroot, if_neg (by simp; omega)]
      simp
    rw [hg] at this
    exact this.mono fun _ _ ⟨a, b⟩ => ⟨a, b.symm⟩
theorem mhas_now (h : Mine w0 (Duo bg bd g) W) (a : Int) : Calls Try.prog 28 #[.pointer (some ⟨bg, 0, none⟩), .int .i64 a] W fun e w => e = .returned (.bool (g.has a)) ∧ w = W := by
  obtain ⟨F, q, _⟩ := h
  obtain ⟨F1, F2, p1, _⟩ := q
  obtain ⟨K, vo, vr, vq, q, f, T, hi, p⟩ := p1.open
  exact (has_any p a).mono fun _ _ ⟨a, b⟩ => ⟨a, b.symm⟩
set_option maxRecDepth 100000 in
set_option maxHeartbeats 8000000 in
theorem safe_walk (s : Option Addr) (len c : Nat) (s2 : Option Addr) (l2 c2 : Nat) (w : World) (hlen : len ≤ 9223372036854775807) (hcap : c ≤ 9223372036854775807) (hlc : len ≤ c)
    (hs : 0 < len → ∃ (b o : Nat), s = some ⟨b, o, none⟩ ∧ ∀ i, i < len → ∃ z0 z1 z2 z3, OpAt w b (o + i * 4) z0 z1 z2 z3) (ht : NumsC .u8 w s2 l2 c2) :
    Calls Try.prog 4 #[.slice s len c, .slice s2 l2 c2] w fun e w' => e = .returned (.bool true) ∧ Cha (fun _ => False) w w' := by
  have A9 := Lib.hid (m9 (Cha.refl (fun _ => False) w))
  have A11 : Hid (∀ bg W1, Mine w (PgA bg Gr.new) W1 → Calls Try.prog 11 #[] ((W1.alloc (.cells #[.slice none 0 0] 50)).alloc (.cells #[.slice (some ⟨W1.heap.size, 0, none⟩) 1 1, .slice none 0 0] 61)) fun e W' => e = .returned (.bool true) ∧ Mine w (Duo bg (W1.heap.size + 1) Gr.new) W') := Lib.hid fun bg W1 h => by
    have h2 := duo_new h
    exact (awake_any _).mono fun _ _ ⟨a, c⟩ => ⟨a, h2.same (fit_duo _ _ _) c⟩
  have HS := Lib.hid hs
  obtain ⟨hl2, hc2, hT1, hT2⟩ := ht
  have HT := Lib.hid hT2
  clear hs hT1 hT2
  obtain ⟨m, hm⟩ : ∃ m, min len 400 = m := ⟨_, rfl⟩
  have hml : m ≤ len := by omega
  have hmi : (if (400 : Int) < (len : Int) then (400 : Int) else (len : Int)) = (m : Int) := by split <;> omega
  have hm1 : m ≤ 400 := by omega
  go_enter Try.func4, Try.ntmps4
  go_wp2_with (first
    | (rw [mk_row])
    | (go_at_call 9; ((with_reducible refine (A9.out).mono ?_); rintro e w1 ⟨bg, rfl, h⟩; have B11 := Lib.hid (A11.out _ _ h); clear h A9))
    | (go_at_call 11; ((with_reducible refine (B11.out).mono ?_); rintro e w2 ⟨rfl, h⟩; have H2 := Lib.hid h; clear h A11 B11)))
  generalize w1.heap.size + 1 = bd at *
  clear hm hmi
  have HM : Hid (∀ W gr z0 z1 z2 z3, gr.n < 4000 → gr.roots.length ≤ 4000 → Mine w (Duo bg bd gr) W → Calls Try.prog 32 #[.pointer (some ⟨bg, 0, none⟩), .pointer (some ⟨bd, 0, none⟩), opV z0 z1 z2 z3] W fun e W' => e = .returned (.bool true) ∧ Mine w (Duo bg bd (gr.change z0 z1 z2 z3)) W') := Lib.hid fun W gr z0 z1 z2 z3 hn hr h => mchange h hn hr z0 z1 z2 z3
  go_loopw [33] (fun i wr => ∃ j : Nat, j ≤ m ∧ i = .int .i64 (j : Int) ∧ ∃ gr, gr.n ≤ j ∧ gr.roots.length ≤ j ∧ Mine w (Duo bg bd gr) wr) (fun i _ => m - (intOf i).toNat)
  case atStart => exact ⟨0, Nat.zero_le _, rfl, Gr.new, Nat.le_refl _, Nat.le_refl _, H2.out⟩
  case round =>
    clear H2
    obtain ⟨j, hj, rfl, gr, hn, hr, hD⟩ := hrel
    by_cases hlt : j < m
    · obtain ⟨b, o, rfl, hz⟩ := HS.out (by omega)
      obtain ⟨z0, z1, z2, z3, hop⟩ := hz j (by omega)
      have hop := hop.cha hD.cha
      have HR := Lib.hid hop.cells
      have HB := Lib.hid (hD.same (fit_duo _ _ _) ((Cha.refl (fun _ => False) wr).alloc (.cells #[.int .i64 z0, .int .i64 z1, .int .i64 z2, .int .i64 z3] 29)))
      clear hz hop hD HS
      go_upto_block 2 with (refine wpList_load_mid rfl 29 (.tmp 36) rfl b (o + j * 4) rfl _ _ HR.out Try.underlying29 rfl (by kernel_rfl) ?_)
      have C1 := Lib.hid (HM.out _ gr z0 z1 z2 z3 (by omega) (by omega) HB.out)
      obtain ⟨s1, s2, _, _, _⟩ := change_size (g := gr) z0 z1 z2 z3
      generalize gr.change z0 z1 z2 z3 = g1 at *
      refine (C1.out).mono ?_
      rintro e w3 ⟨rfl, h⟩
      have H3 := Lib.hid h
      have n1 : g1.n ≤ j + 1 := by omega
      have r1 : g1.roots.length ≤ j + 1 := by omega
      clear h C1 HB HR HM s1 s2 hn hr
      go_upto_if 46 with (fail)
      go_cut [] (fun wx => ∃ g2 : Gr, g2.n ≤ j + 1 ∧ g2.roots.length ≤ j + 1 ∧ Mine w (Duo bg bd g2) wx)
      case first =>
        as_aux_lemma =>
          by_cases hb : j < l2
          · have hb1 : (j : Int) < (l2 : Int) := by omega
            obtain ⟨b2, o2, z, rfl, hcz⟩ := HT.out (by omega)
            obtain ⟨y0, y1⟩ := hcz j hb
            have y := (H3.out.cha.old b2 (block_lt_of_cell y0) (fun x => x))
            have y2 : w3.cell? ⟨b2, o2 + j, none⟩ = some (.int .u8 (z j)) := by simpa [World.cell?, y] using y0
            have lo := ((Lit.wf_int_iff _ _).1 y1).1
            have hi := ((Lit.wf_int_iff _ _).1 y1).2
            obtain ⟨q, hq⟩ : ∃ q : Nat, z j = (q : Int) := ⟨(z j).toNat, by have : (0 : Int) ≤ z j := lo; omega⟩
            rw [hq] at y2 lo hi
            have hq2 : q ≤ 255 := by have : (q : Int) ≤ 255 := hi; omega
            have e4 : Int.tmod (q : Int) 4 = ((q % 4 : Nat) : Int) := by rw [Int.tmod_eq_emod_of_nonneg (by omega)]; omega
            have e6 : Int.tmod (q : Int) 6 = ((q % 6 : Nat) : Int) := by rw [Int.tmod_eq_emod_of_nonneg (by omega)]; omega
            rw [hq] at y0
            clear y y1 y2 hcz lo hi hq HT
            obtain ⟨q4, h4⟩ : ∃ q4, q % 4 = q4 := ⟨_, rfl⟩
            obtain ⟨q6, h6⟩ : ∃ q6, q % 6 = q6 := ⟨_, rfl⟩
            have l6 : q6 < 6 := by omega
            rw [h4] at e4
            rw [h6] at e6
            clear h4 h6
            have Y3 : Hid (∀ g2 W', Mine w (Duo bg bd g2) W' → W'.cell? ⟨b2, o2 + j, none⟩ = some (.int .u8 q)) := Lib.hid fun g2 W' h => by
              have := h.cha.old b2 (block_lt_of_cell y0) (fun x => x)
              simpa [World.cell?, this] using y0
            have yy := Y3.out _ _ H3.out
            clear y0
            go_upto_if 52 with (fail)
            go_cut [] (fun wx => ∃ g2 : Gr, g2.n ≤ j + 1 ∧ g2.roots.length ≤ j + 1 ∧ Mine w (Duo bg bd g2) wx)
            case first =>
              as_aux_lemma =>
                by_cases h40 : q4 = 0
                · subst h40
                  have D20 := Lib.hid (mstart H3.out)
                  have k1 : g1.startR.2.n ≤ j + 1 := by rw [start_kept.n]; exact n1
                  have k2 : g1.startR.2.roots.length ≤ j + 1 := by rw [start_kept.roots]; exact r1
                  clear H3
                  go_wp2_with (go_at_call 20; ((with_reducible refine (D20.out).mono ?_); rintro e w4 ⟨rfl, h⟩; have H4 := Lib.hid h; clear h))
                  go_meet
                  exact ⟨_, k1, k2, H4.out⟩
                · have h41 : ((q4 : Int) == 0) = false := by simpa using h40
                  go_wp2
                  go_meet
                  exact ⟨g1, n1, r1, H3.out⟩
            case rest =>
              obtain ⟨g2, n2, r2, hM⟩ := hcut
              have H4 := Lib.hid hM
              have y := Y3.out _ _ H4.out
              have C22 : Hid (∀ g3 W1, g3.n ≤ j + 1 → g3.roots.length ≤ j + 1 → Mine w (Duo bg bd g3) W1 → Calls Try.prog 22 #[.pointer (some ⟨bg, 0, none⟩)] W1 fun e W' => (∃ v, e = .returned v) ∧ ∃ g4 : Gr, g4.n ≤ j + 1 ∧ g4.roots.length ≤ j + 1 ∧ Mine w (Duo bg bd g4) W') := Lib.hid fun g3 W1 a b h =>
                (mwork h).mono fun e W' ⟨x, z⟩ => ⟨x, g3.workR.2, by rw [work_kept.n]; exact a, by rw [work_kept.roots]; exact b, z⟩
              clear hM H3 yy Y3
              go_wp2
              go_loopw [60] (fun i wr => ∃ k : Nat, k ≤ q6 ∧ i = .int .u8 (k : Int) ∧ ∃ g2 : Gr, g2.n ≤ j + 1 ∧ g2.roots.length ≤ j + 1 ∧ Mine w (Duo bg bd g2) wr) (fun i _ => q6 - (intOf i).toNat)
              case atStart => exact ⟨0, Nat.zero_le _, rfl, g2, n2, r2, H4.out⟩
              case round =>
                clear H4
                obtain ⟨k, hk, rfl, g3, n3, r3, hM⟩ := hrel
                by_cases hlk : k < q6
                · have D := Lib.hid (C22.out _ _ n3 r3 hM)
                  clear hM
                  go_wp2_with (go_at_call 22; ((with_reducible refine (D.out).mono ?_); rintro e w5 ⟨⟨v, rfl⟩, g4, n4, r4, h⟩; have H5 := Lib.hid h; clear h))
                  go_roundw
                  case rel => exact ⟨k + 1, hlk, by go_num, g4, n4, r4, H5.out⟩
                  case measure => simp [intOf]; omega
                · obtain rfl : k = q6 := by omega
                  go_wp2
                  go_meet
                  exact ⟨g3, n3, r3, hM⟩
          · have hb1 : ¬ (j : Int) < (l2 : Int) := by omega
            go_wp2
            go_meet
            exact ⟨g1, n1, r1, H3.out⟩
      case rest =>
        clear H3
        obtain ⟨g2, n2, r2, hM⟩ := hcut
        obtain ⟨K, hi⟩ := mduo_inv hM
        have hin : ∀ id, Reach g2 id → g2.has (id : Int) = true := fun id r => by
          unfold Gr.has
          rw [decide_eq_true_iff, Int.toNat_natCast]
          exact ⟨by have := (hi.reach r).2.1; omega, hi.present r⟩
        have HIN := Lib.hid hin
        have D33 := Lib.hid (mreach hM)
        clear hM hin hi
        go_wp2_with (go_at_call 33; ((with_reducible refine (D33.out).mono ?_); rintro e w5 ⟨v, rfl, ⟨bs, X, rfl, hrow, -, -, -, hX⟩, h⟩; have H5 := Lib.hid h; have HROW := Lib.hid hrow; have HX := Lib.hid hX; clear h hrow hX D33))
        go_loopw [10] (fun i wr => ∃ k : Nat, i = .int .i64 (k : Int) ∧ 1 ≤ k ∧ k ≤ g2.n + 1 ∧ Mine w (Duo bg bd g2) wr ∧ FRow 4 wr bs (g2.n + 1) (fun i => .bool (X i))) (fun i _ => g2.n + 1 - (intOf i).toNat)
        case atStart => exact ⟨1, rfl, Nat.le_refl _, by omega, H5.out, HROW.out⟩
        case round =>
          rename World => wr2
          clear H5 HROW
          obtain ⟨k, rfl, hk1, hk, hM, hrow⟩ := hrel
          by_cases hlk : k < g2.n + 1
          · have y := hrow.cell (i := k) hlk
            have yf := hrow.free k
            have CH := Lib.hid (mhas_now hM (k : Int))
            have hlk2 : (k : Int) < (g2.n : Int) + 1 := by omega
            have hin : X k = true → g2.has (k : Int) = true := fun x => HIN.out k ((HX.out k).1 x)
            have HM := Lib.hid hM
            have HR := Lib.hid hrow
            clear hM hrow
            by_cases hx : X k = true
            · rw [hin hx] at CH
              rw [hx] at y
              clear hx hin
              go_wp2_with (go_at_call 28; ((with_reducible refine (CH.out).mono ?_); rintro e w6 ⟨rfl, rfl⟩))
              go_roundw
              case rel => exact ⟨k + 1, rfl, by omega, hlk, HM.out, HR.out⟩
              case measure => simp [intOf]; omega
            · have hx : X k = false := by simpa using hx
              rw [hx] at y
              clear hx hin
              clear CH
              go_wp2
              go_roundw
              case rel => exact ⟨k + 1, rfl, by omega, hlk, HM.out, HR.out⟩
              case measure => simp [intOf]; omega
          · have hlk2 : ¬ ((k : Int) < (g2.n : Int) + 1) := by omega
            have HM := Lib.hid hM
            clear hM hrow
            go_wp2
            go_roundw
            case rel => exact ⟨j + 1, hlt, by go_num, g2, n2, r2, HM.out⟩
            case measure => simp [intOf]; omega
    · obtain rfl : j = m := by omega
      have HC := Lib.hid hD.cha
      obtain ⟨ar, cr, bv, ov, cv, f2, l1, l2', l3, l4, hk⟩ := fin_kit hD
      have HK := Lib.hid hk
      obtain ⟨⟨x0, x1⟩, _⟩ := hk _ (Cha.refl _ _)
      clear hD hk HS HT HM
      generalize gr.roots = R at *
      generalize gr.fs = fs at *
      go_wp2
      go_loopw [89] (fun i wx => ∃ k : Nat, k ≤ R.length ∧ i = .int .i64 (k : Int) ∧ Cha (fun _ => False) wr wx) (fun i _ => R.length - (intOf i).toNat)
      case atStart => exact ⟨0, Nat.zero_le _, rfl, Cha.refl _ _⟩
      case round =>
        rename World => wx
        clear x0 x1
        obtain ⟨k, hk, rfl, hc⟩ := hrel
        obtain ⟨⟨x0, x1⟩, y1, y2, _⟩ := HK.out _ hc
        by_cases hlk : k < R.length
        · obtain ⟨br, or, rfl, y3, y4, y5, y6⟩ := y1 k hlk
          generalize R.getD k 0 = id at *
          obtain ⟨y7, y8, _⟩ := y2 id y5 y6
          have HG : Hid (∀ W9, Cha (fun _ => False) wr W9 → ∀ i, i < (fs id).length → W9.cell? ⟨f2 id, i, none⟩ = some (.int .i64 (((fs id).getD i 0 : Nat) : Int)) ∧ Calls Try.prog 24 #[.pointer (some ⟨bg, 0, none⟩), .int .i64 (id : Int), .int .i64 (i : Int)] W9 fun e w => e = .returned (.tuple #[.int .i64 (((fs id).getD i 0 : Nat) : Int), .int .i64 0]) ∧ w = W9) := Lib.hid fun W9 c i hi => by
            obtain ⟨_, _, k2, k3⟩ := HK.out _ c
            exact ⟨(k2 id y5 y6).2.2 i hi, k3 id y4 i hi⟩
          have hlk2 : (k : Int) < (R.length : Int) := by omega
          have k1 : ¬ ((id : Int) < 0) := by omega
          have k2 : (id : Int) < (gr.n : Int) + 1 := by omega
          have k3 : id < gr.n + 1 := by omega
          have HCX := Lib.hid hc
          clear y1 y2 HK hc y4
          generalize f2 id = ft at *
          generalize fs id = L at *
          go_wp2
          clear y7 y3
          go_loopw [101] (fun i wy => ∃ p : Nat, p ≤ L.length ∧ i = .int .i64 (p : Int) ∧ Cha (fun _ => False) wr wy) (fun i _ => L.length - (intOf i).toNat)
          case atStart => exact ⟨0, Nat.zero_le _, rfl, HCX.out⟩
          case round =>
            rename World => wy
            clear HCX x0 x1
            obtain ⟨p, hp, rfl, hc⟩ := hrel
            by_cases hlp : p < L.length
            · obtain ⟨y, hC⟩ := HG.out _ hc p hlp
              have D24 := Lib.hid hC
              have hlp2 : (p : Int) < (L.length : Int) := by omega
              have HCY := Lib.hid hc
              clear hc hC
              generalize L.getD p 0 = t at *
              go_wp2_with (go_at_call 24; ((with_reducible refine (D24.out).mono ?_); rintro e w6 ⟨rfl, rfl⟩))
              go_roundw
              case rel => exact ⟨p + 1, hlp, by go_num, HCY.out⟩
              case measure => simp [intOf]; omega
            · have hlp2 : ¬ ((p : Int) < (L.length : Int)) := by omega
              have HCY := Lib.hid hc
              clear hc
              go_wp2
              go_roundw
              case rel => exact ⟨k + 1, hlk, by go_num, HCY.out⟩
              case measure => simp [intOf]; omega
        · have hlk2 : ¬ ((k : Int) < (R.length : Int)) := by omega
          have HE := Lib.hid (HC.out.trans hc)
          clear y1 y2 HK hc x0 x1
          go_wp2
          go_returns
          exact ⟨rfl, HE.out⟩
end Go.Proofs.Ytllefljimkmbhaa
