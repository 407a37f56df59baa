/- PagesBack: the walk. -/
import Derived.Test.YtgglcfmnhiakcaaT
import Derived.Deep.RegionHeld3
namespace Go.Proofs.Ytgglcfmnhiakcaa
open Go.ChangeShapes Go.WideShapes Go.ChangeAt Go.RowKit

theorem ow_alloc2 {w W : World} {bm bp n : Nat} {us us' : Nat → Bool} {k b r : Int} (c : Alc n us k b r us') (hk2 : k ≤ 9223372036854775807) (h : Ow w W bm bp n us) : Calls Try.prog 13 #[.pointer (some ⟨bm, 0, none⟩), .int .i64 k] W fun e W' => e = .returned (.tuple #[.int .i64 b, .int .i64 r]) ∧ Ow w W' bm bp n us' ∧ Cha (· = bp) W W' :=
  (alloc_says c hk2 h.pg).mono fun _ _ ⟨he, hm, hc⟩ => ⟨he, h.turn hm hc, hc⟩
theorem ow_free2 {w W : World} {bm bp n : Nat} {us us' : Nat → Bool} {b k r : Int} (c : Chn n us b k false r us') (hk : k ≤ 9223372036854775807) (h : Ow w W bm bp n us) : Calls Try.prog 17 #[.pointer (some ⟨bm, 0, none⟩), .int .i64 b, .int .i64 k] W fun e W' => e = .returned (.int .i64 r) ∧ Ow w W' bm bp n us' ∧ Cha (· = bp) W W' :=
  (free_any c hk h.pg).mono fun _ _ ⟨he, hm, hc⟩ => ⟨he, h.turn hm hc, hc⟩
set_option maxRecDepth 100000 in
set_option maxHeartbeats 8000000 in
theorem back_walk (a1 : Option Addr) (n1 c1 : Nat) (a2 : Option Addr) (n2 c2 M : Nat) (w : World) (hM : M = min n1 200) (h1 : NumsC .u8 w a1 n1 c1) (h2 : NumsC .u8 w a2 n2 c2) :
    Calls Try.prog 5 #[.slice a1 n1 c1, .slice a2 n2 c2] w fun e w' => e = .returned (.bool true) ∧ Cha (fun _ => False) w w' := by
  have A10 : Hid (Calls Try.prog 10 #[.int .i64 4096] w fun e W' => ∃ bm bp, e = .returned (.tuple #[.pointer (some ⟨bm, 0, none⟩), .int .i64 0]) ∧ Ow w W' bm bp 4096 nou) := Lib.hid (ow_new 4096 (Cha.refl _ w) (by omega) (by omega))
  have A12 := Lib.hid awake_any
  have H1 := Lib.hid h1
  have H2 := Lib.hid h2
  have hM1 : M ≤ 200 := by omega
  have hM2 : M ≤ n1 := by omega
  have hcc := h1.1
  have hcd := h1.2.1
  have hn2 := h2.2.2.1
  have hn1 := h1.2.2.1
  clear h1 h2
  have hmin : (if (200 : Int) < (n1 : Int) then (200 : Int) else (n1 : Int)) = (M : Int) := by split <;> omega
  clear hM
  go_enter Try.func5, Try.ntmps5
  go_wp2_with (first
    | (go_at_call 10; ((with_reducible refine (A10.out).mono ?_); rintro e w1 ⟨bm, bp, rfl, h⟩; have H10 := Lib.hid h; clear h))
    | (go_at_call 12; ((with_reducible refine (A12.out _).mono ?_); rintro e w2 ⟨rfl, h⟩; have H12 := Lib.hid (H10.out.same h); clear h)))
  clear hmin A10 A12 H10
  obtain ⟨S, hS⟩ : ∃ S : Nat → Nat, 0 < M → ∃ (b o : Nat) (z : Nat → Int), a1 = some ⟨b, o, none⟩ ∧ ∀ i, i < M → w.cell? ⟨b, o + i, none⟩ = some (.int .u8 (z i)) ∧ 0 ≤ z i ∧ z i ≤ 255 ∧ z i % 20 + 1 = (S i : Int) := by
    by_cases h0 : 0 < M
    · obtain ⟨b, o, z, e, hz⟩ := H1.out.2.2.2 (by omega)
      refine ⟨fun i => (z i % 20 + 1).toNat, fun _ => ⟨b, o, z, e, fun i hi => ?_⟩⟩
      obtain ⟨k1, k2⟩ := hz i (by omega)
      have := u8_lo k2
      have := u8_hi k2
      exact ⟨k1, by omega, by omega, by show z i % 20 + 1 = (((z i % 20 + 1).toNat : Nat) : Int); omega⟩
    · exact ⟨fun _ => 1, fun h => absurd h h0⟩
  have HS := Lib.hid hS
  have HSR : Hid (∀ i, i < M → 1 ≤ S i ∧ S i ≤ 20) := Lib.hid fun i hi => by
    obtain ⟨_, _, z, _, hz⟩ := hS (by omega)
    have := hz i hi
    omega
  clear hS
  obtain ⟨B0, hB0⟩ : ∃ B0, B0 = w2.heap.size := ⟨_, rfl⟩
  have hl0 := H12.out.pg.lt
  have hsz0 := H12.out.cha.size
  rw [← hB0] at hl0 hsz0
  have HB0 : Hid (B0 ≤ w2.heap.size) := Lib.hid (by omega)
  clear hB0
  obtain ⟨i0, hi, hz0, hz1, hz2⟩ := info_parts info3
  go_loopw [7, 8, 9, 39] (fun u v nx i wr => ∃ (p q : Value) (j : Nat), p = u ∧ q = v ∧ j ≤ M ∧ i = .int .i64 (j : Int) ∧ nx = .int .i64 (smu S j : Int) ∧ Pair2 wr B0 p q j j (smu S) S ∧ Ow w wr bm bp 4096 (pre (smu S j)) ∧ B0 ≤ wr.heap.size) (fun _ _ _ i _ => M - (intOf i).toNat)
  case atStart => exact ⟨_, _, 0, rfl, rfl, Nat.zero_le _, rfl, rfl, ⟨World.ownsRow_nil _ _ _ _, World.ownsRow_nil _ _ _ _, fun g h => by simp [Value.ownBlock] at h⟩, by rw [show smu S 0 = 0 from rfl, pre_zero]; exact H12.out, HB0.out⟩
  case round =>
    clear H12 HB0
    obtain ⟨u, v, j, rfl, rfl, hj, rfl, rfl, hPr, hO, hsz⟩ := hrel
    by_cases hlt : j < M
    · obtain ⟨b, o, z, rfl, hz⟩ := HS.out (by omega)
      obtain ⟨hz1', hz2', hz3', hz4'⟩ := hz j hlt
      have hc := (hO.cha.old b (block_lt_of_cell hz1') (fun x => x))
      have hcell : wr.cell? ⟨b, o + j, none⟩ = some (.int .u8 (z j)) := (World.cell?_of_block (a := ⟨b, o + j, none⟩) hc).trans hz1'
      obtain ⟨q1, q2⟩ := HSR.out j hlt
      have q3 := smu_le (S := S) (c := 20) j (fun i hi => (HSR.out i (by omega)).2)
      have q4 : j * 20 ≤ 200 * 20 := Nat.mul_le_mul (by omega) (by omega)
      have C13 := Lib.hid (ow_alloc2 (pre_alc (a := smu S j) (k := S j) (n := 4096) q1 (by omega)) (by omega) hO)
      have hst : smu S (j + 1) = smu S j + S j := rfl
      have HST := Lib.hid hst
      have HP := Lib.hid hPr
      have q5 : smu S j ≤ 4000 := by omega
      clear hz hz1' hc hO hPr hst q3 q4
      generalize z j = x at *
      obtain ⟨k, hk⟩ : ∃ k, k = S j := ⟨_, rfl⟩
      obtain ⟨a, ha⟩ : ∃ a, a = smu S j := ⟨_, rfl⟩
      rw [← hk] at hz4' q1 q2
      rw [← ha] at q5 ⊢
      rw [← hk, ← ha] at C13
      have HK := Lib.hid hk
      have HA := Lib.hid ha
      clear hk ha
      have HSZ := Lib.hid hsz
      go_wp2_with (first
        | (go_at_call 13; ((with_reducible refine (C13.out).mono ?_); rintro e w5 ⟨rfl, h, hcx⟩; have H13 := Lib.hid h; have HP3 := Lib.hid (HP.out.cha hcx (by omega)); have HZ5 : Hid (B0 ≤ w5.heap.size) := Lib.hid (by have := hcx.size; omega); clear h hcx))
        | (at_builtin; refine wpList_append_where _ rfl _ _ 53 rfl B0 3 i0 (.int .i64 0) 1 8 Try.underlying53 hi hz0 hz1 hz2 rfl (by decide) _ _ _ rfl (HP3.out.l.alloc _) ⟨w5.heap.size, 0, none⟩ 1 1 [.int .i64 (a : Int)] rfl rfl (one_new _ _ _) (one_int _) (by unfold maxLen; omega) (by omega) (by rw [World.size_alloc]; have := HZ5.out; omega) ?_; intro u' w6 hown' hgrow hwh; have HQ := Lib.hid (HP3.out.left (o := .cells #[.int .i64 (a : Int)] 3) (by rw [← HA.out]; exact hown') hgrow hwh); have HG := Lib.hid (((Cha.refl (fun i => B0 ≤ i) w5).alloc (.cells #[.int .i64 (a : Int)] 3)).trans (Cha.of_grownBy (S := fun i => B0 ≤ i) hgrow (own_base HP3.out.l))); have HZ6 : Hid (B0 ≤ w6.heap.size) := Lib.hid (by have := HG.out.size; have := HZ5.out; omega); clear hown' hgrow hwh)
        | (at_builtin; refine wpList_append_where _ rfl _ _ 53 rfl B0 3 i0 (.int .i64 0) 1 8 Try.underlying53 hi hz0 hz1 hz2 rfl (by decide) _ _ _ rfl (HQ.out.r.alloc _) ⟨w6.heap.size, 0, none⟩ 1 1 [.int .i64 (k : Int)] rfl rfl (one_new _ _ _) (one_int _) (by unfold maxLen; omega) (by omega) (by rw [World.size_alloc]; have := HZ6.out; omega) ?_; intro v' w7 hown' hgrow hwh; have HR := Lib.hid (HQ.out.right (o := .cells #[.int .i64 (k : Int)] 3) (by rw [← HK.out]; exact hown') hgrow hwh); have HG2 := Lib.hid (HG.out.trans (((Cha.refl (fun i => B0 ≤ i) w6).alloc (.cells #[.int .i64 (k : Int)] 3)).trans (Cha.of_grownBy (S := fun i => B0 ≤ i) hgrow (own_base HQ.out.r)))); have HZ7 : Hid (B0 ≤ w7.heap.size) := Lib.hid (by have := HG2.out.size; have := HZ5.out; omega); clear hown' hgrow hwh))
      go_roundw
      case rel =>
        refine ⟨_, _, j + 1, rfl, rfl, by omega, by go_num, ?_, HR.out, ?_, HZ7.out⟩
        · rw [HST.out, ← HK.out, ← HA.out]; go_num
        · have h := H13.out
          rw [HST.out, ← HK.out, ← HA.out]
          exact ⟨h.pg.cha HG2.out (by omega) (by omega), h.cha.over HG2.out (fun i hi => .inr (by omega)), h.new⟩
      case measure => simp [intOf]; omega
    · obtain rfl : j = M := by omega
      have HO := Lib.hid hO
      have HP := Lib.hid hPr
      have HC := Lib.hid (covers_pre (S := S) (m := j) HSR.out hM1)
      clear hO hPr HS HSR
      have hu : ∃ a c, u = .slice a j c := by
        rcases HP.out.l.2 with ⟨e, e0⟩ | ⟨g, cap, _, e, _⟩
        · exact ⟨none, 0, by rw [e, e0]⟩
        · exact ⟨_, _, e⟩
      have hv : ∃ a c, v = .slice a j c := by
        rcases HP.out.r.2 with ⟨e, e0⟩ | ⟨g, cap, _, e, _⟩
        · exact ⟨none, 0, by rw [e, e0]⟩
        · exact ⟨_, _, e⟩
      obtain ⟨e1, cap1, rfl⟩ := hu
      obtain ⟨e2, cap2, rfl⟩ := hv
      obtain ⟨g1, g2, hg⟩ : ∃ g1 g2, 0 < j → e1 = some ⟨g1, 0, none⟩ ∧ e2 = some ⟨g2, 0, none⟩ ∧ B0 ≤ g1 ∧ B0 ≤ g2 ∧ g1 ≠ g2 ∧ cap1 ≤ maxLen ∧ cap2 ≤ maxLen ∧ Arr wr g1 cap1 j (smu S) ∧ Arr wr g2 cap2 j S := by
        by_cases h0 : 0 < j
        · obtain ⟨g1, r1, r2, r3, r4⟩ := arr_of_own HP.out.l h0
          obtain ⟨g2, t1, t2, t3, t4⟩ := arr_of_own HP.out.r h0
          exact ⟨g1, g2, fun _ => ⟨r1, t1, r2, t2, fun e => HP.out.far g1 (by rw [r1]; rfl) (by rw [t1, e]; rfl), r3, t3, r4, t4⟩⟩
        · exact ⟨0, 0, fun h => absurd h h0⟩
      have HGG := Lib.hid hg
      clear hg HP
      go_wp2
      go_loopw [7, 8, 15] (fun u v i wr => ∃ (m t : Nat) (A S' : Nat → Nat) (us : Nat → Bool), t + m = j ∧ u = .slice e1 m cap1 ∧ v = .slice e2 m cap2 ∧ i = .int .i64 (t : Int) ∧ (0 < m → Arr wr g1 cap1 m A ∧ Arr wr g2 cap2 m S') ∧ Covers us m A S' ∧ Ow w wr bm bp 4096 us) (fun _ _ i _ => j - (intOf i).toNat)
      case atStart => exact ⟨j, 0, _, _, _, by omega, rfl, rfl, rfl, fun h => ⟨(HGG.out h).2.2.2.2.2.2.2.1, (HGG.out h).2.2.2.2.2.2.2.2⟩, HC.out, HO.out⟩
      case round =>
        have HG3 : Hid (0 < j → e1 = some ⟨g1, 0, none⟩ ∧ e2 = some ⟨g2, 0, none⟩ ∧ B0 ≤ g1 ∧ B0 ≤ g2 ∧ g1 ≠ g2 ∧ cap1 ≤ maxLen ∧ cap2 ≤ maxLen) := Lib.hid fun h => by
          obtain ⟨k1, k2, k3, k4, k5, k6, k7, _⟩ := HGG.out h
          exact ⟨k1, k2, k3, k4, k5, k6, k7⟩
        clear HGG HC HO
        obtain ⟨m, t, A, S', us, htm, rfl, rfl, rfl, hAr, hCv, hO⟩ := hrel
        by_cases hm0 : 0 < m
        · obtain ⟨rfl, rfl, b1, b2, b3, b4, b5⟩ := HG3.out (by omega)
          unfold maxLen at b4 b5
          obtain ⟨hr1, hr2⟩ := hAr hm0
          have le1 := hr1.le
          have le2 := hr2.le
          obtain ⟨m', hmm⟩ : ∃ m', m = m' + 1 := ⟨m - 1, by omega⟩
          have hq : (m : Int) - 1 = (m' : Int) := by omega
          have HM := Lib.hid hmm
          have HR1 := Lib.hid hr1
          have HR2 := Lib.hid hr2
          have HCV := Lib.hid hCv
          have HO := Lib.hid hO
          have HTM := Lib.hid htm
          have htl : t < j := by omega
          clear hmm hr1 hr2 hCv hO hAr htm
          have fr1 := fun i => HR1.out.free i
          by_cases hto : t < n2
          · obtain ⟨b, o, z, rfl, hz⟩ := H2.out.2.2.2 (by omega)
            obtain ⟨zz1, zz2⟩ := hz t hto
            have hc := (HO.out.cha.old b (block_lt_of_cell zz1) (fun x => x))
            have hcell : wr.cell? ⟨b, o + t, none⟩ = some (.int .u8 (z t)) := (World.cell?_of_block (a := ⟨b, o + t, none⟩) hc).trans zz1
            have hlo := u8_lo zz2
            have hhi := u8_hi zz2
            clear hz zz1 zz2 hc
            generalize z t = x at *
            obtain ⟨jx, hjq⟩ : ∃ jx : Nat, x % (m : Int) = (jx : Int) := ⟨(x % (m : Int)).toNat, by have := Int.emod_nonneg x (show (m : Int) ≠ 0 by omega); omega⟩
            have hjx : jx < m := by have := Int.emod_lt_of_pos x (show 0 < (m : Int) by omega); omega
            have hA1 := HR1.out.cell (i := jx) hjx
            have hA2 := HR2.out.cell (i := jx) hjx
            have hB1 := HR1.out.cell (i := m') (by have := HM.out; omega)
            have hB2 := HR2.out.cell (i := m') (by have := HM.out; omega)
            obtain ⟨ch1, ch2⟩ := HCV.out.chn (j := jx) hjx
            have C17 := Lib.hid fun (W : World) h => ow_free2 (w := w) (W := W) (bm := bm) (bp := bp) ch1 (by have := HCV.out.rng jx hjx; omega) h
            have D17 := Lib.hid fun (W : World) h => ow_free2 (w := w) (W := W) (bm := bm) (bp := bp) ch2 (by have := HCV.out.rng jx hjx; omega) h
            have HCN := Lib.hid (show Covers _ m' _ _ from Covers.drop (m := m') (j := jx) (by rw [← HM.out]; exact HCV.out) (by rw [← HM.out]; exact hjx))
            clear ch1 ch2
            have KY : Hid (∀ W', Cha (· = bp) wr W' → (W'.cell? ⟨g1, jx, none⟩ = some (.int .i64 (A jx : Int)) ∧ W'.cell? ⟨g2, jx, none⟩ = some (.int .i64 (S' jx : Int))) ∧ Arr W' g1 cap1 m A ∧ Arr W' g2 cap2 m S') := Lib.hid fun W' hc =>
              have k1 := HR1.out.cha hc (by omega)
              have k2 := HR2.out.cha hc (by omega)
              ⟨⟨k1.cell hjx, k2.cell hjx⟩, k1, k2⟩
            go_wp2_with fail
            obtain ⟨⟨k1, k2⟩, k3, k4⟩ := KY.out wr.drew ((Cha.refl _ wr).drew)
            have HO2 := Lib.hid (HO.out.same ((Cha.refl _ wr).drew))
            have KZ : Hid (∀ W', Cha (· = bp) wr.drew W' → W'.cell? ⟨g1, jx, none⟩ = some (.int .i64 (A jx : Int)) ∧ W'.cell? ⟨g2, jx, none⟩ = some (.int .i64 (S' jx : Int))) := Lib.hid fun W' hc => (KY.out W' (((Cha.refl _ wr).drew).trans hc)).1
            have fr1' := fr1
            clear k3 k4 fr1 fr1'
            go_region_held3 (fun w' => w'.cell? ⟨g1, jx, none⟩ = some (.int .i64 (A jx : Int)) ∧ w'.cell? ⟨g2, jx, none⟩ = some (.int .i64 (S' jx : Int)))
              (first
                | go_keep
                | exact ⟨k1, k2⟩
                | exact KZ.out _ (by assumption))
              (first
                | (go_at_call 17; refine (C17.out wr.drew HO2.out).mono ?_; rintro e5 w5 ⟨rfl, hH, hD⟩)
                | (go_at_call 17; refine (D17.out w5 hH).mono ?_; rintro e6 w6 ⟨rfl, hN, hD2⟩; have hD3 : Cha (· = bp) wr.drew w6 := hD.trans hD2))
            all_goals
              obtain ⟨_, p3, p4⟩ := KY.out w6 (((Cha.refl _ wr).drew).trans hD3)
              have HN := Lib.hid hN
              have c1 := p3.cell (i := m') (by have := HM.out; omega)
              have c2 := p4.cell (i := m') (by have := HM.out; omega)
              have f1 := p3.free jx
              have f2 := p4.free jx
              have b6 : ¬ g2 = g1 := fun e => b3 e.symm
              have hm6 : m' < m := by have := HM.out; omega
              have R3 := Lib.hid (Arr.drop (m := m') (j := jx) (by rw [← HM.out]; exact p3) (by rw [← HM.out]; exact hjx))
              have R4 := Lib.hid (Arr.drop (m := m') (j := jx) (by rw [← HM.out]; exact p4.of (heap_setCell_other w6 ⟨g1, jx, none⟩ g2 (.int .i64 (A m' : Int)) b6)) (by rw [← HM.out]; exact hjx))
              clear hN hD3 hD2 hD hH k1 k2 HO2 KZ KY C17 D17 p3 p4
              go_wp2
              go_roundw
              case rel =>
                have hcc : Cha (fun i => B0 ≤ i) w6 ((w6.setCell ⟨g1, jx, none⟩ (.int .i64 (A m' : Int))).setCell ⟨g2, jx, none⟩ (.int .i64 (S' m' : Int))) := ((Cha.refl _ w6).setCell (p := ⟨g1, jx, none⟩) (fun _ => b1) _).setCell (p := ⟨g2, jx, none⟩) (fun _ => b2) _
                refine ⟨m', t + 1, _, _, _, by have := HM.out; have := HTM.out; omega, rfl, rfl, by go_num, fun _ => ⟨R3.out.of (heap_setCell_other _ _ _ _ b3), R4.out⟩, HCN.out, HN.out.pg.cha hcc (by omega) (by omega), HN.out.cha.over hcc (fun i hi => .inr (by omega)), HN.out.new⟩
              case measure => simp [intOf]; omega
          · have hjx : 0 < m := hm0
            have hA1 := HR1.out.cell (i := 0) hjx
            have hA2 := HR2.out.cell (i := 0) hjx
            have hB1 := HR1.out.cell (i := m') (by have := HM.out; omega)
            have hB2 := HR2.out.cell (i := m') (by have := HM.out; omega)
            obtain ⟨ch1, ch2⟩ := HCV.out.chn (j := 0) hjx
            have C17 := Lib.hid fun (W : World) h => ow_free2 (w := w) (W := W) (bm := bm) (bp := bp) ch1 (by have := HCV.out.rng 0 hjx; omega) h
            have D17 := Lib.hid fun (W : World) h => ow_free2 (w := w) (W := W) (bm := bm) (bp := bp) ch2 (by have := HCV.out.rng 0 hjx; omega) h
            have HCN := Lib.hid (show Covers _ m' _ _ from Covers.drop (m := m') (j := 0) (by rw [← HM.out]; exact HCV.out) (by rw [← HM.out]; exact hjx))
            clear ch1 ch2
            have KY : Hid (∀ W', Cha (· = bp) wr W' → (W'.cell? ⟨g1, 0, none⟩ = some (.int .i64 (A 0 : Int)) ∧ W'.cell? ⟨g2, 0, none⟩ = some (.int .i64 (S' 0 : Int))) ∧ Arr W' g1 cap1 m A ∧ Arr W' g2 cap2 m S') := Lib.hid fun W' hc =>
              have k1 := HR1.out.cha hc (by omega)
              have k2 := HR2.out.cha hc (by omega)
              ⟨⟨k1.cell hjx, k2.cell hjx⟩, k1, k2⟩
            go_wp2_with fail
            obtain ⟨⟨k1, k2⟩, k3, k4⟩ := KY.out wr.drew ((Cha.refl _ wr).drew)
            have HO2 := Lib.hid (HO.out.same ((Cha.refl _ wr).drew))
            have KZ : Hid (∀ W', Cha (· = bp) wr.drew W' → W'.cell? ⟨g1, 0, none⟩ = some (.int .i64 (A 0 : Int)) ∧ W'.cell? ⟨g2, 0, none⟩ = some (.int .i64 (S' 0 : Int))) := Lib.hid fun W' hc => (KY.out W' (((Cha.refl _ wr).drew).trans hc)).1
            have fr1' := fr1
            clear k3 k4 fr1 fr1'
            go_region_held3 (fun w' => w'.cell? ⟨g1, 0, none⟩ = some (.int .i64 (A 0 : Int)) ∧ w'.cell? ⟨g2, 0, none⟩ = some (.int .i64 (S' 0 : Int)))
              (first
                | go_keep
                | exact ⟨k1, k2⟩
                | exact KZ.out _ (by assumption))
              (first
                | (go_at_call 17; refine (C17.out wr.drew HO2.out).mono ?_; rintro e5 w5 ⟨rfl, hH, hD⟩)
                | (go_at_call 17; refine (D17.out w5 hH).mono ?_; rintro e6 w6 ⟨rfl, hN, hD2⟩; have hD3 : Cha (· = bp) wr.drew w6 := hD.trans hD2))
            all_goals
              obtain ⟨_, p3, p4⟩ := KY.out w6 (((Cha.refl _ wr).drew).trans hD3)
              have HN := Lib.hid hN
              have c1 := p3.cell (i := m') (by have := HM.out; omega)
              have c2 := p4.cell (i := m') (by have := HM.out; omega)
              have f1 := p3.free 0
              have f2 := p4.free 0
              have b6 : ¬ g2 = g1 := fun e => b3 e.symm
              have hm6 : m' < m := by have := HM.out; omega
              have R3 := Lib.hid (Arr.drop (m := m') (j := 0) (by rw [← HM.out]; exact p3) (by rw [← HM.out]; exact hjx))
              have R4 := Lib.hid (Arr.drop (m := m') (j := 0) (by rw [← HM.out]; exact p4.of (heap_setCell_other w6 ⟨g1, 0, none⟩ g2 (.int .i64 (A m' : Int)) b6)) (by rw [← HM.out]; exact hjx))
              clear hN hD3 hD2 hD hH k1 k2 HO2 KZ KY C17 D17 p3 p4
              go_wp2
              go_roundw
              case rel =>
                have hcc : Cha (fun i => B0 ≤ i) w6 ((w6.setCell ⟨g1, 0, none⟩ (.int .i64 (A m' : Int))).setCell ⟨g2, 0, none⟩ (.int .i64 (S' m' : Int))) := ((Cha.refl _ w6).setCell (p := ⟨g1, 0, none⟩) (fun _ => b1) _).setCell (p := ⟨g2, 0, none⟩) (fun _ => b2) _
                refine ⟨m', t + 1, _, _, _, by have := HM.out; have := HTM.out; omega, rfl, rfl, by go_num, fun _ => ⟨R3.out.of (heap_setCell_other _ _ _ _ b3), R4.out⟩, HCN.out, HN.out.pg.cha hcc (by omega) (by omega), HN.out.cha.over hcc (fun i hi => .inr (by omega)), HN.out.new⟩
              case measure => simp [intOf]; omega
        · obtain rfl : m = 0 := by omega
          obtain ⟨q1, q2⟩ := none_used hCv
          have C18 := counts_any bm bp 4096 us wr hO.pg
          rw [q1, q2] at C18
          have C18 := Lib.hid C18
          have HO := Lib.hid hO
          clear hO hCv hAr HG3 q1 q2
          go_wp2_with (go_at_call 18; ((with_reducible refine (C18.out).mono ?_); rintro e w5 ⟨rfl, hc⟩; have HE := Lib.hid (HO.out.cha.trans hc); clear hc))
          go_ret
          exact ⟨rfl, HE.out⟩
end Go.Proofs.Ytgglcfmnhiakcaa
