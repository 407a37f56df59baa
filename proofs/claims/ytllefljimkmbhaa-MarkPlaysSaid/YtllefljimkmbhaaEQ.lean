/- MarkPlays: its walk. -/
import Derived.Test.YtllefljimkmbhaaEP
import Derived.Test.YtllefljimkmbhaaAB
import Derived.Deep.CutBlock
import Derived.Deep.RegionHeld3
namespace Go.Proofs.Ytllefljimkmbhaa
open Go.ChangeShapes Go.WideShapes Go.ChangeAt Go.RowKit

def opc (z0 z1 z2 z3 : Int) : Array Value := #[.int .i64 z0, .int .i64 z1, .int .i64 z2, .int .i64 z3]
set_option maxRecDepth 100000 in
set_option maxHeartbeats 16000000 in
theorem plays_walk (s : Option Addr) (len c : Nat) (w : World) (hlen : len ≤ 9223372036854775807)
    (hs : 0 < len → ∃ (b o : Nat), s = some ⟨b, o, none⟩ ∧ ∀ i, i < len → ∃ z0 z1 z2 z3, OpAt w b (o + i * 4) z0 z1 z2 z3) :
    Calls Try.prog 3 #[.slice s len c] w fun e w' => e = .returned (.bool true) ∧ Cha (fun _ => False) w w' := by
  have A9 := Lib.hid (duet_new (Cha.refl (fun _ => False) w))
  have A11 : Hid (∀ W bg bd, Mine w (Duet bg bd Gr.new Gr.new) W → Calls Try.prog 11 #[] W fun e W' => e = .returned (.bool true) ∧ Mine w (Duet bg bd Gr.new Gr.new) W') := Lib.hid fun W bg bd h => (awake_any W).mono fun _ _ ⟨a, c⟩ => ⟨a, h.same (fit_duet _ _ _ _) c⟩
  have HS := Lib.hid hs
  clear hs
  go_enter Try.func3, Try.ntmps3
  go_wp2_with (first
    | (go_at_call 9; ((with_reducible refine (A9.out).mono ?_); rintro e w1 ⟨bg, rfl, h⟩; have A10 := Lib.hid h; clear h))
    | (go_at_call 10; ((with_reducible refine (A10.out).mono ?_); rintro e w2 ⟨bd, rfl, h⟩; have B11 := Lib.hid (A11.out _ _ _ h); clear h))
    | (go_at_call 11; ((with_reducible refine (B11.out).mono ?_); rintro e w3 ⟨rfl, h⟩; have H12 := Lib.hid h; clear h)))
  clear A9 A10 A11 B11
  go_loopw [33] (fun i wr => ∃ j : Nat, j ≤ len ∧ i = .int .i64 (j : Int) ∧ ∃ g, Mine w (Duet bg bd g g) wr) (fun i _ => len - (intOf i).toNat)
  case atStart => exact ⟨0, Nat.zero_le _, rfl, _, H12.out⟩
  case round =>
    clear H12
    obtain ⟨j, hj, rfl, g, hD⟩ := hrel
    by_cases hlt : j < len
    · obtain ⟨b, o, rfl, hz⟩ := HS.out (by omega)
      obtain ⟨z0, z1, z2, z3, hop⟩ := hz j hlt
      have hop := hop.cha hD.cha
      have HR := Lib.hid hop.cells
      have HB : Hid (Mine w (Three bg bd wr.heap.size (opc z0 z1 z2 z3) g g) (wr.alloc (.cells #[.int .i64 z0, .int .i64 z1, .int .i64 z2, .int .i64 z3] 29))) := Lib.hid (three_put hD (opc z0 z1 z2 z3))
      have KX : Hid (∀ W gp gd, Mine w (Three bg bd wr.heap.size (opc z0 z1 z2 z3) gp gd) W → W.cell? ⟨wr.heap.size, 1, none⟩ = some (.int .i64 z1) ∧ W.cell? ⟨wr.heap.size, 2, none⟩ = some (.int .i64 z2) ∧ W.cell? ⟨wr.heap.size, 3, none⟩ = some (.int .i64 z3)) := Lib.hid fun W s' t' h => ⟨three_cell h 1, three_cell h 2, three_cell h 3⟩
      clear hz hop hD
      go_upto_block 2 with (refine wpList_load_mid rfl 29 (.tmp 35) rfl b (o + j * 4) rfl _ _ HR.out Try.underlying29 rfl (by kernel_rfl) ?_)
      go_cut [7] (fun v wx => v = .bool true ∧ ∃ gn, Mine w (Three bg bd wr.heap.size (opc z0 z1 z2 z3) gn gn) wx)
      case first =>
        as_aux_lemma =>
          obtain ⟨K, hi⟩ := three_inv HB.out
          have HI := Lib.hid hi
          clear hi
          generalize hWb : wr.alloc (.cells #[.int .i64 z0, .int .i64 z1, .int .i64 z2, .int .i64 z3] 29) = Wb at *
          clear hWb HR
          obtain ⟨k1, k2, k3⟩ := KX.out _ _ _ HB.out
          generalize wr.heap.size = ob at *
          by_cases h0 : z0 = 0
          · subst h0
            obtain ⟨x, y, gn, q1, q2⟩ := pair_add (w0 := w) (bg := bg) (bd := bd) (ob := ob) (cs := opc 0 z1 z2 z3) HI.out z1
            have CP := Lib.hid q1
            have CD := Lib.hid q2
            clear q1 q2
            go_wp2_with (first
              | (go_at_call 12; ((with_reducible refine (CP.out _ HB.out).mono ?_); rintro e w5 ⟨rfl, h⟩; have H5 := Lib.hid h; obtain ⟨l1, l2, l3⟩ := KX.out _ _ _ h; clear h))
              | (go_at_call 13; ((with_reducible refine (CD.out _ H5.out).mono ?_); rintro e w6 ⟨rfl, h⟩; have H6 := Lib.hid h; clear h)))
            go_meet
            exact ⟨by first | rfl | simp, gn, H6.out⟩
          · have h01 : (z0 == 0) = false := by simpa using h0
            by_cases h1 : z0 = 1
            · subst h1
              clear h0 h01
              obtain ⟨x, gn, q1, q2⟩ := pair_drop (w0 := w) (bg := bg) (bd := bd) (ob := ob) (cs := opc 1 z1 z2 z3) HI.out z1
              have CP := Lib.hid q1
              have CD := Lib.hid q2
              clear q1 q2
              have KS : Hid (∀ w' gp gd, Mine w (Three bg bd ob (opc 1 z1 z2 z3) gp gd) w' → w'.cell? ⟨ob, 1, none⟩ = some (.int .i64 z1)) := Lib.hid fun W gp gd h => (KX.out _ _ _ h).1
              go_wp2
              have HB1 := Lib.hid (three_same HB.out ((Cha.refl _ Wb).drew))
              go_region_held3 (fun w' => w'.cell? ⟨ob, 1, none⟩ = some (.int .i64 z1))
                (first
                  | go_keep
                  | exact k1
                  | exact KS.out _ _ _ (by assumption))
                (first
                  | (go_at_call 14; refine (CP.out _ HB1.out).mono ?_; rintro e5 w5 ⟨rfl, hH5⟩)
                  | (go_at_call 15; refine (CD.out _ hH5).mono ?_; rintro e6 w6 ⟨rfl, hH6⟩))
              all_goals
                have H6 := Lib.hid hH6
                clear hH5 hH6
                go_wp2
                go_meet
                exact ⟨by first | rfl | simp, gn, H6.out⟩
            · have h11 : (z0 == 1) = false := by simpa using h1
              by_cases h2 : z0 = 2
              · subst h2
                clear h0 h01 h1 h11
                obtain ⟨x, gn, q1, q2⟩ := pair_root (w0 := w) (bg := bg) (bd := bd) (ob := ob) (cs := opc 2 z1 z2 z3) HI.out z1 z2
                have CP := Lib.hid q1
                have CD := Lib.hid q2
                clear q1 q2
                have KS : Hid (∀ w' gp gd, Mine w (Three bg bd ob (opc 2 z1 z2 z3) gp gd) w' → w'.cell? ⟨ob, 1, none⟩ = some (.int .i64 z1) ∧ w'.cell? ⟨ob, 2, none⟩ = some (.int .i64 z2)) := Lib.hid fun W gp gd h => ⟨(KX.out _ _ _ h).1, (KX.out _ _ _ h).2.1⟩
                go_wp2
                have HB1 := Lib.hid (three_same HB.out ((Cha.refl _ Wb).drew))
                go_region_held3 (fun w' => w'.cell? ⟨ob, 1, none⟩ = some (.int .i64 z1) ∧ w'.cell? ⟨ob, 2, none⟩ = some (.int .i64 z2))
                  (first
                    | go_keep
                    | exact ⟨k1, k2⟩
                    | exact KS.out _ _ _ (by assumption))
                  (first
                    | (go_at_call 16; refine (CP.out _ HB1.out).mono ?_; rintro e5 w5 ⟨rfl, hH5⟩)
                    | (go_at_call 17; refine (CD.out _ hH5).mono ?_; rintro e6 w6 ⟨rfl, hH6⟩))
                all_goals
                  have H6 := Lib.hid hH6
                  clear hH5 hH6
                  go_wp2
                  go_meet
                  exact ⟨by first | rfl | simp, gn, H6.out⟩
              · have h21 : (z0 == 2) = false := by simpa using h2
                by_cases h3 : z0 = 3
                · subst h3
                  clear h0 h01 h1 h11 h2 h21
                  obtain ⟨x, gn, q1, q2⟩ := pair_set (w0 := w) (bg := bg) (bd := bd) (ob := ob) (cs := opc 3 z1 z2 z3) HI.out z1 z2 z3
                  have CP := Lib.hid q1
                  have CD := Lib.hid q2
                  clear q1 q2
                  have KS : Hid (∀ w' gp gd, Mine w (Three bg bd ob (opc 3 z1 z2 z3) gp gd) w' → w'.cell? ⟨ob, 1, none⟩ = some (.int .i64 z1) ∧ w'.cell? ⟨ob, 2, none⟩ = some (.int .i64 z2) ∧ w'.cell? ⟨ob, 3, none⟩ = some (.int .i64 z3)) := Lib.hid fun W gp gd h => KX.out _ _ _ h
                  go_wp2
                  have HB1 := Lib.hid (three_same HB.out ((Cha.refl _ Wb).drew))
                  go_region_held3 (fun w' => w'.cell? ⟨ob, 1, none⟩ = some (.int .i64 z1) ∧ w'.cell? ⟨ob, 2, none⟩ = some (.int .i64 z2) ∧ w'.cell? ⟨ob, 3, none⟩ = some (.int .i64 z3))
                    (first
                      | go_keep
                      | exact ⟨k1, k2, k3⟩
                      | exact KS.out _ _ _ (by assumption))
                    (first
                      | (go_at_call 18; refine (CP.out _ HB1.out).mono ?_; rintro e5 w5 ⟨rfl, hH5⟩)
                      | (go_at_call 19; refine (CD.out _ hH5).mono ?_; rintro e6 w6 ⟨rfl, hH6⟩))
                  all_goals
                    have H6 := Lib.hid hH6
                    clear hH5 hH6
                    go_wp2
                    go_meet
                    exact ⟨by first | rfl | simp, gn, H6.out⟩
                · have h31 : (z0 == 3) = false := by simpa using h3
                  by_cases h4 : z0 = 4
                  · subst h4
                    clear h0 h01 h1 h11 h2 h21 h3 h31
                    obtain ⟨x, gn, q1, q2⟩ := pair_start (w0 := w) (bg := bg) (bd := bd) (ob := ob) (cs := opc 4 z1 z2 z3) HI.out
                    have CP := Lib.hid q1
                    have CD := Lib.hid q2
                    clear q1 q2
                    go_wp2_with (first
                      | (go_at_call 20; ((with_reducible refine (CP.out _ HB.out).mono ?_); rintro e w5 ⟨rfl, h⟩; have H5 := Lib.hid h; clear h))
                      | (go_at_call 21; ((with_reducible refine (CD.out _ H5.out).mono ?_); rintro e w6 ⟨rfl, h⟩; have H6 := Lib.hid h; clear h)))
                    go_meet
                    exact ⟨by first | rfl | simp, gn, H6.out⟩
                  · have h41 : (z0 == 4) = false := by simpa using h4
                    by_cases h5 : z0 = 5
                    · subst h5
                      clear h0 h01 h1 h11 h2 h21 h3 h31 h4 h41
                      obtain ⟨x, y, gn, q1, q2⟩ := pair_work (w0 := w) (bg := bg) (bd := bd) (ob := ob) (cs := opc 5 z1 z2 z3) HI.out
                      have CP := Lib.hid q1
                      have CD := Lib.hid q2
                      clear q1 q2
                      go_wp2_with (first
                        | (go_at_call 22; ((with_reducible refine (CP.out _ HB.out).mono ?_); rintro e w5 ⟨rfl, h⟩; have H5 := Lib.hid h; clear h))
                        | (go_at_call 23; ((with_reducible refine (CD.out _ H5.out).mono ?_); rintro e w6 ⟨rfl, h⟩; have H6 := Lib.hid h; clear h)))
                      go_meet
                      exact ⟨by first | rfl | simp, gn, H6.out⟩
                    · have h51 : (z0 == 5) = false := by simpa using h5
                      go_wp2
                      go_meet
                      exact ⟨rfl, g, HB.out⟩
      case rest =>
        as_aux_lemma =>
          obtain ⟨rfl, sn, hB⟩ := hcut
          obtain ⟨K, hi⟩ := three_inv hB
          have HB2 := Lib.hid hB
          clear hB HB HR
          generalize wr.heap.size = ob at *
          generalize (opc z0 z1 z2 z3) = cs at *
          obtain ⟨k1, k2, -⟩ := KX.out _ _ _ HB2.out
          obtain ⟨g1, g2, q24, q25⟩ := look_get (w0 := w) (bg := bg) (bd := bd) (ob := ob) (cs := cs) hi z1 z2
          obtain ⟨hx, q28, q29⟩ := look_has (w0 := w) (bg := bg) (bd := bd) (ob := ob) (cs := cs) hi z1
          obtain ⟨p1, p2, p3, q26, q27, qk, q31, q30⟩ := look_counts (w0 := w) (bg := bg) (bd := bd) (ob := ob) (cs := cs) hi
          have C24 := Lib.hid q24
          have C25 := Lib.hid q25
          have C26 := Lib.hid q26
          have C27 := Lib.hid q27
          have C28 := Lib.hid q28
          have C29 := Lib.hid q29
          have C30 := Lib.hid q30
          have C31 := Lib.hid q31
          have CK := Lib.hid qk
          clear q24 q25 q26 q27 q28 q29 q30 q31 qk hi
          have r1 : (g1 != g1) = false := by simp
          have r2 : (g2 != g2) = false := by simp
          have r3 : (p1 != p1) = false := by simp
          have r4 : (p2 != p2) = false := by simp
          have r5 : (p3 != p3) = false := by simp
          have r6 : (hx != hx) = false := by simp
          go_wp2_with (first
            | (go_at_call 24; ((with_reducible refine (C24.out _ HB2.out).mono ?_); rintro e w5 ⟨rfl, h⟩; have H5 := Lib.hid h; obtain ⟨l1, l2, -⟩ := KX.out _ _ _ h; clear h))
            | (go_at_call 25; ((with_reducible refine (C25.out _ H5.out).mono ?_); rintro e w6 ⟨rfl, h⟩; have H6 := Lib.hid h; clear h))
            | (go_at_call 26; ((with_reducible refine (C26.out _ H6.out).mono ?_); rintro e w7 ⟨rfl, h⟩; have H7 := Lib.hid h; clear h)))
          have H8 := Lib.hid (three_same H7.out (Cha.refl _ w7).drew)
          obtain ⟨a, n, k, u3, u6, u1, UK⟩ := CK.out _ H8.out
          obtain ⟨v1, -, -⟩ := KX.out _ _ _ H8.out
          have UK := Lib.hid UK
          have H9 : Hid (∀ W, Cha (fun _ => False) w7.drew W → Mine w (Three bg bd ob cs sn sn) W) := Lib.hid fun W c => three_same H8.out c
          have KZ : Hid (∀ w', Cha (fun _ => False) w7.drew w' → w'.cell? ⟨bd, 3, none⟩ = some (.int .i64 p1) ∧ w'.cell? ⟨bd, 6, none⟩ = some (.int .i64 p2) ∧ w'.cell? ⟨bd, 1, none⟩ = some (.slice a n k) ∧ w'.cell? ⟨ob, 1, none⟩ = some (.int .i64 z1)) :=
            Lib.hid fun W c => ⟨(UK.out W c).1, (UK.out W c).2.1, (UK.out W c).2.2.1, (KX.out _ _ _ (H9.out W c)).1⟩
          clear C24 C25 C26 H5 H6 H7 HB2 k1 k2 l1 l2
          go_region_held3 (fun w' => w'.cell? ⟨bd, 3, none⟩ = some (.int .i64 p1) ∧ w'.cell? ⟨bd, 6, none⟩ = some (.int .i64 p2) ∧ w'.cell? ⟨bd, 1, none⟩ = some (.slice a n k) ∧ w'.cell? ⟨ob, 1, none⟩ = some (.int .i64 z1))
            (first
              | exact ⟨u3, u6, u1, v1⟩
              | exact KZ.out _ (by assumption)
              | go_keep)
            (first
              | (go_at_call 27; refine (C27.out _ H8.out).mono ?_; rintro e5 w9 ⟨rfl, e9⟩)
              | (go_at_call 28; refine (C28.out _ (H9.out w9 e9)).mono ?_; rintro e6 w10 ⟨rfl, e10⟩; have e101 := e9.trans e10)
              | (go_at_call 29; refine (C29.out _ (H9.out w10 e101)).mono ?_; rintro e7 w11 ⟨rfl, e11⟩; have e111 := e101.trans e11)
              | (go_at_call 31; refine (C31.out _ (H9.out w11 e111)).mono ?_; rintro e8 w12 ⟨ra, rn, rc, rfl, rl, e12⟩; have e121 := e111.trans e12)
              | (go_at_call 30; refine (C30.out w12 _ _ rl (UK.out w12 e121).2.2.2).mono ?_; rintro e10 w13 ⟨rfl, e13⟩; have e131 := e121.trans e13))
          all_goals
            have HN := Lib.hid (three_off (H9.out _ e131))
            clear e9 e10 e101 e11 e111 e12 e121 e13 e131 rl
            go_wp2
            go_roundw
            case rel => exact ⟨j + 1, by omega, by go_num, sn, HN.out⟩
            case measure => simp [intOf]; omega
    · obtain rfl : j = len := by omega
      have HC := Lib.hid hD.cha
      clear hD
      go_wp2
      go_returns
      exact ⟨rfl, HC.out⟩
end Go.Proofs.Ytllefljimkmbhaa
