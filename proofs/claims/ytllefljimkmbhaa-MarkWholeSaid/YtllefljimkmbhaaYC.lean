/- MarkWhole: its walk. -/
import Derived.Test.YtllefljimkmbhaaYB
namespace Go.Proofs.Ytllefljimkmbhaa
open Go.ChangeShapes Go.WideShapes Go.ChangeAt Go.RowKit
set_option linter.unusedVariables false
variable {w0 W W' : World} {F : Nat → Prop} {bg bd : Nat} {g : Gr}

theorem wrap_one : wrap64 (0 + 1) = 1 := by unfold wrap64 Go.RowKit.wrap64; omega
theorem tcounts' {bs m : Nat} {X : Nat → Bool} (h : Mine w0 (Trio bg bd g bs m X) W) : Calls Try.prog 26 #[.pointer (some ⟨bg, 0, none⟩)] W fun e W' => e = .returned (.tuple #[.int .i64 g.ph, .int .i64 g.cyc, .int .i64 g.live]) ∧ Cha (fun _ => False) W W' := by
  obtain ⟨F, q, _⟩ := h
  obtain ⟨F1, F2, q1, _⟩ := q
  obtain ⟨F3, F4, p1, _⟩ := q1
  obtain ⟨K, vo, vr, vq, q, f, T, hi, p⟩ := p1.open
  exact counts_any p
theorem box_range {wq w5 : World} {z0 z1 z2 z3 : Int} (c : Cha (fun _ => False) (wq.alloc (.cells #[.int .i64 z0, .int .i64 z1, .int .i64 z2, .int .i64 z3] 29)) w5) : w5.rangeAt wq.heap.size 0 [.int .i64 z0, .int .i64 z1, .int .i64 z2, .int .i64 z3] := by
  intro j v hv
  have e := c.old wq.heap.size (by rw [World.size_alloc]; omega) (fun x => x)
  have e2 := heap_alloc_new wq (.cells #[.int .i64 z0, .int .i64 z1, .int .i64 z2, .int .i64 z3] 29)
  rw [e2] at e
  simpa [World.cell?, e] using hv
set_option maxRecDepth 100000 in
set_option maxHeartbeats 8000000 in
theorem whole_walk (s : Option Addr) (len c : Nat) (s2 : Option Addr) (l2 c2 : Nat) (s3 : Option Addr) (l3 c3 : Nat) (w : World) (hlen : len ≤ 9223372036854775807) (hcap : c ≤ 9223372036854775807) (hlc : len ≤ c)
    (hlen2 : l2 ≤ 9223372036854775807) (hcap2 : c2 ≤ 9223372036854775807) (hlc2 : l2 ≤ c2)
    (hs : 0 < len → ∃ (b o : Nat), s = some ⟨b, o, none⟩ ∧ ∀ i, i < len → ∃ z0 z1 z2 z3, OpAt w b (o + i * 4) z0 z1 z2 z3)
    (hs2 : 0 < l2 → ∃ (b o : Nat), s2 = some ⟨b, o, none⟩ ∧ ∀ i, i < l2 → ∃ z0 z1 z2 z3, OpAt w b (o + i * 4) z0 z1 z2 z3) (ht : NumsC .u8 w s3 l3 c3) :
    Calls Try.prog 5 #[.slice s len c, .slice s2 l2 c2, .slice s3 l3 c3] w fun e w' => e = .returned (.bool true) ∧ Cha (fun _ => False) w w' := by
  have A9 := Lib.hid (m9 (Cha.refl (fun _ => False) w))
  have A11 : Hid (∀ bg W1, Mine w (PgA bg Gr.new) W1 → Calls Try.prog 11 #[] ((W1.alloc (.cells #[.slice none 0 0] 50)).alloc (.cells #[.slice (some ⟨W1.heap.size, 0, none⟩) 1 1, .slice none 0 0] 61)) fun e W' => e = .returned (.bool true) ∧ Mine w (Duo bg (W1.heap.size + 1) Gr.new) W') := Lib.hid fun bg W1 h => by
    have h2 := duo_new h
    exact (awake_any _).mono fun _ _ ⟨a, c⟩ => ⟨a, h2.same (fit_duo _ _ _) c⟩
  have HS := Lib.hid hs
  have HS2 := Lib.hid hs2
  obtain ⟨hl3, hc3, hT1, hT2⟩ := ht
  have HT := Lib.hid hT2
  clear hs hs2 hT1 hT2
  obtain ⟨m, hm⟩ : ∃ m, min len 200 = m := ⟨_, rfl⟩
  have hml : m ≤ len := by omega
  have hmi : (if (200 : Int) < (len : Int) then (200 : Int) else (len : Int)) = (m : Int) := by split <;> omega
  have hm1 : m ≤ 200 := by omega
  obtain ⟨m2, hm2⟩ : ∃ m2, min l2 50 = m2 := ⟨_, rfl⟩
  have hml2 : m2 ≤ l2 := by omega
  have hmi2 : (if (50 : Int) < (l2 : Int) then (50 : Int) else (l2 : Int)) = (m2 : Int) := by split <;> omega
  have hm12 : m2 ≤ 50 := by omega
  go_enter Try.func5, Try.ntmps5
  go_wp2_with (first
    | (rw [mk_row])
    | (go_at_call 9; ((with_reducible refine (A9.out).mono ?_); rintro e w1 ⟨bg, rfl, h⟩; have B11 := Lib.hid (A11.out _ _ h); clear h A9))
    | (go_at_call 11; ((with_reducible refine (B11.out).mono ?_); rintro e w2 ⟨rfl, h⟩; have H2 := Lib.hid h; clear h A11 B11)))
  generalize w1.heap.size + 1 = bd at *
  clear hm hmi
  have HM : Hid (∀ W gr z0 z1 z2 z3, gr.n < 4000 → gr.roots.length ≤ 4000 → Mine w (Duo bg bd gr) W → Calls Try.prog 32 #[.pointer (some ⟨bg, 0, none⟩), .pointer (some ⟨bd, 0, none⟩), opV z0 z1 z2 z3] W fun e W' => e = .returned (.bool true) ∧ Mine w (Duo bg bd (gr.change z0 z1 z2 z3)) W') := Lib.hid fun W gr z0 z1 z2 z3 hn hr h => mchange h hn hr z0 z1 z2 z3
  go_loopw [41] (fun i wr => ∃ j : Nat, j ≤ m ∧ i = .int .i64 (j : Int) ∧ ∃ gr, gr.n ≤ j ∧ gr.roots.length ≤ j ∧ gr.ph = 0 ∧ gr.cyc = 0 ∧ Mine w (Duo bg bd gr) wr) (fun i _ => m - (intOf i).toNat)
  case atStart => exact ⟨0, Nat.zero_le _, rfl, Gr.new, Nat.le_refl _, Nat.le_refl _, rfl, rfl, H2.out⟩
  case round =>
    clear H2
    obtain ⟨j, hj, rfl, gr, hn, hr, hp, hcy, hD⟩ := hrel
    by_cases hlt : j < m
    · clear HS2 HT hm2 hmi2
      obtain ⟨b, o, rfl, hz⟩ := HS.out (by omega)
      obtain ⟨z0, z1, z2, z3, hop⟩ := hz j (by omega)
      have hop := hop.cha hD.cha
      have HR := Lib.hid hop.cells
      have HB := Lib.hid (hD.same (fit_duo _ _ _) ((Cha.refl (fun _ => False) wr).alloc (.cells #[.int .i64 z0, .int .i64 z1, .int .i64 z2, .int .i64 z3] 29)))
      have C1 := Lib.hid (HM.out _ gr z0 z1 z2 z3 (by omega) (by omega) HB.out)
      obtain ⟨t1, t2, t3, t4, _⟩ := change_size (g := gr) z0 z1 z2 z3
      generalize gr.change z0 z1 z2 z3 = g1 at *
      clear hz hop hD HS HB HM
      go_wp2_with (first
        | (refine wpList_load_mid rfl 29 (.tmp 43) rfl b (o + j * 4) rfl _ _ HR.out Try.underlying29 rfl (by kernel_rfl) ?_)
        | (go_at_call 32; (refine (C1.out).mono ?_; rintro e w3 ⟨rfl, h⟩; have H3 := Lib.hid h; clear h)))
      go_roundw
      case rel => exact ⟨j + 1, hlt, by go_num, g1, by omega, by omega, by omega, by omega, H3.out⟩
      case measure => simp [intOf]; omega
    · obtain rfl : j = m := by omega
      obtain ⟨K, hi⟩ := mduo_inv hD
      have hW0 : Whole gr gr.startR.2 := Whole.start hi hp hcy
      have hst : gr.startR.1 = 0 := by unfold Gr.startR; rw [if_pos hp]
      have T33 : Hid (Calls Try.prog 33 #[.pointer (some ⟨bd, 0, none⟩)] wr fun e W' => ∃ bs X, e = .returned (.slice (some ⟨bs, 0, none⟩) (gr.n + 1) (gr.n + 1)) ∧ X 0 = false ∧ (∀ id, X id = true ↔ Reach gr id) ∧ Calls Try.prog 20 #[.pointer (some ⟨bg, 0, none⟩)] W' fun e W' => e = .returned (.int .i64 0) ∧ Mine w (Trio bg bd gr.startR.2 bs (gr.n + 1) X) W') := Lib.hid ((mreach hD).mono fun e W' ⟨v, a, b, _⟩ => by
        obtain ⟨bs, X, rfl, x0, x, t⟩ := trio_of hD b
        have := tstart t
        rw [hst] at this
        exact ⟨bs, X, a, x0, x, this⟩)
      have HW0 := Lib.hid hW0
      have HI := Lib.hid hi
      clear hD hW0 hst hcy HM HS
      go_upto_block 2 with (first
        | (go_at_call 33; ((with_reducible refine (T33.out).mono ?_); rintro e w3 ⟨bs, X, rfl, x0, hX, h⟩; have HX := Lib.hid hX; have T20 := Lib.hid h; clear h hX T33))
        | (go_at_call 20; ((with_reducible refine (T20.out).mono ?_); rintro e w4 ⟨rfl, h⟩; have H4 := Lib.hid h; clear h T20)))
      clear hm2 hmi2
      have h0 : gr.startR.2.n ≤ 200 ∧ gr.startR.2.roots.length ≤ 200 := by rw [start_kept.n, start_kept.roots]; omega
      obtain ⟨gs, hgs⟩ : ∃ gs, gs = gr.startR.2 := ⟨_, rfl⟩
      have HGS := Lib.hid hgs
      rw [← hgs] at HW0 H4 h0
      obtain ⟨n0, hn0⟩ : ∃ n0, n0 = gr.n := ⟨_, rfl⟩
      have HN0 := Lib.hid hn0
      rw [← hn0] at H4
      clear hgs
      simp only [← hn0]
      have hn0b : n0 ≤ 200 := by omega
      clear hn0
      go_cut [] (fun wx => ∃ g2 : Gr, Whole gr g2 ∧ g2.n ≤ 250 ∧ g2.roots.length ≤ 250 ∧ (l2 = 0 → g2 = gs) ∧ Mine w (Trio bg bd g2 bs (n0 + 1) X) wx)
      case first =>
        as_aux_lemma =>
          go_wp2
          go_loopw [62] (fun i wr => ∃ j : Nat, j ≤ m2 ∧ i = .int .i64 (j : Int) ∧ ∃ g2, Whole gr g2 ∧ g2.n ≤ 200 + j ∧ g2.roots.length ≤ 200 + j ∧ (j = 0 → g2 = gs) ∧ Mine w (Trio bg bd g2 bs (n0 + 1) X) wr) (fun i _ => m2 - (intOf i).toNat)
          case atStart => exact ⟨0, Nat.zero_le _, rfl, gs, HW0.out, h0.1, h0.2, fun _ => rfl, H4.out⟩
          case round =>
            rename World => wq
            clear H4 HW0 h0
            obtain ⟨j2, hj2, rfl, g2, hW, hn2, hr2, hgz, hD⟩ := hrel
            by_cases hlt2 : j2 < m2
            · obtain ⟨b, o, rfl, hz⟩ := HS2.out (by omega)
              obtain ⟨z0, z1, z2, z3, hop⟩ := hz j2 (by omega)
              have hop := hop.cha hD.cha
              have HR := Lib.hid hop.cells
              have hA := hD.same (fit_trio _ _ _ _ _ _) ((Cha.refl (fun _ => False) wq).alloc (.cells #[.int .i64 z0, .int .i64 z1, .int .i64 z2, .int .i64 z3] 29))
              have D26 := Lib.hid (tcounts' hA)
              have HA := Lib.hid hA
              have HW := Lib.hid hW
              clear hz hop hD HS2 hA hW
              by_cases hp2 : g2.ph = 0
              · rw [hp2] at D26
                go_wp2_with (first
                  | (refine wpList_load_mid rfl 29 (.tmp 65) rfl b (o + j2 * 4) rfl _ _ HR.out Try.underlying29 rfl (by kernel_rfl) ?_)
                  | (go_at_call 26; ((with_reducible refine (D26.out).mono ?_); rintro e w5 ⟨rfl, h⟩; have H5 := Lib.hid (HA.out.same (fit_trio _ _ _ _ _ _) h); clear h)))
                go_meet
                exact ⟨g2, HW.out, by omega, by omega, fun e => by omega, H5.out⟩
              · have hp3 : ((g2.ph : Int) == 0) = false := by simpa using hp2
                have HCH : Hid (∀ W, Mine w (Trio bg bd g2 bs (n0 + 1) X) W → Calls Try.prog 32 #[.pointer (some ⟨bg, 0, none⟩), .pointer (some ⟨bd, 0, none⟩), opV z0 z1 z2 z3] W fun e W' => e = .returned (.bool true) ∧ ∃ g3 : Gr, Whole gr g3 ∧ g3.n ≤ 200 + (j2 + 1) ∧ g3.roots.length ≤ 200 + (j2 + 1) ∧ Mine w (Trio bg bd g3 bs (n0 + 1) X) W') := Lib.hid fun W h =>
                  (tchange h (by omega) (by omega) z0 z1 z2 z3).mono fun e W' ⟨a, k⟩ => ⟨a, g2.change z0 z1 z2 z3, HW.out.change hp2 (by omega) (by omega) z0 z1 z2 z3, by have := (change_size (g := g2) z0 z1 z2 z3).1; omega, by have := (change_size (g := g2) z0 z1 z2 z3).2.1; omega, k⟩
                have C22 : Hid (∀ g3 W1, Whole gr g3 → g3.n ≤ 200 + (j2 + 1) → g3.roots.length ≤ 200 + (j2 + 1) → Mine w (Trio bg bd g3 bs (n0 + 1) X) W1 → Calls Try.prog 22 #[.pointer (some ⟨bg, 0, none⟩)] W1 fun e W' => (∃ v, e = .returned v) ∧ ∃ g4 : Gr, Whole gr g4 ∧ g4.n ≤ 200 + (j2 + 1) ∧ g4.roots.length ≤ 200 + (j2 + 1) ∧ Mine w (Trio bg bd g4 bs (n0 + 1) X) W') := Lib.hid fun g3 W1 k a b h =>
                  (twork h).mono fun e W' ⟨x, z⟩ => ⟨x, g3.workR.2, k.work, by rw [work_kept.n]; exact a, by rw [work_kept.roots]; exact b, z⟩
                clear hp2
                go_upto_if 83 with (first
                  | (refine wpList_load_mid rfl 29 (.tmp 65) rfl b (o + j2 * 4) rfl _ _ HR.out Try.underlying29 rfl (by kernel_rfl) ?_)
                  | (go_at_call 26; ((with_reducible refine (D26.out).mono ?_); rintro e w5 ⟨rfl, h⟩; have HR5 := Lib.hid (box_range h); have D32 := Lib.hid (HCH.out _ (HA.out.same (fit_trio _ _ _ _ _ _) h)); clear h))
                  | (refine wpList_load_mid rfl 29 (.tmp 13) rfl wq.heap.size 0 rfl _ _ HR5.out Try.underlying29 rfl (by kernel_rfl) ?_)
                  | (go_at_call 32; (refine (D32.out).mono ?_; rintro e w6 ⟨rfl, g3, hW3, hn3, hr3, h⟩; have HW3 := Lib.hid hW3; have H6 := Lib.hid h; clear h hW3)))
                clear D26 D32 HA HCH HR HR5
                by_cases hb : j2 < l3
                · have hb1 : (j2 : Int) < (l3 : Int) := by omega
                  simp only [show decide (j2 < l3) = true from decide_eq_true hb]
                  obtain ⟨b2, o2, z, rfl, hcz⟩ := HT.out (by omega)
                  obtain ⟨y0, y1⟩ := hcz j2 hb
                  have lo := ((Lit.wf_int_iff _ _).1 y1).1
                  have hi := ((Lit.wf_int_iff _ _).1 y1).2
                  obtain ⟨q, hq⟩ : ∃ q : Nat, z j2 = (q : Int) := ⟨(z j2).toNat, by have : (0 : Int) ≤ z j2 := lo; omega⟩
                  rw [hq] at y0 lo hi
                  have hq2 : q ≤ 255 := by have : (q : Int) ≤ 255 := hi; omega
                  have e4 : Int.tmod (q : Int) 4 = ((q % 4 : Nat) : Int) := by rw [Int.tmod_eq_emod_of_nonneg (by omega)]; omega
                  obtain ⟨q4, h4⟩ : ∃ q4, q % 4 = q4 := ⟨_, rfl⟩
                  have l4 : q4 < 4 := by omega
                  rw [h4] at e4
                  have yy : w6.cell? ⟨b2, o2 + j2, none⟩ = some (.int .u8 q) := cell_cha H6.out.cha y0
                  clear h4 y0 y1 hcz lo hi hq HT
                  go_wp2
                  go_loopw [89] (fun i wr => ∃ k : Nat, k ≤ q4 ∧ i = .int .u8 (k : Int) ∧ ∃ g3 : Gr, Whole gr g3 ∧ g3.n ≤ 200 + (j2 + 1) ∧ g3.roots.length ≤ 200 + (j2 + 1) ∧ Mine w (Trio bg bd g3 bs (n0 + 1) X) wr) (fun i _ => q4 - (intOf i).toNat)
                  case atStart => exact ⟨0, Nat.zero_le _, rfl, g3, HW3.out, hn3, hr3, H6.out⟩
                  case round =>
                    clear H6 HW3 yy
                    obtain ⟨k, hk, rfl, g4, hW4, hn4, hr4, hM⟩ := hrel
                    by_cases hlk : k < q4
                    · have D := Lib.hid (C22.out _ _ hW4 hn4 hr4 hM)
                      clear hM hW4
                      go_wp2_with (go_at_call 22; ((with_reducible refine (D.out).mono ?_); rintro e w7 ⟨⟨v, rfl⟩, g5, hW5, hn5, hr5, h⟩; have H7 := Lib.hid h; have HW5 := Lib.hid hW5; clear h hW5))
                      go_roundw
                      case rel => exact ⟨k + 1, hlk, by go_num, g5, HW5.out, hn5, hr5, H7.out⟩
                      case measure => simp [intOf]; omega
                    · obtain rfl : k = q4 := by omega
                      have HM := Lib.hid hM
                      have HW4 := Lib.hid hW4
                      clear hM hW4
                      go_wp2
                      go_roundw
                      case rel => exact ⟨j2 + 1, hlt2, by go_num, g4, HW4.out, hn4, hr4, fun e => by omega, HM.out⟩
                      case measure => simp [intOf]; omega
                · have hb1 : ¬ (j2 : Int) < (l3 : Int) := by omega
                  go_wp2
                  go_roundw
                  case rel => exact ⟨j2 + 1, hlt2, by go_num, g3, HW3.out, hn3, hr3, fun e => by omega, H6.out⟩
                  case measure => simp [intOf]; omega
            · obtain rfl : j2 = m2 := by omega
              have HD := Lib.hid hD
              have HW := Lib.hid hW
              clear hD hW
              go_wp2
              go_meet
              exact ⟨g2, HW.out, by omega, by omega, fun e => hgz (by omega), HD.out⟩
      case rest =>
        as_aux_lemma =>
          obtain ⟨g2, hW, hn2, hr2, hgz, hD⟩ := hcut
          obtain ⟨a5, c5, a6, c6, x5, x6⟩ := mheads (tduo hD)
          have hst : (4 * ((g2.n : Int) + 1) + 4 * (g2.roots.length : Int) + 8) = (g2.steps : Int) := by unfold Gr.steps; omega
          have hsb : g2.steps ≤ 100000 := by unfold Gr.steps; omega
          have hss : g2.roots.length + 2 * g2.n + 2 ≤ g2.steps := by unfold Gr.steps; omega
          have hW3 := hW.works g2.steps
          have hph := hW.inv.works_end hss
          have hcy : (g2.works g2.steps).cyc = 1 := (hW3.cy.1 hph).trans wrap_one
          have hn3 : (g2.works g2.steps).n = g2.n := (works_kept _).n
          have hlv : l2 = 0 → (g2.works g2.steps).live = cntz X (n0 + 1) := fun e => by
            have e2 := hgz e
            have hs0 : gr.roots.length + 2 * gr.n + 2 ≤ g2.steps := by rw [e2, HGS.out, start_kept.roots, start_kept.n] at hss; rw [e2, HGS.out]; exact hss
            have := whole_live (X := X) HI.out hp x0 HX.out hs0
            rw [e2, HGS.out, HN0.out]
            rw [e2, HGS.out] at this
            exact this
          have C22 : Hid (∀ W1 j, Mine w (Trio bg bd (g2.works j) bs (n0 + 1) X) W1 → Calls Try.prog 22 #[.pointer (some ⟨bg, 0, none⟩)] W1 fun e W' => (∃ v, e = .returned v) ∧ Mine w (Trio bg bd (g2.works (j + 1)) bs (n0 + 1) X) W') := Lib.hid fun W1 j h => twork h
          obtain ⟨g3, hg3⟩ : ∃ g3, g2.works g2.steps = g3 := ⟨_, rfl⟩
          have HG3 := Lib.hid hg3
          rw [hg3] at hW3 hph hcy hn3 hlv
          obtain ⟨st, hst2⟩ : ∃ st, g2.steps = st := ⟨_, rfl⟩
          rw [hst2] at hst hsb HG3
          have HD := Lib.hid hD
          have HW3 := Lib.hid hW3
          have HLV := Lib.hid hlv
          have hgl : g3.live ≤ g3.n := live_le
          clear hD hW hW3 hlv hgz hss hg3 hst2 HS2 HT H4 HW0 h0 HGS
          go_wp2
          go_quiet (fail)
          have H1q := Lib.hid (HD.out.same (fit_trio _ _ _ _ _ _) ((Cha.refl (fun _ => False) wc).drewN nq))
          clear HD x5 x6 hst
          go_wp2
          go_loopw [109] (fun i wr => ∃ j : Nat, i = .int .i64 (j : Int) ∧ j ≤ st ∧ Mine w (Trio bg bd (g2.works j) bs (n0 + 1) X) wr) (fun i _ => st - (intOf i).toNat)
          case atStart => exact ⟨0, rfl, Nat.zero_le _, H1q.out⟩
          case round =>
            rename World => wq
            clear H1q
            obtain ⟨j3, rfl, hj3, hM⟩ := hrel
            by_cases hlt3 : j3 < st
            · have C := Lib.hid (C22.out _ _ hM)
              have hlt2 : (j3 : Int) < (st : Int) := by omega
              clear hM
              go_wp2_with (go_at_call 22; ((with_reducible refine (C.out).mono ?_); rintro e w2 ⟨⟨v, rfl⟩, hM2⟩; have HM2 := Lib.hid hM2; clear hM2))
              go_roundw
              case rel => exact ⟨j3 + 1, rfl, hlt3, HM2.out⟩
              case measure => simp [intOf]; omega
            · obtain rfl : j3 = st := by omega
              rw [HG3.out] at hM
              have D26 := Lib.hid (tcounts hM)
              rw [hph, hcy] at D26
              clear hM C22 hsb HG3
              go_wp2_with (go_at_call 26; ((with_reducible refine (D26.out).mono ?_); rintro e w4 ⟨rfl, hM4⟩; have HM4 := Lib.hid hM4; clear hM4))
              have hpb : ∀ k : Nat, g3.has ((k + 1 : Nat) : Int) = (g3.col (k + 1) != 0) := fun k => by
                unfold Gr.has
                rw [Int.toNat_natCast, Bool.eq_iff_iff, decide_eq_true_iff, bne_iff_ne]
                exact ⟨fun h => h.2, fun h => ⟨by omega, h⟩⟩
              have HGO : Hid (∀ k : Nat, k < n0 → X (k + 1) = false → (g3.col (k + 1) != 0) = false) := Lib.hid fun k hk x => by
                rw [← hpb]
                exact HW3.out.gone hph HX.out (by rw [← HN0.out]; omega) x
              have HAS : Hid (∀ (k : Nat) (W1 : World), Mine w (Trio bg bd g3 bs (n0 + 1) X) W1 → Calls Try.prog 28 #[.pointer (some ⟨bg, 0, none⟩), .int .i64 ((k : Int) + 1)] W1 fun e w => e = .returned (.bool (g3.col (k + 1) != 0)) ∧ w = W1) := Lib.hid fun k W1 h => by
                have := mhas_now (tduo h) ((k + 1 : Nat) : Int)
                rw [hpb] at this
                exact this
              have hl0 : g3.live = cnt (fun i => g3.col i != 0) g3.n := rfl
              obtain ⟨p, hp9⟩ : ∃ p : Nat → Bool, (fun i => g3.col i != 0) = p := ⟨_, rfl⟩
              have hq : ∀ k, (g3.col (k + 1) != 0) = p (k + 1) := fun k => by rw [← hp9]
              simp only [hq] at HGO HAS
              rw [hp9] at hl0
              have HL0 := Lib.hid hl0
              clear hpb hp9 hq D26 hl0
              go_loopw [20, 21] (fun lf i wr => ∃ k : Nat, k ≤ g3.n ∧ lf = .int .i64 (cnt p k : Int) ∧ i = .int .i64 ((k : Int) + 1) ∧ Mine w (Trio bg bd g3 bs (n0 + 1) X) wr) (fun _ i _ => g3.n + 1 - (intOf i).toNat)
              case atStart => exact ⟨0, Nat.zero_le _, rfl, rfl, HM4.out⟩
              case round =>
                rename World => wy
                clear HM4
                obtain ⟨k, hk, rfl, rfl, hM⟩ := hrel
                obtain ⟨a7, c7, a8, c8, x7, x8⟩ := mheads (tduo hM)
                have hck : cnt p k ≤ k := cnt_le p k
                have hcs : cnt p (k + 1) = cnt p k + (if p (k + 1) then 1 else 0) := rfl
                have HCS := Lib.hid hcs
                clear hcs
                by_cases hlk : k < g3.n
                · have hlk2 : ((k : Int) + 1) < ((g3.n : Int) + 1) := by omega
                  have CH := Lib.hid (HAS.out k _ hM)
                  have hrow := trow hM
                  have HM := Lib.hid hM
                  clear hM
                  by_cases hb : p (k + 1) = true
                  · rw [hb] at CH HCS
                    by_cases hkn : k + 1 < n0 + 1
                    · have hkn2 : ((k : Int) + 1) < ((n0 : Int) + 1) := by omega
                      have hx : X (k + 1) = true := by
                        cases e : X (k + 1) with
                        | true => rfl
                        | false => rw [HGO.out k (by omega) e] at hb; cases hb
                      have y := hrow.cell (i := k + 1) hkn
                      rw [hx] at y
                      clear hrow hx
                      go_wp2_with (go_at_call 28; ((with_reducible refine (CH.out).mono ?_); rintro e w6 ⟨rfl, rfl⟩))
                      go_roundw
                      case rel => exact ⟨k + 1, hlk, by rw [HCS.out]; go_num, by go_num, HM.out⟩
                      case measure => simp [intOf]; omega
                    · have hkn2 : ¬ ((k : Int) + 1) < ((n0 : Int) + 1) := by omega
                      clear hrow
                      go_wp2_with (go_at_call 28; ((with_reducible refine (CH.out).mono ?_); rintro e w6 ⟨rfl, rfl⟩))
                      go_roundw
                      case rel => exact ⟨k + 1, hlk, by rw [HCS.out]; go_num, by go_num, HM.out⟩
                      case measure => simp [intOf]; omega
                  · have hb : p (k + 1) = false := by simpa using hb
                    rw [hb] at CH HCS
                    by_cases hkn : k + 1 < n0 + 1
                    · have hkn2 : ((k : Int) + 1) < ((n0 : Int) + 1) := by omega
                      have y := hrow.cell (i := k + 1) hkn
                      clear hrow
                      generalize X (k + 1) = xb at *
                      cases xb <;>
                      (go_wp2_with (go_at_call 28; ((with_reducible refine (CH.out).mono ?_); rintro e w6 ⟨rfl, rfl⟩))
                       go_roundw
                       case rel => exact ⟨k + 1, hlk, by rw [HCS.out]; go_num, by go_num, HM.out⟩
                       case measure => simp [intOf]; omega)
                    · have hkn2 : ¬ ((k : Int) + 1) < ((n0 : Int) + 1) := by omega
                      clear hrow
                      go_wp2_with (go_at_call 28; ((with_reducible refine (CH.out).mono ?_); rintro e w6 ⟨rfl, rfl⟩))
                      go_roundw
                      case rel => exact ⟨k + 1, hlk, by rw [HCS.out]; go_num, by go_num, HM.out⟩
                      case measure => simp [intOf]; omega
                · obtain rfl : k = g3.n := by omega
                  have hlk2 : ¬ ((g3.n : Int) + 1) < ((g3.n : Int) + 1) := by omega
                  have hrow := trow hM
                  have HE := Lib.hid hM.cha
                  clear hM HCS
                  by_cases hz : l2 = 0
                  · have hlv := HLV.out hz
                    have hl0 := HL0.out
                    subst hz
                    rw [← hl0, hlv]
                    have hcz := cntz_le X (n0 + 1)
                    clear hl0 hlv hgl
                    go_wp2
                    go_loopw [22, 161] (fun wt i wr => ∃ k : Nat, k ≤ n0 + 1 ∧ wt = .int .i64 (cntz X k : Int) ∧ i = .int .i64 (k : Int) ∧ wr = wy) (fun _ i _ => n0 + 1 - (intOf i).toNat)
                    case atStart => exact ⟨0, Nat.zero_le _, rfl, rfl, rfl⟩
                    case round =>
                      rename World => wv
                      obtain ⟨k5, hk5, rfl, rfl, hwv⟩ := hrel
                      subst hwv
                      have hc5 := cntz_le X k5
                      have HC5 : Hid (cntz X (k5 + 1) = cntz X k5 + (if X k5 then 1 else 0)) := Lib.hid rfl
                      by_cases hl5 : k5 < n0 + 1
                      · have y := hrow.cell (i := k5) hl5
                        have hl6 : (k5 : Int) < (n0 : Int) + 1 := by omega
                        generalize X k5 = xb at *
                        cases xb
                        · have HC6 := Lib.hid HC5.out
                          rw [if_neg (by decide)] at HC6
                          clear HC5
                          go_wp2
                          go_roundw
                          case rel => exact ⟨k5 + 1, hl5, by rw [HC6.out]; go_num, by go_num, by first | rfl | trivial⟩
                          case measure => simp [intOf]; omega
                        · have HC6 := Lib.hid HC5.out
                          rw [if_pos rfl] at HC6
                          clear HC5
                          go_wp2
                          go_roundw
                          case rel => exact ⟨k5 + 1, hl5, by rw [HC6.out]; go_num, by go_num, by first | rfl | trivial⟩
                          case measure => simp [intOf]; omega
                      · obtain rfl : k5 = n0 + 1 := by omega
                        have hl6 : ¬ (n0 : Int) + 1 < (n0 : Int) + 1 := by omega
                        clear HC5
                        go_wp2
                        go_returns
                        exact ⟨by simp, HE.out⟩
                  · have hz2 : ((l2 : Int) == 0) = false := by simpa using hz
                    have hl0 := HL0.out
                    rw [← hl0]
                    clear hl0
                    clear hrow
                    go_wp2
                    go_returns
                    exact ⟨by simp, HE.out⟩
end Go.Proofs.Ytllefljimkmbhaa
