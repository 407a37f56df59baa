/- PacerPlays: both pacers beside one another, the walk. -/
import Derived.Test.YtlpgfdphoiideaaPI
import Derived.Test.YtlpgfdphoiideaaAB
import Derived.Outline
namespace Go.Proofs.Ytlpgfdphoiideaa
open Go.ChangeShapes Go.WideShapes Go.ChangeAt Go.RowKit
/-- Both pacers, the program's s, the document's t, and a call's block. -/
structure Two (w0 : World) (bp bd g : Nat) (cs : Array Value) (s t : PS) (W : World) : Prop where
  p : PP W bp s
  d : DP W bd t
  o : W.heap[g]? = some (.cells cs 30 (0, 0))
  c : Cha (fun _ => False) w0 W
  qp : w0.heap.size ≤ bp
  qd : w0.heap.size ≤ bd
  pd : bp ≠ bd
  pg : bp ≠ g
  dg : bd ≠ g
section
variable {w0 W W' : World} {bp bd g : Nat} {cs : Array Value} {s t s' t' : PS} {z0 z1 z2 : Int}
theorem Two.same (h : Two w0 bp bd g cs s t W) (c : Cha (fun _ => False) W W') : Two w0 bp bd g cs s t W' :=
  ⟨h.p.same c, h.d.same c, (c.old _ (row_lt h.o) (fun x => x)).trans h.o, h.c.trans c, h.qp, h.qd, h.pd, h.pg, h.dg⟩
theorem Two.left (h : Two w0 bp bd g cs s t W) (k : Leaves W W' bp s') : Two w0 bp bd g cs s' t W' :=
  ⟨k.1, h.d.other k.2 h.pd.symm, (k.2.old _ (row_lt h.o) h.pg.symm).trans h.o, h.c.over k.2 fun i hi => .inr (by have := h.qp; omega), h.qp, h.qd, h.pd, h.pg, h.dg⟩
theorem Two.right (h : Two w0 bp bd g cs s t W) (k : DLeaves W W' bd t') : Two w0 bp bd g cs s t' W' :=
  ⟨PP.other h.p k.2 h.pd, k.1, (k.2.old _ (row_lt h.o) h.dg.symm).trans h.o, h.c.over k.2 fun i hi => .inr (by have := h.qd; omega), h.qp, h.qd, h.pd, h.pg, h.dg⟩
theorem Two.arg (h : Two w0 bp bd g #[.int .i64 z0, .int .u64 z1, .int .u64 z2] s t W) : W.cell? ⟨g, 1, none⟩ = some (.int .u64 z1) ∧ W.cell? ⟨g, 2, none⟩ = some (.int .u64 z2) :=
  ⟨cell_of_row W g 1 _ 30 (0, 0) h.o, cell_of_row W g 2 _ 30 (0, 0) h.o⟩
set_option maxRecDepth 100000 in
set_option maxHeartbeats 16000000 in
theorem plays_walk (g0 lim : Int) (w : World) (hg : -9223372036854775808 ≤ g0) (hg2 : g0 ≤ 9223372036854775807) (hl : isW lim) (a : Option Addr) (len c : Nat) (k : Script .u64 w a len c) :
    Calls Try.prog 3 #[.int .i64 g0, .int .u64 lim, .slice a len c] w fun e w' => e = .returned (.bool true) ∧ Cha (fun _ => False) w w' := by
  have AW := Lib.hid awake
  have N1 := Lib.hid (new_any w g0 lim hg hl)
  have N2 := Lib.hid fun w => dnew_any w g0 lim hg hg2 hl
  obtain ⟨⟨hlc, hcap⟩, hs⟩ := k
  have HS := Lib.hid hs
  clear hs
  go_enter Try.func3, Try.ntmps3
  go_wp2_with (first
    | (go_at_call 13; (with_reducible refine (N1.out).mono ?_); rintro e w1 ⟨rfl, hp1, hc1⟩; have HP1 := Lib.hid hp1; have HC1 := Lib.hid hc1; clear hp1 hc1)
    | (go_at_call 14; (with_reducible refine (N2.out _).mono ?_); rintro e w2 ⟨rfl, hp2, hc2⟩; have HP2 := Lib.hid (PP.same HP1.out hc2); have HD2 := Lib.hid hp2; have HC2 := Lib.hid (HC1.out.trans hc2); clear hp2 hc2)
    | (go_at_call 15; (with_reducible refine (AW.out _).mono ?_); rintro e w3 ⟨rfl, hc3⟩; have HP3 := Lib.hid (PP.same HP2.out hc3); have HD3 := Lib.hid (DP.same HD2.out hc3); have HC3 := Lib.hid (HC2.out.trans hc3); clear hc3))
  have B0 : Hid (w.heap.size ≠ w1.heap.size ∧ w.heap.size ≤ w1.heap.size) := Lib.hid (by have := HP1.out.lt; have := HC1.out.size; omega)
  clear N1 N2 AW HP1 HC1 HP2 HD2 HC2
  obtain ⟨bp, hbp⟩ : ∃ x, w.heap.size = x := ⟨_, rfl⟩
  have LE : Hid (w.heap.size ≤ bp) := Lib.hid (by omega)
  generalize w1.heap.size = bd at *
  rw [hbp] at B0 HP3 ⊢
  clear hbp
  go_loopw [31] (fun i wr => ∃ j : Nat, j ≤ len ∧ i = .int .i64 (j : Int) ∧ ∃ s : PS, s.Ok ∧ s.lim = lim ∧ PP wr bp s ∧ DP wr bd s ∧ Cha (fun _ => False) w wr) (fun i _ => len - (intOf i).toNat)
  case atStart => exact ⟨0, Nat.zero_le _, rfl, PS.new g0 lim, PS.ok_new hg hl, rfl, HP3.out, HD3.out, HC3.out⟩
  case round =>
    clear HP3 HD3 HC3
    obtain ⟨j, hj, rfl, s, hok, hlim, hP, hD, hC⟩ := hrel
    by_cases hlt : j < len
    · obtain ⟨b, o, rfl, hz⟩ := HS.out (by omega)
      obtain ⟨z0, z1, z2, hop⟩ := hz j hlt
      have hop := hop.cha hC
      have hz1 : isW z1 := ⟨u64_lo hop.w1, u64_hi hop.w1⟩
      have hz2 : isW z2 := ⟨u64_lo hop.w2, u64_hi hop.w2⟩
      have HR := Lib.hid hop.cells
      have ca := (Cha.refl (fun _ => False) wr).alloc (.cells #[.int .i64 z0, .int .u64 z1, .int .u64 z2] 30)
      have HB : Hid (Two w bp bd wr.heap.size #[.int .i64 z0, .int .u64 z1, .int .u64 z2] s s (wr.alloc (.cells #[.int .i64 z0, .int .u64 z1, .int .u64 z2] 30))) :=
        Lib.hid ⟨hP.same ca, hD.same ca, heap_alloc_new wr _, hC.trans ca, LE.out, by have := B0.out; have := LE.out; omega, B0.out.1, by have := hP.lt; omega, by have := hD.lt; omega⟩
      have HO := Lib.hid hok
      have HL := Lib.hid hlim
      clear hz hop hP hD hC hok hlim ca
      go_upto_block 2 with (refine wpList_load_mid rfl 30 (.tmp 33) rfl b (o + j * 3) rfl _ _ HR.out Try.underlying30 rfl (by kernel_rfl) ?_)
      go_cut [] (fun wx => ∃ sn : PS, sn.Ok ∧ sn.lim = lim ∧ Two w bp bd wr.heap.size #[.int .i64 z0, .int .u64 z1, .int .u64 z2] sn sn wx)
      case first =>
        as_aux_lemma =>
          obtain ⟨k1, k2⟩ := HB.out.arg
          generalize hWb : wr.alloc (.cells #[.int .i64 z0, .int .u64 z1, .int .u64 z2] 30) = Wb at *
          clear hWb HR
          generalize wr.heap.size = g at *
          by_cases h0 : z0 = 0
          · subst h0
            have S1 : Hid (∀ W, Two w bp bd g #[.int .i64 0, .int .u64 z1, .int .u64 z2] s s W → Calls Try.prog 16 #[.pointer (some ⟨bp, 0, none⟩), .int .u64 z1] W fun e w' => e = .returned (.tuple #[]) ∧ Two w bp bd g #[.int .i64 0, .int .u64 z1, .int .u64 z2] (s.alloc z1) s w') := Lib.hid fun W h => (alloc_any h.p HO.out z1 hz1).mono fun _ _ ⟨x, y⟩ => ⟨x, h.left y⟩
            have S2 : Hid (∀ W, Two w bp bd g #[.int .i64 0, .int .u64 z1, .int .u64 z2] (s.alloc z1) s W → Calls Try.prog 17 #[.pointer (some ⟨bd, 0, none⟩), .int .u64 z1] W fun e w' => e = .returned (.tuple #[]) ∧ Two w bp bd g #[.int .i64 0, .int .u64 z1, .int .u64 z2] (s.alloc z1) (s.alloc z1) w') := Lib.hid fun W h => (dalloc_any h.d HO.out z1 hz1).mono fun _ _ ⟨x, y⟩ => ⟨x, h.right y⟩
            have HO2 := Lib.hid (HO.out.alloc hz1)
            have HL2 : Hid ((s.alloc z1).lim = lim) := HL
            go_wp2_with (first
              | (go_at_call 16; ((with_reducible refine (S1.out _ HB.out).mono ?_); rintro e w5 ⟨rfl, h⟩; have H5 := Lib.hid h; obtain ⟨k4, k5⟩ := h.arg; clear h))
              | (go_at_call 17; ((with_reducible refine (S2.out _ H5.out).mono ?_); rintro e w6 ⟨rfl, h⟩; have H6 := Lib.hid h; clear h)))
            go_meet
            exact ⟨s.alloc z1, HO2.out, HL2.out, H6.out⟩
          · have h01 : (z0 == 0) = false := by simpa using h0
            by_cases h1 : z0 = 1
            · subst h1
              have S1 : Hid (∀ W, Two w bp bd g #[.int .i64 1, .int .u64 z1, .int .u64 z2] s s W → Calls Try.prog 18 #[.pointer (some ⟨bp, 0, none⟩), .int .u64 z1] W fun e w' => e = .returned (.tuple #[]) ∧ Two w bp bd g #[.int .i64 1, .int .u64 z1, .int .u64 z2] (s.free z1) s w') := Lib.hid fun W h => (free_any h.p HO.out z1 hz1).mono fun _ _ ⟨x, y⟩ => ⟨x, h.left y⟩
              have S2 : Hid (∀ W, Two w bp bd g #[.int .i64 1, .int .u64 z1, .int .u64 z2] (s.free z1) s W → Calls Try.prog 19 #[.pointer (some ⟨bd, 0, none⟩), .int .u64 z1] W fun e w' => e = .returned (.tuple #[]) ∧ Two w bp bd g #[.int .i64 1, .int .u64 z1, .int .u64 z2] (s.free z1) (s.free z1) w') := Lib.hid fun W h => (dfree_any h.d HO.out z1 hz1).mono fun _ _ ⟨x, y⟩ => ⟨x, h.right y⟩
              have HO2 := Lib.hid (HO.out.free hz1)
              have HL2 : Hid ((s.free z1).lim = lim) := HL
              go_wp2_with (first
                | (go_at_call 18; ((with_reducible refine (S1.out _ HB.out).mono ?_); rintro e w5 ⟨rfl, h⟩; have H5 := Lib.hid h; obtain ⟨k4, k5⟩ := h.arg; clear h))
                | (go_at_call 19; ((with_reducible refine (S2.out _ H5.out).mono ?_); rintro e w6 ⟨rfl, h⟩; have H6 := Lib.hid h; clear h)))
              go_meet
              exact ⟨s.free z1, HO2.out, HL2.out, H6.out⟩
            · have h11 : (z0 == 1) = false := by simpa using h1
              by_cases h2 : z0 = 2
              · subst h2
                have S1 : Hid (∀ W, Two w bp bd g #[.int .i64 2, .int .u64 z1, .int .u64 z2] s s W → Calls Try.prog 20 #[.pointer (some ⟨bp, 0, none⟩)] W fun e w' => e = .returned (.tuple #[]) ∧ Two w bp bd g #[.int .i64 2, .int .u64 z1, .int .u64 z2] (s.begin) s w') := Lib.hid fun W h => (begin_any h.p HO.out).mono fun _ _ ⟨x, y⟩ => ⟨x, h.left y⟩
                have S2 : Hid (∀ W, Two w bp bd g #[.int .i64 2, .int .u64 z1, .int .u64 z2] (s.begin) s W → Calls Try.prog 21 #[.pointer (some ⟨bd, 0, none⟩)] W fun e w' => e = .returned (.tuple #[]) ∧ Two w bp bd g #[.int .i64 2, .int .u64 z1, .int .u64 z2] (s.begin) (s.begin) w') := Lib.hid fun W h => (dbegin_any h.d HO.out).mono fun _ _ ⟨x, y⟩ => ⟨x, h.right y⟩
                have HO2 := Lib.hid (HO.out.begin)
                have HL2 : Hid ((s.begin).lim = lim) := HL
                go_wp2_with (first
                  | (go_at_call 20; ((with_reducible refine (S1.out _ HB.out).mono ?_); rintro e w5 ⟨rfl, h⟩; have H5 := Lib.hid h; obtain ⟨k4, k5⟩ := h.arg; clear h))
                  | (go_at_call 21; ((with_reducible refine (S2.out _ H5.out).mono ?_); rintro e w6 ⟨rfl, h⟩; have H6 := Lib.hid h; clear h)))
                go_meet
                exact ⟨s.begin, HO2.out, HL2.out, H6.out⟩
              · have h21 : (z0 == 2) = false := by simpa using h2
                by_cases h3 : z0 = 3
                · subst h3
                  have S1 : Hid (∀ W, Two w bp bd g #[.int .i64 3, .int .u64 z1, .int .u64 z2] s s W → Calls Try.prog 22 #[.pointer (some ⟨bp, 0, none⟩), .int .u64 z1, .int .u64 z2] W fun e w' => e = .returned (.tuple #[]) ∧ Two w bp bd g #[.int .i64 3, .int .u64 z1, .int .u64 z2] (s.fin z1 z2) s w') := Lib.hid fun W h => (end_any h.p HO.out z1 z2 hz1 hz2).mono fun _ _ ⟨x, y⟩ => ⟨x, h.left y⟩
                  have S2 : Hid (∀ W, Two w bp bd g #[.int .i64 3, .int .u64 z1, .int .u64 z2] (s.fin z1 z2) s W → Calls Try.prog 23 #[.pointer (some ⟨bd, 0, none⟩), .int .u64 z1, .int .u64 z2] W fun e w' => e = .returned (.tuple #[]) ∧ Two w bp bd g #[.int .i64 3, .int .u64 z1, .int .u64 z2] (s.fin z1 z2) (s.fin z1 z2) w') := Lib.hid fun W h => (dend_any h.d HO.out z1 z2 hz1 hz2).mono fun _ _ ⟨x, y⟩ => ⟨x, h.right y⟩
                  have HO2 := Lib.hid (HO.out.fin hz1 hz2)
                  have HL2 : Hid ((s.fin z1 z2).lim = lim) := HL
                  go_wp2_with (first
                    | (go_at_call 22; ((with_reducible refine (S1.out _ HB.out).mono ?_); rintro e w5 ⟨rfl, h⟩; have H5 := Lib.hid h; obtain ⟨k4, k5⟩ := h.arg; clear h))
                    | (go_at_call 23; ((with_reducible refine (S2.out _ H5.out).mono ?_); rintro e w6 ⟨rfl, h⟩; have H6 := Lib.hid h; clear h)))
                  go_meet
                  exact ⟨s.fin z1 z2, HO2.out, HL2.out, H6.out⟩
                · have h31 : (z0 == 3) = false := by simpa using h3
                  go_wp2
                  go_meet
                  exact ⟨s, HO.out, HL.out, HB.out⟩
      case rest =>
        as_aux_lemma =>
          obtain ⟨sn, hok, hlim, hB⟩ := hcut
          have HB2 := Lib.hid hB
          have HO2 := Lib.hid hok
          have HL2 := Lib.hid hlim
          clear hB hok hlim HB HR HO HL
          generalize wr.heap.size = g at *
          generalize hcs : (#[.int .i64 z0, .int .u64 z1, .int .u64 z2] : Array Value) = cs at *
          have HG : Hid (∀ W, Two w bp bd g cs sn sn W → W.cell? ⟨g, 1, none⟩ = some (.int .u64 z1)) := Lib.hid fun W h => by subst hcs; exact h.arg.1
          have C24 : Hid (∀ W, Two w bp bd g cs sn sn W → Calls Try.prog 24 #[.pointer (some ⟨bp, 0, none⟩)] W fun e w' => e = .returned (.tuple #[.int .u64 sn.heap, .int .u64 sn.goal, .int .u64 sn.trig, .int .u64 sn.ratio]) ∧ Two w bp bd g cs sn sn w') :=
            Lib.hid fun W h => (counts_any h.p).mono fun _ _ ⟨x, y⟩ => ⟨x, h.same y⟩
          have C25 : Hid (∀ W, Two w bp bd g cs sn sn W → Calls Try.prog 25 #[.pointer (some ⟨bp, 0, none⟩)] W fun e w' => e = .returned (.tuple #[.int .u64 lim, .int .i64 0]) ∧ Two w bp bd g cs sn sn w') :=
            Lib.hid fun W h => (limit_any h.p).mono fun _ _ ⟨x, y⟩ => ⟨by rw [← HL2.out]; exact x, h.same y⟩
          have C26 : Hid (∀ W, Two w bp bd g cs sn sn W → Calls Try.prog 26 #[.pointer (some ⟨bp, 0, none⟩)] W fun e w' => e = .returned (.bool sn.due) ∧ Cha (fun _ => False) W w') := Lib.hid fun W h => due_any h.p
          have C27 : Hid (∀ W, Two w bp bd g cs sn sn W → Calls Try.prog 27 #[.pointer (some ⟨bd, 0, none⟩)] W fun e w' => e = .returned (.bool sn.due) ∧ Cha (fun _ => False) W w') := Lib.hid fun W h => ddue_any h.d
          have C28 : Hid (∀ W, Two w bp bd g cs sn sn W → Calls Try.prog 28 #[.pointer (some ⟨bp, 0, none⟩), .int .u64 z1] W fun e w' => e = .returned (.int .u64 (sn.owes z1)) ∧ Cha (fun _ => False) W w') := Lib.hid fun W h => owes_any h.p HO2.out z1 hz1
          have C29 : Hid (∀ W, Two w bp bd g cs sn sn W → Calls Try.prog 29 #[.pointer (some ⟨bd, 0, none⟩), .int .u64 z1] W fun e w' => e = .returned (.int .u64 (sn.owes z1)) ∧ Cha (fun _ => False) W w') := Lib.hid fun W h => dowes_any h.d HO2.out z1 hz1
          have KX : Hid (∀ W, Two w bp bd g cs sn sn W → W.cell? ⟨bd, 2, none⟩ = some (.int .u64 sn.heap) ∧ W.cell? ⟨bd, 5, none⟩ = some (.int .u64 sn.goal) ∧ W.cell? ⟨bd, 6, none⟩ = some (.int .u64 sn.trig) ∧ W.cell? ⟨bd, 7, none⟩ = some (.int .u64 sn.ratio) ∧ W.cell? ⟨g, 1, none⟩ = some (.int .u64 z1)) := Lib.hid fun W h => by
            obtain ⟨c0, c1, c2, c3, c4, c5, c6, c7⟩ := h.d.cells
            exact ⟨c2, c5, c6, c7, HG.out W h⟩
          clear hcs HG
          go_wp2_with (first
            | (go_at_call 24; ((with_reducible refine (C24.out _ HB2.out).mono ?_); rintro e w7 ⟨rfl, h⟩; have H7 := Lib.hid h; clear h))
            | (go_at_call 25; ((with_reducible refine (C25.out _ H7.out).mono ?_); rintro e w8 ⟨rfl, h⟩; have H8 := Lib.hid h; clear h)))
          have H8d : Hid (Two w bp bd g cs sn sn w8.drew) := Lib.hid (H8.out.same (Cha.refl _ w8).drew)
          obtain ⟨k2, k5, k6, k7, k8⟩ := KX.out _ H8d.out
          have H9 : Hid (∀ W, Cha (fun _ => False) w8.drew W → Two w bp bd g cs sn sn W) := Lib.hid fun W c => H8d.out.same c
          have KZ : Hid (∀ W, Cha (fun _ => False) w8.drew W → W.cell? ⟨bd, 2, none⟩ = some (.int .u64 sn.heap) ∧ W.cell? ⟨bd, 5, none⟩ = some (.int .u64 sn.goal) ∧ W.cell? ⟨bd, 6, none⟩ = some (.int .u64 sn.trig) ∧ W.cell? ⟨bd, 7, none⟩ = some (.int .u64 sn.ratio) ∧ W.cell? ⟨g, 1, none⟩ = some (.int .u64 z1)) :=
            Lib.hid fun W c => KX.out W (H9.out W c)
          clear KX H7 C24 C25 HB2
          generalize sn.due = du at *
          generalize sn.owes z1 = ow at *
          generalize sn.heap = v2 at *
          generalize sn.goal = v5 at *
          generalize sn.trig = v6 at *
          generalize sn.ratio = v7 at *
          go_region_held3 (fun w' => w'.cell? ⟨bd, 2, none⟩ = some (.int .u64 v2) ∧ w'.cell? ⟨bd, 5, none⟩ = some (.int .u64 v5) ∧ w'.cell? ⟨bd, 6, none⟩ = some (.int .u64 v6) ∧ w'.cell? ⟨bd, 7, none⟩ = some (.int .u64 v7) ∧ w'.cell? ⟨g, 1, none⟩ = some (.int .u64 z1))
            (first
              | go_keep
              | exact ⟨k2, k5, k6, k7, k8⟩
              | exact KZ.out _ (by assumption))
            (first
              | (go_at_call 26; refine (C26.out _ H8d.out).mono ?_; rintro e5 w9 ⟨rfl, e9⟩)
              | (go_at_call 27; refine (C27.out _ (H9.out w9 e9)).mono ?_; rintro e6 w10 ⟨rfl, e10⟩; have e101 := e9.trans e10)
              | (go_at_call 28; refine (C28.out _ (H9.out w10 e101)).mono ?_; rintro e7 w11 ⟨rfl, e11⟩; have e111 := e101.trans e11)
              | (go_at_call 29; refine (C29.out _ (H9.out w11 e111)).mono ?_; rintro e8 w12 ⟨rfl, e12⟩; have e121 := e111.trans e12))
          all_goals
            have HN := Lib.hid (H9.out _ e121)
            clear e9 e10 e101 e11 e111 e12 e121
            go_wp2
            go_roundw
            case rel => exact ⟨j + 1, by omega, by go_num, sn, HO2.out, HL2.out, HN.out.p, HN.out.d, HN.out.c⟩
            case measure => simp [intOf]; omega
    · clear hP hD
      have HC := Lib.hid hC
      clear hC
      go_wp2
      go_returns
      exact ⟨rfl, HC.out⟩
end
end Go.Proofs.Ytlpgfdphoiideaa
