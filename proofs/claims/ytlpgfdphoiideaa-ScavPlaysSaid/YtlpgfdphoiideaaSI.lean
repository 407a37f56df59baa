/- ScavPlays: both maps beside one another, the walk. -/
import Derived.Test.YtlpgfdphoiideaaSG
import Derived.Test.YtlpgfdphoiideaaAB
import Derived.Outline
namespace Go.Proofs.Ytlpgfdphoiideaa
open Go.ChangeShapes Go.WideShapes Go.ChangeAt Go.RowKit
/-- Both maps, the program's s, the document's t, and a call's block. -/
structure Pair (w0 : World) (bs bp ds dp N g : Nat) (cs : Array Value) (s t : Nat → Int) (W : World) : Prop where
  p : Sv 79 85 W bs bp N s
  d : Sv 81 3 W ds dp N t
  o : W.heap[g]? = some (.cells cs 57 (0, 0))
  c : Cha (fun _ => False) w0 W
  q1 : w0.heap.size ≤ bp
  q2 : w0.heap.size ≤ dp
  n1 : bp ≠ ds
  n2 : bp ≠ dp
  n3 : dp ≠ bs
  n4 : bp ≠ g
  n5 : dp ≠ g
section
variable {w0 W W' : World} {bs bp ds dp N g : Nat} {cs : Array Value} {s t s' t' : Nat → Int} {z0 z1 z2 : Int}
theorem Pair.same (h : Pair w0 bs bp ds dp N g cs s t W) (c : Cha (fun _ => False) W W') : Pair w0 bs bp ds dp N g cs s t W' :=
  { h with p := h.p.same c, d := h.d.same c, o := (c.old _ (row_lt' h.o) (fun x => x)).trans h.o, c := h.c.trans c }
theorem Pair.left (h : Pair w0 bs bp ds dp N g cs s t W) (k : SvL W W' bs bp N s') : Pair w0 bs bp ds dp N g cs s' t W' :=
  { h with p := k.1, d := h.d.other k.2 h.n1.symm h.n2.symm, o := (k.2.old _ (row_lt' h.o) h.n4.symm).trans h.o, c := h.c.over k.2 fun i hi => .inr (by have := h.q1; omega) }
theorem Pair.right (h : Pair w0 bs bp ds dp N g cs s t W) (k : SdL W W' ds dp N t') : Pair w0 bs bp ds dp N g cs s t' W' :=
  { h with p := h.p.other k.2 h.n3.symm h.n2, d := k.1, o := (k.2.old _ (row_lt' h.o) h.n5.symm).trans h.o, c := h.c.over k.2 fun i hi => .inr (by have := h.q2; omega) }
theorem Pair.arg (h : Pair w0 bs bp ds dp N g #[.int .i64 z0, .int .i64 z1, .int .i64 z2] s t W) : W.cell? ⟨g, 1, none⟩ = some (.int .i64 z1) ∧ W.cell? ⟨g, 2, none⟩ = some (.int .i64 z2) :=
  ⟨cell_of_row W g 1 _ 57 (0, 0) h.o, cell_of_row W g 2 _ 57 (0, 0) h.o⟩
theorem same_self {w : World} {a b : Option Addr} {n m c d : Nat} {L : List Int} (h1 : Lies intE w (.slice a n c) L) (h2 : Lies intE w (.slice b m d) L) :
    Calls Try.prog 37 #[.slice a n c, .slice b m d] w fun e w' => e = .returned (.bool true) ∧ Cha (fun _ => False) w w' :=
  (same_ints h1 h2).mono fun _ _ ⟨x, y⟩ => ⟨by rw [x]; simp, y⟩
set_option maxRecDepth 100000 in
set_option maxHeartbeats 16000000 in
theorem splays_bad (n : Int) (w : World) (hb : n < 1 ∨ 4096 < n) (a : Option Addr) (len c : Nat) :
    Calls Try.prog 9 #[.int .i64 n, .slice a len c] w fun e w' => e = .returned (.bool true) ∧ Cha (fun _ => False) w w' := by
  have N1 := Lib.hid fun w => snew_bad n w hb
  have N2 := Lib.hid fun w => dsnew_bad n w hb
  have AW := Lib.hid sawake
  clear hb
  go_enter Try.func9, Try.ntmps9
  go_wp2_with (first
    | (go_at_call 30; (with_reducible refine (N1.out _).mono ?_); rintro e w1 ⟨rfl, rfl⟩)
    | (go_at_call 31; (with_reducible refine (N2.out _).mono ?_); rintro e w1 ⟨rfl, rfl⟩)
    | (go_at_call 32; (with_reducible refine (AW.out _).mono ?_); rintro e w9 ⟨rfl, h9⟩; have H9 := Lib.hid h9; clear h9))
  go_returns
  exact ⟨rfl, H9.out⟩
set_option maxRecDepth 100000 in
set_option maxHeartbeats 16000000 in
theorem splays_ok (N : Nat) (w : World) (h1 : 1 ≤ N) (h2 : N ≤ 4096) (a : Option Addr) (len c : Nat) (k : Script .i64 w a len c) :
    Calls Try.prog 9 #[.int .i64 N, .slice a len c] w fun e w' => e = .returned (.bool true) ∧ Cha (fun _ => False) w w' := by
  have AW := Lib.hid sawake
  have N1 := Lib.hid (snew_ok N w h1 h2)
  have N2 := Lib.hid fun w => dsnew_ok N w h1 h2
  obtain ⟨⟨hlc, hcap⟩, hs⟩ := k
  have HS := Lib.hid hs
  clear hs
  go_enter Try.func9, Try.ntmps9
  go_wp2_with (first
    | (go_at_call 30; (with_reducible refine (N1.out).mono ?_); rintro e w1 ⟨rfl, hp1, hc1⟩; have HP1 := Lib.hid hp1; have HC1 := Lib.hid hc1; clear hp1 hc1)
    | (go_at_call 31; (with_reducible refine (N2.out _).mono ?_); rintro e w2 ⟨rfl, hp2, hc2⟩; have HP2 := Lib.hid (HP1.out.same hc2); have HD2 := Lib.hid hp2; have HC2 := Lib.hid (HC1.out.trans hc2); clear hp2 hc2)
    | (go_at_call 32; (with_reducible refine (AW.out _).mono ?_); rintro e w3 ⟨rfl, hc3⟩; have HP3 := Lib.hid (HP2.out.same hc3); have HD3 := Lib.hid (HD2.out.same hc3); have HC3 := Lib.hid (HC2.out.trans hc3); clear hc3))
  have B0 : Hid (w.heap.size < w1.heap.size ∧ w.heap.size + 1 < w1.heap.size) := Lib.hid (by have := HP1.out.row.lt; have := HP1.out.lt; omega)
  clear N1 N2 AW HP1 HC1 HP2 HD2 HC2
  obtain ⟨bp, hbp⟩ : ∃ x, w.heap.size = x := ⟨_, rfl⟩
  have LE : Hid (w.heap.size ≤ bp) := Lib.hid (by omega)
  generalize w1.heap.size = dp at *
  rw [hbp] at B0 HP3 ⊢
  clear hbp
  have B1 : Hid (bp ≠ dp ∧ bp ≠ dp + 1 ∧ dp ≠ bp + 1 ∧ bp ≤ dp) := Lib.hid (by have := B0.out; omega)
  clear B0
  generalize bp + 1 = bs at *
  generalize dp + 1 = ds at *
  go_loopw [47] (fun i wr => ∃ j : Nat, j ≤ len ∧ i = .int .i64 (j : Int) ∧ ∃ s : Nat → Int, Sv 79 85 wr bs bp N s ∧ Sv 81 3 wr ds dp N s ∧ Cha (fun _ => False) w wr) (fun i _ => len - (intOf i).toNat)
  case atStart => exact ⟨0, Nat.zero_le _, rfl, _, HP3.out, HD3.out, HC3.out⟩
  case round =>
    clear HP3 HD3 HC3
    obtain ⟨j, hj, rfl, s, hP, hD, hC⟩ := hrel
    by_cases hlt : j < len
    · obtain ⟨b, o, rfl, hz⟩ := HS.out (by omega)
      obtain ⟨z0, z1, z2, hop⟩ := hz j hlt
      have hop := hop.cha hC
      have hz1 : isI z1 := ⟨i64_lo hop.w1, i64_hi hop.w1⟩
      have hz2 : isI z2 := ⟨i64_lo hop.w2, i64_hi hop.w2⟩
      have HR := Lib.hid hop.cells
      have ca := (Cha.refl (fun _ => False) wr).alloc (.cells #[.int .i64 z0, .int .i64 z1, .int .i64 z2] 57)
      have HB : Hid (Pair w bs bp ds dp N wr.heap.size #[.int .i64 z0, .int .i64 z1, .int .i64 z2] s s (wr.alloc (.cells #[.int .i64 z0, .int .i64 z1, .int .i64 z2] 57))) :=
        Lib.hid ⟨hP.same ca, hD.same ca, heap_alloc_new wr _, hC.trans ca, LE.out, by have := B1.out; have := LE.out; omega, B1.out.2.1, B1.out.1, B1.out.2.2.1, by have := hP.row.lt; omega, by have := hD.row.lt; omega⟩
      clear hz hop hP hD hC ca
      go_upto_block 2 with (refine wpList_load_mid rfl 57 (.tmp 49) rfl b (o + j * 3) rfl _ _ HR.out Try.underlying57 rfl (by kernel_rfl) ?_)
      go_cut [11] (fun v wx => v = .bool true ∧ ∃ sn : Nat → Int, Pair w bs bp ds dp N wr.heap.size #[.int .i64 z0, .int .i64 z1, .int .i64 z2] sn sn wx)
      case first =>
        as_aux_lemma =>
          obtain ⟨k1, k2⟩ := HB.out.arg
          generalize hWb : wr.alloc (.cells #[.int .i64 z0, .int .i64 z1, .int .i64 z2] 57) = Wb at *
          clear hWb HR
          generalize wr.heap.size = g at *
          by_cases h0 : z0 = 0
          · subst h0
            obtain ⟨r1, hr1⟩ : ∃ x, (useR N s z1 z2).1 = x := ⟨_, rfl⟩
            obtain ⟨r2, hr2⟩ : ∃ x, (useR N s z1 z2).2 = x := ⟨_, rfl⟩
            have S1 : Hid (∀ W, Pair w bs bp ds dp N g #[.int .i64 0, .int .i64 z1, .int .i64 z2] s s W → Calls Try.prog 33 #[.pointer (some ⟨bs, 0, none⟩), .int .i64 z1, .int .i64 z2] W fun e w' => e = .returned (.tuple #[.int .i64 r1, .int .i64 r2]) ∧ Pair w bs bp ds dp N g #[.int .i64 0, .int .i64 z1, .int .i64 z2] (useS N s z1 z2) s w') :=
              Lib.hid fun W h => (use_any h.p z1 z2 hz1 hz2).mono fun _ _ ⟨x, y⟩ => ⟨by rw [← hr1, ← hr2]; exact x, h.left y⟩
            have S2 : Hid (∀ W, Pair w bs bp ds dp N g #[.int .i64 0, .int .i64 z1, .int .i64 z2] (useS N s z1 z2) s W → Calls Try.prog 34 #[.pointer (some ⟨ds, 0, none⟩), .int .i64 z1, .int .i64 z2] W fun e w' => e = .returned (.tuple #[.int .i64 r1, .int .i64 r2]) ∧ Pair w bs bp ds dp N g #[.int .i64 0, .int .i64 z1, .int .i64 z2] (useS N s z1 z2) (useS N s z1 z2) w') :=
              Lib.hid fun W h => (duse_any h.d z1 z2 hz1 hz2).mono fun _ _ ⟨x, y⟩ => ⟨by rw [← hr1, ← hr2]; exact x, h.right y⟩
            clear hr1 hr2
            go_wp2_with (first
              | (go_at_call 33; ((with_reducible refine (S1.out _ HB.out).mono ?_); rintro e w5 ⟨rfl, h⟩; have H5 := Lib.hid h; obtain ⟨k4, k5⟩ := h.arg; clear h))
              | (go_at_call 34; ((with_reducible refine (S2.out _ H5.out).mono ?_); rintro e w6 ⟨rfl, h⟩; have H6 := Lib.hid h; clear h)))
            go_meet
            exact ⟨by first | rfl | simp, _, H6.out⟩
          · have h01 : (z0 == 0) = false := by simpa using h0
            by_cases h1 : z0 = 1
            · subst h1
              obtain ⟨r1, hr1⟩ : ∃ x, freR N s z1 z2 = x := ⟨_, rfl⟩
              have S1 : Hid (∀ W, Pair w bs bp ds dp N g #[.int .i64 1, .int .i64 z1, .int .i64 z2] s s W → Calls Try.prog 35 #[.pointer (some ⟨bs, 0, none⟩), .int .i64 z1, .int .i64 z2] W fun e w' => e = .returned (.int .i64 r1) ∧ Pair w bs bp ds dp N g #[.int .i64 1, .int .i64 z1, .int .i64 z2] (freS N s z1 z2) s w') :=
                Lib.hid fun W h => (sfree_any h.p z1 z2 hz1 hz2).mono fun _ _ ⟨x, y⟩ => ⟨by rw [← hr1]; exact x, h.left y⟩
              have S2 : Hid (∀ W, Pair w bs bp ds dp N g #[.int .i64 1, .int .i64 z1, .int .i64 z2] (freS N s z1 z2) s W → Calls Try.prog 36 #[.pointer (some ⟨ds, 0, none⟩), .int .i64 z1, .int .i64 z2] W fun e w' => e = .returned (.int .i64 r1) ∧ Pair w bs bp ds dp N g #[.int .i64 1, .int .i64 z1, .int .i64 z2] (freS N s z1 z2) (freS N s z1 z2) w') :=
                Lib.hid fun W h => (ddocfree_any h.d z1 z2 hz1 hz2).mono fun _ _ ⟨x, y⟩ => ⟨by rw [← hr1]; exact x, h.right y⟩
              have HBd : Hid (Pair w bs bp ds dp N g #[.int .i64 1, .int .i64 z1, .int .i64 z2] s s Wb.drew) := Lib.hid (HB.out.same (Cha.refl _ Wb).drew)
              obtain ⟨k3, k4⟩ := HBd.out.arg
              clear hr1
              go_wp2
              go_region_held3 (fun w' => w'.cell? ⟨g, 1, none⟩ = some (.int .i64 z1) ∧ w'.cell? ⟨g, 2, none⟩ = some (.int .i64 z2))
                (first
                  | go_keep
                  | exact ⟨k3, k4⟩
                  | exact KQ)
                (first
                  | (go_at_call 35; ((with_reducible refine (S1.out _ HBd.out).mono ?_); rintro e w5 ⟨rfl, h⟩; have H5 := h; have KQ := h.arg))
                  | (go_at_call 36; ((with_reducible refine (S2.out _ H5).mono ?_); rintro e w6 ⟨rfl, h⟩; have H6 := h; clear KQ; have KQ := h.arg)))
              all_goals
                go_wp2
                go_meet
                exact ⟨by first | rfl | simp, _, H6⟩
            · have h11 : (z0 == 1) = false := by simpa using h1
              by_cases h2 : z0 = 2
              · subst h2
                have S1 : Hid (∀ W, Pair w bs bp ds dp N g #[.int .i64 2, .int .i64 z1, .int .i64 z2] s s W → Calls Try.prog 38 #[.pointer (some ⟨bs, 0, none⟩), .int .i64 z2] W fun e w' => ∃ a n c, e = .returned (.slice a n c) ∧ Made W w' (.slice a n c) (giv s N z2.toNat) ∧ Pair w bs bp ds dp N g #[.int .i64 2, .int .i64 z1, .int .i64 z2] (giS s N z2.toNat) s w') :=
                  Lib.hid fun W h => (give_any h.p z2 hz2).mono fun _ _ ⟨v, x, m, y⟩ => by
                    obtain ⟨a, c, rfl, _, _⟩ := m.lies.form
                    exact ⟨_, _, _, x, m, h.left y⟩
                have S2 : Hid (∀ W0 W a n c, Made W0 W (.slice a n c) (giv s N z2.toNat) → dp < W0.heap.size → Pair w bs bp ds dp N g #[.int .i64 2, .int .i64 z1, .int .i64 z2] (giS s N z2.toNat) s W → Calls Try.prog 39 #[.pointer (some ⟨ds, 0, none⟩), .int .i64 z2] W fun e w' => ∃ a2 n2 c2, e = .returned (.slice a2 n2 c2) ∧ Lies intE w' (.slice a n c) (giv s N z2.toNat) ∧ Lies intE w' (.slice a2 n2 c2) (giv s N z2.toNat) ∧ Pair w bs bp ds dp N g #[.int .i64 2, .int .i64 z1, .int .i64 z2] (giS s N z2.toNat) (giS s N z2.toNat) w') :=
                  Lib.hid fun W0 W a n c m hdp h => (dgive_any h.d z2 hz2).mono fun _ _ ⟨v, x, m2, y⟩ => by
                    obtain ⟨a2, c2, rfl, _, _⟩ := m2.lies.form
                    exact ⟨_, _, _, x, m.lies.cha y.2 fun b hb e => by have := m.new b hb; omega, m2.lies, h.right y⟩
                have HBd : Hid (Pair w bs bp ds dp N g #[.int .i64 2, .int .i64 z1, .int .i64 z2] s s Wb.drew) := Lib.hid (HB.out.same (Cha.refl _ Wb).drew)
                have HDP : Hid (dp < Wb.drew.heap.size) := Lib.hid HBd.out.d.row.lt
                obtain ⟨k3, k4⟩ := HBd.out.arg
                go_wp2
                go_region_held3 (fun w' => w'.cell? ⟨g, 2, none⟩ = some (.int .i64 z2))
                  (first
                    | go_keep
                    | exact k4
                    | exact KQ)
                  (first
                    | (go_at_call 38; ((with_reducible refine (S1.out _ HBd.out).mono ?_); rintro e w5 ⟨a1, n1, c1, rfl, m1, h⟩; have H5 := h; have KQ := h.arg.2))
                    | (go_at_call 39; ((with_reducible refine (S2.out _ _ _ _ _ m1 HDP.out H5).mono ?_); rintro e w6 ⟨a2, n2, c2, rfl, l1, l2, h⟩; have H6 := h; clear KQ; have KQ := h.arg.2))
                    | (go_at_call 37; ((with_reducible refine (same_self l1 l2).mono ?_); rintro e w7 ⟨rfl, h⟩; have H7 := H6.same h; clear KQ; have KQ := H7.arg.2)))
                all_goals
                  go_wp2
                  go_meet
                  exact ⟨by first | rfl | simp, _, H7⟩
              · have h21 : (z0 == 2) = false := by simpa using h2
                go_wp2
                go_meet
                exact ⟨rfl, s, HB.out⟩
      case rest =>
        as_aux_lemma =>
          obtain ⟨rfl, sn, hB⟩ := hcut
          have HB2 := Lib.hid hB
          clear hB HB HR
          generalize wr.heap.size = g at *
          generalize (#[.int .i64 z0, .int .i64 z1, .int .i64 z2] : Array Value) = cs at *
          obtain ⟨q2, hq2⟩ : ∃ x, cn sn 2 0 N = x := ⟨_, rfl⟩
          obtain ⟨q1, hq1⟩ : ∃ x, cn sn 1 0 N = x := ⟨_, rfl⟩
          obtain ⟨q0, hq0⟩ : ∃ x, cn sn 0 0 N = x := ⟨_, rfl⟩
          have C40 : Hid (∀ W, Pair w bs bp ds dp N g cs sn sn W → Calls Try.prog 40 #[.pointer (some ⟨bs, 0, none⟩)] W fun e w' => e = .returned (.tuple #[.int .i64 (q2 : Nat), .int .i64 (q1 : Nat), .int .i64 (q0 : Nat)]) ∧ Pair w bs bp ds dp N g cs sn sn w') :=
            Lib.hid fun W h => (scounts_any h.p).mono fun _ _ ⟨x, y⟩ => ⟨by rw [← hq2, ← hq1, ← hq0]; exact x, h.same y⟩
          have D2 : Hid (∀ W, Pair w bs bp ds dp N g cs sn sn W → Calls Try.prog 41 #[.pointer (some ⟨ds, 0, none⟩), .int .i64 2] W fun e w' => e = .returned (.int .i64 (q2 : Nat)) ∧ W = w') := Lib.hid fun W h => by rw [← hq2]; exact dcount_any h.d 2
          have D1 : Hid (∀ W, Pair w bs bp ds dp N g cs sn sn W → Calls Try.prog 41 #[.pointer (some ⟨ds, 0, none⟩), .int .i64 1] W fun e w' => e = .returned (.int .i64 (q1 : Nat)) ∧ W = w') := Lib.hid fun W h => by rw [← hq1]; exact dcount_any h.d 1
          have D0 : Hid (∀ W, Pair w bs bp ds dp N g cs sn sn W → Calls Try.prog 41 #[.pointer (some ⟨ds, 0, none⟩), .int .i64 0] W fun e w' => e = .returned (.int .i64 (q0 : Nat)) ∧ W = w') := Lib.hid fun W h => by rw [← hq0]; exact dcount_any h.d 0
          clear hq2 hq1 hq0
          go_wp2_with (first
            | (go_at_call 40; ((with_reducible refine (C40.out _ HB2.out).mono ?_); rintro e w7 ⟨rfl, h⟩; have H7 := Lib.hid h; clear h))
            | (go_at_call 41; ((with_reducible refine (D2.out _ H7.out).mono ?_); rintro e w8 ⟨rfl, rfl⟩))
            | (go_at_call 41; ((with_reducible refine (D1.out _ H7.out).mono ?_); rintro e w8 ⟨rfl, rfl⟩))
            | (go_at_call 41; ((with_reducible refine (D0.out _ H7.out).mono ?_); rintro e w8 ⟨rfl, rfl⟩)))
          go_roundw
          case rel => exact ⟨j + 1, by omega, by go_num, sn, H7.out.p, H7.out.d, H7.out.c⟩
          case measure => simp [intOf]; omega
    · clear hP hD
      have HC := Lib.hid hC
      clear hC
      go_wp2
      go_returns
      exact ⟨rfl, HC.out⟩
theorem splays_walk (n : Int) (w : World) (a : Option Addr) (len c : Nat) (k : Script .i64 w a len c) :
    Calls Try.prog 9 #[.int .i64 n, .slice a len c] w fun e w' => e = .returned (.bool true) ∧ Cha (fun _ => False) w w' := by
  by_cases h : n < 1 ∨ 4096 < n
  · exact splays_bad n w h a len c
  · obtain ⟨N, rfl⟩ := Int.eq_ofNat_of_zero_le (show 0 ≤ n by omega)
    exact splays_ok N w (by omega) (by omega) a len c k
end
end Go.Proofs.Ytlpgfdphoiideaa
