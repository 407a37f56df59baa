/- wipe. -/
import Derived.Test.YtpdjbhnpahkbpaaCB
import Derived.Handy
namespace Go.Proofs.Ytpdjbhnpahkbpaa.Z
open Go.ChangeShapes Go.WideShapes Go.ChangeAt Go.RowKit

theorem Wi.same {B : Nat → Prop} {W w : World} {b o n c : Nat} {a : Option Addr} (h : Wi false B W w) (hb : B b) (hc : W.cell? ⟨b, o, none⟩ = some (.slice a n c)) : w.cell? ⟨b, o, none⟩ = some (.slice a n c) := by
  obtain ⟨u', h1, h2⟩ := h.kp b o _ hb hc
  rcases h2 with rfl | ⟨_, _, _, e, _⟩ | ⟨e, _⟩
  · exact h1
  · cases e
  · cases e
theorem Wi.setNew {q : Bool} {B : Nat → Prop} {W w : World} {b o : Nat} {x : Value} (h : Wi q B W w) (hb : ¬ B b) (hz : W.heap.size ≤ b) : Wi q B W (w.setCell ⟨b, o, none⟩ x) := ⟨fun b' o' u hb' hu => by
  obtain ⟨u', h1, h2⟩ := h.kp b' o' u hb' hu
  refine ⟨u', (World.cell?_setCell_other _ _ _ _ ?_).trans h1, h2⟩
  intro e
  cases e
  exact hb hb', h.ch.setCell (p := ⟨b, o, none⟩) (fun h => absurd h (by show ¬ b < _; omega)) x⟩
theorem Wi.setIns {B : Nat → Prop} {W w : World} {b o : Nat} (h : Wi true B W w) (hb : B b) (hi : InsW B w b o) (x0 x1 x2 x3 x4 : Int) :
    Wi true B W ((((((w.setCell ⟨b, o, none⟩ (.int .i64 x0)).setCell ⟨b, o + 1, none⟩ (.int .i64 x1)).setCell ⟨b, o + 2, none⟩ (.int .i64 x2)).setCell ⟨b, o + 3, none⟩ (.int .i64 x3)).setCell ⟨b, o + 4, none⟩ (.int .u64 x4)).setCell ⟨b, o + 5, none⟩ (.slice none 0 0)) := by
  obtain ⟨z0, e0⟩ := hi.c0
  have k0 := (Wi.refl true B w).setInt hb e0 x0
  obtain ⟨z1, e1⟩ := (hi.wi k0 hb).c1
  have k1 := k0.setInt hb e1 x1
  obtain ⟨z2, e2⟩ := (hi.wi k1 hb).c2
  have k2 := k1.setInt hb e2 x2
  obtain ⟨z3, e3⟩ := (hi.wi k2 hb).c3
  have k3 := k2.setInt hb e3 x3
  obtain ⟨z4, e4⟩ := (hi.wi k3 hb).c4
  have k4 := k3.setInt hb e4 x4
  obtain ⟨z5, e5, l⟩ := (hi.wi k4 hb).c5
  obtain ⟨a, n, c, rfl⟩ := l.shape
  exact h.trans (k4.setNil hb e5)
theorem Wi.setFn {B : Nat → Prop} {W w : World} {b o : Nat} (h : Wi true B W w) (hb : B b) (hi : FnW B w b o) (x0 : Int) :
    Wi true B W ((((w.setCell ⟨b, o, none⟩ (.int .i64 x0)).setCell ⟨b, o + 1, none⟩ (.slice none 0 0)).setCell ⟨b, o + 2, none⟩ (.slice none 0 0)).setCell ⟨b, o + 3, none⟩ (.slice none 0 0)) := by
  obtain ⟨z0, e0⟩ := hi.c0
  have k0 := (Wi.refl true B w).setInt hb e0 x0
  obtain ⟨z1, e1, l1⟩ := (hi.wi k0 hb).c1
  obtain ⟨_, _, _, rfl⟩ := l1.shape
  have k1 := k0.setNil hb e1
  obtain ⟨z2, e2, l2⟩ := (hi.wi k1 hb).c2
  obtain ⟨_, _, _, rfl⟩ := l2.shape
  have k2 := k1.setNil hb e2
  obtain ⟨z3, e3, l3⟩ := (hi.wi k2 hb).c3
  obtain ⟨_, _, _, rfl⟩ := l3.shape
  exact h.trans (k2.setNil hb e3)
set_option maxRecDepth 100000 in
set_option maxHeartbeats 4000000 in
theorem wipe_walk {B : Nat → Prop} {W : World} {v0 v1 v2 : Value} (h0 : Ls (TyW B) 2 B W v0) (h1 : Ls In 1 B W v1) (h2 : Ls (FnW B) 4 B W v2) (hB : ∀ i, B i → i < W.heap.size) (hF : ∀ b o, B b → W.frozen? ⟨b, o, none⟩ = false) :
    Calls Try.prog 22 #[.agg #[v0, v1, v2]] W fun e w' => e = .returned (.tuple #[]) ∧ Cha B W w' := by
  obtain ⟨a0, n0, c0, rfl⟩ := h0.shape
  obtain ⟨a1, n1, c1, rfl⟩ := h1.shape
  obtain ⟨a2, n2, c2, rfl⟩ := h2.shape
  have hl0 := h0.len
  have hl1 := h1.len
  have hl2 := h2.len
  have X1 := Lib.hid (heap_alloc_new W (.cells #[.slice a0 n0 c0, .slice a1 n1 c1, .slice a2 n2 c2] 26))
  have C1 : Hid (Wi true B W (W.alloc (.cells #[.slice a0 n0 c0, .slice a1 n1 c1, .slice a2 n2 c2] 26))) := Lib.hid ((Wi.refl true B W).alloc _)
  have H0 := Lib.hid (h0.tys C1.out)
  have H1 := Lib.hid (h1.ints C1.out)
  have H2 := Lib.hid (h2.fns C1.out)
  have FB : Hid (¬ B W.heap.size) := Lib.hid fun h => by have := hB _ h; omega
  have FZ : Hid (∀ b o, B b → (W.alloc (.cells #[.slice a0 n0 c0, .slice a1 n1 c1, .slice a2 n2 c2] 26)).frozen? ⟨b, o, none⟩ = false) := Lib.hid fun b o hb => C1.out.ch.frz b o (hF b o hb)
  have LB : Hid (∀ b, B b → b < (W.alloc (.cells #[.slice a0 n0 c0, .slice a1 n1 c1, .slice a2 n2 c2] 26)).heap.size) := Lib.hid fun b h => Nat.lt_of_lt_of_le (hB b h) C1.out.ch.size
  clear h0 h1 h2 hB hF
  go_enter Try.func22, Try.ntmps22
  go_wp2
  obtain ⟨b1, hb1⟩ : ∃ b1, b1 = W.heap.size := ⟨_, rfl⟩
  rw [← hb1] at X1 FB ⊢
  generalize W.alloc (.cells #[.slice a0 n0 c0, .slice a1 n1 c1, .slice a2 n2 c2] 26) = W2 at *
  clear hb1
  go_loopw [14] (fun i wr => ∃ (k : Nat), k ≤ n0 ∧ i = .int .i64 (k : Int) ∧ Wi true B W2 wr) (fun i _ => n0 - (intOf i).toNat)
  case atStart => exact ⟨0, Nat.zero_le _, rfl, Wi.refl _ _ _⟩
  case round =>
    obtain ⟨k, hk, rfl, hC⟩ := hrel
    have HC := Lib.hid hC
    have X3 := Lib.hid ((hC.ch.old _ (Array.getElem?_eq_some_iff.1 X1.out).1 FB.out).trans X1.out)
    have p0 := cell_of_row wr b1 0 _ 26 (0, 0) X3.out
    have p1 := cell_of_row wr b1 1 _ 26 (0, 0) X3.out
    clear hC
    by_cases hlt : k < n0
    · obtain ⟨g, o, rfl, hb, hx⟩ := (H0.out.tys HC.out).at hlt
      obtain ⟨v, s1, l1⟩ := hx.c1
      obtain ⟨la, ln, lc, rfl⟩ := l1.shape
      have L1 := Lib.hid l1
      have HB := Lib.hid hb
      have S1 := Lib.hid s1
      have hl := l1.len
      clear hx l1 hb p1
      go_wp2
      generalize wr = w3 at *
      clear p0 s1
      go_loopw [24] (fun i w => ∃ (m : Nat), m ≤ ln ∧ i = .int .i64 (m : Int) ∧ Wi false B w3 w) (fun i _ => ln - (intOf i).toNat)
      case atStart => exact ⟨0, Nat.zero_le _, rfl, Wi.refl _ _ _⟩
      case round =>
        obtain ⟨m, hm, rfl, hD⟩ := hrel
        have HD := Lib.hid hD
        have HE := Lib.hid (HC.out.trans hD.wide)
        have X4 := (hD.ch.old _ (Array.getElem?_eq_some_iff.1 X3.out).1 FB.out).trans X3.out
        have p0 := cell_of_row wr b1 0 _ 26 (0, 0) X4
        have s1 := hD.same HB.out S1.out
        clear hD X4
        by_cases hlt2 : m < ln
        · obtain ⟨g', o', rfl, hb', z, hz⟩ := (L1.out.ints HD.out).at hlt2
          have fz := HE.out.ch.frz g' (o' + m) (FZ.out _ _ hb')
          rw [Nat.mul_one] at hz
          have HD2 := Lib.hid (HD.out.setInt hb' hz 77)
          go_wp2
          go_roundw
          case rel => exact ⟨m + 1, by omega, by go_num, HD2.out⟩
          case measure => simp [intOf]; omega
        · go_wp2
          go_roundw
          case rel => exact ⟨k + 1, by omega, by go_num, HE.out⟩
          case measure => simp [intOf]; omega
    · go_wp2
      clear hlt hk p0 p1 X3
      generalize wr = w3 at *
      go_loopw [40] (fun i w => ∃ (m : Nat), m ≤ n1 ∧ i = .int .i64 (m : Int) ∧ Wi true B W2 w) (fun i _ => n1 - (intOf i).toNat)
      case atStart => exact ⟨0, Nat.zero_le _, rfl, HC.out⟩
      case round =>
        clear HC
        obtain ⟨m, hm, rfl, hC⟩ := hrel
        have HC := Lib.hid hC
        have X3 := Lib.hid ((hC.ch.old _ (Array.getElem?_eq_some_iff.1 X1.out).1 FB.out).trans X1.out)
        have p1 := cell_of_row wr b1 1 _ 26 (0, 0) X3.out
        have p2 := cell_of_row wr b1 2 _ 26 (0, 0) X3.out
        clear hC
        by_cases hlt : m < n1
        · obtain ⟨g', o', rfl, hb', z, hz⟩ := (H1.out.ints HC.out).at hlt
          have fz := HC.out.ch.frz g' (o' + m) (FZ.out _ _ hb')
          rw [Nat.mul_one] at hz
          have HD2 := Lib.hid (HC.out.setInt hb' hz 78)
          go_wp2
          go_roundw
          case rel => exact ⟨m + 1, by omega, by go_num, HD2.out⟩
          case measure => simp [intOf]; omega
        · go_wp2
          clear hlt hm p1 p2 X3
          generalize wr = w4 at *
          go_loopw [51] (fun i w => ∃ (m : Nat), m ≤ n2 ∧ i = .int .i64 (m : Int) ∧ Wi true B W2 w) (fun i _ => n2 - (intOf i).toNat)
          case atStart => exact ⟨0, Nat.zero_le _, rfl, HC.out⟩
          case round =>
            clear HC
            obtain ⟨m, hm, rfl, hC⟩ := hrel
            have HC := Lib.hid hC
            have X3 := Lib.hid ((hC.ch.old _ (Array.getElem?_eq_some_iff.1 X1.out).1 FB.out).trans X1.out)
            have p2 := cell_of_row wr b1 2 _ 26 (0, 0) X3.out
            clear hC
            by_cases hlt : m < n2
            · obtain ⟨g, o, rfl, hb, hx⟩ := (H2.out.fns HC.out).at hlt
              obtain ⟨z0, s0⟩ := hx.c0
              obtain ⟨u1, s1, l1⟩ := hx.c1
              obtain ⟨u2, s2, l2⟩ := hx.c2
              obtain ⟨u3, s3, l3⟩ := hx.c3
              obtain ⟨x1, y1, z1, rfl⟩ := l1.shape
              obtain ⟨x2, y2, z2, rfl⟩ := l2.shape
              obtain ⟨x3, y3, z3, rfl⟩ := l3.shape
              have hy1 := l1.len
              have hy2 := l2.len
              have hy3 := l3.len
              have L1 := Lib.hid l1
              have L2 := Lib.hid l2
              have L3 := Lib.hid l3
              have HB := Lib.hid hb
              have hbl := (Array.getElem?_eq_some_iff.1 X3.out).1
              clear hx l1 l2 l3 hb
              go_wp2
              have X6 := Lib.hid (heap_alloc_new wr (.cells #[.int .i64 z0, .slice x1 y1 z1, .slice x2 y2 z2, .slice x3 y3 z3] 55))
              have HC6 := Lib.hid (HC.out.alloc (.cells #[.int .i64 z0, .slice x1 y1 z1, .slice x2 y2 z2, .slice x3 y3 z3] 55))
              have FB6 : Hid (¬ B wr.heap.size) := Lib.hid fun h => by have := LB.out _ h; have := HC.out.ch.size; omega
              have M1 := Lib.hid (L1.out.ints ((Wi.refl true B wr).alloc (.cells #[.int .i64 z0, .slice x1 y1 z1, .slice x2 y2 z2, .slice x3 y3 z3] 55)))
              have M2 := Lib.hid (L2.out.ints ((Wi.refl true B wr).alloc (.cells #[.int .i64 z0, .slice x1 y1 z1, .slice x2 y2 z2, .slice x3 y3 z3] 55)))
              have M3 := Lib.hid (L3.out.inss ((Wi.refl true B wr).alloc (.cells #[.int .i64 z0, .slice x1 y1 z1, .slice x2 y2 z2, .slice x3 y3 z3] 55)))
              clear L1 L2 L3 s0 s1 s2 s3 p2 X3 hbl
              obtain ⟨b6, hb6⟩ : ∃ b, b = wr.heap.size := ⟨_, rfl⟩
              rw [← hb6] at X6 FB6 ⊢
              generalize wr.alloc (.cells #[.int .i64 z0, .slice x1 y1 z1, .slice x2 y2 z2, .slice x3 y3 z3] 55) = w6 at *
              clear hb6 HC
              go_loopw [62] (fun i w => ∃ (j : Nat), j ≤ y1 ∧ i = .int .i64 (j : Int) ∧ Wi true B w6 w) (fun i _ => y1 - (intOf i).toNat)
              case atStart => exact ⟨0, Nat.zero_le _, rfl, Wi.refl _ _ _⟩
              case round =>
                obtain ⟨j, hj, rfl, hD⟩ := hrel
                have HD := Lib.hid hD
                have HE := Lib.hid (HC6.out.trans hD)
                have hX := (hD.ch.old _ (Array.getElem?_eq_some_iff.1 X6.out).1 FB6.out).trans X6.out
                have r1 := cell_of_row wr b6 1 _ 55 (0, 0) hX
                have r2 := cell_of_row wr b6 2 _ 55 (0, 0) hX
                have r3 := cell_of_row wr b6 3 _ 55 (0, 0) hX
                clear hD hX
                by_cases hlt5 : j < y1
                · obtain ⟨g', o', rfl, hb', z, hz⟩ := (M1.out.ints HD.out).at hlt5
                  have fz := HE.out.ch.frz g' (o' + j) (FZ.out _ _ hb')
                  rw [Nat.mul_one] at hz
                  have HD2 := Lib.hid (HD.out.setInt hb' hz 79)
                  go_wp2
                  go_roundw
                  case rel => exact ⟨j + 1, by omega, by go_num, HD2.out⟩
                  case measure => simp [intOf]; omega
                · go_wp2
                  clear hlt5 hj r1 r2 r3
                  generalize wr = wx at *
                  go_loopw [73] (fun i w => ∃ (j : Nat), j ≤ y2 ∧ i = .int .i64 (j : Int) ∧ Wi true B w6 w) (fun i _ => y2 - (intOf i).toNat)
                  case atStart => exact ⟨0, Nat.zero_le _, rfl, HD.out⟩
                  case round =>
                    clear HD HE
                    obtain ⟨j, hj, rfl, hD⟩ := hrel
                    have HD := Lib.hid hD
                    have HE := Lib.hid (HC6.out.trans hD)
                    have hX := (hD.ch.old _ (Array.getElem?_eq_some_iff.1 X6.out).1 FB6.out).trans X6.out
                    have r1 := cell_of_row wr b6 1 _ 55 (0, 0) hX
                    have r2 := cell_of_row wr b6 2 _ 55 (0, 0) hX
                    have r3 := cell_of_row wr b6 3 _ 55 (0, 0) hX
                    clear hD hX
                    by_cases hlt5 : j < y2
                    · obtain ⟨g', o', rfl, hb', z, hz⟩ := (M2.out.ints HD.out).at hlt5
                      have fz := HE.out.ch.frz g' (o' + j) (FZ.out _ _ hb')
                      rw [Nat.mul_one] at hz
                      have HD2 := Lib.hid (HD.out.setInt hb' hz 80)
                      go_wp2
                      go_roundw
                      case rel => exact ⟨j + 1, by omega, by go_num, HD2.out⟩
                      case measure => simp [intOf]; omega
                    · go_wp2
                      clear hlt5 hj r1 r2 r3
                      generalize wr = wx at *
                      go_loopw [84] (fun i w => ∃ (j : Nat), j ≤ y3 ∧ i = .int .i64 (j : Int) ∧ Wi true B w6 w) (fun i _ => y3 - (intOf i).toNat)
                      case atStart => exact ⟨0, Nat.zero_le _, rfl, HD.out⟩
                      case round =>
                        clear HD HE
                        obtain ⟨j, hj, rfl, hD⟩ := hrel
                        have HD := Lib.hid hD
                        have HE := Lib.hid (HC6.out.trans hD)
                        have X7 := Lib.hid ((hD.ch.old _ (Array.getElem?_eq_some_iff.1 X6.out).1 FB6.out).trans X6.out)
                        have r3 := cell_of_row wr b6 3 _ 55 (0, 0) X7.out
                        clear hD
                        by_cases hlt7 : j < y3
                        · obtain ⟨i1, j1, rfl, hbi, hx⟩ := (M3.out.inss HD.out).at hlt7
                          obtain ⟨v5, s5, l5⟩ := hx.c5
                          obtain ⟨ya, yn, yc, rfl⟩ := l5.shape
                          have L5 := Lib.hid l5
                          have S5 := Lib.hid s5
                          have HBI := Lib.hid hbi
                          have HX := Lib.hid hx
                          have hl5 := l5.len
                          clear l5 hbi hx
                          go_wp2
                          generalize wr = w8 at *
                          clear r3 s5
                          go_loopw [94] (fun i w => ∃ (q : Nat), q ≤ yn ∧ i = .int .i64 (q : Int) ∧ Wi false B w8 w) (fun i _ => yn - (intOf i).toNat)
                          case atStart => exact ⟨0, Nat.zero_le _, rfl, Wi.refl _ _ _⟩
                          case round =>
                            obtain ⟨q, hq, rfl, hF⟩ := hrel
                            have HF := Lib.hid hF
                            have HG := Lib.hid (HE.out.trans hF.wide)
                            have r3 := cell_of_row wr b6 3 _ 55 (0, 0) ((hF.ch.old _ (Array.getElem?_eq_some_iff.1 X7.out).1 FB6.out).trans X7.out)
                            have s5 := hF.same HBI.out S5.out
                            by_cases hlt8 : q < yn
                            · clear hF
                              obtain ⟨g', o', rfl, hb', z, hz⟩ := (L5.out.ints HF.out).at hlt8
                              have fz := HG.out.ch.frz g' (o' + q) (FZ.out _ _ hb')
                              rw [Nat.mul_one] at hz
                              have HD2 := Lib.hid (HF.out.setInt hb' hz 81)
                              go_wp2
                              go_roundw
                              case rel => exact ⟨q + 1, by omega, by go_num, HD2.out⟩
                              case measure => simp [intOf]; omega
                            · have hi := HX.out.wi hF.wide HBI.out
                              have HI := Lib.hid ((HD.out.trans hF.wide).setIns HBI.out hi 82 0 0 0 0)
                              obtain ⟨z0', e0⟩ := hi.c0
                              obtain ⟨z1', e1⟩ := hi.c1
                              obtain ⟨z2', e2⟩ := hi.c2
                              obtain ⟨z3', e3⟩ := hi.c3
                              obtain ⟨z4', e4⟩ := hi.c4
                              have f0 := HG.out.ch.frz i1 (j1 + j * 6) (FZ.out _ _ HBI.out)
                              have f1 := HG.out.ch.frz i1 (j1 + j * 6 + 1) (FZ.out _ _ HBI.out)
                              have f2 := HG.out.ch.frz i1 (j1 + j * 6 + 2) (FZ.out _ _ HBI.out)
                              have f3 := HG.out.ch.frz i1 (j1 + j * 6 + 3) (FZ.out _ _ HBI.out)
                              have f4 := HG.out.ch.frz i1 (j1 + j * 6 + 4) (FZ.out _ _ HBI.out)
                              have f5 := HG.out.ch.frz i1 (j1 + j * 6 + 5) (FZ.out _ _ HBI.out)
                              clear hF hi
                              go_wp2
                              go_roundw
                              case rel => exact ⟨j + 1, by omega, by go_num, HI.out⟩
                              case measure => simp [intOf]; omega
                        · have p2 := cell_of_row wr b1 2 _ 26 (0, 0) ((HE.out.ch.old _ (Array.getElem?_eq_some_iff.1 X1.out).1 FB.out).trans X1.out)
                          obtain ⟨g2, o2, eg, -, hi⟩ := (H2.out.fns HE.out).at hlt
                          cases eg
                          have HI := Lib.hid (HE.out.setFn HB.out hi 83)
                          obtain ⟨z0', e0⟩ := hi.c0
                          obtain ⟨v1', e1, -⟩ := hi.c1
                          obtain ⟨v2', e2, -⟩ := hi.c2
                          obtain ⟨v3', e3, -⟩ := hi.c3
                          have f0 := HE.out.ch.frz g (o + m * 4) (FZ.out _ _ HB.out)
                          have f1 := HE.out.ch.frz g (o + m * 4 + 1) (FZ.out _ _ HB.out)
                          have f2 := HE.out.ch.frz g (o + m * 4 + 2) (FZ.out _ _ HB.out)
                          have f3 := HE.out.ch.frz g (o + m * 4 + 3) (FZ.out _ _ HB.out)
                          clear hi
                          go_wp2
                          go_roundw
                          case rel => exact ⟨m + 1, by omega, by go_num, HI.out⟩
                          case measure => simp [intOf]; omega
            · go_wp2
              go_returns
              exact ⟨rfl, C1.out.ch.trans HC.out.ch⟩
end Go.Proofs.Ytpdjbhnpahkbpaa.Z
