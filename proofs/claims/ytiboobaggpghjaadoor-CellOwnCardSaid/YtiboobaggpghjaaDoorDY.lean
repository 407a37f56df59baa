/- CellOwn: the walk. -/
import Derived.Test.YtiboobaggpghjaaDoorDX
namespace Go.Proofs.YtiboobaggpghjaaDoor
open Go.ChangeShapes Go.WideShapes Go.ChangeAt Go.RowKit

set_option maxRecDepth 100000 in
set_option maxHeartbeats 8000000 in
theorem own_walk (w : World) (hs : Siz w) (a0 : Int) (w0 : (Lit.int .u8 a0).wf = true) (a1 : Option Addr) (n1 c1 M : Nat) (hM : M = min n1 200) (k1 : NumsC .u8 w a1 n1 c1) :
    Calls Tryd.prog 9 #[.int .u8 a0, .slice a1 n1 c1] w fun e w' => e = .returned (.bool true) ∧ Cha (fun _ => False) w w' := by
  have CN : Hid (Calls Tryd.prog 21 #[.int .i64 512, .int .i64 4] w fun e w' => ∃ bc, e = .returned (.tuple #[.pointer (some ⟨bc, 0, none⟩), .int .i64 0]) ∧ ∃ F, Oc 512 4 F bc w' [] ∧ Cha (fun _ => False) w w' ∧ ∀ i, F i → w.heap.size ≤ i) := Lib.hid (oc_new 512 4 w (by omega) (by omega) (by omega) (by omega) hs)
  have CA := Lib.hid fun W (h : Siz W) => awake7 W h
  have H1 := Lib.hid k1
  have hM1 : M ≤ 200 := by omega
  have hM2 : M ≤ n1 := by omega
  have hcc := k1.1
  have hcd := k1.2.1
  have hn1 := k1.2.2.1
  have hlo := u8_lo w0
  have hhi := u8_hi w0
  obtain ⟨k, hk⟩ : ∃ k : Nat, a0 % 24 + 1 = (k : Int) := ⟨(a0 % 24 + 1).toNat, by omega⟩
  have hkk1 : 1 ≤ k := by omega
  have hkk2 : k ≤ 24 := by omega
  obtain ⟨j, hj⟩ : ∃ j, j = cof k := ⟨_, rfl⟩
  have HJ := Lib.hid hj
  have HS0 := Lib.hid hs
  clear k1 w0 hs hj
  have hmin : (if (200 : Int) < (n1 : Int) then (200 : Int) else (n1 : Int)) = (M : Int) := by split <;> omega
  clear hM
  have hmk : ∀ W, (Instr.makeSlice 39 (.int .i64 512) (.int .i64 512)).run Tryd.prog W = .ok (.slice (some ⟨W.heap.size, 0, none⟩) 512 512) (W.alloc (.cells (fcells 512 fun _ => .int .i64 0) 3)) := fun W => mk_ints 512 (by omega) W
  obtain ⟨fc, hfc⟩ : ∃ fc, fc = fcells 512 (fun _ => Value.int .i64 0) := ⟨_, rfl⟩
  simp only [← hfc] at hmk
  have HFC := Lib.hid hfc
  clear hfc
  go_enter Tryd.func9, Tryd.ntmps9
  go_wp2_with (first
    | (go_at_call 21; ((with_reducible refine (CN.out).mono ?_); rintro e w1 ⟨bc, rfl, F, h, hc, hf⟩; have H2 := Lib.hid h; have C2 := Lib.hid hc; have N2 := Lib.hid hf; clear h hc hf))
    | (go_at_call 23; ((with_reducible refine (CA.out _ H2.out.siz).mono ?_); rintro e w2 ⟨rfl, h⟩; have H3 := Lib.hid (H2.out.same h); have C3 := Lib.hid (C2.out.trans h); clear h)))
  obtain ⟨g, hg⟩ : ∃ g, g = w2.heap.size := ⟨_, rfl⟩
  have hg2 : w.heap.size ≤ g := by rw [hg]; exact C3.out.size
  have X1 : FRow 3 (w2.alloc (.cells fc 3)) g 512 (fun _ => .int .i64 0) := by unfold FRow; rw [hg, ← HFC.out]; exact heap_alloc_new w2 _
  have X2 : (w2.alloc (.cells fc 3)).heap.size = g + 1 := by rw [hg, World.size_alloc]
  have X3 : Cha (fun _ => False) w2 (w2.alloc (.cells fc 3)) := (Cha.refl _ w2).alloc _
  have X4 : ∀ i, F i → i < g := fun i hi => by rw [hg]; exact H3.out.lt hi
  rw [← hg]
  obtain ⟨w3, hw3⟩ : ∃ w3, w3 = w2.alloc (.cells fc 3) := ⟨_, rfl⟩
  rw [← hw3] at X1 X2 X3 ⊢
  clear hw3 hg hmk
  obtain ⟨w4, hw4⟩ : ∃ w4, w4 = w3.alloc (.cells #[.int .i64 (-1), .int .i64 (-1), .int .i64 (-1), .int .i64 (-1)] 3) := ⟨_, rfl⟩
  have e4 : fcells 4 (fun _ => Value.int .i64 (-1)) = #[.int .i64 (-1), .int .i64 (-1), .int .i64 (-1), .int .i64 (-1)] := by kernel_rfl
  have X5 : FRow 3 w4 (g + 1) 4 (fun _ => .int .i64 (-1)) := by unfold FRow; rw [hw4, ← X2, e4]; exact heap_alloc_new w3 _
  have X6 : Cha (fun _ => False) w3 w4 := by rw [hw4]; exact (Cha.refl _ w3).alloc _
  have O0 := Lib.hid (H3.out.same (X3.trans X6))
  have hw0 : 0 < w.heap.size := by
    obtain ⟨_, _, hs0⟩ := HS0.out
    exact (Array.getElem?_eq_some_iff.1 hs0).1
  have I0 : Hid (Rw9 w g (g + 1) (fun _ => 0) F w4) := Lib.hid ⟨fun e => by have := X4 _ e; omega, fun e => by have := X4 _ e; omega, X6.row X1 (fun x => x), ⟨_, X5⟩, (C3.out.trans X3).trans X6, N2.out, ⟨hg2, by omega⟩, by omega⟩
  simp only [← hw4]
  obtain ⟨g2, hgg2⟩ : ∃ g2, g2 = g + 1 := ⟨_, rfl⟩
  rw [← hgg2] at I0 ⊢
  have hg20 : g2 ≠ 0 := by omega
  have hg10 : g ≠ 0 := by omega
  clear X1 X2 X3 X4 X5 X6 hw4 hg2 C2 C3 H2 H3 N2 CA CN hgg2
  go_loopw [47] (fun i wr => ∃ (t : Nat) (A : List Bk) (own : Nat → Int) (F : Nat → Prop), t ≤ M ∧ i = .int .i64 (t : Int) ∧ OwnI j A t own ∧ Oc 512 4 F bc wr A ∧ Rw9 w g g2 own F wr) (fun i _ => M - (intOf i).toNat)
  case atStart => exact ⟨0, _, _, _, by omega, rfl, OwnI.nil j, O0.out, I0.out⟩
  case round =>
    clear I0 O0
    obtain ⟨t, A, own, F, ht, rfl, hP, hO, hR⟩ := hrel
    by_cases hlt : t < M
    · obtain ⟨b, o, z, rfl, hz⟩ := H1.out.2.2.2 (by omega)
      obtain ⟨hz1, hz2⟩ := hz t (by omega)
      have hc := (hR.cha.old b (block_lt_of_cell hz1) (fun x => x))
      have hcell : wr.cell? ⟨b, o + t, none⟩ = some (.int .u8 (z t)) := (World.cell?_of_block (a := ⟨b, o + t, none⟩) hc).trans hz1
      have hxlo := u8_lo hz2
      have hxhi := u8_hi hz2
      clear hz hz1 hz2 hc
      generalize z t = x at *
      obtain ⟨p, hp⟩ : ∃ p : Nat, x % 4 = (p : Int) := ⟨(x % 4).toNat, by omega⟩
      have hp4 : p < 4 := by omega
      obtain ⟨A1, y, hA1, hy, hyp, hyf, hal⟩ := own_prep hP hkk1 hkk2 HJ.out hp4 (by omega)
      obtain ⟨hu1, hu2, hu3⟩ := own_use hA1 hy hyp hyf
      have hfr := own_free hA1 hy hyf
      have hag := own_again hA1 hkk1 hkk2 HJ.out hp4 hy hyp hyf
      have hq := cell_pg y
      have hq0 : 0 ≤ cellAt y := by unfold cellAt; omega
      generalize cellAt y = x0 at *
      generalize pgAt y = pg at *
      generalize upd A1 y.b useB = A2 at *
      have C31 := Lib.hid (oc_alloc hO hal (by omega))
      have C32 := Lib.hid fun W F (h : Oc 512 4 F bc W A2) => oc_free h hfr (by omega)
      have D31 := Lib.hid fun W F (h : Oc 512 4 F bc W A1) => oc_alloc h hag (by omega)
      have HR := Lib.hid hR
      have HU := Lib.hid hu1
      clear hO hR hu1 hP hA1 hy hyp hyf hal hfr hag
      obtain ⟨v, hv⟩ : ∃ v, v = own pg := ⟨_, rfl⟩
      have hcl : ∀ W' F', Cha F wr W' → (∀ i, F' i → F i ∨ wr.heap.size ≤ i) → W'.cell? ⟨g, pg, none⟩ = some (.int .i64 v) ∧ W'.frozen? ⟨g, pg, none⟩ = false ∧ Rw9 w g g2 own F' W' := fun W' F' h1 h2 =>
        have r := HR.out.move (F' := F') h1 h2
        ⟨by rw [r.r1.cell hu2, hv], r.r1.free pg, r⟩
      have HCL := Lib.hid hcl
      rw [← hv] at hu3
      clear hcl hv
      by_cases h3 : x % 3 = 0
      · rcases hu3 with rfl | rfl
        all_goals
          go_wp2_with (first
            | (go_at_call 31; ((with_reducible refine (C31.out).mono ?_); rintro e w5 ⟨rfl, F5, k1, k2, k3, k4⟩; obtain ⟨g1, g2', g3⟩ := HCL.out _ _ k2 k4; have O5 := Lib.hid (k1.other (g := g) g3.f1 hg10 pg (.int .i64 ((p : Int) + 1))); have R5 := Lib.hid (g3.set pg ((p : Int) + 1)); clear k1 k2 k3 k4 g3))
            | (go_at_call 32; ((with_reducible refine (C32.out _ _ O5.out).mono ?_); rintro e w6 ⟨rfl, k1, k2⟩; have R6 := Lib.hid (R5.out.move (F' := F5) k2 (fun i hi => .inl hi)); have O6 := Lib.hid k1; clear k1 k2))
            | (go_at_call 31; ((with_reducible refine (D31.out _ _ O6.out).mono ?_); rintro e w7 ⟨rfl, F7, k1, k2, k3, k4⟩; have R7 := Lib.hid (R6.out.move k2 k4); have O7 := Lib.hid k1; obtain ⟨l7, r7⟩ := R7.out.r2; have fr7 := r7.free p; have ce7 := r7.cell hp4; clear k1 k2 k3 k4)))
          go_roundw
          case rel => exact ⟨t + 1, _, _, F7, by omega, by go_num, HU.out, O7.out.other R7.out.f2 hg20 _ _, R7.out.last _ _⟩
          case measure => simp [intOf]; omega
      · rcases hu3 with rfl | rfl
        all_goals
          go_wp2_with (first
            | (go_at_call 31; ((with_reducible refine (C31.out).mono ?_); rintro e w5 ⟨rfl, F5, k1, k2, k3, k4⟩; obtain ⟨g1, g2', g3⟩ := HCL.out _ _ k2 k4; have O5 := Lib.hid (k1.other (g := g) g3.f1 hg10 pg (.int .i64 ((p : Int) + 1))); have R5 := Lib.hid (g3.set pg ((p : Int) + 1)); obtain ⟨l7, r7⟩ := R5.out.r2; have fr7 := r7.free p; have ce7 := r7.cell hp4; clear k1 k2 k3 k4 g3)))
          go_roundw
          case rel => exact ⟨t + 1, _, _, F5, by omega, by go_num, HU.out, O5.out.other R5.out.f2 hg20 _ _, R5.out.last _ _⟩
          case measure => simp [intOf]; omega
    · obtain rfl : t = M := by omega
      have C29 : Hid (Calls Tryd.prog 29 #[.pointer (some ⟨bc, 0, none⟩)] wr fun e w' => ∃ z, e = .returned (.tuple #[.int .i64 (t : Int), z, .int .i64 (cntF (isU (covA A) 512) 512 : Nat)]) ∧ Cha (fun _ => False) wr w') := Lib.hid ((oc_counts hO).mono fun e w' ⟨he, _, hc⟩ => ⟨.int .i64 (sumA fW A : Int), he.trans (by rw [hP.sum]), hc⟩)
      have HR := Lib.hid hR
      clear hO hR hP
      generalize cntF (isU (covA A) 512) 512 = fr at *
      go_wp2_with (go_at_call 29; ((with_reducible refine (C29.out).mono ?_); rintro e w5 ⟨z, rfl, hc⟩; have HC := Lib.hid hc; clear hc))
      go_ret
      exact ⟨rfl, HR.out.cha.trans HC.out⟩
end Go.Proofs.YtiboobaggpghjaaDoor
