/- Check: the form of an instruction. -/
import Derived.Test.YtpdjbhnpahkbpaaVR
namespace Go.Proofs.Ytpdjbhnpahkbpaa
set_option linter.unusedVariables false
open Go.ChangeShapes Go.WideShapes Go.ChangeAt Go.RowKit
section
variable {W w w' : World} {x : SV} {p : PZ} {f : FZ} {i : IZ}
theorem andnot32 : ∀ P, P < 32 → ∀ U, U < 32 → (bits .andNot .i64 ((P : Nat) : Int) ((U : Nat) : Int) == 0) = ((P &&& U) == P) := by decide +kernel
theorem idx5_0 (b0 b1 b2 b3 b4 : Bool) (w : World) : (Instr.index 129 (.agg #[.bool b0, .bool b1, .bool b2, .bool b3, .bool b4]) (.int .i64 0)).run Try.prog w = .ok (.bool b0) w := by
  simp [Instr.index, go_sem, run_underlying Try.underlying129]
theorem idx5_1 (b0 b1 b2 b3 b4 : Bool) (w : World) : (Instr.index 129 (.agg #[.bool b0, .bool b1, .bool b2, .bool b3, .bool b4]) (.int .i64 1)).run Try.prog w = .ok (.bool b1) w := by
  simp [Instr.index, go_sem, run_underlying Try.underlying129]
theorem idx5_2 (b0 b1 b2 b3 b4 : Bool) (w : World) : (Instr.index 129 (.agg #[.bool b0, .bool b1, .bool b2, .bool b3, .bool b4]) (.int .i64 2)).run Try.prog w = .ok (.bool b2) w := by
  simp [Instr.index, go_sem, run_underlying Try.underlying129]
theorem idx5_3 (b0 b1 b2 b3 b4 : Bool) (w : World) : (Instr.index 129 (.agg #[.bool b0, .bool b1, .bool b2, .bool b3, .bool b4]) (.int .i64 3)).run Try.prog w = .ok (.bool b3) w := by
  simp [Instr.index, go_sem, run_underlying Try.underlying129]
theorem idx5_4 (b0 b1 b2 b3 b4 : Bool) (w : World) : (Instr.index 129 (.agg #[.bool b0, .bool b1, .bool b2, .bool b3, .bool b4]) (.int .i64 4)).run Try.prog w = .ok (.bool b4) w := by
  simp [Instr.index, go_sem, run_underlying Try.underlying129]
/-- Which of the first k fields aren't zero. -/
def maskZ (b0 b1 b2 b3 b4 : Bool) (k : Nat) : Nat := (if 0 < k then bitZ b0 1 else 0) + (if 1 < k then bitZ b1 2 else 0) + (if 2 < k then bitZ b2 4 else 0) + (if 3 < k then bitZ b3 8 else 0) + (if 4 < k then bitZ b4 16 else 0)
set_option maxHeartbeats 8000000 in
set_option maxRecDepth 100000 in
theorem form_any (h : Sit W x p f i) (h0 : 1 ≤ i.op) (h1 : i.op ≤ 52) : Calls Try.prog 65 #[x.v f i] W (Says W (.bool (formZ i))) := by
  have CU : Hid (∀ w, Calls Try.prog 83 #[.int .i64 i.op] w fun e w' => e = .returned (.int .i64 (usesZ i.op : Int)) ∧ w' = w) := Lib.hid fun w => uses_any i.op h0 h1
  have hu : usesZ i.op < 32 := by unfold usesZ; repeat' (first | omega | split)
  have hL := h.eL
  obtain ⟨ba, eba⟩ : ∃ q, (i.a != 0) = q := ⟨_, rfl⟩
  obtain ⟨bb, ebb⟩ : ∃ q, (i.b != 0) = q := ⟨_, rfl⟩
  obtain ⟨bc, ebc⟩ : ∃ q, (i.c != 0) = q := ⟨_, rfl⟩
  obtain ⟨bi, ebi⟩ : ∃ q, (((i.imm : Nat) : Int) != 0) = q := ⟨_, rfl⟩
  obtain ⟨bl, ebl⟩ : ∃ q, decide (0 < x.nL) = q := ⟨_, rfl⟩
  have ebi2 : (i.imm != 0) = bi := by
    rw [← ebi]
    rw [Bool.eq_iff_iff]
    simp only [bne_iff_ne, ne_eq]
    omega
  have ebl2 : decide (0 < i.l.length) = bl := by rw [← ebl, ← hL]
  have HF : Hid (formZ i = (((bitZ ba 1 + bitZ bb 2 + bitZ bc 4 + bitZ bi 8 + bitZ bl 16) &&& usesZ i.op) == (bitZ ba 1 + bitZ bb 2 + bitZ bc 4 + bitZ bi 8 + bitZ bl 16))) := Lib.hid (by
    unfold formZ hasZ; rw [eba, ebb, ebc, ebi2, ebl2])
  rw [HF.out]
  clear h h0 h1 HF ebi2 ebl2 hL
  obtain ⟨aT, nT, cT, aG, nG, cG, aF, nF, cF, aS, nS, cS, aR, nR, cR, aC, nC, cC, aL, nL, cL⟩ := x
  obtain ⟨pa, sl, re, co⟩ := f
  obtain ⟨op, a, b, c, im, li⟩ := i
  dsimp only [SV.v] at *
  generalize usesZ op = U at *
  have KS : Hid (∀ w' : World, Cha (fun _ => False) (W.alloc (.cells #[.slice aT nT cT, .slice aG nG cG, .slice aF nF cF, .int .i64 pa, .slice aS nS cS, .slice aR nR cR, .slice aC nC cC, .int .i64 op, .int .i64 a, .int .i64 b, .int .i64 c, .int .u64 (im : Int), .slice aL nL cL] 92)) w' → w'.cell? ⟨W.heap.size, 0, none⟩ = some (.slice aT nT cT) ∧ w'.cell? ⟨W.heap.size, 1, none⟩ = some (.slice aG nG cG) ∧ w'.cell? ⟨W.heap.size, 2, none⟩ = some (.slice aF nF cF) ∧ w'.cell? ⟨W.heap.size, 3, none⟩ = some (.int .i64 pa) ∧ w'.cell? ⟨W.heap.size, 4, none⟩ = some (.slice aS nS cS) ∧ w'.cell? ⟨W.heap.size, 5, none⟩ = some (.slice aR nR cR) ∧ w'.cell? ⟨W.heap.size, 6, none⟩ = some (.slice aC nC cC) ∧ w'.cell? ⟨W.heap.size, 7, none⟩ = some (.int .i64 op) ∧ w'.cell? ⟨W.heap.size, 8, none⟩ = some (.int .i64 a) ∧ w'.cell? ⟨W.heap.size, 9, none⟩ = some (.int .i64 b) ∧ w'.cell? ⟨W.heap.size, 10, none⟩ = some (.int .i64 c) ∧ w'.cell? ⟨W.heap.size, 11, none⟩ = some (.int .u64 (im : Int)) ∧ w'.cell? ⟨W.heap.size, 12, none⟩ = some (.slice aL nL cL)) := Lib.hid fun w' h => site_keep h
  have C0 : Hid (Cha (fun _ => False) (W.alloc (.cells #[.slice aT nT cT, .slice aG nG cG, .slice aF nF cF, .int .i64 pa, .slice aS nS cS, .slice aR nR cR, .slice aC nC cC, .int .i64 op, .int .i64 a, .int .i64 b, .int .i64 c, .int .u64 (im : Int), .slice aL nL cL] 92)) (W.alloc (.cells #[.slice aT nT cT, .slice aG nG cG, .slice aF nF cF, .int .i64 pa, .slice aS nS cS, .slice aR nR cR, .slice aC nC cC, .int .i64 op, .int .i64 a, .int .i64 b, .int .i64 c, .int .u64 (im : Int), .slice aL nL cL] 92))) := Lib.hid (Cha.refl _ _)
  have HA := Lib.hid (fun P hP => andnot32 P hP U hu)
  have I0 := idx5_0 ba bb bc bi bl
  have I1 := idx5_1 ba bb bc bi bl
  have I2 := idx5_2 ba bb bc bi bl
  have I3 := idx5_3 ba bb bc bi bl
  have I4 := idx5_4 ba bb bc bi bl
  have hm : maskZ ba bb bc bi bl 5 = bitZ ba 1 + bitZ bb 2 + bitZ bc 4 + bitZ bi 8 + bitZ bl 16 := by simp [maskZ]
  rw [← hm]
  have HM : Hid (∀ ob : Bool → Bool → Bool → Bool → Bool → Nat → Nat, ob = maskZ → True) := Lib.hid fun _ _ => trivial
  clear hm HM
  clear I0 I1 I2 I3 I4
  cases ba <;> cases bb <;> cases bc <;> cases bi <;> cases bl
  · have I0 := idx5_0 false false false false false
    have I1 := idx5_1 false false false false false
    have I2 := idx5_2 false false false false false
    have I3 := idx5_3 false false false false false
    have I4 := idx5_4 false false false false false
    go_enter Try.func65, Try.ntmps65
    go_wp2
    go_loopw [3, 28] (fun m i wr => ∃ z y : Int, 0 ≤ z ∧ z ≤ 5 ∧ i = .int .i64 z ∧ m = .int .i64 y ∧ y = (maskZ false false false false false z.toNat : Int) ∧ Cha (fun _ => False) (W.alloc (.cells #[.slice aT nT cT, .slice aG nG cG, .slice aF nF cF, .int .i64 pa, .slice aS nS cS, .slice aR nR cR, .slice aC nC cC, .int .i64 op, .int .i64 a, .int .i64 b, .int .i64 c, .int .u64 (im : Int), .slice aL nL cL] 92)) wr) (fun _ i _ => 5 - (intOf i).toNat)
    case atStart => exact ⟨0, 0, by omega, by omega, rfl, rfl, rfl, C0.out⟩
    case round =>
      obtain ⟨z, y, hz0, hz1, rfl, rfl, hy, hC⟩ := hrel
      have C := Lib.hid hC
      obtain ⟨b0, b1, b2, b3, b4, b5, b6, b7, b8, b9, b10, b11, b12⟩ := KS.out _ hC
      clear hC
      have hk : z = 0 ∨ z = 1 ∨ z = 2 ∨ z = 3 ∨ z = 4 ∨ z = 5 := by omega
      clear hz0 hz1
      rcases hk with rfl | rfl | rfl | rfl | rfl | rfl
      · obtain rfl : y = 0 := hy

        go_wp2
        go_roundw
        case rel => exact ⟨1, 0, by omega, by omega, rfl, rfl, rfl, C.out⟩
        case measure => simp [intOf]
      · obtain rfl : y = 0 := hy

        go_wp2
        go_roundw
        case rel => exact ⟨2, 0, by omega, by omega, rfl, rfl, rfl, C.out⟩
        case measure => simp [intOf]
      · obtain rfl : y = 0 := hy

        go_wp2
        go_roundw
        case rel => exact ⟨3, 0, by omega, by omega, rfl, rfl, rfl, C.out⟩
        case measure => simp [intOf]
      · obtain rfl : y = 0 := hy

        go_wp2
        go_roundw
        case rel => exact ⟨4, 0, by omega, by omega, rfl, rfl, rfl, C.out⟩
        case measure => simp [intOf]
      · obtain rfl : y = 0 := hy

        go_wp2
        go_roundw
        case rel => exact ⟨5, 0, by omega, by omega, rfl, rfl, rfl, C.out⟩
        case measure => simp [intOf]
      · obtain rfl : y = 0 := hy

        have e := HA.out 0 (by omega)
        have E : Hid ((bits .andNot .i64 0 (U : Int) == 0) = ((maskZ false false false false false 5 &&& U) == maskZ false false false false false 5)) := Lib.hid e
        go_wp2_with (go_at_call 83; ((with_reducible refine (CU.out _).mono ?_); rintro e w4 ⟨rfl, rfl⟩))
        go_ret
        exact ⟨by first | (rw [← E.out]; done) | (rw [← E.out]; rfl), cha_box.trans C.out⟩
  · have I0 := idx5_0 false false false false true
    have I1 := idx5_1 false false false false true
    have I2 := idx5_2 false false false false true
    have I3 := idx5_3 false false false false true
    have I4 := idx5_4 false false false false true
    go_enter Try.func65, Try.ntmps65
    go_wp2
    go_loopw [3, 28] (fun m i wr => ∃ z y : Int, 0 ≤ z ∧ z ≤ 5 ∧ i = .int .i64 z ∧ m = .int .i64 y ∧ y = (maskZ false false false false true z.toNat : Int) ∧ Cha (fun _ => False) (W.alloc (.cells #[.slice aT nT cT, .slice aG nG cG, .slice aF nF cF, .int .i64 pa, .slice aS nS cS, .slice aR nR cR, .slice aC nC cC, .int .i64 op, .int .i64 a, .int .i64 b, .int .i64 c, .int .u64 (im : Int), .slice aL nL cL] 92)) wr) (fun _ i _ => 5 - (intOf i).toNat)
    case atStart => exact ⟨0, 0, by omega, by omega, rfl, rfl, rfl, C0.out⟩
    case round =>
      obtain ⟨z, y, hz0, hz1, rfl, rfl, hy, hC⟩ := hrel
      have C := Lib.hid hC
      obtain ⟨b0, b1, b2, b3, b4, b5, b6, b7, b8, b9, b10, b11, b12⟩ := KS.out _ hC
      clear hC
      have hk : z = 0 ∨ z = 1 ∨ z = 2 ∨ z = 3 ∨ z = 4 ∨ z = 5 := by omega
      clear hz0 hz1
      rcases hk with rfl | rfl | rfl | rfl | rfl | rfl
      · obtain rfl : y = 0 := hy

        go_wp2
        go_roundw
        case rel => exact ⟨1, 0, by omega, by omega, rfl, rfl, rfl, C.out⟩
        case measure => simp [intOf]
      · obtain rfl : y = 0 := hy

        go_wp2
        go_roundw
        case rel => exact ⟨2, 0, by omega, by omega, rfl, rfl, rfl, C.out⟩
        case measure => simp [intOf]
      · obtain rfl : y = 0 := hy

        go_wp2
        go_roundw
        case rel => exact ⟨3, 0, by omega, by omega, rfl, rfl, rfl, C.out⟩
        case measure => simp [intOf]
      · obtain rfl : y = 0 := hy

        go_wp2
        go_roundw
        case rel => exact ⟨4, 0, by omega, by omega, rfl, rfl, rfl, C.out⟩
        case measure => simp [intOf]
      · obtain rfl : y = 0 := hy

        go_wp2
        go_roundw
        case rel => exact ⟨5, 16, by omega, by omega, rfl, rfl, rfl, C.out⟩
        case measure => simp [intOf]
      · obtain rfl : y = 16 := hy

        have e := HA.out 16 (by omega)
        have E : Hid ((bits .andNot .i64 16 (U : Int) == 0) = ((maskZ false false false false true 5 &&& U) == maskZ false false false false true 5)) := Lib.hid e
        go_wp2_with (go_at_call 83; ((with_reducible refine (CU.out _).mono ?_); rintro e w4 ⟨rfl, rfl⟩))
        go_ret
        exact ⟨by first | (rw [← E.out]; done) | (rw [← E.out]; rfl), cha_box.trans C.out⟩
  · have I0 := idx5_0 false false false true false
    have I1 := idx5_1 false false false true false
    have I2 := idx5_2 false false false true false
    have I3 := idx5_3 false false false true false
    have I4 := idx5_4 false false false true false
    go_enter Try.func65, Try.ntmps65
    go_wp2
    go_loopw [3, 28] (fun m i wr => ∃ z y : Int, 0 ≤ z ∧ z ≤ 5 ∧ i = .int .i64 z ∧ m = .int .i64 y ∧ y = (maskZ false false false true false z.toNat : Int) ∧ Cha (fun _ => False) (W.alloc (.cells #[.slice aT nT cT, .slice aG nG cG, .slice aF nF cF, .int .i64 pa, .slice aS nS cS, .slice aR nR cR, .slice aC nC cC, .int .i64 op, .int .i64 a, .int .i64 b, .int .i64 c, .int .u64 (im : Int), .slice aL nL cL] 92)) wr) (fun _ i _ => 5 - (intOf i).toNat)
    case atStart => exact ⟨0, 0, by omega, by omega, rfl, rfl, rfl, C0.out⟩
    case round =>
      obtain ⟨z, y, hz0, hz1, rfl, rfl, hy, hC⟩ := hrel
      have C := Lib.hid hC
      obtain ⟨b0, b1, b2, b3, b4, b5, b6, b7, b8, b9, b10, b11, b12⟩ := KS.out _ hC
      clear hC
      have hk : z = 0 ∨ z = 1 ∨ z = 2 ∨ z = 3 ∨ z = 4 ∨ z = 5 := by omega
      clear hz0 hz1
      rcases hk with rfl | rfl | rfl | rfl | rfl | rfl
      · obtain rfl : y = 0 := hy

        go_wp2
        go_roundw
        case rel => exact ⟨1, 0, by omega, by omega, rfl, rfl, rfl, C.out⟩
        case measure => simp [intOf]
      · obtain rfl : y = 0 := hy

        go_wp2
        go_roundw
        case rel => exact ⟨2, 0, by omega, by omega, rfl, rfl, rfl, C.out⟩
        case measure => simp [intOf]
      · obtain rfl : y = 0 := hy

        go_wp2
        go_roundw
        case rel => exact ⟨3, 0, by omega, by omega, rfl, rfl, rfl, C.out⟩
        case measure => simp [intOf]
      · obtain rfl : y = 0 := hy

        go_wp2
        go_roundw
        case rel => exact ⟨4, 8, by omega, by omega, rfl, rfl, rfl, C.out⟩
        case measure => simp [intOf]
      · obtain rfl : y = 8 := hy

        go_wp2
        go_roundw
        case rel => exact ⟨5, 8, by omega, by omega, rfl, rfl, rfl, C.out⟩
        case measure => simp [intOf]
      · obtain rfl : y = 8 := hy

        have e := HA.out 8 (by omega)
        have E : Hid ((bits .andNot .i64 8 (U : Int) == 0) = ((maskZ false false false true false 5 &&& U) == maskZ false false false true false 5)) := Lib.hid e
        go_wp2_with (go_at_call 83; ((with_reducible refine (CU.out _).mono ?_); rintro e w4 ⟨rfl, rfl⟩))
        go_ret
        exact ⟨by first | (rw [← E.out]; done) | (rw [← E.out]; rfl), cha_box.trans C.out⟩
  · have I0 := idx5_0 false false false true true
    have I1 := idx5_1 false false false true true
    have I2 := idx5_2 false false false true true
    have I3 := idx5_3 false false false true true
    have I4 := idx5_4 false false false true true
    go_enter Try.func65, Try.ntmps65
    go_wp2
    go_loopw [3, 28] (fun m i wr => ∃ z y : Int, 0 ≤ z ∧ z ≤ 5 ∧ i = .int .i64 z ∧ m = .int .i64 y ∧ y = (maskZ false false false true true z.toNat : Int) ∧ Cha (fun _ => False) (W.alloc (.cells #[.slice aT nT cT, .slice aG nG cG, .slice aF nF cF, .int .i64 pa, .slice aS nS cS, .slice aR nR cR, .slice aC nC cC, .int .i64 op, .int .i64 a, .int .i64 b, .int .i64 c, .int .u64 (im : Int), .slice aL nL cL] 92)) wr) (fun _ i _ => 5 - (intOf i).toNat)
    case atStart => exact ⟨0, 0, by omega, by omega, rfl, rfl, rfl, C0.out⟩
    case round =>
      obtain ⟨z, y, hz0, hz1, rfl, rfl, hy, hC⟩ := hrel
      have C := Lib.hid hC
      obtain ⟨b0, b1, b2, b3, b4, b5, b6, b7, b8, b9, b10, b11, b12⟩ := KS.out _ hC
      clear hC
      have hk : z = 0 ∨ z = 1 ∨ z = 2 ∨ z = 3 ∨ z = 4 ∨ z = 5 := by omega
      clear hz0 hz1
      rcases hk with rfl | rfl | rfl | rfl | rfl | rfl
      · obtain rfl : y = 0 := hy

        go_wp2
        go_roundw
        case rel => exact ⟨1, 0, by omega, by omega, rfl, rfl, rfl, C.out⟩
        case measure => simp [intOf]
      · obtain rfl : y = 0 := hy

        go_wp2
        go_roundw
        case rel => exact ⟨2, 0, by omega, by omega, rfl, rfl, rfl, C.out⟩
        case measure => simp [intOf]
      · obtain rfl : y = 0 := hy

        go_wp2
        go_roundw
        case rel => exact ⟨3, 0, by omega, by omega, rfl, rfl, rfl, C.out⟩
        case measure => simp [intOf]
      · obtain rfl : y = 0 := hy

        go_wp2
        go_roundw
        case rel => exact ⟨4, 8, by omega, by omega, rfl, rfl, rfl, C.out⟩
        case measure => simp [intOf]
      · obtain rfl : y = 8 := hy

        go_wp2
        go_roundw
        case rel => exact ⟨5, 24, by omega, by omega, rfl, rfl, rfl, C.out⟩
        case measure => simp [intOf]
      · obtain rfl : y = 24 := hy

        have e := HA.out 24 (by omega)
        have E : Hid ((bits .andNot .i64 24 (U : Int) == 0) = ((maskZ false false false true true 5 &&& U) == maskZ false false false true true 5)) := Lib.hid e
        go_wp2_with (go_at_call 83; ((with_reducible refine (CU.out _).mono ?_); rintro e w4 ⟨rfl, rfl⟩))
        go_ret
        exact ⟨by first | (rw [← E.out]; done) | (rw [← E.out]; rfl), cha_box.trans C.out⟩
  · have I0 := idx5_0 false false true false false
    have I1 := idx5_1 false false true false false
    have I2 := idx5_2 false false true false false
    have I3 := idx5_3 false false true false false
    have I4 := idx5_4 false false true false false
    go_enter Try.func65, Try.ntmps65
    go_wp2
    go_loopw [3, 28] (fun m i wr => ∃ z y : Int, 0 ≤ z ∧ z ≤ 5 ∧ i = .int .i64 z ∧ m = .int .i64 y ∧ y = (maskZ false false true false false z.toNat : Int) ∧ Cha (fun _ => False) (W.alloc (.cells #[.slice aT nT cT, .slice aG nG cG, .slice aF nF cF, .int .i64 pa, .slice aS nS cS, .slice aR nR cR, .slice aC nC cC, .int .i64 op, .int .i64 a, .int .i64 b, .int .i64 c, .int .u64 (im : Int), .slice aL nL cL] 92)) wr) (fun _ i _ => 5 - (intOf i).toNat)
    case atStart => exact ⟨0, 0, by omega, by omega, rfl, rfl, rfl, C0.out⟩
    case round =>
      obtain ⟨z, y, hz0, hz1, rfl, rfl, hy, hC⟩ := hrel
      have C := Lib.hid hC
      obtain ⟨b0, b1, b2, b3, b4, b5, b6, b7, b8, b9, b10, b11, b12⟩ := KS.out _ hC
      clear hC
      have hk : z = 0 ∨ z = 1 ∨ z = 2 ∨ z = 3 ∨ z = 4 ∨ z = 5 := by omega
      clear hz0 hz1
      rcases hk with rfl | rfl | rfl | rfl | rfl | rfl
      · obtain rfl : y = 0 := hy

        go_wp2
        go_roundw
        case rel => exact ⟨1, 0, by omega, by omega, rfl, rfl, rfl, C.out⟩
        case measure => simp [intOf]
      · obtain rfl : y = 0 := hy

        go_wp2
        go_roundw
        case rel => exact ⟨2, 0, by omega, by omega, rfl, rfl, rfl, C.out⟩
        case measure => simp [intOf]
      · obtain rfl : y = 0 := hy

        go_wp2
        go_roundw
        case rel => exact ⟨3, 4, by omega, by omega, rfl, rfl, rfl, C.out⟩
        case measure => simp [intOf]
      · obtain rfl : y = 4 := hy

        go_wp2
        go_roundw
        case rel => exact ⟨4, 4, by omega, by omega, rfl, rfl, rfl, C.out⟩
        case measure => simp [intOf]
      · obtain rfl : y = 4 := hy

        go_wp2
        go_roundw
        case rel => exact ⟨5, 4, by omega, by omega, rfl, rfl, rfl, C.out⟩
        case measure => simp [intOf]
      · obtain rfl : y = 4 := hy

        have e := HA.out 4 (by omega)
        have E : Hid ((bits .andNot .i64 4 (U : Int) == 0) = ((maskZ false false true false false 5 &&& U) == maskZ false false true false false 5)) := Lib.hid e
        go_wp2_with (go_at_call 83; ((with_reducible refine (CU.out _).mono ?_); rintro e w4 ⟨rfl, rfl⟩))
        go_ret
        exact ⟨by first | (rw [← E.out]; done) | (rw [← E.out]; rfl), cha_box.trans C.out⟩
  · have I0 := idx5_0 false false true false true
    have I1 := idx5_1 false false true false true
    have I2 := idx5_2 false false true false true
    have I3 := idx5_3 false false true false true
    have I4 := idx5_4 false false true false true
    go_enter Try.func65, Try.ntmps65
    go_wp2
    go_loopw [3, 28] (fun m i wr => ∃ z y : Int, 0 ≤ z ∧ z ≤ 5 ∧ i = .int .i64 z ∧ m = .int .i64 y ∧ y = (maskZ false false true false true z.toNat : Int) ∧ Cha (fun _ => False) (W.alloc (.cells #[.slice aT nT cT, .slice aG nG cG, .slice aF nF cF, .int .i64 pa, .slice aS nS cS, .slice aR nR cR, .slice aC nC cC, .int .i64 op, .int .i64 a, .int .i64 b, .int .i64 c, .int .u64 (im : Int), .slice aL nL cL] 92)) wr) (fun _ i _ => 5 - (intOf i).toNat)
    case atStart => exact ⟨0, 0, by omega, by omega, rfl, rfl, rfl, C0.out⟩
    case round =>
      obtain ⟨z, y, hz0, hz1, rfl, rfl, hy, hC⟩ := hrel
      have C := Lib.hid hC
      obtain ⟨b0, b1, b2, b3, b4, b5, b6, b7, b8, b9, b10, b11, b12⟩ := KS.out _ hC
      clear hC
      have hk : z = 0 ∨ z = 1 ∨ z = 2 ∨ z = 3 ∨ z = 4 ∨ z = 5 := by omega
      clear hz0 hz1
      rcases hk with rfl | rfl | rfl | rfl | rfl | rfl
      · obtain rfl : y = 0 := hy

        go_wp2
        go_roundw
        case rel => exact ⟨1, 0, by omega, by omega, rfl, rfl, rfl, C.out⟩
        case measure => simp [intOf]
      · obtain rfl : y = 0 := hy

        go_wp2
        go_roundw
        case rel => exact ⟨2, 0, by omega, by omega, rfl, rfl, rfl, C.out⟩
        case measure => simp [intOf]
      · obtain rfl : y = 0 := hy

        go_wp2
        go_roundw
        case rel => exact ⟨3, 4, by omega, by omega, rfl, rfl, rfl, C.out⟩
        case measure => simp [intOf]
      · obtain rfl : y = 4 := hy

        go_wp2
        go_roundw
        case rel => exact ⟨4, 4, by omega, by omega, rfl, rfl, rfl, C.out⟩
        case measure => simp [intOf]
      · obtain rfl : y = 4 := hy

        go_wp2
        go_roundw
        case rel => exact ⟨5, 20, by omega, by omega, rfl, rfl, rfl, C.out⟩
        case measure => simp [intOf]
      · obtain rfl : y = 20 := hy

        have e := HA.out 20 (by omega)
        have E : Hid ((bits .andNot .i64 20 (U : Int) == 0) = ((maskZ false false true false true 5 &&& U) == maskZ false false true false true 5)) := Lib.hid e
        go_wp2_with (go_at_call 83; ((with_reducible refine (CU.out _).mono ?_); rintro e w4 ⟨rfl, rfl⟩))
        go_ret
        exact ⟨by first | (rw [← E.out]; done) | (rw [← E.out]; rfl), cha_box.trans C.out⟩
  · have I0 := idx5_0 false false true true false
    have I1 := idx5_1 false false true true false
    have I2 := idx5_2 false false true true false
    have I3 := idx5_3 false false true true false
    have I4 := idx5_4 false false true true false
    go_enter Try.func65, Try.ntmps65
    go_wp2
    go_loopw [3, 28] (fun m i wr => ∃ z y : Int, 0 ≤ z ∧ z ≤ 5 ∧ i = .int .i64 z ∧ m = .int .i64 y ∧ y = (maskZ false false true true false z.toNat : Int) ∧ Cha (fun _ => False) (W.alloc (.cells #[.slice aT nT cT, .slice aG nG cG, .slice aF nF cF, .int .i64 pa, .slice aS nS cS, .slice aR nR cR, .slice aC nC cC, .int .i64 op, .int .i64 a, .int .i64 b, .int .i64 c, .int .u64 (im : Int), .slice aL nL cL] 92)) wr) (fun _ i _ => 5 - (intOf i).toNat)
    case atStart => exact ⟨0, 0, by omega, by omega, rfl, rfl, rfl, C0.out⟩
    case round =>
      obtain ⟨z, y, hz0, hz1, rfl, rfl, hy, hC⟩ := hrel
      have C := Lib.hid hC
      obtain ⟨b0, b1, b2, b3, b4, b5, b6, b7, b8, b9, b10, b11, b12⟩ := KS.out _ hC
      clear hC
      have hk : z = 0 ∨ z = 1 ∨ z = 2 ∨ z = 3 ∨ z = 4 ∨ z = 5 := by omega
      clear hz0 hz1
      rcases hk with rfl | rfl | rfl | rfl | rfl | rfl
      · obtain rfl : y = 0 := hy

        go_wp2
        go_roundw
        case rel => exact ⟨1, 0, by omega, by omega, rfl, rfl, rfl, C.out⟩
        case measure => simp [intOf]
      · obtain rfl : y = 0 := hy

        go_wp2
        go_roundw
        case rel => exact ⟨2, 0, by omega, by omega, rfl, rfl, rfl, C.out⟩
        case measure => simp [intOf]
      · obtain rfl : y = 0 := hy

        go_wp2
        go_roundw
        case rel => exact ⟨3, 4, by omega, by omega, rfl, rfl, rfl, C.out⟩
        case measure => simp [intOf]
      · obtain rfl : y = 4 := hy

        go_wp2
        go_roundw
        case rel => exact ⟨4, 12, by omega, by omega, rfl, rfl, rfl, C.out⟩
        case measure => simp [intOf]
      · obtain rfl : y = 12 := hy

        go_wp2
        go_roundw
        case rel => exact ⟨5, 12, by omega, by omega, rfl, rfl, rfl, C.out⟩
        case measure => simp [intOf]
      · obtain rfl : y = 12 := hy

        have e := HA.out 12 (by omega)
        have E : Hid ((bits .andNot .i64 12 (U : Int) == 0) = ((maskZ false false true true false 5 &&& U) == maskZ false false true true false 5)) := Lib.hid e
        go_wp2_with (go_at_call 83; ((with_reducible refine (CU.out _).mono ?_); rintro e w4 ⟨rfl, rfl⟩))
        go_ret
        exact ⟨by first | (rw [← E.out]; done) | (rw [← E.out]; rfl), cha_box.trans C.out⟩
  · have I0 := idx5_0 false false true true true
    have I1 := idx5_1 false false true true true
    have I2 := idx5_2 false false true true true
    have I3 := idx5_3 false false true true true
    have I4 := idx5_4 false false true true true
    go_enter Try.func65, Try.ntmps65
    go_wp2
    go_loopw [3, 28] (fun m i wr => ∃ z y : Int, 0 ≤ z ∧ z ≤ 5 ∧ i = .int .i64 z ∧ m = .int .i64 y ∧ y = (maskZ false false true true true z.toNat : Int) ∧ Cha (fun _ => False) (W.alloc (.cells #[.slice aT nT cT, .slice aG nG cG, .slice aF nF cF, .int .i64 pa, .slice aS nS cS, .slice aR nR cR, .slice aC nC cC, .int .i64 op, .int .i64 a, .int .i64 b, .int .i64 c, .int .u64 (im : Int), .slice aL nL cL] 92)) wr) (fun _ i _ => 5 - (intOf i).toNat)
    case atStart => exact ⟨0, 0, by omega, by omega, rfl, rfl, rfl, C0.out⟩
    case round =>
      obtain ⟨z, y, hz0, hz1, rfl, rfl, hy, hC⟩ := hrel
      have C := Lib.hid hC
      obtain ⟨b0, b1, b2, b3, b4, b5, b6, b7, b8, b9, b10, b11, b12⟩ := KS.out _ hC
      clear hC
      have hk : z = 0 ∨ z = 1 ∨ z = 2 ∨ z = 3 ∨ z = 4 ∨ z = 5 := by omega
      clear hz0 hz1
      rcases hk with rfl | rfl | rfl | rfl | rfl | rfl
      · obtain rfl : y = 0 := hy

        go_wp2
        go_roundw
        case rel => exact ⟨1, 0, by omega, by omega, rfl, rfl, rfl, C.out⟩
        case measure => simp [intOf]
      · obtain rfl : y = 0 := hy

        go_wp2
        go_roundw
        case rel => exact ⟨2, 0, by omega, by omega, rfl, rfl, rfl, C.out⟩
        case measure => simp [intOf]
      · obtain rfl : y = 0 := hy

        go_wp2
        go_roundw
        case rel => exact ⟨3, 4, by omega, by omega, rfl, rfl, rfl, C.out⟩
        case measure => simp [intOf]
      · obtain rfl : y = 4 := hy

        go_wp2
        go_roundw
        case rel => exact ⟨4, 12, by omega, by omega, rfl, rfl, rfl, C.out⟩
        case measure => simp [intOf]
      · obtain rfl : y = 12 := hy

        go_wp2
        go_roundw
        case rel => exact ⟨5, 28, by omega, by omega, rfl, rfl, rfl, C.out⟩
        case measure => simp [intOf]
      · obtain rfl : y = 28 := hy

        have e := HA.out 28 (by omega)
        have E : Hid ((bits .andNot .i64 28 (U : Int) == 0) = ((maskZ false false true true true 5 &&& U) == maskZ false false true true true 5)) := Lib.hid e
        go_wp2_with (go_at_call 83; ((with_reducible refine (CU.out _).mono ?_); rintro e w4 ⟨rfl, rfl⟩))
        go_ret
        exact ⟨by first | (rw [← E.out]; done) | (rw [← E.out]; rfl), cha_box.trans C.out⟩
  · have I0 := idx5_0 false true false false false
    have I1 := idx5_1 false true false false false
    have I2 := idx5_2 false true false false false
    have I3 := idx5_3 false true false false false
    have I4 := idx5_4 false true false false false
    go_enter Try.func65, Try.ntmps65
    go_wp2
    go_loopw [3, 28] (fun m i wr => ∃ z y : Int, 0 ≤ z ∧ z ≤ 5 ∧ i = .int .i64 z ∧ m = .int .i64 y ∧ y = (maskZ false true false false false z.toNat : Int) ∧ Cha (fun _ => False) (W.alloc (.cells #[.slice aT nT cT, .slice aG nG cG, .slice aF nF cF, .int .i64 pa, .slice aS nS cS, .slice aR nR cR, .slice aC nC cC, .int .i64 op, .int .i64 a, .int .i64 b, .int .i64 c, .int .u64 (im : Int), .slice aL nL cL] 92)) wr) (fun _ i _ => 5 - (intOf i).toNat)
    case atStart => exact ⟨0, 0, by omega, by omega, rfl, rfl, rfl, C0.out⟩
    case round =>
      obtain ⟨z, y, hz0, hz1, rfl, rfl, hy, hC⟩ := hrel
      have C := Lib.hid hC
      obtain ⟨b0, b1, b2, b3, b4, b5, b6, b7, b8, b9, b10, b11, b12⟩ := KS.out _ hC
      clear hC
      have hk : z = 0 ∨ z = 1 ∨ z = 2 ∨ z = 3 ∨ z = 4 ∨ z = 5 := by omega
      clear hz0 hz1
      rcases hk with rfl | rfl | rfl | rfl | rfl | rfl
      · obtain rfl : y = 0 := hy

        go_wp2
        go_roundw
        case rel => exact ⟨1, 0, by omega, by omega, rfl, rfl, rfl, C.out⟩
        case measure => simp [intOf]
      · obtain rfl : y = 0 := hy

        go_wp2
        go_roundw
        case rel => exact ⟨2, 2, by omega, by omega, rfl, rfl, rfl, C.out⟩
        case measure => simp [intOf]
      · obtain rfl : y = 2 := hy

        go_wp2
        go_roundw
        case rel => exact ⟨3, 2, by omega, by omega, rfl, rfl, rfl, C.out⟩
        case measure => simp [intOf]
      · obtain rfl : y = 2 := hy

        go_wp2
        go_roundw
        case rel => exact ⟨4, 2, by omega, by omega, rfl, rfl, rfl, C.out⟩
        case measure => simp [intOf]
      · obtain rfl : y = 2 := hy

        go_wp2
        go_roundw
        case rel => exact ⟨5, 2, by omega, by omega, rfl, rfl, rfl, C.out⟩
        case measure => simp [intOf]
      · obtain rfl : y = 2 := hy

        have e := HA.out 2 (by omega)
        have E : Hid ((bits .andNot .i64 2 (U : Int) == 0) = ((maskZ false true false false false 5 &&& U) == maskZ false true false false false 5)) := Lib.hid e
        go_wp2_with (go_at_call 83; ((with_reducible refine (CU.out _).mono ?_); rintro e w4 ⟨rfl, rfl⟩))
        go_ret
        exact ⟨by first | (rw [← E.out]; done) | (rw [← E.out]; rfl), cha_box.trans C.out⟩
  · have I0 := idx5_0 false true false false true
    have I1 := idx5_1 false true false false true
    have I2 := idx5_2 false true false false true
    have I3 := idx5_3 false true false false true
    have I4 := idx5_4 false true false false true
    go_enter Try.func65, Try.ntmps65
    go_wp2
    go_loopw [3, 28] (fun m i wr => ∃ z y : Int, 0 ≤ z ∧ z ≤ 5 ∧ i = .int .i64 z ∧ m = .int .i64 y ∧ y = (maskZ false true false false true z.toNat : Int) ∧ Cha (fun _ => False) (W.alloc (.cells #[.slice aT nT cT, .slice aG nG cG, .slice aF nF cF, .int .i64 pa, .slice aS nS cS, .slice aR nR cR, .slice aC nC cC, .int .i64 op, .int .i64 a, .int .i64 b, .int .i64 c, .int .u64 (im : Int), .slice aL nL cL] 92)) wr) (fun _ i _ => 5 - (intOf i).toNat)
    case atStart => exact ⟨0, 0, by omega, by omega, rfl, rfl, rfl, C0.out⟩
    case round =>
      obtain ⟨z, y, hz0, hz1, rfl, rfl, hy, hC⟩ := hrel
      have C := Lib.hid hC
      obtain ⟨b0, b1, b2, b3, b4, b5, b6, b7, b8, b9, b10, b11, b12⟩ := KS.out _ hC
      clear hC
      have hk : z = 0 ∨ z = 1 ∨ z = 2 ∨ z = 3 ∨ z = 4 ∨ z = 5 := by omega
      clear hz0 hz1
      rcases hk with rfl | rfl | rfl | rfl | rfl | rfl
      · obtain rfl : y = 0 := hy

        go_wp2
        go_roundw
        case rel => exact ⟨1, 0, by omega, by omega, rfl, rfl, rfl, C.out⟩
        case measure => simp [intOf]
      · obtain rfl : y = 0 := hy

        go_wp2
        go_roundw
        case rel => exact ⟨2, 2, by omega, by omega, rfl, rfl, rfl, C.out⟩
        case measure => simp [intOf]
      · obtain rfl : y = 2 := hy

        go_wp2
        go_roundw
        case rel => exact ⟨3, 2, by omega, by omega, rfl, rfl, rfl, C.out⟩
        case measure => simp [intOf]
      · obtain rfl : y = 2 := hy

        go_wp2
        go_roundw
        case rel => exact ⟨4, 2, by omega, by omega, rfl, rfl, rfl, C.out⟩
        case measure => simp [intOf]
      · obtain rfl : y = 2 := hy

        go_wp2
        go_roundw
        case rel => exact ⟨5, 18, by omega, by omega, rfl, rfl, rfl, C.out⟩
        case measure => simp [intOf]
      · obtain rfl : y = 18 := hy

        have e := HA.out 18 (by omega)
        have E : Hid ((bits .andNot .i64 18 (U : Int) == 0) = ((maskZ false true false false true 5 &&& U) == maskZ false true false false true 5)) := Lib.hid e
        go_wp2_with (go_at_call 83; ((with_reducible refine (CU.out _).mono ?_); rintro e w4 ⟨rfl, rfl⟩))
        go_ret
        exact ⟨by first | (rw [← E.out]; done) | (rw [← E.out]; rfl), cha_box.trans C.out⟩
  · have I0 := idx5_0 false true false true false
    have I1 := idx5_1 false true false true false
    have I2 := idx5_2 false true false true false
    have I3 := idx5_3 false true false true false
    have I4 := idx5_4 false true false true false
    go_enter Try.func65, Try.ntmps65
    go_wp2
    go_loopw [3, 28] (fun m i wr => ∃ z y : Int, 0 ≤ z ∧ z ≤ 5 ∧ i = .int .i64 z ∧ m = .int .i64 y ∧ y = (maskZ false true false true false z.toNat : Int) ∧ Cha (fun _ => False) (W.alloc (.cells #[.slice aT nT cT, .slice aG nG cG, .slice aF nF cF, .int .i64 pa, .slice aS nS cS, .slice aR nR cR, .slice aC nC cC, .int .i64 op, .int .i64 a, .int .i64 b, .int .i64 c, .int .u64 (im : Int), .slice aL nL cL] 92)) wr) (fun _ i _ => 5 - (intOf i).toNat)
    case atStart => exact ⟨0, 0, by omega, by omega, rfl, rfl, rfl, C0.out⟩
    case round =>
      obtain ⟨z, y, hz0, hz1, rfl, rfl, hy, hC⟩ := hrel
      have C := Lib.hid hC
      obtain ⟨b0, b1, b2, b3, b4, b5, b6, b7, b8, b9, b10, b11, b12⟩ := KS.out _ hC
      clear hC
      have hk : z = 0 ∨ z = 1 ∨ z = 2 ∨ z = 3 ∨ z = 4 ∨ z = 5 := by omega
      clear hz0 hz1
      rcases hk with rfl | rfl | rfl | rfl | rfl | rfl
      · obtain rfl : y = 0 := hy

        go_wp2
        go_roundw
        case rel => exact ⟨1, 0, by omega, by omega, rfl, rfl, rfl, C.out⟩
        case measure => simp [intOf]
      · obtain rfl : y = 0 := hy

        go_wp2
        go_roundw
        case rel => exact ⟨2, 2, by omega, by omega, rfl, rfl, rfl, C.out⟩
        case measure => simp [intOf]
      · obtain rfl : y = 2 := hy

        go_wp2
        go_roundw
        case rel => exact ⟨3, 2, by omega, by omega, rfl, rfl, rfl, C.out⟩
        case measure => simp [intOf]
      · obtain rfl : y = 2 := hy

        go_wp2
        go_roundw
        case rel => exact ⟨4, 10, by omega, by omega, rfl, rfl, rfl, C.out⟩
        case measure => simp [intOf]
      · obtain rfl : y = 10 := hy

        go_wp2
        go_roundw
        case rel => exact ⟨5, 10, by omega, by omega, rfl, rfl, rfl, C.out⟩
        case measure => simp [intOf]
      · obtain rfl : y = 10 := hy

        have e := HA.out 10 (by omega)
        have E : Hid ((bits .andNot .i64 10 (U : Int) == 0) = ((maskZ false true false true false 5 &&& U) == maskZ false true false true false 5)) := Lib.hid e
        go_wp2_with (go_at_call 83; ((with_reducible refine (CU.out _).mono ?_); rintro e w4 ⟨rfl, rfl⟩))
        go_ret
        exact ⟨by first | (rw [← E.out]; done) | (rw [← E.out]; rfl), cha_box.trans C.out⟩
  · have I0 := idx5_0 false true false true true
    have I1 := idx5_1 false true false true true
    have I2 := idx5_2 false true false true true
    have I3 := idx5_3 false true false true true
    have I4 := idx5_4 false true false true true
    go_enter Try.func65, Try.ntmps65
    go_wp2
    go_loopw [3, 28] (fun m i wr => ∃ z y : Int, 0 ≤ z ∧ z ≤ 5 ∧ i = .int .i64 z ∧ m = .int .i64 y ∧ y = (maskZ false true false true true z.toNat : Int) ∧ Cha (fun _ => False) (W.alloc (.cells #[.slice aT nT cT, .slice aG nG cG, .slice aF nF cF, .int .i64 pa, .slice aS nS cS, .slice aR nR cR, .slice aC nC cC, .int .i64 op, .int .i64 a, .int .i64 b, .int .i64 c, .int .u64 (im : Int), .slice aL nL cL] 92)) wr) (fun _ i _ => 5 - (intOf i).toNat)
    case atStart => exact ⟨0, 0, by omega, by omega, rfl, rfl, rfl, C0.out⟩
    case round =>
      obtain ⟨z, y, hz0, hz1, rfl, rfl, hy, hC⟩ := hrel
      have C := Lib.hid hC
      obtain ⟨b0, b1, b2, b3, b4, b5, b6, b7, b8, b9, b10, b11, b12⟩ := KS.out _ hC
      clear hC
      have hk : z = 0 ∨ z = 1 ∨ z = 2 ∨ z = 3 ∨ z = 4 ∨ z = 5 := by omega
      clear hz0 hz1
      rcases hk with rfl | rfl | rfl | rfl | rfl | rfl
      · obtain rfl : y = 0 := hy

        go_wp2
        go_roundw
        case rel => exact ⟨1, 0, by omega, by omega, rfl, rfl, rfl, C.out⟩
        case measure => simp [intOf]
      · obtain rfl : y = 0 := hy

        go_wp2
        go_roundw
        case rel => exact ⟨2, 2, by omega, by omega, rfl, rfl, rfl, C.out⟩
        case measure => simp [intOf]
      · obtain rfl : y = 2 := hy

        go_wp2
        go_roundw
        case rel => exact ⟨3, 2, by omega, by omega, rfl, rfl, rfl, C.out⟩
        case measure => simp [intOf]
      · obtain rfl : y = 2 := hy

        go_wp2
        go_roundw
        case rel => exact ⟨4, 10, by omega, by omega, rfl, rfl, rfl, C.out⟩
        case measure => simp [intOf]
      · obtain rfl : y = 10 := hy

        go_wp2
        go_roundw
        case rel => exact ⟨5, 26, by omega, by omega, rfl, rfl, rfl, C.out⟩
        case measure => simp [intOf]
      · obtain rfl : y = 26 := hy

        have e := HA.out 26 (by omega)
        have E : Hid ((bits .andNot .i64 26 (U : Int) == 0) = ((maskZ false true false true true 5 &&& U) == maskZ false true false true true 5)) := Lib.hid e
        go_wp2_with (go_at_call 83; ((with_reducible refine (CU.out _).mono ?_); rintro e w4 ⟨rfl, rfl⟩))
        go_ret
        exact ⟨by first | (rw [← E.out]; done) | (rw [← E.out]; rfl), cha_box.trans C.out⟩
  · have I0 := idx5_0 false true true false false
    have I1 := idx5_1 false true true false false
    have I2 := idx5_2 false true true false false
    have I3 := idx5_3 false true true false false
    have I4 := idx5_4 false true true false false
    go_enter Try.func65, Try.ntmps65
    go_wp2
    go_loopw [3, 28] (fun m i wr => ∃ z y : Int, 0 ≤ z ∧ z ≤ 5 ∧ i = .int .i64 z ∧ m = .int .i64 y ∧ y = (maskZ false true true false false z.toNat : Int) ∧ Cha (fun _ => False) (W.alloc (.cells #[.slice aT nT cT, .slice aG nG cG, .slice aF nF cF, .int .i64 pa, .slice aS nS cS, .slice aR nR cR, .slice aC nC cC, .int .i64 op, .int .i64 a, .int .i64 b, .int .i64 c, .int .u64 (im : Int), .slice aL nL cL] 92)) wr) (fun _ i _ => 5 - (intOf i).toNat)
    case atStart => exact ⟨0, 0, by omega, by omega, rfl, rfl, rfl, C0.out⟩
    case round =>
      obtain ⟨z, y, hz0, hz1, rfl, rfl, hy, hC⟩ := hrel
      have C := Lib.hid hC
      obtain ⟨b0, b1, b2, b3, b4, b5, b6, b7, b8, b9, b10, b11, b12⟩ := KS.out _ hC
      clear hC
      have hk : z = 0 ∨ z = 1 ∨ z = 2 ∨ z = 3 ∨ z = 4 ∨ z = 5 := by omega
      clear hz0 hz1
      rcases hk with rfl | rfl | rfl | rfl | rfl | rfl
      · obtain rfl : y = 0 := hy

        go_wp2
        go_roundw
        case rel => exact ⟨1, 0, by omega, by omega, rfl, rfl, rfl, C.out⟩
        case measure => simp [intOf]
      · obtain rfl : y = 0 := hy

        go_wp2
        go_roundw
        case rel => exact ⟨2, 2, by omega, by omega, rfl, rfl, rfl, C.out⟩
        case measure => simp [intOf]
      · obtain rfl : y = 2 := hy

        go_wp2
        go_roundw
        case rel => exact ⟨3, 6, by omega, by omega, rfl, rfl, rfl, C.out⟩
        case measure => simp [intOf]
      · obtain rfl : y = 6 := hy

        go_wp2
        go_roundw
        case rel => exact ⟨4, 6, by omega, by omega, rfl, rfl, rfl, C.out⟩
        case measure => simp [intOf]
      · obtain rfl : y = 6 := hy

        go_wp2
        go_roundw
        case rel => exact ⟨5, 6, by omega, by omega, rfl, rfl, rfl, C.out⟩
        case measure => simp [intOf]
      · obtain rfl : y = 6 := hy

        have e := HA.out 6 (by omega)
        have E : Hid ((bits .andNot .i64 6 (U : Int) == 0) = ((maskZ false true true false false 5 &&& U) == maskZ false true true false false 5)) := Lib.hid e
        go_wp2_with (go_at_call 83; ((with_reducible refine (CU.out _).mono ?_); rintro e w4 ⟨rfl, rfl⟩))
        go_ret
        exact ⟨by first | (rw [← E.out]; done) | (rw [← E.out]; rfl), cha_box.trans C.out⟩
  · have I0 := idx5_0 false true true false true
    have I1 := idx5_1 false true true false true
    have I2 := idx5_2 false true true false true
    have I3 := idx5_3 false true true false true
    have I4 := idx5_4 false true true false true
    go_enter Try.func65, Try.ntmps65
    go_wp2
    go_loopw [3, 28] (fun m i wr => ∃ z y : Int, 0 ≤ z ∧ z ≤ 5 ∧ i = .int .i64 z ∧ m = .int .i64 y ∧ y = (maskZ false true true false true z.toNat : Int) ∧ Cha (fun _ => False) (W.alloc (.cells #[.slice aT nT cT, .slice aG nG cG, .slice aF nF cF, .int .i64 pa, .slice aS nS cS, .slice aR nR cR, .slice aC nC cC, .int .i64 op, .int .i64 a, .int .i64 b, .int .i64 c, .int .u64 (im : Int), .slice aL nL cL] 92)) wr) (fun _ i _ => 5 - (intOf i).toNat)
    case atStart => exact ⟨0, 0, by omega, by omega, rfl, rfl, rfl, C0.out⟩
    case round =>
      obtain ⟨z, y, hz0, hz1, rfl, rfl, hy, hC⟩ := hrel
      have C := Lib.hid hC
      obtain ⟨b0, b1, b2, b3, b4, b5, b6, b7, b8, b9, b10, b11, b12⟩ := KS.out _ hC
      clear hC
      have hk : z = 0 ∨ z = 1 ∨ z = 2 ∨ z = 3 ∨ z = 4 ∨ z = 5 := by omega
      clear hz0 hz1
      rcases hk with rfl | rfl | rfl | rfl | rfl | rfl
      · obtain rfl : y = 0 := hy

        go_wp2
        go_roundw
        case rel => exact ⟨1, 0, by omega, by omega, rfl, rfl, rfl, C.out⟩
        case measure => simp [intOf]
      · obtain rfl : y = 0 := hy

        go_wp2
        go_roundw
        case rel => exact ⟨2, 2, by omega, by omega, rfl, rfl, rfl, C.out⟩
        case measure => simp [intOf]
      · obtain rfl : y = 2 := hy

        go_wp2
        go_roundw
        case rel => exact ⟨3, 6, by omega, by omega, rfl, rfl, rfl, C.out⟩
        case measure => simp [intOf]
      · obtain rfl : y = 6 := hy

        go_wp2
        go_roundw
        case rel => exact ⟨4, 6, by omega, by omega, rfl, rfl, rfl, C.out⟩
        case measure => simp [intOf]
      · obtain rfl : y = 6 := hy

        go_wp2
        go_roundw
        case rel => exact ⟨5, 22, by omega, by omega, rfl, rfl, rfl, C.out⟩
        case measure => simp [intOf]
      · obtain rfl : y = 22 := hy

        have e := HA.out 22 (by omega)
        have E : Hid ((bits .andNot .i64 22 (U : Int) == 0) = ((maskZ false true true false true 5 &&& U) == maskZ false true true false true 5)) := Lib.hid e
        go_wp2_with (go_at_call 83; ((with_reducible refine (CU.out _).mono ?_); rintro e w4 ⟨rfl, rfl⟩))
        go_ret
        exact ⟨by first | (rw [← E.out]; done) | (rw [← E.out]; rfl), cha_box.trans C.out⟩
  · have I0 := idx5_0 false true true true false
    have I1 := idx5_1 false true true true false
    have I2 := idx5_2 false true true true false
    have I3 := idx5_3 false true true true false
    have I4 := idx5_4 false true true true false
    go_enter Try.func65, Try.ntmps65
    go_wp2
    go_loopw [3, 28] (fun m i wr => ∃ z y : Int, 0 ≤ z ∧ z ≤ 5 ∧ i = .int .i64 z ∧ m = .int .i64 y ∧ y = (maskZ false true true true false z.toNat : Int) ∧ Cha (fun _ => False) (W.alloc (.cells #[.slice aT nT cT, .slice aG nG cG, .slice aF nF cF, .int .i64 pa, .slice aS nS cS, .slice aR nR cR, .slice aC nC cC, .int .i64 op, .int .i64 a, .int .i64 b, .int .i64 c, .int .u64 (im : Int), .slice aL nL cL] 92)) wr) (fun _ i _ => 5 - (intOf i).toNat)
    case atStart => exact ⟨0, 0, by omega, by omega, rfl, rfl, rfl, C0.out⟩
    case round =>
      obtain ⟨z, y, hz0, hz1, rfl, rfl, hy, hC⟩ := hrel
      have C := Lib.hid hC
      obtain ⟨b0, b1, b2, b3, b4, b5, b6, b7, b8, b9, b10, b11, b12⟩ := KS.out _ hC
      clear hC
      have hk : z = 0 ∨ z = 1 ∨ z = 2 ∨ z = 3 ∨ z = 4 ∨ z = 5 := by omega
      clear hz0 hz1
      rcases hk with rfl | rfl | rfl | rfl | rfl | rfl
      · obtain rfl : y = 0 := hy

        go_wp2
        go_roundw
        case rel => exact ⟨1, 0, by omega, by omega, rfl, rfl, rfl, C.out⟩
        case measure => simp [intOf]
      · obtain rfl : y = 0 := hy

        go_wp2
        go_roundw
        case rel => exact ⟨2, 2, by omega, by omega, rfl, rfl, rfl, C.out⟩
        case measure => simp [intOf]
      · obtain rfl : y = 2 := hy

        go_wp2
        go_roundw
        case rel => exact ⟨3, 6, by omega, by omega, rfl, rfl, rfl, C.out⟩
        case measure => simp [intOf]
      · obtain rfl : y = 6 := hy

        go_wp2
        go_roundw
        case rel => exact ⟨4, 14, by omega, by omega, rfl, rfl, rfl, C.out⟩
        case measure => simp [intOf]
      · obtain rfl : y = 14 := hy

        go_wp2
        go_roundw
        case rel => exact ⟨5, 14, by omega, by omega, rfl, rfl, rfl, C.out⟩
        case measure => simp [intOf]
      · obtain rfl : y = 14 := hy

        have e := HA.out 14 (by omega)
        have E : Hid ((bits .andNot .i64 14 (U : Int) == 0) = ((maskZ false true true true false 5 &&& U) == maskZ false true true true false 5)) := Lib.hid e
        go_wp2_with (go_at_call 83; ((with_reducible refine (CU.out _).mono ?_); rintro e w4 ⟨rfl, rfl⟩))
        go_ret
        exact ⟨by first | (rw [← E.out]; done) | (rw [← E.out]; rfl), cha_box.trans C.out⟩
  · have I0 := idx5_0 false true true true true
    have I1 := idx5_1 false true true true true
    have I2 := idx5_2 false true true true true
    have I3 := idx5_3 false true true true true
    have I4 := idx5_4 false true true true true
    go_enter Try.func65, Try.ntmps65
    go_wp2
    go_loopw [3, 28] (fun m i wr => ∃ z y : Int, 0 ≤ z ∧ z ≤ 5 ∧ i = .int .i64 z ∧ m = .int .i64 y ∧ y = (maskZ false true true true true z.toNat : Int) ∧ Cha (fun _ => False) (W.alloc (.cells #[.slice aT nT cT, .slice aG nG cG, .slice aF nF cF, .int .i64 pa, .slice aS nS cS, .slice aR nR cR, .slice aC nC cC, .int .i64 op, .int .i64 a, .int .i64 b, .int .i64 c, .int .u64 (im : Int), .slice aL nL cL] 92)) wr) (fun _ i _ => 5 - (intOf i).toNat)
    case atStart => exact ⟨0, 0, by omega, by omega, rfl, rfl, rfl, C0.out⟩
    case round =>
      obtain ⟨z, y, hz0, hz1, rfl, rfl, hy, hC⟩ := hrel
      have C := Lib.hid hC
      obtain ⟨b0, b1, b2, b3, b4, b5, b6, b7, b8, b9, b10, b11, b12⟩ := KS.out _ hC
      clear hC
      have hk : z = 0 ∨ z = 1 ∨ z = 2 ∨ z = 3 ∨ z = 4 ∨ z = 5 := by omega
      clear hz0 hz1
      rcases hk with rfl | rfl | rfl | rfl | rfl | rfl
      · obtain rfl : y = 0 := hy

        go_wp2
        go_roundw
        case rel => exact ⟨1, 0, by omega, by omega, rfl, rfl, rfl, C.out⟩
        case measure => simp [intOf]
      · obtain rfl : y = 0 := hy

        go_wp2
        go_roundw
        case rel => exact ⟨2, 2, by omega, by omega, rfl, rfl, rfl, C.out⟩
        case measure => simp [intOf]
      · obtain rfl : y = 2 := hy

        go_wp2
        go_roundw
        case rel => exact ⟨3, 6, by omega, by omega, rfl, rfl, rfl, C.out⟩
        case measure => simp [intOf]
      · obtain rfl : y = 6 := hy

        go_wp2
        go_roundw
        case rel => exact ⟨4, 14, by omega, by omega, rfl, rfl, rfl, C.out⟩
        case measure => simp [intOf]
      · obtain rfl : y = 14 := hy

        go_wp2
        go_roundw
        case rel => exact ⟨5, 30, by omega, by omega, rfl, rfl, rfl, C.out⟩
        case measure => simp [intOf]
      · obtain rfl : y = 30 := hy

        have e := HA.out 30 (by omega)
        have E : Hid ((bits .andNot .i64 30 (U : Int) == 0) = ((maskZ false true true true true 5 &&& U) == maskZ false true true true true 5)) := Lib.hid e
        go_wp2_with (go_at_call 83; ((with_reducible refine (CU.out _).mono ?_); rintro e w4 ⟨rfl, rfl⟩))
        go_ret
        exact ⟨by first | (rw [← E.out]; done) | (rw [← E.out]; rfl), cha_box.trans C.out⟩
  · have I0 := idx5_0 true false false false false
    have I1 := idx5_1 true false false false false
    have I2 := idx5_2 true false false false false
    have I3 := idx5_3 true false false false false
    have I4 := idx5_4 true false false false false
    go_enter Try.func65, Try.ntmps65
    go_wp2
    go_loopw [3, 28] (fun m i wr => ∃ z y : Int, 0 ≤ z ∧ z ≤ 5 ∧ i = .int .i64 z ∧ m = .int .i64 y ∧ y = (maskZ true false false false false z.toNat : Int) ∧ Cha (fun _ => False) (W.alloc (.cells #[.slice aT nT cT, .slice aG nG cG, .slice aF nF cF, .int .i64 pa, .slice aS nS cS, .slice aR nR cR, .slice aC nC cC, .int .i64 op, .int .i64 a, .int .i64 b, .int .i64 c, .int .u64 (im : Int), .slice aL nL cL] 92)) wr) (fun _ i _ => 5 - (intOf i).toNat)
    case atStart => exact ⟨0, 0, by omega, by omega, rfl, rfl, rfl, C0.out⟩
    case round =>
      obtain ⟨z, y, hz0, hz1, rfl, rfl, hy, hC⟩ := hrel
      have C := Lib.hid hC
      obtain ⟨b0, b1, b2, b3, b4, b5, b6, b7, b8, b9, b10, b11, b12⟩ := KS.out _ hC
      clear hC
      have hk : z = 0 ∨ z = 1 ∨ z = 2 ∨ z = 3 ∨ z = 4 ∨ z = 5 := by omega
      clear hz0 hz1
      rcases hk with rfl | rfl | rfl | rfl | rfl | rfl
      · obtain rfl : y = 0 := hy

        go_wp2
        go_roundw
        case rel => exact ⟨1, 1, by omega, by omega, rfl, rfl, rfl, C.out⟩
        case measure => simp [intOf]
      · obtain rfl : y = 1 := hy

        go_wp2
        go_roundw
        case rel => exact ⟨2, 1, by omega, by omega, rfl, rfl, rfl, C.out⟩
        case measure => simp [intOf]
      · obtain rfl : y = 1 := hy

        go_wp2
        go_roundw
        case rel => exact ⟨3, 1, by omega, by omega, rfl, rfl, rfl, C.out⟩
        case measure => simp [intOf]
      · obtain rfl : y = 1 := hy

        go_wp2
        go_roundw
        case rel => exact ⟨4, 1, by omega, by omega, rfl, rfl, rfl, C.out⟩
        case measure => simp [intOf]
      · obtain rfl : y = 1 := hy

        go_wp2
        go_roundw
        case rel => exact ⟨5, 1, by omega, by omega, rfl, rfl, rfl, C.out⟩
        case measure => simp [intOf]
      · obtain rfl : y = 1 := hy

        have e := HA.out 1 (by omega)
        have E : Hid ((bits .andNot .i64 1 (U : Int) == 0) = ((maskZ true false false false false 5 &&& U) == maskZ true false false false false 5)) := Lib.hid e
        go_wp2_with (go_at_call 83; ((with_reducible refine (CU.out _).mono ?_); rintro e w4 ⟨rfl, rfl⟩))
        go_ret
        exact ⟨by first | (rw [← E.out]; done) | (rw [← E.out]; rfl), cha_box.trans C.out⟩
  · have I0 := idx5_0 true false false false true
    have I1 := idx5_1 true false false false true
    have I2 := idx5_2 true false false false true
    have I3 := idx5_3 true false false false true
    have I4 := idx5_4 true false false false true
    go_enter Try.func65, Try.ntmps65
    go_wp2
    go_loopw [3, 28] (fun m i wr => ∃ z y : Int, 0 ≤ z ∧ z ≤ 5 ∧ i = .int .i64 z ∧ m = .int .i64 y ∧ y = (maskZ true false false false true z.toNat : Int) ∧ Cha (fun _ => False) (W.alloc (.cells #[.slice aT nT cT, .slice aG nG cG, .slice aF nF cF, .int .i64 pa, .slice aS nS cS, .slice aR nR cR, .slice aC nC cC, .int .i64 op, .int .i64 a, .int .i64 b, .int .i64 c, .int .u64 (im : Int), .slice aL nL cL] 92)) wr) (fun _ i _ => 5 - (intOf i).toNat)
    case atStart => exact ⟨0, 0, by omega, by omega, rfl, rfl, rfl, C0.out⟩
    case round =>
      obtain ⟨z, y, hz0, hz1, rfl, rfl, hy, hC⟩ := hrel
      have C := Lib.hid hC
      obtain ⟨b0, b1, b2, b3, b4, b5, b6, b7, b8, b9, b10, b11, b12⟩ := KS.out _ hC
      clear hC
      have hk : z = 0 ∨ z = 1 ∨ z = 2 ∨ z = 3 ∨ z = 4 ∨ z = 5 := by omega
      clear hz0 hz1
      rcases hk with rfl | rfl | rfl | rfl | rfl | rfl
      · obtain rfl : y = 0 := hy

        go_wp2
        go_roundw
        case rel => exact ⟨1, 1, by omega, by omega, rfl, rfl, rfl, C.out⟩
        case measure => simp [intOf]
      · obtain rfl : y = 1 := hy

        go_wp2
        go_roundw
        case rel => exact ⟨2, 1, by omega, by omega, rfl, rfl, rfl, C.out⟩
        case measure => simp [intOf]
      · obtain rfl : y = 1 := hy

        go_wp2
        go_roundw
        case rel => exact ⟨3, 1, by omega, by omega, rfl, rfl, rfl, C.out⟩
        case measure => simp [intOf]
      · obtain rfl : y = 1 := hy

        go_wp2
        go_roundw
        case rel => exact ⟨4, 1, by omega, by omega, rfl, rfl, rfl, C.out⟩
        case measure => simp [intOf]
      · obtain rfl : y = 1 := hy

        go_wp2
        go_roundw
        case rel => exact ⟨5, 17, by omega, by omega, rfl, rfl, rfl, C.out⟩
        case measure => simp [intOf]
      · obtain rfl : y = 17 := hy

        have e := HA.out 17 (by omega)
        have E : Hid ((bits .andNot .i64 17 (U : Int) == 0) = ((maskZ true false false false true 5 &&& U) == maskZ true false false false true 5)) := Lib.hid e
        go_wp2_with (go_at_call 83; ((with_reducible refine (CU.out _).mono ?_); rintro e w4 ⟨rfl, rfl⟩))
        go_ret
        exact ⟨by first | (rw [← E.out]; done) | (rw [← E.out]; rfl), cha_box.trans C.out⟩
  · have I0 := idx5_0 true false false true false
    have I1 := idx5_1 true false false true false
    have I2 := idx5_2 true false false true false
    have I3 := idx5_3 true false false true false
    have I4 := idx5_4 true false false true false
    go_enter Try.func65, Try.ntmps65
    go_wp2
    go_loopw [3, 28] (fun m i wr => ∃ z y : Int, 0 ≤ z ∧ z ≤ 5 ∧ i = .int .i64 z ∧ m = .int .i64 y ∧ y = (maskZ true false false true false z.toNat : Int) ∧ Cha (fun _ => False) (W.alloc (.cells #[.slice aT nT cT, .slice aG nG cG, .slice aF nF cF, .int .i64 pa, .slice aS nS cS, .slice aR nR cR, .slice aC nC cC, .int .i64 op, .int .i64 a, .int .i64 b, .int .i64 c, .int .u64 (im : Int), .slice aL nL cL] 92)) wr) (fun _ i _ => 5 - (intOf i).toNat)
    case atStart => exact ⟨0, 0, by omega, by omega, rfl, rfl, rfl, C0.out⟩
    case round =>
      obtain ⟨z, y, hz0, hz1, rfl, rfl, hy, hC⟩ := hrel
      have C := Lib.hid hC
      obtain ⟨b0, b1, b2, b3, b4, b5, b6, b7, b8, b9, b10, b11, b12⟩ := KS.out _ hC
      clear hC
      have hk : z = 0 ∨ z = 1 ∨ z = 2 ∨ z = 3 ∨ z = 4 ∨ z = 5 := by omega
      clear hz0 hz1
      rcases hk with rfl | rfl | rfl | rfl | rfl | rfl
      · obtain rfl : y = 0 := hy

        go_wp2
        go_roundw
        case rel => exact ⟨1, 1, by omega, by omega, rfl, rfl, rfl, C.out⟩
        case measure => simp [intOf]
      · obtain rfl : y = 1 := hy

        go_wp2
        go_roundw
        case rel => exact ⟨2, 1, by omega, by omega, rfl, rfl, rfl, C.out⟩
        case measure => simp [intOf]
      · obtain rfl : y = 1 := hy

        go_wp2
        go_roundw
        case rel => exact ⟨3, 1, by omega, by omega, rfl, rfl, rfl, C.out⟩
        case measure => simp [intOf]
      · obtain rfl : y = 1 := hy

        go_wp2
        go_roundw
        case rel => exact ⟨4, 9, by omega, by omega, rfl, rfl, rfl, C.out⟩
        case measure => simp [intOf]
      · obtain rfl : y = 9 := hy

        go_wp2
        go_roundw
        case rel => exact ⟨5, 9, by omega, by omega, rfl, rfl, rfl, C.out⟩
        case measure => simp [intOf]
      · obtain rfl : y = 9 := hy

        have e := HA.out 9 (by omega)
        have E : Hid ((bits .andNot .i64 9 (U : Int) == 0) = ((maskZ true false false true false 5 &&& U) == maskZ true false false true false 5)) := Lib.hid e
        go_wp2_with (go_at_call 83; ((with_reducible refine (CU.out _).mono ?_); rintro e w4 ⟨rfl, rfl⟩))
        go_ret
        exact ⟨by first | (rw [← E.out]; done) | (rw [← E.out]; rfl), cha_box.trans C.out⟩
  · have I0 := idx5_0 true false false true true
    have I1 := idx5_1 true false false true true
    have I2 := idx5_2 true false false true true
    have I3 := idx5_3 true false false true true
    have I4 := idx5_4 true false false true true
    go_enter Try.func65, Try.ntmps65
    go_wp2
    go_loopw [3, 28] (fun m i wr => ∃ z y : Int, 0 ≤ z ∧ z ≤ 5 ∧ i = .int .i64 z ∧ m = .int .i64 y ∧ y = (maskZ true false false true true z.toNat : Int) ∧ Cha (fun _ => False) (W.alloc (.cells #[.slice aT nT cT, .slice aG nG cG, .slice aF nF cF, .int .i64 pa, .slice aS nS cS, .slice aR nR cR, .slice aC nC cC, .int .i64 op, .int .i64 a, .int .i64 b, .int .i64 c, .int .u64 (im : Int), .slice aL nL cL] 92)) wr) (fun _ i _ => 5 - (intOf i).toNat)
    case atStart => exact ⟨0, 0, by omega, by omega, rfl, rfl, rfl, C0.out⟩
    case round =>
      obtain ⟨z, y, hz0, hz1, rfl, rfl, hy, hC⟩ := hrel
      have C := Lib.hid hC
      obtain ⟨b0, b1, b2, b3, b4, b5, b6, b7, b8, b9, b10, b11, b12⟩ := KS.out _ hC
      clear hC
      have hk : z = 0 ∨ z = 1 ∨ z = 2 ∨ z = 3 ∨ z = 4 ∨ z = 5 := by omega
      clear hz0 hz1
      rcases hk with rfl | rfl | rfl | rfl | rfl | rfl
      · obtain rfl : y = 0 := hy

        go_wp2
        go_roundw
        case rel => exact ⟨1, 1, by omega, by omega, rfl, rfl, rfl, C.out⟩
        case measure => simp [intOf]
      · obtain rfl : y = 1 := hy

        go_wp2
        go_roundw
        case rel => exact ⟨2, 1, by omega, by omega, rfl, rfl, rfl, C.out⟩
        case measure => simp [intOf]
      · obtain rfl : y = 1 := hy

        go_wp2
        go_roundw
        case rel => exact ⟨3, 1, by omega, by omega, rfl, rfl, rfl, C.out⟩
        case measure => simp [intOf]
      · obtain rfl : y = 1 := hy

        go_wp2
        go_roundw
        case rel => exact ⟨4, 9, by omega, by omega, rfl, rfl, rfl, C.out⟩
        case measure => simp [intOf]
      · obtain rfl : y = 9 := hy

        go_wp2
        go_roundw
        case rel => exact ⟨5, 25, by omega, by omega, rfl, rfl, rfl, C.out⟩
        case measure => simp [intOf]
      · obtain rfl : y = 25 := hy

        have e := HA.out 25 (by omega)
        have E : Hid ((bits .andNot .i64 25 (U : Int) == 0) = ((maskZ true false false true true 5 &&& U) == maskZ true false false true true 5)) := Lib.hid e
        go_wp2_with (go_at_call 83; ((with_reducible refine (CU.out _).mono ?_); rintro e w4 ⟨rfl, rfl⟩))
        go_ret
        exact ⟨by first | (rw [← E.out]; done) | (rw [← E.out]; rfl), cha_box.trans C.out⟩
  · have I0 := idx5_0 true false true false false
    have I1 := idx5_1 true false true false false
    have I2 := idx5_2 true false true false false
    have I3 := idx5_3 true false true false false
    have I4 := idx5_4 true false true false false
    go_enter Try.func65, Try.ntmps65
    go_wp2
    go_loopw [3, 28] (fun m i wr => ∃ z y : Int, 0 ≤ z ∧ z ≤ 5 ∧ i = .int .i64 z ∧ m = .int .i64 y ∧ y = (maskZ true false true false false z.toNat : Int) ∧ Cha (fun _ => False) (W.alloc (.cells #[.slice aT nT cT, .slice aG nG cG, .slice aF nF cF, .int .i64 pa, .slice aS nS cS, .slice aR nR cR, .slice aC nC cC, .int .i64 op, .int .i64 a, .int .i64 b, .int .i64 c, .int .u64 (im : Int), .slice aL nL cL] 92)) wr) (fun _ i _ => 5 - (intOf i).toNat)
    case atStart => exact ⟨0, 0, by omega, by omega, rfl, rfl, rfl, C0.out⟩
    case round =>
      obtain ⟨z, y, hz0, hz1, rfl, rfl, hy, hC⟩ := hrel
      have C := Lib.hid hC
      obtain ⟨b0, b1, b2, b3, b4, b5, b6, b7, b8, b9, b10, b11, b12⟩ := KS.out _ hC
      clear hC
      have hk : z = 0 ∨ z = 1 ∨ z = 2 ∨ z = 3 ∨ z = 4 ∨ z = 5 := by omega
      clear hz0 hz1
      rcases hk with rfl | rfl | rfl | rfl | rfl | rfl
      · obtain rfl : y = 0 := hy

        go_wp2
        go_roundw
        case rel => exact ⟨1, 1, by omega, by omega, rfl, rfl, rfl, C.out⟩
        case measure => simp [intOf]
      · obtain rfl : y = 1 := hy

        go_wp2
        go_roundw
        case rel => exact ⟨2, 1, by omega, by omega, rfl, rfl, rfl, C.out⟩
        case measure => simp [intOf]
      · obtain rfl : y = 1 := hy

        go_wp2
        go_roundw
        case rel => exact ⟨3, 5, by omega, by omega, rfl, rfl, rfl, C.out⟩
        case measure => simp [intOf]
      · obtain rfl : y = 5 := hy

        go_wp2
        go_roundw
        case rel => exact ⟨4, 5, by omega, by omega, rfl, rfl, rfl, C.out⟩
        case measure => simp [intOf]
      · obtain rfl : y = 5 := hy

        go_wp2
        go_roundw
        case rel => exact ⟨5, 5, by omega, by omega, rfl, rfl, rfl, C.out⟩
        case measure => simp [intOf]
      · obtain rfl : y = 5 := hy

        have e := HA.out 5 (by omega)
        have E : Hid ((bits .andNot .i64 5 (U : Int) == 0) = ((maskZ true false true false false 5 &&& U) == maskZ true false true false false 5)) := Lib.hid e
        go_wp2_with (go_at_call 83; ((with_reducible refine (CU.out _).mono ?_); rintro e w4 ⟨rfl, rfl⟩))
        go_ret
        exact ⟨by first | (rw [← E.out]; done) | (rw [← E.out]; rfl), cha_box.trans C.out⟩
  · have I0 := idx5_0 true false true false true
    have I1 := idx5_1 true false true false true
    have I2 := idx5_2 true false true false true
    have I3 := idx5_3 true false true false true
    have I4 := idx5_4 true false true false true
    go_enter Try.func65, Try.ntmps65
    go_wp2
    go_loopw [3, 28] (fun m i wr => ∃ z y : Int, 0 ≤ z ∧ z ≤ 5 ∧ i = .int .i64 z ∧ m = .int .i64 y ∧ y = (maskZ true false true false true z.toNat : Int) ∧ Cha (fun _ => False) (W.alloc (.cells #[.slice aT nT cT, .slice aG nG cG, .slice aF nF cF, .int .i64 pa, .slice aS nS cS, .slice aR nR cR, .slice aC nC cC, .int .i64 op, .int .i64 a, .int .i64 b, .int .i64 c, .int .u64 (im : Int), .slice aL nL cL] 92)) wr) (fun _ i _ => 5 - (intOf i).toNat)
    case atStart => exact ⟨0, 0, by omega, by omega, rfl, rfl, rfl, C0.out⟩
    case round =>
      obtain ⟨z, y, hz0, hz1, rfl, rfl, hy, hC⟩ := hrel
      have C := Lib.hid hC
      obtain ⟨b0, b1, b2, b3, b4, b5, b6, b7, b8, b9, b10, b11, b12⟩ := KS.out _ hC
      clear hC
      have hk : z = 0 ∨ z = 1 ∨ z = 2 ∨ z = 3 ∨ z = 4 ∨ z = 5 := by omega
      clear hz0 hz1
      rcases hk with rfl | rfl | rfl | rfl | rfl | rfl
      · obtain rfl : y = 0 := hy

        go_wp2
        go_roundw
        case rel => exact ⟨1, 1, by omega, by omega, rfl, rfl, rfl, C.out⟩
        case measure => simp [intOf]
      · obtain rfl : y = 1 := hy

        go_wp2
        go_roundw
        case rel => exact ⟨2, 1, by omega, by omega, rfl, rfl, rfl, C.out⟩
        case measure => simp [intOf]
      · obtain rfl : y = 1 := hy

        go_wp2
        go_roundw
        case rel => exact ⟨3, 5, by omega, by omega, rfl, rfl, rfl, C.out⟩
        case measure => simp [intOf]
      · obtain rfl : y = 5 := hy

        go_wp2
        go_roundw
        case rel => exact ⟨4, 5, by omega, by omega, rfl, rfl, rfl, C.out⟩
        case measure => simp [intOf]
      · obtain rfl : y = 5 := hy

        go_wp2
        go_roundw
        case rel => exact ⟨5, 21, by omega, by omega, rfl, rfl, rfl, C.out⟩
        case measure => simp [intOf]
      · obtain rfl : y = 21 := hy

        have e := HA.out 21 (by omega)
        have E : Hid ((bits .andNot .i64 21 (U : Int) == 0) = ((maskZ true false true false true 5 &&& U) == maskZ true false true false true 5)) := Lib.hid e
        go_wp2_with (go_at_call 83; ((with_reducible refine (CU.out _).mono ?_); rintro e w4 ⟨rfl, rfl⟩))
        go_ret
        exact ⟨by first | (rw [← E.out]; done) | (rw [← E.out]; rfl), cha_box.trans C.out⟩
  · have I0 := idx5_0 true false true true false
    have I1 := idx5_1 true false true true false
    have I2 := idx5_2 true false true true false
    have I3 := idx5_3 true false true true false
    have I4 := idx5_4 true false true true false
    go_enter Try.func65, Try.ntmps65
    go_wp2
    go_loopw [3, 28] (fun m i wr => ∃ z y : Int, 0 ≤ z ∧ z ≤ 5 ∧ i = .int .i64 z ∧ m = .int .i64 y ∧ y = (maskZ true false true true false z.toNat : Int) ∧ Cha (fun _ => False) (W.alloc (.cells #[.slice aT nT cT, .slice aG nG cG, .slice aF nF cF, .int .i64 pa, .slice aS nS cS, .slice aR nR cR, .slice aC nC cC, .int .i64 op, .int .i64 a, .int .i64 b, .int .i64 c, .int .u64 (im : Int), .slice aL nL cL] 92)) wr) (fun _ i _ => 5 - (intOf i).toNat)
    case atStart => exact ⟨0, 0, by omega, by omega, rfl, rfl, rfl, C0.out⟩
    case round =>
      obtain ⟨z, y, hz0, hz1, rfl, rfl, hy, hC⟩ := hrel
      have C := Lib.hid hC
      obtain ⟨b0, b1, b2, b3, b4, b5, b6, b7, b8, b9, b10, b11, b12⟩ := KS.out _ hC
      clear hC
      have hk : z = 0 ∨ z = 1 ∨ z = 2 ∨ z = 3 ∨ z = 4 ∨ z = 5 := by omega
      clear hz0 hz1
      rcases hk with rfl | rfl | rfl | rfl | rfl | rfl
      · obtain rfl : y = 0 := hy

        go_wp2
        go_roundw
        case rel => exact ⟨1, 1, by omega, by omega, rfl, rfl, rfl, C.out⟩
        case measure => simp [intOf]
      · obtain rfl : y = 1 := hy

        go_wp2
        go_roundw
        case rel => exact ⟨2, 1, by omega, by omega, rfl, rfl, rfl, C.out⟩
        case measure => simp [intOf]
      · obtain rfl : y = 1 := hy

        go_wp2
        go_roundw
        case rel => exact ⟨3, 5, by omega, by omega, rfl, rfl, rfl, C.out⟩
        case measure => simp [intOf]
      · obtain rfl : y = 5 := hy

        go_wp2
        go_roundw
        case rel => exact ⟨4, 13, by omega, by omega, rfl, rfl, rfl, C.out⟩
        case measure => simp [intOf]
      · obtain rfl : y = 13 := hy

        go_wp2
        go_roundw
        case rel => exact ⟨5, 13, by omega, by omega, rfl, rfl, rfl, C.out⟩
        case measure => simp [intOf]
      · obtain rfl : y = 13 := hy

        have e := HA.out 13 (by omega)
        have E : Hid ((bits .andNot .i64 13 (U : Int) == 0) = ((maskZ true false true true false 5 &&& U) == maskZ true false true true false 5)) := Lib.hid e
        go_wp2_with (go_at_call 83; ((with_reducible refine (CU.out _).mono ?_); rintro e w4 ⟨rfl, rfl⟩))
        go_ret
        exact ⟨by first | (rw [← E.out]; done) | (rw [← E.out]; rfl), cha_box.trans C.out⟩
  · have I0 := idx5_0 true false true true true
    have I1 := idx5_1 true false true true true
    have I2 := idx5_2 true false true true true
    have I3 := idx5_3 true false true true true
    have I4 := idx5_4 true false true true true
    go_enter Try.func65, Try.ntmps65
    go_wp2
    go_loopw [3, 28] (fun m i wr => ∃ z y : Int, 0 ≤ z ∧ z ≤ 5 ∧ i = .int .i64 z ∧ m = .int .i64 y ∧ y = (maskZ true false true true true z.toNat : Int) ∧ Cha (fun _ => False) (W.alloc (.cells #[.slice aT nT cT, .slice aG nG cG, .slice aF nF cF, .int .i64 pa, .slice aS nS cS, .slice aR nR cR, .slice aC nC cC, .int .i64 op, .int .i64 a, .int .i64 b, .int .i64 c, .int .u64 (im : Int), .slice aL nL cL] 92)) wr) (fun _ i _ => 5 - (intOf i).toNat)
    case atStart => exact ⟨0, 0, by omega, by omega, rfl, rfl, rfl, C0.out⟩
    case round =>
      obtain ⟨z, y, hz0, hz1, rfl, rfl, hy, hC⟩ := hrel
      have C := Lib.hid hC
      obtain ⟨b0, b1, b2, b3, b4, b5, b6, b7, b8, b9, b10, b11, b12⟩ := KS.out _ hC
      clear hC
      have hk : z = 0 ∨ z = 1 ∨ z = 2 ∨ z = 3 ∨ z = 4 ∨ z = 5 := by omega
      clear hz0 hz1
      rcases hk with rfl | rfl | rfl | rfl | rfl | rfl
      · obtain rfl : y = 0 := hy

        go_wp2
        go_roundw
        case rel => exact ⟨1, 1, by omega, by omega, rfl, rfl, rfl, C.out⟩
        case measure => simp [intOf]
      · obtain rfl : y = 1 := hy

        go_wp2
        go_roundw
        case rel => exact ⟨2, 1, by omega, by omega, rfl, rfl, rfl, C.out⟩
        case measure => simp [intOf]
      · obtain rfl : y = 1 := hy

        go_wp2
        go_roundw
        case rel => exact ⟨3, 5, by omega, by omega, rfl, rfl, rfl, C.out⟩
        case measure => simp [intOf]
      · obtain rfl : y = 5 := hy

        go_wp2
        go_roundw
        case rel => exact ⟨4, 13, by omega, by omega, rfl, rfl, rfl, C.out⟩
        case measure => simp [intOf]
      · obtain rfl : y = 13 := hy

        go_wp2
        go_roundw
        case rel => exact ⟨5, 29, by omega, by omega, rfl, rfl, rfl, C.out⟩
        case measure => simp [intOf]
      · obtain rfl : y = 29 := hy

        have e := HA.out 29 (by omega)
        have E : Hid ((bits .andNot .i64 29 (U : Int) == 0) = ((maskZ true false true true true 5 &&& U) == maskZ true false true true true 5)) := Lib.hid e
        go_wp2_with (go_at_call 83; ((with_reducible refine (CU.out _).mono ?_); rintro e w4 ⟨rfl, rfl⟩))
        go_ret
        exact ⟨by first | (rw [← E.out]; done) | (rw [← E.out]; rfl), cha_box.trans C.out⟩
  · have I0 := idx5_0 true true false false false
    have I1 := idx5_1 true true false false false
    have I2 := idx5_2 true true false false false
    have I3 := idx5_3 true true false false false
    have I4 := idx5_4 true true false false false
    go_enter Try.func65, Try.ntmps65
    go_wp2
    go_loopw [3, 28] (fun m i wr => ∃ z y : Int, 0 ≤ z ∧ z ≤ 5 ∧ i = .int .i64 z ∧ m = .int .i64 y ∧ y = (maskZ true true false false false z.toNat : Int) ∧ Cha (fun _ => False) (W.alloc (.cells #[.slice aT nT cT, .slice aG nG cG, .slice aF nF cF, .int .i64 pa, .slice aS nS cS, .slice aR nR cR, .slice aC nC cC, .int .i64 op, .int .i64 a, .int .i64 b, .int .i64 c, .int .u64 (im : Int), .slice aL nL cL] 92)) wr) (fun _ i _ => 5 - (intOf i).toNat)
    case atStart => exact ⟨0, 0, by omega, by omega, rfl, rfl, rfl, C0.out⟩
    case round =>
      obtain ⟨z, y, hz0, hz1, rfl, rfl, hy, hC⟩ := hrel
      have C := Lib.hid hC
      obtain ⟨b0, b1, b2, b3, b4, b5, b6, b7, b8, b9, b10, b11, b12⟩ := KS.out _ hC
      clear hC
      have hk : z = 0 ∨ z = 1 ∨ z = 2 ∨ z = 3 ∨ z = 4 ∨ z = 5 := by omega
      clear hz0 hz1
      rcases hk with rfl | rfl | rfl | rfl | rfl | rfl
      · obtain rfl : y = 0 := hy

        go_wp2
        go_roundw
        case rel => exact ⟨1, 1, by omega, by omega, rfl, rfl, rfl, C.out⟩
        case measure => simp [intOf]
      · obtain rfl : y = 1 := hy

        go_wp2
        go_roundw
        case rel => exact ⟨2, 3, by omega, by omega, rfl, rfl, rfl, C.out⟩
        case measure => simp [intOf]
      · obtain rfl : y = 3 := hy

        go_wp2
        go_roundw
        case rel => exact ⟨3, 3, by omega, by omega, rfl, rfl, rfl, C.out⟩
        case measure => simp [intOf]
      · obtain rfl : y = 3 := hy

        go_wp2
        go_roundw
        case rel => exact ⟨4, 3, by omega, by omega, rfl, rfl, rfl, C.out⟩
        case measure => simp [intOf]
      · obtain rfl : y = 3 := hy

        go_wp2
        go_roundw
        case rel => exact ⟨5, 3, by omega, by omega, rfl, rfl, rfl, C.out⟩
        case measure => simp [intOf]
      · obtain rfl : y = 3 := hy

        have e := HA.out 3 (by omega)
        have E : Hid ((bits .andNot .i64 3 (U : Int) == 0) = ((maskZ true true false false false 5 &&& U) == maskZ true true false false false 5)) := Lib.hid e
        go_wp2_with (go_at_call 83; ((with_reducible refine (CU.out _).mono ?_); rintro e w4 ⟨rfl, rfl⟩))
        go_ret
        exact ⟨by first | (rw [← E.out]; done) | (rw [← E.out]; rfl), cha_box.trans C.out⟩
  · have I0 := idx5_0 true true false false true
    have I1 := idx5_1 true true false false true
    have I2 := idx5_2 true true false false true
    have I3 := idx5_3 true true false false true
    have I4 := idx5_4 true true false false true
    go_enter Try.func65, Try.ntmps65
    go_wp2
    go_loopw [3, 28] (fun m i wr => ∃ z y : Int, 0 ≤ z ∧ z ≤ 5 ∧ i = .int .i64 z ∧ m = .int .i64 y ∧ y = (maskZ true true false false true z.toNat : Int) ∧ Cha (fun _ => False) (W.alloc (.cells #[.slice aT nT cT, .slice aG nG cG, .slice aF nF cF, .int .i64 pa, .slice aS nS cS, .slice aR nR cR, .slice aC nC cC, .int .i64 op, .int .i64 a, .int .i64 b, .int .i64 c, .int .u64 (im : Int), .slice aL nL cL] 92)) wr) (fun _ i _ => 5 - (intOf i).toNat)
    case atStart => exact ⟨0, 0, by omega, by omega, rfl, rfl, rfl, C0.out⟩
    case round =>
      obtain ⟨z, y, hz0, hz1, rfl, rfl, hy, hC⟩ := hrel
      have C := Lib.hid hC
      obtain ⟨b0, b1, b2, b3, b4, b5, b6, b7, b8, b9, b10, b11, b12⟩ := KS.out _ hC
      clear hC
      have hk : z = 0 ∨ z = 1 ∨ z = 2 ∨ z = 3 ∨ z = 4 ∨ z = 5 := by omega
      clear hz0 hz1
      rcases hk with rfl | rfl | rfl | rfl | rfl | rfl
      · obtain rfl : y = 0 := hy

        go_wp2
        go_roundw
        case rel => exact ⟨1, 1, by omega, by omega, rfl, rfl, rfl, C.out⟩
        case measure => simp [intOf]
      · obtain rfl : y = 1 := hy

        go_wp2
        go_roundw
        case rel => exact ⟨2, 3, by omega, by omega, rfl, rfl, rfl, C.out⟩
        case measure => simp [intOf]
      · obtain rfl : y = 3 := hy

        go_wp2
        go_roundw
        case rel => exact ⟨3, 3, by omega, by omega, rfl, rfl, rfl, C.out⟩
        case measure => simp [intOf]
      · obtain rfl : y = 3 := hy

        go_wp2
        go_roundw
        case rel => exact ⟨4, 3, by omega, by omega, rfl, rfl, rfl, C.out⟩
        case measure => simp [intOf]
      · obtain rfl : y = 3 := hy

        go_wp2
        go_roundw
        case rel => exact ⟨5, 19, by omega, by omega, rfl, rfl, rfl, C.out⟩
        case measure => simp [intOf]
      · obtain rfl : y = 19 := hy

        have e := HA.out 19 (by omega)
        have E : Hid ((bits .andNot .i64 19 (U : Int) == 0) = ((maskZ true true false false true 5 &&& U) == maskZ true true false false true 5)) := Lib.hid e
        go_wp2_with (go_at_call 83; ((with_reducible refine (CU.out _).mono ?_); rintro e w4 ⟨rfl, rfl⟩))
        go_ret
        exact ⟨by first | (rw [← E.out]; done) | (rw [← E.out]; rfl), cha_box.trans C.out⟩
  · have I0 := idx5_0 true true false true false
    have I1 := idx5_1 true true false true false
    have I2 := idx5_2 true true false true false
    have I3 := idx5_3 true true false true false
    have I4 := idx5_4 true true false true false
    go_enter Try.func65, Try.ntmps65
    go_wp2
    go_loopw [3, 28] (fun m i wr => ∃ z y : Int, 0 ≤ z ∧ z ≤ 5 ∧ i = .int .i64 z ∧ m = .int .i64 y ∧ y = (maskZ true true false true false z.toNat : Int) ∧ Cha (fun _ => False) (W.alloc (.cells #[.slice aT nT cT, .slice aG nG cG, .slice aF nF cF, .int .i64 pa, .slice aS nS cS, .slice aR nR cR, .slice aC nC cC, .int .i64 op, .int .i64 a, .int .i64 b, .int .i64 c, .int .u64 (im : Int), .slice aL nL cL] 92)) wr) (fun _ i _ => 5 - (intOf i).toNat)
    case atStart => exact ⟨0, 0, by omega, by omega, rfl, rfl, rfl, C0.out⟩
    case round =>
      obtain ⟨z, y, hz0, hz1, rfl, rfl, hy, hC⟩ := hrel
      have C := Lib.hid hC
      obtain ⟨b0, b1, b2, b3, b4, b5, b6, b7, b8, b9, b10, b11, b12⟩ := KS.out _ hC
      clear hC
      have hk : z = 0 ∨ z = 1 ∨ z = 2 ∨ z = 3 ∨ z = 4 ∨ z = 5 := by omega
      clear hz0 hz1
      rcases hk with rfl | rfl | rfl | rfl | rfl | rfl
      · obtain rfl : y = 0 := hy

        go_wp2
        go_roundw
        case rel => exact ⟨1, 1, by omega, by omega, rfl, rfl, rfl, C.out⟩
        case measure => simp [intOf]
      · obtain rfl : y = 1 := hy

        go_wp2
        go_roundw
        case rel => exact ⟨2, 3, by omega, by omega, rfl, rfl, rfl, C.out⟩
        case measure => simp [intOf]
      · obtain rfl : y = 3 := hy

        go_wp2
        go_roundw
        case rel => exact ⟨3, 3, by omega, by omega, rfl, rfl, rfl, C.out⟩
        case measure => simp [intOf]
      · obtain rfl : y = 3 := hy

        go_wp2
        go_roundw
        case rel => exact ⟨4, 11, by omega, by omega, rfl, rfl, rfl, C.out⟩
        case measure => simp [intOf]
      · obtain rfl : y = 11 := hy

        go_wp2
        go_roundw
        case rel => exact ⟨5, 11, by omega, by omega, rfl, rfl, rfl, C.out⟩
        case measure => simp [intOf]
      · obtain rfl : y = 11 := hy

        have e := HA.out 11 (by omega)
        have E : Hid ((bits .andNot .i64 11 (U : Int) == 0) = ((maskZ true true false true false 5 &&& U) == maskZ true true false true false 5)) := Lib.hid e
        go_wp2_with (go_at_call 83; ((with_reducible refine (CU.out _).mono ?_); rintro e w4 ⟨rfl, rfl⟩))
        go_ret
        exact ⟨by first | (rw [← E.out]; done) | (rw [← E.out]; rfl), cha_box.trans C.out⟩
  · have I0 := idx5_0 true true false true true
    have I1 := idx5_1 true true false true true
    have I2 := idx5_2 true true false true true
    have I3 := idx5_3 true true false true true
    have I4 := idx5_4 true true false true true
    go_enter Try.func65, Try.ntmps65
    go_wp2
    go_loopw [3, 28] (fun m i wr => ∃ z y : Int, 0 ≤ z ∧ z ≤ 5 ∧ i = .int .i64 z ∧ m = .int .i64 y ∧ y = (maskZ true true false true true z.toNat : Int) ∧ Cha (fun _ => False) (W.alloc (.cells #[.slice aT nT cT, .slice aG nG cG, .slice aF nF cF, .int .i64 pa, .slice aS nS cS, .slice aR nR cR, .slice aC nC cC, .int .i64 op, .int .i64 a, .int .i64 b, .int .i64 c, .int .u64 (im : Int), .slice aL nL cL] 92)) wr) (fun _ i _ => 5 - (intOf i).toNat)
    case atStart => exact ⟨0, 0, by omega, by omega, rfl, rfl, rfl, C0.out⟩
    case round =>
      obtain ⟨z, y, hz0, hz1, rfl, rfl, hy, hC⟩ := hrel
      have C := Lib.hid hC
      obtain ⟨b0, b1, b2, b3, b4, b5, b6, b7, b8, b9, b10, b11, b12⟩ := KS.out _ hC
      clear hC
      have hk : z = 0 ∨ z = 1 ∨ z = 2 ∨ z = 3 ∨ z = 4 ∨ z = 5 := by omega
      clear hz0 hz1
      rcases hk with rfl | rfl | rfl | rfl | rfl | rfl
      · obtain rfl : y = 0 := hy

        go_wp2
        go_roundw
        case rel => exact ⟨1, 1, by omega, by omega, rfl, rfl, rfl, C.out⟩
        case measure => simp [intOf]
      · obtain rfl : y = 1 := hy

        go_wp2
        go_roundw
        case rel => exact ⟨2, 3, by omega, by omega, rfl, rfl, rfl, C.out⟩
        case measure => simp [intOf]
      · obtain rfl : y = 3 := hy

        go_wp2
        go_roundw
        case rel => exact ⟨3, 3, by omega, by omega, rfl, rfl, rfl, C.out⟩
        case measure => simp [intOf]
      · obtain rfl : y = 3 := hy

        go_wp2
        go_roundw
        case rel => exact ⟨4, 11, by omega, by omega, rfl, rfl, rfl, C.out⟩
        case measure => simp [intOf]
      · obtain rfl : y = 11 := hy

        go_wp2
        go_roundw
        case rel => exact ⟨5, 27, by omega, by omega, rfl, rfl, rfl, C.out⟩
        case measure => simp [intOf]
      · obtain rfl : y = 27 := hy

        have e := HA.out 27 (by omega)
        have E : Hid ((bits .andNot .i64 27 (U : Int) == 0) = ((maskZ true true false true true 5 &&& U) == maskZ true true false true true 5)) := Lib.hid e
        go_wp2_with (go_at_call 83; ((with_reducible refine (CU.out _).mono ?_); rintro e w4 ⟨rfl, rfl⟩))
        go_ret
        exact ⟨by first | (rw [← E.out]; done) | (rw [← E.out]; rfl), cha_box.trans C.out⟩
  · have I0 := idx5_0 true true true false false
    have I1 := idx5_1 true true true false false
    have I2 := idx5_2 true true true false false
    have I3 := idx5_3 true true true false false
    have I4 := idx5_4 true true true false false
    go_enter Try.func65, Try.ntmps65
    go_wp2
    go_loopw [3, 28] (fun m i wr => ∃ z y : Int, 0 ≤ z ∧ z ≤ 5 ∧ i = .int .i64 z ∧ m = .int .i64 y ∧ y = (maskZ true true true false false z.toNat : Int) ∧ Cha (fun _ => False) (W.alloc (.cells #[.slice aT nT cT, .slice aG nG cG, .slice aF nF cF, .int .i64 pa, .slice aS nS cS, .slice aR nR cR, .slice aC nC cC, .int .i64 op, .int .i64 a, .int .i64 b, .int .i64 c, .int .u64 (im : Int), .slice aL nL cL] 92)) wr) (fun _ i _ => 5 - (intOf i).toNat)
    case atStart => exact ⟨0, 0, by omega, by omega, rfl, rfl, rfl, C0.out⟩
    case round =>
      obtain ⟨z, y, hz0, hz1, rfl, rfl, hy, hC⟩ := hrel
      have C := Lib.hid hC
      obtain ⟨b0, b1, b2, b3, b4, b5, b6, b7, b8, b9, b10, b11, b12⟩ := KS.out _ hC
      clear hC
      have hk : z = 0 ∨ z = 1 ∨ z = 2 ∨ z = 3 ∨ z = 4 ∨ z = 5 := by omega
      clear hz0 hz1
      rcases hk with rfl | rfl | rfl | rfl | rfl | rfl
      · obtain rfl : y = 0 := hy

        go_wp2
        go_roundw
        case rel => exact ⟨1, 1, by omega, by omega, rfl, rfl, rfl, C.out⟩
        case measure => simp [intOf]
      · obtain rfl : y = 1 := hy

        go_wp2
        go_roundw
        case rel => exact ⟨2, 3, by omega, by omega, rfl, rfl, rfl, C.out⟩
        case measure => simp [intOf]
      · obtain rfl : y = 3 := hy

        go_wp2
        go_roundw
        case rel => exact ⟨3, 7, by omega, by omega, rfl, rfl, rfl, C.out⟩
        case measure => simp [intOf]
      · obtain rfl : y = 7 := hy

        go_wp2
        go_roundw
        case rel => exact ⟨4, 7, by omega, by omega, rfl, rfl, rfl, C.out⟩
        case measure => simp [intOf]
      · obtain rfl : y = 7 := hy

        go_wp2
        go_roundw
        case rel => exact ⟨5, 7, by omega, by omega, rfl, rfl, rfl, C.out⟩
        case measure => simp [intOf]
      · obtain rfl : y = 7 := hy

        have e := HA.out 7 (by omega)
        have E : Hid ((bits .andNot .i64 7 (U : Int) == 0) = ((maskZ true true true false false 5 &&& U) == maskZ true true true false false 5)) := Lib.hid e
        go_wp2_with (go_at_call 83; ((with_reducible refine (CU.out _).mono ?_); rintro e w4 ⟨rfl, rfl⟩))
        go_ret
        exact ⟨by first | (rw [← E.out]; done) | (rw [← E.out]; rfl), cha_box.trans C.out⟩
  · have I0 := idx5_0 true true true false true
    have I1 := idx5_1 true true true false true
    have I2 := idx5_2 true true true false true
    have I3 := idx5_3 true true true false true
    have I4 := idx5_4 true true true false true
    go_enter Try.func65, Try.ntmps65
    go_wp2
    go_loopw [3, 28] (fun m i wr => ∃ z y : Int, 0 ≤ z ∧ z ≤ 5 ∧ i = .int .i64 z ∧ m = .int .i64 y ∧ y = (maskZ true true true false true z.toNat : Int) ∧ Cha (fun _ => False) (W.alloc (.cells #[.slice aT nT cT, .slice aG nG cG, .slice aF nF cF, .int .i64 pa, .slice aS nS cS, .slice aR nR cR, .slice aC nC cC, .int .i64 op, .int .i64 a, .int .i64 b, .int .i64 c, .int .u64 (im : Int), .slice aL nL cL] 92)) wr) (fun _ i _ => 5 - (intOf i).toNat)
    case atStart => exact ⟨0, 0, by omega, by omega, rfl, rfl, rfl, C0.out⟩
    case round =>
      obtain ⟨z, y, hz0, hz1, rfl, rfl, hy, hC⟩ := hrel
      have C := Lib.hid hC
      obtain ⟨b0, b1, b2, b3, b4, b5, b6, b7, b8, b9, b10, b11, b12⟩ := KS.out _ hC
      clear hC
      have hk : z = 0 ∨ z = 1 ∨ z = 2 ∨ z = 3 ∨ z = 4 ∨ z = 5 := by omega
      clear hz0 hz1
      rcases hk with rfl | rfl | rfl | rfl | rfl | rfl
      · obtain rfl : y = 0 := hy

        go_wp2
        go_roundw
        case rel => exact ⟨1, 1, by omega, by omega, rfl, rfl, rfl, C.out⟩
        case measure => simp [intOf]
      · obtain rfl : y = 1 := hy

        go_wp2
        go_roundw
        case rel => exact ⟨2, 3, by omega, by omega, rfl, rfl, rfl, C.out⟩
        case measure => simp [intOf]
      · obtain rfl : y = 3 := hy

        go_wp2
        go_roundw
        case rel => exact ⟨3, 7, by omega, by omega, rfl, rfl, rfl, C.out⟩
        case measure => simp [intOf]
      · obtain rfl : y = 7 := hy

        go_wp2
        go_roundw
        case rel => exact ⟨4, 7, by omega, by omega, rfl, rfl, rfl, C.out⟩
        case measure => simp [intOf]
      · obtain rfl : y = 7 := hy

        go_wp2
        go_roundw
        case rel => exact ⟨5, 23, by omega, by omega, rfl, rfl, rfl, C.out⟩
        case measure => simp [intOf]
      · obtain rfl : y = 23 := hy

        have e := HA.out 23 (by omega)
        have E : Hid ((bits .andNot .i64 23 (U : Int) == 0) = ((maskZ true true true false true 5 &&& U) == maskZ true true true false true 5)) := Lib.hid e
        go_wp2_with (go_at_call 83; ((with_reducible refine (CU.out _).mono ?_); rintro e w4 ⟨rfl, rfl⟩))
        go_ret
        exact ⟨by first | (rw [← E.out]; done) | (rw [← E.out]; rfl), cha_box.trans C.out⟩
  · have I0 := idx5_0 true true true true false
    have I1 := idx5_1 true true true true false
    have I2 := idx5_2 true true true true false
    have I3 := idx5_3 true true true true false
    have I4 := idx5_4 true true true true false
    go_enter Try.func65, Try.ntmps65
    go_wp2
    go_loopw [3, 28] (fun m i wr => ∃ z y : Int, 0 ≤ z ∧ z ≤ 5 ∧ i = .int .i64 z ∧ m = .int .i64 y ∧ y = (maskZ true true true true false z.toNat : Int) ∧ Cha (fun _ => False) (W.alloc (.cells #[.slice aT nT cT, .slice aG nG cG, .slice aF nF cF, .int .i64 pa, .slice aS nS cS, .slice aR nR cR, .slice aC nC cC, .int .i64 op, .int .i64 a, .int .i64 b, .int .i64 c, .int .u64 (im : Int), .slice aL nL cL] 92)) wr) (fun _ i _ => 5 - (intOf i).toNat)
    case atStart => exact ⟨0, 0, by omega, by omega, rfl, rfl, rfl, C0.out⟩
    case round =>
      obtain ⟨z, y, hz0, hz1, rfl, rfl, hy, hC⟩ := hrel
      have C := Lib.hid hC
      obtain ⟨b0, b1, b2, b3, b4, b5, b6, b7, b8, b9, b10, b11, b12⟩ := KS.out _ hC
      clear hC
      have hk : z = 0 ∨ z = 1 ∨ z = 2 ∨ z = 3 ∨ z = 4 ∨ z = 5 := by omega
      clear hz0 hz1
      rcases hk with rfl | rfl | rfl | rfl | rfl | rfl
      · obtain rfl : y = 0 := hy

        go_wp2
        go_roundw
        case rel => exact ⟨1, 1, by omega, by omega, rfl, rfl, rfl, C.out⟩
        case measure => simp [intOf]
      · obtain rfl : y = 1 := hy

        go_wp2
        go_roundw
        case rel => exact ⟨2, 3, by omega, by omega, rfl, rfl, rfl, C.out⟩
        case measure => simp [intOf]
      · obtain rfl : y = 3 := hy

        go_wp2
        go_roundw
        case rel => exact ⟨3, 7, by omega, by omega, rfl, rfl, rfl, C.out⟩
        case measure => simp [intOf]
      · obtain rfl : y = 7 := hy

        go_wp2
        go_roundw
        case rel => exact ⟨4, 15, by omega, by omega, rfl, rfl, rfl, C.out⟩
        case measure => simp [intOf]
      · obtain rfl : y = 15 := hy

        go_wp2
        go_roundw
        case rel => exact ⟨5, 15, by omega, by omega, rfl, rfl, rfl, C.out⟩
        case measure => simp [intOf]
      · obtain rfl : y = 15 := hy

        have e := HA.out 15 (by omega)
        have E : Hid ((bits .andNot .i64 15 (U : Int) == 0) = ((maskZ true true true true false 5 &&& U) == maskZ true true true true false 5)) := Lib.hid e
        go_wp2_with (go_at_call 83; ((with_reducible refine (CU.out _).mono ?_); rintro e w4 ⟨rfl, rfl⟩))
        go_ret
        exact ⟨by first | (rw [← E.out]; done) | (rw [← E.out]; rfl), cha_box.trans C.out⟩
  · have I0 := idx5_0 true true true true true
    have I1 := idx5_1 true true true true true
    have I2 := idx5_2 true true true true true
    have I3 := idx5_3 true true true true true
    have I4 := idx5_4 true true true true true
    go_enter Try.func65, Try.ntmps65
    go_wp2
    go_loopw [3, 28] (fun m i wr => ∃ z y : Int, 0 ≤ z ∧ z ≤ 5 ∧ i = .int .i64 z ∧ m = .int .i64 y ∧ y = (maskZ true true true true true z.toNat : Int) ∧ Cha (fun _ => False) (W.alloc (.cells #[.slice aT nT cT, .slice aG nG cG, .slice aF nF cF, .int .i64 pa, .slice aS nS cS, .slice aR nR cR, .slice aC nC cC, .int .i64 op, .int .i64 a, .int .i64 b, .int .i64 c, .int .u64 (im : Int), .slice aL nL cL] 92)) wr) (fun _ i _ => 5 - (intOf i).toNat)
    case atStart => exact ⟨0, 0, by omega, by omega, rfl, rfl, rfl, C0.out⟩
    case round =>
      obtain ⟨z, y, hz0, hz1, rfl, rfl, hy, hC⟩ := hrel
      have C := Lib.hid hC
      obtain ⟨b0, b1, b2, b3, b4, b5, b6, b7, b8, b9, b10, b11, b12⟩ := KS.out _ hC
      clear hC
      have hk : z = 0 ∨ z = 1 ∨ z = 2 ∨ z = 3 ∨ z = 4 ∨ z = 5 := by omega
      clear hz0 hz1
      rcases hk with rfl | rfl | rfl | rfl | rfl | rfl
      · obtain rfl : y = 0 := hy

        go_wp2
        go_roundw
        case rel => exact ⟨1, 1, by omega, by omega, rfl, rfl, rfl, C.out⟩
        case measure => simp [intOf]
      · obtain rfl : y = 1 := hy

        go_wp2
        go_roundw
        case rel => exact ⟨2, 3, by omega, by omega, rfl, rfl, rfl, C.out⟩
        case measure => simp [intOf]
      · obtain rfl : y = 3 := hy

        go_wp2
        go_roundw
        case rel => exact ⟨3, 7, by omega, by omega, rfl, rfl, rfl, C.out⟩
        case measure => simp [intOf]
      · obtain rfl : y = 7 := hy

        go_wp2
        go_roundw
        case rel => exact ⟨4, 15, by omega, by omega, rfl, rfl, rfl, C.out⟩
        case measure => simp [intOf]
      · obtain rfl : y = 15 := hy

        go_wp2
        go_roundw
        case rel => exact ⟨5, 31, by omega, by omega, rfl, rfl, rfl, C.out⟩
        case measure => simp [intOf]
      · obtain rfl : y = 31 := hy

        have e := HA.out 31 (by omega)
        have E : Hid ((bits .andNot .i64 31 (U : Int) == 0) = ((maskZ true true true true true 5 &&& U) == maskZ true true true true true 5)) := Lib.hid e
        go_wp2_with (go_at_call 83; ((with_reducible refine (CU.out _).mono ?_); rintro e w4 ⟨rfl, rfl⟩))
        go_ret
        exact ⟨by first | (rw [← E.out]; done) | (rw [← E.out]; rfl), cha_box.trans C.out⟩
end
end Go.Proofs.Ytpdjbhnpahkbpaa
