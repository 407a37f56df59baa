/- Check: what an instruction's fields name; an instruction. -/
import Derived.Test.YtpdjbhnpahkbpaaVU
namespace Go.Proofs.Ytpdjbhnpahkbpaa
set_option linter.unusedVariables false
open Go.ChangeShapes Go.WideShapes Go.ChangeAt Go.RowKit
section
variable {W w w' : World} {x : SV} {p : PZ} {f : FZ} {i : IZ}
set_option maxRecDepth 100000 in
theorem nm_28 (h : Sit W x p f i) (hx : Okay W x p f) (ho : i.op = 28) : Calls Try.prog 66 #[x.v f i] W (Says W (.int .i64 (namedZ p f i))) := by
  have HR : Hid (namedZ p f i = orZ (objE p.ty f.sl i.b true) (wantsZ f.sl [(i.a, 0)])) := Lib.hid (by unfold namedZ; rw [ho]; rfl)
  have CO : Hid (∀ w, Cha (fun _ => False) W w → Calls Try.prog 91 #[x.v f i, .int .i64 i.b, .bool true] w (SaysO w p.ty f.sl i.b true)) := Lib.hid fun w c => object_any (h.cha c) hx.typed i.b true
  have CS : Hid (∀ w1 ob, Cha (fun _ => False) W w1 → Calls Try.prog 89 #[x.v f i, .slice (some ⟨w1.heap.size + 1, 0, none⟩) 1 1] ((w1.alloc ob).alloc (.cells #[.int .i64 i.a, .int .i64 0] 137)) (Says (w1.alloc ob) (.int .i64 (wantsZ f.sl [(i.a, 0)])))) := Lib.hid fun w1 ob c => by
    rw [show w1.heap.size + 1 = (w1.alloc ob).heap.size from (World.size_alloc ..).symm]
    exact slots1 (h.cha (c.alloc ob)) _ _
  unfold SaysO at CO
  rw [HR.out]
  clear h hx HR
  obtain ⟨aT, nT, cT, aG, nG, cG, aF, nF, cF, aS, nS, cS, aR, nR, cR, aC, nC, cC, aL, nL, cL⟩ := x
  obtain ⟨pa, sl, re, co⟩ := f
  obtain ⟨op, a, b, c, im, li⟩ := i
  dsimp only [SV.v] at *
  subst ho
  generalize wantsZ sl [(a, 0)] = R at *
  generalize objE p.ty sl b true = E at *
  go_enter Try.func66, Try.ntmps66
  go_wp2_with (first
    | (go_at_call 91; ((with_reducible refine (CO.out _ cha_box).mono ?_); rintro e w1 ⟨q, ta, tn, tc, rfl, k1, k2⟩; have C1 := Lib.hid (Cha.trans cha_box k1); obtain ⟨b0, b1, b2, b3, b4, b5, b6, b7, b8, b9, b10, b11, b12⟩ := site_keep k1; have s0 := block_lt_of_cell b0; clear k1 k2))
    | (go_at_call 89; ((with_reducible refine (CS.out _ _ C1.out).mono ?_); rintro e w2 ⟨rfl, k2⟩; have C2 := Lib.hid (Cha.trans (C1.out.alloc _) k2); clear k2))
    | (go_at_call 88; ((with_reducible refine (or_new _ _ _ _).mono ?_); rintro e w3 ⟨rfl, k3⟩; have C3 := Lib.hid (C2.out.trans k3); clear k3)))
  go_ret
  exact ⟨rfl, C3.out⟩
set_option maxRecDepth 100000 in
theorem nm_43 (h : Sit W x p f i) (hx : Okay W x p f) (ho : i.op = 43) : Calls Try.prog 66 #[x.v f i] W (Says W (.int .i64 (namedZ p f i))) := by
  have HR : Hid (namedZ p f i = orZ (carE f.sl i.b) (wantsZ f.sl [(i.a, carK f.sl i.b), (i.c, 0)])) := Lib.hid (by unfold namedZ; rw [ho]; rfl)
  have CK : Hid (∀ w, Cha (fun _ => False) W w → Calls Try.prog 100 #[x.v f i, .int .i64 i.b] w (SaysK w (carK f.sl i.b) (carE f.sl i.b))) := Lib.hid fun w c => carried_slot (h.cha c) i.b
  have CS : Hid (∀ w, Cha (fun _ => False) W w → Calls Try.prog 89 #[x.v f i, .slice (some ⟨w.heap.size, 0, none⟩) 2 2] (w.alloc (.cells #[.int .i64 i.a, .int .i64 (carK f.sl i.b), .int .i64 i.c, .int .i64 0] 137)) (Says w (.int .i64 (wantsZ f.sl [(i.a, carK f.sl i.b), (i.c, 0)])))) := Lib.hid fun w c => slots2 (h.cha c) _ _ _ _
  rw [HR.out]
  clear h hx HR
  obtain ⟨aT, nT, cT, aG, nG, cG, aF, nF, cF, aS, nS, cS, aR, nR, cR, aC, nC, cC, aL, nL, cL⟩ := x
  obtain ⟨pa, sl, re, co⟩ := f
  obtain ⟨op, a, b, c, im, li⟩ := i
  dsimp only [SV.v] at *
  subst ho
  generalize carK sl b = K at *
  generalize carE sl b = E at *
  generalize wantsZ sl [(a, K), (c, 0)] = R at *
  go_enter Try.func66, Try.ntmps66
  go_wp2_with (first
    | (go_at_call 100; ((with_reducible refine (CK.out _ cha_box).mono ?_); rintro e w1 ⟨rfl, k1⟩; have C1 := Lib.hid (Cha.trans cha_box k1); obtain ⟨b0, b1, b2, b3, b4, b5, b6, b7, b8, b9, b10, b11, b12⟩ := site_keep k1; clear k1))
    | (go_at_call 89; ((with_reducible refine (CS.out _ C1.out).mono ?_); rintro e w2 ⟨rfl, k2⟩; have C2 := Lib.hid (C1.out.trans k2); clear k2))
    | (go_at_call 88; ((with_reducible refine (or_new _ _ _ _).mono ?_); rintro e w3 ⟨rfl, k3⟩; have C3 := Lib.hid (C2.out.trans k3); clear k3)))
  go_ret
  exact ⟨rfl, C3.out⟩
set_option maxRecDepth 100000 in
set_option maxHeartbeats 2000000 in
theorem nm_25 (h : Sit W x p f i) (hx : Okay W x p f) (ho : i.op = 25) : Calls Try.prog 66 #[x.v f i] W (Says W (.int .i64 (namedZ p f i))) := by
  have HR : Hid (namedZ p f i = orZ (wantsZ f.sl [(i.a, 0)]) (targetZ f.co.length i.b)) := Lib.hid (by unfold namedZ; rw [ho]; rfl)
  have CB : Hid (∀ o, Calls Try.prog 89 #[x.v f i, .slice (some ⟨W.heap.size + 1, 0, none⟩) 1 1] ((W.alloc o).alloc (.cells #[.int .i64 i.a, .int .i64 0] 137)).drew (Says (W.alloc o) (.int .i64 (wantsZ f.sl [(i.a, 0)])))) := Lib.hid fun o => slots1_drew h o _ _
  have CT : Hid (∀ w, Cha (fun _ => False) W w → Calls Try.prog 87 #[x.v f i, .int .i64 i.b] w (Says w (.int .i64 (targetZ f.co.length i.b)))) := Lib.hid fun w c => target_any (h.cha c) _
  rw [HR.out]
  clear h hx HR
  obtain ⟨aT, nT, cT, aG, nG, cG, aF, nF, cF, aS, nS, cS, aR, nR, cR, aC, nC, cC, aL, nL, cL⟩ := x
  obtain ⟨pa, sl, re, co⟩ := f
  obtain ⟨op, a, b, c, im, li⟩ := i
  dsimp only [SV.v] at *
  subst ho
  generalize wantsZ sl [(a, 0)] = R1 at *
  generalize targetZ co.length b = R2 at *
  have KS : Hid (∀ w', Cha (fun _ => False) (W.alloc (.cells #[.slice aT nT cT, .slice aG nG cG, .slice aF nF cF, .int .i64 pa, .slice aS nS cS, .slice aR nR cR, .slice aC nC cC, .int .i64 25, .int .i64 a, .int .i64 b, .int .i64 c, .int .u64 (im : Int), .slice aL nL cL] 92)) w' → w'.cell? ⟨W.heap.size, 0, none⟩ = some (.slice aT nT cT) ∧ w'.cell? ⟨W.heap.size, 1, none⟩ = some (.slice aG nG cG) ∧ w'.cell? ⟨W.heap.size, 2, none⟩ = some (.slice aF nF cF) ∧ w'.cell? ⟨W.heap.size, 3, none⟩ = some (.int .i64 pa) ∧ w'.cell? ⟨W.heap.size, 4, none⟩ = some (.slice aS nS cS) ∧ w'.cell? ⟨W.heap.size, 5, none⟩ = some (.slice aR nR cR) ∧ w'.cell? ⟨W.heap.size, 6, none⟩ = some (.slice aC nC cC) ∧ w'.cell? ⟨W.heap.size, 7, none⟩ = some (.int .i64 25) ∧ w'.cell? ⟨W.heap.size, 8, none⟩ = some (.int .i64 a) ∧ w'.cell? ⟨W.heap.size, 9, none⟩ = some (.int .i64 b) ∧ w'.cell? ⟨W.heap.size, 10, none⟩ = some (.int .i64 c) ∧ w'.cell? ⟨W.heap.size, 11, none⟩ = some (.int .u64 (im : Int)) ∧ w'.cell? ⟨W.heap.size, 12, none⟩ = some (.slice aL nL cL)) := Lib.hid fun w' h => site_keep h
  obtain ⟨b0, b1, b2, b3, b4, b5, b6, b7, b8, b9, b10, b11, b12⟩ := KS.out _ (Cha.refl _ _)
  go_enter Try.func66, Try.ntmps66
  go_wp2
  go_region_held3 (fun w' => w'.cell? ⟨W.heap.size, 0, none⟩ = some (.slice aT nT cT) ∧ w'.cell? ⟨W.heap.size, 1, none⟩ = some (.slice aG nG cG) ∧ w'.cell? ⟨W.heap.size, 2, none⟩ = some (.slice aF nF cF) ∧ w'.cell? ⟨W.heap.size, 3, none⟩ = some (.int .i64 pa) ∧ w'.cell? ⟨W.heap.size, 4, none⟩ = some (.slice aS nS cS) ∧ w'.cell? ⟨W.heap.size, 5, none⟩ = some (.slice aR nR cR) ∧ w'.cell? ⟨W.heap.size, 6, none⟩ = some (.slice aC nC cC) ∧ w'.cell? ⟨W.heap.size, 7, none⟩ = some (.int .i64 25) ∧ w'.cell? ⟨W.heap.size, 8, none⟩ = some (.int .i64 a) ∧ w'.cell? ⟨W.heap.size, 9, none⟩ = some (.int .i64 b) ∧ w'.cell? ⟨W.heap.size, 10, none⟩ = some (.int .i64 c) ∧ w'.cell? ⟨W.heap.size, 11, none⟩ = some (.int .u64 (im : Int)) ∧ w'.cell? ⟨W.heap.size, 12, none⟩ = some (.slice aL nL cL))
    (first
      | exact ⟨b0, b1, b2, b3, b4, b5, b6, b7, b8, b9, b10, b11, b12⟩
      | exact ⟨d0, d1, d2, d3, d4, d5, d6, d7, d8, d9, d10, d11, d12⟩
      | exact ⟨e0, e1, e2, e3, e4, e5, e6, e7, e8, e9, e10, e11, e12⟩
      | exact ⟨t0, t1, t2, t3, t4, t5, t6, t7, t8, t9, t10, t11, t12⟩
      | go_keep)
    (first
      | (go_at_call 89; (with_reducible refine (CB.out _).mono ?_); rintro e w1 ⟨rfl, hC⟩; have K1 := Lib.hid hC; have C1 := Lib.hid (Cha.trans cha_box hC); obtain ⟨d0, d1, d2, d3, d4, d5, d6, d7, d8, d9, d10, d11, d12⟩ := KS.out _ hC; clear hC)
      | (go_at_call 87; (with_reducible refine (CT.out _ C1.out).mono ?_); rintro e w2 ⟨rfl, hC⟩; have K2 := Lib.hid (K1.out.trans hC); have C2 := Lib.hid (C1.out.trans hC); obtain ⟨e0, e1, e2, e3, e4, e5, e6, e7, e8, e9, e10, e11, e12⟩ := KS.out _ (K1.out.trans hC); clear hC)
      | (go_at_call 88; (with_reducible refine (or_new _ _ _ _).mono ?_); rintro e w3 ⟨rfl, hC⟩; have C3 := Lib.hid (C2.out.trans hC); obtain ⟨t0, t1, t2, t3, t4, t5, t6, t7, t8, t9, t10, t11, t12⟩ := KS.out _ (K2.out.trans hC); clear hC))
  all_goals
    go_wp2
    go_ret
    exact ⟨rfl, C3.out⟩
end
end Go.Proofs.Ytpdjbhnpahkbpaa
