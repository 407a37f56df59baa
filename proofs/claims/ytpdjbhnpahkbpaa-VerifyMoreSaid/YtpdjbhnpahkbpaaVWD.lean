/- Check: instructions whose slots hang on nothing else. -/
import Derived.Test.YtpdjbhnpahkbpaaVU
namespace Go.Proofs.Ytpdjbhnpahkbpaa
set_option linter.unusedVariables false
open Go.ChangeShapes Go.WideShapes Go.ChangeAt Go.RowKit
section
variable {W w w' : World} {x : SV} {p : PZ} {f : FZ} {i : IZ}
set_option maxRecDepth 100000 in
set_option maxHeartbeats 2000000 in
theorem nm_40 (h : Sit W x p f i) (ho : i.op = 40) : Calls Try.prog 66 #[x.v f i] W (Says W (.int .i64 (namedZ p f i))) := by
  have HR : Hid (namedZ p f i = wantsZ f.sl (fixedZ i.op i.a i.b i.c)) := Lib.hid (by unfold namedZ; rw [ho]; rfl)
  have CF : Hid (∀ w, Cha (fun _ => False) W w → Calls Try.prog 102 #[x.v f i] w (SaysW w (fixedZ i.op i.a i.b i.c))) := Lib.hid fun w c => fixed_any (h.cha c) (by unfold isFix; omega)
  have CS : Hid (∀ w aW nW cW ws, Cha (fun _ => False) W w → RdS 2 RdW (· < w.heap.size) w (.slice aW nW cW) ws → nW = ws.length → Calls Try.prog 89 #[x.v f i, .slice aW nW cW] w (Says w (.int .i64 (wantsZ f.sl ws)))) := Lib.hid fun w aW nW cW ws c hw hn => slots_any (h.cha c) hw hn
  rw [HR.out]
  obtain ⟨ws, hws⟩ : ∃ ws, ws = fixedZ i.op i.a i.b i.c := ⟨_, rfl⟩
  rw [← hws] at CF ⊢
  unfold SaysW at CF
  obtain ⟨nW, hnW⟩ : ∃ n, n = ws.length := ⟨_, rfl⟩
  rw [← hnW] at CF
  have HN := Lib.hid hnW
  have CS1 : Hid (∀ w aW cW, Cha (fun _ => False) W w → RdS 2 RdW (· < w.heap.size) w (.slice aW nW cW) ws → Calls Try.prog 89 #[x.v f i, .slice aW nW cW] w (Says w (.int .i64 (wantsZ f.sl ws)))) := Lib.hid fun w aW cW c hw => CS.out w aW nW cW ws c hw HN.out
  clear h HR hws hnW CS
  obtain ⟨aT, nT, cT, aG, nG, cG, aF, nF, cF, aS, nS, cS, aR, nR, cR, aC, nC, cC, aL, nL, cL⟩ := x
  obtain ⟨pa, sl, re, co⟩ := f
  obtain ⟨op, a, b, c, im, li⟩ := i
  dsimp only [SV.v] at *
  generalize wantsZ sl ws = R at *
  subst ho
  have KS : Hid (∀ w', Cha (fun _ => False) (W.alloc (.cells #[.slice aT nT cT, .slice aG nG cG, .slice aF nF cF, .int .i64 pa, .slice aS nS cS, .slice aR nR cR, .slice aC nC cC, .int .i64 40, .int .i64 a, .int .i64 b, .int .i64 c, .int .u64 (im : Int), .slice aL nL cL] 92)) w' → w'.cell? ⟨W.heap.size, 0, none⟩ = some (.slice aT nT cT) ∧ w'.cell? ⟨W.heap.size, 1, none⟩ = some (.slice aG nG cG) ∧ w'.cell? ⟨W.heap.size, 2, none⟩ = some (.slice aF nF cF) ∧ w'.cell? ⟨W.heap.size, 3, none⟩ = some (.int .i64 pa) ∧ w'.cell? ⟨W.heap.size, 4, none⟩ = some (.slice aS nS cS) ∧ w'.cell? ⟨W.heap.size, 5, none⟩ = some (.slice aR nR cR) ∧ w'.cell? ⟨W.heap.size, 6, none⟩ = some (.slice aC nC cC) ∧ w'.cell? ⟨W.heap.size, 7, none⟩ = some (.int .i64 40) ∧ w'.cell? ⟨W.heap.size, 8, none⟩ = some (.int .i64 a) ∧ w'.cell? ⟨W.heap.size, 9, none⟩ = some (.int .i64 b) ∧ w'.cell? ⟨W.heap.size, 10, none⟩ = some (.int .i64 c) ∧ w'.cell? ⟨W.heap.size, 11, none⟩ = some (.int .u64 (im : Int)) ∧ w'.cell? ⟨W.heap.size, 12, none⟩ = some (.slice aL nL cL)) := Lib.hid fun w' h => site_keep h
  obtain ⟨b0, b1, b2, b3, b4, b5, b6, b7, b8, b9, b10, b11, b12⟩ := KS.out _ (Cha.refl _ _)
  go_enter Try.func66, Try.ntmps66
  go_wp2
  go_region_held3 (fun w' => w'.cell? ⟨W.heap.size, 0, none⟩ = some (.slice aT nT cT) ∧ w'.cell? ⟨W.heap.size, 1, none⟩ = some (.slice aG nG cG) ∧ w'.cell? ⟨W.heap.size, 2, none⟩ = some (.slice aF nF cF) ∧ w'.cell? ⟨W.heap.size, 3, none⟩ = some (.int .i64 pa) ∧ w'.cell? ⟨W.heap.size, 4, none⟩ = some (.slice aS nS cS) ∧ w'.cell? ⟨W.heap.size, 5, none⟩ = some (.slice aR nR cR) ∧ w'.cell? ⟨W.heap.size, 6, none⟩ = some (.slice aC nC cC) ∧ w'.cell? ⟨W.heap.size, 7, none⟩ = some (.int .i64 40) ∧ w'.cell? ⟨W.heap.size, 8, none⟩ = some (.int .i64 a) ∧ w'.cell? ⟨W.heap.size, 9, none⟩ = some (.int .i64 b) ∧ w'.cell? ⟨W.heap.size, 10, none⟩ = some (.int .i64 c) ∧ w'.cell? ⟨W.heap.size, 11, none⟩ = some (.int .u64 (im : Int)) ∧ w'.cell? ⟨W.heap.size, 12, none⟩ = some (.slice aL nL cL))
    (first
      | exact ⟨b0, b1, b2, b3, b4, b5, b6, b7, b8, b9, b10, b11, b12⟩
      | exact ⟨d0, d1, d2, d3, d4, d5, d6, d7, d8, d9, d10, d11, d12⟩
      | exact ⟨e0, e1, e2, e3, e4, e5, e6, e7, e8, e9, e10, e11, e12⟩
      | go_keep)
    (first
      | (go_at_call 102; (with_reducible refine (CF.out _ (cha_box.drew)).mono ?_); rintro e w1 ⟨a1, c1, rfl, hW, hC⟩; have HW := Lib.hid hW; have K1 := Lib.hid ((Cha.refl (fun _ => False) _).drew.trans hC); have C1 := Lib.hid (Cha.trans (cha_box.drew) hC); obtain ⟨d0, d1, d2, d3, d4, d5, d6, d7, d8, d9, d10, d11, d12⟩ := KS.out _ K1.out; clear hC hW)
      | (go_at_call 89; (with_reducible refine (CS1.out _ _ _ C1.out HW.out).mono ?_); rintro e w2 ⟨rfl, hC⟩; have C2 := Lib.hid (C1.out.trans hC); obtain ⟨e0, e1, e2, e3, e4, e5, e6, e7, e8, e9, e10, e11, e12⟩ := KS.out _ (K1.out.trans hC); clear hC))
  all_goals
    go_wp2
    go_ret
    exact ⟨rfl, C2.out⟩
set_option maxRecDepth 100000 in
set_option maxHeartbeats 2000000 in
theorem nm_46 (h : Sit W x p f i) (ho : i.op = 46) : Calls Try.prog 66 #[x.v f i] W (Says W (.int .i64 (namedZ p f i))) := by
  have HR : Hid (namedZ p f i = wantsZ f.sl (fixedZ i.op i.a i.b i.c)) := Lib.hid (by unfold namedZ; rw [ho]; rfl)
  have CF : Hid (∀ w, Cha (fun _ => False) W w → Calls Try.prog 102 #[x.v f i] w (SaysW w (fixedZ i.op i.a i.b i.c))) := Lib.hid fun w c => fixed_any (h.cha c) (by unfold isFix; omega)
  have CS : Hid (∀ w aW nW cW ws, Cha (fun _ => False) W w → RdS 2 RdW (· < w.heap.size) w (.slice aW nW cW) ws → nW = ws.length → Calls Try.prog 89 #[x.v f i, .slice aW nW cW] w (Says w (.int .i64 (wantsZ f.sl ws)))) := Lib.hid fun w aW nW cW ws c hw hn => slots_any (h.cha c) hw hn
  rw [HR.out]
  obtain ⟨ws, hws⟩ : ∃ ws, ws = fixedZ i.op i.a i.b i.c := ⟨_, rfl⟩
  rw [← hws] at CF ⊢
  unfold SaysW at CF
  obtain ⟨nW, hnW⟩ : ∃ n, n = ws.length := ⟨_, rfl⟩
  rw [← hnW] at CF
  have HN := Lib.hid hnW
  have CS1 : Hid (∀ w aW cW, Cha (fun _ => False) W w → RdS 2 RdW (· < w.heap.size) w (.slice aW nW cW) ws → Calls Try.prog 89 #[x.v f i, .slice aW nW cW] w (Says w (.int .i64 (wantsZ f.sl ws)))) := Lib.hid fun w aW cW c hw => CS.out w aW nW cW ws c hw HN.out
  clear h HR hws hnW CS
  obtain ⟨aT, nT, cT, aG, nG, cG, aF, nF, cF, aS, nS, cS, aR, nR, cR, aC, nC, cC, aL, nL, cL⟩ := x
  obtain ⟨pa, sl, re, co⟩ := f
  obtain ⟨op, a, b, c, im, li⟩ := i
  dsimp only [SV.v] at *
  generalize wantsZ sl ws = R at *
  subst ho
  have KS : Hid (∀ w', Cha (fun _ => False) (W.alloc (.cells #[.slice aT nT cT, .slice aG nG cG, .slice aF nF cF, .int .i64 pa, .slice aS nS cS, .slice aR nR cR, .slice aC nC cC, .int .i64 46, .int .i64 a, .int .i64 b, .int .i64 c, .int .u64 (im : Int), .slice aL nL cL] 92)) w' → w'.cell? ⟨W.heap.size, 0, none⟩ = some (.slice aT nT cT) ∧ w'.cell? ⟨W.heap.size, 1, none⟩ = some (.slice aG nG cG) ∧ w'.cell? ⟨W.heap.size, 2, none⟩ = some (.slice aF nF cF) ∧ w'.cell? ⟨W.heap.size, 3, none⟩ = some (.int .i64 pa) ∧ w'.cell? ⟨W.heap.size, 4, none⟩ = some (.slice aS nS cS) ∧ w'.cell? ⟨W.heap.size, 5, none⟩ = some (.slice aR nR cR) ∧ w'.cell? ⟨W.heap.size, 6, none⟩ = some (.slice aC nC cC) ∧ w'.cell? ⟨W.heap.size, 7, none⟩ = some (.int .i64 46) ∧ w'.cell? ⟨W.heap.size, 8, none⟩ = some (.int .i64 a) ∧ w'.cell? ⟨W.heap.size, 9, none⟩ = some (.int .i64 b) ∧ w'.cell? ⟨W.heap.size, 10, none⟩ = some (.int .i64 c) ∧ w'.cell? ⟨W.heap.size, 11, none⟩ = some (.int .u64 (im : Int)) ∧ w'.cell? ⟨W.heap.size, 12, none⟩ = some (.slice aL nL cL)) := Lib.hid fun w' h => site_keep h
  obtain ⟨b0, b1, b2, b3, b4, b5, b6, b7, b8, b9, b10, b11, b12⟩ := KS.out _ (Cha.refl _ _)
  go_enter Try.func66, Try.ntmps66
  go_wp2
  go_region_held3 (fun w' => w'.cell? ⟨W.heap.size, 0, none⟩ = some (.slice aT nT cT) ∧ w'.cell? ⟨W.heap.size, 1, none⟩ = some (.slice aG nG cG) ∧ w'.cell? ⟨W.heap.size, 2, none⟩ = some (.slice aF nF cF) ∧ w'.cell? ⟨W.heap.size, 3, none⟩ = some (.int .i64 pa) ∧ w'.cell? ⟨W.heap.size, 4, none⟩ = some (.slice aS nS cS) ∧ w'.cell? ⟨W.heap.size, 5, none⟩ = some (.slice aR nR cR) ∧ w'.cell? ⟨W.heap.size, 6, none⟩ = some (.slice aC nC cC) ∧ w'.cell? ⟨W.heap.size, 7, none⟩ = some (.int .i64 46) ∧ w'.cell? ⟨W.heap.size, 8, none⟩ = some (.int .i64 a) ∧ w'.cell? ⟨W.heap.size, 9, none⟩ = some (.int .i64 b) ∧ w'.cell? ⟨W.heap.size, 10, none⟩ = some (.int .i64 c) ∧ w'.cell? ⟨W.heap.size, 11, none⟩ = some (.int .u64 (im : Int)) ∧ w'.cell? ⟨W.heap.size, 12, none⟩ = some (.slice aL nL cL))
    (first
      | exact ⟨b0, b1, b2, b3, b4, b5, b6, b7, b8, b9, b10, b11, b12⟩
      | exact ⟨d0, d1, d2, d3, d4, d5, d6, d7, d8, d9, d10, d11, d12⟩
      | exact ⟨e0, e1, e2, e3, e4, e5, e6, e7, e8, e9, e10, e11, e12⟩
      | go_keep)
    (first
      | (go_at_call 102; (with_reducible refine (CF.out _ (cha_box.drew)).mono ?_); rintro e w1 ⟨a1, c1, rfl, hW, hC⟩; have HW := Lib.hid hW; have K1 := Lib.hid ((Cha.refl (fun _ => False) _).drew.trans hC); have C1 := Lib.hid (Cha.trans (cha_box.drew) hC); obtain ⟨d0, d1, d2, d3, d4, d5, d6, d7, d8, d9, d10, d11, d12⟩ := KS.out _ K1.out; clear hC hW)
      | (go_at_call 89; (with_reducible refine (CS1.out _ _ _ C1.out HW.out).mono ?_); rintro e w2 ⟨rfl, hC⟩; have C2 := Lib.hid (C1.out.trans hC); obtain ⟨e0, e1, e2, e3, e4, e5, e6, e7, e8, e9, e10, e11, e12⟩ := KS.out _ (K1.out.trans hC); clear hC))
  all_goals
    go_wp2
    go_ret
    exact ⟨rfl, C2.out⟩
set_option maxRecDepth 100000 in
set_option maxHeartbeats 2000000 in
theorem nm_47 (h : Sit W x p f i) (ho : i.op = 47) : Calls Try.prog 66 #[x.v f i] W (Says W (.int .i64 (namedZ p f i))) := by
  have HR : Hid (namedZ p f i = wantsZ f.sl (fixedZ i.op i.a i.b i.c)) := Lib.hid (by unfold namedZ; rw [ho]; rfl)
  have CF : Hid (∀ w, Cha (fun _ => False) W w → Calls Try.prog 102 #[x.v f i] w (SaysW w (fixedZ i.op i.a i.b i.c))) := Lib.hid fun w c => fixed_any (h.cha c) (by unfold isFix; omega)
  have CS : Hid (∀ w aW nW cW ws, Cha (fun _ => False) W w → RdS 2 RdW (· < w.heap.size) w (.slice aW nW cW) ws → nW = ws.length → Calls Try.prog 89 #[x.v f i, .slice aW nW cW] w (Says w (.int .i64 (wantsZ f.sl ws)))) := Lib.hid fun w aW nW cW ws c hw hn => slots_any (h.cha c) hw hn
  rw [HR.out]
  obtain ⟨ws, hws⟩ : ∃ ws, ws = fixedZ i.op i.a i.b i.c := ⟨_, rfl⟩
  rw [← hws] at CF ⊢
  unfold SaysW at CF
  obtain ⟨nW, hnW⟩ : ∃ n, n = ws.length := ⟨_, rfl⟩
  rw [← hnW] at CF
  have HN := Lib.hid hnW
  have CS1 : Hid (∀ w aW cW, Cha (fun _ => False) W w → RdS 2 RdW (· < w.heap.size) w (.slice aW nW cW) ws → Calls Try.prog 89 #[x.v f i, .slice aW nW cW] w (Says w (.int .i64 (wantsZ f.sl ws)))) := Lib.hid fun w aW cW c hw => CS.out w aW nW cW ws c hw HN.out
  clear h HR hws hnW CS
  obtain ⟨aT, nT, cT, aG, nG, cG, aF, nF, cF, aS, nS, cS, aR, nR, cR, aC, nC, cC, aL, nL, cL⟩ := x
  obtain ⟨pa, sl, re, co⟩ := f
  obtain ⟨op, a, b, c, im, li⟩ := i
  dsimp only [SV.v] at *
  generalize wantsZ sl ws = R at *
  subst ho
  have KS : Hid (∀ w', Cha (fun _ => False) (W.alloc (.cells #[.slice aT nT cT, .slice aG nG cG, .slice aF nF cF, .int .i64 pa, .slice aS nS cS, .slice aR nR cR, .slice aC nC cC, .int .i64 47, .int .i64 a, .int .i64 b, .int .i64 c, .int .u64 (im : Int), .slice aL nL cL] 92)) w' → w'.cell? ⟨W.heap.size, 0, none⟩ = some (.slice aT nT cT) ∧ w'.cell? ⟨W.heap.size, 1, none⟩ = some (.slice aG nG cG) ∧ w'.cell? ⟨W.heap.size, 2, none⟩ = some (.slice aF nF cF) ∧ w'.cell? ⟨W.heap.size, 3, none⟩ = some (.int .i64 pa) ∧ w'.cell? ⟨W.heap.size, 4, none⟩ = some (.slice aS nS cS) ∧ w'.cell? ⟨W.heap.size, 5, none⟩ = some (.slice aR nR cR) ∧ w'.cell? ⟨W.heap.size, 6, none⟩ = some (.slice aC nC cC) ∧ w'.cell? ⟨W.heap.size, 7, none⟩ = some (.int .i64 47) ∧ w'.cell? ⟨W.heap.size, 8, none⟩ = some (.int .i64 a) ∧ w'.cell? ⟨W.heap.size, 9, none⟩ = some (.int .i64 b) ∧ w'.cell? ⟨W.heap.size, 10, none⟩ = some (.int .i64 c) ∧ w'.cell? ⟨W.heap.size, 11, none⟩ = some (.int .u64 (im : Int)) ∧ w'.cell? ⟨W.heap.size, 12, none⟩ = some (.slice aL nL cL)) := Lib.hid fun w' h => site_keep h
  obtain ⟨b0, b1, b2, b3, b4, b5, b6, b7, b8, b9, b10, b11, b12⟩ := KS.out _ (Cha.refl _ _)
  go_enter Try.func66, Try.ntmps66
  go_wp2
  go_region_held3 (fun w' => w'.cell? ⟨W.heap.size, 0, none⟩ = some (.slice aT nT cT) ∧ w'.cell? ⟨W.heap.size, 1, none⟩ = some (.slice aG nG cG) ∧ w'.cell? ⟨W.heap.size, 2, none⟩ = some (.slice aF nF cF) ∧ w'.cell? ⟨W.heap.size, 3, none⟩ = some (.int .i64 pa) ∧ w'.cell? ⟨W.heap.size, 4, none⟩ = some (.slice aS nS cS) ∧ w'.cell? ⟨W.heap.size, 5, none⟩ = some (.slice aR nR cR) ∧ w'.cell? ⟨W.heap.size, 6, none⟩ = some (.slice aC nC cC) ∧ w'.cell? ⟨W.heap.size, 7, none⟩ = some (.int .i64 47) ∧ w'.cell? ⟨W.heap.size, 8, none⟩ = some (.int .i64 a) ∧ w'.cell? ⟨W.heap.size, 9, none⟩ = some (.int .i64 b) ∧ w'.cell? ⟨W.heap.size, 10, none⟩ = some (.int .i64 c) ∧ w'.cell? ⟨W.heap.size, 11, none⟩ = some (.int .u64 (im : Int)) ∧ w'.cell? ⟨W.heap.size, 12, none⟩ = some (.slice aL nL cL))
    (first
      | exact ⟨b0, b1, b2, b3, b4, b5, b6, b7, b8, b9, b10, b11, b12⟩
      | exact ⟨d0, d1, d2, d3, d4, d5, d6, d7, d8, d9, d10, d11, d12⟩
      | exact ⟨e0, e1, e2, e3, e4, e5, e6, e7, e8, e9, e10, e11, e12⟩
      | go_keep)
    (first
      | (go_at_call 102; (with_reducible refine (CF.out _ (cha_box.drew)).mono ?_); rintro e w1 ⟨a1, c1, rfl, hW, hC⟩; have HW := Lib.hid hW; have K1 := Lib.hid ((Cha.refl (fun _ => False) _).drew.trans hC); have C1 := Lib.hid (Cha.trans (cha_box.drew) hC); obtain ⟨d0, d1, d2, d3, d4, d5, d6, d7, d8, d9, d10, d11, d12⟩ := KS.out _ K1.out; clear hC hW)
      | (go_at_call 89; (with_reducible refine (CS1.out _ _ _ C1.out HW.out).mono ?_); rintro e w2 ⟨rfl, hC⟩; have C2 := Lib.hid (C1.out.trans hC); obtain ⟨e0, e1, e2, e3, e4, e5, e6, e7, e8, e9, e10, e11, e12⟩ := KS.out _ (K1.out.trans hC); clear hC))
  all_goals
    go_wp2
    go_ret
    exact ⟨rfl, C2.out⟩
set_option maxRecDepth 100000 in
set_option maxHeartbeats 2000000 in
theorem nm_49 (h : Sit W x p f i) (ho : i.op = 49) : Calls Try.prog 66 #[x.v f i] W (Says W (.int .i64 (namedZ p f i))) := by
  have HR : Hid (namedZ p f i = wantsZ f.sl (fixedZ i.op i.a i.b i.c)) := Lib.hid (by unfold namedZ; rw [ho]; rfl)
  have CF : Hid (∀ w, Cha (fun _ => False) W w → Calls Try.prog 102 #[x.v f i] w (SaysW w (fixedZ i.op i.a i.b i.c))) := Lib.hid fun w c => fixed_any (h.cha c) (by unfold isFix; omega)
  have CS : Hid (∀ w aW nW cW ws, Cha (fun _ => False) W w → RdS 2 RdW (· < w.heap.size) w (.slice aW nW cW) ws → nW = ws.length → Calls Try.prog 89 #[x.v f i, .slice aW nW cW] w (Says w (.int .i64 (wantsZ f.sl ws)))) := Lib.hid fun w aW nW cW ws c hw hn => slots_any (h.cha c) hw hn
  rw [HR.out]
  obtain ⟨ws, hws⟩ : ∃ ws, ws = fixedZ i.op i.a i.b i.c := ⟨_, rfl⟩
  rw [← hws] at CF ⊢
  unfold SaysW at CF
  obtain ⟨nW, hnW⟩ : ∃ n, n = ws.length := ⟨_, rfl⟩
  rw [← hnW] at CF
  have HN := Lib.hid hnW
  have CS1 : Hid (∀ w aW cW, Cha (fun _ => False) W w → RdS 2 RdW (· < w.heap.size) w (.slice aW nW cW) ws → Calls Try.prog 89 #[x.v f i, .slice aW nW cW] w (Says w (.int .i64 (wantsZ f.sl ws)))) := Lib.hid fun w aW cW c hw => CS.out w aW nW cW ws c hw HN.out
  clear h HR hws hnW CS
  obtain ⟨aT, nT, cT, aG, nG, cG, aF, nF, cF, aS, nS, cS, aR, nR, cR, aC, nC, cC, aL, nL, cL⟩ := x
  obtain ⟨pa, sl, re, co⟩ := f
  obtain ⟨op, a, b, c, im, li⟩ := i
  dsimp only [SV.v] at *
  generalize wantsZ sl ws = R at *
  subst ho
  have KS : Hid (∀ w', Cha (fun _ => False) (W.alloc (.cells #[.slice aT nT cT, .slice aG nG cG, .slice aF nF cF, .int .i64 pa, .slice aS nS cS, .slice aR nR cR, .slice aC nC cC, .int .i64 49, .int .i64 a, .int .i64 b, .int .i64 c, .int .u64 (im : Int), .slice aL nL cL] 92)) w' → w'.cell? ⟨W.heap.size, 0, none⟩ = some (.slice aT nT cT) ∧ w'.cell? ⟨W.heap.size, 1, none⟩ = some (.slice aG nG cG) ∧ w'.cell? ⟨W.heap.size, 2, none⟩ = some (.slice aF nF cF) ∧ w'.cell? ⟨W.heap.size, 3, none⟩ = some (.int .i64 pa) ∧ w'.cell? ⟨W.heap.size, 4, none⟩ = some (.slice aS nS cS) ∧ w'.cell? ⟨W.heap.size, 5, none⟩ = some (.slice aR nR cR) ∧ w'.cell? ⟨W.heap.size, 6, none⟩ = some (.slice aC nC cC) ∧ w'.cell? ⟨W.heap.size, 7, none⟩ = some (.int .i64 49) ∧ w'.cell? ⟨W.heap.size, 8, none⟩ = some (.int .i64 a) ∧ w'.cell? ⟨W.heap.size, 9, none⟩ = some (.int .i64 b) ∧ w'.cell? ⟨W.heap.size, 10, none⟩ = some (.int .i64 c) ∧ w'.cell? ⟨W.heap.size, 11, none⟩ = some (.int .u64 (im : Int)) ∧ w'.cell? ⟨W.heap.size, 12, none⟩ = some (.slice aL nL cL)) := Lib.hid fun w' h => site_keep h
  obtain ⟨b0, b1, b2, b3, b4, b5, b6, b7, b8, b9, b10, b11, b12⟩ := KS.out _ (Cha.refl _ _)
  go_enter Try.func66, Try.ntmps66
  go_wp2
  go_region_held3 (fun w' => w'.cell? ⟨W.heap.size, 0, none⟩ = some (.slice aT nT cT) ∧ w'.cell? ⟨W.heap.size, 1, none⟩ = some (.slice aG nG cG) ∧ w'.cell? ⟨W.heap.size, 2, none⟩ = some (.slice aF nF cF) ∧ w'.cell? ⟨W.heap.size, 3, none⟩ = some (.int .i64 pa) ∧ w'.cell? ⟨W.heap.size, 4, none⟩ = some (.slice aS nS cS) ∧ w'.cell? ⟨W.heap.size, 5, none⟩ = some (.slice aR nR cR) ∧ w'.cell? ⟨W.heap.size, 6, none⟩ = some (.slice aC nC cC) ∧ w'.cell? ⟨W.heap.size, 7, none⟩ = some (.int .i64 49) ∧ w'.cell? ⟨W.heap.size, 8, none⟩ = some (.int .i64 a) ∧ w'.cell? ⟨W.heap.size, 9, none⟩ = some (.int .i64 b) ∧ w'.cell? ⟨W.heap.size, 10, none⟩ = some (.int .i64 c) ∧ w'.cell? ⟨W.heap.size, 11, none⟩ = some (.int .u64 (im : Int)) ∧ w'.cell? ⟨W.heap.size, 12, none⟩ = some (.slice aL nL cL))
    (first
      | exact ⟨b0, b1, b2, b3, b4, b5, b6, b7, b8, b9, b10, b11, b12⟩
      | exact ⟨d0, d1, d2, d3, d4, d5, d6, d7, d8, d9, d10, d11, d12⟩
      | exact ⟨e0, e1, e2, e3, e4, e5, e6, e7, e8, e9, e10, e11, e12⟩
      | go_keep)
    (first
      | (go_at_call 102; (with_reducible refine (CF.out _ (cha_box.drew)).mono ?_); rintro e w1 ⟨a1, c1, rfl, hW, hC⟩; have HW := Lib.hid hW; have K1 := Lib.hid ((Cha.refl (fun _ => False) _).drew.trans hC); have C1 := Lib.hid (Cha.trans (cha_box.drew) hC); obtain ⟨d0, d1, d2, d3, d4, d5, d6, d7, d8, d9, d10, d11, d12⟩ := KS.out _ K1.out; clear hC hW)
      | (go_at_call 89; (with_reducible refine (CS1.out _ _ _ C1.out HW.out).mono ?_); rintro e w2 ⟨rfl, hC⟩; have C2 := Lib.hid (C1.out.trans hC); obtain ⟨e0, e1, e2, e3, e4, e5, e6, e7, e8, e9, e10, e11, e12⟩ := KS.out _ (K1.out.trans hC); clear hC))
  all_goals
    go_wp2
    go_ret
    exact ⟨rfl, C2.out⟩
set_option maxRecDepth 100000 in
set_option maxHeartbeats 2000000 in
theorem nm_50 (h : Sit W x p f i) (ho : i.op = 50) : Calls Try.prog 66 #[x.v f i] W (Says W (.int .i64 (namedZ p f i))) := by
  have HR : Hid (namedZ p f i = wantsZ f.sl (fixedZ i.op i.a i.b i.c)) := Lib.hid (by unfold namedZ; rw [ho]; rfl)
  have CF : Hid (∀ w, Cha (fun _ => False) W w → Calls Try.prog 102 #[x.v f i] w (SaysW w (fixedZ i.op i.a i.b i.c))) := Lib.hid fun w c => fixed_any (h.cha c) (by unfold isFix; omega)
  have CS : Hid (∀ w aW nW cW ws, Cha (fun _ => False) W w → RdS 2 RdW (· < w.heap.size) w (.slice aW nW cW) ws → nW = ws.length → Calls Try.prog 89 #[x.v f i, .slice aW nW cW] w (Says w (.int .i64 (wantsZ f.sl ws)))) := Lib.hid fun w aW nW cW ws c hw hn => slots_any (h.cha c) hw hn
  rw [HR.out]
  obtain ⟨ws, hws⟩ : ∃ ws, ws = fixedZ i.op i.a i.b i.c := ⟨_, rfl⟩
  rw [← hws] at CF ⊢
  unfold SaysW at CF
  obtain ⟨nW, hnW⟩ : ∃ n, n = ws.length := ⟨_, rfl⟩
  rw [← hnW] at CF
  have HN := Lib.hid hnW
  have CS1 : Hid (∀ w aW cW, Cha (fun _ => False) W w → RdS 2 RdW (· < w.heap.size) w (.slice aW nW cW) ws → Calls Try.prog 89 #[x.v f i, .slice aW nW cW] w (Says w (.int .i64 (wantsZ f.sl ws)))) := Lib.hid fun w aW cW c hw => CS.out w aW nW cW ws c hw HN.out
  clear h HR hws hnW CS
  obtain ⟨aT, nT, cT, aG, nG, cG, aF, nF, cF, aS, nS, cS, aR, nR, cR, aC, nC, cC, aL, nL, cL⟩ := x
  obtain ⟨pa, sl, re, co⟩ := f
  obtain ⟨op, a, b, c, im, li⟩ := i
  dsimp only [SV.v] at *
  generalize wantsZ sl ws = R at *
  subst ho
  have KS : Hid (∀ w', Cha (fun _ => False) (W.alloc (.cells #[.slice aT nT cT, .slice aG nG cG, .slice aF nF cF, .int .i64 pa, .slice aS nS cS, .slice aR nR cR, .slice aC nC cC, .int .i64 50, .int .i64 a, .int .i64 b, .int .i64 c, .int .u64 (im : Int), .slice aL nL cL] 92)) w' → w'.cell? ⟨W.heap.size, 0, none⟩ = some (.slice aT nT cT) ∧ w'.cell? ⟨W.heap.size, 1, none⟩ = some (.slice aG nG cG) ∧ w'.cell? ⟨W.heap.size, 2, none⟩ = some (.slice aF nF cF) ∧ w'.cell? ⟨W.heap.size, 3, none⟩ = some (.int .i64 pa) ∧ w'.cell? ⟨W.heap.size, 4, none⟩ = some (.slice aS nS cS) ∧ w'.cell? ⟨W.heap.size, 5, none⟩ = some (.slice aR nR cR) ∧ w'.cell? ⟨W.heap.size, 6, none⟩ = some (.slice aC nC cC) ∧ w'.cell? ⟨W.heap.size, 7, none⟩ = some (.int .i64 50) ∧ w'.cell? ⟨W.heap.size, 8, none⟩ = some (.int .i64 a) ∧ w'.cell? ⟨W.heap.size, 9, none⟩ = some (.int .i64 b) ∧ w'.cell? ⟨W.heap.size, 10, none⟩ = some (.int .i64 c) ∧ w'.cell? ⟨W.heap.size, 11, none⟩ = some (.int .u64 (im : Int)) ∧ w'.cell? ⟨W.heap.size, 12, none⟩ = some (.slice aL nL cL)) := Lib.hid fun w' h => site_keep h
  obtain ⟨b0, b1, b2, b3, b4, b5, b6, b7, b8, b9, b10, b11, b12⟩ := KS.out _ (Cha.refl _ _)
  go_enter Try.func66, Try.ntmps66
  go_wp2
  go_region_held3 (fun w' => w'.cell? ⟨W.heap.size, 0, none⟩ = some (.slice aT nT cT) ∧ w'.cell? ⟨W.heap.size, 1, none⟩ = some (.slice aG nG cG) ∧ w'.cell? ⟨W.heap.size, 2, none⟩ = some (.slice aF nF cF) ∧ w'.cell? ⟨W.heap.size, 3, none⟩ = some (.int .i64 pa) ∧ w'.cell? ⟨W.heap.size, 4, none⟩ = some (.slice aS nS cS) ∧ w'.cell? ⟨W.heap.size, 5, none⟩ = some (.slice aR nR cR) ∧ w'.cell? ⟨W.heap.size, 6, none⟩ = some (.slice aC nC cC) ∧ w'.cell? ⟨W.heap.size, 7, none⟩ = some (.int .i64 50) ∧ w'.cell? ⟨W.heap.size, 8, none⟩ = some (.int .i64 a) ∧ w'.cell? ⟨W.heap.size, 9, none⟩ = some (.int .i64 b) ∧ w'.cell? ⟨W.heap.size, 10, none⟩ = some (.int .i64 c) ∧ w'.cell? ⟨W.heap.size, 11, none⟩ = some (.int .u64 (im : Int)) ∧ w'.cell? ⟨W.heap.size, 12, none⟩ = some (.slice aL nL cL))
    (first
      | exact ⟨b0, b1, b2, b3, b4, b5, b6, b7, b8, b9, b10, b11, b12⟩
      | exact ⟨d0, d1, d2, d3, d4, d5, d6, d7, d8, d9, d10, d11, d12⟩
      | exact ⟨e0, e1, e2, e3, e4, e5, e6, e7, e8, e9, e10, e11, e12⟩
      | go_keep)
    (first
      | (go_at_call 102; (with_reducible refine (CF.out _ (cha_box.drew)).mono ?_); rintro e w1 ⟨a1, c1, rfl, hW, hC⟩; have HW := Lib.hid hW; have K1 := Lib.hid ((Cha.refl (fun _ => False) _).drew.trans hC); have C1 := Lib.hid (Cha.trans (cha_box.drew) hC); obtain ⟨d0, d1, d2, d3, d4, d5, d6, d7, d8, d9, d10, d11, d12⟩ := KS.out _ K1.out; clear hC hW)
      | (go_at_call 89; (with_reducible refine (CS1.out _ _ _ C1.out HW.out).mono ?_); rintro e w2 ⟨rfl, hC⟩; have C2 := Lib.hid (C1.out.trans hC); obtain ⟨e0, e1, e2, e3, e4, e5, e6, e7, e8, e9, e10, e11, e12⟩ := KS.out _ (K1.out.trans hC); clear hC))
  all_goals
    go_wp2
    go_ret
    exact ⟨rfl, C2.out⟩
set_option maxRecDepth 100000 in
set_option maxHeartbeats 2000000 in
theorem nm_51 (h : Sit W x p f i) (ho : i.op = 51) : Calls Try.prog 66 #[x.v f i] W (Says W (.int .i64 (namedZ p f i))) := by
  have HR : Hid (namedZ p f i = wantsZ f.sl (fixedZ i.op i.a i.b i.c)) := Lib.hid (by unfold namedZ; rw [ho]; rfl)
  have CF : Hid (∀ w, Cha (fun _ => False) W w → Calls Try.prog 102 #[x.v f i] w (SaysW w (fixedZ i.op i.a i.b i.c))) := Lib.hid fun w c => fixed_any (h.cha c) (by unfold isFix; omega)
  have CS : Hid (∀ w aW nW cW ws, Cha (fun _ => False) W w → RdS 2 RdW (· < w.heap.size) w (.slice aW nW cW) ws → nW = ws.length → Calls Try.prog 89 #[x.v f i, .slice aW nW cW] w (Says w (.int .i64 (wantsZ f.sl ws)))) := Lib.hid fun w aW nW cW ws c hw hn => slots_any (h.cha c) hw hn
  rw [HR.out]
  obtain ⟨ws, hws⟩ : ∃ ws, ws = fixedZ i.op i.a i.b i.c := ⟨_, rfl⟩
  rw [← hws] at CF ⊢
  unfold SaysW at CF
  obtain ⟨nW, hnW⟩ : ∃ n, n = ws.length := ⟨_, rfl⟩
  rw [← hnW] at CF
  have HN := Lib.hid hnW
  have CS1 : Hid (∀ w aW cW, Cha (fun _ => False) W w → RdS 2 RdW (· < w.heap.size) w (.slice aW nW cW) ws → Calls Try.prog 89 #[x.v f i, .slice aW nW cW] w (Says w (.int .i64 (wantsZ f.sl ws)))) := Lib.hid fun w aW cW c hw => CS.out w aW nW cW ws c hw HN.out
  clear h HR hws hnW CS
  obtain ⟨aT, nT, cT, aG, nG, cG, aF, nF, cF, aS, nS, cS, aR, nR, cR, aC, nC, cC, aL, nL, cL⟩ := x
  obtain ⟨pa, sl, re, co⟩ := f
  obtain ⟨op, a, b, c, im, li⟩ := i
  dsimp only [SV.v] at *
  generalize wantsZ sl ws = R at *
  subst ho
  have KS : Hid (∀ w', Cha (fun _ => False) (W.alloc (.cells #[.slice aT nT cT, .slice aG nG cG, .slice aF nF cF, .int .i64 pa, .slice aS nS cS, .slice aR nR cR, .slice aC nC cC, .int .i64 51, .int .i64 a, .int .i64 b, .int .i64 c, .int .u64 (im : Int), .slice aL nL cL] 92)) w' → w'.cell? ⟨W.heap.size, 0, none⟩ = some (.slice aT nT cT) ∧ w'.cell? ⟨W.heap.size, 1, none⟩ = some (.slice aG nG cG) ∧ w'.cell? ⟨W.heap.size, 2, none⟩ = some (.slice aF nF cF) ∧ w'.cell? ⟨W.heap.size, 3, none⟩ = some (.int .i64 pa) ∧ w'.cell? ⟨W.heap.size, 4, none⟩ = some (.slice aS nS cS) ∧ w'.cell? ⟨W.heap.size, 5, none⟩ = some (.slice aR nR cR) ∧ w'.cell? ⟨W.heap.size, 6, none⟩ = some (.slice aC nC cC) ∧ w'.cell? ⟨W.heap.size, 7, none⟩ = some (.int .i64 51) ∧ w'.cell? ⟨W.heap.size, 8, none⟩ = some (.int .i64 a) ∧ w'.cell? ⟨W.heap.size, 9, none⟩ = some (.int .i64 b) ∧ w'.cell? ⟨W.heap.size, 10, none⟩ = some (.int .i64 c) ∧ w'.cell? ⟨W.heap.size, 11, none⟩ = some (.int .u64 (im : Int)) ∧ w'.cell? ⟨W.heap.size, 12, none⟩ = some (.slice aL nL cL)) := Lib.hid fun w' h => site_keep h
  obtain ⟨b0, b1, b2, b3, b4, b5, b6, b7, b8, b9, b10, b11, b12⟩ := KS.out _ (Cha.refl _ _)
  go_enter Try.func66, Try.ntmps66
  go_wp2
  go_region_held3 (fun w' => w'.cell? ⟨W.heap.size, 0, none⟩ = some (.slice aT nT cT) ∧ w'.cell? ⟨W.heap.size, 1, none⟩ = some (.slice aG nG cG) ∧ w'.cell? ⟨W.heap.size, 2, none⟩ = some (.slice aF nF cF) ∧ w'.cell? ⟨W.heap.size, 3, none⟩ = some (.int .i64 pa) ∧ w'.cell? ⟨W.heap.size, 4, none⟩ = some (.slice aS nS cS) ∧ w'.cell? ⟨W.heap.size, 5, none⟩ = some (.slice aR nR cR) ∧ w'.cell? ⟨W.heap.size, 6, none⟩ = some (.slice aC nC cC) ∧ w'.cell? ⟨W.heap.size, 7, none⟩ = some (.int .i64 51) ∧ w'.cell? ⟨W.heap.size, 8, none⟩ = some (.int .i64 a) ∧ w'.cell? ⟨W.heap.size, 9, none⟩ = some (.int .i64 b) ∧ w'.cell? ⟨W.heap.size, 10, none⟩ = some (.int .i64 c) ∧ w'.cell? ⟨W.heap.size, 11, none⟩ = some (.int .u64 (im : Int)) ∧ w'.cell? ⟨W.heap.size, 12, none⟩ = some (.slice aL nL cL))
    (first
      | exact ⟨b0, b1, b2, b3, b4, b5, b6, b7, b8, b9, b10, b11, b12⟩
      | exact ⟨d0, d1, d2, d3, d4, d5, d6, d7, d8, d9, d10, d11, d12⟩
      | exact ⟨e0, e1, e2, e3, e4, e5, e6, e7, e8, e9, e10, e11, e12⟩
      | go_keep)
    (first
      | (go_at_call 102; (with_reducible refine (CF.out _ (cha_box.drew)).mono ?_); rintro e w1 ⟨a1, c1, rfl, hW, hC⟩; have HW := Lib.hid hW; have K1 := Lib.hid ((Cha.refl (fun _ => False) _).drew.trans hC); have C1 := Lib.hid (Cha.trans (cha_box.drew) hC); obtain ⟨d0, d1, d2, d3, d4, d5, d6, d7, d8, d9, d10, d11, d12⟩ := KS.out _ K1.out; clear hC hW)
      | (go_at_call 89; (with_reducible refine (CS1.out _ _ _ C1.out HW.out).mono ?_); rintro e w2 ⟨rfl, hC⟩; have C2 := Lib.hid (C1.out.trans hC); obtain ⟨e0, e1, e2, e3, e4, e5, e6, e7, e8, e9, e10, e11, e12⟩ := KS.out _ (K1.out.trans hC); clear hC))
  all_goals
    go_wp2
    go_ret
    exact ⟨rfl, C2.out⟩
set_option maxRecDepth 100000 in
set_option maxHeartbeats 2000000 in
theorem nm_52 (h : Sit W x p f i) (ho : i.op = 52) : Calls Try.prog 66 #[x.v f i] W (Says W (.int .i64 (namedZ p f i))) := by
  have HR : Hid (namedZ p f i = wantsZ f.sl (fixedZ i.op i.a i.b i.c)) := Lib.hid (by unfold namedZ; rw [ho]; rfl)
  have CF : Hid (∀ w, Cha (fun _ => False) W w → Calls Try.prog 102 #[x.v f i] w (SaysW w (fixedZ i.op i.a i.b i.c))) := Lib.hid fun w c => fixed_any (h.cha c) (by unfold isFix; omega)
  have CS : Hid (∀ w aW nW cW ws, Cha (fun _ => False) W w → RdS 2 RdW (· < w.heap.size) w (.slice aW nW cW) ws → nW = ws.length → Calls Try.prog 89 #[x.v f i, .slice aW nW cW] w (Says w (.int .i64 (wantsZ f.sl ws)))) := Lib.hid fun w aW nW cW ws c hw hn => slots_any (h.cha c) hw hn
  rw [HR.out]
  obtain ⟨ws, hws⟩ : ∃ ws, ws = fixedZ i.op i.a i.b i.c := ⟨_, rfl⟩
  rw [← hws] at CF ⊢
  unfold SaysW at CF
  obtain ⟨nW, hnW⟩ : ∃ n, n = ws.length := ⟨_, rfl⟩
  rw [← hnW] at CF
  have HN := Lib.hid hnW
  have CS1 : Hid (∀ w aW cW, Cha (fun _ => False) W w → RdS 2 RdW (· < w.heap.size) w (.slice aW nW cW) ws → Calls Try.prog 89 #[x.v f i, .slice aW nW cW] w (Says w (.int .i64 (wantsZ f.sl ws)))) := Lib.hid fun w aW cW c hw => CS.out w aW nW cW ws c hw HN.out
  clear h HR hws hnW CS
  obtain ⟨aT, nT, cT, aG, nG, cG, aF, nF, cF, aS, nS, cS, aR, nR, cR, aC, nC, cC, aL, nL, cL⟩ := x
  obtain ⟨pa, sl, re, co⟩ := f
  obtain ⟨op, a, b, c, im, li⟩ := i
  dsimp only [SV.v] at *
  generalize wantsZ sl ws = R at *
  subst ho
  have KS : Hid (∀ w', Cha (fun _ => False) (W.alloc (.cells #[.slice aT nT cT, .slice aG nG cG, .slice aF nF cF, .int .i64 pa, .slice aS nS cS, .slice aR nR cR, .slice aC nC cC, .int .i64 52, .int .i64 a, .int .i64 b, .int .i64 c, .int .u64 (im : Int), .slice aL nL cL] 92)) w' → w'.cell? ⟨W.heap.size, 0, none⟩ = some (.slice aT nT cT) ∧ w'.cell? ⟨W.heap.size, 1, none⟩ = some (.slice aG nG cG) ∧ w'.cell? ⟨W.heap.size, 2, none⟩ = some (.slice aF nF cF) ∧ w'.cell? ⟨W.heap.size, 3, none⟩ = some (.int .i64 pa) ∧ w'.cell? ⟨W.heap.size, 4, none⟩ = some (.slice aS nS cS) ∧ w'.cell? ⟨W.heap.size, 5, none⟩ = some (.slice aR nR cR) ∧ w'.cell? ⟨W.heap.size, 6, none⟩ = some (.slice aC nC cC) ∧ w'.cell? ⟨W.heap.size, 7, none⟩ = some (.int .i64 52) ∧ w'.cell? ⟨W.heap.size, 8, none⟩ = some (.int .i64 a) ∧ w'.cell? ⟨W.heap.size, 9, none⟩ = some (.int .i64 b) ∧ w'.cell? ⟨W.heap.size, 10, none⟩ = some (.int .i64 c) ∧ w'.cell? ⟨W.heap.size, 11, none⟩ = some (.int .u64 (im : Int)) ∧ w'.cell? ⟨W.heap.size, 12, none⟩ = some (.slice aL nL cL)) := Lib.hid fun w' h => site_keep h
  obtain ⟨b0, b1, b2, b3, b4, b5, b6, b7, b8, b9, b10, b11, b12⟩ := KS.out _ (Cha.refl _ _)
  go_enter Try.func66, Try.ntmps66
  go_wp2
  go_region_held3 (fun w' => w'.cell? ⟨W.heap.size, 0, none⟩ = some (.slice aT nT cT) ∧ w'.cell? ⟨W.heap.size, 1, none⟩ = some (.slice aG nG cG) ∧ w'.cell? ⟨W.heap.size, 2, none⟩ = some (.slice aF nF cF) ∧ w'.cell? ⟨W.heap.size, 3, none⟩ = some (.int .i64 pa) ∧ w'.cell? ⟨W.heap.size, 4, none⟩ = some (.slice aS nS cS) ∧ w'.cell? ⟨W.heap.size, 5, none⟩ = some (.slice aR nR cR) ∧ w'.cell? ⟨W.heap.size, 6, none⟩ = some (.slice aC nC cC) ∧ w'.cell? ⟨W.heap.size, 7, none⟩ = some (.int .i64 52) ∧ w'.cell? ⟨W.heap.size, 8, none⟩ = some (.int .i64 a) ∧ w'.cell? ⟨W.heap.size, 9, none⟩ = some (.int .i64 b) ∧ w'.cell? ⟨W.heap.size, 10, none⟩ = some (.int .i64 c) ∧ w'.cell? ⟨W.heap.size, 11, none⟩ = some (.int .u64 (im : Int)) ∧ w'.cell? ⟨W.heap.size, 12, none⟩ = some (.slice aL nL cL))
    (first
      | exact ⟨b0, b1, b2, b3, b4, b5, b6, b7, b8, b9, b10, b11, b12⟩
      | exact ⟨d0, d1, d2, d3, d4, d5, d6, d7, d8, d9, d10, d11, d12⟩
      | exact ⟨e0, e1, e2, e3, e4, e5, e6, e7, e8, e9, e10, e11, e12⟩
      | go_keep)
    (first
      | (go_at_call 102; (with_reducible refine (CF.out _ (cha_box.drew)).mono ?_); rintro e w1 ⟨a1, c1, rfl, hW, hC⟩; have HW := Lib.hid hW; have K1 := Lib.hid ((Cha.refl (fun _ => False) _).drew.trans hC); have C1 := Lib.hid (Cha.trans (cha_box.drew) hC); obtain ⟨d0, d1, d2, d3, d4, d5, d6, d7, d8, d9, d10, d11, d12⟩ := KS.out _ K1.out; clear hC hW)
      | (go_at_call 89; (with_reducible refine (CS1.out _ _ _ C1.out HW.out).mono ?_); rintro e w2 ⟨rfl, hC⟩; have C2 := Lib.hid (C1.out.trans hC); obtain ⟨e0, e1, e2, e3, e4, e5, e6, e7, e8, e9, e10, e11, e12⟩ := KS.out _ (K1.out.trans hC); clear hC))
  all_goals
    go_wp2
    go_ret
    exact ⟨rfl, C2.out⟩
end
end Go.Proofs.Ytpdjbhnpahkbpaa
