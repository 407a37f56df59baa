/- Check: what an instruction's fields name. -/
import Derived.Test.YtpdjbhnpahkbpaaVQ
import Derived.Test.YtpdjbhnpahkbpaaVS
namespace Go.Proofs.Ytpdjbhnpahkbpaa
set_option linter.unusedVariables false
open Go.ChangeShapes Go.WideShapes Go.ChangeAt Go.RowKit
section
variable {W w w' : World} {x : SV} {p : PZ} {f : FZ} {i : IZ}
theorem select_bad (h : Sit W x p f i) (hb : ¬ (0 ≤ i.b ∧ i.b ≤ 1 ∧ i.l.length % 3 = 0)) : Calls Try.prog 101 #[x.v f i] W (Says W (.int .i64 16)) := by
  have hn := h.eL
  rw [← hn] at hb
  clear h hn
  obtain ⟨aT, nT, cT, aG, nG, cG, aF, nF, cF, aS, nS, cS, aR, nR, cR, aC, nC, cC, aL, nL, cL⟩ := x
  obtain ⟨pa, sl, re, co⟩ := f
  obtain ⟨op, a, b, c, im, li⟩ := i
  dsimp only [SV.v] at *
  have KR : ∀ v : Value, (((W.alloc (.cells #[.slice aT nT cT, .slice aG nG cG, .slice aF nF cF, .int .i64 pa, .slice aS nS cS, .slice aR nR cR, .slice aC nC cC, .int .i64 op, .int .i64 a, .int .i64 b, .int .i64 c, .int .u64 (im : Int), .slice aL nL cL] 92)).alloc (.cells #[v] 28)).cell? ⟨W.heap.size + 1, 0, none⟩ = some v) := fun v => (res_keep (Cha.refl (fun _ => False) _)).1 0
  have g := KR (.int .i64 16)
  by_cases h0 : b < 0
  · clear hb
    go_enter Try.func101, Try.ntmps101
    go_wp2
    refine bodyPost_ret (v := .int .i64 16) (by simp [results, Try.results101, go_sem, g]) rfl ?_
    exact ⟨rfl, ((Cha.refl _ W).alloc _).alloc _⟩
  · by_cases h1 : 1 < b
    · clear hb
      go_enter Try.func101, Try.ntmps101
      go_wp2
      refine bodyPost_ret (v := .int .i64 16) (by simp [results, Try.results101, go_sem, g]) rfl ?_
      exact ⟨rfl, ((Cha.refl _ W).alloc _).alloc _⟩
    · have h2 : ¬ nL % 3 = 0 := fun c => hb ⟨by omega, by omega, c⟩
      have h3 : ¬ Int.tmod (nL : Int) 3 = 0 := by rw [Int.tmod_eq_emod_of_nonneg (by omega)]; omega
      have h4 : ¬ (nL : Int) % 3 = 0 := by omega
      have h5 : ((nL : Int) % 3 == 0) = false := by simpa using h4
      have h6 : ((nL : Int) % 3 != 0) = true := by simpa using h4
      clear hb
      go_enter Try.func101, Try.ntmps101
      go_wp2
      refine bodyPost_ret (v := .int .i64 16) (by simp [results, Try.results101, go_sem, g]) rfl ?_
      exact ⟨rfl, ((Cha.refl _ W).alloc _).alloc _⟩
theorem select_any (h : Sit W x p f i) (hc : x.nL ≤ x.cL) (h24 : x.nL ≤ 24) : Calls Try.prog 101 #[x.v f i] W (Says W (.int .i64 (selectZ f.sl i.l i.a i.b))) := by
  by_cases hb : 0 ≤ i.b ∧ i.b ≤ 1 ∧ i.l.length % 3 = 0
  · obtain ⟨h0, h1, h2⟩ := hb
    exact callsIn_wide.1 (select_in 3 (by omega) h hc h24 h0 h1 (x.nL / 3) (by rw [h.eL]; omega))
  · have e : selectZ f.sl i.l i.a i.b = 16 := if_neg hb
    rw [e]
    exact select_bad h hb
theorem new_any (h : Sit W x p f i) (hT : p.ty.length ≤ 32) (arr : Bool) (hop : (i.op == 27) = arr) : Calls Try.prog 90 #[x.v f i] W (Says W (.int .i64 (newZ p.ty f.sl arr i.a i.b i.c))) := by
  by_cases hb : 0 ≤ i.b ∧ i.b < p.ty.length ∧ ((p.ty[i.b.toNat]?).getD ⟨false, []⟩).ar = arr
  · exact new_good h hT arr hop hb
  · have e : newZ p.ty f.sl arr i.a i.b i.c = 14 := if_neg hb
    rw [e]
    exact new_bad h arr hop hb
/-- What has been found right of a program and of a function, ahead of its instructions. -/
structure Okay (W : World) (x : SV) (p : PZ) (f : FZ) : Prop where
  t32 : p.ty.length ≤ 32
  typed : Typed p f
  full : ∀ t ∈ p.ty, 0 < t.fi.length
  good : ∀ g ∈ p.fu, GoodFn g
  r32 : x.nR ≤ 1000
  caps : Caps W x.aF x.nF
  capL : x.nL ≤ x.cL
  l24 : x.nL ≤ 24
theorem Okay.cha (h : Okay W x p f) (c : Cha (fun _ => False) W w) : Okay w x p f := { h with caps := h.caps.cha c }
set_option maxRecDepth 100000 in
theorem nm_1 (h : Sit W x p f i) (hx : Okay W x p f) (ho : i.op = 1) : Calls Try.prog 66 #[x.v f i] W (Says W (.int .i64 (namedZ p f i))) := by
  have HR : Hid (namedZ p f i = numberZ f.sl i.a) := Lib.hid (by unfold namedZ; rw [ho]; rfl)
  have C : Hid (∀ w, Cha (fun _ => False) W w → Calls Try.prog 84 #[x.v f i] w (Says w (.int .i64 (numberZ f.sl i.a)))) := Lib.hid fun w c => number_any (h.cha c)
  rw [HR.out]
  clear h hx HR
  obtain ⟨aT, nT, cT, aG, nG, cG, aF, nF, cF, aS, nS, cS, aR, nR, cR, aC, nC, cC, aL, nL, cL⟩ := x
  obtain ⟨pa, sl, re, co⟩ := f
  obtain ⟨op, a, b, c, im, li⟩ := i
  dsimp only [SV.v] at *
  subst ho
  generalize numberZ sl a = R at *
  go_enter Try.func66, Try.ntmps66
  go_wp2_with (go_at_call 84; ((with_reducible refine (C.out _ cha_box).mono ?_); rintro e w1 ⟨rfl, k1⟩; have C1 := Lib.hid (Cha.trans cha_box k1); clear k1))
  go_ret
  exact ⟨rfl, C1.out⟩
set_option maxRecDepth 100000 in
theorem nm_48 (h : Sit W x p f i) (hx : Okay W x p f) (ho : i.op = 48) : Calls Try.prog 66 #[x.v f i] W (Says W (.int .i64 (namedZ p f i))) := by
  have HR : Hid (namedZ p f i = numberZ f.sl i.a) := Lib.hid (by unfold namedZ; rw [ho]; rfl)
  have C : Hid (∀ w, Cha (fun _ => False) W w → Calls Try.prog 84 #[x.v f i] w (Says w (.int .i64 (numberZ f.sl i.a)))) := Lib.hid fun w c => number_any (h.cha c)
  rw [HR.out]
  clear h hx HR
  obtain ⟨aT, nT, cT, aG, nG, cG, aF, nF, cF, aS, nS, cS, aR, nR, cR, aC, nC, cC, aL, nL, cL⟩ := x
  obtain ⟨pa, sl, re, co⟩ := f
  obtain ⟨op, a, b, c, im, li⟩ := i
  dsimp only [SV.v] at *
  subst ho
  generalize numberZ sl a = R at *
  go_enter Try.func66, Try.ntmps66
  go_wp2_with (go_at_call 84; ((with_reducible refine (C.out _ cha_box).mono ?_); rintro e w1 ⟨rfl, k1⟩; have C1 := Lib.hid (Cha.trans cha_box k1); clear k1))
  go_ret
  exact ⟨rfl, C1.out⟩
set_option maxRecDepth 100000 in
theorem nm_2 (h : Sit W x p f i) (hx : Okay W x p f) (ho : i.op = 2) : Calls Try.prog 66 #[x.v f i] W (Says W (.int .i64 (namedZ p f i))) := by
  have HR : Hid (namedZ p f i = alikeE f.sl i.a i.b) := Lib.hid (by unfold namedZ; rw [ho]; rfl)
  have C : Hid (∀ w, Cha (fun _ => False) W w → Calls Try.prog 85 #[x.v f i, .int .i64 i.a, .int .i64 i.b] w (SaysK w (kdK f.sl i.a) (alikeE f.sl i.a i.b))) := Lib.hid fun w c => alike_any (h.cha c) _ _
  rw [HR.out]
  clear h hx HR
  obtain ⟨aT, nT, cT, aG, nG, cG, aF, nF, cF, aS, nS, cS, aR, nR, cR, aC, nC, cC, aL, nL, cL⟩ := x
  obtain ⟨pa, sl, re, co⟩ := f
  obtain ⟨op, a, b, c, im, li⟩ := i
  dsimp only [SV.v] at *
  subst ho
  generalize alikeE sl a b = R at *
  generalize kdK sl a = K at *
  go_enter Try.func66, Try.ntmps66
  go_wp2_with (go_at_call 85; ((with_reducible refine (C.out _ cha_box).mono ?_); rintro e w1 ⟨rfl, k1⟩; have C1 := Lib.hid (Cha.trans cha_box k1); clear k1))
  go_ret
  exact ⟨rfl, C1.out⟩
set_option maxRecDepth 100000 in
theorem nm_23 (h : Sit W x p f i) (hx : Okay W x p f) (ho : i.op = 23) : Calls Try.prog 66 #[x.v f i] W (Says W (.int .i64 (namedZ p f i))) := by
  have HR : Hid (namedZ p f i = peqZ f.sl i.a i.b i.c) := Lib.hid (by unfold namedZ; rw [ho]; rfl)
  have C : Hid (∀ w, Cha (fun _ => False) W w → Calls Try.prog 86 #[x.v f i] w (Says w (.int .i64 (peqZ f.sl i.a i.b i.c)))) := Lib.hid fun w c => peq_any (h.cha c)
  rw [HR.out]
  clear h hx HR
  obtain ⟨aT, nT, cT, aG, nG, cG, aF, nF, cF, aS, nS, cS, aR, nR, cR, aC, nC, cC, aL, nL, cL⟩ := x
  obtain ⟨pa, sl, re, co⟩ := f
  obtain ⟨op, a, b, c, im, li⟩ := i
  dsimp only [SV.v] at *
  subst ho
  generalize peqZ sl a b c = R at *
  go_enter Try.func66, Try.ntmps66
  go_wp2_with (go_at_call 86; ((with_reducible refine (C.out _ cha_box).mono ?_); rintro e w1 ⟨rfl, k1⟩; have C1 := Lib.hid (Cha.trans cha_box k1); clear k1))
  go_ret
  exact ⟨rfl, C1.out⟩
set_option maxRecDepth 100000 in
theorem nm_24 (h : Sit W x p f i) (hx : Okay W x p f) (ho : i.op = 24) : Calls Try.prog 66 #[x.v f i] W (Says W (.int .i64 (namedZ p f i))) := by
  have HR : Hid (namedZ p f i = targetZ f.co.length i.a) := Lib.hid (by unfold namedZ; rw [ho]; rfl)
  have C : Hid (∀ w, Cha (fun _ => False) W w → Calls Try.prog 87 #[x.v f i, .int .i64 i.a] w (Says w (.int .i64 (targetZ f.co.length i.a)))) := Lib.hid fun w c => target_any (h.cha c) _
  rw [HR.out]
  clear h hx HR
  obtain ⟨aT, nT, cT, aG, nG, cG, aF, nF, cF, aS, nS, cS, aR, nR, cR, aC, nC, cC, aL, nL, cL⟩ := x
  obtain ⟨pa, sl, re, co⟩ := f
  obtain ⟨op, a, b, c, im, li⟩ := i
  dsimp only [SV.v] at *
  subst ho
  generalize targetZ co.length a = R at *
  go_enter Try.func66, Try.ntmps66
  go_wp2_with (go_at_call 87; ((with_reducible refine (C.out _ cha_box).mono ?_); rintro e w1 ⟨rfl, k1⟩; have C1 := Lib.hid (Cha.trans cha_box k1); clear k1))
  go_ret
  exact ⟨rfl, C1.out⟩
set_option maxRecDepth 100000 in
theorem nm_26 (h : Sit W x p f i) (hx : Okay W x p f) (ho : i.op = 26) : Calls Try.prog 66 #[x.v f i] W (Says W (.int .i64 (namedZ p f i))) := by
  have HR : Hid (namedZ p f i = newZ p.ty f.sl false i.a i.b i.c) := Lib.hid (by unfold namedZ; rw [ho]; rfl)
  have C : Hid (∀ w, Cha (fun _ => False) W w → Calls Try.prog 90 #[x.v f i] w (Says w (.int .i64 (newZ p.ty f.sl false i.a i.b i.c)))) := Lib.hid fun w c => new_any (h.cha c) hx.t32 false (by rw [ho]; rfl)
  rw [HR.out]
  clear h hx HR
  obtain ⟨aT, nT, cT, aG, nG, cG, aF, nF, cF, aS, nS, cS, aR, nR, cR, aC, nC, cC, aL, nL, cL⟩ := x
  obtain ⟨pa, sl, re, co⟩ := f
  obtain ⟨op, a, b, c, im, li⟩ := i
  dsimp only [SV.v] at *
  subst ho
  generalize newZ p.ty sl false a b c = R at *
  go_enter Try.func66, Try.ntmps66
  go_wp2_with (go_at_call 90; ((with_reducible refine (C.out _ cha_box).mono ?_); rintro e w1 ⟨rfl, k1⟩; have C1 := Lib.hid (Cha.trans cha_box k1); clear k1))
  go_ret
  exact ⟨rfl, C1.out⟩
set_option maxRecDepth 100000 in
theorem nm_27 (h : Sit W x p f i) (hx : Okay W x p f) (ho : i.op = 27) : Calls Try.prog 66 #[x.v f i] W (Says W (.int .i64 (namedZ p f i))) := by
  have HR : Hid (namedZ p f i = newZ p.ty f.sl true i.a i.b i.c) := Lib.hid (by unfold namedZ; rw [ho]; rfl)
  have C : Hid (∀ w, Cha (fun _ => False) W w → Calls Try.prog 90 #[x.v f i] w (Says w (.int .i64 (newZ p.ty f.sl true i.a i.b i.c)))) := Lib.hid fun w c => new_any (h.cha c) hx.t32 true (by rw [ho]; rfl)
  rw [HR.out]
  clear h hx HR
  obtain ⟨aT, nT, cT, aG, nG, cG, aF, nF, cF, aS, nS, cS, aR, nR, cR, aC, nC, cC, aL, nL, cL⟩ := x
  obtain ⟨pa, sl, re, co⟩ := f
  obtain ⟨op, a, b, c, im, li⟩ := i
  dsimp only [SV.v] at *
  subst ho
  generalize newZ p.ty sl true a b c = R at *
  go_enter Try.func66, Try.ntmps66
  go_wp2_with (go_at_call 90; ((with_reducible refine (C.out _ cha_box).mono ?_); rintro e w1 ⟨rfl, k1⟩; have C1 := Lib.hid (Cha.trans cha_box k1); clear k1))
  go_ret
  exact ⟨rfl, C1.out⟩
set_option maxRecDepth 100000 in
theorem nm_29 (h : Sit W x p f i) (hx : Okay W x p f) (ho : i.op = 29) : Calls Try.prog 66 #[x.v f i] W (Says W (.int .i64 (namedZ p f i))) := by
  have HR : Hid (namedZ p f i = fieldZ p.ty f.sl i.c i.b i.a) := Lib.hid (by unfold namedZ; rw [ho]; rfl)
  have C : Hid (∀ w, Cha (fun _ => False) W w → Calls Try.prog 92 #[x.v f i, .int .i64 i.b, .int .i64 i.a] w (Says w (.int .i64 (fieldZ p.ty f.sl i.c i.b i.a)))) := Lib.hid fun w c => field_any (h.cha c) hx.typed _ _
  rw [HR.out]
  clear h hx HR
  obtain ⟨aT, nT, cT, aG, nG, cG, aF, nF, cF, aS, nS, cS, aR, nR, cR, aC, nC, cC, aL, nL, cL⟩ := x
  obtain ⟨pa, sl, re, co⟩ := f
  obtain ⟨op, a, b, c, im, li⟩ := i
  dsimp only [SV.v] at *
  subst ho
  generalize fieldZ p.ty sl c b a = R at *
  go_enter Try.func66, Try.ntmps66
  go_wp2_with (go_at_call 92; ((with_reducible refine (C.out _ cha_box).mono ?_); rintro e w1 ⟨rfl, k1⟩; have C1 := Lib.hid (Cha.trans cha_box k1); clear k1))
  go_ret
  exact ⟨rfl, C1.out⟩
set_option maxRecDepth 100000 in
theorem nm_30 (h : Sit W x p f i) (hx : Okay W x p f) (ho : i.op = 30) : Calls Try.prog 66 #[x.v f i] W (Says W (.int .i64 (namedZ p f i))) := by
  have HR : Hid (namedZ p f i = fieldZ p.ty f.sl i.c i.a i.b) := Lib.hid (by unfold namedZ; rw [ho]; rfl)
  have C : Hid (∀ w, Cha (fun _ => False) W w → Calls Try.prog 92 #[x.v f i, .int .i64 i.a, .int .i64 i.b] w (Says w (.int .i64 (fieldZ p.ty f.sl i.c i.a i.b)))) := Lib.hid fun w c => field_any (h.cha c) hx.typed _ _
  rw [HR.out]
  clear h hx HR
  obtain ⟨aT, nT, cT, aG, nG, cG, aF, nF, cF, aS, nS, cS, aR, nR, cR, aC, nC, cC, aL, nL, cL⟩ := x
  obtain ⟨pa, sl, re, co⟩ := f
  obtain ⟨op, a, b, c, im, li⟩ := i
  dsimp only [SV.v] at *
  subst ho
  generalize fieldZ p.ty sl c a b = R at *
  go_enter Try.func66, Try.ntmps66
  go_wp2_with (go_at_call 92; ((with_reducible refine (C.out _ cha_box).mono ?_); rintro e w1 ⟨rfl, k1⟩; have C1 := Lib.hid (Cha.trans cha_box k1); clear k1))
  go_ret
  exact ⟨rfl, C1.out⟩
set_option maxRecDepth 100000 in
theorem nm_31 (h : Sit W x p f i) (hx : Okay W x p f) (ho : i.op = 31) : Calls Try.prog 66 #[x.v f i] W (Says W (.int .i64 (namedZ p f i))) := by
  have HR : Hid (namedZ p f i = elementZ p.ty f.sl i.c i.b i.a) := Lib.hid (by unfold namedZ; rw [ho]; rfl)
  have C : Hid (∀ w, Cha (fun _ => False) W w → Calls Try.prog 93 #[x.v f i, .int .i64 i.b, .int .i64 i.a] w (Says w (.int .i64 (elementZ p.ty f.sl i.c i.b i.a)))) := Lib.hid fun w c => element_any (h.cha c) hx.typed hx.full _ _
  rw [HR.out]
  clear h hx HR
  obtain ⟨aT, nT, cT, aG, nG, cG, aF, nF, cF, aS, nS, cS, aR, nR, cR, aC, nC, cC, aL, nL, cL⟩ := x
  obtain ⟨pa, sl, re, co⟩ := f
  obtain ⟨op, a, b, c, im, li⟩ := i
  dsimp only [SV.v] at *
  subst ho
  generalize elementZ p.ty sl c b a = R at *
  go_enter Try.func66, Try.ntmps66
  go_wp2_with (go_at_call 93; ((with_reducible refine (C.out _ cha_box).mono ?_); rintro e w1 ⟨rfl, k1⟩; have C1 := Lib.hid (Cha.trans cha_box k1); clear k1))
  go_ret
  exact ⟨rfl, C1.out⟩
set_option maxRecDepth 100000 in
theorem nm_32 (h : Sit W x p f i) (hx : Okay W x p f) (ho : i.op = 32) : Calls Try.prog 66 #[x.v f i] W (Says W (.int .i64 (namedZ p f i))) := by
  have HR : Hid (namedZ p f i = elementZ p.ty f.sl i.c i.a i.b) := Lib.hid (by unfold namedZ; rw [ho]; rfl)
  have C : Hid (∀ w, Cha (fun _ => False) W w → Calls Try.prog 93 #[x.v f i, .int .i64 i.a, .int .i64 i.b] w (Says w (.int .i64 (elementZ p.ty f.sl i.c i.a i.b)))) := Lib.hid fun w c => element_any (h.cha c) hx.typed hx.full _ _
  rw [HR.out]
  clear h hx HR
  obtain ⟨aT, nT, cT, aG, nG, cG, aF, nF, cF, aS, nS, cS, aR, nR, cR, aC, nC, cC, aL, nL, cL⟩ := x
  obtain ⟨pa, sl, re, co⟩ := f
  obtain ⟨op, a, b, c, im, li⟩ := i
  dsimp only [SV.v] at *
  subst ho
  generalize elementZ p.ty sl c a b = R at *
  go_enter Try.func66, Try.ntmps66
  go_wp2_with (go_at_call 93; ((with_reducible refine (C.out _ cha_box).mono ?_); rintro e w1 ⟨rfl, k1⟩; have C1 := Lib.hid (Cha.trans cha_box k1); clear k1))
  go_ret
  exact ⟨rfl, C1.out⟩
set_option maxRecDepth 100000 in
theorem nm_33 (h : Sit W x p f i) (hx : Okay W x p f) (ho : i.op = 33) : Calls Try.prog 66 #[x.v f i] W (Says W (.int .i64 (namedZ p f i))) := by
  have HR : Hid (namedZ p f i = globalZ p.gl f.sl i.b i.a) := Lib.hid (by unfold namedZ; rw [ho]; rfl)
  have C : Hid (∀ w, Cha (fun _ => False) W w → Calls Try.prog 94 #[x.v f i, .int .i64 i.b, .int .i64 i.a] w (Says w (.int .i64 (globalZ p.gl f.sl i.b i.a)))) := Lib.hid fun w c => global_any (h.cha c) _ _
  rw [HR.out]
  clear h hx HR
  obtain ⟨aT, nT, cT, aG, nG, cG, aF, nF, cF, aS, nS, cS, aR, nR, cR, aC, nC, cC, aL, nL, cL⟩ := x
  obtain ⟨pa, sl, re, co⟩ := f
  obtain ⟨op, a, b, c, im, li⟩ := i
  dsimp only [SV.v] at *
  subst ho
  generalize globalZ p.gl sl b a = R at *
  go_enter Try.func66, Try.ntmps66
  go_wp2_with (go_at_call 94; ((with_reducible refine (C.out _ cha_box).mono ?_); rintro e w1 ⟨rfl, k1⟩; have C1 := Lib.hid (Cha.trans cha_box k1); clear k1))
  go_ret
  exact ⟨rfl, C1.out⟩
set_option maxRecDepth 100000 in
theorem nm_34 (h : Sit W x p f i) (hx : Okay W x p f) (ho : i.op = 34) : Calls Try.prog 66 #[x.v f i] W (Says W (.int .i64 (namedZ p f i))) := by
  have HR : Hid (namedZ p f i = globalZ p.gl f.sl i.a i.b) := Lib.hid (by unfold namedZ; rw [ho]; rfl)
  have C : Hid (∀ w, Cha (fun _ => False) W w → Calls Try.prog 94 #[x.v f i, .int .i64 i.a, .int .i64 i.b] w (Says w (.int .i64 (globalZ p.gl f.sl i.a i.b)))) := Lib.hid fun w c => global_any (h.cha c) _ _
  rw [HR.out]
  clear h hx HR
  obtain ⟨aT, nT, cT, aG, nG, cG, aF, nF, cF, aS, nS, cS, aR, nR, cR, aC, nC, cC, aL, nL, cL⟩ := x
  obtain ⟨pa, sl, re, co⟩ := f
  obtain ⟨op, a, b, c, im, li⟩ := i
  dsimp only [SV.v] at *
  subst ho
  generalize globalZ p.gl sl a b = R at *
  go_enter Try.func66, Try.ntmps66
  go_wp2_with (go_at_call 94; ((with_reducible refine (C.out _ cha_box).mono ?_); rintro e w1 ⟨rfl, k1⟩; have C1 := Lib.hid (Cha.trans cha_box k1); clear k1))
  go_ret
  exact ⟨rfl, C1.out⟩
set_option maxRecDepth 100000 in
theorem nm_35 (h : Sit W x p f i) (hx : Okay W x p f) (ho : i.op = 35) : Calls Try.prog 66 #[x.v f i] W (Says W (.int .i64 (namedZ p f i))) := by
  have HR : Hid (namedZ p f i = callZ p.fu f.sl i.l i.a) := Lib.hid (by unfold namedZ; rw [ho]; rfl)
  have C : Hid (∀ w, Cha (fun _ => False) W w → Calls Try.prog 95 #[x.v f i] w (Says w (.int .i64 (callZ p.fu f.sl i.l i.a)))) := Lib.hid fun w c => call_any (h.cha c) (hx.caps.cha c) hx.good
  rw [HR.out]
  clear h hx HR
  obtain ⟨aT, nT, cT, aG, nG, cG, aF, nF, cF, aS, nS, cS, aR, nR, cR, aC, nC, cC, aL, nL, cL⟩ := x
  obtain ⟨pa, sl, re, co⟩ := f
  obtain ⟨op, a, b, c, im, li⟩ := i
  dsimp only [SV.v] at *
  subst ho
  generalize callZ p.fu sl li a = R at *
  go_enter Try.func66, Try.ntmps66
  go_wp2_with (go_at_call 95; ((with_reducible refine (C.out _ cha_box).mono ?_); rintro e w1 ⟨rfl, k1⟩; have C1 := Lib.hid (Cha.trans cha_box k1); clear k1))
  go_ret
  exact ⟨rfl, C1.out⟩
set_option maxRecDepth 100000 in
theorem nm_36 (h : Sit W x p f i) (hx : Okay W x p f) (ho : i.op = 36) : Calls Try.prog 66 #[x.v f i] W (Says W (.int .i64 (namedZ p f i))) := by
  have HR : Hid (namedZ p f i = listZ f.sl i.l f.re) := Lib.hid (by unfold namedZ; rw [ho]; rfl)
  have C : Hid (∀ w, Cha (fun _ => False) W w → Calls Try.prog 96 #[x.v f i, .slice x.aR x.nR x.cR] w (Says w (.int .i64 (listZ f.sl i.l f.re)))) := Lib.hid fun w c => list_any (h.cha c) (h.cha c).re h.eR hx.r32
  rw [HR.out]
  clear h hx HR
  obtain ⟨aT, nT, cT, aG, nG, cG, aF, nF, cF, aS, nS, cS, aR, nR, cR, aC, nC, cC, aL, nL, cL⟩ := x
  obtain ⟨pa, sl, re, co⟩ := f
  obtain ⟨op, a, b, c, im, li⟩ := i
  dsimp only [SV.v] at *
  subst ho
  generalize listZ sl li re = R at *
  go_enter Try.func66, Try.ntmps66
  go_wp2_with (go_at_call 96; ((with_reducible refine (C.out _ cha_box).mono ?_); rintro e w1 ⟨rfl, k1⟩; have C1 := Lib.hid (Cha.trans cha_box k1); clear k1))
  go_ret
  exact ⟨rfl, C1.out⟩
set_option maxRecDepth 100000 in
theorem nm_37 (h : Sit W x p f i) (hx : Okay W x p f) (ho : i.op = 37) : Calls Try.prog 66 #[x.v f i] W (Says W (.int .i64 (namedZ p f i))) := by
  have HR : Hid (namedZ p f i = begunZ p.fu f.sl i.l i.a) := Lib.hid (by unfold namedZ; rw [ho]; rfl)
  have C : Hid (∀ w, Cha (fun _ => False) W w → Calls Try.prog 97 #[x.v f i] w (Says w (.int .i64 (begunZ p.fu f.sl i.l i.a)))) := Lib.hid fun w c => begun_any (h.cha c) (hx.caps.cha c) hx.good
  rw [HR.out]
  clear h hx HR
  obtain ⟨aT, nT, cT, aG, nG, cG, aF, nF, cF, aS, nS, cS, aR, nR, cR, aC, nC, cC, aL, nL, cL⟩ := x
  obtain ⟨pa, sl, re, co⟩ := f
  obtain ⟨op, a, b, c, im, li⟩ := i
  dsimp only [SV.v] at *
  subst ho
  generalize begunZ p.fu sl li a = R at *
  go_enter Try.func66, Try.ntmps66
  go_wp2_with (go_at_call 97; ((with_reducible refine (C.out _ cha_box).mono ?_); rintro e w1 ⟨rfl, k1⟩; have C1 := Lib.hid (Cha.trans cha_box k1); clear k1))
  go_ret
  exact ⟨rfl, C1.out⟩
set_option maxRecDepth 100000 in
theorem nm_38 (h : Sit W x p f i) (hx : Okay W x p f) (ho : i.op = 38) : Calls Try.prog 66 #[x.v f i] W (Says W (.int .i64 (namedZ p f i))) := by
  have HR : Hid (namedZ p f i = begunZ p.fu f.sl i.l i.a) := Lib.hid (by unfold namedZ; rw [ho]; rfl)
  have C : Hid (∀ w, Cha (fun _ => False) W w → Calls Try.prog 97 #[x.v f i] w (Says w (.int .i64 (begunZ p.fu f.sl i.l i.a)))) := Lib.hid fun w c => begun_any (h.cha c) (hx.caps.cha c) hx.good
  rw [HR.out]
  clear h hx HR
  obtain ⟨aT, nT, cT, aG, nG, cG, aF, nF, cF, aS, nS, cS, aR, nR, cR, aC, nC, cC, aL, nL, cL⟩ := x
  obtain ⟨pa, sl, re, co⟩ := f
  obtain ⟨op, a, b, c, im, li⟩ := i
  dsimp only [SV.v] at *
  subst ho
  generalize begunZ p.fu sl li a = R at *
  go_enter Try.func66, Try.ntmps66
  go_wp2_with (go_at_call 97; ((with_reducible refine (C.out _ cha_box).mono ?_); rintro e w1 ⟨rfl, k1⟩; have C1 := Lib.hid (Cha.trans cha_box k1); clear k1))
  go_ret
  exact ⟨rfl, C1.out⟩
set_option maxRecDepth 100000 in
theorem nm_41 (h : Sit W x p f i) (hx : Okay W x p f) (ho : i.op = 41) : Calls Try.prog 66 #[x.v f i] W (Says W (.int .i64 (namedZ p f i))) := by
  have HR : Hid (namedZ p f i = chanZ f.sl i.imm i.a) := Lib.hid (by unfold namedZ; rw [ho]; rfl)
  have C : Hid (∀ w, Cha (fun _ => False) W w → Calls Try.prog 98 #[x.v f i] w (Says w (.int .i64 (chanZ f.sl i.imm i.a)))) := Lib.hid fun w c => chan_any (h.cha c)
  rw [HR.out]
  clear h hx HR
  obtain ⟨aT, nT, cT, aG, nG, cG, aF, nF, cF, aS, nS, cS, aR, nR, cR, aC, nC, cC, aL, nL, cL⟩ := x
  obtain ⟨pa, sl, re, co⟩ := f
  obtain ⟨op, a, b, c, im, li⟩ := i
  dsimp only [SV.v] at *
  subst ho
  generalize chanZ sl im a = R at *
  go_enter Try.func66, Try.ntmps66
  go_wp2_with (go_at_call 98; ((with_reducible refine (C.out _ cha_box).mono ?_); rintro e w1 ⟨rfl, k1⟩; have C1 := Lib.hid (Cha.trans cha_box k1); clear k1))
  go_ret
  exact ⟨rfl, C1.out⟩
set_option maxRecDepth 100000 in
theorem nm_44 (h : Sit W x p f i) (hx : Okay W x p f) (ho : i.op = 44) : Calls Try.prog 66 #[x.v f i] W (Says W (.int .i64 (namedZ p f i))) := by
  have HR : Hid (namedZ p f i = chanZ f.sl i.imm i.a) := Lib.hid (by unfold namedZ; rw [ho]; rfl)
  have C : Hid (∀ w, Cha (fun _ => False) W w → Calls Try.prog 98 #[x.v f i] w (Says w (.int .i64 (chanZ f.sl i.imm i.a)))) := Lib.hid fun w c => chan_any (h.cha c)
  rw [HR.out]
  clear h hx HR
  obtain ⟨aT, nT, cT, aG, nG, cG, aF, nF, cF, aS, nS, cS, aR, nR, cR, aC, nC, cC, aL, nL, cL⟩ := x
  obtain ⟨pa, sl, re, co⟩ := f
  obtain ⟨op, a, b, c, im, li⟩ := i
  dsimp only [SV.v] at *
  subst ho
  generalize chanZ sl im a = R at *
  go_enter Try.func66, Try.ntmps66
  go_wp2_with (go_at_call 98; ((with_reducible refine (C.out _ cha_box).mono ?_); rintro e w1 ⟨rfl, k1⟩; have C1 := Lib.hid (Cha.trans cha_box k1); clear k1))
  go_ret
  exact ⟨rfl, C1.out⟩
set_option maxRecDepth 100000 in
theorem nm_42 (h : Sit W x p f i) (hx : Okay W x p f) (ho : i.op = 42) : Calls Try.prog 66 #[x.v f i] W (Says W (.int .i64 (namedZ p f i))) := by
  have HR : Hid (namedZ p f i = carriesZ f.sl i.a i.b) := Lib.hid (by unfold namedZ; rw [ho]; rfl)
  have C : Hid (∀ w, Cha (fun _ => False) W w → Calls Try.prog 99 #[x.v f i, .int .i64 i.a, .int .i64 i.b] w (Says w (.int .i64 (carriesZ f.sl i.a i.b)))) := Lib.hid fun w c => carries_any (h.cha c) _ _
  rw [HR.out]
  clear h hx HR
  obtain ⟨aT, nT, cT, aG, nG, cG, aF, nF, cF, aS, nS, cS, aR, nR, cR, aC, nC, cC, aL, nL, cL⟩ := x
  obtain ⟨pa, sl, re, co⟩ := f
  obtain ⟨op, a, b, c, im, li⟩ := i
  dsimp only [SV.v] at *
  subst ho
  generalize carriesZ sl a b = R at *
  go_enter Try.func66, Try.ntmps66
  go_wp2_with (go_at_call 99; ((with_reducible refine (C.out _ cha_box).mono ?_); rintro e w1 ⟨rfl, k1⟩; have C1 := Lib.hid (Cha.trans cha_box k1); clear k1))
  go_ret
  exact ⟨rfl, C1.out⟩
set_option maxRecDepth 100000 in
theorem nm_45 (h : Sit W x p f i) (hx : Okay W x p f) (ho : i.op = 45) : Calls Try.prog 66 #[x.v f i] W (Says W (.int .i64 (namedZ p f i))) := by
  have HR : Hid (namedZ p f i = selectZ f.sl i.l i.a i.b) := Lib.hid (by unfold namedZ; rw [ho]; rfl)
  have C : Hid (∀ w, Cha (fun _ => False) W w → Calls Try.prog 101 #[x.v f i] w (Says w (.int .i64 (selectZ f.sl i.l i.a i.b)))) := Lib.hid fun w c => select_any (h.cha c) hx.capL hx.l24
  rw [HR.out]
  clear h hx HR
  obtain ⟨aT, nT, cT, aG, nG, cG, aF, nF, cF, aS, nS, cS, aR, nR, cR, aC, nC, cC, aL, nL, cL⟩ := x
  obtain ⟨pa, sl, re, co⟩ := f
  obtain ⟨op, a, b, c, im, li⟩ := i
  dsimp only [SV.v] at *
  subst ho
  generalize selectZ sl li a b = R at *
  go_enter Try.func66, Try.ntmps66
  go_wp2_with (go_at_call 101; ((with_reducible refine (C.out _ cha_box).mono ?_); rintro e w1 ⟨rfl, k1⟩; have C1 := Lib.hid (Cha.trans cha_box k1); clear k1))
  go_ret
  exact ⟨rfl, C1.out⟩
end
end Go.Proofs.Ytpdjbhnpahkbpaa
