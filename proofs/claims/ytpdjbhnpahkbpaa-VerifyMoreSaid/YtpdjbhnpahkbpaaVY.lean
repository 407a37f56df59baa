/- Check: a program. -/
import Derived.Test.YtpdjbhnpahkbpaaVX
namespace Go.Proofs.Ytpdjbhnpahkbpaa
set_option linter.unusedVariables false
open Go.ChangeShapes Go.WideShapes Go.ChangeAt Go.RowKit
section
variable {W w w' : World} {p : PZ}
/-- The lists of each instruction of a code have room enough; so have those of each function of a list. -/
def CapC (W : World) (a : Option Addr) (n : Nat) : Prop := ∀ b o, a = some ⟨b, o, none⟩ → ∀ k, k < n → b < W.heap.size ∧ ∀ a' n' c', W.cell? ⟨b, o + k * 6 + 5, none⟩ = some (.slice a' n' c') → n' ≤ c'
theorem CapC.cha {a : Option Addr} {n : Nat} (h : CapC W a n) (c : Cha (fun _ => False) W w) : CapC w a n := fun b o e k hk => by
  obtain ⟨h1, h2⟩ := h b o e k hk
  refine ⟨Nat.lt_of_lt_of_le h1 c.size, fun a' n' c' hc => h2 a' n' c' ?_⟩
  rw [← hc]
  exact (World.cell?_of_block (a := ⟨b, o + k * 6 + 5, none⟩) (c.old b h1 (fun f => f))).symm
structure CapP (W : World) (a : Option Addr) (n : Nat) : Prop where
  slots : Caps W a n
  codes : ∀ b o, a = some ⟨b, o, none⟩ → ∀ k, k < n → ∀ a' n' c', W.cell? ⟨b, o + k * 4 + 3, none⟩ = some (.slice a' n' c') → CapC W a' n'
theorem CapP.cha {a : Option Addr} {n : Nat} (h : CapP W a n) (c : Cha (fun _ => False) W w) : CapP w a n := ⟨h.slots.cha c, fun b o e k hk a' n' c' hc => by
  refine (h.codes b o e k hk a' n' c' ?_).cha c
  rw [← hc]
  exact (World.cell?_of_block (a := ⟨b, o + k * 4 + 3, none⟩) (c.old b (h.slots b o e k hk).1 (fun f => f))).symm⟩
theorem headsZ_at {n : Int} : ∀ (fu : List FZ) (k i : Nat) (f : FZ), fu[i]? = some f → headZ f (k + i == 0) n ≠ 0 → (∀ j, j < i → ∀ g, fu[j]? = some g → headZ g (k + j == 0) n = 0) → headsZ n fu k = some ⟨headZ f (k + i == 0) n, (k + i : Nat), 0⟩
  | [], k, i, f, h, _, _ => by simp at h
  | g :: gs, k, 0, f, h, hx, _ => by
    obtain rfl : g = f := by simpa using h
    rw [Nat.add_zero] at hx ⊢
    unfold headsZ
    rw [if_neg hx]
  | g :: gs, k, i + 1, f, h, hx, hf => by
    have h0 := hf 0 (by omega) g rfl
    rw [Nat.add_zero] at h0
    have e : k + (i + 1) = k + 1 + i := by omega
    rw [e] at hx ⊢
    have h1 := headsZ_at gs (k + 1) i f (by simpa using h) hx fun j hj z hz => by
      have := hf (j + 1) (by omega) z (by simpa using hz)
      rw [show k + (j + 1) = k + 1 + j by omega] at this
      exact this
    unfold headsZ
    rw [if_pos h0, h1]
theorem headsZ_none {n : Int} : ∀ (fu : List FZ) (k : Nat), (∀ j f, fu[j]? = some f → headZ f (k + j == 0) n = 0) → headsZ n fu k = none
  | [], _, _ => rfl
  | g :: gs, k, h => by
    have h0 := h 0 g rfl
    rw [Nat.add_zero] at h0
    unfold headsZ
    rw [if_pos h0]
    exact headsZ_none gs (k + 1) fun j f hj => by
      have := h (j + 1) f (by simpa using hj)
      rw [show k + (j + 1) = k + 1 + j by omega] at this
      exact this
theorem codesZ_at : ∀ (fu : List FZ) (k i : Nat) (f : FZ) (e : Int) (a : Nat), fu[i]? = some f → fstBad (insZ p f) f.co 0 = some (e, a) → (∀ j, j < i → ∀ g, fu[j]? = some g → fstBad (insZ p g) g.co 0 = none) → codesZ p fu k = some ⟨e, (k + i : Nat), a⟩
  | [], k, i, f, e, a, h, _, _ => by simp at h
  | g :: gs, k, 0, f, e, a, h, hx, _ => by
    obtain rfl : g = f := by simpa using h
    unfold codesZ
    simp only [hx, Nat.add_zero]
  | g :: gs, k, i + 1, f, e, a, h, hx, hf => by
    have h0 := hf 0 (by omega) g rfl
    have h1 := codesZ_at gs (k + 1) i f e a (by simpa using h) hx fun j hj z hz => hf (j + 1) (by omega) z (by simpa using hz)
    unfold codesZ
    simp only [h0, h1]
    rw [show k + (i + 1) = k + 1 + i by omega]
theorem codesZ_none : ∀ (fu : List FZ) (k : Nat), (∀ f ∈ fu, fstBad (insZ p f) f.co 0 = none) → codesZ p fu k = none
  | [], _, _ => rfl
  | g :: gs, k, h => by
    unfold codesZ
    simp only [h g (List.mem_cons_self ..)]
    exact codesZ_none gs (k + 1) fun f hf => h f (List.mem_cons_of_mem _ hf)
theorem res_put3 {g : Nat} {d0 d1 d2 : Value} {t : TypeId} (h : w.heap[g]? = some (.cells #[d0, d1, d2] t (0, 0))) (v0 v1 v2 : Value) (ob : Obj) :
    (((((w.setCell ⟨g, 0, none⟩ v0).setCell ⟨g, 1, none⟩ v1).setCell ⟨g, 2, none⟩ v2).alloc ob).cell? ⟨g, 0, none⟩ = some v0 ∧ ((((w.setCell ⟨g, 0, none⟩ v0).setCell ⟨g, 1, none⟩ v1).setCell ⟨g, 2, none⟩ v2).alloc ob).cell? ⟨g, 1, none⟩ = some v1 ∧ ((((w.setCell ⟨g, 0, none⟩ v0).setCell ⟨g, 1, none⟩ v1).setCell ⟨g, 2, none⟩ v2).alloc ob).cell? ⟨g, 2, none⟩ = some v2) ∧ Cha (fun i => i = g) w ((((w.setCell ⟨g, 0, none⟩ v0).setCell ⟨g, 1, none⟩ v1).setCell ⟨g, 2, none⟩ v2).alloc ob) := by
  have h1 := heap_setCell_same w g 0 _ t v0 h
  have h2 := heap_setCell_same _ g 1 _ t v1 h1
  have h3 := heap_setCell_same _ g 2 _ t v2 h2
  have h4 := (heap_alloc_old _ ob _ (Array.getElem?_eq_some_iff.1 h3).1).trans h3
  exact ⟨⟨cell_of_row _ g 0 _ t (0, 0) h4, cell_of_row _ g 1 _ t (0, 0) h4, cell_of_row _ g 2 _ t (0, 0) h4⟩, ((((Cha.refl (fun i => i = g) w).setCell (p := ⟨g, 0, none⟩) (fun _ => rfl) v0).setCell (p := ⟨g, 1, none⟩) (fun _ => rfl) v1).setCell (p := ⟨g, 2, none⟩) (fun _ => rfl) v2).alloc ob⟩
theorem head_good {f : FZ} {b : Bool} {n : Int} (h : headZ f b n = 0) : GoodFn f ∧ slotsZ f.sl n ∧ f.re.length ≤ 32 := by
  unfold headZ at h
  by_cases h1 : 32 < f.sl.length ∨ 32 < f.re.length ∨ 256 < f.co.length ∨ f.pa < 0 ∨ (f.sl.length : Int) < f.pa
  · rw [if_pos h1] at h; cases h
  rw [if_neg h1] at h
  by_cases h2 : b = true ∧ (0 < f.pa ∨ 0 < f.re.length)
  · rw [if_pos h2] at h; cases h
  rw [if_neg h2] at h
  by_cases h3 : slotsZ f.sl n ∧ kindsZ f.re n
  · exact ⟨⟨by omega, by omega, by omega, by omega⟩, h3.1, by omega⟩
  · rw [if_neg h3] at h; cases h
theorem slots_typed {f : FZ} (h : slotsZ f.sl p.ty.length) : Typed p f := fun k hk h0 h1 => by
  rcases h k hk with e | e
  · omega
  · unfold kindZ at e
    rw [if_neg (by omega)] at e
    unfold carriedZ at e
    rw [if_pos h0] at e
    exact of_decide_eq_true e
theorem parts_full (h : (partsZ p).e = 0) : (p.ty.length ≤ 32 ∧ p.gl.length ≤ 32 ∧ p.fu.length ≤ 32 ∧ 0 < p.fu.length) ∧ ∀ t ∈ p.ty, tyZ t p.ty.length = 0 := by
  unfold partsZ at h
  by_cases h1 : 32 < p.ty.length ∨ 32 < p.gl.length ∨ 32 < p.fu.length ∨ p.fu.length = 0
  · rw [if_pos h1] at h; cases h
  rw [if_neg h1] at h
  refine ⟨by omega, fun t ht => ?_⟩
  by_cases c : ∀ t ∈ p.ty, tyZ t p.ty.length = 0
  · exact c t ht
  · exfalso
    have : ∃ e k, fstBad (fun t => tyZ t p.ty.length) p.ty 0 = some (e, k) ∧ e ≠ 0 := by
      clear h h1 ht t
      suffices H : ∀ (l : List TZ) (k : Nat), (¬ ∀ t ∈ l, tyZ t p.ty.length = 0) → ∃ e j, fstBad (fun t => tyZ t p.ty.length) l k = some (e, j) ∧ e ≠ 0 from H p.ty 0 c
      intro l
      induction l with
      | nil => intro k c; exact absurd (fun t ht => by cases ht) c
      | cons t ts ih =>
        intro k c
        unfold fstBad
        by_cases h0 : tyZ t p.ty.length = 0
        · rw [if_pos h0]
          exact ih (k + 1) fun d => c fun x hx => by
            rcases List.mem_cons.1 hx with rfl | hx
            · exact h0
            · exact d x hx
        · rw [if_neg h0]
          exact ⟨_, _, rfl, h0⟩
    obtain ⟨e, k, h2, h3⟩ := this
    rw [h2] at h
    exact h3 h
theorem ty_full {t : TZ} {n : Int} (h : tyZ t n = 0) : 0 < t.fi.length := by
  unfold tyZ at h
  by_cases c : t.fi.length = 0 ∨ (if t.ar then 1 else 16) < t.fi.length
  · rw [if_pos c] at h; cases h
  · omega
theorem parts_any {a0 a1 a2 : Option Addr} {n0 n1 n2 c0 c1 c2 : Nat} (h0 : RdS 2 RdTy (· < W.heap.size) W (.slice a0 n0 c0) p.ty) (h1 : RdS 1 RdI (· < W.heap.size) W (.slice a1 n1 c1) p.gl) (h2 : RdS 4 RdFn (· < W.heap.size) W (.slice a2 n2 c2) p.fu) (e0 : n0 = p.ty.length) (e1 : n1 = p.gl.length) (e2 : n2 = p.fu.length) :
    Calls Try.prog 41 #[.agg #[.slice a0 n0 c0, .slice a1 n1 c1, .slice a2 n2 c2]] W (SaysF W (partsZ p)) := by
  by_cases hb : 32 < p.ty.length ∨ 32 < p.gl.length ∨ 32 < p.fu.length ∨ p.fu.length = 0
  · have e : partsZ p = ⟨16, -1, 0⟩ := if_pos hb
    rw [e]
    exact parts_bad (by rw [e0, e1, e2]; exact hb)
  · exact parts_good h0 h1 h2 hb
theorem check_at {E : Int} {f : FZ} {x : IZ} {a0 a1 aF l1 l2 l3 l4 : Option Addr} {n0 n1 n2 c0 c1 c2 m3 k1 k2 k3 k4 : Nat} (he : E = insZ p f x) (h0 : RdS 2 RdTy (· < W.heap.size) W (.slice a0 n0 c0) p.ty) (h1 : RdS 1 RdI (· < W.heap.size) W (.slice a1 n1 c1) p.gl) (h2 : RdS 4 RdFn (· < W.heap.size) W (.slice aF n2 c2) p.fu)
    (r1 : RdS 1 RdI (· < W.heap.size) W (.slice l1 f.sl.length k1) f.sl) (r2 : RdS 1 RdI (· < W.heap.size) W (.slice l2 f.re.length k2) f.re) (r3 : RdS 6 RdIns (· < W.heap.size) W (.slice l3 m3 k3) f.co) (r4 : RdS 1 RdI (· < W.heap.size) W (.slice l4 x.l.length k4) x.l)
    (e0 : n0 = p.ty.length) (e1 : n1 = p.gl.length) (e2 : n2 = p.fu.length) (e3 : m3 = f.co.length) (ki : I64 x.a ∧ I64 x.b ∧ I64 x.c) (fl : p.ty.length ≤ 32 ∧ ∀ t ∈ p.ty, 0 < t.fi.length) (gf : GoodFn f ∧ Typed p f ∧ f.re.length ≤ 32) (gd : ∀ g ∈ p.fu, GoodFn g) (hc : Caps W aF n2) (hl : x.l.length ≤ k4) (cc : Cha (fun _ => False) W w) :
    Calls Try.prog 43 #[.agg #[.slice a0 n0 c0, .slice a1 n1 c1, .slice aF n2 c2, .int .i64 f.pa, .slice l1 f.sl.length k1, .slice l2 f.re.length k2, .slice l3 m3 k3, .int .i64 x.op, .int .i64 x.a, .int .i64 x.b, .int .i64 x.c, .int .u64 (x.imm : Int), .slice l4 x.l.length k4]] w (Says w (.int .i64 E)) := by
  rw [he]
  have ok := fun i (hi : i < W.heap.size) => Nat.lt_of_lt_of_le hi cc.size
  have H : Sit w ⟨a0, n0, c0, a1, n1, c1, aF, n2, c2, l1, f.sl.length, k1, l2, f.re.length, k2, l3, m3, k3, l4, x.l.length, k4⟩ p f x :=
    { ty := h0.tys cc (fun _ f => f.elim) ok, gl := h1.ints cc (fun _ f => f.elim) ok, fu := h2.fns cc (fun _ f => f.elim) ok, sl := r1.ints cc (fun _ f => f.elim) ok, re := r2.ints cc (fun _ f => f.elim) ok, co := r3.inss cc (fun _ f => f.elim) ok, li := r4.ints cc (fun _ f => f.elim) ok, eT := e0, eG := e1, eF := e2, eS := rfl, eR := rfl, eC := e3, eL := rfl, ka := ki.1, kb := ki.2.1, kc := ki.2.2 }
  have K : Okay0 w ⟨a0, n0, c0, a1, n1, c1, aF, n2, c2, l1, f.sl.length, k1, l2, f.re.length, k2, l3, m3, k3, l4, x.l.length, k4⟩ p f :=
    { t32 := fl.1, typed := gf.2.1, full := fl.2, good := gd, r32 := Nat.le_trans gf.2.2 (by decide), caps := hc.cha cc, capL := hl }
  have C := check_any H K
  dsimp only [SV.v] at C
  exact C
set_option maxRecDepth 100000 in
set_option maxHeartbeats 8000000 in
theorem Check_any {a0 a1 a2 : Option Addr} {n0 n1 n2 c0 c1 c2 : Nat} (h0 : RdS 2 RdTy (· < W.heap.size) W (.slice a0 n0 c0) p.ty) (h1 : RdS 1 RdI (· < W.heap.size) W (.slice a1 n1 c1) p.gl) (h2 : RdS 4 RdFn (· < W.heap.size) W (.slice a2 n2 c2) p.fu) (e0 : n0 = p.ty.length) (e1 : n1 = p.gl.length) (e2 : n2 = p.fu.length) (hc : CapP W a2 n2) :
    Calls Try.prog 24 #[.agg #[.slice a0 n0 c0, .slice a1 n1 c1, .slice a2 n2 c2]] W (SaysF W (chkZ p)) := by
  have CP : Hid (∀ w, Cha (fun _ => False) W w → Calls Try.prog 41 #[.agg #[.slice a0 n0 c0, .slice a1 n1 c1, .slice a2 n2 c2]] w (SaysF w (partsZ p))) := Lib.hid fun w c => parts_any (h0.tys c (fun _ f => f.elim) fun _ hi => Nat.lt_of_lt_of_le hi c.size) (h1.ints c (fun _ f => f.elim) fun _ hi => Nat.lt_of_lt_of_le hi c.size) (h2.fns c (fun _ f => f.elim) fun _ hi => Nat.lt_of_lt_of_le hi c.size) e0 e1 e2
  have H0 := Lib.hid h0
  have H1 := Lib.hid h1
  have H2 := Lib.hid h2
  have HC := Lib.hid hc
  have E0 := Lib.hid e0
  have E1 := Lib.hid e1
  have E2 := Lib.hid e2
  have hl2 := h2.len
  rw [← e2] at hl2
  have hl0 := h0.len
  rw [← e0] at hl0
  obtain ⟨z, hz⟩ : ∃ z, z = chkZ p := ⟨_, rfl⟩
  obtain ⟨⟨PE, PF, PA⟩, hP⟩ : ∃ t, t = partsZ p := ⟨_, rfl⟩
  have ZP : Hid (PE ≠ 0 → z = ⟨PE, PF, PA⟩) := Lib.hid fun e => by rw [hz]; unfold chkZ; rw [← hP]; exact if_neg e
  have ZH : Hid (PE = 0 → ∀ t, headsZ p.ty.length p.fu 0 = some t → z = t) := Lib.hid fun e t h => by rw [hz]; unfold chkZ; rw [← hP, if_pos e, h]
  have ZC : Hid (PE = 0 → headsZ p.ty.length p.fu 0 = none → ∀ t, codesZ p p.fu 0 = some t → z = t) := Lib.hid fun e h t g => by rw [hz]; unfold chkZ; rw [← hP, if_pos e, h]; simp only [g]
  have ZO : Hid (PE = 0 → headsZ p.ty.length p.fu 0 = none → codesZ p p.fu 0 = none → z = ⟨0, 0, 0⟩) := Lib.hid fun e h g => by rw [hz]; unfold chkZ; rw [← hP, if_pos e, h]; simp only [g]
  have HP : Hid ((partsZ p).e = PE) := Lib.hid (by rw [← hP])
  rw [← hz]
  rw [← hP] at CP
  unfold SaysF at CP
  clear h0 h1 h2 hc e0 e1 e2 hz hP
  have A := Lib.hid (alloc2 W (.cells #[.slice a0 n0 c0, .slice a1 n1 c1, .slice a2 n2 c2] 26) (.cells #[.int .i64 0, .int .i64 0, .int .i64 0] 37))
  have C1 : Hid (Cha (fun _ => False) W ((W.alloc (.cells #[.slice a0 n0 c0, .slice a1 n1 c1, .slice a2 n2 c2] 26)).alloc (.cells #[.int .i64 0, .int .i64 0, .int .i64 0] 37))) := Lib.hid (((Cha.refl _ W).alloc _).alloc _)
  have CP1 := Lib.hid (CP.out _ C1.out)
  obtain ⟨W1, hW1⟩ : ∃ w, w = ((W.alloc (.cells #[.slice a0 n0 c0, .slice a1 n1 c1, .slice a2 n2 c2] 26)).alloc (.cells #[.int .i64 0, .int .i64 0, .int .i64 0] 37)) := ⟨_, rfl⟩
  rw [← hW1] at A C1
  have C00 : Hid (Cha (fun _ => False) W1 ((W.alloc (.cells #[.slice a0 n0 c0, .slice a1 n1 c1, .slice a2 n2 c2] 26)).alloc (.cells #[.int .i64 0, .int .i64 0, .int .i64 0] 37))) := Lib.hid (by rw [hW1]; exact Cha.refl _ _)
  clear hW1
  have KB : Hid (∀ w, Cha (fun _ => False) W1 w → (w.cell? ⟨W.heap.size, 0, none⟩ = some (.slice a0 n0 c0) ∧ w.cell? ⟨W.heap.size, 1, none⟩ = some (.slice a1 n1 c1) ∧ w.cell? ⟨W.heap.size, 2, none⟩ = some (.slice a2 n2 c2)) ∧ (w.cell? ⟨W.heap.size + 1, 0, none⟩ = some (.int .i64 0) ∧ w.cell? ⟨W.heap.size + 1, 1, none⟩ = some (.int .i64 0) ∧ w.cell? ⟨W.heap.size + 1, 2, none⟩ = some (.int .i64 0)) ∧ w.frozen? ⟨W.heap.size + 1, 0, none⟩ = false ∧ w.frozen? ⟨W.heap.size + 1, 1, none⟩ = false ∧ w.frozen? ⟨W.heap.size + 1, 2, none⟩ = false ∧ w.heap[W.heap.size + 1]? = some (.cells #[.int .i64 0, .int .i64 0, .int .i64 0] 37 (0, 0))) := Lib.hid fun w h => by
    have q := (h.old _ (Array.getElem?_eq_some_iff.1 A.out.1).1 (fun f => f)).trans A.out.1
    have r := (h.old _ (Array.getElem?_eq_some_iff.1 A.out.2).1 (fun f => f)).trans A.out.2
    exact ⟨⟨cell_of_row w _ 0 _ 26 (0, 0) q, cell_of_row w _ 1 _ 26 (0, 0) q, cell_of_row w _ 2 _ 26 (0, 0) q⟩, ⟨cell_of_row w _ 0 _ 37 (0, 0) r, cell_of_row w _ 1 _ 37 (0, 0) r, cell_of_row w _ 2 _ 37 (0, 0) r⟩, frozen_of_row w _ 0 _ 37 r, frozen_of_row w _ 1 _ 37 r, frozen_of_row w _ 2 _ 37 r, r⟩
  clear A CP
  by_cases hpe : PE = 0
  · have HB := Lib.hid (parts_full (p := p) (by rw [HP.out]; exact hpe))
    have ZH' := Lib.hid (ZH.out hpe)
    have ZC' := Lib.hid (ZC.out hpe)
    have ZO' := Lib.hid (ZO.out hpe)
    subst hpe
    clear ZP ZH ZC ZO
    go_enter Try.func24, Try.ntmps24
    go_wp2_with (go_at_call 41; ((with_reducible refine (CP1.out).mono ?_); rintro e w1 ⟨rfl, k1⟩; have K1 := Lib.hid (C00.out.trans k1); clear k1; obtain ⟨⟨b0, b1, b2⟩, ⟨y0, y1, y2⟩, z0, z1, z2, rr⟩ := KB.out _ K1.out; have RR := Lib.hid rr; clear rr; have s1 := block_lt_of_cell y0; have s0 := block_lt_of_cell b0))
    have C2 : Hid (Cha (fun _ => False) W1 (w1.alloc (.cells #[.int .i64 0, .int .i64 PF, .int .i64 PA] 37))) := Lib.hid (K1.out.alloc _)
    clear CP1 C00
    go_loopw [21] (fun i wr => ∃ k : Nat, k ≤ n2 ∧ i = .int .i64 (k : Int) ∧ Cha (fun _ => False) W1 wr ∧ ∀ j, j < k → ∀ f, p.fu[j]? = some f → headZ f (j == 0) n0 = 0) (fun i _ => n2 - (intOf i).toNat)
    case atStart => exact ⟨0, Nat.zero_le _, rfl, C2.out, fun j hj => by omega⟩
    case round =>
      clear b0 b1 b2 y0 y1 y2 z0 z1 z2 s0 s1 C2 K1 RR
      obtain ⟨k, hk, rfl, hC, hA⟩ := hrel
      have C := Lib.hid hC
      have A := Lib.hid hA
      obtain ⟨⟨b0, b1, b2⟩, ⟨y0, y1, y2⟩, z0, z1, z2, -⟩ := KB.out _ hC
      have s0 := block_lt_of_cell b0
      have s1 := block_lt_of_cell y0
      clear hC hA
      by_cases hlt : k < n2
      · obtain ⟨f, hf⟩ : ∃ f, p.fu[k]? = some f := ⟨_, List.getElem?_eq_getElem (by have := E2.out; omega)⟩
        obtain ⟨bf, of_, _, he, hbb, hbs, hx⟩ := (H2.out.fns (C1.out.trans C.out) (fun _ f => f.elim) (fun _ h => h) (B' := (· < W.heap.size))).at hf
        obtain rfl : a2 = some ⟨bf, of_, none⟩ := by injection he
        have q0 := hx.c0
        obtain ⟨v1, q1, r1⟩ := hx.c1
        obtain ⟨v2, q2, r2⟩ := hx.c2
        obtain ⟨v3, q3, r3⟩ := hx.c3
        have R1 := Lib.hid r1
        have R2 := Lib.hid r2
        have R3 := Lib.hid r3
        obtain ⟨l1, k1, rfl, _⟩ := r1
        obtain ⟨l2, k2, rfl, _⟩ := r2
        obtain ⟨l3, k3, rfl, _⟩ := r3
        have HK := Lib.hid hf
        have CT : Hid (∀ ob fb, Calls Try.prog 42 #[.agg #[.int .i64 f.pa, .slice l1 f.sl.length k1, .slice l2 f.re.length k2, .slice l3 f.co.length k3], .bool fb, .int .i64 (n0 : Int)] (wr.alloc ob) (Says (wr.alloc ob) (.int .i64 (headZ f fb n0)))) := Lib.hid fun ob fb =>
          head_any f.pa fb n0 (R1.out.ints ((Cha.refl (fun _ => False) wr).alloc ob) (fun _ f => f.elim) (fun i hi => by have hi : i < W.heap.size := hi; have h1 := (C1.out.trans C.out).size; rw [World.size_alloc]; omega)) (R2.out.ints ((Cha.refl (fun _ => False) wr).alloc ob) (fun _ f => f.elim) (fun i hi => by have hi : i < W.heap.size := hi; have h1 := (C1.out.trans C.out).size; rw [World.size_alloc]; omega)) (R3.out.inss ((Cha.refl (fun _ => False) wr).alloc ob) (fun _ f => f.elim) (fun i hi => by have hi : i < W.heap.size := hi; have h1 := (C1.out.trans C.out).size; rw [World.size_alloc]; omega))
        obtain ⟨fb, hfb⟩ : ∃ fb, (k == 0) = fb := ⟨_, rfl⟩
        have hfb2 : ((k : Int) == 0) = fb := by rw [← hfb, Bool.eq_iff_iff]; simp
        have hfb3 : decide (k = 0) = fb := by rw [← hfb, Bool.eq_iff_iff]; simp
        obtain ⟨E, hE⟩ : ∃ E, E = headZ f fb n0 := ⟨_, rfl⟩
        have HE := Lib.hid hE
        have HFB := Lib.hid hfb
        have CT1 : Hid (∀ ob, Calls Try.prog 42 #[.agg #[.int .i64 f.pa, .slice l1 f.sl.length k1, .slice l2 f.re.length k2, .slice l3 f.co.length k3], .bool fb, .int .i64 (n0 : Int)] (wr.alloc ob) (Says (wr.alloc ob) (.int .i64 E))) := Lib.hid fun ob => by rw [HE.out]; exact CT.out ob fb
        have hbf : bf < wr.heap.size := hbs
        have bb0 := cell_cha (B := fun _ => True) ((Cha.refl (fun _ => False) wr).alloc (.cells #[.int .i64 f.pa, .slice l1 f.sl.length k1, .slice l2 f.re.length k2, .slice l3 f.co.length k3] 55)) (fun _ f => f.elim) trivial b0
        clear he hx hbb hE CT hf
        by_cases hz : E = 0
        · have HH : Hid (∀ j, j < k + 1 → ∀ g, p.fu[j]? = some g → headZ g (j == 0) n0 = 0) := Lib.hid fun j hj g hg => by
            by_cases c : j = k
            · rw [c, HK.out] at hg
              cases hg
              rw [c, HFB.out, ← HE.out]; exact hz
            · exact A.out j (by omega) g hg
          subst hz
          go_wp2_with (go_at_call 42; ((with_reducible refine (CT1.out _).mono ?_); rintro e w2 ⟨rfl, k4⟩; have C4 := Lib.hid ((C.out.alloc _).trans k4); clear k4))
          go_roundw
          case rel => exact ⟨k + 1, by omega, by go_num, C4.out, HH.out⟩
          case measure => simp [intOf]; omega
        · have e := Lib.hid (ZH'.out _ (headsZ_at (n := p.ty.length) p.fu 0 k f HK.out (by rw [Nat.zero_add, HFB.out, ← E0.out, ← HE.out]; exact hz) (fun j hj g hg => by rw [Nat.zero_add, ← E0.out]; exact A.out j hj g hg)))
          have e : Hid (z = ⟨E, (k : Int), 0⟩) := Lib.hid (by rw [e.out, Nat.zero_add, HFB.out, ← E0.out, ← HE.out])
          have d1 : (E == 0) = false := by simpa using hz
          have d2 : (E != 0) = true := by simpa using hz
          clear hz
          go_wp2_with (go_at_call 42; ((with_reducible refine (CT1.out _).mono ?_); rintro e w2 ⟨rfl, k4⟩; have C4 := Lib.hid ((C.out.alloc _).trans k4); clear k4 b0 b1 b2 y0 y1 y2 z0 z1 z2; obtain ⟨⟨b0, b1, b2⟩, ⟨y0, y1, y2⟩, z0, z1, z2, -⟩ := KB.out _ C4.out))
          refine bodyPost_ret (v := .agg #[.int .i64 E, .int .i64 (k : Int), .int .i64 0]) (by simp [results, Try.results24, go_sem, y0, y1, y2, z0, z1, z2]) rfl ?_
          exact ⟨by rw [e.out], (C1.out.trans C4.out).over (puts_cha (W.heap.size + 1) [.int .i64 E, .int .i64 (k : Int), .int .i64 0] _ 0) (fun i e => by have e : i = W.heap.size + 1 := e; exact .inr (by omega))⟩
      · obtain rfl : n2 = k := by omega
        have NH : Hid (headsZ p.ty.length p.fu 0 = none) := Lib.hid (headsZ_none p.fu 0 fun j g hg => by
          rw [Nat.zero_add, ← E0.out]
          exact A.out j (by have := (List.getElem?_eq_some_iff.1 hg).1; have := E2.out; omega) g hg)
        have GD : Hid (∀ g ∈ p.fu, GoodFn g ∧ Typed p g ∧ g.re.length ≤ 32) := Lib.hid fun g hg => by
          obtain ⟨j, hj⟩ := List.getElem?_of_mem hg
          have := A.out j (by have := (List.getElem?_eq_some_iff.1 hj).1; have := E2.out; omega) g hj
          rw [E0.out] at this
          obtain ⟨x1, x2, x3⟩ := head_good this
          exact ⟨x1, slots_typed x2, x3⟩
        have FL : Hid (p.ty.length ≤ 32 ∧ ∀ t ∈ p.ty, 0 < t.fi.length) := Lib.hid ⟨HB.out.1.1, fun t ht => ty_full (HB.out.2 t ht)⟩
        have ZC2 := Lib.hid (ZC'.out NH.out)
        have ZO2 := Lib.hid (ZO'.out NH.out)
        have C5 := C
        clear A C HB ZH' ZC' ZO' NH
        go_wp2
        go_loopw [42] (fun i wr => ∃ k : Nat, k ≤ n2 ∧ i = .int .i64 (k : Int) ∧ Cha (fun _ => False) W1 wr ∧ ∀ j, j < k → ∀ g, p.fu[j]? = some g → fstBad (insZ p g) g.co 0 = none) (fun i _ => n2 - (intOf i).toNat)
        case atStart => exact ⟨0, Nat.zero_le _, rfl, C5.out, fun j hj => by omega⟩
        case round =>
          clear b0 b1 b2 y0 y1 y2 z0 z1 z2 s0 s1 C5
          obtain ⟨k, hk, rfl, hC, hA⟩ := hrel
          have C := Lib.hid hC
          have A := Lib.hid hA
          obtain ⟨⟨b0, b1, b2⟩, ⟨y0, y1, y2⟩, z0, z1, z2, -⟩ := KB.out _ hC
          have s0 := block_lt_of_cell b0
          have s1 := block_lt_of_cell y0
          clear hC hA
          by_cases hlt : k < n2
          · obtain ⟨f, hf⟩ : ∃ f, p.fu[k]? = some f := ⟨_, List.getElem?_eq_getElem (by have := E2.out; omega)⟩
            obtain ⟨bf, of_, _, he, hbb, hbs, hx⟩ := H2.out.at hf
            obtain rfl : a2 = some ⟨bf, of_, none⟩ := by injection he
            have CW := Lib.hid (C1.out.trans C.out)
            have q0 := cell_cha (B := fun _ => True) CW.out (fun _ f => f.elim) trivial hx.c0
            obtain ⟨v1, q1, r1⟩ := hx.c1
            obtain ⟨v2, q2, r2⟩ := hx.c2
            obtain ⟨v3, q3, r3⟩ := hx.c3
            have R1 := Lib.hid r1
            have R2 := Lib.hid r2
            have R3 := Lib.hid r3
            have hl3 := r3.len
            obtain ⟨l1, k1, rfl, _⟩ := r1
            obtain ⟨l2, k2, rfl, _⟩ := r2
            obtain ⟨l3, k3, rfl, _⟩ := r3
            have CC3 : Hid (CapC W l3 f.co.length) := Lib.hid (HC.out.codes bf of_ rfl k hlt _ _ _ q3)
            have q1 := cell_cha (B := fun _ => True) CW.out (fun _ f => f.elim) trivial q1
            have q2 := cell_cha (B := fun _ => True) CW.out (fun _ f => f.elim) trivial q2
            have q3 := cell_cha (B := fun _ => True) CW.out (fun _ f => f.elim) trivial q3
            have HK := Lib.hid hf
            have hbf : bf < wr.heap.size := block_lt_of_cell q0
            have W3C : Hid (Cha (fun _ => False) W1 (wr.alloc (.cells #[.int .i64 f.pa, .slice l1 f.sl.length k1, .slice l2 f.re.length k2, .slice l3 f.co.length k3] 55))) := Lib.hid (C.out.alloc _)
            have KF : Hid (∀ w, Cha (fun _ => False) (wr.alloc (.cells #[.int .i64 f.pa, .slice l1 f.sl.length k1, .slice l2 f.re.length k2, .slice l3 f.co.length k3] 55)) w → w.cell? ⟨wr.heap.size, 0, none⟩ = some (.int .i64 f.pa) ∧ w.cell? ⟨wr.heap.size, 1, none⟩ = some (.slice l1 f.sl.length k1) ∧ w.cell? ⟨wr.heap.size, 2, none⟩ = some (.slice l2 f.re.length k2) ∧ w.cell? ⟨wr.heap.size, 3, none⟩ = some (.slice l3 f.co.length k3)) := Lib.hid fun w h => ⟨box_keep h 0, box_keep h 1, box_keep h 2, box_keep h 3⟩
            obtain ⟨m3, hm3⟩ : ∃ m, m = f.co.length := ⟨_, rfl⟩
            rw [← hm3] at q3 hl3 CC3 W3C KF R3
            have HM3 := Lib.hid hm3
            have GF := Lib.hid (GD.out f (List.mem_of_getElem? HK.out))
            obtain ⟨W3, hW3⟩ : ∃ w, w = wr.alloc (.cells #[.int .i64 f.pa, .slice l1 f.sl.length k1, .slice l2 f.re.length k2, .slice l3 m3 k3] 55) := ⟨_, rfl⟩
            have W30 : Hid (Cha (fun _ => False) W3 (wr.alloc (.cells #[.int .i64 f.pa, .slice l1 f.sl.length k1, .slice l2 f.re.length k2, .slice l3 m3 k3] 55))) := Lib.hid (by rw [hW3]; exact Cha.refl _ _)
            rw [← hW3] at W3C KF
            have sW3 : Hid (wr.heap.size < W3.heap.size) := Lib.hid (by rw [hW3, World.size_alloc]; omega)
            clear he hx hbb hf hm3 hbs hW3
            go_wp2
            go_loopw [50] (fun i wr => ∃ k : Nat, k ≤ m3 ∧ i = .int .i64 (k : Int) ∧ Cha (fun _ => False) W3 wr ∧ ∀ j, j < k → ∀ y, f.co[j]? = some y → insZ p f y = 0) (fun i _ => m3 - (intOf i).toNat)
            case atStart => exact ⟨0, Nat.zero_le _, rfl, W30.out, fun j hj => by omega⟩
            case round =>
              clear b0 b1 b2 y0 y1 y2 z0 z1 z2 s0 s1 q0 q1 q2 q3 hbf W30
              obtain ⟨u, hu, rfl, hC, hA⟩ := hrel
              have CI := Lib.hid hC
              have AI := Lib.hid hA
              obtain ⟨⟨b0, b1, b2⟩, ⟨y0, y1, y2⟩, z0, z1, z2, -⟩ := KB.out _ (W3C.out.trans hC)
              obtain ⟨g0, g1, g2, g3⟩ := KF.out _ hC
              have s0 := block_lt_of_cell b0
              have s1 := block_lt_of_cell y0
              have s3 := block_lt_of_cell g0
              clear hC hA
              by_cases hut : u < m3
              · obtain ⟨x, hx⟩ : ∃ x, f.co[u]? = some x := ⟨_, List.getElem?_eq_getElem (by have := HM3.out; omega)⟩
                have CW2 := Lib.hid (C1.out.trans (W3C.out.trans CI.out))
                obtain ⟨bc, oc, _, he, hbb, hbs, hi⟩ := R3.out.at hx
                obtain ⟨rfl, -⟩ : l3 = some ⟨bc, oc, none⟩ ∧ True := ⟨by injection he, trivial⟩
                have i0 := cell_cha (B := fun _ => True) CW2.out (fun _ f => f.elim) trivial hi.c0
                have i1 := cell_cha (B := fun _ => True) CW2.out (fun _ f => f.elim) trivial hi.c1
                have i2 := cell_cha (B := fun _ => True) CW2.out (fun _ f => f.elim) trivial hi.c2
                have i3 := cell_cha (B := fun _ => True) CW2.out (fun _ f => f.elim) trivial hi.c3
                have i4 := cell_cha (B := fun _ => True) CW2.out (fun _ f => f.elim) trivial hi.c4
                obtain ⟨v4, i5, r4⟩ := hi.c5
                have R4 := Lib.hid r4
                obtain ⟨l4, k4, rfl, _⟩ := r4
                have CAPL := Lib.hid ((CC3.out bc oc rfl u hut).2 _ _ _ i5)
                have i5 := cell_cha (B := fun _ => True) CW2.out (fun _ f => f.elim) trivial i5
                have HKX := Lib.hid hx
                have KI := Lib.hid (And.intro hi.k1 (And.intro hi.k2 hi.k3))
                have sc := block_lt_of_cell i0
                obtain ⟨E, hE⟩ : ∃ E, E = insZ p f x := ⟨_, rfl⟩
                have HE := Lib.hid hE
                have CT : Hid (∀ ob, Calls Try.prog 43 #[.agg #[.slice a0 n0 c0, .slice a1 n1 c1, .slice (some ⟨bf, of_, none⟩) n2 c2, .int .i64 f.pa, .slice l1 f.sl.length k1, .slice l2 f.re.length k2, .slice (some ⟨bc, oc, none⟩) m3 k3, .int .i64 x.op, .int .i64 x.a, .int .i64 x.b, .int .i64 x.c, .int .u64 (x.imm : Int), .slice l4 x.l.length k4]] (wr.alloc ob) (Says (wr.alloc ob) (.int .i64 E))) := Lib.hid fun ob =>
                  check_at HE.out H0.out H1.out H2.out R1.out R2.out R3.out R4.out E0.out E1.out E2.out HM3.out KI.out FL.out GF.out (fun g hg => (GD.out g hg).1) HC.out.slots CAPL.out (CW2.out.alloc ob)
                have bx0 := cell_cha (B := fun _ => True) ((Cha.refl (fun _ => False) wr).alloc (.cells #[.int .i64 x.op, .int .i64 x.a, .int .i64 x.b, .int .i64 x.c, .int .u64 (x.imm : Int), .slice l4 x.l.length k4] 52)) (fun _ f => f.elim) trivial b0
                have bx1 := cell_cha (B := fun _ => True) ((Cha.refl (fun _ => False) wr).alloc (.cells #[.int .i64 x.op, .int .i64 x.a, .int .i64 x.b, .int .i64 x.c, .int .u64 (x.imm : Int), .slice l4 x.l.length k4] 52)) (fun _ f => f.elim) trivial b1
                have bx2 := cell_cha (B := fun _ => True) ((Cha.refl (fun _ => False) wr).alloc (.cells #[.int .i64 x.op, .int .i64 x.a, .int .i64 x.b, .int .i64 x.c, .int .u64 (x.imm : Int), .slice l4 x.l.length k4] 52)) (fun _ f => f.elim) trivial b2
                have gx0 := cell_cha (B := fun _ => True) ((Cha.refl (fun _ => False) wr).alloc (.cells #[.int .i64 x.op, .int .i64 x.a, .int .i64 x.b, .int .i64 x.c, .int .u64 (x.imm : Int), .slice l4 x.l.length k4] 52)) (fun _ f => f.elim) trivial g0
                have gx1 := cell_cha (B := fun _ => True) ((Cha.refl (fun _ => False) wr).alloc (.cells #[.int .i64 x.op, .int .i64 x.a, .int .i64 x.b, .int .i64 x.c, .int .u64 (x.imm : Int), .slice l4 x.l.length k4] 52)) (fun _ f => f.elim) trivial g1
                have gx2 := cell_cha (B := fun _ => True) ((Cha.refl (fun _ => False) wr).alloc (.cells #[.int .i64 x.op, .int .i64 x.a, .int .i64 x.b, .int .i64 x.c, .int .u64 (x.imm : Int), .slice l4 x.l.length k4] 52)) (fun _ f => f.elim) trivial g2
                have gx3 := cell_cha (B := fun _ => True) ((Cha.refl (fun _ => False) wr).alloc (.cells #[.int .i64 x.op, .int .i64 x.a, .int .i64 x.b, .int .i64 x.c, .int .u64 (x.imm : Int), .slice l4 x.l.length k4] 52)) (fun _ f => f.elim) trivial g3
                clear he hx hbb hbs hi hE
                by_cases hz : E = 0
                · have HH : Hid (∀ j, j < u + 1 → ∀ y, f.co[j]? = some y → insZ p f y = 0) := Lib.hid fun j hj y hy => by
                    by_cases c : j = u
                    · rw [c, HKX.out] at hy
                      cases hy
                      rw [← HE.out]; exact hz
                    · exact AI.out j (by omega) y hy
                  subst hz
                  go_wp2_with (go_at_call 43; ((with_reducible refine (CT.out _).mono ?_); rintro e w2 ⟨rfl, k5⟩; have C6 := Lib.hid ((CI.out.alloc _).trans k5); clear k5))
                  go_roundw
                  case rel => exact ⟨u + 1, by omega, by go_num, C6.out, HH.out⟩
                  case measure => simp [intOf]; omega
                · have e := Lib.hid (ZC2.out _ (codesZ_at p.fu 0 k f E u HK.out (by rw [fstBad_at (f := insZ p f) f.co 0 u x HKX.out (by rw [← HE.out]; exact hz) AI.out, Nat.zero_add, ← HE.out]) A.out))
                  have e : Hid (z = ⟨E, (k : Int), (u : Int)⟩) := Lib.hid (by rw [e.out, Nat.zero_add])
                  have d1 : (E == 0) = false := by simpa using hz
                  have d2 : (E != 0) = true := by simpa using hz
                  clear hz
                  go_wp2_with (go_at_call 43; ((with_reducible refine (CT.out _).mono ?_); rintro e w2 ⟨rfl, k5⟩; have C6 := Lib.hid (W3C.out.trans ((CI.out.alloc _).trans k5)); clear k5 b0 b1 b2 y0 y1 y2 z0 z1 z2; obtain ⟨⟨b0, b1, b2⟩, ⟨y0, y1, y2⟩, z0, z1, z2, -⟩ := KB.out _ C6.out))
                  refine bodyPost_ret (v := .agg #[.int .i64 E, .int .i64 (k : Int), .int .i64 (u : Int)]) (by simp [results, Try.results24, go_sem, y0, y1, y2, z0, z1, z2]) rfl ?_
                  exact ⟨by rw [e.out], (C1.out.trans C6.out).over (puts_cha (W.heap.size + 1) [.int .i64 E, .int .i64 (k : Int), .int .i64 (u : Int)] _ 0) (fun i e => by have e : i = W.heap.size + 1 := e; exact .inr (by omega))⟩
              · obtain rfl : m3 = u := by omega
                have NB : Hid (fstBad (insZ p f) f.co 0 = none) := Lib.hid (fstBad_none f.co 0 fun y hy => by
                  obtain ⟨j, hj⟩ := List.getElem?_of_mem hy
                  exact AI.out j (by have := (List.getElem?_eq_some_iff.1 hj).1; have := HM3.out; omega) y hj)
                have HH : Hid (∀ j, j < k + 1 → ∀ g, p.fu[j]? = some g → fstBad (insZ p g) g.co 0 = none) := Lib.hid fun j hj g hg => by
                  by_cases c : j = k
                  · rw [c, HK.out] at hg
                    cases hg
                    exact NB.out
                  · exact A.out j (by omega) g hg
                have C7 := Lib.hid (W3C.out.trans CI.out)
                go_wp2
                go_roundw
                case rel => exact ⟨k + 1, by omega, by go_num, C7.out, HH.out⟩
                case measure => simp [intOf]; omega
          · obtain rfl : n2 = k := by omega
            have e := Lib.hid (ZO2.out (codesZ_none p.fu 0 fun g hg => by
              obtain ⟨j, hj⟩ := List.getElem?_of_mem hg
              exact A.out j (by have := (List.getElem?_eq_some_iff.1 hj).1; have := E2.out; omega) g hj))
            go_wp2
            refine bodyPost_ret (v := .agg #[.int .i64 0, .int .i64 0, .int .i64 0]) (by simp [results, Try.results24, go_sem, y0, y1, y2, z0, z1, z2]) rfl ?_
            exact ⟨by rw [e.out], (C1.out.trans C.out).over (puts_cha (W.heap.size + 1) [.int .i64 0, .int .i64 0, .int .i64 0] _ 0) (fun i e => by have e : i = W.heap.size + 1 := e; exact .inr (by omega))⟩
  · have e := Lib.hid (ZP.out hpe)
    have d1 : (PE == 0) = false := by simpa using hpe
    have d2 : (PE != 0) = true := by simpa using hpe
    clear ZP ZH ZC ZO hpe
    go_enter Try.func24, Try.ntmps24
    go_wp2_with (go_at_call 41; ((with_reducible refine (CP1.out).mono ?_); rintro e w1 ⟨rfl, k1⟩; have K1 := Lib.hid (C00.out.trans k1); clear k1; obtain ⟨⟨b0, b1, b2⟩, ⟨y0, y1, y2⟩, z0, z1, z2, rr⟩ := KB.out _ K1.out; have RR := Lib.hid rr; clear rr; have s1 := block_lt_of_cell y0; have s0 := block_lt_of_cell b0))
    obtain ⟨⟨g0, g1, g2⟩, CR⟩ := res_put3 RR.out (.int .i64 PE) (.int .i64 PF) (.int .i64 PA) (.cells #[.int .i64 PE, .int .i64 PF, .int .i64 PA] 37)
    refine bodyPost_ret (v := .agg #[.int .i64 PE, .int .i64 PF, .int .i64 PA]) (by simp [results, Try.results24, go_sem, g0, g1, g2]) rfl ?_
    exact ⟨by rw [e.out], (C1.out.trans K1.out).over CR (fun i e => by have e : i = W.heap.size + 1 := e; exact .inr (by omega))⟩
end
end Go.Proofs.Ytpdjbhnpahkbpaa
