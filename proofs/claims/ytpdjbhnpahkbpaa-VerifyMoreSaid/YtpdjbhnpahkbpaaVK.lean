/- Check: objects, their fields, arrays' elements. -/
import Derived.Test.YtpdjbhnpahkbpaaVH
namespace Go.Proofs.Ytpdjbhnpahkbpaa
set_option linter.unusedVariables false
open Go.ChangeShapes Go.WideShapes Go.ChangeAt Go.RowKit
section
variable {W w w' : World} {x : SV} {p : PZ} {f : FZ} {i : IZ}
theorem res_keep {o : Obj} {cs : Array Value} {t : TypeId} (h : Cha (fun _ => False) ((W.alloc o).alloc (.cells cs t)) w) : (∀ k, w.cell? ⟨W.heap.size + 1, k, none⟩ = cs[k]?) ∧ ∀ k, w.frozen? ⟨W.heap.size + 1, k, none⟩ = false ∧ w.heap[W.heap.size + 1]? = some (.cells cs t (0, 0)) := by
  have e : (W.alloc o).heap.size = W.heap.size + 1 := World.size_alloc ..
  have q := (h.old (W.alloc o).heap.size (Array.getElem?_eq_some_iff.1 (heap_alloc_new (W.alloc o) (.cells cs t))).1 (fun f => f)).trans (heap_alloc_new _ _)
  rw [e] at q
  exact ⟨fun k => cell_of_row w _ k cs t (0, 0) q, fun k => ⟨frozen_of_row w _ k cs t q, q⟩⟩
theorem res_put {g : Nat} {c0 c1 : Value} {t : TypeId} (h : w.heap[g]? = some (.cells #[c0, c1] t (0, 0))) (v0 v1 : Value) (ob : Obj) :
    (((w.setCell ⟨g, 0, none⟩ v0).setCell ⟨g, 1, none⟩ v1).alloc ob).cell? ⟨g, 0, none⟩ = some v0 ∧ (((w.setCell ⟨g, 0, none⟩ v0).setCell ⟨g, 1, none⟩ v1).alloc ob).cell? ⟨g, 1, none⟩ = some v1 ∧ Cha (fun i => i = g) w (((w.setCell ⟨g, 0, none⟩ v0).setCell ⟨g, 1, none⟩ v1).alloc ob) := by
  have h1 := heap_setCell_same w g 0 _ t v0 h
  have h2 := heap_setCell_same _ g 1 _ t v1 h1
  have h3 := (heap_alloc_old _ ob (Array.getElem?_eq_some_iff.1 h2).1).trans h2
  exact ⟨cell_of_row _ g 0 _ t (0, 0) h3, cell_of_row _ g 1 _ t (0, 0) h3, (((Cha.refl (fun i => i = g) w).setCell (p := ⟨g, 0, none⟩) (fun _ => rfl) v0).setCell (p := ⟨g, 1, none⟩) (fun _ => rfl) v1).alloc ob⟩
/-- What a call leaves that answers a type and an error. -/
def SaysO (W : World) (ty : List TZ) (sl : List Int) (s : Int) (arr : Bool) : Ending → World → Prop := fun r w' =>
  ∃ q a n c, r = .returned (.tuple #[.agg #[.bool q, .slice a n c], .int .i64 (objE ty sl s arr)]) ∧ Cha (fun _ => False) W w' ∧ (objE ty sl s arr = 0 → n = (typZ ty (kdK sl s)).fi.length ∧ RdS 1 RdI (· < w'.heap.size) w' (.slice a n c) (typZ ty (kdK sl s)).fi)
/-- Each pointer's type is there. -/
def Typed (p : PZ) (f : FZ) : Prop := ∀ k ∈ f.sl, 16 ≤ k → k < 64 → k - 16 < p.ty.length
theorem kdK_mem {sl : List Int} {s : Int} (h : kdE sl s = 0) : kdK sl s ∈ sl := by
  rcases kd_cases sl s with ⟨k, z, rfl, hz, hlt⟩ | ho
  · rw [kdK_in hz]; exact List.mem_of_getElem? hz
  · rw [kdE_out ho] at h; cases h
set_option maxRecDepth 100000 in
set_option maxHeartbeats 1000000 in
theorem object_any (h : Sit W x p f i) (hk : Typed p f) (s : Int) (arr : Bool) : Calls Try.prog 91 #[x.v f i, .int .i64 s, .bool arr] W (SaysO W p.ty f.sl s arr) := by
  have CK : Hid (∀ w, Cha (fun _ => False) W w → Calls Try.prog 114 #[x.v f i, .int .i64 s] w (SaysK w (kdK f.sl s) (kdE f.sl s))) := Lib.hid fun w c => kindof_any (h.cha c) s
  have HT := Lib.hid h.ty
  have HI := h.kinds s
  have hn := h.eT
  have hM := fun e : kdE f.sl s = 0 => hk _ (kdK_mem e)
  obtain ⟨R, hR⟩ : ∃ R, R = objE p.ty f.sl s arr := ⟨_, rfl⟩
  obtain ⟨K, hK⟩ : ∃ K, K = kdK f.sl s := ⟨_, rfl⟩
  obtain ⟨E, hE⟩ : ∃ E, E = kdE f.sl s := ⟨_, rfl⟩
  have E1 : Hid (E ≠ 0 → R = E) := Lib.hid fun e => by
    rw [hR]; unfold objE; rw [if_neg (by rw [← hE]; exact e), hE, kdE_11 (by rw [← hE]; exact e)]
  have E2 : Hid (E = 0 → ¬ (16 ≤ K ∧ K < 64) → R = 10) := Lib.hid fun e c => by
    rw [hR]; unfold objE; rw [if_pos (by rw [← hE]; exact e), if_neg (by rw [← hK]; exact c)]
  have E3 : Hid (E = 0 → (16 ≤ K ∧ K < 64) → (typZ p.ty K).ar ≠ arr → R = 14) := Lib.hid fun e c d => by
    rw [hR]; unfold objE; rw [if_pos (by rw [← hE]; exact e), if_pos (by rw [← hK]; exact c), if_neg (by rw [← hK]; exact d)]
  have E4 : Hid (E = 0 → (16 ≤ K ∧ K < 64) → (typZ p.ty K).ar = arr → R = 0) := Lib.hid fun e c d => by
    rw [hR]; unfold objE; rw [if_pos (by rw [← hE]; exact e), if_pos (by rw [← hK]; exact c), if_pos (by rw [← hK]; exact d)]
  have TY : Hid (16 ≤ K → K - 16 < (p.ty.length : Int) → ∃ (k : Nat) (t : TZ), K - 16 = (k : Int) ∧ p.ty[k]? = some t ∧ typZ p.ty K = t) := Lib.hid fun c d => by
    have hlt : (K - 16).toNat < p.ty.length := by omega
    refine ⟨(K - 16).toNat, p.ty[(K - 16).toNat], by omega, List.getElem?_eq_getElem hlt, ?_⟩
    unfold typZ
    rw [List.getElem?_eq_getElem hlt]; rfl
  unfold SaysO
  rw [← hR]
  rw [← hK] at CK HI hM ⊢
  rw [← hE] at CK hM
  have HN := Lib.hid hn
  clear h hk hR hK hE hn
  obtain ⟨aT, nT, cT, aG, nG, cG, aF, nF, cF, aS, nS, cS, aR, nR, cR, aC, nC, cC, aL, nL, cL⟩ := x
  obtain ⟨pa, sl, re, co⟩ := f
  obtain ⟨op, a, b, c, im, li⟩ := i
  dsimp only [SV.v] at *
  have KR : Hid (∀ w, Cha (fun _ => False) ((W.alloc (.cells #[.slice aT nT cT, .slice aG nG cG, .slice aF nF cF, .int .i64 pa, .slice aS nS cS, .slice aR nR cR, .slice aC nC cC, .int .i64 op, .int .i64 a, .int .i64 b, .int .i64 c, .int .u64 (im : Int), .slice aL nL cL] 92)).alloc (.cells #[.bool false, .slice none 0 0] 69)) w → w.cell? ⟨W.heap.size + 1, 0, none⟩ = some (.bool false) ∧ w.cell? ⟨W.heap.size + 1, 1, none⟩ = some (.slice none 0 0) ∧ w.frozen? ⟨W.heap.size + 1, 0, none⟩ = false ∧ w.frozen? ⟨W.heap.size + 1, 1, none⟩ = false) := Lib.hid fun w h => ⟨(res_keep h).1 0, (res_keep h).1 1, ((res_keep h).2 0).1, ((res_keep h).2 1).1⟩
  have CI : Hid (∀ w, Calls Try.prog 27 #[.int .i64 K] w fun e w' => e = .returned (.bool (decide (16 ≤ K))) ∧ w' = w) := Lib.hid fun w => isref_any K
  have CC : Hid (∀ w, Calls Try.prog 81 #[.int .i64 K] w fun e w' => e = .returned (.bool (decide (64 ≤ K))) ∧ w' = w) := Lib.hid fun w => ischan_any K
  by_cases h0 : E = 0
  · by_cases h1 : 16 ≤ K
    · have d1 : decide (16 ≤ K) = true := decide_eq_true h1
      rw [d1] at CI
      by_cases h2 : 64 ≤ K
      · have e := Lib.hid (E2.out h0 (by omega))
        have d2 : decide (64 ≤ K) = true := decide_eq_true h2
        rw [d2] at CC
        subst h0
        clear E1 E2 E3 E4 TY hM h1 h2 d1 d2
        go_enter Try.func91, Try.ntmps91
        go_wp2_with (first
          | (go_at_call 114; ((with_reducible refine (CK.out _ (((Cha.refl _ W).alloc _).alloc _)).mono ?_); rintro e w1 ⟨rfl, k1⟩; have C1 := Lib.hid (Cha.trans (((Cha.refl (fun _ => False) W).alloc _).alloc _) k1); obtain ⟨b0, b1, b2, b3, b4, b5, b6, b7, b8, b9, b10, b11, b12⟩ := site_keep (Cha.trans ((Cha.refl _ _).alloc _) k1); obtain ⟨y0, y1, z0, z1⟩ := KR.out _ k1; have s1 := block_lt_of_cell y0; clear k1))
          | (go_at_call 27; ((with_reducible refine (CI.out _).mono ?_); rintro e w4 ⟨rfl, rfl⟩))
          | (go_at_call 81; ((with_reducible refine (CC.out _).mono ?_); rintro e w4 ⟨rfl, rfl⟩)))
        refine bodyPost_ret (v := .tuple #[.agg #[.bool false, .slice none 0 0], .int .i64 10]) (by simp [results, Try.results91, go_sem, y0, y1, z0, z1]) rfl ?_
        exact ⟨_, _, _, _, by rw [e.out], C1.out.over (puts_cha (W.heap.size + 1) [.bool false, .slice none 0 0] _ 0) (fun i e => by have e : i = W.heap.size + 1 := e; exact .inr (by omega)), fun e2 => by rw [e.out] at e2; cases e2⟩
      · have d2 : decide (64 ≤ K) = false := decide_eq_false h2
        rw [d2] at CC
        obtain ⟨k, t, hk1, hk2, hk3⟩ := TY.out h1 (hM h0 h1 (by omega))
        have hw : IntKind.i64.wrap (K - 16) = (k : Int) := by rw [IntKind.wrap_i64, ← hk1]; omega
        have hlt : k < nT := by have := (List.getElem?_eq_some_iff.1 hk2).1; have := HN.out; omega
        rw [hk3] at E3 E4 ⊢
        obtain ⟨bt, ot, _, he, hb0, hbs, hx⟩ := HT.out.at hk2
        obtain rfl : aT = some ⟨bt, ot, none⟩ := by injection he
        have HX : Hid (∀ w, Cha (fun _ => False) W w → RdTy (· < W.heap.size) w bt (ot + k * 2) t) := Lib.hid fun w c => hx.cha hb0 c (fun _ f => f.elim) (fun _ h => h)
        have hx0 := hx.c0
        obtain ⟨lv, q1, r1⟩ := hx.c1
        have R1 := Lib.hid r1
        have hlen := r1.len
        obtain ⟨la, lc, rfl, _⟩ := r1
        have HQ : Hid (∀ w, Cha (fun _ => False) W w → w.cell? ⟨bt, ot + k * 2, none⟩ = some (.bool t.ar) ∧ w.cell? ⟨bt, ot + k * 2 + 1, none⟩ = some (.slice la t.fi.length lc)) := Lib.hid fun w c => ⟨cell_cha (B := fun _ => True) c (fun _ f => f.elim) trivial hx0, cell_cha (B := fun _ => True) c (fun _ f => f.elim) trivial q1⟩
        by_cases h3 : t.ar = arr
        · have e := Lib.hid (E4.out h0 ⟨h1, by omega⟩ h3)
          subst h0
          obtain ⟨ar, fi⟩ := t
          dsimp only at *
          subst h3
          have d3 : (ar != ar) = false := by cases ar <;> rfl
          have d4 : (ar == ar) = true := by cases ar <;> rfl
          clear E1 E2 E3 E4 TY hM h1 h2 d1 d2 HX hx he hx0 q1 hk1 hk2 hk3
          go_enter Try.func91, Try.ntmps91
          go_wp2_with (first
            | (go_at_call 114; ((with_reducible refine (CK.out _ (((Cha.refl _ W).alloc _).alloc _)).mono ?_); rintro e w1 ⟨rfl, k1⟩; have C1 := Lib.hid (Cha.trans (((Cha.refl (fun _ => False) W).alloc _).alloc _) k1); obtain ⟨b0, b1, b2, b3, b4, b5, b6, b7, b8, b9, b10, b11, b12⟩ := site_keep (Cha.trans ((Cha.refl _ _).alloc _) k1); obtain ⟨y0, y1, z0, z1⟩ := KR.out _ k1; have s1 := block_lt_of_cell y0; obtain ⟨yy0, yy1, zz0, zz1⟩ := KR.out _ (k1.alloc (.cells #[.bool ar, .slice la fi.length lc] 69)); have RP := Lib.hid (res_put ((res_keep k1).2 0).2 (.bool ar) (.slice la fi.length lc) (.cells #[.bool ar, .slice la fi.length lc] 69)); have RP0 := Lib.hid (res_put ((res_keep k1).2 0).2 (.bool false) (.slice none 0 0) (.cells #[.bool ar, .slice la fi.length lc] 69)); clear k1; obtain ⟨u0, u1⟩ := HQ.out _ C1.out))
            | (go_at_call 27; ((with_reducible refine (CI.out _).mono ?_); rintro e w4 ⟨rfl, rfl⟩))
            | (go_at_call 81; ((with_reducible refine (CC.out _).mono ?_); rintro e w4 ⟨rfl, rfl⟩)))
          obtain ⟨r0, r1, CR⟩ := RP.out
          refine bodyPost_ret (v := .tuple #[.agg #[.bool ar, .slice la fi.length lc], .int .i64 0]) (by simp [results, Try.results91, go_sem, r0, r1]) rfl ?_
          have CF := C1.out.over CR (fun i e => by have e : i = W.heap.size + 1 := e; exact .inr (by omega))
          exact ⟨_, _, _, _, by rw [e.out], CF, fun _ => ⟨rfl, R1.out.ints CF (fun _ f => f.elim) fun _ h => Nat.lt_of_lt_of_le h CF.size⟩⟩
        · have e := Lib.hid (E3.out h0 ⟨h1, by omega⟩ h3)
          subst h0
          obtain ⟨ar, fi⟩ := t
          dsimp only at *
          have d3 : (ar != arr) = true := by revert h3; cases ar <;> cases arr <;> decide
          have d4 : (ar == arr) = false := by revert h3; cases ar <;> cases arr <;> decide
          clear E1 E2 E3 E4 TY hM h1 h2 d1 d2 HX hx he hx0 q1 hk1 hk2 hk3 h3
          go_enter Try.func91, Try.ntmps91
          go_wp2_with (first
            | (go_at_call 114; ((with_reducible refine (CK.out _ (((Cha.refl _ W).alloc _).alloc _)).mono ?_); rintro e w1 ⟨rfl, k1⟩; have C1 := Lib.hid (Cha.trans (((Cha.refl (fun _ => False) W).alloc _).alloc _) k1); obtain ⟨b0, b1, b2, b3, b4, b5, b6, b7, b8, b9, b10, b11, b12⟩ := site_keep (Cha.trans ((Cha.refl _ _).alloc _) k1); obtain ⟨y0, y1, z0, z1⟩ := KR.out _ k1; have s1 := block_lt_of_cell y0; obtain ⟨yy0, yy1, zz0, zz1⟩ := KR.out _ (k1.alloc (.cells #[.bool ar, .slice la fi.length lc] 69)); have RP := Lib.hid (res_put ((res_keep k1).2 0).2 (.bool ar) (.slice la fi.length lc) (.cells #[.bool ar, .slice la fi.length lc] 69)); have RP0 := Lib.hid (res_put ((res_keep k1).2 0).2 (.bool false) (.slice none 0 0) (.cells #[.bool ar, .slice la fi.length lc] 69)); clear k1; obtain ⟨u0, u1⟩ := HQ.out _ C1.out))
            | (go_at_call 27; ((with_reducible refine (CI.out _).mono ?_); rintro e w4 ⟨rfl, rfl⟩))
            | (go_at_call 81; ((with_reducible refine (CC.out _).mono ?_); rintro e w4 ⟨rfl, rfl⟩)))
          obtain ⟨r0, r1, CR⟩ := RP0.out
          refine bodyPost_ret (v := .tuple #[.agg #[.bool false, .slice none 0 0], .int .i64 14]) (by simp [results, Try.results91, go_sem, r0, r1]) rfl ?_
          exact ⟨_, _, _, _, by rw [e.out], C1.out.over CR (fun i e => by have e : i = W.heap.size + 1 := e; exact .inr (by omega)), fun e2 => by rw [e.out] at e2; cases e2⟩
    · have d1 : decide (16 ≤ K) = false := decide_eq_false h1
      rw [d1] at CI
      have e := Lib.hid (E2.out h0 (by omega))
      subst h0
      clear E1 E2 E3 E4 TY hM h1 d1
      go_enter Try.func91, Try.ntmps91
      go_wp2_with (first
        | (go_at_call 114; ((with_reducible refine (CK.out _ (((Cha.refl _ W).alloc _).alloc _)).mono ?_); rintro e w1 ⟨rfl, k1⟩; have C1 := Lib.hid (Cha.trans (((Cha.refl (fun _ => False) W).alloc _).alloc _) k1); obtain ⟨b0, b1, b2, b3, b4, b5, b6, b7, b8, b9, b10, b11, b12⟩ := site_keep (Cha.trans ((Cha.refl _ _).alloc _) k1); obtain ⟨y0, y1, z0, z1⟩ := KR.out _ k1; have s1 := block_lt_of_cell y0; clear k1))
        | (go_at_call 27; ((with_reducible refine (CI.out _).mono ?_); rintro e w4 ⟨rfl, rfl⟩)))
      refine bodyPost_ret (v := .tuple #[.agg #[.bool false, .slice none 0 0], .int .i64 10]) (by simp [results, Try.results91, go_sem, y0, y1, z0, z1]) rfl ?_
      exact ⟨_, _, _, _, by rw [e.out], C1.out.over (puts_cha (W.heap.size + 1) [.bool false, .slice none 0 0] _ 0) (fun i e => by have e : i = W.heap.size + 1 := e; exact .inr (by omega)), fun e2 => by rw [e.out] at e2; cases e2⟩
  · have e := Lib.hid (E1.out h0)
    have h0' : (E == 0) = false := by simpa using h0
    have h0'' : (E != 0) = true := by simpa using h0
    have HE := Lib.hid h0
    clear E1 E2 E3 E4 TY hM h0
    go_enter Try.func91, Try.ntmps91
    go_wp2_with (first
      | (go_at_call 114; ((with_reducible refine (CK.out _ (((Cha.refl _ W).alloc _).alloc _)).mono ?_); rintro e w1 ⟨rfl, k1⟩; have C1 := Lib.hid (Cha.trans (((Cha.refl (fun _ => False) W).alloc _).alloc _) k1); obtain ⟨b0, b1, b2, b3, b4, b5, b6, b7, b8, b9, b10, b11, b12⟩ := site_keep (Cha.trans ((Cha.refl _ _).alloc _) k1); obtain ⟨y0, y1, z0, z1⟩ := KR.out _ k1; have s1 := block_lt_of_cell y0; clear k1)))
    refine bodyPost_ret (v := .tuple #[.agg #[.bool false, .slice none 0 0], .int .i64 E]) (by simp [results, Try.results91, go_sem, y0, y1, z0, z1]) rfl ?_
    exact ⟨_, _, _, _, by rw [e.out], C1.out.over (puts_cha (W.heap.size + 1) [.bool false, .slice none 0 0] _ 0) (fun i e => by have e : i = W.heap.size + 1 := e; exact .inr (by omega)), fun e2 => by rw [e.out] at e2; exact absurd e2 HE.out⟩
end
end Go.Proofs.Ytpdjbhnpahkbpaa

namespace Go.Proofs.Ytpdjbhnpahkbpaa
set_option linter.unusedVariables false
open Go.ChangeShapes Go.WideShapes Go.ChangeAt Go.RowKit
section
variable {W w w' : World} {x : SV} {p : PZ} {f : FZ} {i : IZ}
theorem slots_drew1 {w0 : World} (h : Sit W x p f i) (c : Cha (fun _ => False) W w0) (y k : Int) : Calls Try.prog 89 #[x.v f i, .slice (some ⟨w0.heap.size, 0, none⟩) 1 1] (w0.alloc (.cells #[.int .i64 y, .int .i64 k] 137)).drew (Says w0 (.int .i64 (wantsZ f.sl [(y, k)]))) :=
  (slots_any (h.cha ((c.alloc _).drew)) ((want1 w0 y k 137).wants ((Cha.refl (fun _ => False) _).drew) (fun _ f => f.elim) (fun _ h => h)) rfl).mono fun _ _ ⟨a, c⟩ => ⟨a, (((Cha.refl _ w0).alloc _).drew).trans c⟩
theorem slots_drew2 {w0 : World} (h : Sit W x p f i) (c : Cha (fun _ => False) W w0) (y k z l : Int) : Calls Try.prog 89 #[x.v f i, .slice (some ⟨w0.heap.size, 0, none⟩) 2 2] (w0.alloc (.cells #[.int .i64 y, .int .i64 k, .int .i64 z, .int .i64 l] 137)).drew (Says w0 (.int .i64 (wantsZ f.sl [(y, k), (z, l)]))) :=
  (slots_any (h.cha ((c.alloc _).drew)) ((want2 w0 y k z l 137).wants ((Cha.refl (fun _ => False) _).drew) (fun _ f => f.elim) (fun _ h => h)) rfl).mono fun _ _ ⟨a, c⟩ => ⟨a, (((Cha.refl _ w0).alloc _).drew).trans c⟩
theorem field_any (h : Sit W x p f i) (hk : Typed p f) (y z : Int) : Calls Try.prog 92 #[x.v f i, .int .i64 y, .int .i64 z] W (Says W (.int .i64 (fieldZ p.ty f.sl i.c y z))) := by
  have CO : Hid (∀ w, Cha (fun _ => False) W w → Calls Try.prog 91 #[x.v f i, .int .i64 y, .bool false] w (SaysO w p.ty f.sl y false)) := Lib.hid fun w c => object_any (h.cha c) hk y false
  have CS : Hid (∀ w1 ob k, Cha (fun _ => False) W w1 → Calls Try.prog 89 #[x.v f i, .slice (some ⟨w1.heap.size + 1, 0, none⟩) 1 1] ((w1.alloc ob).alloc (.cells #[.int .i64 z, .int .i64 k] 137)).drew (Says (w1.alloc ob) (.int .i64 (wantsZ f.sl [(z, k)])))) := Lib.hid fun w1 ob k c => by
    rw [show w1.heap.size + 1 = (w1.alloc ob).heap.size from (World.size_alloc ..).symm]
    exact slots_drew1 h (c.alloc ob) z k
  obtain ⟨R, hR⟩ : ∃ R, R = fieldZ p.ty f.sl i.c y z := ⟨_, rfl⟩
  obtain ⟨E, hE⟩ : ∃ E, E = objE p.ty f.sl y false := ⟨_, rfl⟩
  obtain ⟨fi, hfi⟩ : ∃ l, l = (typZ p.ty (kdK f.sl y)).fi := ⟨_, rfl⟩
  have E1 : Hid (E ≠ 0 → R = E) := Lib.hid fun e => by rw [hR, hE]; exact if_neg (by rw [← hE]; exact e)
  have E2 : Hid (E = 0 → ¬ (0 ≤ i.c ∧ i.c < fi.length) → R = 14) := Lib.hid fun e d => by rw [hR]; unfold fieldZ; rw [if_pos (by rw [← hE]; exact e), if_neg (by rw [← hfi]; exact d)]
  have E3 : Hid (E = 0 → ∀ (k : Nat) v, i.c = (k : Int) → fi[k]? = some v → R = wantsZ f.sl [(z, v)]) := Lib.hid fun e k v hc hv => by
    have := (List.getElem?_eq_some_iff.1 hv).1
    rw [hR]; unfold fieldZ; rw [if_pos (by rw [← hE]; exact e), ← hfi, if_pos (by omega), hc, Int.toNat_natCast, hv]; rfl
  unfold SaysO at CO
  rw [← hR]
  rw [← hE, ← hfi] at CO
  clear h hk hR hE hfi
  obtain ⟨aT, nT, cT, aG, nG, cG, aF, nF, cF, aS, nS, cS, aR, nR, cR, aC, nC, cC, aL, nL, cL⟩ := x
  obtain ⟨pa, sl, re, co⟩ := f
  obtain ⟨op, a, b, c, im, li⟩ := i
  dsimp only [SV.v] at *
  by_cases h0 : E = 0
  · subst h0
    by_cases h1 : c < 0
    · have e := Lib.hid (E2.out rfl (by omega))
      clear E1 E2 E3
      go_enter Try.func92, Try.ntmps92
      go_wp2_with (go_at_call 91; ((with_reducible refine (CO.out _ cha_box).mono ?_); rintro e w1 ⟨q, ta, tn, tc, rfl, k1, k2⟩; have C1 := Lib.hid (Cha.trans cha_box k1); have KK := Lib.hid k1; obtain ⟨b0, b1, b2, b3, b4, b5, b6, b7, b8, b9, b10, b11, b12⟩ := site_keep k1; have s0 := block_lt_of_cell b0; obtain ⟨rfl, ee⟩ := k2 rfl; clear k1 k2))
      go_ret
      exact ⟨by first | (rw [e.out]; done) | (rw [e.out]; rfl), C1.out.alloc _⟩
    · obtain ⟨n, hn⟩ : ∃ n, n = fi.length := ⟨_, rfl⟩
      by_cases h2 : (n : Int) ≤ c
      · have e := Lib.hid (E2.out rfl (by omega))
        rw [← hn] at CO
        clear E1 E2 E3 hn
        go_enter Try.func92, Try.ntmps92
        go_wp2_with (go_at_call 91; ((with_reducible refine (CO.out _ cha_box).mono ?_); rintro e w1 ⟨q, ta, tn, tc, rfl, k1, k2⟩; have C1 := Lib.hid (Cha.trans cha_box k1); have KK := Lib.hid k1; obtain ⟨b0, b1, b2, b3, b4, b5, b6, b7, b8, b9, b10, b11, b12⟩ := site_keep k1; have s0 := block_lt_of_cell b0; obtain ⟨rfl, ee⟩ := k2 rfl; clear k1 k2))
        go_ret
        exact ⟨by first | (rw [e.out]; done) | (rw [e.out]; rfl), C1.out.alloc _⟩
      · obtain ⟨k, rfl⟩ : ∃ k : Nat, c = (k : Int) := ⟨c.toNat, by omega⟩
        have hlt : k < n := by omega
        obtain ⟨v, hv⟩ : ∃ v, fi[k]? = some v := ⟨_, List.getElem?_eq_getElem (by omega)⟩
        have e := Lib.hid (E3.out rfl k v rfl hv)
        rw [← hn] at CO
        have HV := Lib.hid hv
        have HN := Lib.hid hn
        clear E1 E2 E3 hn hv h1 h2
        go_enter Try.func92, Try.ntmps92
        go_wp2_with (go_at_call 91; ((with_reducible refine (CO.out _ cha_box).mono ?_); rintro e w1 ⟨q, ta, tn, tc, rfl, k1, k2⟩; have C1 := Lib.hid (Cha.trans cha_box k1); have KK := Lib.hid k1; obtain ⟨b0, b1, b2, b3, b4, b5, b6, b7, b8, b9, b10, b11, b12⟩ := site_keep k1; have s0 := block_lt_of_cell b0; obtain ⟨rfl, ee⟩ := k2 rfl; have hl := ee.len; rw [← HN.out] at hl; obtain ⟨bt, ot, _, he, hb0, hbs, hx⟩ := ee.at HV.out; obtain ⟨rfl, -, -⟩ : ta = some ⟨bt, ot, none⟩ ∧ True ∧ True := ⟨by injection he, trivial, trivial⟩; have q0 := hx.1; rw [Nat.mul_one] at q0; clear ee he hx; clear k1 k2))
        have hbs' : bt < w1.heap.size := hbs
        have hA := (Cha.refl (fun _ => False) w1).alloc (.cells #[.bool q, .slice (some ⟨bt, ot, none⟩) tn tc] 69)
        have p0 := cell_cha (B := fun _ => True) hA (fun _ f => f.elim) trivial q0
        have r0 := box_keep (Cha.refl (fun _ => False) (w1.alloc (.cells #[.bool q, .slice (some ⟨bt, ot, none⟩) tn tc] 69))) 0
        have r1 := box_keep (Cha.refl (fun _ => False) (w1.alloc (.cells #[.bool q, .slice (some ⟨bt, ot, none⟩) tn tc] 69))) 1
        obtain ⟨c0, c1, c2, c3, c4, c5, c6, c7, c8, c9, c10, c11, c12⟩ := site_keep (KK.out.trans hA)
        go_region_held3 (fun w' => w'.cell? ⟨bt, ot + k, none⟩ = some (.int .i64 v) ∧ w'.cell? ⟨w1.heap.size, 0, none⟩ = some (.bool q) ∧ w'.cell? ⟨w1.heap.size, 1, none⟩ = some (.slice (some ⟨bt, ot, none⟩) tn tc) ∧ w'.cell? ⟨W.heap.size, 0, none⟩ = some (.slice aT nT cT) ∧ w'.cell? ⟨W.heap.size, 1, none⟩ = some (.slice aG nG cG) ∧ w'.cell? ⟨W.heap.size, 2, none⟩ = some (.slice aF nF cF) ∧ w'.cell? ⟨W.heap.size, 3, none⟩ = some (.int .i64 pa) ∧ w'.cell? ⟨W.heap.size, 4, none⟩ = some (.slice aS nS cS) ∧ w'.cell? ⟨W.heap.size, 5, none⟩ = some (.slice aR nR cR) ∧ w'.cell? ⟨W.heap.size, 6, none⟩ = some (.slice aC nC cC) ∧ w'.cell? ⟨W.heap.size, 7, none⟩ = some (.int .i64 op) ∧ w'.cell? ⟨W.heap.size, 8, none⟩ = some (.int .i64 a) ∧ w'.cell? ⟨W.heap.size, 9, none⟩ = some (.int .i64 b) ∧ w'.cell? ⟨W.heap.size, 10, none⟩ = some (.int .i64 (k : Int)) ∧ w'.cell? ⟨W.heap.size, 11, none⟩ = some (.int .u64 (im : Int)) ∧ w'.cell? ⟨W.heap.size, 12, none⟩ = some (.slice aL nL cL))
          (first
            | exact ⟨p0, r0, r1, c0, c1, c2, c3, c4, c5, c6, c7, c8, c9, c10, c11, c12⟩
            | exact ⟨p1, r2, r3, d0, d1, d2, d3, d4, d5, d6, d7, d8, d9, d10, d11, d12⟩
            | go_keep)
          (first | (go_at_call 89; (with_reducible refine (CS.out _ _ _ C1.out).mono ?_); rintro e w2 ⟨rfl, hC⟩; have C2 := Lib.hid (Cha.trans (C1.out.alloc _) hC); have hD := Cha.trans ((Cha.refl (fun _ => False) w1).alloc _) hC; have p1 := cell_cha (B := fun _ => True) hD (fun _ f => f.elim) trivial q0; have r2 := box_keep hC 0; have r3 := box_keep hC 1; obtain ⟨d0, d1, d2, d3, d4, d5, d6, d7, d8, d9, d10, d11, d12⟩ := site_keep (KK.out.trans hD); clear hC hD))
        all_goals
          go_wp2
          go_ret
          exact ⟨by first | (rw [e.out]; done) | (rw [e.out]; rfl), C2.out⟩
  · have e := Lib.hid (E1.out h0)
    have d1 : (E == 0) = false := by simpa using h0
    have d2 : (E != 0) = true := by simpa using h0
    clear E1 E2 E3 h0
    go_enter Try.func92, Try.ntmps92
    go_wp2_with (go_at_call 91; ((with_reducible refine (CO.out _ cha_box).mono ?_); rintro e w1 ⟨q, ta, tn, tc, rfl, k1, k2⟩; have C1 := Lib.hid (Cha.trans cha_box k1); have KK := Lib.hid k1; obtain ⟨b0, b1, b2, b3, b4, b5, b6, b7, b8, b9, b10, b11, b12⟩ := site_keep k1; have s0 := block_lt_of_cell b0; clear k1 k2))
    go_ret
    exact ⟨by first | (rw [e.out]; done) | (rw [e.out]; rfl), C1.out.alloc _⟩
end
end Go.Proofs.Ytpdjbhnpahkbpaa

namespace Go.Proofs.Ytpdjbhnpahkbpaa
set_option linter.unusedVariables false
open Go.ChangeShapes Go.WideShapes Go.ChangeAt Go.RowKit
section
variable {W w w' : World} {x : SV} {p : PZ} {f : FZ} {i : IZ}
theorem objE_mem {s : Int} {arr : Bool} (h : objE p.ty f.sl s arr = 0) (hk : Typed p f) : typZ p.ty (kdK f.sl s) ∈ p.ty ∧ (typZ p.ty (kdK f.sl s)).ar = arr := by
  unfold objE at h
  by_cases h0 : kdE f.sl s = 0
  · rw [if_pos h0] at h
    by_cases h1 : 16 ≤ kdK f.sl s ∧ kdK f.sl s < 64
    · rw [if_pos h1] at h
      by_cases h2 : (typZ p.ty (kdK f.sl s)).ar = arr
      · refine ⟨?_, h2⟩
        have := hk _ (kdK_mem h0) h1.1 h1.2
        unfold typZ
        rw [List.getElem?_eq_getElem (by omega)]
        exact List.getElem_mem _
      · rw [if_neg h2] at h; cases h
    · rw [if_neg h1] at h; cases h
  · rw [if_neg h0] at h; cases h
theorem element_any (h : Sit W x p f i) (hk : Typed p f) (hf : ∀ t ∈ p.ty, 0 < t.fi.length) (y z : Int) : Calls Try.prog 93 #[x.v f i, .int .i64 y, .int .i64 z] W (Says W (.int .i64 (elementZ p.ty f.sl i.c y z))) := by
  have CO : Hid (∀ w, Cha (fun _ => False) W w → Calls Try.prog 91 #[x.v f i, .int .i64 y, .bool true] w (SaysO w p.ty f.sl y true)) := Lib.hid fun w c => object_any (h.cha c) hk y true
  have CS : Hid (∀ w1 ob k, Cha (fun _ => False) W w1 → Calls Try.prog 89 #[x.v f i, .slice (some ⟨w1.heap.size + 1, 0, none⟩) 2 2] ((w1.alloc ob).alloc (.cells #[.int .i64 z, .int .i64 k, .int .i64 i.c, .int .i64 0] 137)).drew (Says (w1.alloc ob) (.int .i64 (wantsZ f.sl [(z, k), (i.c, 0)])))) := Lib.hid fun w1 ob k c => by
    rw [show w1.heap.size + 1 = (w1.alloc ob).heap.size from (World.size_alloc ..).symm]
    exact slots_drew2 h (c.alloc ob) z k i.c 0
  have HF : Hid (objE p.ty f.sl y true = 0 → 0 < (typZ p.ty (kdK f.sl y)).fi.length) := Lib.hid fun e => hf _ (objE_mem e hk).1
  obtain ⟨R, hR⟩ : ∃ R, R = elementZ p.ty f.sl i.c y z := ⟨_, rfl⟩
  obtain ⟨E, hE⟩ : ∃ E, E = objE p.ty f.sl y true := ⟨_, rfl⟩
  obtain ⟨fi, hfi⟩ : ∃ l, l = (typZ p.ty (kdK f.sl y)).fi := ⟨_, rfl⟩
  have E1 : Hid (E ≠ 0 → R = E) := Lib.hid fun e => by rw [hR, hE]; exact if_neg (by rw [← hE]; exact e)
  have E2 : Hid True := Lib.hid trivial
  have E3 : Hid (E = 0 → ∀ v, fi[0]? = some v → R = wantsZ f.sl [(z, v), (i.c, 0)]) := Lib.hid fun e v hv => by
    rw [hR]; unfold elementZ; rw [if_pos (by rw [← hE]; exact e), ← hfi, hv]; rfl
  unfold SaysO at CO
  rw [← hR]
  rw [← hE, ← hfi] at CO HF
  clear h hk hR hE hfi
  obtain ⟨aT, nT, cT, aG, nG, cG, aF, nF, cF, aS, nS, cS, aR, nR, cR, aC, nC, cC, aL, nL, cL⟩ := x
  obtain ⟨pa, sl, re, co⟩ := f
  obtain ⟨op, a, b, c, im, li⟩ := i
  dsimp only [SV.v] at *
  by_cases h0 : E = 0
  · subst h0
    obtain ⟨n, hn⟩ : ∃ n, n = fi.length := ⟨_, rfl⟩
    have hp := HF.out rfl
    obtain ⟨v, hv⟩ : ∃ v, fi[0]? = some v := ⟨_, List.getElem?_eq_getElem hp⟩
    have e := Lib.hid (E3.out rfl v hv)
    rw [← hn] at CO hp
    have HV := Lib.hid hv
    have HN := Lib.hid hn
    clear E1 E2 E3 hn hv HF hf
    go_enter Try.func93, Try.ntmps93
    go_wp2_with (go_at_call 91; ((with_reducible refine (CO.out _ cha_box).mono ?_); rintro e w1 ⟨q, ta, tn, tc, rfl, k1, k2⟩; have C1 := Lib.hid (Cha.trans cha_box k1); have KK := Lib.hid k1; obtain ⟨b0, b1, b2, b3, b4, b5, b6, b7, b8, b9, b10, b11, b12⟩ := site_keep k1; have s0 := block_lt_of_cell b0; obtain ⟨rfl, ee⟩ := k2 rfl; have hl := ee.len; rw [← HN.out] at hl; obtain ⟨bt, ot, _, he, hb0, hbs, hx⟩ := ee.at HV.out; obtain ⟨rfl, -, -⟩ : ta = some ⟨bt, ot, none⟩ ∧ True ∧ True := ⟨by injection he, trivial, trivial⟩; have q0 := hx.1; rw [Nat.zero_mul, Nat.add_zero] at q0; clear ee he hx; clear k1 k2))
    have hbs' : bt < w1.heap.size := hbs
    have hA := (Cha.refl (fun _ => False) w1).alloc (.cells #[.bool q, .slice (some ⟨bt, ot, none⟩) tn tc] 69)
    have p0 := cell_cha (B := fun _ => True) hA (fun _ f => f.elim) trivial q0
    have r0 := box_keep (Cha.refl (fun _ => False) (w1.alloc (.cells #[.bool q, .slice (some ⟨bt, ot, none⟩) tn tc] 69))) 0
    have r1 := box_keep (Cha.refl (fun _ => False) (w1.alloc (.cells #[.bool q, .slice (some ⟨bt, ot, none⟩) tn tc] 69))) 1
    obtain ⟨c0, c1, c2, c3, c4, c5, c6, c7, c8, c9, c10, c11, c12⟩ := site_keep (KK.out.trans hA)
    go_region_held3 (fun w' => w'.cell? ⟨bt, ot, none⟩ = some (.int .i64 v) ∧ w'.cell? ⟨w1.heap.size, 0, none⟩ = some (.bool q) ∧ w'.cell? ⟨w1.heap.size, 1, none⟩ = some (.slice (some ⟨bt, ot, none⟩) tn tc) ∧ w'.cell? ⟨W.heap.size, 0, none⟩ = some (.slice aT nT cT) ∧ w'.cell? ⟨W.heap.size, 1, none⟩ = some (.slice aG nG cG) ∧ w'.cell? ⟨W.heap.size, 2, none⟩ = some (.slice aF nF cF) ∧ w'.cell? ⟨W.heap.size, 3, none⟩ = some (.int .i64 pa) ∧ w'.cell? ⟨W.heap.size, 4, none⟩ = some (.slice aS nS cS) ∧ w'.cell? ⟨W.heap.size, 5, none⟩ = some (.slice aR nR cR) ∧ w'.cell? ⟨W.heap.size, 6, none⟩ = some (.slice aC nC cC) ∧ w'.cell? ⟨W.heap.size, 7, none⟩ = some (.int .i64 op) ∧ w'.cell? ⟨W.heap.size, 8, none⟩ = some (.int .i64 a) ∧ w'.cell? ⟨W.heap.size, 9, none⟩ = some (.int .i64 b) ∧ w'.cell? ⟨W.heap.size, 10, none⟩ = some (.int .i64 c) ∧ w'.cell? ⟨W.heap.size, 11, none⟩ = some (.int .u64 (im : Int)) ∧ w'.cell? ⟨W.heap.size, 12, none⟩ = some (.slice aL nL cL))
      (first
        | exact ⟨p0, r0, r1, c0, c1, c2, c3, c4, c5, c6, c7, c8, c9, c10, c11, c12⟩
        | exact ⟨p1, r2, r3, d0, d1, d2, d3, d4, d5, d6, d7, d8, d9, d10, d11, d12⟩
        | go_keep)
      (first | (go_at_call 89; (with_reducible refine (CS.out _ _ _ C1.out).mono ?_); rintro e w2 ⟨rfl, hC⟩; have C2 := Lib.hid (Cha.trans (C1.out.alloc _) hC); have hD := Cha.trans ((Cha.refl (fun _ => False) w1).alloc _) hC; have p1 := cell_cha (B := fun _ => True) hD (fun _ f => f.elim) trivial q0; have r2 := box_keep hC 0; have r3 := box_keep hC 1; obtain ⟨d0, d1, d2, d3, d4, d5, d6, d7, d8, d9, d10, d11, d12⟩ := site_keep (KK.out.trans hD); clear hC hD))
    all_goals
      go_wp2
      go_ret
      exact ⟨by first | (rw [e.out]; done) | (rw [e.out]; rfl), C2.out⟩
  · have e := Lib.hid (E1.out h0)
    have d1 : (E == 0) = false := by simpa using h0
    have d2 : (E != 0) = true := by simpa using h0
    clear E1 E2 E3 h0
    go_enter Try.func93, Try.ntmps93
    go_wp2_with (go_at_call 91; ((with_reducible refine (CO.out _ cha_box).mono ?_); rintro e w1 ⟨q, ta, tn, tc, rfl, k1, k2⟩; have C1 := Lib.hid (Cha.trans cha_box k1); have KK := Lib.hid k1; obtain ⟨b0, b1, b2, b3, b4, b5, b6, b7, b8, b9, b10, b11, b12⟩ := site_keep k1; have s0 := block_lt_of_cell b0; clear k1 k2))
    go_ret
    exact ⟨by first | (rw [e.out]; done) | (rw [e.out]; rfl), C1.out.alloc _⟩
theorem new_bad (h : Sit W x p f i) (arr : Bool) (hop : (i.op == 27) = arr) (hb : ¬ (0 ≤ i.b ∧ i.b < p.ty.length ∧ ((p.ty[i.b.toNat]?).getD ⟨false, []⟩).ar = arr)) : Calls Try.prog 90 #[x.v f i] W (Says W (.int .i64 14)) := by
  have HT := Lib.hid h.ty
  have hn := h.eT
  rw [← hn] at hb
  have HN := Lib.hid hn
  have hl := h.ty.len
  rw [← hn] at hl
  clear h hn
  obtain ⟨aT, nT, cT, aG, nG, cG, aF, nF, cF, aS, nS, cS, aR, nR, cR, aC, nC, cC, aL, nL, cL⟩ := x
  obtain ⟨pa, sl, re, co⟩ := f
  obtain ⟨op, a, b, c, im, li⟩ := i
  dsimp only [SV.v] at *
  by_cases h0 : b < 0
  · clear hb
    cases arr
    all_goals
      go_enter Try.func90, Try.ntmps90
      go_wp2
      go_ret
      exact ⟨rfl, cha_box⟩
  · by_cases h1 : (nT : Int) ≤ b
    · clear hb
      cases arr
      all_goals
        go_enter Try.func90, Try.ntmps90
        go_wp2
        go_ret
        exact ⟨rfl, cha_box⟩
    · obtain ⟨k, rfl⟩ : ∃ k : Nat, b = (k : Int) := ⟨b.toNat, by omega⟩
      have hlt : k < nT := by omega
      obtain ⟨t, ht⟩ : ∃ t, p.ty[k]? = some t := ⟨_, List.getElem?_eq_getElem (by have := HN.out; omega)⟩
      have hne : t.ar ≠ arr := fun c => hb ⟨by omega, by omega, by rw [Int.toNat_natCast, ht]; exact c⟩
      obtain ⟨bt, ot, _, he, hb0, hbs, hx⟩ := HT.out.at ht
      obtain rfl : aT = some ⟨bt, ot, none⟩ := by injection he
      have q0 := hx.c0
      clear hb he hx ht
      generalize t.ar = ar at *
      have d3 : (ar != arr) = true := by revert hne; cases ar <;> cases arr <;> decide
      have d4 : (ar == arr) = false := by revert hne; cases ar <;> cases arr <;> decide
      clear h0 h1
      cases arr
      all_goals
        cases ar
        all_goals first
          | exact absurd rfl hne
          | (clear hne d3 d4
             go_enter Try.func90, Try.ntmps90
             go_wp2
             go_ret
             exact ⟨rfl, cha_box⟩)
end
end Go.Proofs.Ytpdjbhnpahkbpaa
