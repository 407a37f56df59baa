/- The document's cells: Alloc. -/
import Derived.Test.YtiboobaggpghjaaDoorFW
import Derived.Test.YtiboobaggpghjaaDoorFV
import Derived.Test.YtiboobaggpghjaaDoorFK
import Derived.Test.YtiboobaggpghjaaDoorFE
import Derived.Deep.RegionHeld3
namespace Go.Proofs.YtiboobaggpghjaaDoor
open Go.ChangeShapes Go.WideShapes Go.ChangeAt Go.RowKit
section
variable {n pr dc rt i : Nat} {F F' S : Nat → Prop} {W W' w2 : World} {v v' : Value} {D D' : List Bq} {A' : List Bk}
theorem DL2.same {w w' : World} {A : List Bk} (h : DL2 n pr F W dc rt w A) (c : Cha (fun _ => False) w w') : DL2 n pr F W dc rt w' A := by
  obtain ⟨D', e, F', v', h, hc, hf⟩ := h
  exact ⟨D', e, F', v', h.same c, hc.trans c.wide, hf⟩
theorem useB_inv {A : List Bk} (h : Inv n pr A) (b : Nat) : Inv n pr (upd A b useB) := by
  refine upd_inv h useB_keeps (fun z hz _ => ?_) (fun z hz _ _ => .inl rfl)
  have hk := h.kind z hz
  unfold Bk.kind useB at *
  rcases hk with ⟨h1, h2, h3, h4⟩ | ⟨h1, h2, h3, h4⟩ | ⟨j, h1, h2, h3, h4, h5, h6⟩
  · exact .inl ⟨h1, h2, by simp [h3], h4⟩
  · exact .inr (.inl ⟨h1, h2, by simpa using h3, h4⟩)
  · exact .inr (.inr ⟨j, h1, h2, h3, h4, by simpa using h5, h6⟩)
/-- A cell of the block that was picked is taken. -/
theorem alloc_tail (h : Ce n pr F' w2 dc rt v' D') (hi : i < D'.length) (hu : false ∈ D'[i].1.u) (hch : Cha F W w2) (hF : ∀ i, F' i → F i ∨ W.heap.size ≤ i) :
    ∃ (g o cap yb yw yq fu P : Nat) (yc yh : Int) (yu : List Bool), v' = .slice (some ⟨g, o, none⟩) D'.length cap ∧ cap ≤ maxLen ∧ D'.length ≤ 4096 ∧ w2.cell? ⟨dc, 1, none⟩ = some (.slice (some ⟨g, o, none⟩) D'.length cap) ∧
      w2.cell? ⟨g, o + i * 5, none⟩ = some (.int .i64 (yb : Int)) ∧ w2.cell? ⟨g, o + i * 5 + 1, none⟩ = some (.int .i64 yc) ∧ w2.cell? ⟨g, o + i * 5 + 2, none⟩ = some (.int .i64 (yw : Int)) ∧ w2.cell? ⟨g, o + i * 5 + 3, none⟩ = some (.slice (some ⟨yq, 0, none⟩) yu.length yu.length) ∧ w2.cell? ⟨g, o + i * 5 + 4, none⟩ = some (.int .i64 yh) ∧
      fu < yu.length ∧ yu.length ≤ 64 ∧ yb ≤ 4096 ∧ P ≤ 262144 ∧ ((fu : Int) * (yw : Int) = (P : Int)) ∧ cellAt D'[i].1 = (yb : Int) * 64 + (P : Int) ∧
      (Calls Tryd.prog 61 #[.agg #[.int .i64 (yb : Int), .int .i64 yc, .int .i64 (yw : Int), .slice (some ⟨yq, 0, none⟩) yu.length yu.length, .int .i64 yh]] w2 fun e w' => e = .returned (.int .i64 (fu : Int)) ∧ Cha (fun _ => False) w2 w') ∧
      ∀ w3, Cha (fun _ => False) w2 w3 → w3.cell? ⟨dc, 1, none⟩ = some (.slice (some ⟨g, o, none⟩) D'.length cap) ∧ w3.cell? ⟨g, o + i * 5, none⟩ = some (.int .i64 (yb : Int)) ∧ w3.cell? ⟨g, o + i * 5 + 2, none⟩ = some (.int .i64 (yw : Int)) ∧ w3.cell? ⟨g, o + i * 5 + 3, none⟩ = some (.slice (some ⟨yq, 0, none⟩) yu.length yu.length) ∧
        (∃ x, w3.cell? ⟨yq, fu, none⟩ = some x) ∧ w3.frozen? ⟨yq, fu, none⟩ = false ∧
        (w3.setCell ⟨yq, fu, none⟩ (.bool true)).cell? ⟨dc, 1, none⟩ = some (.slice (some ⟨g, o, none⟩) D'.length cap) ∧ (w3.setCell ⟨yq, fu, none⟩ (.bool true)).cell? ⟨g, o + i * 5, none⟩ = some (.int .i64 (yb : Int)) ∧ (w3.setCell ⟨yq, fu, none⟩ (.bool true)).cell? ⟨g, o + i * 5 + 2, none⟩ = some (.int .i64 (yw : Int)) ∧
        dc ≠ yq ∧ g ≠ yq ∧ ∀ w4, Cha (fun _ => False) (w3.setCell ⟨yq, fu, none⟩ (.bool true)) w4 → DL2 n pr F W dc rt w4 (upd (bks D') D'[i].1.b useB) := by
  have hm := List.getElem_mem hi
  obtain ⟨g, o, cap, e, _, hcm, hA, _⟩ := h.at hi
  have hlen := h.len
  have hfit := h.inv.fits (bks_mem hm)
  have hrng := h.inv.rng _ (bks_mem hm)
  have hfl := fi_lt hu
  have hP := hfit.2.2.2 (fi D'[i].1.u) hfl
  obtain ⟨q0, q1, q2, q3, q4⟩ := hA
  have hfr := dfree_any (W := w2) (D'[i].1.b : Int) D'[i].1.c (D'[i].1.wd : Int) D'[i].1.h D'[i].1.u hfit.2.1 (h.mrk _ hm)
  rw [fre_yes hu] at hfr
  refine ⟨g, o, cap, D'[i].1.b, D'[i].1.wd, D'[i].2, fi D'[i].1.u, fi D'[i].1.u * D'[i].1.wd, D'[i].1.c, D'[i].1.h, D'[i].1.u, e, hcm, by omega, by rw [h.c1, e], q0, q1, q2, q3, q4, hfl, hfit.2.1, by omega, by omega, by push_cast; rfl, by unfold cellAt; push_cast; rfl, hfr, fun w3 c => ?_⟩
  have h3 := h.same c
  obtain ⟨g', o', cap', e', _, _, hA', _⟩ := h3.at hi
  rw [e] at e'
  cases e'
  obtain ⟨r0, r1, r2, r3, r4⟩ := hA'
  have ndc := (h3.cb.nv.2 _ hm).2
  have ng := (h3.cb.nv.2 _ hm).1
  rw [e] at ng
  have ng : g ≠ D'[i].2 := fun e => ng (by rw [← e]; rfl)
  have hs : ∀ (b k : Nat), b ≠ D'[i].2 → (w3.setCell ⟨D'[i].2, fi D'[i].1.u, none⟩ (.bool true)).cell? ⟨b, k, none⟩ = w3.cell? ⟨b, k, none⟩ := fun b k hb => by
    unfold World.cell?
    rw [heap_setCell_other _ _ _ _ hb]
  have d1 := h3.c1
  rw [e] at d1
  obtain ⟨p1, p2⟩ := h3.put (c := true) (m := fi D'[i].1.u) hi hfl useB_keeps rfl rfl (useB_inv h3.inv _)
  refine ⟨d1, r0, r2, r3, ⟨_, (h3.mrk _ hm).cell hfl⟩, (h3.mrk _ hm).free _, by rw [hs _ _ ndc.symm]; exact d1, by rw [hs _ _ ng]; exact r0, by rw [hs _ _ ng]; exact r2, ndc.symm, ng, fun w4 c4 => ?_⟩
  exact ⟨_, bks_set h3.inv hi, F', _, p1.same c4, (hch.trans c.wide).over (p2.trans c4.wide) hF, hF⟩
end
end Go.Proofs.YtiboobaggpghjaaDoor

namespace Go.Proofs.YtiboobaggpghjaaDoor
open Go.ChangeShapes Go.WideShapes Go.ChangeAt Go.RowKit
section
variable {n pr dc rt q : Nat} {F : Nat → Prop} {W w1 : World} {v : Value} {D : List Bq} {A A' A1 A2 : List Bk} {y y2 : Bk} {m : Int}
/-- The block that was found, or made. -/
def Picked (n pr : Nat) (F : Nat → Prop) (W : World) (dc rt : Nat) (A1 : List Bk) (y : Bk) (e : Ending) (w2 : World) : Prop :=
  ∃ (i : Nat) (D' : List Bq) (F' : Nat → Prop) (v' : Value), e = .returned (.tuple #[.int .i64 (i : Int), .int .i64 0]) ∧ (∃ hi : i < D'.length, bks D' = A1 ∧ D'[i].1 = y) ∧ Ce n pr F' w2 dc rt v' D' ∧ Cha F W w2 ∧ ∀ i, F' i → F i ∨ W.heap.size ≤ i
theorem Row.one {k b b' : Nat} (h : Row n A k b) (h' : Row n A k b') : b = b' := by
  obtain ⟨us, c⟩ := h
  obtain ⟨us', c'⟩ := h'
  obtain ⟨x, h1, _, h3, _⟩ := alc_is c rfl
  obtain ⟨x', h1', _, h3', _⟩ := alc_is c' rfl
  rw [h3] at h3'
  cases h3'
  omega
theorem alc_no {us : Nat → Bool} {k bI r : Int} {us' : Nat → Bool} (c : Alc n us k bI r us') (hr : r = 3) : (rws (isU us n) (n + 1)).find? (fun y => decide (k.toNat ≤ y.2)) = none := by
  cases c with
  | arg _ => omega
  | full _ h => exact h
  | ok _ _ _ => omega
theorem Row.no {k b : Nat} (h : Row n A k b) (h' : NoRow n A k) : False := by
  obtain ⟨us, c⟩ := h
  obtain ⟨x, h1, h2, h3, _⟩ := alc_is c rfl
  have := alc_no h' rfl
  rw [h3] at this
  cases this
theorem bfo_small (hi : Inv n pr A) (hpr : 1 ≤ pr) (hm : m ≤ 64) {o : Option Bk} {r : Int} (c : Bfo n pr A q m A1 o r) : (∀ A2 y2, Pk n A q (cof m.toNat) A2 y2 → o = some y2 ∧ A1 = A2) ∧ (NoHeld A q (cof m.toNat) → NoOpn (unh A q (cof m.toNat)) (cof m.toNat) → NoRow n A (cpg (cof m.toNat)) → o = none ∧ A1 = unh A q (cof m.toNat)) := by
  cases c with
  | great b k h1 h2 h3 h4 => omega
  | gfull k h1 h2 h3 h4 => omega
  | held k y h1 h2 h3 h4 h5 h6 h7 =>
    subst h3
    refine ⟨fun A2 y2 hp => ?_, fun a1 a2 a3 => absurd h7 (a1 y h4 h5 h6)⟩
    cases hp with
    | held _ b1 b2 b3 b4 =>
      have e := hi.one y h4 y2 b1 (by omega) (by omega) (by omega)
      rw [hi.inj h4 b1 e]
      exact ⟨rfl, rfl⟩
    | opn _ b1 _ => exact absurd h7 (b1 y h4 h5 h6)
    | new _ b1 _ _ => exact absurd h7 (b1 y h4 h5 h6)
  | opn k y h1 h2 h3 h4 h5 =>
    subst h3
    refine ⟨fun A2 y2 hp => ?_, fun a1 a2 a3 => absurd h5.opn (a2 _)⟩
    cases hp with
    | held _ b1 b2 b3 b4 => exact absurd b4 (h4 _ b1 b2 b3)
    | opn y' b1 b2 =>
      rw [Least.one (unh_inv hi) h5 b2]
      exact ⟨rfl, rfl⟩
    | new _ b1 b2 _ => exact absurd h5.opn (b2 _)
  | new k b h1 h2 h3 h4 h5 h6 =>
    subst h3
    obtain ⟨c1, _⟩ := cof_ok m.toNat (by omega) (by omega)
    refine ⟨fun A2 y2 hp => ?_, fun a1 a2 a3 => (h6.no a3).elim⟩
    cases hp with
    | held _ b1 b2 b3 b4 => exact absurd b4 (h4 _ b1 b2 b3)
    | opn y' b1 b2 => exact absurd b2.opn (h5 _)
    | new b' b1 b2 b3 =>
      obtain rfl := h6.one b3
      refine ⟨rfl, ?_⟩
      have inv' := newB_inv (unh_inv (p := q) (k := cof m.toNat) hi) c1 hpr h6.unh
      exact upd_last inv'
  | full k h1 h2 h3 h4 h5 h6 =>
    subst h3
    refine ⟨fun A2 y2 hp => ?_, fun a1 a2 a3 => ⟨rfl, rfl⟩⟩
    cases hp with
    | held _ b1 b2 b3 b4 => exact absurd b4 (h4 _ b1 b2 b3)
    | opn y' b1 b2 => exact absurd b2.opn (h5 _)
    | new b' b1 b2 b3 => exact (b3.no h6).elim
/-- What make_ and pick do, by the block that was found. -/
theorem dblock_small (h : Ce n pr F W dc rt v D) (hq : q < pr) (h1 : 1 ≤ m) (hm : m ≤ 64) (c : Bfo n pr (bks D) q m A1 (some y) 0) : Calls Tryd.prog 60 #[.pointer (some ⟨dc, 0, none⟩), .int .i64 (q : Int), .int .i64 (cof m.toNat : Int)] W (Picked n pr F W dc rt A1 y) := by
  obtain ⟨c1, _⟩ := cof_ok m.toNat (by omega) (by omega)
  obtain ⟨b1, b2⟩ := bfo_small h.inv h.prr.1 hm c
  refine (dpick_any h hq c1).mono fun e w' hp => ?_
  rcases hp with ⟨i, D', F', v', he, ⟨hi, hpk⟩, hce, hch, hF⟩ | ⟨_, a1, a2, a3, _⟩
  · obtain ⟨e1, e2⟩ := b1 _ _ hpk
    cases e1
    exact ⟨i, D', F', v', he, ⟨hi, e2.symm, rfl⟩, hce, hch, hF⟩
  · have := (b2 a1 a2 a3).1
    cases this
theorem dblock_full (h : Ce n pr F W dc rt v D) (hq : q < pr) (h1 : 1 ≤ m) (hm : m ≤ 64) (c : Bfo n pr (bks D) q m A1 none 3) : Calls Tryd.prog 60 #[.pointer (some ⟨dc, 0, none⟩), .int .i64 (q : Int), .int .i64 (cof m.toNat : Int)] W fun e w' => e = .returned (.tuple #[.int .i64 0, .int .i64 3]) ∧ DL2 n pr F W dc rt w' A1 := by
  obtain ⟨c1, _⟩ := cof_ok m.toNat (by omega) (by omega)
  obtain ⟨b1, b2⟩ := bfo_small h.inv h.prr.1 hm c
  refine (dpick_any h hq c1).mono fun e w' hp => ?_
  rcases hp with ⟨i, D', F', v', he, ⟨hi, hpk⟩, hce, hch, hF⟩ | ⟨he, a1, a2, a3, hl⟩
  · have := (b1 _ _ hpk).1
    cases this
  · rw [(b2 a1 a2 a3).2]
    exact ⟨he, hl⟩
theorem dblock_great (h : Ce n pr F W dc rt v D) {k : Nat} (hm : 64 < m) (hk : (k : Int) = (m + 63) / 64) (c : Bfo n pr (bks D) q m A1 (some y) 0) : Calls Tryd.prog 59 #[.pointer (some ⟨dc, 0, none⟩), .int .i64 (k : Int), .int .i64 (-1), .int .i64 ((k * 64 : Nat) : Int), .int .i64 ((1 : Nat) : Int)] W (Picked n pr F W dc rt A1 y) := by
  generalize ho : some y = o at c
  generalize hr : (0 : Int) = r at c
  cases c with
  | gfull => cases ho
  | full => cases ho
  | held => omega
  | opn => omega
  | new => omega
  | great b k' g1 g2 g3 g4 =>
    obtain rfl : k = k' := by omega
    cases ho
    refine (dmake_ok h (m := 1) (wd := k * 64) (c := -1) g4 (grt_inv h.inv g4) (by omega)).mono fun e w' ⟨he, qb, F', v', hce, hch, hF⟩ => ⟨D.length, _, F', v', he, ⟨by simp, by rw [bks_app]; rfl, ?_⟩, hce, hch, hF⟩
    rw [List.getElem_append_right (Nat.le_refl _)]
    simp
    rfl
theorem dblock_gfull (h : Ce n pr F W dc rt v D) {k : Nat} (hm : 64 < m) (hm2 : m ≤ 1024) (hk : (k : Int) = (m + 63) / 64) (c : Bfo n pr (bks D) q m A1 none 3) (wd cl : Int) : Calls Tryd.prog 59 #[.pointer (some ⟨dc, 0, none⟩), .int .i64 (k : Int), .int .i64 (-1), .int .i64 wd, .int .i64 cl] W fun e w' => e = .returned (.tuple #[.int .i64 0, .int .i64 3]) ∧ DL2 n pr F W dc rt w' A1 := by
  generalize ho : none = o at c
  generalize hr : (3 : Int) = r at c
  cases c with
  | great => omega
  | full => omega
  | held => omega
  | opn => omega
  | new => omega
  | gfull k' g1 g2 g3 g4 =>
    obtain rfl : k = k' := by omega
    exact (dmake_no h (by omega) (-1) wd cl 3 (.inr rfl) g4).mono fun e w' ⟨he, hl⟩ => ⟨he, D, rfl, hl⟩
end
end Go.Proofs.YtiboobaggpghjaaDoor

namespace Go.Proofs.YtiboobaggpghjaaDoor
open Go.ChangeShapes Go.WideShapes Go.ChangeAt Go.RowKit
section
variable {n pr dc rt : Nat} {F : Nat → Prop} {W : World} {v : Value} {D : List Bq} {A' : List Bk}
set_option maxRecDepth 100000 in
set_option maxHeartbeats 16000000 in
theorem dalloc_any {p m x r : Int} (h : Ce n pr F W dc rt v D) (c : Alo n pr (bks D) p m A' x r) (hm : m ≤ 9223372036854775807) : Calls Tryd.prog 38 #[.pointer (some ⟨dc, 0, none⟩), .int .i64 p, .int .i64 m] W fun e w' => e = .returned (.tuple #[.int .i64 x, .int .i64 r]) ∧ DL2 n pr F W dc rt w' A' := by
  have H := Lib.hid h
  have d2 := h.c2
  have HSAME : Hid (DL2 n pr F W dc rt W (bks D)) := Lib.hid ⟨D, rfl, DLeft.same h (Cha.refl _ _)⟩
  have hlen := h.len
  rcases c.split h.inv with ⟨hb, rfl, rfl, rfl⟩ | ⟨h1, h2, h3, rfl, rfl, rfl⟩ | ⟨q, rfl, hq, hm1, hm2, ⟨A1, y, hbf, hy, hyc, hyu, rfl, rfl, rfl⟩ | ⟨hbf, rfl, rfl⟩⟩
  · clear h c
    by_cases k1 : p < 0
    · clear hb
      go_enter Tryd.func38, Tryd.ntmps38
      go_wp2
      go_ret2
      exact ⟨rfl, HSAME.out⟩
    · by_cases k2 : (pr : Int) ≤ p
      · clear hb
        go_enter Tryd.func38, Tryd.ntmps38
        go_wp2
        go_ret2
        exact ⟨rfl, HSAME.out⟩
      · have k3 : m < 1 := by omega
        clear hb
        go_enter Tryd.func38, Tryd.ntmps38
        go_wp2
        go_ret2
        exact ⟨rfl, HSAME.out⟩
  · have k1 : ¬ p < 0 := by omega
    have k2 : ¬ (pr : Int) ≤ p := by omega
    have k3 : ¬ m < 1 := by omega
    clear h c h1 h2
    go_enter Tryd.func38, Tryd.ntmps38
    go_wp2
    go_ret2
    exact ⟨rfl, HSAME.out⟩
  · have k1 : ¬ (q : Int) < 0 := by omega
    have k2 : ¬ (pr : Int) ≤ (q : Int) := by omega
    have k3 : ¬ m < 1 := by omega
    have k4 : ¬ 1024 < m := by omega
    have C12 := Lib.hid (dof_any m hm1 W)
    have HU := Lib.hid hyu
    have HSZ := Lib.hid (show ∀ w1, Cha (fun _ => False) W w1 → ∀ e w2, Picked n pr F w1 dc rt A1 y e w2 → Picked n pr F W dc rt A1 y e w2 from fun w1 c1 e w2 ⟨i, D', F', v', he, hx, hce, hch, hF⟩ => ⟨i, D', F', v', he, hx, hce, c1.wide.trans hch, fun i hi => (hF i hi).imp id fun e => Nat.le_trans c1.size e⟩)
    by_cases k5 : m ≤ 64
    · rw [if_pos k5, if_pos k5] at C12
      have CB : Hid (∀ w1, Cha (fun _ => False) W w1 → Calls Tryd.prog 60 #[.pointer (some ⟨dc, 0, none⟩), .int .i64 (q : Int), .int .i64 (cof m.toNat : Int)] w1 fun e w' => Picked n pr F W dc rt A1 y e w') := Lib.hid fun w1 c1 => (dblock_small (H.out.same c1) hq hm1 k5 hbf).mono fun e w' hp => HSZ.out _ c1 _ _ hp
      clear h c hbf hy hyc hyu HSZ
      generalize cof m.toNat = kc at *
      go_enter Tryd.func38, Tryd.ntmps38
      go_wp2_with (first
        | (go_at_call 12; ((with_reducible refine (C12.out).mono ?_); rintro e w1 ⟨rfl, hc⟩; have HC1 := Lib.hid hc; clear hc))
        | (go_at_call 60; ((with_reducible refine (CB.out _ HC1.out).mono ?_); rintro e w2 ⟨i, D', F', v', rfl, ⟨hi, e1, e2⟩, hce, hch, hF⟩; obtain ⟨g, o, cap2, yb, yw, yq, fu, P, yc, yh, yu, rfl, t1, t2, t3, q0, q1, q2, q3, q4, t4, t5, t6, t7, t8, t9, hfr, hk⟩ := alloc_tail hce hi (by rw [e2]; exact HU.out) hch hF; rw [e2, e1] at hk; rw [e2] at t9; have C61 := Lib.hid hfr; have KT := Lib.hid hk; have T9 := Lib.hid t9; have hiI : (i : Int) < (D'.length : Int) := (by omega); have fuI : (fu : Int) < (yu.length : Int) := (by omega); have w8 : IntKind.i64.wrap ((fu : Int) * (yw : Int)) = (P : Int) := (by rw [t8]; exact IntWalk.i64_in _ (by omega)); have w9 : IntKind.i64.wrap ((yb : Int) * 64) = (yb : Int) * 64 := (IntWalk.i64_in _ (by omega)); have w10 : IntKind.i64.wrap ((yb : Int) * 64 + (P : Int)) = (yb : Int) * 64 + (P : Int) := (IntWalk.i64_in _ (by omega)); unfold maxLen at t1; clear hce hch hF e1 e2 hfr hk t9 t8))
        | (go_at_call 61; ((with_reducible refine (C61.out).mono ?_); rintro e w3 ⟨rfl, hc⟩; obtain ⟨x1, x2, x3, x4, ⟨xv, x5⟩, x6, x7, x8, x9, n1, n2, hl⟩ := KT.out _ hc; have HL := Lib.hid hl; clear hl hc q0 q1 q2 q3 q4 t2)))
      go_quiet (fail)
      all_goals
        go_wp2
        go_ret2
        exact ⟨by first | rfl | (rw [T9.out]; done) | (rw [T9.out, w9, w8, w10]; done) | (rw [T9.out]; simp), HL.out _ ((Cha.refl _ _).drewN _)⟩
    · rw [if_neg k5, if_neg k5] at C12
      obtain ⟨k, hk⟩ : ∃ k : Nat, (k : Int) = (m + 63) / 64 := ⟨((m + 63) / 64).toNat, by omega⟩
      have CB : Hid (∀ w1, Cha (fun _ => False) W w1 → Calls Tryd.prog 59 #[.pointer (some ⟨dc, 0, none⟩), .int .i64 (k : Int), .int .i64 (-1), .int .i64 ((k : Int) * 64), .int .i64 1] w1 fun e w' => Picked n pr F W dc rt A1 y e w') := Lib.hid fun w1 c1 => (dblock_great (H.out.same c1) (by omega) hk hbf).mono fun e w' hp => HSZ.out _ c1 _ _ hp
      have z1 : IntKind.i64.wrap (m + 64) = m + 64 := IntWalk.i64_in _ (by omega)
      have z2 : IntKind.i64.wrap (m + 64 - 1) = m + 63 := by rw [IntWalk.i64_in _ (by omega)]; omega
      have z3 : Int.tdiv (m + 63) 64 = (k : Int) := by rw [Int.tdiv_eq_ediv_of_nonneg (by omega), hk]
      have z4 : IntKind.i64.wrap (k : Int) = (k : Int) := IntWalk.i64_in _ (by omega)
      have z5 : IntKind.i64.wrap ((k : Int) * 64) = (k : Int) * 64 := IntWalk.i64_in _ (by omega)
      clear h c hbf hy hyc hyu HSZ hk
      go_enter Tryd.func38, Tryd.ntmps38
      go_wp2_with (first
        | (go_at_call 12; ((with_reducible refine (C12.out).mono ?_); rintro e w1 ⟨rfl, hc⟩; have HC1 := Lib.hid hc; clear hc))
        | (go_at_call 59; ((with_reducible refine (CB.out _ HC1.out).mono ?_); rintro e w2 ⟨i, D', F', v', rfl, ⟨hi, e1, e2⟩, hce, hch, hF⟩; obtain ⟨g, o, cap2, yb, yw, yq, fu, P, yc, yh, yu, rfl, t1, t2, t3, q0, q1, q2, q3, q4, t4, t5, t6, t7, t8, t9, hfr, hk⟩ := alloc_tail hce hi (by rw [e2]; exact HU.out) hch hF; rw [e2, e1] at hk; rw [e2] at t9; have C61 := Lib.hid hfr; have KT := Lib.hid hk; have T9 := Lib.hid t9; have hiI : (i : Int) < (D'.length : Int) := (by omega); have fuI : (fu : Int) < (yu.length : Int) := (by omega); have w8 : IntKind.i64.wrap ((fu : Int) * (yw : Int)) = (P : Int) := (by rw [t8]; exact IntWalk.i64_in _ (by omega)); have w9 : IntKind.i64.wrap ((yb : Int) * 64) = (yb : Int) * 64 := (IntWalk.i64_in _ (by omega)); have w10 : IntKind.i64.wrap ((yb : Int) * 64 + (P : Int)) = (yb : Int) * 64 + (P : Int) := (IntWalk.i64_in _ (by omega)); unfold maxLen at t1; clear hce hch hF e1 e2 hfr hk t9 t8))
        | (go_at_call 61; ((with_reducible refine (C61.out).mono ?_); rintro e w3 ⟨rfl, hc⟩; obtain ⟨x1, x2, x3, x4, ⟨xv, x5⟩, x6, x7, x8, x9, n1, n2, hl⟩ := KT.out _ hc; have HL := Lib.hid hl; clear hl hc q0 q1 q2 q3 q4 t2)))
      go_quiet (fail)
      all_goals
        go_wp2
        go_ret2
        exact ⟨by first | rfl | (rw [T9.out]; done) | (rw [T9.out, w9, w8, w10]; done) | (rw [T9.out]; simp), HL.out _ ((Cha.refl _ _).drewN _)⟩
  · have k1 : ¬ (q : Int) < 0 := by omega
    have k2 : ¬ (pr : Int) ≤ (q : Int) := by omega
    have k3 : ¬ m < 1 := by omega
    have k4 : ¬ 1024 < m := by omega
    have C12 := Lib.hid (dof_any m hm1 W)
    have HSZ := Lib.hid (show ∀ w1, Cha (fun _ => False) W w1 → ∀ w2, DL2 n pr F w1 dc rt w2 A' → DL2 n pr F W dc rt w2 A' from fun w1 c1 w2 ⟨D', he, F', v', hce, hch, hF⟩ => ⟨D', he, F', v', hce, c1.wide.trans hch, fun i hi => (hF i hi).imp id fun e => Nat.le_trans c1.size e⟩)
    by_cases k5 : m ≤ 64
    · rw [if_pos k5, if_pos k5] at C12
      have CB : Hid (∀ w1, Cha (fun _ => False) W w1 → Calls Tryd.prog 60 #[.pointer (some ⟨dc, 0, none⟩), .int .i64 (q : Int), .int .i64 (cof m.toNat : Int)] w1 fun e w' => e = .returned (.tuple #[.int .i64 0, .int .i64 3]) ∧ DL2 n pr F W dc rt w' A') := Lib.hid fun w1 c1 => (dblock_full (H.out.same c1) hq hm1 k5 hbf).mono fun e w' hp => ⟨hp.1, HSZ.out _ c1 _ hp.2⟩
      clear h c hbf HSZ
      generalize cof m.toNat = kc at *
      go_enter Tryd.func38, Tryd.ntmps38
      go_wp2_with (first
        | (go_at_call 12; ((with_reducible refine (C12.out).mono ?_); rintro e w1 ⟨rfl, hc⟩; have HC1 := Lib.hid hc; clear hc))
        | (go_at_call 60; ((with_reducible refine (CB.out _ HC1.out).mono ?_); rintro e w2 ⟨rfl, hl⟩; have HL := Lib.hid hl; clear hl)))
      go_ret2
      exact ⟨rfl, HL.out⟩
    · rw [if_neg k5, if_neg k5] at C12
      obtain ⟨k, hk⟩ : ∃ k : Nat, (k : Int) = (m + 63) / 64 := ⟨((m + 63) / 64).toNat, by omega⟩
      have CB : Hid (∀ w1, Cha (fun _ => False) W w1 → Calls Tryd.prog 59 #[.pointer (some ⟨dc, 0, none⟩), .int .i64 (k : Int), .int .i64 (-1), .int .i64 ((k : Int) * 64), .int .i64 1] w1 fun e w' => e = .returned (.tuple #[.int .i64 0, .int .i64 3]) ∧ DL2 n pr F W dc rt w' A') := Lib.hid fun w1 c1 => (dblock_gfull (H.out.same c1) (by omega) hm2 hk hbf _ _).mono fun e w' hp => ⟨hp.1, HSZ.out _ c1 _ hp.2⟩
      have z1 : IntKind.i64.wrap (m + 64) = m + 64 := IntWalk.i64_in _ (by omega)
      have z2 : IntKind.i64.wrap (m + 64 - 1) = m + 63 := by rw [IntWalk.i64_in _ (by omega)]; omega
      have z3 : Int.tdiv (m + 63) 64 = (k : Int) := by rw [Int.tdiv_eq_ediv_of_nonneg (by omega), hk]
      have z4 : IntKind.i64.wrap (k : Int) = (k : Int) := IntWalk.i64_in _ (by omega)
      have z5 : IntKind.i64.wrap ((k : Int) * 64) = (k : Int) * 64 := IntWalk.i64_in _ (by omega)
      clear h c hbf HSZ hk
      go_enter Tryd.func38, Tryd.ntmps38
      go_wp2_with (first
        | (go_at_call 12; ((with_reducible refine (C12.out).mono ?_); rintro e w1 ⟨rfl, hc⟩; have HC1 := Lib.hid hc; clear hc))
        | (go_at_call 59; ((with_reducible refine (CB.out _ HC1.out).mono ?_); rintro e w2 ⟨rfl, hl⟩; have HL := Lib.hid hl; clear hl)))
      go_ret2
      exact ⟨rfl, HL.out⟩
end
end Go.Proofs.YtiboobaggpghjaaDoor

namespace Go.Proofs.YtiboobaggpghjaaDoor
open Go.ChangeShapes Go.WideShapes Go.ChangeAt Go.RowKit
/-- Both rooms: the program's blocks, the document's; X: blocks that are neither's, and what lies there. -/
structure Pr (n pr bc dc rt : Nat) (w0 : World) (X : Nat → Option Obj) (W : World) (A A2 : List Bk) : Prop where
  ex : ∃ F F2 v D, Oc n pr F bc W A ∧ (∀ i, F i → w0.heap.size ≤ i) ∧ bks D = A2 ∧ Ce n pr F2 W dc rt v D ∧ (∀ i, F2 i → w0.heap.size ≤ i) ∧ (∀ i, F i → ¬ F2 i) ∧ ∀ i o, X i = some o → W.heap[i]? = some o ∧ ¬ F i ∧ ¬ F2 i
  cha : Cha (fun _ => False) w0 W
  pos : 0 < w0.heap.size
section
variable {n pr bc dc rt : Nat} {w0 W W' : World} {X X' : Nat → Option Obj} {A A' A2 A2' : List Bk} {f : FuncId} {args : Array Value} {e0 : Ending}
theorem Pr.inv (h : Pr n pr bc dc rt w0 X W A A2) : Inv n pr A := by obtain ⟨⟨F, F2, v, D, a, _⟩, _⟩ := h; exact a.inv
theorem Pr.siz (h : Pr n pr bc dc rt w0 X W A A2) : Siz W := by obtain ⟨⟨F, F2, v, D, a, _⟩, _⟩ := h; exact a.siz
theorem Pr.le (h : Pr n pr bc dc rt w0 X W A A2) : n ≤ 4096 := by obtain ⟨⟨F, F2, v, D, a, _⟩, _⟩ := h; exact a.len.1
theorem Pr.row (h : Pr n pr bc dc rt w0 X W A A2) {i : Nat} {o : Obj} (e : X i = some o) : W.heap[i]? = some o := by obtain ⟨⟨F, F2, v, D, _, _, _, _, _, _, x⟩, _⟩ := h; exact (x i o e).1
/-- A block of X's, or a new one, is turned. -/
theorem Pr.turn {S : Nat → Prop} (h : Pr n pr bc dc rt w0 X W A A2) (c : Cha S W W') (hs : ∀ i, S i → X i ≠ none ∧ w0.heap.size ≤ i) (hx : ∀ i o, X' i = some o → W'.heap[i]? = some o ∧ (X i ≠ none ∨ W.heap.size ≤ i)) : Pr n pr bc dc rt w0 X' W' A A2 := by
  obtain ⟨⟨F, F2, v, D, a, b, d, e, g, k, x⟩, hc, p⟩ := h
  have s1 : ∀ i, F i → ¬ S i := fun i fi si => by
    cases h : X i with
    | none => exact (hs i si).1 h
    | some o => exact (x i o h).2.1 fi
  have s2 : ∀ i, F2 i → ¬ S i := fun i fi si => by
    cases h : X i with
    | none => exact (hs i si).1 h
    | some o => exact (x i o h).2.2 fi
  refine ⟨⟨F, F2, v, D, a.cha c s1 (fun si => by have := (hs 0 si).2; omega), b, d, e.cha c s2, g, k, fun i o ho => ?_⟩, hc.over c fun i si => .inr (hs i si).2, p⟩
  obtain ⟨h1, h2⟩ := hx i o ho
  refine ⟨h1, fun fi => ?_, fun fi => ?_⟩
  · rcases h2 with h2 | h2
    · cases h : X i with
      | none => exact h2 h
      | some o => exact (x i o h).2.1 fi
    · have := a.lt fi; omega
  · rcases h2 with h2 | h2
    · cases h : X i with
      | none => exact h2 h
      | some o => exact (x i o h).2.2 fi
    · have := e.lt i fi; omega
theorem Pr.same (h : Pr n pr bc dc rt w0 X W A A2) (c : Cha (fun _ => False) W W') : Pr n pr bc dc rt w0 X W' A A2 :=
  h.turn c (fun _ f => f.elim) fun i o e => ⟨(c.old i (Array.getElem?_eq_some_iff.1 (h.row e)).1 (fun f => f)).trans (h.row e), .inl (by rw [e]; simp)⟩
theorem Pr.left (h : Pr n pr bc dc rt w0 X W A A2) (s : ∀ F, Oc n pr F bc W A → Calls Tryd.prog f args W fun e w' => e = e0 ∧ Nx n pr F bc W A' w') : Calls Tryd.prog f args W fun e w' => e = e0 ∧ Pr n pr bc dc rt w0 X w' A' A2 := by
  obtain ⟨⟨F, F2, v, D, a, b, d, e, g, k, x⟩, hc, p⟩ := h
  refine (s F a).mono fun y w' ⟨he, F', k1, k2, k3, k4⟩ => ⟨he, ⟨F', F2, v, D, k1, fun i hi => ?_, d, e.cha k2 (fun i x y => k i y x), g, fun i hi h2 => ?_, fun i o ho => ?_⟩, hc.over k2 fun i hi => .inr (b i hi), p⟩
  · rcases k4 i hi with x | x
    · exact b i x
    · exact Nat.le_trans hc.size x
  · rcases k4 i hi with x | x
    · exact k i x h2
    · have := e.lt i h2; omega
  · obtain ⟨h1, h2, h3⟩ := x i o ho
    have hl := (Array.getElem?_eq_some_iff.1 h1).1
    exact ⟨(k2.old i hl h2).trans h1, fun fi => (k4 i fi).elim h2 (by omega), h3⟩
theorem Pr.right (h : Pr n pr bc dc rt w0 X W A A2) (s : ∀ F2 v D, bks D = A2 → Ce n pr F2 W dc rt v D → Calls Tryd.prog f args W fun e w' => e = e0 ∧ DL2 n pr F2 W dc rt w' A2') : Calls Tryd.prog f args W fun e w' => e = e0 ∧ Pr n pr bc dc rt w0 X w' A A2' := by
  obtain ⟨⟨F, F2, v, D, a, b, d, e, g, k, x⟩, hc, p⟩ := h
  refine (s F2 v D d e).mono fun y w' ⟨he, D', e1, F2', v', k1, k2, k3⟩ => ⟨he, ⟨F, F2', v', D', a.cha k2 (fun i x => k i x) (fun x => by have := g 0 x; omega), b, e1, k1, fun i hi => ?_, fun i hi h2 => ?_, fun i o ho => ?_⟩, hc.over k2 fun i hi => .inr (g i hi), p⟩
  · rcases k3 i hi with x | x
    · exact g i x
    · exact Nat.le_trans hc.size x
  · rcases k3 i h2 with x | x
    · exact k i hi x
    · have := a.lt hi; omega
  · obtain ⟨h1, h2, h3⟩ := x i o ho
    have hl := (Array.getElem?_eq_some_iff.1 h1).1
    exact ⟨(k2.old i hl h3).trans h1, h2, fun fi => (k3 i fi).elim h3 (by omega)⟩
theorem Nx.off {F : Nat → Prop} (h : Oc n pr F bc W' A') (c : Cha F W W') : Nx n pr F bc W A' W' := Nx.of h c
theorem cell_le {y : Bk} (hi : Inv n pr A) (hy : y ∈ A) (hu : false ∈ y.u) : cellAt y ≤ ((n * 64 : Nat) : Int) := by
  have h1 := hi.fits hy
  have h2 := hi.rng y hy
  have h3 := h1.2.2.2 _ (fi_lt hu)
  unfold cellAt
  omega
theorem alo_le (hi : Inv n pr A) (hn : n ≤ 4096) {p m x r : Int} (c : Alo n pr A p m A' x r) : x ≤ 262144 := by
  cases c with
  | arg _ => omega
  | long _ _ _ => omega
  | great b k _ _ _ _ _ h => have := h.is; omega
  | gfull _ _ _ _ _ _ _ => omega
  | held q k y _ _ _ _ _ h6 _ _ h9 => have := cell_le hi h6 h9; omega
  | opn q k y _ _ _ _ _ _ h7 => have := cell_le (unh_inv (p := q) (k := k) hi) h7.opn.1 h7.opn.2.2.2; omega
  | new q k b _ _ _ _ _ _ _ h => have := h.is; omega
  | full _ _ _ _ _ _ _ _ _ _ => omega
theorem pgs_le (hn : n ≤ 4096) {m x r : Int} (c : Pgs7 n A m A' x r) : x ≤ 4096 := by
  cases c with
  | ok b k _ h => have := h.is; omega
  | no r _ _ => omega
section
variable (w0) (X) (hi : Inv n pr A) (hn : n ≤ 4096)
include hi hn
theorem pair_alloc (p m : Int) (hm : m ≤ 9223372036854775807) : ∃ x r A', x ≤ 9223372036854775807 ∧ (∀ W, Pr n pr bc dc rt w0 X W A A → Calls Tryd.prog 31 #[.pointer (some ⟨bc, 0, none⟩), .int .i64 p, .int .i64 m] W fun e w' => e = .returned (.tuple #[.int .i64 x, .int .i64 r]) ∧ Pr n pr bc dc rt w0 X w' A' A) ∧
    (∀ W, Pr n pr bc dc rt w0 X W A' A → Calls Tryd.prog 38 #[.pointer (some ⟨dc, 0, none⟩), .int .i64 p, .int .i64 m] W fun e w' => e = .returned (.tuple #[.int .i64 x, .int .i64 r]) ∧ Pr n pr bc dc rt w0 X w' A' A') := by
  obtain ⟨A', x, r, c⟩ := Alo.ex hi p m
  exact ⟨x, r, A', by have := alo_le hi hn c; omega, fun W h => h.left fun F a => oc_alloc a c hm, fun W h => h.right fun F2 v D e k => dalloc_any k (by rw [e]; exact c) hm⟩
omit hi hn in
theorem pair_free (x : Int) (hx : x ≤ 9223372036854775807) : ∃ r A', (∀ W, Pr n pr bc dc rt w0 X W A A → Calls Tryd.prog 32 #[.pointer (some ⟨bc, 0, none⟩), .int .i64 x] W fun e w' => e = .returned (.int .i64 r) ∧ Pr n pr bc dc rt w0 X w' A' A) ∧
    (∀ W, Pr n pr bc dc rt w0 X W A' A → Calls Tryd.prog 39 #[.pointer (some ⟨dc, 0, none⟩), .int .i64 x] W fun e w' => e = .returned (.int .i64 r) ∧ Pr n pr bc dc rt w0 X w' A' A') := by
  obtain ⟨A', r, c⟩ := Fre7.ex A x
  refine ⟨r, A', fun W h => h.left fun F a => (oc_free a c hx).mono fun e w' ⟨he, k1, k2⟩ => ⟨he, Nx.of k1 k2⟩, fun W h => h.right fun F2 v D e k => ?_⟩
  subst e
  cases c with
  | no hn => exact dfree_no k hx hn
  | mid y i hh hb => exact dfree_mid k hx hh (by simpa using fun e => hb e.symm)
  | yes y i hh hb => exact dfree_yes k hx hh (by simpa using hb.symm)
omit hi hn in
theorem pair_flush (p : Int) : ∃ r A', (∀ W, Pr n pr bc dc rt w0 X W A A → Calls Tryd.prog 33 #[.pointer (some ⟨bc, 0, none⟩), .int .i64 p] W fun e w' => e = .returned (.int .i64 r) ∧ Pr n pr bc dc rt w0 X w' A' A) ∧
    (∀ W, Pr n pr bc dc rt w0 X W A' A → Calls Tryd.prog 40 #[.pointer (some ⟨dc, 0, none⟩), .int .i64 p] W fun e w' => e = .returned (.int .i64 r) ∧ Pr n pr bc dc rt w0 X w' A' A') := by
  by_cases hb : p < 0 ∨ (pr : Int) ≤ p
  · exact ⟨1, A, fun W h => h.left fun F a => (oc_flush_bad a p hb).mono fun e w' ⟨he, k1, k2⟩ => ⟨he, Nx.of k1 k2⟩, fun W h => h.right fun F2 v D e k => by subst e; exact dflush_bad p k hb⟩
  · obtain ⟨q, rfl⟩ : ∃ q : Nat, p = (q : Int) := ⟨p.toNat, by omega⟩
    exact ⟨0, flushed A q, fun W h => h.left fun F a => (oc_flush a q (by omega)).mono fun e w' ⟨he, k1, k2⟩ => ⟨he, Nx.of k1 k2⟩, fun W h => h.right fun F2 v D e k => by subst e; exact dflush_ok q (by omega) k⟩
theorem pair_pages (m : Int) (hm : m ≤ 9223372036854775807) : ∃ x r A', x ≤ 9223372036854775807 ∧ (∀ W, Pr n pr bc dc rt w0 X W A A → Calls Tryd.prog 34 #[.pointer (some ⟨bc, 0, none⟩), .int .i64 m] W fun e w' => e = .returned (.tuple #[.int .i64 x, .int .i64 r]) ∧ Pr n pr bc dc rt w0 X w' A' A) ∧
    (∀ W, Pr n pr bc dc rt w0 X W A' A → Calls Tryd.prog 41 #[.pointer (some ⟨dc, 0, none⟩), .int .i64 m] W fun e w' => e = .returned (.tuple #[.int .i64 x, .int .i64 r]) ∧ Pr n pr bc dc rt w0 X w' A' A') := by
  obtain ⟨A', x, r, c⟩ := Pgs7.ex n A m
  · refine ⟨x, r, A', by have := pgs_le hn c; omega, fun W h => h.left fun F a => (oc_pages a c hm).mono fun e w' ⟨he, k1, k2⟩ => ⟨he, Nx.of k1 k2⟩, fun W h => h.right fun F2 v D e k => ?_⟩
    subst e
    cases c with
    | no r hr hno => exact (dPages_no k hm r hr hno).mono fun e w' ⟨he, hl⟩ => ⟨he, D, rfl, hl⟩
    | ok b kk hk hr =>
      subst hk
      refine (dPages_ok k hr ?_).mono fun e w' ⟨he, q, hl⟩ => ⟨he, _, by rw [bks_app]; rfl, hl⟩
      exact bare_inv hi hr
omit hi hn in
theorem pair_give (x : Int) : ∃ r A', (∀ W, Pr n pr bc dc rt w0 X W A A → Calls Tryd.prog 35 #[.pointer (some ⟨bc, 0, none⟩), .int .i64 x] W fun e w' => e = .returned (.int .i64 r) ∧ Pr n pr bc dc rt w0 X w' A' A) ∧
    (∀ W, Pr n pr bc dc rt w0 X W A' A → Calls Tryd.prog 42 #[.pointer (some ⟨dc, 0, none⟩), .int .i64 x] W fun e w' => e = .returned (.int .i64 r) ∧ Pr n pr bc dc rt w0 X w' A' A') := by
  obtain ⟨A', r, c⟩ := Giv7.ex A x
  exact ⟨r, A', fun W h => h.left fun F a => (oc_give a c).mono fun e w' ⟨he, k1, k2⟩ => ⟨he, Nx.of k1 k2⟩, fun W h => h.right fun F2 v D e k => dgive_any k (by rw [e]; exact c)⟩
omit hi hn in
theorem pair_find (x : Int) (hx : x ≤ 9223372036854775807) : ∃ (a b : Int) (c : Bool), (∀ W, Pr n pr bc dc rt w0 X W A A → Calls Tryd.prog 25 #[.pointer (some ⟨bc, 0, none⟩), .int .i64 x] W fun e w' => e = .returned (.tuple #[.int .i64 a, .int .i64 b, .bool c]) ∧ Pr n pr bc dc rt w0 X w' A A) ∧
    (∀ W, Pr n pr bc dc rt w0 X W A A → Calls Tryd.prog 26 #[.pointer (some ⟨dc, 0, none⟩), .int .i64 x] W fun e w' => e = .returned (.tuple #[.int .i64 a, .int .i64 b, .bool c]) ∧ Pr n pr bc dc rt w0 X w' A A) := by
  by_cases hh : ∃ y i, Hit A x y i
  · obtain ⟨y, i, hh⟩ := hh
    exact ⟨_, _, true, fun W h => h.left fun F a => (oc_find a hh).mono fun e w' ⟨he, k1, k2⟩ => ⟨he, Nx.of k1 k2.wide⟩, fun W h => h.right fun F2 v D e k => by subst e; exact (dFind_yes k hx hh).mono fun e w' ⟨he, c⟩ => ⟨he, D, rfl, DLeft.same k c⟩⟩
  · have hn : NoHit A x := fun y i q => hh ⟨y, i, q⟩
    exact ⟨_, _, false, fun W h => h.left fun F a => (oc_find_no a hx hn).mono fun e w' ⟨he, k1, k2⟩ => ⟨he, Nx.of k1 k2.wide⟩, fun W h => h.right fun F2 v D e k => by subst e; exact (dFind_no k hx hn).mono fun e w' ⟨he, c⟩ => ⟨he, D, rfl, DLeft.same k c⟩⟩
omit hi hn in
theorem pair_used (x : Int) (hx : x ≤ 9223372036854775807) : ∃ (c : Bool), (∀ W, Pr n pr bc dc rt w0 X W A A → Calls Tryd.prog 27 #[.pointer (some ⟨bc, 0, none⟩), .int .i64 x] W fun e w' => e = .returned (.bool c) ∧ Pr n pr bc dc rt w0 X w' A A) ∧
    (∀ W, Pr n pr bc dc rt w0 X W A A → Calls Tryd.prog 28 #[.pointer (some ⟨dc, 0, none⟩), .int .i64 x] W fun e w' => e = .returned (.bool c) ∧ Pr n pr bc dc rt w0 X w' A A) :=
  ⟨covI A x, fun W h => h.left fun F a => (oc_used a x).mono fun e w' ⟨he, k1, k2⟩ => ⟨he, Nx.of k1 k2.wide⟩, fun W h => h.right fun F2 v D e k => by subst e; exact (dUsed_any x hx k).mono fun e w' ⟨he, c⟩ => ⟨he, D, rfl, DLeft.same k c⟩⟩
omit hi hn in
theorem pair_counts : ∃ (a b c : Int), (∀ W, Pr n pr bc dc rt w0 X W A A → Calls Tryd.prog 29 #[.pointer (some ⟨bc, 0, none⟩)] W fun e w' => e = .returned (.tuple #[.int .i64 a, .int .i64 b, .int .i64 c]) ∧ Pr n pr bc dc rt w0 X w' A A) ∧
    (∀ W, Pr n pr bc dc rt w0 X W A A → Calls Tryd.prog 30 #[.pointer (some ⟨dc, 0, none⟩)] W fun e w' => e = .returned (.tuple #[.int .i64 a, .int .i64 b, .int .i64 c]) ∧ Pr n pr bc dc rt w0 X w' A A) :=
  ⟨_, _, _, fun W h => h.left fun F a => (oc_counts a).mono fun e w' ⟨he, k1, k2⟩ => ⟨he, Nx.of k1 k2.wide⟩, fun W h => h.right fun F2 v D e k => by subst e; exact (dCounts_any k).mono fun e w' ⟨he, c⟩ => ⟨he, D, rfl, DLeft.same k c⟩⟩
end
end
end Go.Proofs.YtiboobaggpghjaaDoor

namespace Go.Proofs.YtiboobaggpghjaaDoor
open Go.ChangeShapes Go.WideShapes Go.ChangeAt Go.RowKit
def opA (z0 z1 z2 z3 : Int) : Array Value := #[.int .i64 z0, .int .i64 z1, .int .i64 z2, .int .i64 z3]
section
variable {n pr bc dc rt : Nat} {w0 W W' : World} {X : Nat → Option Obj} {A A2 : List Bk}
def bx (X : Nat → Option Obj) (g : Nat) (o : Obj) : Nat → Option Obj := fun i => if i = g then some o else X i
theorem bx_at (X : Nat → Option Obj) (g : Nat) (o : Obj) : bx X g o g = some o := by unfold bx; rw [if_pos rfl]
theorem Pr.box (h : Pr n pr bc dc rt w0 X W A A2) (o : Obj) : Pr n pr bc dc rt w0 (bx X W.heap.size o) (W.alloc o) A A2 :=
  h.turn ((Cha.refl (fun _ => False) W).alloc o) (fun _ f => f.elim) fun i x e => by
    unfold bx at e
    by_cases c : i = W.heap.size
    · subst c
      rw [if_pos rfl] at e
      injection e with e
      subst e
      exact ⟨heap_alloc_new W _, .inr (Nat.le_refl _)⟩
    · rw [if_neg c] at e
      have := h.row e
      exact ⟨((Cha.refl (fun _ => False) W).alloc o).old i (Array.getElem?_eq_some_iff.1 this).1 (fun f => f) |>.trans this, .inl (by rw [e]; simp)⟩
theorem Pr.unbox {g : Nat} {o : Obj} (h : Pr n pr bc dc rt w0 (bx X g o) W A A2) (hg : X g = none) : Pr n pr bc dc rt w0 X W A A2 :=
  h.turn (Cha.refl (fun _ => False) W) (fun _ f => f.elim) fun i x e => by
    have e2 : bx X g o i = some x := by
      unfold bx
      by_cases c : i = g
      · subst c; rw [hg] at e; cases e
      · rw [if_neg c]; exact e
    exact ⟨h.row e2, .inl (by rw [e2]; simp)⟩
theorem Pr.fresh_none (h : Pr n pr bc dc rt w0 X W A A2) : X W.heap.size = none := by
  cases e : X W.heap.size with
  | none => rfl
  | some o => have := (Array.getElem?_eq_some_iff.1 (h.row e)).1; omega
set_option maxRecDepth 100000 in
set_option maxHeartbeats 16000000 in
theorem one_any (z0 z1 z2 z3 : Int) (l1 : z1 ≤ 9223372036854775807) (l2 : z2 ≤ 9223372036854775807) (h : Pr n pr bc dc rt w0 X W A A) :
    Calls Tryd.prog 24 #[.pointer (some ⟨bc, 0, none⟩), .pointer (some ⟨dc, 0, none⟩), .agg #[.int .i64 z0, .int .i64 z1, .int .i64 z2, .int .i64 z3]] W fun e w' => ∃ a A', a ≤ 9223372036854775807 ∧ e = .returned (.tuple #[.int .i64 a, .bool true]) ∧ Pr n pr bc dc rt w0 X w' A' A' := by
  have HB := Lib.hid (h.box (.cells #[.int .i64 z0, .int .i64 z1, .int .i64 z2, .int .i64 z3] 41))
  have HI := Lib.hid h.inv
  have HN := Lib.hid h.le
  have XN := Lib.hid h.fresh_none
  have KX : Hid (∀ W1 A1 A2, Pr n pr bc dc rt w0 (bx X W.heap.size (.cells #[.int .i64 z0, .int .i64 z1, .int .i64 z2, .int .i64 z3] 41)) W1 A1 A2 → W1.cell? ⟨W.heap.size, 0, none⟩ = some (.int .i64 z0) ∧ W1.cell? ⟨W.heap.size, 1, none⟩ = some (.int .i64 z1) ∧ W1.cell? ⟨W.heap.size, 2, none⟩ = some (.int .i64 z2)) := Lib.hid fun W1 A1 A2 k => by
    have r := k.row (bx_at _ _ _)
    exact ⟨cell_of_row _ _ 0 _ 41 (0, 0) r, cell_of_row _ _ 1 _ 41 (0, 0) r, cell_of_row _ _ 2 _ 41 (0, 0) r⟩
  have UN : Hid (∀ W1 A1, Pr n pr bc dc rt w0 (bx X W.heap.size (.cells #[.int .i64 z0, .int .i64 z1, .int .i64 z2, .int .i64 z3] 41)) W1 A1 A1 → Pr n pr bc dc rt w0 X W1 A1 A1) := Lib.hid fun W1 A1 k => k.unbox XN.out
  clear h
  generalize hX1 : bx X W.heap.size (.cells #[.int .i64 z0, .int .i64 z1, .int .i64 z2, .int .i64 z3] 41) = X1 at *
  clear hX1
  obtain ⟨k0, k1, k2⟩ := KX.out _ _ _ HB.out
  by_cases h0 : z0 = 0
  · subst h0
    obtain ⟨x, y, A', hx, q1, q2⟩ := pair_alloc (bc := bc) (dc := dc) (rt := rt) (A := A) (n := n) (pr := pr) w0 X1 HI.out HN.out z1 z2 l2
    have CP := Lib.hid q1
    have CD := Lib.hid q2
    clear q1 q2
    go_enter Tryd.func24, Tryd.ntmps24
    go_wp2_with (first
      | (go_at_call 31; ((with_reducible refine (CP.out _ HB.out).mono ?_); rintro e w5 ⟨rfl, h⟩; have H5 := Lib.hid h; obtain ⟨-, m1, m2⟩ := KX.out _ _ _ h; clear h))
      | (go_at_call 38; ((with_reducible refine (CD.out _ H5.out).mono ?_); rintro e w6 ⟨rfl, h⟩; have H6 := Lib.hid h; clear h)))
    go_ret2
    exact ⟨x, A', hx, by first | rfl | simp, UN.out _ _ H6.out⟩
  · have h01 : (z0 == 0) = false := by simpa using h0
    by_cases h1 : z0 = 1
    · subst h1
      clear h0 h01
      obtain ⟨y, A', q1, q2⟩ := pair_free (bc := bc) (dc := dc) (rt := rt) (A := A) (n := n) (pr := pr) w0 X1 z1 l1
      have CP := Lib.hid q1
      have CD := Lib.hid q2
      clear q1 q2
      have KS : Hid (∀ w' A1 A2, Pr n pr bc dc rt w0 X1 w' A1 A2 → w'.cell? ⟨W.heap.size, 1, none⟩ = some (.int .i64 z1)) := Lib.hid fun w' A1 A2 h => (KX.out _ _ _ h).2.1
      go_enter Tryd.func24, Tryd.ntmps24
      go_wp2
      have HB1 := Lib.hid (HB.out.same ((Cha.refl _ _).drew))
      go_region_held3 (fun w' => w'.cell? ⟨W.heap.size, 1, none⟩ = some (.int .i64 z1))
        (first
          | exact (KX.out _ _ _ HB1.out).2.1
          | exact KS.out _ _ _ (by assumption)
          | go_keep)
        (first
          | (go_at_call 32; refine (CP.out _ HB1.out).mono ?_; rintro e5 w5 ⟨rfl, hH5⟩)
          | (go_at_call 39; refine (CD.out _ hH5).mono ?_; rintro e6 w6 ⟨rfl, hH6⟩))
      all_goals
        have H6 := Lib.hid hH6
        clear hH5 hH6
        go_wp2
        go_ret2
        exact ⟨0, A', by omega, by first | rfl | simp, UN.out _ _ H6.out⟩
    · have h11 : (z0 == 1) = false := by simpa using h1
      by_cases h2 : z0 = 2
      · subst h2
        clear h0 h01 h1 h11
        obtain ⟨y, A', q1, q2⟩ := pair_flush (bc := bc) (dc := dc) (rt := rt) (A := A) (n := n) (pr := pr) w0 X1 z1
        have CP := Lib.hid q1
        have CD := Lib.hid q2
        clear q1 q2
        have KS : Hid (∀ w' A1 A2, Pr n pr bc dc rt w0 X1 w' A1 A2 → w'.cell? ⟨W.heap.size, 1, none⟩ = some (.int .i64 z1)) := Lib.hid fun w' A1 A2 h => (KX.out _ _ _ h).2.1
        go_enter Tryd.func24, Tryd.ntmps24
        go_wp2
        have HB1 := Lib.hid (HB.out.same ((Cha.refl _ _).drew))
        go_region_held3 (fun w' => w'.cell? ⟨W.heap.size, 1, none⟩ = some (.int .i64 z1))
          (first
            | exact (KX.out _ _ _ HB1.out).2.1
            | exact KS.out _ _ _ (by assumption)
            | go_keep)
          (first
            | (go_at_call 33; refine (CP.out _ HB1.out).mono ?_; rintro e5 w5 ⟨rfl, hH5⟩)
            | (go_at_call 40; refine (CD.out _ hH5).mono ?_; rintro e6 w6 ⟨rfl, hH6⟩))
        all_goals
          have H6 := Lib.hid hH6
          clear hH5 hH6
          go_wp2
          go_ret2
          exact ⟨0, A', by omega, by first | rfl | simp, UN.out _ _ H6.out⟩
      · have h21 : (z0 == 2) = false := by simpa using h2
        by_cases h3 : z0 = 3
        · subst h3
          clear h0 h01 h1 h11 h2 h21
          obtain ⟨x, y, A', hx, q1, q2⟩ := pair_pages (bc := bc) (dc := dc) (rt := rt) (A := A) (n := n) (pr := pr) w0 X1 HI.out HN.out z2 l2
          have CP := Lib.hid q1
          have CD := Lib.hid q2
          clear q1 q2
          go_enter Tryd.func24, Tryd.ntmps24
          go_wp2_with (first
            | (go_at_call 34; ((with_reducible refine (CP.out _ HB.out).mono ?_); rintro e w5 ⟨rfl, h⟩; have H5 := Lib.hid h; obtain ⟨-, m1, m2⟩ := KX.out _ _ _ h; clear h))
            | (go_at_call 41; ((with_reducible refine (CD.out _ H5.out).mono ?_); rintro e w6 ⟨rfl, h⟩; have H6 := Lib.hid h; clear h)))
          go_ret2
          exact ⟨x, A', hx, by first | rfl | simp, UN.out _ _ H6.out⟩
        · have h31 : (z0 == 3) = false := by simpa using h3
          by_cases h4 : z0 = 4
          · subst h4
            clear h0 h01 h1 h11 h2 h21 h3 h31
            obtain ⟨y, A', q1, q2⟩ := pair_give (bc := bc) (dc := dc) (rt := rt) (A := A) (n := n) (pr := pr) w0 X1 z1
            have CP := Lib.hid q1
            have CD := Lib.hid q2
            clear q1 q2
            have KS : Hid (∀ w' A1 A2, Pr n pr bc dc rt w0 X1 w' A1 A2 → w'.cell? ⟨W.heap.size, 1, none⟩ = some (.int .i64 z1)) := Lib.hid fun w' A1 A2 h => (KX.out _ _ _ h).2.1
            go_enter Tryd.func24, Tryd.ntmps24
            go_wp2
            have HB1 := Lib.hid (HB.out.same ((Cha.refl _ _).drew))
            go_region_held3 (fun w' => w'.cell? ⟨W.heap.size, 1, none⟩ = some (.int .i64 z1))
              (first
                | exact (KX.out _ _ _ HB1.out).2.1
                | exact KS.out _ _ _ (by assumption)
                | go_keep)
              (first
                | (go_at_call 35; refine (CP.out _ HB1.out).mono ?_; rintro e5 w5 ⟨rfl, hH5⟩)
                | (go_at_call 42; refine (CD.out _ hH5).mono ?_; rintro e6 w6 ⟨rfl, hH6⟩))
            all_goals
              have H6 := Lib.hid hH6
              clear hH5 hH6
              go_wp2
              go_ret2
              exact ⟨0, A', by omega, by first | rfl | simp, UN.out _ _ H6.out⟩
          · have h41 : (z0 == 4) = false := by simpa using h4
            go_enter Tryd.func24, Tryd.ntmps24
            go_wp2
            go_ret2
            exact ⟨0, A, by omega, rfl, UN.out _ _ HB.out⟩
end
end Go.Proofs.YtiboobaggpghjaaDoor
