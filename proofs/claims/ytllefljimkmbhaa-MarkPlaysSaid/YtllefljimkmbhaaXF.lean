/- The law's changes: what Root and Set leave. -/
import Derived.Test.YtllefljimkmbhaaXD
namespace Go.Proofs.Ytllefljimkmbhaa
open Go.ChangeShapes Go.WideShapes Go.ChangeAt Go.RowKit
variable {w w' w1 w2 w3 W W' : World} {F S : Nat → Prop} {bg bd : Nat} {g : Gr} {K : Nat → Prop}

/-- A graph and the objects beside it: what may be loaded. -/
structure See (W : World) (bg bd : Nat) (g : Gr) (bv ov cv br or cr : Nat) (f2 : Nat → Nat) : Prop where
  c0 : W.cell? ⟨bd, 0, none⟩ = some (.slice (some ⟨bv, ov, none⟩) (g.n + 1) cv)
  c1 : W.cell? ⟨bd, 1, none⟩ = some (.slice (some ⟨br, or, none⟩) g.roots.length cr)
  lbd : bd < W.heap.size
  lbv : bv < W.heap.size
  lbr : br < W.heap.size
  m1 : cr ≤ maxLen
  m2 : g.roots.length ≤ cr
  m3 : cv ≤ maxLen
  m4 : g.n + 1 ≤ cv
  fl : ∀ id, 1 ≤ id → id ≤ g.n → W.cell? ⟨bv, ov + id, none⟩ = some (.slice (some ⟨f2 id, 0, none⟩) (g.fs id).length (g.fs id).length) ∧ f2 id < W.heap.size ∧ ∀ i, i < (g.fs id).length → W.cell? ⟨f2 id, i, none⟩ = some (.int .i64 (((g.fs id).getD i 0 : Nat) : Int)) ∧ W.frozen? ⟨f2 id, i, none⟩ = false
  pk : ∀ W9 (z : Int), Cha (fun _ => False) W W9 → Calls Try.prog 45 #[.pointer (some ⟨bd, 0, none⟩), .int .i64 z] W9 fun e w => e = .returned (.int .i64 (g.px z : Int)) ∧ ∃ m, w = W9.drewN m
/-- A root more. -/
theorem lay_kit (h : Duo bg bd g W F) (hr : 0 < g.roots.length) (X f : Nat) (hX : X ∈ g.roots) (hf : f < (g.fs X).length) (t : Nat) (ht : t = (g.fs X).getD f 0) (h0 : t ≠ 0) (h4 : g.roots.length < 4096) :
    ∃ (bv ov cv br or cr : Nat) (f2 : Nat → Nat), See W bg bd g bv ov cv br or cr f2 ∧
      ∀ W9, Cha (fun _ => False) W W9 → Lies inE W9 (.slice (some ⟨br, or, none⟩) g.roots.length cr) g.roots ∧
        ∀ wb b o cap, App inE W9 wb (.slice (some ⟨br, or, none⟩) g.roots.length cr) g.roots [t] b o cap → wb.cell? ⟨bd, 1, none⟩ = some (.slice (some ⟨br, or, none⟩) g.roots.length cr) ∧ wb.frozen? ⟨bd, 1, none⟩ = false ∧
          Calls Try.prog 16 #[.pointer (some ⟨bg, 0, none⟩), .int .i64 (X : Int), .int .i64 (f : Int)] (wb.setCell ⟨bd, 1, none⟩ (.slice (some ⟨b, o, none⟩) (g.roots.length + 1) cap)) fun e w => e = .returned (.int .i64 0) ∧ Goes (Duo bg bd ((g.lay t).shade t)) W w F := by
  obtain ⟨K, hi⟩ := duo_inv h
  obtain ⟨F2, vf, vr, f2, T, q⟩ := duo_im h
  obtain ⟨x0, x1, _⟩ := q.facts
  obtain ⟨bv, ov, cv, ev, hv1, hv2, hv3⟩ := q.sls
  obtain ⟨ar, cr, er, hr1, hr2, hr3⟩ := q.lr.ints
  obtain ⟨br, or, rfl, hr4⟩ := hr3 (by omega)
  have lbv := q.old _ (q.tv bv (by rw [ev]; rfl)).2
  have lbr := q.old _ (q.tr br (by rw [er]; rfl)).2
  have lbd := q.old _ q.tg.2
  subst ev er
  refine ⟨bv, ov, cv, br, or, cr, f2, ⟨x0, x1, lbd, lbv, lbr, hr2, hr1, hv2, hv1, fun id a b => ⟨hv3 id a b, q.old _ (q.tf id a b).2, fun i hi => q.fc a b hi⟩, fun W9 z c => pick_any (q.same c) z (by omega)⟩, fun W9 c => ?_⟩
  have q9 := q.same c
  refine ⟨q9.lr, fun wb b o cap hA => ?_⟩
  have e3 : wb.heap[bd]? = _ := (hA.cha.old bd (q9.old _ q9.tg.2) (fun e => (q9.br e).1 rfl)).trans q9.head
  refine ⟨cell_of_row wb bd 1 _ 61 (0, 0) e3, frozen_of_row wb bd 1 _ 61 e3, ?_⟩
  have r8 := q.r8
  have hk := hi.kroot _ hX
  have hm : t ∈ g.fs X := by
    rw [ht]
    have e : (g.fs X).getD f 0 = (g.fs X)[f] := by simp [hf]
    rw [e]; exact List.getElem_mem hf
  have hG : Goes (Star (PgA bg g) (IdA bd g.n g.fs (g.roots ++ [t]))) W (wb.setCell ⟨bd, 1, none⟩ (.slice (some ⟨b, o, none⟩) (g.roots.length + 1) cap)) F := by
    have h9 := (fit_duo bg bd g).same h c
    refine Goes.before c (Star.right (fit_pg _ _) (fit_id _ _ _ _) h9 fun F1 ⟨vf1, vr1, f1, T1, q1⟩ => ?_)
    have y1 := q1.facts.2.1
    rw [q9.facts.2.1] at y1
    injection y1 with y1
    subst y1
    have hv := hA.v
    obtain ⟨F3, T3, q3, d3, n3⟩ := q1.onRoots (L := g.roots ++ [t]) hv.lies hv.cha hv.at' (by simp; omega)
    exact ⟨F3, ⟨_, _, _, _, q3⟩, d3, n3⟩
  refine hG.call fun F1 st => (Star.stepL (fit_pg _ _) (fit_id _ _ _ _) st fun F3 p => root_any p (X : Int) (f : Int)).mono fun e w ⟨a, b⟩ => ?_
  have hroot : g.isRoot (X : Int) = true := (isRoot_iff _).2 ⟨by omega, by simpa using hX⟩
  have hget : g.get (X : Int) (f : Int) = ((t : Int), 0) := by
    unfold Gr.get
    rw [if_pos hroot, if_neg (by rw [Int.toNat_natCast]; omega), Int.toNat_natCast, Int.toNat_natCast, ← ht]
  have er : g.rootR (X : Int) (f : Int) = (0, (g.lay t).shade t) := by
    unfold Gr.rootR
    rw [hget, if_pos rfl, if_neg (by omega), if_neg (by omega), Int.toNat_natCast]
  rw [er] at a b
  refine ⟨a, ?_⟩
  unfold Duo
  rw [shade_n, shade_fs, shade_roots]
  exact b
/-- A field is written. -/
theorem set_kit (h : Duo bg bd g W F) (hr : 0 < g.roots.length) (X f t : Nat) (hX : X ∈ g.roots) (hf : f < (g.fs X).length) (ht : t ∈ g.roots) :
    ∃ (bv ov cv br or cr : Nat) (f2 : Nat → Nat), See W bg bd g bv ov cv br or cr f2 ∧
      ∀ W9, Cha (fun _ => False) W W9 → Calls Try.prog 18 #[.pointer (some ⟨bg, 0, none⟩), .int .i64 (X : Int), .int .i64 (f : Int), .int .i64 (t : Int)] (W9.setCell ⟨f2 X, f, none⟩ (.int .i64 (t : Int))) fun e w => e = .returned (.int .i64 0) ∧ Goes (Duo bg bd (g.set X f t)) W w F := by
  obtain ⟨K, hi⟩ := duo_inv h
  obtain ⟨F1, F2, p, ⟨vf, vr, f2, T, q⟩, dj, i1, i2, od⟩ := h
  have h : Duo bg bd g W F := ⟨F1, F2, p, ⟨vf, vr, f2, T, q⟩, dj, i1, i2, od⟩
  obtain ⟨x0, x1, _⟩ := q.facts
  obtain ⟨bv, ov, cv, ev, hv1, hv2, hv3⟩ := q.sls
  obtain ⟨ar, cr, er, hr1, hr2, hr3⟩ := q.lr.ints
  obtain ⟨br, or, rfl, hr4⟩ := hr3 (by omega)
  have lbv := q.old _ (q.tv bv (by rw [ev]; rfl)).2
  have lbr := q.old _ (q.tr br (by rw [er]; rfl)).2
  have lbd := q.old _ q.tg.2
  have hk := hi.kroot _ hX
  refine ⟨bv, ov, cv, br, or, cr, f2, ⟨by rw [x0, ev], by rw [x1, er], lbd, lbv, lbr, hr2, hr1, hv2, hv1, fun id a b => ⟨hv3 id a b, q.old _ (q.tf id a b).2, fun i hi => q.fc a b hi⟩, fun W9 z c => pick_any (q.same c) z (by omega)⟩, fun W9 c => ?_⟩
  have hG : Goes (Star (PgA bg g) (IdA bd g.n (up g.fs X ((g.fs X).set f t)) g.roots)) W (W9.setCell ⟨f2 X, f, none⟩ (.int .i64 (t : Int))) F := by
    refine Goes.before c ⟨F, ?_, ?_⟩
    · obtain ⟨q3, d3⟩ := (q.same c).fill (t := t) hk.2.1 hk.2.2 hf
      have p9 := (fit_pg bg g).cha ((fit_pg bg g).same p c) d3 (fun i x y => dj i x y)
      exact ⟨F1, F2, p9, ⟨_, _, _, _, q3⟩, dj, i1, i2, fun i x => Nat.lt_of_lt_of_le (od i x) (Nat.le_trans c.size d3.size)⟩
    · obtain ⟨q3, d3⟩ := (q.same c).fill (t := t) hk.2.1 hk.2.2 hf
      exact ⟨d3.mono fun i _ x => i2 i x, fun i x => .inl x⟩
  refine hG.call fun F3 st => (Star.stepL (fit_pg _ _) (fit_id _ _ _ _) st fun F4 p => set_any p (X : Int) (f : Int) (t : Int)).mono fun e w ⟨a, b⟩ => ?_
  have r1 : g.isRoot (X : Int) = true := (isRoot_iff _).2 ⟨by omega, by simpa using hX⟩
  have r2 : g.isRoot (t : Int) = true := (isRoot_iff _).2 ⟨by omega, by simpa using ht⟩
  have es : g.setR (X : Int) (f : Int) (t : Int) = (0, g.set X f t) := by
    unfold Gr.setR
    rw [if_pos ⟨r1, .inr r2⟩, if_neg (by rw [Int.toNat_natCast]; omega), Int.toNat_natCast, Int.toNat_natCast, Int.toNat_natCast]
  rw [es] at a b
  refine ⟨a, ?_⟩
  have k1 : (g.set X f t).n = g.n := by unfold Gr.set; show ((g.shade _).shade t).n = g.n; rw [shade_n, shade_n]
  have k2 : (g.set X f t).fs = up g.fs X ((g.fs X).set f t) := by
    unfold Gr.set Gr.write
    show up ((g.shade _).shade t).fs X ((((g.shade _).shade t).fs X).set f t) = _
    rw [shade_fs, shade_fs]
  have k3 : (g.set X f t).roots = g.roots := by unfold Gr.set; show ((g.shade _).shade t).roots = g.roots; rw [shade_roots, shade_roots]
  unfold Duo
  rw [k1, k2, k3]
  exact b
/-- An object without fields: nothing is written. -/
theorem no_kit (h : Duo bg bd g W F) (hr : 0 < g.roots.length) : ∃ (bv ov cv br or cr : Nat) (f2 : Nat → Nat), See W bg bd g bv ov cv br or cr f2 ∧
      (∀ X t : Nat, X ∈ g.roots → t ∈ g.roots → (g.fs X).length = 0 → ∀ W9, Cha (fun _ => False) W W9 → Calls Try.prog 18 #[.pointer (some ⟨bg, 0, none⟩), .int .i64 (X : Int), .int .i64 0, .int .i64 (t : Int)] W9 fun e w => e = .returned (.int .i64 1) ∧ Goes (Duo bg bd g) W w F) := by
  obtain ⟨K, hi⟩ := duo_inv h
  obtain ⟨F2, vf, vr, f2, T, q⟩ := duo_im h
  obtain ⟨x0, x1, _⟩ := q.facts
  obtain ⟨bv, ov, cv, ev, hv1, hv2, hv3⟩ := q.sls
  obtain ⟨ar, cr, er, hr1, hr2, hr3⟩ := q.lr.ints
  obtain ⟨br, or, rfl, hr4⟩ := hr3 (by omega)
  have lbv := q.old _ (q.tv bv (by rw [ev]; rfl)).2
  have lbr := q.old _ (q.tr br (by rw [er]; rfl)).2
  have lbd := q.old _ q.tg.2
  refine ⟨bv, ov, cv, br, or, cr, f2, ⟨by rw [x0, ev], by rw [x1, er], lbd, lbv, lbr, hr2, hr1, hv2, hv1, fun id a b => ⟨hv3 id a b, q.old _ (q.tf id a b).2, fun i hi => q.fc a b hi⟩, fun W9 z c => pick_any (q.same c) z (by omega)⟩, fun X t hX ht h0 W9 c => ?_⟩
  have h9 := (fit_duo bg bd g).same h c
  refine (Star.stepL (fit_pg _ _) (fit_id _ _ _ _) h9 fun F3 p => set_any p (X : Int) 0 (t : Int)).mono fun e w ⟨a, b⟩ => ?_
  have r1 : g.isRoot (X : Int) = true := (isRoot_iff _).2 ⟨by omega, by simpa using hX⟩
  have r2 : g.isRoot (t : Int) = true := (isRoot_iff _).2 ⟨by omega, by simpa using ht⟩
  have es : g.setR (X : Int) 0 (t : Int) = (1, g) := by
    unfold Gr.setR
    rw [if_pos ⟨r1, .inr r2⟩, if_pos (by rw [Int.toNat_natCast]; omega)]
  rw [es] at a b
  exact ⟨a, b.before c⟩
end Go.Proofs.Ytllefljimkmbhaa
