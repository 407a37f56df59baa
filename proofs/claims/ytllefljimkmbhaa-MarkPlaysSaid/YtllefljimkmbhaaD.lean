/- A graph in memory: each single change. -/
import Derived.Test.YtllefljimkmbhaaC
namespace Go.Proofs.Ytllefljimkmbhaa
open Go.ChangeShapes Go.WideShapes Go.ChangeAt Go.RowKit
variable {w w' w1 W W' : World} {F S : Nat → Prop} {bg : Nat} {vo vr vq : Value} {q f T : Nat → Nat} {g : Gr} {lv : Int} {rt : Nat → Int}

theorem Cha.at (w : World) (b i : Nat) (v : Value) : Cha (fun j => j = b) w (w.setCell ⟨b, i, none⟩ v) := (Cha.refl (fun j => j = b) w).setCell (p := ⟨b, i, none⟩) (fun _ => rfl) v
/-- A graph, wherever its parts lie. -/
def PmX (bg : Nat) (g : Gr) (lv : Int) (rt : Nat → Int) : Asn := fun w F => ∃ vo vr vq q f T, Pm w F bg vo vr vq q f T g lv rt
theorem fit_pmX (bg : Nat) (g : Gr) (lv : Int) (rt : Nat → Int) : Fit (PmX bg g lv rt) :=
  ⟨fun ⟨a1, a2, a3, a4, a5, a6, h⟩ c hs => ⟨a1, a2, a3, a4, a5, a6, h.cha c hs⟩, fun ⟨_, _, _, _, _, _, h⟩ => h.old⟩
theorem Pm.x (h : Pm w F bg vo vr vq q f T g lv rt) : PmX bg g lv rt w F := ⟨_, _, _, _, _, _, h⟩

theorem Pm.bgq (h : Pm w F bg vo vr vq q f T g lv rt) {id : Nat} (k : g.col id ≠ 0) : q id ≠ bg := fun e => by have := (h.tob id k).1; rw [e, h.tg.1] at this; omega
theorem Pm.bgf (h : Pm w F bg vo vr vq q f T g lv rt) {id : Nat} (k : g.col id ≠ 0) : f id ≠ bg := fun e => by have := (h.tf id k).1; rw [e, h.tg.1] at this; omega
theorem Pm.fq (h : Pm w F bg vo vr vq q f T g lv rt) {id j : Nat} (k : g.col id ≠ 0) (l : g.col j ≠ 0) : f id ≠ q j := fun e => by have := (h.tf id k).1; rw [e, (h.tob j l).1] at this; omega
theorem Pm.qq (h : Pm w F bg vo vr vq q f T g lv rt) {id j : Nat} (k : g.col id ≠ 0) (l : g.col j ≠ 0) (n : id ≠ j) : q id ≠ q j := fun e => by have := (h.tob id k).1; rw [e, (h.tob j l).1] at this; omega
theorem Pm.ff (h : Pm w F bg vo vr vq q f T g lv rt) {id j : Nat} (k : g.col id ≠ 0) (l : g.col j ≠ 0) (n : id ≠ j) : f id ≠ f j := fun e => by have := (h.tf id k).1; rw [e, (h.tf j l).1] at this; omega
theorem Pm.bo (h : Pm w F bg vo vr vq q f T g lv rt) {b : Nat} (e : vo.ownBlock = some b) : b ≠ bg ∧ (∀ id, g.col id ≠ 0 → b ≠ q id ∧ b ≠ f id) ∧ vr.ownBlock ≠ some b ∧ vq.ownBlock ≠ some b := by
  have t := (h.tv b e).1
  refine ⟨fun c => by rw [c, h.tg.1] at t; omega, fun id k => ⟨fun c => by rw [c, (h.tob id k).1] at t; omega, fun c => by rw [c, (h.tf id k).1] at t; omega⟩, fun c => by rw [(h.tr b c).1] at t; omega, fun c => by rw [(h.tq b c).1] at t; omega⟩
theorem Pm.br (h : Pm w F bg vo vr vq q f T g lv rt) {b : Nat} (e : vr.ownBlock = some b) : b ≠ bg ∧ (∀ id, g.col id ≠ 0 → b ≠ q id ∧ b ≠ f id) ∧ vo.ownBlock ≠ some b ∧ vq.ownBlock ≠ some b := by
  have t := (h.tr b e).1
  refine ⟨fun c => by rw [c, h.tg.1] at t; omega, fun id k => ⟨fun c => by rw [c, (h.tob id k).1] at t; omega, fun c => by rw [c, (h.tf id k).1] at t; omega⟩, fun c => by rw [(h.tv b c).1] at t; omega, fun c => by rw [(h.tq b c).1] at t; omega⟩
theorem Pm.bq (h : Pm w F bg vo vr vq q f T g lv rt) {b : Nat} (e : vq.ownBlock = some b) : b ≠ bg ∧ (∀ id, g.col id ≠ 0 → b ≠ q id ∧ b ≠ f id) ∧ vo.ownBlock ≠ some b ∧ vr.ownBlock ≠ some b := by
  have t := (h.tq b e).1
  refine ⟨fun c => by rw [c, h.tg.1] at t; omega, fun id k => ⟨fun c => by rw [c, (h.tob id k).1] at t; omega, fun c => by rw [c, (h.tf id k).1] at t; omega⟩, fun c => by rw [(h.tv b c).1] at t; omega, fun c => by rw [(h.tr b c).1] at t; omega⟩

/-- The head's numbers. -/
theorem Pm.onHead (h : Pm w F bg vo vr vq q f T g lv rt) {g' : Gr} {lv' : Int} (c : Cha (fun i => i = bg) w w') (hh : w'.heap[bg]? = some (.cells (g'.head lv' vo vr vq) 71 (0, 0)))
    (en : g'.n = g.n) (ec : g'.col = g.col) (ef : g'.fs = g.fs) (er : g'.roots = g.roots) (eq : g'.greys = g.greys) (sz : Sz g') : Pm w' F bg vo vr vq q f T g' lv' rt := by
  refine { head := hh, los := ?_, lrs := ?_, lqs := ?_, obj := fun id k => ?_, fld := fun id k => ?_, tg := h.tg, tv := h.tv, tr := h.tr, tq := h.tq, tob := by rw [ec]; exact h.tob, tf := by rw [ec]; exact h.tf, sz := sz, old := fun i x => Nat.lt_of_lt_of_le (h.old i x) c.size }
  · rw [en, ec]; exact h.los.cha c fun b e x => (h.bo e).1 x
  · rw [er]; exact h.lrs.cha c fun b e x => (h.br e).1 x
  · rw [eq]; exact h.lqs.cha c fun b e x => (h.bq e).1 x
  · rw [ec] at k
    have := (c.old _ (h.old _ (h.tob id k).2) (h.bgq k)).trans (h.obj id k)
    rw [this]; unfold Gr.cells; rw [ec, ef]
  · rw [ec] at k
    rw [ef]
    exact c.row (h.fld id k) (h.bgf k)
theorem Pm.put (h : Pm w F bg vo vr vq q f T g lv rt) {g' : Gr} {lv' : Int} (i : Nat) (v : Value) (hv : (g.head lv vo vr vq).setIfInBounds i v = g'.head lv' vo vr vq)
    (en : g'.n = g.n) (ec : g'.col = g.col) (ef : g'.fs = g.fs) (er : g'.roots = g.roots) (eq : g'.greys = g.greys) (sz : Sz g') : Pm (w.setCell ⟨bg, i, none⟩ v) F bg vo vr vq q f T g' lv' rt ∧ Cha F w (w.setCell ⟨bg, i, none⟩ v) :=
  ⟨h.onHead (Cha.at w bg i v) (by rw [heap_setCell_same w bg i _ 71 v h.head, hv]) en ec ef er eq sz, (Cha.refl _ w).setCell (p := ⟨bg, i, none⟩) (fun _ => h.tg.2) v⟩
/-- An object's colour. -/
theorem Pm.paint (h : Pm w F bg vo vr vq q f T g lv rt) {id c : Nat} (k : g.col id ≠ 0) (hc : 1 ≤ c) (h3 : c ≤ 3) :
    Pm (w.setCell ⟨q id, 0, none⟩ (.int .i64 ((c - 1 : Nat) : Int))) F bg vo vr vq q f T { g with col := up g.col id c } lv rt ∧ Cha F w (w.setCell ⟨q id, 0, none⟩ (.int .i64 ((c - 1 : Nat) : Int))) := by
  have hz : ∀ j, up g.col id c j ≠ 0 ↔ g.col j ≠ 0 := fun j => by unfold up; split; (rename_i e; subst e; exact ⟨fun _ => k, fun _ => by omega⟩); rfl
  have cc : Cha (fun i => i = q id) w (w.setCell ⟨q id, 0, none⟩ (.int .i64 ((c - 1 : Nat) : Int))) := Cha.at w (q id) 0 _
  refine ⟨{ head := ?_, los := ?_, lrs := h.lrs.cha cc fun b e x => ((h.br e).2.1 id k).1 x, lqs := h.lqs.cha cc fun b e x => ((h.bq e).2.1 id k).1 x, obj := fun j l => ?_, fld := fun j l => ?_, tg := h.tg, tv := h.tv, tr := h.tr, tq := h.tq, tob := fun j l => h.tob j ((hz j).1 l), tf := fun j l => h.tf j ((hz j).1 l), sz := ?_, old := fun i x => Nat.lt_of_lt_of_le (h.old i x) cc.size }, cc.mono fun i _ e => e ▸ (h.tob id k).2⟩
  · exact (cc.old bg (h.old _ h.tg.2) (fun e => h.bgq k e.symm)).trans h.head
  · have e : ptrs g.n (up g.col id c) q = ptrs g.n g.col q := ptrs_congr fun j _ _ => ⟨⟨fun z => Decidable.byContradiction fun y => absurd z ((hz j).2 y), fun z => Decidable.byContradiction fun y => absurd z ((hz j).1 y)⟩, fun _ => rfl⟩
    show Lies ptE _ vo (ptrs g.n (up g.col id c) q)
    rw [e]
    exact h.los.cha cc fun b e x => ((h.bo e).2.1 id k).1 x
  · have l := (hz j).1 l
    by_cases e : j = id
    · subst e
      rw [heap_setCell_same w (q j) 0 _ 74 _ (h.obj j k)]
      show some (Obj.cells _ 74 (0, 0)) = some (Obj.cells (Gr.cells { g with col := up g.col j c } f rt j) 74 (0, 0))
      unfold Gr.cells
      show _ = some (Obj.cells #[.int .i64 ((up g.col j c j - 1 : Nat) : Int), _, _] 74 (0, 0))
      rw [up_same]
      rfl
    · rw [cc.old _ (h.old _ (h.tob j l).2) (h.qq l k e), h.obj j l]
      unfold Gr.cells
      show _ = some (Obj.cells #[.int .i64 ((up g.col id c j - 1 : Nat) : Int), _, _] 74 (0, 0))
      rw [up_other _ _ e]
  · exact cc.row (h.fld j ((hz j).1 l)) (h.fq ((hz j).1 l) k)
  · have s := h.sz
    exact ⟨s.n, s.r, s.q, s.f, s.thr, s.swp, s.ph, fun j => by show up g.col id c j ≤ 3; unfold up; split; exact h3; exact s.c3 j, fun j l => s.out j ((hz j).1 l)⟩
/-- How often an object is a root. -/
theorem Pm.count (h : Pm w F bg vo vr vq q f T g lv rt) {id : Nat} (k : g.col id ≠ 0) (v : Int) :
    Pm (w.setCell ⟨q id, 2, none⟩ (.int .i64 v)) F bg vo vr vq q f T g lv (up rt id v) ∧ Cha F w (w.setCell ⟨q id, 2, none⟩ (.int .i64 v)) := by
  have cc : Cha (fun i => i = q id) w (w.setCell ⟨q id, 2, none⟩ (.int .i64 v)) := Cha.at w (q id) 2 _
  refine ⟨{ head := ?_, los := h.los.cha cc fun b e x => ((h.bo e).2.1 id k).1 x, lrs := h.lrs.cha cc fun b e x => ((h.br e).2.1 id k).1 x, lqs := h.lqs.cha cc fun b e x => ((h.bq e).2.1 id k).1 x, obj := fun j l => ?_, fld := fun j l => cc.row (h.fld j l) (h.fq l k), tg := h.tg, tv := h.tv, tr := h.tr, tq := h.tq, tob := h.tob, tf := h.tf, sz := h.sz, old := fun i x => Nat.lt_of_lt_of_le (h.old i x) cc.size }, cc.mono fun i _ e => e ▸ (h.tob id k).2⟩
  · exact (cc.old bg (h.old _ h.tg.2) (fun e => h.bgq k e.symm)).trans h.head
  · by_cases e : j = id
    · subst e
      rw [heap_setCell_same w (q j) 2 _ 74 _ (h.obj j k)]
      unfold Gr.cells
      rw [up_same]
      rfl
    · rw [cc.old _ (h.old _ (h.tob j l).2) (h.qq l k e), h.obj j l]
      unfold Gr.cells
      rw [up_other _ _ e]
/-- A field. -/
theorem Pm.fill (h : Pm w F bg vo vr vq q f T g lv rt) {id i t : Nat} (k : g.col id ≠ 0) (hi : i < (g.fs id).length) :
    Pm (w.setCell ⟨f id, i, none⟩ (.int .i64 (t : Int))) F bg vo vr vq q f T (g.write id i t) lv rt ∧ Cha F w (w.setCell ⟨f id, i, none⟩ (.int .i64 (t : Int))) := by
  have cc : Cha (fun i => i = f id) w (w.setCell ⟨f id, i, none⟩ (.int .i64 (t : Int))) := Cha.at w (f id) i _
  have hlen : ∀ j, ((g.write id i t).fs j).length = (g.fs j).length := fun j => by show (up g.fs id ((g.fs id).set i t) j).length = _; unfold up; split; (rename_i e; subst e; rw [List.length_set]); rfl
  refine ⟨{ head := ?_, los := h.los.cha cc fun b e x => ((h.bo e).2.1 id k).2 x, lrs := h.lrs.cha cc fun b e x => ((h.br e).2.1 id k).2 x, lqs := h.lqs.cha cc fun b e x => ((h.bq e).2.1 id k).2 x, obj := fun j l => ?_, fld := fun j l => ?_, tg := h.tg, tv := h.tv, tr := h.tr, tq := h.tq, tob := h.tob, tf := h.tf, sz := ?_, old := fun i x => Nat.lt_of_lt_of_le (h.old i x) cc.size }, cc.mono fun i _ e => e ▸ (h.tf id k).2⟩
  · exact (cc.old bg (h.old _ h.tg.2) (fun e => h.bgf k e.symm)).trans h.head
  · have l : g.col j ≠ 0 := l
    rw [cc.old _ (h.old _ (h.tob j l).2) (fun e => h.fq k l e.symm), h.obj j l]
    unfold Gr.cells
    rw [hlen]
    rfl
  · have l : g.col j ≠ 0 := l
    rw [hlen]
    by_cases e : j = id
    · subst e
      refine ((h.fld j k).set (i := i) (.int .i64 (t : Int))).congr fun x hx => ?_
      show (if x = i then _ else rowV (g.fs j) x) = rowV (up g.fs j ((g.fs j).set i t) j) x
      rw [up_same]
      unfold rowV
      by_cases c : x = i
      · subst c
        rw [if_pos rfl]
        simp [List.getD, hi]
      · rw [if_neg c]
        simp only [List.getD, List.getElem?_set, if_neg (fun y : i = x => c y.symm)]
    · have := cc.row (h.fld j l) (h.ff l k e)
      refine this.congr fun x _ => ?_
      show rowV (g.fs j) x = rowV (up g.fs id ((g.fs id).set i t) j) x
      rw [up_other _ _ e]
  · have s := h.sz
    exact ⟨s.n, s.r, s.q, fun j => by rw [hlen]; exact s.f j, s.thr, s.swp, s.ph, s.c3, s.out⟩
/-- The roots' list. -/
theorem Pm.onRoots (h : Pm w F bg vo vr vq q f T g lv rt) {L : List Nat} {thr : Nat} {v' : Value} (hA : AppV inE w w1 vr L v') (ht : thr = g.thr) (sz : Sz { g with roots := L, thr := thr }) :
    ∃ F' T', Pm (w1.setCell ⟨bg, 4, none⟩ v') F' bg vo v' vq q f T' { g with roots := L, thr := thr } lv rt ∧ Cha F w (w1.setCell ⟨bg, 4, none⟩ v') ∧ ∀ i, F' i → F i ∨ w.heap.size ≤ i := by
  subst ht
  have cA : Cha F w w1 := hA.cha.mono fun i _ e => (h.tr i e).2
  have c4 : Cha (fun i => i = bg) w1 (w1.setCell ⟨bg, 4, none⟩ v') := Cha.at w1 (bg) 4 _
  have hhead : w1.heap[bg]? = some (.cells (g.head lv vo vr vq) 71 (0, 0)) := (hA.cha.old bg (h.old _ h.tg.2) (fun e => (h.br e).1 rfl)).trans h.head
  have nb : ∀ i, F i → vr.ownBlock ≠ some i → v'.ownBlock ≠ some i := fun i fi e e' => by
    rcases hA.at' i e' with k | k
    · exact e k
    · have := h.old i fi; omega
  have tt : ∀ i t, T i = t → F i → vr.ownBlock ≠ some i → (if v'.ownBlock = some i then 2 else T i) = t := fun i t e fi k => by rw [if_neg (nb i fi k)]; exact e
  refine ⟨fun i => F i ∨ v'.ownBlock = some i, fun i => if v'.ownBlock = some i then 2 else T i, { head := ?_, los := ?_, lrs := ?_, lqs := ?_, obj := fun id k => ?_, fld := fun id k => ?_, tg := ?_, tv := fun b e => ?_, tr := fun b e => ?_, tq := fun b e => ?_, tob := fun id k => ?_, tf := fun id k => ?_, sz := sz, old := fun i x => ?_ }, cA.trans (c4.mono fun i _ e => e ▸ h.tg.2), fun i x => ?_⟩
  · rw [heap_setCell_same w1 bg 4 _ 71 _ hhead]
    rfl
  · exact (h.los.cha hA.cha fun b e x => (h.bo e).2.2.1 x).cha c4 fun b e x => (h.bo e).1 x
  · refine hA.lies.cha c4 fun b e x => ?_
    subst x
    exact nb _ h.tg.2 (fun k => (h.br k).1 rfl) e
  · exact (h.lqs.cha hA.cha fun b e x => (h.bq e).2.2.2 x).cha c4 fun b e x => (h.bq e).1 x
  · have k : g.col id ≠ 0 := k
    exact (c4.old _ (Nat.lt_of_lt_of_le (h.old _ (h.tob id k).2) hA.cha.size) (h.bgq k)).trans ((hA.cha.old _ (h.old _ (h.tob id k).2) (fun e => ((h.br e).2.1 id k).1 rfl)).trans (h.obj id k))
  · have k : g.col id ≠ 0 := k
    exact c4.row (hA.cha.row (h.fld id k) (fun e => ((h.br e).2.1 id k).2 rfl)) (h.bgf k)
  · exact ⟨tt bg 0 h.tg.1 h.tg.2 (fun k => (h.br k).1 rfl), .inl h.tg.2⟩
  · exact ⟨tt b 1 (h.tv b e).1 (h.tv b e).2 (fun k => (h.bo e).2.2.1 k), .inl (h.tv b e).2⟩
  · exact ⟨if_pos e, .inr e⟩
  · exact ⟨tt b 3 (h.tq b e).1 (h.tq b e).2 (fun k => (h.bq e).2.2.2 k), .inl (h.tq b e).2⟩
  · exact ⟨tt _ _ (h.tob id k).1 (h.tob id k).2 (fun e => ((h.br e).2.1 id k).1 rfl), .inl (h.tob id k).2⟩
  · exact ⟨tt _ _ (h.tf id k).1 (h.tf id k).2 (fun e => ((h.br e).2.1 id k).2 rfl), .inl (h.tf id k).2⟩
  · rcases x with x | x
    · exact Nat.lt_of_lt_of_le (h.old i x) (Nat.le_trans hA.cha.size c4.size)
    · exact Nat.lt_of_lt_of_le (hA.lies.lt x) c4.size
  · rcases x with x | x
    · exact .inl x
    · exact (hA.at' i x).imp (fun e => (h.tr i e).2) id
/-- The grey ones' list. -/
theorem Pm.onGreys (h : Pm w F bg vo vr vq q f T g lv rt) {L : List Nat} {v' : Value} (hA : AppV inE w w1 vq L v') (sz : Sz { g with greys := L }) :
    ∃ F' T', Pm (w1.setCell ⟨bg, 6, none⟩ v') F' bg vo vr v' q f T' { g with greys := L } lv rt ∧ Cha F w (w1.setCell ⟨bg, 6, none⟩ v') ∧ ∀ i, F' i → F i ∨ w.heap.size ≤ i := by
  have cA : Cha F w w1 := hA.cha.mono fun i _ e => (h.tq i e).2
  have c4 : Cha (fun i => i = bg) w1 (w1.setCell ⟨bg, 6, none⟩ v') := Cha.at w1 (bg) 6 _
  have hhead : w1.heap[bg]? = some (.cells (g.head lv vo vr vq) 71 (0, 0)) := (hA.cha.old bg (h.old _ h.tg.2) (fun e => (h.bq e).1 rfl)).trans h.head
  have nb : ∀ i, F i → vq.ownBlock ≠ some i → v'.ownBlock ≠ some i := fun i fi e e' => by
    rcases hA.at' i e' with k | k
    · exact e k
    · have := h.old i fi; omega
  have tt : ∀ i t, T i = t → F i → vq.ownBlock ≠ some i → (if v'.ownBlock = some i then 3 else T i) = t := fun i t e fi k => by rw [if_neg (nb i fi k)]; exact e
  refine ⟨fun i => F i ∨ v'.ownBlock = some i, fun i => if v'.ownBlock = some i then 3 else T i, { head := ?_, los := ?_, lrs := ?_, lqs := ?_, obj := fun id k => ?_, fld := fun id k => ?_, tg := ?_, tv := fun b e => ?_, tr := fun b e => ?_, tq := fun b e => ?_, tob := fun id k => ?_, tf := fun id k => ?_, sz := sz, old := fun i x => ?_ }, cA.trans (c4.mono fun i _ e => e ▸ h.tg.2), fun i x => ?_⟩
  · rw [heap_setCell_same w1 bg 6 _ 71 _ hhead]
    rfl
  · exact (h.los.cha hA.cha fun b e x => (h.bo e).2.2.2 x).cha c4 fun b e x => (h.bo e).1 x
  · exact (h.lrs.cha hA.cha fun b e x => (h.br e).2.2.2 x).cha c4 fun b e x => (h.br e).1 x
  · refine hA.lies.cha c4 fun b e x => ?_
    subst x
    exact nb _ h.tg.2 (fun k => (h.bq k).1 rfl) e
  · have k : g.col id ≠ 0 := k
    exact (c4.old _ (Nat.lt_of_lt_of_le (h.old _ (h.tob id k).2) hA.cha.size) (h.bgq k)).trans ((hA.cha.old _ (h.old _ (h.tob id k).2) (fun e => ((h.bq e).2.1 id k).1 rfl)).trans (h.obj id k))
  · have k : g.col id ≠ 0 := k
    exact c4.row (hA.cha.row (h.fld id k) (fun e => ((h.bq e).2.1 id k).2 rfl)) (h.bgf k)
  · exact ⟨tt bg 0 h.tg.1 h.tg.2 (fun k => (h.bq k).1 rfl), .inl h.tg.2⟩
  · exact ⟨tt b 1 (h.tv b e).1 (h.tv b e).2 (fun k => (h.bo e).2.2.2 k), .inl (h.tv b e).2⟩
  · exact ⟨tt b 2 (h.tr b e).1 (h.tr b e).2 (fun k => (h.br e).2.2.2 k), .inl (h.tr b e).2⟩
  · exact ⟨if_pos e, .inr e⟩
  · exact ⟨tt _ _ (h.tob id k).1 (h.tob id k).2 (fun e => ((h.bq e).2.1 id k).1 rfl), .inl (h.tob id k).2⟩
  · exact ⟨tt _ _ (h.tf id k).1 (h.tf id k).2 (fun e => ((h.bq e).2.1 id k).2 rfl), .inl (h.tf id k).2⟩
  · rcases x with x | x
    · exact Nat.lt_of_lt_of_le (h.old i x) (Nat.le_trans hA.cha.size c4.size)
    · exact Nat.lt_of_lt_of_le (hA.lies.lt x) c4.size
  · rcases x with x | x
    · exact .inl x
    · exact (hA.at' i x).imp (fun e => (h.tq i e).2) id
/-- An append's slice, as a value. -/
theorem App.v {α : Type} {E : Enc α} {v : Value} {A N : List α} {b o cap : Nat} (h : App E w w' v A N b o cap) : AppV E w w' v (A ++ N) (.slice (some ⟨b, o, none⟩) (A.length + N.length) cap) :=
  ⟨h.lies, h.cha, fun i e => by cases e; exact h.at'⟩
end Go.Proofs.Ytllefljimkmbhaa
