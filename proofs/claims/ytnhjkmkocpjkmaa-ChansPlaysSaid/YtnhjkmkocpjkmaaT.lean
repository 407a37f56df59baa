/- The document's channel in memory. -/
import Derived.Test.YtnhjkmkocpjkmaaL
namespace Go.Proofs.Ytnhjkmkocpjkmaa
open Go.ChangeShapes Go.WideShapes Go.ChangeAt Go.RowKit

/-- Who waits, in the document. -/
def wtE : Enc Snd := ⟨51, 67, 2, 16, .agg #[.int .i64 0, .int .u64 0], fun a => [.int .i64 a.id, .int .u64 a.val]⟩
theorem wtE_ok : wtE.Ok := ⟨Try.underlying51, by kernel_rfl, rfl, by decide, fun _ => rfl, fun a u h => by simp [wtE] at h; rcases h with rfl | rfl <;> rfl⟩
def gts (L : List Int) : List Snd := L.map fun r => ⟨r, 0⟩
theorem gts_len (L : List Int) : (gts L).length = L.length := by simp [gts]
theorem gts_app (L : List Int) (r : Int) : gts (L ++ [r]) = gts L ++ [⟨r, 0⟩] := by simp [gts]
theorem gts_filter (L : List Int) (x : Int) : gts (L.filter fun r => !decide (r = x)) = (gts L).filter fun a => !decide (a.id = x) := by
  unfold gts
  induction L with
  | nil => rfl
  | cons r l ih =>
    rw [List.filter_cons, List.map_cons, List.filter_cons]
    by_cases h : r = x
    · simp [h, ih]
    · simp [h, ih]
theorem gts_ids (L : List Int) : (gts L).map Snd.id = L := by
  unfold gts
  rw [List.map_map]
  induction L with
  | nil => rfl
  | cons r l ih => rw [List.map_cons, ih]; rfl
def St.dcells (s : St) (v1 v2 v3 : Value) : Array Value := #[v1, .int .i64 (s.cap : Nat), .bool s.shut, v2, v3]
/-- The document's channel at bc is s; F: its blocks. -/
structure Dc (w : World) (F : Nat → Prop) (bc : Nat) (v1 v2 v3 : Value) (s : St) : Prop where
  head : w.heap[bc]? = some (.cells (s.dcells v1 v2 v3) 53 (0, 0))
  l1 : Lies u64E w v1 s.vals
  l2 : Lies wtE w v2 s.snds
  l3 : Lies wtE w v3 (gts s.rcvs)
  fc : F bc
  f1 : ∀ g, v1.ownBlock = some g → F g ∧ g ≠ bc
  f2 : ∀ g, v2.ownBlock = some g → F g ∧ g ≠ bc
  f3 : ∀ g, v3.ownBlock = some g → F g ∧ g ≠ bc
  d12 : ∀ g, v1.ownBlock = some g → v2.ownBlock ≠ some g
  d13 : ∀ g, v1.ownBlock = some g → v3.ownBlock ≠ some g
  d23 : ∀ g, v2.ownBlock = some g → v3.ownBlock ≠ some g
  old : ∀ i, F i → i < w.heap.size
  c16 : s.cap ≤ 16
def DLeft (w w' : World) (F : Nat → Prop) (bc : Nat) (s : St) : Prop := ∃ F' v1 v2 v3, Dc w' F' bc v1 v2 v3 s ∧ Cha F w w' ∧ ∀ i, F' i → F i ∨ w.heap.size ≤ i
section
variable {w w' w1 w2 : World} {F F' : Nat → Prop} {bc : Nat} {v1 v2 v3 v : Value} {s s' : St} {S : Nat → Prop}
theorem Dc.cha (h : Dc w F bc v1 v2 v3 s) (c : Cha S w w') (hs : ∀ i, F i → ¬ S i) : Dc w' F bc v1 v2 v3 s :=
  ⟨(c.old bc (h.old _ h.fc) (hs _ h.fc)).trans h.head, h.l1.cha c fun g hg => hs g (h.f1 g hg).1, h.l2.cha c fun g hg => hs g (h.f2 g hg).1, h.l3.cha c fun g hg => hs g (h.f3 g hg).1, h.fc, h.f1, h.f2, h.f3, h.d12, h.d13, h.d23, fun i hi => Nat.lt_of_lt_of_le (h.old i hi) c.size, h.c16⟩
theorem Dc.same (h : Dc w F bc v1 v2 v3 s) (c : Cha (fun _ => False) w w') : Dc w' F bc v1 v2 v3 s := h.cha c fun _ _ f => f
theorem Dc.left (h : Dc w F bc v1 v2 v3 s) (c : Cha (fun _ => False) w w') : DLeft w w' F bc s := ⟨F, v1, v2, v3, h.same c, c.wide, fun _ h => .inl h⟩
theorem DLeft.trans (h : DLeft w w1 F bc s) (k : ∀ F1 v1 v2 v3, Dc w1 F1 bc v1 v2 v3 s → DLeft w1 w2 F1 bc s') : DLeft w w2 F bc s' := by
  obtain ⟨F1, v1, v2, v3, q, c, n⟩ := h
  obtain ⟨F2, u1, u2, u3, q2, c2, n2⟩ := k F1 v1 v2 v3 q
  refine ⟨F2, u1, u2, u3, q2, c.over c2 n, fun i hi => ?_⟩
  rcases n2 i hi with e | e
  · exact n i e
  · exact .inr (Nat.le_trans c.size e)
theorem DLeft.same (h : DLeft w w1 F bc s) (c : Cha (fun _ => False) w1 w2) : DLeft w w2 F bc s := h.trans fun _ _ _ _ q => q.left c
theorem DLeft.before (c : Cha (fun _ => False) w w1) (h : DLeft w1 w2 F bc s) : DLeft w w2 F bc s := by
  obtain ⟨F1, v1, v2, v3, q, c1, n⟩ := h
  exact ⟨F1, v1, v2, v3, q, c.wide.trans c1, fun i hi => (n i hi).imp id fun e => Nat.le_trans c.size e⟩
theorem Dc.cell (h : Dc w F bc v1 v2 v3 s) (i : Nat) : w.cell? ⟨bc, i, none⟩ = (s.dcells v1 v2 v3)[i]? := cell_of_row w bc i _ 53 (0, 0) h.head
theorem Dc.free (h : Dc w F bc v1 v2 v3 s) (i : Nat) : w.frozen? ⟨bc, i, none⟩ = false := frozen_of_row w bc i _ 53 h.head
/-- The head, wherever something else changes. -/
theorem Dc.keeps (h : Dc w F bc v1 v2 v3 s) (c : Cha (fun i => i ≠ bc) w w') (i : Nat) : w'.cell? ⟨bc, i, none⟩ = (s.dcells v1 v2 v3)[i]? ∧ w'.frozen? ⟨bc, i, none⟩ = false := by
  have e := (c.old bc (h.old _ h.fc) (fun e => e rfl)).trans h.head
  exact ⟨cell_of_row w' bc i _ 53 (0, 0) e, frozen_of_row w' bc i _ 53 e⟩

variable {W : World} {u1 u2 u3 : Value}
theorem Dc.upd (h : Dc w F bc v1 v2 v3 s) (hh : W.heap[bc]? = some (.cells (s'.dcells u1 u2 u3) 53 (0, 0))) (c : Cha F w W) (l1 : Lies u64E W u1 s'.vals) (l2 : Lies wtE W u2 s'.snds) (l3 : Lies wtE W u3 (gts s'.rcvs))
    (n1 : ∀ g, u1.ownBlock = some g → v1.ownBlock = some g ∨ w.heap.size ≤ g) (n2 : ∀ g, u2.ownBlock = some g → v2.ownBlock = some g ∨ w.heap.size ≤ g) (n3 : ∀ g, u3.ownBlock = some g → v3.ownBlock = some g ∨ w.heap.size ≤ g)
    (d12 : ∀ g, u1.ownBlock = some g → u2.ownBlock ≠ some g) (d13 : ∀ g, u1.ownBlock = some g → u3.ownBlock ≠ some g) (d23 : ∀ g, u2.ownBlock = some g → u3.ownBlock ≠ some g) (h16 : s'.cap ≤ 16) : DLeft w W F bc s' := by
  have hb := h.old _ h.fc
  refine ⟨fun i => F i ∨ u1.ownBlock = some i ∨ u2.ownBlock = some i ∨ u3.ownBlock = some i, u1, u2, u3, ⟨hh, l1, l2, l3, .inl h.fc, fun g e => ⟨.inr (.inl e), ?_⟩, fun g e => ⟨.inr (.inr (.inl e)), ?_⟩, fun g e => ⟨.inr (.inr (.inr e)), ?_⟩, d12, d13, d23, fun i hi => ?_, h16⟩, c, fun i hi => ?_⟩
  · rcases n1 g e with e | e
    · exact (h.f1 g e).2
    · omega
  · rcases n2 g e with e | e
    · exact (h.f2 g e).2
    · omega
  · rcases n3 g e with e | e
    · exact (h.f3 g e).2
    · omega
  · rcases hi with hi | hi | hi | hi
    · exact Nat.lt_of_lt_of_le (h.old i hi) c.size
    · exact l1.lt hi
    · exact l2.lt hi
    · exact l3.lt hi
  · rcases hi with hi | hi | hi | hi
    · exact .inl hi
    · exact (n1 i hi).imp (fun e => (h.f1 i e).1) id
    · exact (n2 i hi).imp (fun e => (h.f2 i e).1) id
    · exact (n3 i hi).imp (fun e => (h.f3 i e).1) id
theorem Dc.put1 (h : Dc w F bc v1 v2 v3 s) (hh : W.heap[bc]? = (w.setCell ⟨bc, 0, none⟩ v).heap[bc]?) (c : Cha (fun i => i = bc ∨ v1.ownBlock = some i) w W) {A : List Int} (l : Lies u64E W v A) (hn : ∀ g, v.ownBlock = some g → v1.ownBlock = some g ∨ w.heap.size ≤ g) :
    DLeft w W F bc { s with vals := A } := by
  have o2 : ∀ g, v2.ownBlock = some g → g < w.heap.size := fun g e => h.old _ (h.f2 g e).1
  have o3 : ∀ g, v3.ownBlock = some g → g < w.heap.size := fun g e => h.old _ (h.f3 g e).1
  refine h.upd (u1 := v) (u2 := v2) (u3 := v3) (hh.trans (heap_setCell_same w bc 0 _ 53 v h.head)) (c.mono fun i _ e => e.elim (fun e => e ▸ h.fc) fun e => (h.f1 i e).1) l (h.l2.cha c fun g hg e => e.elim (h.f2 g hg).2 fun e => h.d12 g e hg) (h.l3.cha c fun g hg e => e.elim (h.f3 g hg).2 fun e => h.d13 g e hg) hn (fun _ e => .inl e) (fun _ e => .inl e) (fun g hg e => ?_) (fun g hg e => ?_) h.d23 h.c16
  · rcases hn g hg with e2 | e2
    · exact h.d12 g e2 e
    · have := o2 g e; omega
  · rcases hn g hg with e2 | e2
    · exact h.d13 g e2 e
    · have := o3 g e; omega
theorem Dc.put2 (h : Dc w F bc v1 v2 v3 s) (hh : W.heap[bc]? = (w.setCell ⟨bc, 3, none⟩ v).heap[bc]?) (c : Cha (fun i => i = bc ∨ v2.ownBlock = some i) w W) {A : List Snd} (l : Lies wtE W v A) (hn : ∀ g, v.ownBlock = some g → v2.ownBlock = some g ∨ w.heap.size ≤ g) :
    DLeft w W F bc { s with snds := A } := by
  have o1 : ∀ g, v1.ownBlock = some g → g < w.heap.size := fun g e => h.old _ (h.f1 g e).1
  have o3 : ∀ g, v3.ownBlock = some g → g < w.heap.size := fun g e => h.old _ (h.f3 g e).1
  refine h.upd (u1 := v1) (u2 := v) (u3 := v3) (hh.trans (heap_setCell_same w bc 3 _ 53 v h.head)) (c.mono fun i _ e => e.elim (fun e => e ▸ h.fc) fun e => (h.f2 i e).1) (h.l1.cha c fun g hg e => e.elim (h.f1 g hg).2 fun e => h.d12 g hg e) l (h.l3.cha c fun g hg e => e.elim (h.f3 g hg).2 fun e => h.d23 g e hg) (fun _ e => .inl e) hn (fun _ e => .inl e) (fun g hg e => ?_) h.d13 (fun g hg e => ?_) h.c16
  · rcases hn g e with e2 | e2
    · exact h.d12 g hg e2
    · have := o1 g hg; omega
  · rcases hn g hg with e2 | e2
    · exact h.d23 g e2 e
    · have := o3 g e; omega
theorem Dc.put3 (h : Dc w F bc v1 v2 v3 s) (hh : W.heap[bc]? = (w.setCell ⟨bc, 4, none⟩ v).heap[bc]?) (c : Cha (fun i => i = bc ∨ v3.ownBlock = some i) w W) {A : List Int} (l : Lies wtE W v (gts A)) (hn : ∀ g, v.ownBlock = some g → v3.ownBlock = some g ∨ w.heap.size ≤ g) :
    DLeft w W F bc { s with rcvs := A } := by
  have o1 : ∀ g, v1.ownBlock = some g → g < w.heap.size := fun g e => h.old _ (h.f1 g e).1
  have o2 : ∀ g, v2.ownBlock = some g → g < w.heap.size := fun g e => h.old _ (h.f2 g e).1
  refine h.upd (u1 := v1) (u2 := v2) (u3 := v) (hh.trans (heap_setCell_same w bc 4 _ 53 v h.head)) (c.mono fun i _ e => e.elim (fun e => e ▸ h.fc) fun e => (h.f3 i e).1) (h.l1.cha c fun g hg e => e.elim (h.f1 g hg).2 fun e => h.d13 g hg e) (h.l2.cha c fun g hg e => e.elim (h.f2 g hg).2 fun e => h.d23 g hg e) l (fun _ e => .inl e) (fun _ e => .inl e) hn h.d12 (fun g hg e => ?_) (fun g hg e => ?_) h.c16
  · rcases hn g e with e2 | e2
    · exact h.d13 g hg e2
    · have := o1 g hg; omega
  · rcases hn g e with e2 | e2
    · exact h.d23 g hg e2
    · have := o2 g hg; omega
end
section
variable {w W : World} {F : Nat → Prop} {bc g o n cap i : Nat} {v1 v2 v3 v : Value} {s : St}
theorem DLeft.cons {w1 w2 : World} {F1 : Nat → Prop} (c : Cha F w w1) (n : ∀ i, F1 i → F i ∨ w.heap.size ≤ i) (h : DLeft w1 w2 F1 bc s) : DLeft w w2 F bc s := by
  obtain ⟨F2, u1, u2, u3, q2, c2, n2⟩ := h
  refine ⟨F2, u1, u2, u3, q2, c.over c2 n, fun i hi => ?_⟩
  rcases n2 i hi with e | e
  · exact n i e
  · exact .inr (Nat.le_trans c.size e)
theorem Dc.len1 (h : Dc w F bc v1 v2 v3 s) : ∃ a cap, w.cell? ⟨bc, 0, none⟩ = some (.slice a s.vals.length cap) := by
  obtain ⟨a, cap, hv, _⟩ := h.l1.form
  exact ⟨a, cap, (h.cell 0).trans (by rw [hv]; rfl)⟩
theorem Dc.len2 (h : Dc w F bc v1 v2 v3 s) : ∃ a cap, w.cell? ⟨bc, 3, none⟩ = some (.slice a s.snds.length cap) := by
  obtain ⟨a, cap, hv, _⟩ := h.l2.form
  exact ⟨a, cap, (h.cell 3).trans (by rw [hv]; rfl)⟩
theorem Dc.len3 (h : Dc w F bc v1 v2 v3 s) : ∃ a cap, w.cell? ⟨bc, 4, none⟩ = some (.slice a s.rcvs.length cap) := by
  obtain ⟨a, cap, hv, _⟩ := h.l3.form
  exact ⟨a, cap, (h.cell 4).trans (by rw [hv, gts_len]; rfl)⟩
/-- Waiters, one by one. -/
def WtAt (w : World) (a : Option Addr) (L : List Snd) : Prop := 0 < L.length → ∃ g o, a = some ⟨g, o, none⟩ ∧ g < w.heap.size ∧ ∀ W, Cha (fun i => i ≠ g) w W → ∀ j, j < L.length → W.cell? ⟨g, o + j * 2, none⟩ = some (.int .i64 (L.getD j ⟨0, 0⟩).id) ∧ W.cell? ⟨g, o + j * 2 + 1, none⟩ = some (.int .u64 (L.getD j ⟨0, 0⟩).val)
theorem wt_at {a : Option Addr} {L : List Snd} {n cap : Nat} (h : Lies wtE w (.slice a n cap) L) : WtAt w a L := fun hp => by
  have hlt := fun g hg => h.lt (g := g) hg
  obtain ⟨g, o, cap', e, _, _, hc⟩ := h.cells wtE_ok hp
  cases e
  refine ⟨g, o, rfl, hlt g rfl, fun W c j hj => ?_⟩
  have h4 := (hc W (c.mono fun i _ e c => e (by simpa [Value.ownBlock] using c.symm))).1
  have x := h4 j 0 hj (by decide)
  have y := h4 j 1 hj (by decide)
  have e : L.getD j ⟨0, 0⟩ = L[j] := by simp [List.getD, List.getElem?_eq_getElem hj]
  rw [e]
  exact ⟨by simpa [wtE] using x, by simpa [wtE] using y⟩
/-- A new list is laid into a field. -/
theorem Dc.lay2 {w1 : World} {A : List Snd} (h : Dc w F bc v1 v2 v3 s) (m : Made wtE w w1 v A) : DLeft w (w1.setCell ⟨bc, 3, none⟩ v) F bc { s with snds := A } := by
  have hb := h.old _ h.fc
  have hh := (m.cha.old bc hb (fun f => f)).trans h.head
  refine h.put2 (heap_at h.head hh) (m.cha.wide.setCell (p := ⟨bc, 3, none⟩) (fun _ => .inl rfl) _) (m.lies.cha ((Cha.refl (· = bc) w1).setCell (p := ⟨bc, 3, none⟩) (fun _ => rfl) _) fun g hg e => ?_) (fun g hg => .inr (m.own g hg))
  have := m.own g hg
  omega
theorem Dc.lay3 {w1 : World} {A : List Int} (h : Dc w F bc v1 v2 v3 s) (m : Made wtE w w1 v (gts A)) : DLeft w (w1.setCell ⟨bc, 4, none⟩ v) F bc { s with rcvs := A } := by
  have hb := h.old _ h.fc
  have hh := (m.cha.old bc hb (fun f => f)).trans h.head
  refine h.put3 (heap_at h.head hh) (m.cha.wide.setCell (p := ⟨bc, 4, none⟩) (fun _ => .inl rfl) _) (m.lies.cha ((Cha.refl (· = bc) w1).setCell (p := ⟨bc, 4, none⟩) (fun _ => rfl) _) fun g hg e => ?_) (fun g hg => .inr (m.own g hg))
  have := m.own g hg
  omega
end
end Go.Proofs.Ytnhjkmkocpjkmaa
