/- The state of the document's memory, plainly. -/
import Derived.Test.YtbkpbineagfbgaaV
namespace Go.Proofs.Ytbkpbineagfbgaa
open Go.ChangeShapes Go.WideShapes Go.ChangeAt Go.RowKit

/-- n cells of a block. -/
def fcells (n : Nat) (r : Nat → Value) : Array Value := (Array.range n).map r
theorem get_fcells (k i : Nat) (r : Nat → Value) : (fcells k r)[i]? = if i < k then some (r i) else none := by
  unfold fcells
  by_cases h : i < k
  · simp [h]
  · rw [if_neg h, Array.getElem?_eq_none (by simp; omega)]
def FRow (t : TypeId) (W : World) (g k : Nat) (r : Nat → Value) : Prop := W.heap[g]? = some (.cells (fcells k r) t (0, 0))
theorem FRow.cell {t : TypeId} {W : World} {g k i : Nat} {r : Nat → Value} (h : FRow t W g k r) (hi : i < k) : W.cell? ⟨g, i, none⟩ = some (r i) := by
  rw [cell_of_row W g i _ t (0, 0) h, get_fcells, if_pos hi]
theorem FRow.free {t : TypeId} {W : World} {g k : Nat} {r : Nat → Value} (h : FRow t W g k r) (i : Nat) : W.frozen? ⟨g, i, none⟩ = false := frozen_of_row W g i _ t h
theorem FRow.congr {t : TypeId} {W : World} {g k : Nat} {r r' : Nat → Value} (h : FRow t W g k r) (he : ∀ i, i < k → r i = r' i) : FRow t W g k r' := by
  have e : fcells k r = fcells k r' := by
    apply Array.ext_getElem?
    intro x
    rw [get_fcells, get_fcells]
    split
    · rw [he x (by assumption)]
    · rfl
  unfold FRow
  rw [← e]
  exact h
theorem FRow.set {t : TypeId} {W : World} {g k i : Nat} {r : Nat → Value} (h : FRow t W g k r) (v : Value) : FRow t (W.setCell ⟨g, i, none⟩ v) g k (fun x => if x = i then v else r x) := by
  have e := heap_setCell_same W g i _ t v h
  have e2 : (fcells k r).setIfInBounds i v = fcells k (fun x => if x = i then v else r x) := by
    apply Array.ext_getElem?
    intro x
    rw [Array.getElem?_setIfInBounds, get_fcells, get_fcells]
    have hs : (fcells k r).size = k := by simp [fcells]
    rw [hs]
    by_cases ex : i = x
    · subst ex; rw [if_pos rfl, if_pos rfl]
    · have ex2 : ¬ x = i := fun c => ex c.symm
      rw [if_neg ex, if_neg ex2]
  rw [e2] at e
  exact e

/-- What a call may change: blocks of S, and new ones (of bytes that strings share nothing is said). -/
structure Cha (S : Nat → Prop) (w w' : World) : Prop where
  os : w'.os = w.os
  out : w'.output = w.output
  size : w.heap.size ≤ w'.heap.size
  old : ∀ i, i < w.heap.size → ¬ S i → w'.heap[i]? = w.heap[i]?
theorem Chg.cha {S : Nat → Prop} {a b : World} (h : Chg S a b) : Cha S a b := ⟨h.os, h.out, h.size, h.old⟩
theorem Cha.refl (S : Nat → Prop) (w : World) : Cha S w w := ⟨rfl, rfl, Nat.le_refl _, fun _ _ _ => rfl⟩
theorem Cha.trans {S : Nat → Prop} {a b c : World} (h : Cha S a b) (k : Cha S b c) : Cha S a c :=
  ⟨k.os.trans h.os, k.out.trans h.out, Nat.le_trans h.size k.size, fun i hi hs => (k.old i (Nat.lt_of_lt_of_le hi h.size) hs).trans (h.old i hi hs)⟩
theorem Cha.mono {S T : Nat → Prop} {a b : World} (h : Cha S a b) (hst : ∀ i, i < a.heap.size → S i → T i) : Cha T a b :=
  ⟨h.os, h.out, h.size, fun i hi hn => h.old i hi fun hs => hn (hst i hi hs)⟩
/-- Changes of what is new since w are none of w's. -/
theorem Cha.over {S T : Nat → Prop} {w a b : World} (h : Cha T w a) (k : Cha S a b) (hs : ∀ i, S i → T i ∨ w.heap.size ≤ i) : Cha T w b :=
  ⟨k.os.trans h.os, k.out.trans h.out, Nat.le_trans h.size k.size, fun i hi hn => (k.old i (Nat.lt_of_lt_of_le hi h.size) (fun c => by rcases hs i c with c | c; exact hn c; omega)).trans (h.old i hi hn)⟩
theorem Mem.cha {S : Nat → Prop} {w w' : World} {bm bp n : Nat} {st wd : Nat → Int} (h : Mem w bm bp n st wd) (c : Cha S w w') (hm : ¬ S bm) (hp : ¬ S bp) : Mem w' bm bp n st wd :=
  ⟨(c.old _ h.lt.1 hm).trans h.head, (c.old _ h.lt.2 hp).trans h.body, h.ne, h.pos, h.le, h.rng⟩

structure Ref (W : World) (T : Nat → Prop) (br bs bw n : Nat) (st wd : Nat → Int) (ws : Nat → Value) (bl : Nat → Nat) : Prop where
  head : W.heap[br]? = some (.cells #[.slice (some ⟨bs, 0, none⟩) n n, .slice (some ⟨bw, 0, none⟩) n n] 60 (0, 0))
  state : FRow 3 W bs n (fun p => .int .i64 (st p))
  words : FRow 79 W bw n ws
  page : ∀ p, p < n → st p ≠ 0 → ws p = .slice (some ⟨bl p, 0, none⟩) 64 64 ∧ Row 31 W (bl p) 64 (fun i => wd (p * 64 + i)) ∧ T (bl p) ∧ bl p ≠ br ∧ bl p ≠ bs ∧ bl p ≠ bw
  apart : ∀ p q, p < n → q < n → st p ≠ 0 → st q ≠ 0 → p ≠ q → bl p ≠ bl q
  own : T br ∧ T bs ∧ T bw
  ne : br ≠ bs ∧ br ≠ bw ∧ bs ≠ bw
  lt : ∀ i, T i → i < W.heap.size
  pos : 1 ≤ n
  le : n ≤ 4096
variable {W W' : World} {S T : Nat → Prop} {br bs bw n : Nat} {st wd : Nat → Int} {ws : Nat → Value} {bl : Nat → Nat}
theorem Ref.chg (h : Ref W T br bs bw n st wd ws bl) (c : Cha S W W') (hs : ∀ i, T i → ¬ S i) : Ref W' T br bs bw n st wd ws bl := by
  have old : ∀ i, T i → W'.heap[i]? = W.heap[i]? := fun i hi => c.old i (h.lt i hi) (hs i hi)
  refine ⟨(old _ h.own.1).trans h.head, (old _ h.own.2.1).trans h.state, (old _ h.own.2.2).trans h.words, fun p hp hq => ?_, h.apart, h.own, h.ne, fun i hi => Nat.lt_of_lt_of_le (h.lt i hi) c.size, h.pos, h.le⟩
  obtain ⟨h1, h2, h3, h4⟩ := h.page p hp hq
  exact ⟨h1, (old _ h3).trans h2, h3, h4⟩
theorem Ref.ptr0 (h : Ref W T br bs bw n st wd ws bl) : W.cell? ⟨br, 0, none⟩ = some (.slice (some ⟨bs, 0, none⟩) n n) := cell_of_row W br 0 _ 60 (0, 0) h.head
theorem Ref.ptr1 (h : Ref W T br bs bw n st wd ws bl) : W.cell? ⟨br, 1, none⟩ = some (.slice (some ⟨bw, 0, none⟩) n n) := cell_of_row W br 1 _ 60 (0, 0) h.head
theorem Ref.drew (h : Ref W T br bs bw n st wd ws bl) : Ref W.drew T br bs bw n st wd ws bl := h.chg ((Chg.refl (fun _ => False) W).drew.cha) (fun _ _ x => x)
theorem Ref.congr {st' wd' : Nat → Int} (h : Ref W T br bs bw n st wd ws bl) (hs : ∀ p, p < n → st p = st' p) (hw : ∀ a, a < n * 64 → wd a = wd' a) : Ref W T br bs bw n st' wd' ws bl := by
  refine ⟨h.head, h.state.congr fun i hi => by rw [hs i hi], h.words, fun p hp hq => ?_, fun p q hp hq h1 h2 => h.apart p q hp hq (by rw [hs p hp]; exact h1) (by rw [hs q hq]; exact h2), h.own, h.ne, h.lt, h.pos, h.le⟩
  obtain ⟨h1, h2, h3⟩ := h.page p hp (by rw [hs p hp]; exact hq)
  exact ⟨h1, h2.congr fun i hi => hw _ (by omega), h3⟩
/-- A page that has words gets another state. -/
theorem Ref.setState (h : Ref W T br bs bw n st wd ws bl) {p : Nat} (v : Int) (hv : st p ≠ 0) : Ref (W.setCell ⟨bs, p, none⟩ (.int .i64 v)) T br bs bw n (upd st p v) wd ws bl := by
  have ne : ∀ q, upd st p v q ≠ 0 → st q ≠ 0 := fun q hq => by
    by_cases e : q = p
    · subst e; exact hv
    · rwa [upd_other _ _ e] at hq
  refine ⟨(heap_setCell_other _ _ _ _ h.ne.1).trans h.head, (h.state.set (i := p) (.int .i64 v)).congr fun i hi => by (unfold upd; split <;> rfl), (heap_setCell_other _ _ _ _ h.ne.2.2.symm).trans h.words, fun q hq hn => ?_, fun a b ha hb h1 h2 => h.apart a b ha hb (ne a h1) (ne b h2), h.own, h.ne, fun i hi => by simpa [World.setCell] using h.lt i hi, h.pos, h.le⟩
  obtain ⟨h1, h2, h3, h4⟩ := h.page q hq (ne q hn)
  exact ⟨h1, (heap_setCell_other _ _ _ _ h4.2.1).trans h2, h3, h4⟩
/-- A word of a page that has words is written. -/
theorem Ref.setWord (h : Ref W T br bs bw n st wd ws bl) {a : Nat} (ha : a < n * 64) (hs : st (a / 64) ≠ 0) (v : Int) : Ref (W.setCell ⟨bl (a / 64), a % 64, none⟩ (.int .u64 v)) T br bs bw n st (upd wd a v) ws bl := by
  obtain ⟨g1, g2, g3, g4⟩ := h.page (a / 64) (by omega) hs
  refine ⟨(heap_setCell_other _ _ _ _ g4.1.symm).trans h.head, (heap_setCell_other _ _ _ _ g4.2.1.symm).trans h.state, (heap_setCell_other _ _ _ _ g4.2.2.symm).trans h.words, fun q hq hn => ?_, h.apart, h.own, h.ne, fun i hi => by simpa [World.setCell] using h.lt i hi, h.pos, h.le⟩
  obtain ⟨h1, h2, h3, h4⟩ := h.page q hq hn
  refine ⟨h1, ?_, h3, h4⟩
  by_cases e : q = a / 64
  · subst e
    exact (h2.set (i := a % 64) v).congr fun i hi => by
      unfold upd
      by_cases c : i = a % 64
      · rw [if_pos c, if_pos (by omega)]
      · rw [if_neg c, if_neg (by omega)]
  · exact (Row.congr ((heap_setCell_other _ _ _ _ (h.apart q (a / 64) hq (by omega) hn hs e)).trans h2 : Row 31 _ (bl q) 64 _) fun i hi => by rw [upd_other _ _ (by omega)])
/-- A page gets a state, and new words. -/
theorem Ref.setPage (h : Ref W T br bs bw n st wd ws bl) {p : Nat} (hp : p < n) (v : Int) {W3 : World}
    (hst : W3.heap[bs]? = (W.setCell ⟨bs, p, none⟩ (.int .i64 v)).heap[bs]?) (hnew : Row 31 W3 W.heap.size 64 zro) (hwords : FRow 79 W3 bw n (fun x => if x = p then .slice (some ⟨W.heap.size, 0, none⟩) 64 64 else ws x))
    (hold : ∀ i, i < W.heap.size → i ≠ bs → i ≠ bw → W3.heap[i]? = W.heap[i]?) (hsize : W.heap.size < W3.heap.size) :
    Ref W3 (fun i => T i ∨ i = W.heap.size) br bs bw n (upd st p v) (clr wd p) (fun x => if x = p then .slice (some ⟨W.heap.size, 0, none⟩) 64 64 else ws x) (fun x => if x = p then W.heap.size else bl x) := by
  have l1 := h.lt _ h.own.1
  have l2 := h.lt _ h.own.2.1
  have l3 := h.lt _ h.own.2.2
  refine ⟨(hold _ l1 h.ne.1 h.ne.2.1).trans h.head, ?_, hwords, fun q hq hn => ?_, fun a b ha hb h1 h2 hab => ?_, ⟨.inl h.own.1, .inl h.own.2.1, .inl h.own.2.2⟩, h.ne, fun i hi => ?_, h.pos, h.le⟩
  · exact FRow.congr (hst.trans (h.state.set (i := p) (.int .i64 v))) fun i hi => by (unfold upd; split <;> rfl)
  · by_cases e : q = p
    · subst e
      rw [if_pos rfl, if_pos rfl]
      exact ⟨rfl, hnew.congr fun i hi => by (unfold clr; rw [if_pos (by omega)]; rfl), .inr rfl, by omega, by omega, by omega⟩
    · rw [if_neg e, if_neg e]
      rw [upd_other _ _ e] at hn
      obtain ⟨h1, h2, h3, h4⟩ := h.page q hq hn
      exact ⟨h1, Row.congr ((hold _ (h.lt _ h3) h4.2.1 h4.2.2).trans h2 : Row 31 _ (bl q) 64 _) fun i hi => by (unfold clr; rw [if_neg (by omega)]), .inl h3, h4⟩
  · by_cases ea : a = p
    · by_cases eb : b = p
      · omega
      · rw [if_pos ea, if_neg eb]
        rw [upd_other _ _ eb] at h2
        have := h.lt _ (h.page b hb h2).2.2.1
        omega
    · rw [upd_other _ _ ea] at h1
      by_cases eb : b = p
      · rw [if_neg ea, if_pos eb]
        have := h.lt _ (h.page a ha h1).2.2.1
        omega
      · rw [if_neg ea, if_neg eb]
        rw [upd_other _ _ eb] at h2
        exact h.apart a b ha hb h1 h2 hab
  · rcases hi with hi | hi
    · have := h.lt i hi; omega
    · omega
theorem Ref.cellState (h : Ref W T br bs bw n st wd ws bl) {p : Nat} (hp : p < n) : W.cell? ⟨bs, p, none⟩ = some (.int .i64 (st p)) := h.state.cell hp
theorem Ref.cellWord (h : Ref W T br bs bw n st wd ws bl) {a : Nat} (ha : a < n * 64) (hs : st (a / 64) ≠ 0) : W.cell? ⟨bl (a / 64), a % 64, none⟩ = some (.int .u64 (wd a)) := by
  have := (h.page (a / 64) (by omega) hs).2.1.cell (i := a % 64) (by omega)
  rwa [show a / 64 * 64 + a % 64 = a by omega] at this
theorem Ref.cellPage (h : Ref W T br bs bw n st wd ws bl) {p : Nat} (hp : p < n) (hs : st p ≠ 0) : W.cell? ⟨bw, p, none⟩ = some (.slice (some ⟨bl p, 0, none⟩) 64 64) := by
  rw [h.words.cell hp, (h.page p hp hs).1]

/-- What a call on the document's memory leaves. -/
def Left (W0 : World) (T0 : Nat → Prop) (W : World) (br n : Nat) (st wd : Nat → Int) : Prop :=
  ∃ (T : Nat → Prop) (bs bw : Nat) (ws : Nat → Value) (bl : Nat → Nat), Ref W T br bs bw n st wd ws bl ∧ Cha T0 W0 W ∧ (∀ i, T i → T0 i ∨ W0.heap.size ≤ i)
theorem Ref.left (h : Ref W T br bs bw n st wd ws bl) : Left W T W br n st wd := ⟨T, bs, bw, ws, bl, h, Cha.refl _ _, fun _ h => .inl h⟩
theorem Left.trans {W0 W1 W2 : World} {T0 T1 : Nat → Prop} (h1 : Cha T0 W0 W1) (h2 : ∀ i, T1 i → T0 i ∨ W0.heap.size ≤ i) (h : Left W1 T1 W2 br n st wd) : Left W0 T0 W2 br n st wd := by
  obtain ⟨T, bs, bw, ws, bl, hr, hc, ht⟩ := h
  refine ⟨T, bs, bw, ws, bl, hr, h1.over hc h2, fun i hi => ?_⟩
  rcases ht i hi with c | c
  · exact h2 i c
  · have := h1.size; exact .inr (by omega)
theorem Left.congr {W0 : World} {T0 : Nat → Prop} {st' wd' : Nat → Int} (h : Left W0 T0 W br n st wd) (hs : ∀ p, p < n → st p = st' p) (hw : ∀ a, a < n * 64 → wd a = wd' a) : Left W0 T0 W br n st' wd' := by
  obtain ⟨T, bs, bw, ws, bl, hr, hc⟩ := h
  exact ⟨T, bs, bw, ws, bl, hr.congr hs hw, hc⟩
end Go.Proofs.Ytbkpbineagfbgaa
