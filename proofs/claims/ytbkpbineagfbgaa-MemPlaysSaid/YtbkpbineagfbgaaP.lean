/- The state of a memory, plainly: pages' states and words as functions; the cells of a block that holds them; what a call may change. -/
import Derived.Test.YtbkpbineagfbgaaB
import Derived.WalkKit
import Derived.ProofKit
import Derived.Deep.MidRow
import Derived.Laws.MakeOwn
namespace Go.Proofs.Ytbkpbineagfbgaa
open Go.ChangeShapes Go.WideShapes Go.ChangeAt Go.RowKit

def upd (f : Nat → Int) (k : Nat) (v : Int) : Nat → Int := fun i => if i = k then v else f i
def clr (f : Nat → Int) (p : Nat) : Nat → Int := fun a => if a / 64 = p then 0 else f a
theorem upd_same (f : Nat → Int) (k : Nat) (v : Int) : upd f k v k = v := by simp [upd]
theorem upd_other (f : Nat → Int) {k i : Nat} (v : Int) (h : i ≠ k) : upd f k v i = f i := by simp [upd, h]

def pcell (st wd : Nat → Int) (i : Nat) : Value := if i % 65 = 0 then .int .i64 (st (i / 65)) else .int .u64 (wd (i / 65 * 64 + (i % 65 - 1)))
def pcells (n : Nat) (st wd : Nat → Int) : Array Value := (Array.range (n * 65)).map (pcell st wd)
theorem size_pcells (n : Nat) (st wd : Nat → Int) : (pcells n st wd).size = n * 65 := by simp [pcells]
theorem get_pcells {n i : Nat} (st wd : Nat → Int) (h : i < n * 65) : (pcells n st wd)[i]? = some (pcell st wd i) := by simp [pcells, h]
theorem get_pcells_all (n i : Nat) (st wd : Nat → Int) : (pcells n st wd)[i]? = if i < n * 65 then some (pcell st wd i) else none := by
  split
  · rename_i h; exact get_pcells st wd h
  · rename_i h; rw [Array.getElem?_eq_none (by rw [size_pcells]; omega)]
theorem pcell_state (st wd : Nat → Int) (p : Nat) : pcell st wd (p * 65) = .int .i64 (st p) := by
  unfold pcell; rw [if_pos (by omega), show p * 65 / 65 = p by omega]
theorem pcell_word (st wd : Nat → Int) (a : Nat) : pcell st wd (a / 64 * 65 + 1 + a % 64) = .int .u64 (wd a) := by
  unfold pcell; rw [if_neg (by omega), show (a / 64 * 65 + 1 + a % 64) / 65 * 64 + ((a / 64 * 65 + 1 + a % 64) % 65 - 1) = a by omega]
theorem pcells_congr {n : Nat} {st st' wd wd' : Nat → Int} (hs : ∀ p, p < n → st p = st' p) (hw : ∀ a, a < n * 64 → wd a = wd' a) : pcells n st wd = pcells n st' wd' := by
  apply Array.ext_getElem?
  intro i
  rw [get_pcells_all, get_pcells_all]
  split
  · unfold pcell
    rw [hs _ (by omega), hw _ (by omega)]
  · rfl
theorem set_word {n a : Nat} (st wd : Nat → Int) (v : Int) (h : a < n * 64) : (pcells n st wd).setIfInBounds (a / 64 * 65 + 1 + a % 64) (.int .u64 v) = pcells n st (upd wd a v) := by
  apply Array.ext_getElem?
  intro i
  rw [Array.getElem?_setIfInBounds, get_pcells_all, get_pcells_all, size_pcells]
  by_cases e : a / 64 * 65 + 1 + a % 64 = i
  · subst e
    rw [if_pos rfl, if_pos (by omega), if_pos (by omega), pcell_word, upd_same]
  · rw [if_neg e]
    split
    · congr 1
      unfold pcell
      split
      · rfl
      · rw [upd_other _ _ (by omega)]
    · rfl
/-- A page's cells: a state, and words that are 0. -/
def pageOf (s : Int) : Array Value := #[.int .i64 s] ++ Array.replicate 64 (.int .u64 0)
theorem get_pageOf (s : Int) (i : Nat) (h : i < 65) : (pageOf s)[i]? = some (if i = 0 then .int .i64 s else .int .u64 0) := by
  unfold pageOf
  rw [Array.getElem?_append]
  split
  · rename_i h1
    have : i = 0 := by simpa using h1
    subst this; rfl
  · rename_i h1
    have h2 : i ≠ 0 := by simpa using h1
    rw [if_neg h2, Array.getElem?_replicate, if_pos (by simp; omega)]
theorem size_pageOf (s : Int) : (pageOf s).size = 65 := by simp [pageOf]
theorem set_page {n p : Nat} (st wd : Nat → Int) (s : Int) (h : p < n) (cur : Array Value)
    (hc : ∀ i, cur[i]? = if p * 65 ≤ i ∧ i < p * 65 + 65 then (pageOf s)[i - p * 65]? else (pcells n st wd)[i]?) : cur = pcells n (upd st p s) (clr wd p) := by
  apply Array.ext_getElem?
  intro i
  rw [hc, get_pcells_all, get_pcells_all]
  by_cases e : p * 65 ≤ i ∧ i < p * 65 + 65
  · rw [if_pos e, get_pageOf _ _ (by omega)]
    have hn : i < n * 65 := by omega
    unfold pcell
    by_cases h0 : i - p * 65 = 0
    · rw [if_pos h0, if_pos hn, if_pos (by omega), show i / 65 = p by omega, upd_same]
    · rw [if_neg h0, if_pos hn, if_neg (by omega)]
      unfold clr
      rw [if_pos (by omega)]
  · rw [if_neg e]
    split
    · unfold pcell
      split
      · rw [upd_other _ _ (by omega)]
      · unfold clr
        rw [if_neg (by omega)]
    · rfl

theorem size_setCells (b : Nat) : ∀ (vs : List Value) (o : Nat) (w : World), (w.setCells b o vs).heap.size = w.heap.size
  | [], _, _ => rfl
  | v :: r, o, w => by rw [World.setCells, size_setCells b r]; simp [World.setCell]
theorem heap_setCells_other (b k : Nat) (hk : k ≠ b) : ∀ (vs : List Value) (o : Nat) (w : World), (w.setCells b o vs).heap[k]? = w.heap[k]?
  | [], _, _ => rfl
  | v :: r, o, w => by rw [World.setCells, heap_setCells_other b k hk r, heap_setCell_other _ _ _ _ hk]
theorem heap_setCells_same (b : Nat) (t : TypeId) : ∀ (vs : List Value) (o : Nat) (w : World) (cur : Array Value), w.heap[b]? = some (.cells cur t (0, 0)) → o + vs.length ≤ cur.size →
    ∃ cur', (w.setCells b o vs).heap[b]? = some (.cells cur' t (0, 0)) ∧ ∀ i, cur'[i]? = if o ≤ i ∧ i < o + vs.length then vs[i - o]? else cur[i]?
  | [], o, w, cur, h, _ => ⟨cur, h, fun i => by rw [if_neg (by simp only [List.length_nil]; omega)]⟩
  | v :: r, o, w, cur, h, hl => by
    simp only [List.length_cons] at hl
    obtain ⟨cur', h1, h2⟩ := heap_setCells_same b t r (o + 1) (w.setCell ⟨b, o, none⟩ v) (cur.setIfInBounds o v) (heap_setCell_same w b o cur t v h) (by simp; omega)
    refine ⟨cur', h1, fun i => ?_⟩
    rw [h2, Array.getElem?_setIfInBounds]
    simp only [List.length_cons]
    by_cases e : o = i
    · subst e
      rw [if_neg (by omega), if_pos rfl, if_pos (by omega), if_pos (by omega)]
      simp
    · rw [if_neg e]
      by_cases e2 : o + 1 ≤ i ∧ i < o + 1 + r.length
      · rw [if_pos e2, if_pos (by omega), show i - o = (i - (o + 1)) + 1 by omega, List.getElem?_cons_succ]
      · rw [if_neg e2, if_neg (by omega)]

/-- What a call may change: blocks of S, and new ones. -/
structure Chg (S : Nat → Prop) (w w' : World) : Prop where
  os : w'.os = w.os
  out : w'.output = w.output
  size : w.heap.size ≤ w'.heap.size
  old : ∀ i, i < w.heap.size → ¬ S i → w'.heap[i]? = w.heap[i]?
  fr : ∀ a, w'.frozen? a = w.frozen? a
theorem Chg.refl (S : Nat → Prop) (w : World) : Chg S w w := ⟨rfl, rfl, Nat.le_refl _, fun _ _ _ => rfl, fun _ => rfl⟩
theorem Chg.trans {S : Nat → Prop} {a b c : World} (h : Chg S a b) (k : Chg S b c) : Chg S a c :=
  ⟨k.os.trans h.os, k.out.trans h.out, Nat.le_trans h.size k.size, fun i hi hs => (k.old i (Nat.lt_of_lt_of_le hi h.size) hs).trans (h.old i hi hs), fun x => (k.fr x).trans (h.fr x)⟩
theorem Chg.mono {S T : Nat → Prop} {a b : World} (h : Chg S a b) (hst : ∀ i, i < a.heap.size → S i → T i) : Chg T a b :=
  ⟨h.os, h.out, h.size, fun i hi hn => h.old i hi fun hs => hn (hst i hi hs), h.fr⟩
theorem Chg.drew {S : Nat → Prop} {a b : World} (h : Chg S a b) : Chg S a b.drew := ⟨h.os, h.out, h.size, h.old, h.fr⟩
theorem Chg.alloc {S : Nat → Prop} {a b : World} (h : Chg S a b) (c : Array Value) (t : TypeId) : Chg S a (b.alloc (.cells c t)) :=
  ⟨h.os, h.out, Nat.le_trans h.size (by show b.heap.size ≤ (b.heap.push _).size; simp), fun i hi hs => (heap_alloc_old b _ (Nat.lt_of_lt_of_le hi h.size)).trans (h.old i hi hs), fun x => (frozen?_alloc_cells _ _ _ x).trans (h.fr x)⟩
theorem Chg.setCell {S : Nat → Prop} {a b : World} (h : Chg S a b) {p : Addr} (hp : p.block < a.heap.size → S p.block) (v : Value) : Chg S a (b.setCell p v) :=
  ⟨h.os, h.out, by have := h.size; simpa [World.setCell] using this, fun i hi hs => (heap_setCell_other b p i v (fun e => hs (e ▸ hp (e ▸ hi)))).trans (h.old i hi hs), fun x => (World.frozen?_setCell _ _ _ _).trans (h.fr x)⟩
theorem out_setCells (b : Nat) : ∀ (vs : List Value) (o : Nat) (w : World), (w.setCells b o vs).os = w.os ∧ (w.setCells b o vs).output = w.output
  | [], _, _ => ⟨rfl, rfl⟩
  | v :: r, o, w => by rw [World.setCells]; exact out_setCells b r (o + 1) _
theorem Chg.setCells {S : Nat → Prop} {a b : World} (h : Chg S a b) {g : Nat} (hp : g < a.heap.size → S g) (o : Nat) (vs : List Value) : Chg S a (b.setCells g o vs) :=
  ⟨(out_setCells g vs o b).1.trans h.os, (out_setCells g vs o b).2.trans h.out, by rw [size_setCells]; exact h.size, fun i hi hs => (heap_setCells_other g i (fun e => hs (e ▸ hp (e ▸ hi))) vs o b).trans (h.old i hi hs), fun x => (World.frozen?_setCells _ _ _ _ _).trans (h.fr x)⟩
theorem keptBut_heap {W w' : World} (h : W.keptBut w' (fun _ => False)) {i : Nat} (hi : i < W.heap.size) : w'.heap[i]? = W.heap[i]? := (World.keptBut_none_iff.1 h).2.2 i hi
theorem Chg.of_grown {S : Nat → Prop} {W w' : World} (h : Grown W w') : Chg S W w' :=
  ⟨h.1.1, h.1.2.1, h.2.2, fun _ hi _ => keptBut_heap h.1 hi, h.2.1⟩
theorem Chg.grown {S : Nat → Prop} {W w' : World} (h : Chg S W w') (hs : ∀ i, i < W.heap.size → ¬ S i) : Grown W w' :=
  ⟨World.keptBut_none_iff.2 ⟨h.os, h.out, fun i hi => h.old i hi (hs i hi)⟩, h.fr, h.size⟩
theorem Grown.trans {a b c : World} (h : Grown a b) (k : Grown b c) : Grown a c :=
  ⟨World.keptBut_trans h.1 k.1, fun x => (k.2.1 x).trans (h.2.1 x), Nat.le_trans h.2.2 k.2.2⟩

/-- A memory of n pages at block bm, whose pages are block bp. -/
structure Mem (w : World) (bm bp n : Nat) (st wd : Nat → Int) : Prop where
  head : w.heap[bm]? = some (.cells #[.slice (some ⟨bp, 0, none⟩) n n] 56 (0, 0))
  body : w.heap[bp]? = some (.cells (pcells n st wd) 73 (0, 0))
  ne : bm ≠ bp
  pos : 1 ≤ n
  le : n ≤ 4096
  rng : ∀ p, p < n → 0 ≤ st p ∧ st p ≤ 2
theorem Mem.chg {S : Nat → Prop} {w w' : World} {bm bp n : Nat} {st wd : Nat → Int} (h : Mem w bm bp n st wd) (c : Chg S w w') (hm : ¬ S bm) (hp : ¬ S bp) : Mem w' bm bp n st wd := by
  have lt : ∀ {b : Nat} {o : Obj}, w.heap[b]? = some o → b < w.heap.size := fun {b o} h => by
    by_cases hl : b < w.heap.size
    · exact hl
    · rw [Array.getElem?_eq_none (by omega)] at h; cases h
  exact ⟨(c.old _ (lt h.head) hm).trans h.head, (c.old _ (lt h.body) hp).trans h.body, h.ne, h.pos, h.le, h.rng⟩
theorem Mem.lt {w : World} {bm bp n : Nat} {st wd : Nat → Int} (h : Mem w bm bp n st wd) : bm < w.heap.size ∧ bp < w.heap.size := by
  have lt : ∀ {b : Nat} {o : Obj}, w.heap[b]? = some o → b < w.heap.size := fun {b o} h => by
    by_cases hl : b < w.heap.size
    · exact hl
    · rw [Array.getElem?_eq_none (by omega)] at h; cases h
  exact ⟨lt h.head, lt h.body⟩
theorem Mem.ptr {w : World} {bm bp n : Nat} {st wd : Nat → Int} (h : Mem w bm bp n st wd) : w.cell? ⟨bm, 0, none⟩ = some (.slice (some ⟨bp, 0, none⟩) n n) := cell_of_row w bm 0 _ 56 (0, 0) h.head
theorem Mem.state {w : World} {bm bp n p : Nat} {st wd : Nat → Int} (h : Mem w bm bp n st wd) (hp : p < n) : w.cell? ⟨bp, p * 65, none⟩ = some (.int .i64 (st p)) := by
  rw [cell_of_row w bp _ _ 73 (0, 0) h.body, get_pcells _ _ (by omega), pcell_state]
theorem Mem.word {w : World} {bm bp n a : Nat} {st wd : Nat → Int} (h : Mem w bm bp n st wd) (ha : a < n * 64) : w.cell? ⟨bp, a / 64 * 65 + 1 + a % 64, none⟩ = some (.int .u64 (wd a)) := by
  rw [cell_of_row w bp _ _ 73 (0, 0) h.body, get_pcells _ _ (by omega), pcell_word]
theorem Mem.free {w : World} {bm bp n : Nat} {st wd : Nat → Int} (h : Mem w bm bp n st wd) (i : Nat) : w.frozen? ⟨bp, i, none⟩ = false := frozen_of_row w bp i _ 73 h.body
theorem Mem.congr {w : World} {bm bp n : Nat} {st st' wd wd' : Nat → Int} (h : Mem w bm bp n st wd) (hs : ∀ p, p < n → st p = st' p) (hw : ∀ a, a < n * 64 → wd a = wd' a) : Mem w bm bp n st' wd' :=
  ⟨h.head, by rw [← pcells_congr hs hw]; exact h.body, h.ne, h.pos, h.le, fun p hp => by rw [← hs p hp]; exact h.rng p hp⟩
theorem Mem.setWord {w : World} {bm bp n a : Nat} {st wd : Nat → Int} (h : Mem w bm bp n st wd) (ha : a < n * 64) (v : Int) : Mem (w.setCell ⟨bp, a / 64 * 65 + 1 + a % 64, none⟩ (.int .u64 v)) bm bp n st (upd wd a v) :=
  ⟨(heap_setCell_other _ _ _ _ h.ne).trans h.head, by rw [← set_word st wd v ha]; exact heap_setCell_same _ _ _ _ _ _ h.body, h.ne, h.pos, h.le, h.rng⟩
theorem Mem.setPage {w : World} {bm bp n p : Nat} {st wd : Nat → Int} (h : Mem w bm bp n st wd) (hp : p < n) (s : Int) (hs : 0 ≤ s ∧ s ≤ 2) : Mem (w.setCells bp (p * 65) (pageOf s).toList) bm bp n (upd st p s) (clr wd p) := by
  obtain ⟨cur, h1, h2⟩ := heap_setCells_same bp 73 (pageOf s).toList (p * 65) w _ h.body (by rw [size_pcells, Array.length_toList, size_pageOf]; omega)
  refine ⟨(heap_setCells_other bp bm h.ne _ _ _).trans h.head, ?_, h.ne, h.pos, h.le, fun q hq => ?_⟩
  · rw [h1, set_page st wd s hp cur (fun i => by rw [h2 i, Array.length_toList, size_pageOf, Array.getElem?_toList])]
  · by_cases e : q = p
    · subst e; rw [upd_same]; exact hs
    · rw [upd_other _ _ e]; exact h.rng q hq
theorem Mem.there {w : World} {bm bp n p : Nat} {st wd : Nat → Int} (h : Mem w bm bp n st wd) (hp : p < n) (s : Int) : w.there bp (p * 65) (pageOf s).size := fun j hj => by
  rw [size_pageOf] at hj
  refine ⟨?_, h.free _⟩
  rw [cell_of_row w bp _ _ 73 (0, 0) h.body, get_pcells _ _ (by omega)]
  rfl
end Go.Proofs.Ytbkpbineagfbgaa
