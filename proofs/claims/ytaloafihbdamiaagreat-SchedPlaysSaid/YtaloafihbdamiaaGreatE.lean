/- Blocks of cells, what a call may change, in queues. -/
import Derived.Test.YtaloafihbdamiaaGreatB
import Derived.WalkKit
import Derived.ProofKit
import Derived.Deep.MidRow
import Derived.Laws.MakeOwn
import Derived.Laws.AppendOwn
import Derived.Deep.AppendLies
import Derived.Deep.RegionHeld3
import Derived.Deep.DeepCutAuto
import Derived.RegionTactic
import Derived.Outline
import Derived.Lib.Hide
import Derived.StillTailTactics
import Derived.IntWalk
import Derived.BigQuiet
import Derived.ArgAppend
import Derived.Deep.RegionLaw
import Derived.Deep.RegionWith
namespace Go.Proofs.YtaloafihbdamiaaGreat
open Go.ChangeShapes Go.WideShapes Go.ChangeAt Go.RowKit

/-- n cells of a block. -/
def fcells (n : Nat) (r : Nat → Value) : Array Value := (Array.range n).map r
theorem get_fcells (k i : Nat) (r : Nat → Value) : (fcells k r)[i]? = if i < k then some (r i) else none := by
  unfold fcells
  by_cases h : i < k
  · simp [h]
  · rw [if_neg h, Array.getElem?_eq_none (by simp; omega)]
theorem size_fcells (k : Nat) (r : Nat → Value) : (fcells k r).size = k := by simp [fcells]
def FRow (t : TypeId) (W : World) (g k : Nat) (r : Nat → Value) : Prop := W.heap[g]? = some (.cells (fcells k r) t (0, 0))
section
variable {t : TypeId} {W : World} {g k i : Nat} {r : Nat → Value}
theorem FRow.cell (h : FRow t W g k r) (hi : i < k) : W.cell? ⟨g, i, none⟩ = some (r i) := by
  rw [cell_of_row W g i _ t (0, 0) h, get_fcells, if_pos hi]
theorem FRow.free (h : FRow t W g k r) (i : Nat) : W.frozen? ⟨g, i, none⟩ = false := frozen_of_row W g i _ t h
theorem FRow.lt (h : FRow t W g k r) : g < W.heap.size := by
  by_cases hl : g < W.heap.size
  · exact hl
  · unfold FRow at h; rw [Array.getElem?_eq_none (by omega)] at h; cases h
theorem FRow.congr {r' : Nat → Value} (h : FRow t W g k r) (he : ∀ i, i < k → r i = r' i) : FRow t W g k r' := by
  have e : fcells k r = fcells k r' := by
    apply Array.ext_getElem?
    intro x
    rw [get_fcells, get_fcells]
    split
    · rw [he x (by assumption)]
    · rfl
  unfold FRow
  rw [← e]
  exact h
theorem FRow.set (h : FRow t W g k r) (v : Value) : FRow t (W.setCell ⟨g, i, none⟩ v) g k (fun x => if x = i then v else r x) := by
  have e := heap_setCell_same W g i _ t v h
  have e2 : (fcells k r).setIfInBounds i v = fcells k (fun x => if x = i then v else r x) := by
    apply Array.ext_getElem?
    intro x
    rw [Array.getElem?_setIfInBounds, get_fcells, get_fcells, size_fcells]
    by_cases ex : i = x
    · subst ex; rw [if_pos rfl, if_pos rfl]
    · have ex2 : ¬ x = i := fun c => ex c.symm
      rw [if_neg ex, if_neg ex2]
  rw [e2] at e
  exact e
end

/-- What a call may change: blocks of S, and new ones. -/
structure Cha (S : Nat → Prop) (w w' : World) : Prop where
  os : w'.os = w.os
  out : w'.output = w.output
  size : w.heap.size ≤ w'.heap.size
  old : ∀ i, i < w.heap.size → ¬ S i → w'.heap[i]? = w.heap[i]?
section
variable {S T : Nat → Prop} {w a b c : World}
theorem Cha.refl (S : Nat → Prop) (w : World) : Cha S w w := ⟨rfl, rfl, Nat.le_refl _, fun _ _ _ => rfl⟩
theorem Cha.trans (h : Cha S a b) (k : Cha S b c) : Cha S a c :=
  ⟨k.os.trans h.os, k.out.trans h.out, Nat.le_trans h.size k.size, fun i hi hs => (k.old i (Nat.lt_of_lt_of_le hi h.size) hs).trans (h.old i hi hs)⟩
theorem Cha.mono (h : Cha S a b) (hst : ∀ i, i < a.heap.size → S i → T i) : Cha T a b :=
  ⟨h.os, h.out, h.size, fun i hi hn => h.old i hi fun hs => hn (hst i hi hs)⟩
theorem Cha.wide (h : Cha (fun _ => False) a b) : Cha S a b := h.mono fun _ _ f => f.elim
/-- Changes of what is new since w are none of w's. -/
theorem Cha.over (h : Cha T w a) (k : Cha S a b) (hs : ∀ i, S i → T i ∨ w.heap.size ≤ i) : Cha T w b :=
  ⟨k.os.trans h.os, k.out.trans h.out, Nat.le_trans h.size k.size, fun i hi hn => (k.old i (Nat.lt_of_lt_of_le hi h.size) (fun c => by rcases hs i c with c | c; exact hn c; omega)).trans (h.old i hi hn)⟩
theorem Cha.drew (h : Cha S a b) : Cha S a b.drew := ⟨h.os, h.out, h.size, h.old⟩
theorem Cha.drewN (h : Cha S a b) (k : Nat) : Cha S a (b.drewN k) := ⟨h.os, h.out, h.size, h.old⟩
theorem Cha.alloc (h : Cha S a b) (o : Obj) : Cha S a (b.alloc o) :=
  ⟨h.os, h.out, Nat.le_trans h.size (by show b.heap.size ≤ (b.heap.push _).size; simp), fun i hi hs => (heap_alloc_old b _ (Nat.lt_of_lt_of_le hi h.size)).trans (h.old i hi hs)⟩
theorem Cha.setCell (h : Cha S a b) {p : Addr} (hp : p.block < a.heap.size → S p.block) (v : Value) : Cha S a (b.setCell p v) :=
  ⟨h.os, h.out, by have := h.size; simpa [World.setCell] using this, fun i hi hs => (heap_setCell_other b p i v (fun e => hs (e ▸ hp (e ▸ hi)))).trans (h.old i hi hs)⟩
theorem Cha.of_grownBy {row : Option Nat} (h : a.grownBy b row) (hr : ∀ k, row = some k → S k) : Cha S a b :=
  ⟨h.os, h.output, h.size, fun i hi hn => h.block i hi (fun e => hn (hr i e.symm))⟩
theorem Cha.row {t : TypeId} {W W' : World} {g k : Nat} {r : Nat → Value} (c : Cha S W W') (h : FRow t W g k r) (hs : ¬ S g) : FRow t W' g k r := (c.old _ h.lt hs).trans h
theorem Cha.keptBut (h : Cha (fun _ => False) a b) (may : MemPlace → Prop) : a.keptBut b may :=
  World.keptBut_mono (fun _ f => f.elim) (World.keptBut_none_iff.2 ⟨h.os, h.out, fun i hi => h.old i hi (fun x => x)⟩)
end

theorem ret_int {k : IntKind} {a b : Int} (h : a = b) : Ending.returned (.int k a) = .returned (.int k b) := by rw [h]
theorem ret_bool {a b : Bool} (h : a = b) : Ending.returned (.bool a) = .returned (.bool b) := by rw [h]
theorem ret_ints {a b c d : Int} (h : a = b) (k : c = d) : Ending.returned (.tuple #[.int .i64 a, .int .i64 c]) = .returned (.tuple #[.int .i64 b, .int .i64 d]) := by rw [h, k]
end Go.Proofs.YtaloafihbdamiaaGreat

namespace Go.Proofs.YtaloafihbdamiaaGreat
open Go.ChangeShapes Go.WideShapes Go.ChangeAt Go.RowKit

def up (z : Nat → Int) (i : Nat) (v : Int) : Nat → Int := fun x => if x = i then v else z x
theorem up_same (z : Nat → Int) (i : Nat) (v : Int) : up z i v i = v := by simp [up]
theorem up_other (z : Nat → Int) {i j : Nat} (v : Int) (h : j ≠ i) : up z i v j = z j := by simp [up, h]

/-- A block of m numbers. -/
def Ints (t : TypeId) (w : World) (b m : Nat) (z : Nat → Int) : Prop := FRow t w b m (fun i => .int .i64 (z i))
section
variable {t : TypeId} {w w' : World} {b m : Nat} {z : Nat → Int} {S : Nat → Prop}
theorem Ints.cell (h : Ints t w b m z) {i : Nat} (hi : i < m) : w.cell? ⟨b, i, none⟩ = some (.int .i64 (z i)) := FRow.cell h hi
theorem Ints.free (h : Ints t w b m z) (i : Nat) : w.frozen? ⟨b, i, none⟩ = false := FRow.free h i
theorem Ints.lt (h : Ints t w b m z) : b < w.heap.size := FRow.lt h
theorem Ints.set (h : Ints t w b m z) (i : Nat) (v : Int) : Ints t (w.setCell ⟨b, i, none⟩ (.int .i64 v)) b m (up z i v) :=
  (FRow.set (i := i) h (.int .i64 v)).congr fun x _ => by unfold up; split <;> rfl
theorem Ints.cha (h : Ints t w b m z) (c : Cha S w w') (hs : ¬ S b) : Ints t w' b m z := c.row h hs
theorem Ints.of (h : Ints t w b m z) (e : w'.heap[b]? = w.heap[b]?) : Ints t w' b m z := e.trans h
end

/-- A ring at o: its eight places, its first one, how many. -/
structure Ring (z : Nat → Int) (o f : Nat) (L : List Int) : Prop where
  f8 : f < 8
  n8 : L.length ≤ 8
  fst : z (o + 8) = f
  len : z (o + 9) = L.length
  el : ∀ i, i < L.length → z (o + (f + i) % 8) = L.getD i 0
section
variable {z z' : Nat → Int} {o f : Nat} {L l : List Int} {g : Int}
theorem Ring.congr (h : Ring z o f L) (e : ∀ i, o ≤ i → i < o + 10 → z' i = z i) : Ring z' o f L :=
  ⟨h.f8, h.n8, by rw [e _ (by omega) (by omega)]; exact h.fst, by rw [e _ (by omega) (by omega)]; exact h.len, fun i hi => by rw [e _ (by omega) (by omega)]; exact h.el i hi⟩
theorem Ring.push (h : Ring z o f L) (hl : L.length < 8) (g : Int) : Ring (up (up z (o + (f + L.length) % 8) g) (o + 9) ((L.length : Int) + 1)) o f (L ++ [g]) := by
  have h8 := h.f8
  refine ⟨h.f8, by simp; omega, ?_, ?_, fun i hi => ?_⟩
  · rw [up_other _ _ (by omega), up_other _ _ (by omega)]; exact h.fst
  · rw [up_same]; simp
  · rw [up_other _ _ (by omega)]
    simp only [List.length_append, List.length_singleton] at hi
    by_cases e : i = L.length
    · subst e; rw [up_same]; simp [List.getD]
    · rw [up_other _ _ (by omega), h.el i (by omega)]
      simp [List.getD, List.getElem?_append_left (show i < L.length by omega)]
theorem Ring.pop (h : Ring z o f (g :: l)) : Ring (up (up z (o + 8) (((f + 1) % 8 : Nat) : Int)) (o + 9) (l.length : Int)) o ((f + 1) % 8) l := by
  have h8 := h.f8
  have h9 := h.n8
  simp only [List.length_cons] at h9
  refine ⟨by omega, by omega, ?_, ?_, fun i hi => ?_⟩
  · rw [up_other _ _ (by omega), up_same]
  · rw [up_same]
  · rw [up_other _ _ (by omega), up_other _ _ (by omega)]
    have := h.el (i + 1) (by simp; omega)
    rw [show (f + (i + 1)) % 8 = ((f + 1) % 8 + i) % 8 by omega] at this
    rw [this]; rfl
theorem Ring.head (h : Ring z o f (g :: l)) : z (o + f) = g := by
  have := h.el 0 (by simp)
  have h8 := h.f8
  rw [show (f + 0) % 8 = f by omega] at this
  rw [this]; rfl
end

/-- What a call that turns a ring leaves. -/
def Turned (t : TypeId) (b m o : Nat) (z : Nat → Int) (L : List Int) (w w' : World) : Prop :=
  ∃ z' f, Ints t w' b m z' ∧ Ring z' o f L ∧ (∀ i, i < o ∨ o + 10 ≤ i → z' i = z i) ∧ Cha (· = b) w w'
/-- Of two rings of one block. -/
theorem Turned.other {o o2 f2 : Nat} {z z' : Nat → Int} {L2 : List Int} (e : ∀ i, i < o ∨ o + 10 ≤ i → z' i = z i) (h : Ring z o2 f2 L2) (ho : o2 + 10 ≤ o ∨ o + 10 ≤ o2) : Ring z' o2 f2 L2 :=
  h.congr fun i _ _ => e i (by omega)

/-- A list of numbers that may begin anywhere in its block. -/
def Lies (w : World) (v : Value) (A : List Int) : Prop :=
  (A = [] ∧ v = .slice none 0 0) ∨ ∃ g o cap cur, v = .slice (some ⟨g, o, none⟩) A.length cap ∧ A.length ≤ cap ∧ cap ≤ maxLen ∧ w.heap[g]? = some (.cells cur 3 (0, 0)) ∧ o + cap ≤ cur.size ∧
    ∀ i, i < A.length → cur[o + i]? = some (.int .i64 (A.getD i 0))
section
variable {w w' : World} {v : Value} {A N : List Int} {S : Nat → Prop}
theorem Lies.lt (h : Lies w v A) {g : Nat} (hg : v.ownBlock = some g) : g < w.heap.size := by
  rcases h with ⟨_, rfl⟩ | ⟨g', o, cap, cur, rfl, _, _, hr, _⟩
  · cases hg
  · have e : g' = g := by simpa [Value.ownBlock] using hg
    subst e
    exact (Array.getElem?_eq_some_iff.1 hr).1
theorem Lies.cha (h : Lies w v A) (c : Cha S w w') (hs : ∀ g, v.ownBlock = some g → ¬ S g) : Lies w' v A := by
  have hl := fun g hg => h.lt (g := g) hg
  rcases h with ⟨h1, h2⟩ | ⟨g', o, cap, cur, rfl, h1, h2, h3, h4, h5⟩
  · exact .inl ⟨h1, h2⟩
  · exact .inr ⟨g', o, cap, cur, rfl, h1, h2, (c.old g' (hl g' rfl) (hs g' rfl)).trans h3, h4, h5⟩
theorem Lies.nil (w : World) : Lies w (.slice none 0 0) [] := .inl ⟨rfl, rfl⟩
theorem Lies.form (h : Lies w v A) : ∃ a cap, v = .slice a A.length cap ∧ A.length ≤ cap := by
  rcases h with ⟨rfl, rfl⟩ | ⟨g', o, cap, cur, rfl, h1, _⟩
  · exact ⟨none, 0, rfl, Nat.le_refl _⟩
  · exact ⟨_, cap, rfl, h1⟩
theorem Lies.at (h : Lies w v A) {i : Nat} (hi : i < A.length) : ∃ g o cap, v = .slice (some ⟨g, o, none⟩) A.length cap ∧ w.cell? ⟨g, o + i, none⟩ = some (.int .i64 (A.getD i 0)) ∧ A.length ≤ cap ∧ cap ≤ maxLen := by
  rcases h with ⟨rfl, rfl⟩ | ⟨g', o, cap, cur, rfl, h1, h2, h3, h4, h5⟩
  · cases hi
  · exact ⟨g', o, cap, rfl, by rw [cell_of_row w g' _ cur 3 (0, 0) h3]; exact h5 i hi, h1, h2⟩
/-- The head goes. -/
theorem Lies.tail {g : Nat} {o n cap : Nat} {x : Int} (h : Lies w (.slice (some ⟨g, o, none⟩) n cap) (x :: A)) : Lies w (.slice (some ⟨g, if cap = 1 then o else o + 1, none⟩) (n - 1) (cap - 1)) A := by
  rcases h with ⟨h, _⟩ | ⟨g', o', cap', cur, e, h1, h2, h3, h4, h5⟩
  · cases h
  · cases e
    simp only [List.length_cons] at h1 h5 ⊢
    refine .inr ⟨g, _, cap - 1, cur, by rw [Nat.add_sub_cancel], by omega, by omega, h3, by split <;> omega, fun i hi => ?_⟩
    have := h5 (i + 1) (by omega)
    rw [if_neg (by omega), show o + 1 + i = o + (i + 1) by omega, this]
    rfl
end
end Go.Proofs.YtaloafihbdamiaaGreat

namespace Go.Proofs.YtaloafihbdamiaaGreat
open Go.ChangeShapes Go.WideShapes Go.ChangeAt Go.RowKit

theorem size_setCells (b : Nat) : ∀ (vs : List Value) (o : Nat) (w : World), (w.setCells b o vs).heap.size = w.heap.size
  | [], _, _ => rfl
  | v :: r, o, w => by rw [World.setCells, size_setCells b r]; simp [World.setCell]
theorem heap_setCells_other (b k : Nat) (hk : k ≠ b) : ∀ (vs : List Value) (o : Nat) (w : World), (w.setCells b o vs).heap[k]? = w.heap[k]?
  | [], _, _ => rfl
  | v :: r, o, w => by rw [World.setCells, heap_setCells_other b k hk r, heap_setCell_other _ _ _ _ hk]
theorem heap_setCells_same (b : Nat) (t : TypeId) : ∀ (vs : List Value) (o : Nat) (w : World) (cur : Array Value), w.heap[b]? = some (.cells cur t (0, 0)) → o + vs.length ≤ cur.size →
    ∃ cur', (w.setCells b o vs).heap[b]? = some (.cells cur' t (0, 0)) ∧ cur'.size = cur.size ∧ ∀ i, cur'[i]? = if o ≤ i ∧ i < o + vs.length then vs[i - o]? else cur[i]?
  | [], o, w, cur, h, _ => ⟨cur, h, rfl, fun i => by rw [if_neg (by simp only [List.length_nil]; omega)]⟩
  | v :: r, o, w, cur, h, hl => by
    simp only [List.length_cons] at hl
    obtain ⟨cur', h1, h0, h2⟩ := heap_setCells_same b t r (o + 1) (w.setCell ⟨b, o, none⟩ v) (cur.setIfInBounds o v) (heap_setCell_same w b o cur t v h) (by simp; omega)
    refine ⟨cur', h1, by rw [h0]; simp, fun i => ?_⟩
    rw [h2, Array.getElem?_setIfInBounds]
    simp only [List.length_cons]
    by_cases e : o = i
    · subst e
      rw [if_neg (by omega), if_pos rfl, if_pos (by omega), if_pos (by omega)]
      simp
    · rw [if_neg e]
      by_cases e2 : o + 1 ≤ i ∧ i < o + 1 + r.length
      · rw [if_pos e2, if_pos (by omega), show i - o = (i - (o + 1)) + 1 by omega, List.getElem?_cons_succ]
      · rw [if_neg e2, if_neg (by omega)]
theorem out_setCells (b : Nat) : ∀ (vs : List Value) (o : Nat) (w : World), (w.setCells b o vs).os = w.os ∧ (w.setCells b o vs).output = w.output
  | [], _, _ => ⟨rfl, rfl⟩
  | v :: r, o, w => by rw [World.setCells]; exact out_setCells b r (o + 1) _
theorem Cha.setCells {S : Nat → Prop} {a b : World} (h : Cha S a b) {g : Nat} (hp : g < a.heap.size → S g) (o : Nat) (vs : List Value) : Cha S a (b.setCells g o vs) :=
  ⟨(out_setCells g vs o b).1.trans h.os, (out_setCells g vs o b).2.trans h.out, by rw [size_setCells]; exact h.size, fun i hi hs => (heap_setCells_other g i (fun e => hs (e ▸ hp (e ▸ hi))) vs o b).trans (h.old i hi hs)⟩

theorem info3 : (Tryz.prog.info? 3).map (fun i => (i.zero, i.size, i.bytes)) = some (some (.int .i64 0), 1, 8) := by kernel_rfl
def iz (A : List Int) : List Value := A.map (Value.int .i64)
theorem iz_get (A : List Int) (i : Nat) : (iz A)[i]? = (A[i]?).map (Value.int .i64) := by simp [iz]
theorem one_int (A : List Int) : ∀ u ∈ iz A, u.oneCell' = true := by
  intro u hu
  obtain ⟨x, _, rfl⟩ := List.mem_map.1 hu
  rfl
theorem Lies.of_own {w : World} {base : Nat} {v : Value} {A : List Int} (h : w.ownsRow base 3 1 v A.length (iz A)) : Lies w v A := by
  rcases h.2 with ⟨rfl, h0⟩ | ⟨g, cap, cur, rfl, hb, hg, h1, h2, h3, h4⟩
  · exact .inl ⟨List.eq_nil_of_length_eq_zero h0, rfl⟩
  · refine .inr ⟨g, 0, cap, cur, rfl, h1, h2, hg, by omega, fun i hi => ?_⟩
    rw [Nat.zero_add]
    have : (cur.toList.take (A.length * 1))[i]? = (iz A)[i]? := by rw [h4]
    rw [List.getElem?_take, if_pos (by omega), iz_get] at this
    rw [Array.getElem?_toList] at this
    rw [this]
    simp [List.getD, List.getElem?_eq_getElem hi]
theorem iz_app (A N : List Int) : iz (A ++ N) = iz A ++ iz N := by simp [iz]

/-- Where the new slice lies: the old one's block, or a new one. -/
structure App (w w' : World) (v : Value) (A N : List Int) (g o cap : Nat) : Prop where
  lies : Lies w' (.slice (some ⟨g, o, none⟩) (A.length + N.length) cap) (A ++ N)
  cha : Cha (fun i => v.ownBlock = some i) w w'
  at' : v.ownBlock = some g ∨ w.heap.size ≤ g
  lt : g < w'.heap.size

theorem run_app (ty : TypeId) {w : World} {v : Value} {A : List Int} (h : Lies w v A) (ad : Addr) (c : Nat) (N : List Int) (hN : ∀ j u, (iz N)[j]? = some u → w.cell? (ad.add j) = some u) (hpos : 0 < N.length)
    (b2 : (A.length + N.length) * 8 ≤ 140737488355328) :
    ∃ g o cap w', (Builtin.append_ #[37, 37] ty #[v, .slice (some ad) N.length c]).run Tryz.prog w = .ok (.slice (some ⟨g, o, none⟩) (A.length + N.length) cap) w' ∧ App w w' v A N g o cap := by
  obtain ⟨i0, hi, hz0, hz1, hz2⟩ := info_parts info3
  have b1 : A.length + N.length ≤ maxLen := by unfold maxLen; omega
  have hlN : (iz N).length = N.length * 1 := by simp [iz]
  have hlA : (iz A).length = A.length * 1 := by simp [iz]
  have fin : ∀ v' w', w'.ownsRow w.heap.size 3 1 v' (A.length + N.length) (iz A ++ iz N) → w.grownBy w' none → ∃ g o cap, v' = .slice (some ⟨g, o, none⟩) (A.length + N.length) cap ∧ App w w' v A N g o cap := by
    intro v' w' h1 h2
    obtain ⟨g, cap, rfl, hb, hlt⟩ := h1.form (by omega)
    refine ⟨g, 0, cap, rfl, ?_, (Cha.of_grownBy (S := fun _ => False) h2 (fun k e => by cases e)).wide, .inr hb, hlt⟩
    rw [← iz_app, ← List.length_append] at h1
    have := Lies.of_own h1
    rwa [List.length_append] at this
  rcases h with ⟨rfl, rfl⟩ | ⟨g, o, cap, cur, rfl, h1, h2, h3, h4, h5⟩
  · obtain ⟨v', w', hr, r1, r2, _⟩ := run_append_own (P := Tryz.prog) w w.heap.size 37 ty 3 i0 _ 1 8 Tryz.underlying37 hi hz0 hz1 hz2 rfl (by decide) (.slice none 0 0) 0 [] (World.ownsRow_nil w _ 3 1) ad N.length c (iz N) hlN hN (one_int N) (by simpa using b1) (by simpa using b2) (Nat.le_refl _)
    obtain ⟨g, o, cap, rfl, k⟩ := fin v' w' (by simpa [iz] using r1) r2
    exact ⟨g, o, cap, w', by simpa using hr, k⟩
  · by_cases hroom : A.length + N.length ≤ cap
    · have hfr : ∀ j, w.frozen? ⟨g, j, none⟩ = false := fun j => frozen_of_row w g j _ 3 h3
      have hcl : ∀ j, w.cell? ⟨g, j, none⟩ = cur[j]? := fun j => cell_of_row w g j cur 3 (0, 0) h3
      have hr := run_append_room_cells (P := Tryz.prog) w 37 ty 3 i0 Tryz.underlying37 hi g o A.length cap ad N.length c (iz N) (by rw [hz1]; exact hlN) hN (one_int N) hroom (fun j hj => by rw [hcl, hz1, Array.getElem?_eq_getElem (by omega)]; rfl) (fun j _ => hfr _)
      rw [hz1, Nat.mul_one] at hr
      obtain ⟨cur', c1, c0, c2⟩ := heap_setCells_same g 3 (iz N) (o + A.length) w cur h3 (by omega)
      refine ⟨g, o, cap, _, hr, .inr ⟨g, o, cap, cur', by rw [List.length_append], by rw [List.length_append]; exact hroom, h2, c1, by omega, fun i hi => ?_⟩, (Cha.refl (fun i => (Value.slice (some ⟨g, o, none⟩) A.length cap).ownBlock = some i) w).setCells (g := g) (fun _ => rfl) _ _, .inl rfl, by rw [size_setCells]; exact (Array.getElem?_eq_some_iff.1 h3).1⟩
      rw [List.length_append] at hi
      rw [c2]
      by_cases e : i < A.length
      · rw [if_neg (by omega), h5 i e]
        simp [List.getD, List.getElem?_append_left e]
      · rw [if_pos (by omega), show o + i - (o + A.length) = i - A.length by omega, iz_get]
        simp [List.getD, List.getElem?_append_right (show A.length ≤ i by omega), List.getElem?_eq_getElem (show i - A.length < N.length by omega)]
    · obtain ⟨v', w', hr, r1, r2⟩ := run_append_arg_grows (P := Tryz.prog) w 37 ty 3 i0 _ 1 8 Tryz.underlying37 hi hz0 hz1 hz2 rfl (by decide) ⟨g, o, none⟩ A.length cap (iz A) hlA (fun j u hu => by
        have e : (⟨g, o, none⟩ : Addr).add j = ⟨g, o + j, none⟩ := by unfold Addr.add; split <;> simp_all
        rw [e, cell_of_row w g _ cur 3 (0, 0) h3]
        rw [iz_get] at hu
        have hj : j < A.length := by
          by_cases c : j < A.length
          · exact c
          · rw [List.getElem?_eq_none (by omega)] at hu; cases hu
        rw [h5 j hj, ← hu]
        simp [List.getD, List.getElem?_eq_getElem hj]) ad N.length c (iz N) hlN hN (by omega) b1 b2
      obtain ⟨g2, o2, cap2, rfl, k⟩ := fin v' w' r1 r2
      exact ⟨g2, o2, cap2, w', hr, k⟩

section
variable {ops : Array Oper} {rest : List Oper} {o : Oper} {a : Act} {Q : Exit → Act → World → Prop} {w : World}
theorem wp_app {K : Act → World → Prop} (s x : Operand) (ho : o.op = .call { callee := .builtin .append, args := #[s, x], argTypes := #[37, 37] })
    {v : Value} {A : List Int} (hs : a.eval s = v) (hl : Lies w v A) (ad : Addr) (m c : Nat) (N : List Int) (hx : a.eval x = .slice (some ad) m c) (hm : N.length = m) (hN : ∀ j u, (iz N)[j]? = some u → w.cell? (ad.add j) = some u) (hpos : 0 < N.length)
    (b2 : (A.length + N.length) * 8 ≤ 140737488355328)
    (h : ∀ g of cap w', App w w' v A N g of cap → K (a.put o.dst (.slice (some ⟨g, of, none⟩) (A.length + N.length) cap)) w') : o.wp Tryz.prog a w K Q := by
  subst hm
  obtain ⟨g, of, cap, w', hr, hA⟩ := run_app o.type hl ad c N hN hpos b2
  unfold Oper.wp execOp
  simp only [ho, resolve, invoke, builtin, Sem.run_bind, Sem.run_pure, Result.andThen_ok, List.map_toArray, List.map_cons, List.map_nil, hs, hx, hr]
  exact h g of cap w' hA
theorem wpList_app (hgd : o.guard = none) (s x : Operand) (ho : o.op = .call { callee := .builtin .append, args := #[s, x], argTypes := #[37, 37] })
    {v : Value} {A : List Int} (hs : a.eval s = v) (hl : Lies w v A) (ad : Addr) (m c : Nat) (N : List Int) (hx : a.eval x = .slice (some ad) m c) (hm : N.length = m) (hN : ∀ j u, (iz N)[j]? = some u → w.cell? (ad.add j) = some u) (hpos : 0 < N.length)
    (b2 : (A.length + N.length) * 8 ≤ 140737488355328)
    (h : ∀ g of cap w', App w w' v A N g of cap → wpList Tryz.prog ops Q rest (a.put o.dst (.slice (some ⟨g, of, none⟩) (A.length + N.length) cap)) w') : wpList Tryz.prog ops Q (o :: rest) a w :=
  wpList_plain hgd fun _ hK => wp_app s x ho hs hl ad m c N hx hm hN hpos b2 fun g of cap w' hA => hK _ _ (h g of cap w' hA)
theorem step_app {K : Act → World → Prop} {E : Prop} (hgd : o.guard = none) (s x : Operand) (ho : o.op = .call { callee := .builtin .append, args := #[s, x], argTypes := #[37, 37] })
    {v : Value} {A : List Int} (hs : a.eval s = v) (hl : Lies w v A) (ad : Addr) (m c : Nat) (N : List Int) (hx : a.eval x = .slice (some ad) m c) (hm : N.length = m) (hN : ∀ j u, (iz N)[j]? = some u → w.cell? (ad.add j) = some u) (hpos : 0 < N.length)
    (b2 : (A.length + N.length) * 8 ≤ 140737488355328)
    (h : ∀ g of cap w', App w w' v A N g of cap → K (a.put o.dst (.slice (some ⟨g, of, none⟩) (A.length + N.length) cap)) w') :
    if Region.wanted o (yielded ops a.tmps) = true then Oper.wp Tryz.prog o a w K Q else E := by
  have hw : Region.wanted o (yielded ops a.tmps) = true := by simp [Region.wanted, hgd]
  rw [if_pos hw]
  exact wp_app s x ho hs hl ad m c N hx hm hN hpos b2 h
end
/-- One number that was just laid into a block of its own. -/
theorem one_new (w : World) (x : Int) (t : TypeId) : ∀ j u, (iz [x])[j]? = some u → (w.alloc (.cells #[.int .i64 x] t)).cell? ((⟨w.heap.size, 0, none⟩ : Addr).add j) = some u := by
  intro j u hu
  have hj : j = 0 := by
    cases j with
    | zero => rfl
    | succ n => simp [iz] at hu
  subst hj
  have e : (⟨w.heap.size, 0, none⟩ : Addr).add 0 = ⟨w.heap.size, 0, none⟩ := by unfold Addr.add; split <;> simp_all
  rw [e, cell_of_row _ w.heap.size 0 _ t (0, 0) (heap_alloc_new w _)]
  simpa [iz] using hu
end Go.Proofs.YtaloafihbdamiaaGreat

namespace Go.Proofs.YtaloafihbdamiaaGreat
open Go.ChangeShapes Go.WideShapes Go.ChangeAt Go.RowKit
variable {t : TypeId} {w : World} {b m o f P R : Nat} {z : Nat → Int} {g : Int} {l L L1 : List Int}

theorem take_any (hI : Ints t w b m z) (ho : o + 10 ≤ m) (hR : Ring z o f (g :: l)) :
    Calls Tryz.prog 74 #[.pointer (some ⟨b, o, none⟩)] w fun e w' => e = .returned (.int .i64 g) ∧ Turned t b m o z l w w' := by
  have h8 := hR.f8
  have hn := hR.n8
  simp only [List.length_cons] at hn
  have c8 := hI.cell (i := o + 8) (by omega)
  rw [hR.fst] at c8
  have c9 := hI.cell (i := o + 9) (by omega)
  rw [hR.len] at c9
  simp only [List.length_cons] at c9
  have c0 := hI.cell (i := o + f) (by omega)
  rw [hR.head] at c0
  have z8 := hI.free (o + 8)
  have z9 := hI.free (o + 9)
  have k1 : (0 : Int) ≤ (f : Int) := by omega
  have k2 : (f : Int) < 8 := by omega
  have e1 : (((f + 1) % 8 : Nat) : Int) = ((f : Int) + 1) % 8 := by omega
  have hP := hR.pop
  rw [e1] at hP
  have HP := Lib.hid hP
  have HI := Lib.hid hI
  generalize l.length = n at *
  clear hP hI hR e1
  go_enter Tryz.func74, Tryz.ntmps74
  go_wp2
  go_region
  go_wp2
  go_ret
  exact ⟨rfl, _, _, Ints.of ((HI.out.set (o + 8) _).set (o + 9) _) rfl, HP.out, fun i hi => by rw [up_other _ _ (by omega), up_other _ _ (by omega)], (((Cha.refl (· = b) w).setCell (p := ⟨b, o + 8, none⟩) (fun _ => rfl) _).setCell (p := ⟨b, o + 9, none⟩) (fun _ => rfl) _).drew⟩
theorem push_any (hI : Ints t w b m z) (ho : o + 10 ≤ m) (hR : Ring z o f L) (hl : L.length < 8) :
    Calls Tryz.prog 85 #[.pointer (some ⟨b, o, none⟩), .int .i64 g] w fun e w' => e = .returned (.tuple #[]) ∧ Turned t b m o z (L ++ [g]) w w' := by
  have h8 := hR.f8
  have c8 := hI.cell (i := o + 8) (by omega)
  rw [hR.fst] at c8
  have c9 := hI.cell (i := o + 9) (by omega)
  rw [hR.len] at c9
  have c0 := hI.cell (i := o + (f + L.length) % 8) (by omega)
  have z0 := hI.free (o + (f + L.length) % 8)
  have z9 := hI.free (o + 9)
  have HP := Lib.hid (hR.push hl g)
  have HI := Lib.hid hI
  have HS : Hid ((f + L.length) % 8 < 8) := Lib.hid (Nat.mod_lt _ (by decide))
  generalize hn : L.length = n at *
  have k1 : IntKind.i64.wrap ((f : Int) + (n : Int)) = (f : Int) + (n : Int) := IntWalk.i64_in _ (by omega)
  have k2 : ((f : Int) + (n : Int)).tmod 8 = (((f + n) % 8 : Nat) : Int) := by rw [Int.tmod_eq_emod_of_nonneg (by omega)]; omega
  obtain ⟨s, hs⟩ : ∃ s, s = (f + n) % 8 := ⟨_, rfl⟩
  rw [← hs] at k2 c0 z0 HP HS
  have k3 : (s : Int) < 8 := by have := HS.out; omega
  have k4 : (0 : Int) ≤ (s : Int) := by omega
  clear hI hR hs
  go_enter Tryz.func85, Tryz.ntmps85
  go_wp2
  go_region
  go_wp2
  go_end0
  exact ⟨rfl, _, _, Ints.of ((HI.out.set (o + s) _).set (o + 9) _) rfl, HP.out, fun i hi => by have := HS.out; rw [up_other _ _ (by omega), up_other _ _ (by omega)], (((Cha.refl (· = b) w).setCell (p := ⟨b, o + s, none⟩) (fun _ => rfl) _).setCell (p := ⟨b, o + 9, none⟩) (fun _ => rfl) _).drew⟩

/-- A number is put in its place. -/
theorem next_any (hI : Ints t w b m z) (ho : P < m) :
    Calls Tryz.prog 70 #[.pointer (some ⟨b, P, none⟩)] w fun e w' => e = .returned (.int .i64 (z P)) ∧ w' = w.setCell ⟨b, P, none⟩ (.int .i64 (-1)) := by
  have c0 := hI.cell ho
  have z0 := hI.free P
  clear hI
  generalize z P = x at *
  go_enter Tryz.func70, Tryz.ntmps70
  go_wp2
  go_ret
  exact ⟨rfl, rfl⟩
/-- How many a processor has. -/
def cnt (x : Int × List Int) : Nat := if x.1 = -1 then x.2.length else x.2.length + 1
theorem count_any (hI : Ints t w b m z) (ho : P + 11 ≤ m) (hR : Ring z (P + 1) f L) :
    Calls Tryz.prog 72 #[.pointer (some ⟨b, P, none⟩)] w fun e w' => e = .returned (.int .i64 (cnt (z P, L) : Nat)) ∧ w = w' := by
  have c0 := hI.cell (i := P) (by omega)
  have c9 := hI.cell (i := P + 1 + 9) (by omega)
  rw [hR.len] at c9
  have hn := hR.n8
  clear hI hR
  unfold cnt
  dsimp only
  generalize z P = x at *
  generalize L.length = n at *
  by_cases hx : x = -1
  · subst hx
    rw [if_pos rfl]
    go_enter Tryz.func72, Tryz.ntmps72
    go_wp2
    go_ret
    exact ⟨rfl, rfl⟩
  · rw [if_neg hx]
    have hx2 : (x == -1) = false := by simpa using hx
    clear hx
    go_enter Tryz.func72, Tryz.ntmps72
    go_wp2
    go_ret
    exact ⟨ret_int (by omega), rfl⟩

/-- What a call that turns two rings leaves. -/
def Halved (t : TypeId) (b m P R : Nat) (z : Nat → Int) (A B : List Int) (w w' : World) : Prop :=
  ∃ z' f1 f2, Ints t w' b m z' ∧ Ring z' (P + 1) f1 A ∧ Ring z' R f2 B ∧ (∀ i, (i < P + 1 ∨ P + 11 ≤ i) → (i < R ∨ R + 10 ≤ i) → z' i = z i) ∧ Cha (· = b) w w'
set_option maxRecDepth 100000 in
theorem half_any {f1 f2 : Nat} {X : List Int} (hI : Ints t w b m z) (hP : P + 11 ≤ m) (hR : R + 10 ≤ m) (hd : P + 11 ≤ R ∨ R + 10 ≤ P + 1) (h1 : Ring z (P + 1) f1 L1) (h2 : Ring z R f2 (g :: X)) (hn : L1.length + X.length / 2 ≤ 8) :
    Calls Tryz.prog 87 #[.pointer (some ⟨b, P, none⟩), .pointer (some ⟨b, R, none⟩)] w fun e w' => e = .returned (.int .i64 g) ∧ Halved t b m P R z (L1 ++ X.take (X.length / 2)) (X.drop (X.length / 2)) w w' := by
  have c9 := hI.cell (i := R + 9) (by omega)
  rw [h2.len] at c9
  simp only [List.length_cons] at c9
  have hx := h2.n8
  simp only [List.length_cons] at hx
  have C1 := Lib.hid (take_any hI hR h2)
  have C2 : Hid (∀ W z f g l, Ints t W b m z → Ring z R f (g :: l) → Calls Tryz.prog 74 #[.pointer (some ⟨b, R, none⟩)] W fun e w' => e = .returned (.int .i64 g) ∧ Turned t b m R z l W w') := Lib.hid fun W z f g l h1 h2 => take_any h1 hR h2
  have C3 : Hid (∀ W z f L g, Ints t W b m z → Ring z (P + 1) f L → L.length < 8 → Calls Tryz.prog 85 #[.pointer (some ⟨b, P + 1, none⟩), .int .i64 g] W fun e w' => e = .returned (.tuple #[]) ∧ Turned t b m (P + 1) z (L ++ [g]) W w') := Lib.hid fun W z f L g h1 h2 h3 => push_any h1 (by omega) h2 h3
  have H1 := Lib.hid h1
  generalize hX : X.length = x at *
  have HX := Lib.hid hX
  clear hI h1 h2 hX
  go_enter Tryz.func87, Tryz.ntmps87
  go_wp2_with (go_at_call 74; ((with_reducible refine (C1.out).mono ?_); rintro e w1 ⟨rfl, z1, f3, k1, k2, k3, k4⟩; have I0 : Hid (Halved t b m P R z L1 X w w1) := Lib.hid ⟨z1, f1, f3, k1, Turned.other k3 H1.out (by omega), k2, fun i _ hi => k3 i hi, k4⟩; clear k1 k2 k3 k4))
  go_loopw [17] (fun i wr => ∃ j : Nat, j ≤ x / 2 ∧ i = .int .i64 (j : Int) ∧ Halved t b m P R z (L1 ++ X.take j) (X.drop j) w wr) (fun i _ => x / 2 - (intOf i).toNat)
  case atStart => exact ⟨0, Nat.zero_le _, rfl, by rw [List.take_zero, List.drop_zero, List.append_nil]; exact I0.out⟩
  case round =>
    clear I0 C1
    obtain ⟨j, hj, rfl, z1, f1, f2, k1, k2, k3, k4, k5⟩ := hrel
    by_cases hlt : j < x / 2
    · have hjX : j < X.length := by have := HX.out; omega
      rw [List.drop_eq_getElem_cons hjX] at k3
      have hl8 : (L1 ++ X.take j).length < 8 := by rw [List.length_append, List.length_take]; omega
      have D1 := Lib.hid (C2.out wr.drew z1 f2 _ _ (k1.of rfl) k3)
      have HL8 := Lib.hid hl8
      have K2 := Lib.hid k2
      have K4 := Lib.hid k4
      have K5 := Lib.hid k5
      have HJ := Lib.hid hjX
      have ht := Lib.hid (List.take_succ_eq_append_getElem hjX)
      clear k1 k2 k3 k4 k5 hl8
      generalize X[j] = v at *
      clear hjX
      go_wp2
      go_region_law (first
        | (go_simp; go_at_call 74; refine (D1.out).mono ?_; rintro e w2 ⟨rfl, z2, f3, m1, m2, m3, m4⟩; have D2 := Lib.hid (C3.out w2 z2 f1 _ v m1 (Turned.other m3 K2.out (by omega)) HL8.out))
        | (go_simp; go_at_call 85; refine (D2.out).mono ?_; rintro e w3 ⟨rfl, z3, f4, n1, n2, n3, n4⟩))
      all_goals
        go_wp2
        go_roundw
        case rel => exact ⟨j + 1, by omega, by go_num, z3, f4, f3, n1, by rw [ht.out, ← List.append_assoc]; exact n2, Turned.other n3 m2 (by omega), fun i p q => (n3 i (by omega)).trans ((m3 i q).trans (K4.out i p q)), (K5.out.drew.trans m4).trans n4⟩
        case measure => simp [intOf]; omega
    · obtain rfl : j = x / 2 := by omega
      go_wp2
      go_ret
      exact ⟨rfl, z1, f1, f2, k1, k2, k3, k4, k5⟩
end Go.Proofs.YtaloafihbdamiaaGreat

namespace Go.Proofs.YtaloafihbdamiaaGreat
open Go.ChangeShapes Go.WideShapes Go.ChangeAt Go.RowKit

abbrev Prc := Int × List Int
/-- Put. -/
def putS (S : List Prc) (A : List Int) (p : Nat) (g : Int) : List Prc × List Int :=
  if (S.getD p (-1, [])).1 = -1 then (S.set p (g, (S.getD p (-1, [])).2), A)
  else if (S.getD p (-1, [])).2.length < 8 then (S.set p (g, (S.getD p (-1, [])).2 ++ [(S.getD p (-1, [])).1]), A)
  else (S.set p (g, (S.getD p (-1, [])).2.drop 4), A ++ ((S.getD p (-1, [])).2.take 4 ++ [(S.getD p (-1, [])).1]))
/-- Is a processor one to steal from? -/
def vic (S : List Prc) (p v : Nat) : Bool := v != p && cnt (S.getD v (-1, [])) != 0
def takeFrom (S : List Prc) (p v : Nat) : (Int × Bool) × List Prc :=
  match (S.getD v (-1, [])).2 with
  | [] => (((S.getD v (-1, [])).1, true), S.set v (-1, []))
  | g :: X => ((g, true), (S.set v ((S.getD v (-1, [])).1, X.drop (X.length / 2))).set p ((S.getD p (-1, [])).1, (S.getD p (-1, [])).2 ++ X.take (X.length / 2)))
def stealS (S : List Prc) (p f : Nat) : (Int × Bool) × List Prc :=
  match (List.range S.length).find? (fun i => vic S p ((f + i) % S.length)) with
  | none => ((0, false), S)
  | some i => takeFrom S p ((f + i) % S.length)
/-- Get, the first one to steal from being f. -/
def getS (S : List Prc) (A : List Int) (p f : Nat) : (Int × Bool) × List Prc × List Int :=
  if (S.getD p (-1, [])).1 = -1 then
    match (S.getD p (-1, [])).2 with
    | g :: l => ((g, true), S.set p (-1, l), A)
    | [] => match A with
      | g :: A' => ((g, true), S, A')
      | [] => ((stealS S p f).1, (stealS S p f).2, [])
  else (((S.getD p (-1, [])).1, true), S.set p (-1, (S.getD p (-1, [])).2), A)

/-- Queues at block bq, their processors at bp, the list for all in v; F: their blocks. -/
structure Qs (w : World) (F : Nat → Prop) (bq bp : Nat) (z : Nat → Int) (S : List Prc) (v : Value) (A : List Int) : Prop where
  head : w.heap[bq]? = some (.cells #[.slice (some ⟨bp, 0, none⟩) S.length S.length, v] 87 (0, 0))
  k1 : 1 ≤ S.length
  k8 : S.length ≤ 8
  ints : Ints 92 w bp (S.length * 11) z
  prc : ∀ (p : Nat) (x : Prc), S[p]? = some x → z (p * 11) = x.1 ∧ ∃ f, Ring z (p * 11 + 1) f x.2
  all : Lies w v A
  ne : bq ≠ bp
  fq : F bq
  fp : F bp
  fv : ∀ g, v.ownBlock = some g → F g ∧ g ≠ bq ∧ g ≠ bp
  old : ∀ i, F i → i < w.heap.size
/-- Behind a call. -/
def Left (w w' : World) (F : Nat → Prop) (bq bp : Nat) (S : List Prc) (A : List Int) : Prop :=
  ∃ F' z v, Qs w' F' bq bp z S v A ∧ Cha F w w' ∧ (∀ i, F i → F' i) ∧ ∀ i, F' i → F i ∨ w.heap.size ≤ i
section
variable {w w' W : World} {F F' T : Nat → Prop} {bq bp p g o cap : Nat} {z : Nat → Int} {S : List Prc} {v : Value} {A N L L0 : List Int} {x y : Int}
theorem set_len (S : List Prc) (p : Nat) (x : Prc) : (S.set p x).length = S.length := List.length_set ..
theorem get_lt {x : Prc} (h : S[p]? = some x) : p < S.length := (List.getElem?_eq_some_iff.1 h).1
theorem get_D {x : Prc} (h : S[p]? = some x) : S.getD p (-1, []) = x := by simp [List.getD, h]
theorem D_get (h : p < S.length) : S[p]? = some (S.getD p (-1, [])) := by simp [List.getD, List.getElem?_eq_getElem h]
theorem Qs.turn (h : Qs w F bq bp z S v A) (hp : S[p]? = some (y, L0)) (t : Turned 92 bp (S.length * 11) (p * 11 + 1) z L w w') : ∃ z', Qs w' F bq bp z' (S.set p (y, L)) v A := by
  obtain ⟨z', f, h1, h2, h3, h4⟩ := t
  have hl := get_lt hp
  refine ⟨z', by rw [set_len]; exact (h4.old bq (h.old _ h.fq) h.ne).trans h.head, by rw [set_len]; exact h.k1, by rw [set_len]; exact h.k8, by rw [set_len]; exact h1, fun q x hx => ?_, h.all.cha h4 (fun g hg e => (h.fv g hg).2.2 e), h.ne, h.fq, h.fp, h.fv, fun i hi => Nat.lt_of_lt_of_le (h.old i hi) h4.size⟩
  by_cases e : q = p
  · subst e
    rw [List.getElem?_set_self hl] at hx
    obtain rfl := Option.some.inj hx
    exact ⟨(h3 _ (by omega)).trans (h.prc q _ hp).1, f, h2⟩
  · rw [List.getElem?_set_ne (Ne.symm e)] at hx
    obtain ⟨a, f', b⟩ := h.prc q x hx
    exact ⟨(h3 _ (by omega)).trans a, f', b.congr fun i _ _ => h3 i (by omega)⟩
theorem Qs.next (h : Qs w F bq bp z S v A) (hp : S[p]? = some (y, L)) (x : Int) : Qs (w.setCell ⟨bp, p * 11, none⟩ (.int .i64 x)) F bq bp (up z (p * 11) x) (S.set p (x, L)) v A := by
  have hl := get_lt hp
  have c : Cha (fun i => i = bp) w (w.setCell ⟨bp, p * 11, none⟩ (.int .i64 x)) := (Cha.refl (fun i => i = bp) w).setCell (p := ⟨bp, p * 11, none⟩) (fun _ => rfl) _
  refine ⟨by rw [set_len]; exact (c.old bq (h.old _ h.fq) h.ne).trans h.head, by rw [set_len]; exact h.k1, by rw [set_len]; exact h.k8, by rw [set_len]; exact h.ints.set _ _, fun q u hu => ?_, h.all.cha c (fun g hg e => (h.fv g hg).2.2 e), h.ne, h.fq, h.fp, h.fv, fun i hi => Nat.lt_of_lt_of_le (h.old i hi) c.size⟩
  by_cases e : q = p
  · subst e
    rw [List.getElem?_set_self hl] at hu
    obtain rfl := Option.some.inj hu
    obtain ⟨_, f, b⟩ := h.prc q _ hp
    exact ⟨up_same _ _ _, f, b.congr fun i _ _ => up_other _ _ (by omega)⟩
  · rw [List.getElem?_set_ne (Ne.symm e)] at hu
    obtain ⟨a, f', b⟩ := h.prc q u hu
    exact ⟨(up_other _ _ (by omega)).trans a, f', b.congr fun i _ _ => up_other _ _ (by omega)⟩
/-- What isn't theirs may change. -/
theorem Qs.cha (h : Qs w F bq bp z S v A) (c : Cha T w w') (hT : ∀ i, F i → ¬ T i) : Qs w' F bq bp z S v A :=
  ⟨(c.old bq (h.old _ h.fq) (hT _ h.fq)).trans h.head, h.k1, h.k8, h.ints.cha c (hT _ h.fp), h.prc, h.all.cha c (fun g hg => hT g (h.fv g hg).1), h.ne, h.fq, h.fp, h.fv, fun i hi => Nat.lt_of_lt_of_le (h.old i hi) c.size⟩
theorem Qs.same (h : Qs w F bq bp z S v A) (c : Cha (fun _ => False) w w') : Qs w' F bq bp z S v A := h.cha c fun _ _ f => f
theorem Qs.drew (h : Qs w F bq bp z S v A) : Qs w.drew F bq bp z S v A := h.same (Cha.refl _ w).drew
/-- The list for all is another one. -/
theorem Qs.store (h : Qs w F bq bp z S v A) {v' : Value} (hl : Lies w v' N) (hf : ∀ g, v'.ownBlock = some g → F g ∧ g ≠ bq ∧ g ≠ bp) : Qs (w.setCell ⟨bq, 1, none⟩ v') F bq bp z S v' N := by
  have c : Cha (fun i => i = bq) w (w.setCell ⟨bq, 1, none⟩ v') := (Cha.refl (fun i => i = bq) w).setCell (p := ⟨bq, 1, none⟩) (fun _ => rfl) _
  exact ⟨heap_setCell_same w bq 1 _ 87 v' h.head, h.k1, h.k8, h.ints.cha c (Ne.symm h.ne), h.prc, hl.cha c (fun g hg => (hf g hg).2.1), h.ne, h.fq, h.fp, hf, fun i hi => Nat.lt_of_lt_of_le (h.old i hi) c.size⟩
theorem Qs.app (h : Qs w F bq bp z S v A) (a : App w w' v A N g o cap) :
    Qs (w'.setCell ⟨bq, 1, none⟩ (.slice (some ⟨g, o, none⟩) (A.length + N.length) cap)) (fun i => F i ∨ i = g) bq bp z S (.slice (some ⟨g, o, none⟩) (A.length + N.length) cap) (A ++ N) := by
  have hg : g ≠ bq ∧ g ≠ bp := by
    rcases a.at' with e | e
    · exact (h.fv g e).2
    · have h1 := h.old _ h.fq
      have h2 := h.old _ h.fp
      exact ⟨by omega, by omega⟩
  have ch : Cha (fun i => v.ownBlock = some i) w w' := a.cha
  have hd := (ch.old bq (h.old _ h.fq) (fun e => (h.fv _ e).2.1 rfl)).trans h.head
  have c : Cha (fun i => i = bq) w' (w'.setCell ⟨bq, 1, none⟩ (.slice (some ⟨g, o, none⟩) (A.length + N.length) cap)) := (Cha.refl (fun i => i = bq) w').setCell (p := ⟨bq, 1, none⟩) (fun _ => rfl) _
  refine ⟨heap_setCell_same w' bq 1 _ 87 _ hd, h.k1, h.k8, (h.ints.cha ch (fun e => (h.fv _ e).2.2 rfl)).cha c (Ne.symm h.ne), h.prc, a.lies.cha c (fun i hi e => ?_), h.ne, .inl h.fq, .inl h.fp, fun i hi => ?_, fun i hi => ?_⟩
  · have e1 : g = i := by simpa [Value.ownBlock] using hi
    have e2 : i = bq := e
    exact hg.1 (e1.trans e2)
  · have e1 : g = i := by simpa [Value.ownBlock] using hi
    subst e1
    exact ⟨.inr rfl, hg⟩
  · refine Nat.lt_of_lt_of_le ?_ c.size
    rcases hi with hi | hi
    · exact Nat.lt_of_lt_of_le (h.old i hi) ch.size
    · rw [hi]; exact a.lt
theorem Left.refl (h : Qs w F bq bp z S v A) : Left w w F bq bp S A := ⟨F, z, v, h, Cha.refl _ _, fun _ h => h, fun _ h => .inl h⟩
theorem Left.trans {w1 w2 : World} {S1 : List Prc} {A1 : List Int} (h : Left w w1 F bq bp S A) (k : ∀ F' z v, Qs w1 F' bq bp z S v A → Left w1 w2 F' bq bp S1 A1) : Left w w2 F bq bp S1 A1 := by
  obtain ⟨F1, z, v, q, c, s, n⟩ := h
  obtain ⟨F2, z2, v2, q2, c2, s2, n2⟩ := k F1 z v q
  refine ⟨F2, z2, v2, q2, c.over c2 n, fun i hi => s2 i (s i hi), fun i hi => ?_⟩
  rcases n2 i hi with e | e
  · exact n i e
  · exact .inr (Nat.le_trans c.size e)
theorem Left.of_drew (h : Left w.drew w' F bq bp S A) : Left w w' F bq bp S A := by
  obtain ⟨F1, z, v, q, c, s, n⟩ := h
  exact ⟨F1, z, v, q, ⟨c.os, c.out, c.size, c.old⟩, s, n⟩
end
end Go.Proofs.YtaloafihbdamiaaGreat
