/- Blocks of cells, what a call may change. -/
import Derived.Test.YtpdjbhnpahkbpaaB
import Derived.WalkKit
import Derived.ProofKit
import Derived.Deep.MidRow
import Derived.Laws.MakeOwn
import Derived.Laws.AppendOwn
import Derived.RangeFuncWrites
import Derived.BigQuiet
namespace Go.Proofs.Ytpdjbhnpahkbpaa
open Go.ChangeShapes Go.WideShapes Go.ChangeAt Go.RowKit

/-- n cells of a block. -/
def fcells (n : Nat) (r : Nat → Value) : Array Value := (Array.range n).map r
theorem get_fcells (k i : Nat) (r : Nat → Value) : (fcells k r)[i]? = if i < k then some (r i) else none := by
  unfold fcells
  by_cases h : i < k
  · simp [h]
  · rw [if_neg h, Array.getElem?_eq_none (by simp; omega)]
theorem size_fcells (k : Nat) (r : Nat → Value) : (fcells k r).size = k := by simp [fcells]
def FRow (t : TypeId) (W : World) (g k : Nat) (r : Nat → Value) : Prop := W.heap[g]? = some (.cells (fcells k r) t (0, 0))
section
variable {t : TypeId} {W : World} {g k i : Nat} {r : Nat → Value}
theorem FRow.cell (h : FRow t W g k r) (hi : i < k) : W.cell? ⟨g, i, none⟩ = some (r i) := by
  rw [cell_of_row W g i _ t (0, 0) h, get_fcells, if_pos hi]
theorem FRow.free (h : FRow t W g k r) (i : Nat) : W.frozen? ⟨g, i, none⟩ = false := frozen_of_row W g i _ t h
theorem FRow.lt (h : FRow t W g k r) : g < W.heap.size := by
  by_cases hl : g < W.heap.size
  · exact hl
  · unfold FRow at h; rw [Array.getElem?_eq_none (by omega)] at h; cases h
theorem FRow.congr {r' : Nat → Value} (h : FRow t W g k r) (he : ∀ i, i < k → r i = r' i) : FRow t W g k r' := by
  have e : fcells k r = fcells k r' := by
    apply Array.ext_getElem?
    intro x
    rw [get_fcells, get_fcells]
    split
    · rw [he x (by assumption)]
    · rfl
  unfold FRow
  rw [← e]
  exact h
theorem FRow.set (h : FRow t W g k r) (v : Value) : FRow t (W.setCell ⟨g, i, none⟩ v) g k (fun x => if x = i then v else r x) := by
  have e := heap_setCell_same W g i _ t v h
  have e2 : (fcells k r).setIfInBounds i v = fcells k (fun x => if x = i then v else r x) := by
    apply Array.ext_getElem?
    intro x
    rw [Array.getElem?_setIfInBounds, get_fcells, get_fcells, size_fcells]
    by_cases ex : i = x
    · subst ex; rw [if_pos rfl, if_pos rfl]
    · have ex2 : ¬ x = i := fun c => ex c.symm
      rw [if_neg ex, if_neg ex2]
  rw [e2] at e
  exact e
end

/-- What a call may change: blocks of S, and new ones. -/
structure Cha (S : Nat → Prop) (w w' : World) : Prop where
  os : w'.os = w.os
  out : w'.output = w.output
  size : w.heap.size ≤ w'.heap.size
  old : ∀ i, i < w.heap.size → ¬ S i → w'.heap[i]? = w.heap[i]?
section
variable {S T : Nat → Prop} {w a b c : World}
theorem Cha.refl (S : Nat → Prop) (w : World) : Cha S w w := ⟨rfl, rfl, Nat.le_refl _, fun _ _ _ => rfl⟩
theorem Cha.trans (h : Cha S a b) (k : Cha S b c) : Cha S a c :=
  ⟨k.os.trans h.os, k.out.trans h.out, Nat.le_trans h.size k.size, fun i hi hs => (k.old i (Nat.lt_of_lt_of_le hi h.size) hs).trans (h.old i hi hs)⟩
theorem Cha.mono (h : Cha S a b) (hst : ∀ i, i < a.heap.size → S i → T i) : Cha T a b :=
  ⟨h.os, h.out, h.size, fun i hi hn => h.old i hi fun hs => hn (hst i hi hs)⟩
theorem Cha.wide (h : Cha (fun _ => False) a b) : Cha S a b := h.mono fun _ _ f => f.elim
/-- Changes of what is new since w are none of w's. -/
theorem Cha.over (h : Cha T w a) (k : Cha S a b) (hs : ∀ i, S i → T i ∨ w.heap.size ≤ i) : Cha T w b :=
  ⟨k.os.trans h.os, k.out.trans h.out, Nat.le_trans h.size k.size, fun i hi hn => (k.old i (Nat.lt_of_lt_of_le hi h.size) (fun c => by rcases hs i c with c | c; exact hn c; omega)).trans (h.old i hi hn)⟩
theorem Cha.drew (h : Cha S a b) : Cha S a b.drew := ⟨h.os, h.out, h.size, h.old⟩
theorem Cha.drewN (h : Cha S a b) (k : Nat) : Cha S a (b.drewN k) := ⟨h.os, h.out, h.size, h.old⟩
theorem Cha.alloc (h : Cha S a b) (o : Obj) : Cha S a (b.alloc o) :=
  ⟨h.os, h.out, Nat.le_trans h.size (by show b.heap.size ≤ (b.heap.push _).size; simp), fun i hi hs => (heap_alloc_old b _ (Nat.lt_of_lt_of_le hi h.size)).trans (h.old i hi hs)⟩
theorem Cha.setCell (h : Cha S a b) {p : Addr} (hp : p.block < a.heap.size → S p.block) (v : Value) : Cha S a (b.setCell p v) :=
  ⟨h.os, h.out, by have := h.size; simpa [World.setCell] using this, fun i hi hs => (heap_setCell_other b p i v (fun e => hs (e ▸ hp (e ▸ hi)))).trans (h.old i hi hs)⟩
theorem Cha.of_grownBy {row : Option Nat} (h : a.grownBy b row) (hr : ∀ k, row = some k → S k) : Cha S a b :=
  ⟨h.os, h.output, h.size, fun i hi hn => h.block i hi (fun e => hn (hr i e.symm))⟩
theorem Cha.putObj (h : Cha S a b) {l : Nat} (hl : a.heap.size ≤ l) (o : Obj) : Cha S a (b.putObj l o) :=
  h.over (Cha.of_grownBy (S := fun i => i = l) (grownBy_putObj' b l o) (fun k e => by cases e; rfl)) (fun i hi => .inr (by omega))
theorem Cha.row {t : TypeId} {W W' : World} {g k : Nat} {r : Nat → Value} (c : Cha S W W') (h : FRow t W g k r) (hs : ¬ S g) : FRow t W' g k r := (c.old _ h.lt hs).trans h
theorem Cha.keptBut (h : Cha (fun _ => False) a b) (may : MemPlace → Prop) : a.keptBut b may :=
  World.keptBut_mono (fun _ f => f.elim) (World.keptBut_none_iff.2 ⟨h.os, h.out, fun i hi => h.old i hi (fun x => x)⟩)
end

theorem ret_int {k : IntKind} {a b : Int} (h : a = b) : Ending.returned (.int k a) = .returned (.int k b) := by rw [h]
theorem ret_bool {a b : Bool} (h : a = b) : Ending.returned (.bool a) = .returned (.bool b) := by rw [h]
theorem ret_ints {a b c d : Int} (h : a = b) (k : c = d) : Ending.returned (.tuple #[.int .i64 a, .int .i64 c]) = .returned (.tuple #[.int .i64 b, .int .i64 d]) := by rw [h, k]
section
variable {P : Program} (w : World)
/-- Where the list lies behind an append: where it lay, or in a new block. -/
theorem run_append_where (base : Nat) (t ty e : TypeId) (i : TypeInfo) (z : Value) (size bytes : Nat) (ht : P.underlying t = some (.slice e)) (hi : P.info? e = some i) (hz : i.zero = some z)
    (hsize : i.size = size) (hby : i.bytes = bytes) (hzs : z.cells.size = size) (hsz : 0 < size)
    (v : Value) (n : Nat) (xs : List Value) (hown : w.ownsRow base e size v n xs)
    (a : Addr) (m c : Nat) (news : List Value) (hl : news.length = m * size) (hnews : ∀ j u, news[j]? = some u → w.cell? (a.add j) = some u) (h1 : ∀ u ∈ news, u.oneCell' = true)
    (h63 : n + m ≤ maxLen) (hbytes : (n + m) * bytes ≤ 140737488355328) (hbase : base ≤ w.heap.size) :
    ∃ v' w', (Builtin.append_ #[t, t] ty #[v, .slice (some a) m c]).run P w = .ok v' w' ∧ w'.ownsRow base e size v' (n + m) (xs ++ news) ∧ w.grownBy w' v.ownBlock ∧
      (v'.ownBlock = v.ownBlock ∨ ∀ g, v'.ownBlock = some g → w.heap.size ≤ g) := by
  obtain ⟨v', w', hr, h2, h3, h4⟩ := run_append_own (P := P) w base t ty e i z size bytes ht hi hz hsize hby hzs hsz v n xs hown a m c news hl hnews h1 h63 hbytes hbase
  refine ⟨v', w', hr, h2, h3, ?_⟩
  rcases hown.2 with ⟨rfl, rfl⟩ | ⟨g, cap, cur, rfl, hb, hg, hnc, hcm, hcs, htk⟩
  · have hx : xs = [] := List.eq_nil_of_length_eq_zero (by simpa using hown.1)
    subst hx
    obtain ⟨v2, w2, hr2, o2, _⟩ := run_append_own (P := P) w w.heap.size t ty e i z size bytes ht hi hz hsize hby hzs hsz (.slice none 0 0) 0 [] (World.ownsRow_nil _ _ _ _) a m c news hl hnews h1 h63 hbytes (Nat.le_refl _)
    rw [hr] at hr2
    cases hr2
    exact .inr fun g hg => (o2.lt g hg).1
  · by_cases hroom : n + m ≤ cap
    · obtain ⟨w2, hr2, _⟩ := run_append_fits (P := P) w base t ty e i size ht hi hsize g n cap xs hown a m c news hl hnews h1 hroom
      rw [hr] at hr2
      cases hr2
      exact .inl rfl
    · subst hsize
      subst hby
      have holds : ∀ j u, xs[j]? = some u → w.cell? ((⟨g, 0, none⟩ : Addr).add j) = some u := hown.cells (g := g) rfl
      have hsmall : n + m ≤ 9223372036854775807 := by simp only [maxLen] at h63; omega
      have hr2 := run_append_grow (P := P) w t ty e i z ht hi hz ⟨g, 0, none⟩ n cap xs hown.1 holds a m c news hl hnews (by omega) (by omega) (growslice_fits (by omega) hbytes)
      rw [hr] at hr2
      cases hr2
      exact .inr fun g' hg' => by simp [Value.ownBlock] at hg'; omega
theorem wpList_append_where {ops : Array Oper} {rest : List Oper} {o : Oper} {a : Act} {Q : Exit → Act → World → Prop} (hgd : o.guard = none) (s x : Operand) (t : TypeId)
    (ho : o.op = .call { callee := .builtin .append, args := #[s, x], argTypes := #[t, t] })
    (base : Nat) (e : TypeId) (i : TypeInfo) (z : Value) (size bytes : Nat) (ht : P.underlying t = some (.slice e)) (hi : P.info? e = some i) (hz : i.zero = some z)
    (hsize : i.size = size) (hby : i.bytes = bytes) (hzs : z.cells.size = size) (hsz : 0 < size)
    (v : Value) (n : Nat) (xs : List Value) (hs : a.eval s = v) (hown : w.ownsRow base e size v n xs)
    (ad : Addr) (m c : Nat) (news : List Value) (hx : a.eval x = .slice (some ad) m c) (hl : news.length = m * size) (hnews : ∀ j u, news[j]? = some u → w.cell? (ad.add j) = some u) (h1 : ∀ u ∈ news, u.oneCell' = true)
    (h63 : n + m ≤ maxLen) (hbytes : (n + m) * bytes ≤ 140737488355328) (hbase : base ≤ w.heap.size)
    (h : ∀ v' w', w'.ownsRow base e size v' (n + m) (xs ++ news) → w.grownBy w' v.ownBlock → (v'.ownBlock = v.ownBlock ∨ ∀ g, v'.ownBlock = some g → w.heap.size ≤ g) → wpList P ops Q rest (a.put o.dst v') w') : wpList P ops Q (o :: rest) a w :=
  wpList_plain hgd fun K hK => by
    obtain ⟨v', w', hr, h2, h3, h4⟩ := run_append_where (P := P) w base t o.type e i z size bytes ht hi hz hsize hby hzs hsz v n xs hown ad m c news hl hnews h1 h63 hbytes hbase
    unfold Oper.wp execOp
    simp only [ho, resolve, invoke, builtin, Sem.run_bind, Sem.run_pure, Result.andThen_ok, List.map_toArray, List.map_cons, List.map_nil, hs, hx, hr]
    exact hK _ _ (h v' w' h2 h3 h4)
end

theorem one_new (w : World) (x : Value) (t : TypeId) : ∀ j u, ([x] : List Value)[j]? = some u → (w.alloc (.cells #[x] t)).cell? ((⟨w.heap.size, 0, none⟩ : Addr).add j) = some u := by
  intro j u h
  cases j with
  | zero =>
    have e : (⟨w.heap.size, 0, none⟩ : Addr).add 0 = ⟨w.heap.size, 0, none⟩ := by simp [Addr.add]
    rw [e, World.cell?_alloc_new]
    simpa using h
  | succ j => simp at h
variable {B : Nat} {S : Nat → Prop} {w w' : World} {v : Value}
theorem own_but {n size : Nat} {t : TypeId} {xs : List Value} (h : w.ownsRow B t size v n xs) (c : Cha S w w') (hs : ∀ g, v.ownBlock = some g → ¬ S g) : w'.ownsRow B t size v n xs := by
  obtain ⟨h0, h | ⟨g, cap, cur, h1, hg, h2, h3⟩⟩ := h
  · exact ⟨h0, .inl h⟩
  · have hl : g < w.heap.size := by
      by_cases hl : g < w.heap.size
      · exact hl
      · rw [Array.getElem?_eq_none (by omega)] at h2; cases h2
    exact ⟨h0, .inr ⟨g, cap, cur, h1, hg, (c.old g hl (hs g (by rw [h1]; rfl))).trans h2, h3⟩⟩
end Go.Proofs.Ytpdjbhnpahkbpaa
