/- Layer 7's cells in memory: what lies where. -/
import Derived.Test.YtiboobaggpghjaaDoorDA
import Derived.Test.YtiboobaggpghjaaDoorDB
import Derived.Test.YtiboobaggpghjaaDoorTC
namespace Go.Proofs.YtiboobaggpghjaaDoor
open Go.ChangeShapes Go.WideShapes Go.ChangeAt Go.RowKit

/-! ### Turns of the list, plainly -/
def upd (A : List Bk) (b : Nat) (f : Bk → Bk) : List Bk := A.map fun y => if y.b = b then f y else y
def rem (A : List Bk) (b : Nat) : List Bk := A.filter fun y => !decide (y.b = b)
def nb (y : Bk) : Bool := !decide (y.c = -2)
section
variable {n pr : Nat} {A A' : List Bk} {x y z : Bk} {b : Nat} {f : Bk → Bk}
theorem nb_iff : nb y = true ↔ y.c ≠ -2 := by unfold nb; simp
theorem mem_upd : z ∈ upd A b f ↔ ∃ y ∈ A, z = if y.b = b then f y else y := by
  unfold upd; rw [List.mem_map]
  constructor
  · rintro ⟨y, hy, e⟩; exact ⟨y, hy, e.symm⟩
  · rintro ⟨y, hy, e⟩; exact ⟨y, hy, e.symm⟩
theorem mem_rem : z ∈ rem A b ↔ z ∈ A ∧ z.b ≠ b := by unfold rem; simp
/-- f leaves a block's place and class. -/
structure Keeps (f : Bk → Bk) : Prop where
  b : ∀ y, (f y).b = y.b
  k : ∀ y, (f y).k = y.k
  c : ∀ y, (f y).c = y.c
  wd : ∀ y, (f y).wd = y.wd
theorem upd_inv (h : Inv n pr A) (kf : Keeps f) (hk : ∀ y ∈ A, y.b = b → (f y).kind pr) (ho : ∀ y ∈ A, y.b = b → 0 ≤ (f y).h → (f y).h = y.h ∨ ∀ z ∈ A, ¬ (z.h = (f y).h ∧ z.c = y.c)) : Inv n pr (upd A b f) := by
  have key : ∀ y : Bk, (if y.b = b then f y else y).b = y.b ∧ (if y.b = b then f y else y).k = y.k ∧ (if y.b = b then f y else y).c = y.c := fun y => by
    split
    · exact ⟨kf.b y, kf.k y, kf.c y⟩
    · exact ⟨rfl, rfl, rfl⟩
  refine ⟨?_, fun x hx => ?_, fun x hx => ?_, fun x hx y hy h1 h2 h3 => ?_⟩
  · unfold upd
    rw [List.pairwise_map]
    refine h.apart.imp fun {x y} e => ?_
    rw [(key x).1, (key x).2.1, (key y).1, (key y).2.1]; exact e
  · obtain ⟨y, hy, rfl⟩ := mem_upd.1 hx
    rw [(key y).1, (key y).2.1]; exact h.rng y hy
  · obtain ⟨y, hy, rfl⟩ := mem_upd.1 hx
    split
    · rename_i e; exact hk y hy e
    · exact h.kind y hy
  · obtain ⟨x, hx', rfl⟩ := mem_upd.1 hx
    obtain ⟨y, hy', rfl⟩ := mem_upd.1 hy
    rw [(key x).1, (key y).1]
    rw [(key x).2.2, (key y).2.2] at h3
    by_cases e1 : x.b = b
    · by_cases e2 : y.b = b
      · rw [e1, e2]
      · rw [if_pos e1] at h1 h2
        rw [if_neg e2] at h2
        rcases ho x hx' e1 h1 with e | e
        · exact h.one x hx' y hy' (by rw [← e]; exact h1) (by rw [← e]; exact h2) h3
        · exact absurd ⟨h2.symm, h3.symm⟩ (e y hy')
    · rw [if_neg e1] at h1 h2
      by_cases e2 : y.b = b
      · rw [if_pos e2] at h2
        rcases ho y hy' e2 (by rw [← h2]; exact h1) with e | e
        · exact h.one x hx' y hy' h1 (by rw [← e]; exact h2) h3
        · exact absurd ⟨h2, h3⟩ (e x hx')
      · rw [if_neg e2] at h2
        exact h.one x hx' y hy' h1 h2 h3
theorem rem_inv (h : Inv n pr A) (b : Nat) : Inv n pr (rem A b) :=
  ⟨h.apart.filter _, fun x hx => h.rng x (mem_rem.1 hx).1, fun x hx => h.kind x (mem_rem.1 hx).1, fun x hx y hy => h.one x (mem_rem.1 hx).1 y (mem_rem.1 hy).1⟩
theorem add_inv (h : Inv n pr A) (hf : ∀ i, x.b ≤ i → i < x.b + x.k → covA A i = false) (h1 : 1 ≤ x.k) (h2 : x.b + x.k ≤ n) (hk : x.kind pr) (ho : x.h = -1) : Inv n pr (A ++ [x]) := by
  have sep : ∀ y ∈ A, y.b + y.k ≤ x.b ∨ x.b + x.k ≤ y.b := fun y hy => by
    have hr := h.rng y hy
    by_cases c : y.b + y.k ≤ x.b
    · exact .inl c
    · by_cases d : x.b + x.k ≤ y.b
      · exact .inr d
      · have := hf (max x.b y.b) (by omega) (by omega)
        rw [covA_iff.2 ⟨y, hy, by omega, by omega⟩] at this; cases this
  refine ⟨List.pairwise_append.2 ⟨h.apart, List.pairwise_singleton _ _, fun y hy z hz => ?_⟩, fun y hy => ?_, fun y hy => ?_, fun y hy z hz q1 q2 q3 => ?_⟩
  · obtain rfl := List.mem_singleton.1 hz
    exact sep y hy
  · rcases List.mem_append.1 hy with hy | hy
    · exact h.rng y hy
    · obtain rfl := List.mem_singleton.1 hy; exact ⟨h1, h2⟩
  · rcases List.mem_append.1 hy with hy | hy
    · exact h.kind y hy
    · obtain rfl := List.mem_singleton.1 hy; exact hk
  · rcases List.mem_append.1 hy with hy | hy
    · rcases List.mem_append.1 hz with hz | hz
      · exact h.one y hy z hz q1 q2 q3
      · obtain rfl := List.mem_singleton.1 hz; omega
    · obtain rfl := List.mem_singleton.1 hy; omega
theorem nb_upd (kf : Keeps f) : ((upd A b f).filter nb).length = (A.filter nb).length := by
  unfold upd
  induction A with
  | nil => rfl
  | cons y A ih =>
    have e : nb (if y.b = b then f y else y) = nb y := by
      split
      · unfold nb; rw [kf.c]
      · rfl
    rw [List.map_cons, List.filter_cons, List.filter_cons, e]
    split
    · simp only [List.length_cons]; rw [ih]
    · exact ih
theorem rem_split (h : Inv n pr A) (hy : y ∈ A) : ∃ A1 A2, A = A1 ++ y :: A2 ∧ rem A y.b = A1 ++ A2 := by
  obtain ⟨A1, A2, rfl⟩ := List.append_of_mem hy
  refine ⟨A1, A2, rfl, ?_⟩
  have hp := List.pairwise_append.1 h.apart
  have hr := h.rng
  have ne1 : ∀ z ∈ A1, z.b ≠ y.b := fun z hz e => by
    have q := hp.2.2 z hz y (List.mem_cons_self ..)
    have := hr z (List.mem_append_left _ hz)
    have := hr y (List.mem_append_right _ (List.mem_cons_self ..))
    omega
  have ne2 : ∀ z ∈ A2, z.b ≠ y.b := fun z hz e => by
    have q := (List.pairwise_cons.1 hp.2.1).1 z hz
    have := hr z (List.mem_append_right _ (List.mem_cons_of_mem _ hz))
    have := hr y (List.mem_append_right _ (List.mem_cons_self ..))
    omega
  unfold rem
  rw [List.filter_append, List.filter_cons_of_neg (by simp), List.filter_eq_self.2 fun z hz => by simpa using ne1 z hz, List.filter_eq_self.2 fun z hz => by simpa using ne2 z hz]
theorem nb_rem (h : Inv n pr A) (hy : y ∈ A) (hc : y.c ≠ -2) : (A.filter nb).length = ((rem A y.b).filter nb).length + 1 := by
  obtain ⟨A1, A2, rfl, e2⟩ := rem_split h hy
  rw [e2, List.filter_append, List.filter_append, List.filter_cons_of_pos (nb_iff.2 hc)]
  simp; omega
theorem nb_rem0 (h : Inv n pr A) (hy : y ∈ A) (hc : y.c = -2) : (A.filter nb).length = ((rem A y.b).filter nb).length := by
  obtain ⟨A1, A2, rfl, e2⟩ := rem_split h hy
  rw [e2, List.filter_append, List.filter_append, List.filter_cons_of_neg (by unfold nb; simp [hc])]
theorem lk_upd {tg : Bk → Int} {L : List Spn} (h : Lk tg L A) (kf : Keeps f) (ht : ∀ y, tg (f y) = tg y) : Lk tg L (upd A b f) := fun s => by
  rw [h s]
  have key : ∀ y : Bk, (⟨(if y.b = b then f y else y).b, (if y.b = b then f y else y).k, tg (if y.b = b then f y else y)⟩ : Spn) = ⟨y.b, y.k, tg y⟩ := fun y => by
    split
    · rw [kf.b, kf.k, ht]
    · rfl
  constructor
  · rintro ⟨y, hy, rfl⟩
    exact ⟨_, mem_upd.2 ⟨y, hy, rfl⟩, (key y).symm⟩
  · rintro ⟨z, hz, rfl⟩
    obtain ⟨y, hy, rfl⟩ := mem_upd.1 hz
    exact ⟨y, hy, key y⟩
theorem lk_add {tg : Bk → Int} {L : List Spn} (h : Lk tg L A) (x : Bk) : Lk tg (ins ⟨x.b, x.k, tg x⟩ L) (A ++ [x]) := fun s => by
  rw [mem_ins, h s]
  constructor
  · rintro (rfl | ⟨y, hy, rfl⟩)
    · exact ⟨x, List.mem_append_right _ (List.mem_singleton.2 rfl), rfl⟩
    · exact ⟨y, List.mem_append_left _ hy, rfl⟩
  · rintro ⟨y, hy, rfl⟩
    rcases List.mem_append.1 hy with hy | hy
    · exact .inr ⟨y, hy, rfl⟩
    · obtain rfl := List.mem_singleton.1 hy; exact .inl rfl
theorem lk_rem {tg : Bk → Int} {L : List Spn} (h : Lk tg L A) (b : Nat) : Lk tg (del b L) (rem A b) := fun s => by
  rw [mem_del, h s]
  constructor
  · rintro ⟨⟨y, hy, rfl⟩, hb⟩
    exact ⟨y, mem_rem.2 ⟨hy, hb⟩, rfl⟩
  · rintro ⟨y, hy, rfl⟩
    obtain ⟨h1, h2⟩ := mem_rem.1 hy
    exact ⟨⟨y, h1, rfl⟩, h2⟩
/-- Who is held by processor p of class c. -/
def hv (pb : Nat → Nat) (A : List Bk) (p c : Nat) : Value :=
  match A.find? (fun y => decide (y.h = (p : Int)) && decide (y.c = (c : Int))) with
  | some y => .pointer (some ⟨pb y.b, 0, none⟩)
  | none => .pointer none
variable {pb pb' : Nat → Nat} {p c : Nat}
theorem hv_some (h : Inv n pr A) (hy : y ∈ A) (h1 : y.h = (p : Int)) (h2 : y.c = (c : Int)) : hv pb A p c = .pointer (some ⟨pb y.b, 0, none⟩) := by
  unfold hv
  cases hf : A.find? (fun y => decide (y.h = (p : Int)) && decide (y.c = (c : Int))) with
  | none =>
    have := List.find?_eq_none.1 hf y hy
    simp [h1, h2] at this
  | some z =>
    have hz := List.mem_of_find?_eq_some hf
    have := List.find?_some hf
    simp at this
    have e := h.one z hz y hy (by omega) (by omega) (by omega)
    show Value.pointer (some ⟨pb z.b, 0, none⟩) = _
    rw [e]
theorem hv_none (h : ∀ y ∈ A, ¬ (y.h = (p : Int) ∧ y.c = (c : Int))) : hv pb A p c = .pointer none := by
  unfold hv
  rw [List.find?_eq_none.2 fun y hy => by have := h y hy; simpa using this]
theorem hv_cases (h : Inv n pr A) (p c : Nat) : (∃ y ∈ A, y.h = (p : Int) ∧ y.c = (c : Int) ∧ hv pb A p c = .pointer (some ⟨pb y.b, 0, none⟩)) ∨ ((∀ y ∈ A, ¬ (y.h = (p : Int) ∧ y.c = (c : Int))) ∧ hv pb A p c = .pointer none) := by
  by_cases e : ∃ y ∈ A, y.h = (p : Int) ∧ y.c = (c : Int)
  · obtain ⟨y, hy, h1, h2⟩ := e
    exact .inl ⟨y, hy, h1, h2, hv_some h hy h1 h2⟩
  · have e2 : ∀ y ∈ A, ¬ (y.h = (p : Int) ∧ y.c = (c : Int)) := fun y hy k => e ⟨y, hy, k⟩
    exact .inr ⟨e2, hv_none e2⟩
theorem hv_eq (h : Inv n pr A) (h' : Inv n pr A') (he : ∀ b, (∃ y ∈ A, y.b = b ∧ y.h = (p : Int) ∧ y.c = (c : Int)) ↔ (∃ y ∈ A', y.b = b ∧ y.h = (p : Int) ∧ y.c = (c : Int))) (hp : ∀ y ∈ A, y.h = (p : Int) → y.c = (c : Int) → pb y.b = pb' y.b) : hv pb A p c = hv pb' A' p c := by
  rcases hv_cases (pb := pb) h p c with ⟨y, hy, h1, h2, e⟩ | ⟨h1, e⟩
  · obtain ⟨z, hz, e1, e2, e3⟩ := (he y.b).1 ⟨y, hy, rfl, h1, h2⟩
    rw [e, hv_some h' hz e2 e3, e1, hp y hy h1 h2]
  · rw [e, hv_none]
    rintro z hz ⟨e2, e3⟩
    obtain ⟨y, hy, _, k2, k3⟩ := (he z.b).2 ⟨z, hz, rfl, e2, e3⟩
    exact h1 y hy ⟨k2, k3⟩
end

/-! ### In memory -/
/-- Where all lies: the cells, their table, its pages, marks and spans, the map, what is held, the rows of what is held; the blocks and their marks by their first pages. -/
structure Ad where
  bc : Nat
  bt : Nat
  bm : Nat
  bp : Nat
  bs : Nat
  mb : Nat
  hb : Nat
  hp : Nat → Nat
  pb : Nat → Nat
  ub : Nat → Nat
def bkC (q : Nat) (y : Bk) : Array Value := #[.int .i64 (y.b : Int), .int .i64 (y.k : Int), .int .i64 y.c, .int .i64 (y.wd : Int), .slice (some ⟨q, 0, none⟩) y.u.length y.u.length, .int .i64 (cnt y.u : Int), .bool (decide (0 ≤ y.h))]
def uV (u : List Bool) (i : Nat) : Value := .bool (u.getD i false)
/-- A block and its marks. -/
structure Bl (W : World) (p q : Nat) (y : Bk) : Prop where
  hd : W.heap[p]? = some (.cells (bkC q y) 81 (0, 0))
  us : FRow 4 W q y.u.length (uV y.u)
section
variable {W W' : World} {p q : Nat} {y : Bk} {S : Nat → Prop}
theorem Bl.lt (h : Bl W p q y) : p < W.heap.size ∧ q < W.heap.size := ⟨(Array.getElem?_eq_some_iff.1 h.hd).1, h.us.lt⟩
theorem Bl.cha (h : Bl W p q y) (c : Cha S W W') (h1 : ¬ S p) (h2 : ¬ S q) : Bl W' p q y := ⟨(c.old _ h.lt.1 h1).trans h.hd, c.row h.us h2⟩
theorem Bl.cells (h : Bl W p q y) : W.cell? ⟨p, 0, none⟩ = some (.int .i64 (y.b : Int)) ∧ W.cell? ⟨p, 3, none⟩ = some (.int .i64 (y.wd : Int)) ∧ W.cell? ⟨p, 4, none⟩ = some (.slice (some ⟨q, 0, none⟩) y.u.length y.u.length) ∧ W.cell? ⟨p, 5, none⟩ = some (.int .i64 (cnt y.u : Int)) ∧ W.cell? ⟨p, 6, none⟩ = some (.bool (decide (0 ≤ y.h))) :=
  ⟨cell_of_row W p 0 _ 81 (0, 0) h.hd, cell_of_row W p 3 _ 81 (0, 0) h.hd, cell_of_row W p 4 _ 81 (0, 0) h.hd, cell_of_row W p 5 _ 81 (0, 0) h.hd, cell_of_row W p 6 _ 81 (0, 0) h.hd⟩
theorem Bl.free (h : Bl W p q y) (i : Nat) : W.frozen? ⟨p, i, none⟩ = false := frozen_of_row W p i _ 81 h.hd
theorem Bl.mark (h : Bl W p q y) {i : Nat} {v : Bool} (hi : y.u[i]? = some v) : W.cell? ⟨q, i, none⟩ = some (.bool v) := by
  rw [h.us.cell (lt_of_get hi)]
  unfold uV
  rw [List.getD_eq_getElem?_getD, hi]; rfl
end
theorem ty_ne {W : World} {i j : Nat} {c c' : Array Value} {t t' : TypeId} {z z' : Nat × Nat} (h : W.heap[i]? = some (.cells c t z)) (h' : W.heap[j]? = some (.cells c' t' z')) (hne : t ≠ t') : i ≠ j := by
  rintro rfl
  rw [h] at h'
  injection h' with e
  injection e with _ e2
  exact hne e2
theorem map_ne {W : World} {i j : Nat} {c : Array Value} {t : TypeId} {z : Nat × Nat} {es : Array MapEntry} {k : Nat} (h : W.heap[i]? = some (.cells c t z)) (h' : W.heap[j]? = some (.map es k)) : i ≠ j := by
  rintro rfl
  rw [h] at h'
  cases h'

/-- Cells for pr processors, of n pages, with blocks A; all of it lies in blocks of F. -/
structure Cl (n pr : Nat) (F : Nat → Prop) (a : Ad) (W : World) (A : List Bk) : Prop where
  inv : Inv n pr A
  prr : 1 ≤ pr ∧ pr ≤ 8
  head : W.heap[a.bc]? = some (.cells #[.pointer (some ⟨a.bt, 0, none⟩), .map (some a.mb), .slice (some ⟨a.hb, 0, none⟩) pr pr] 66 (0, 0))
  tl : ∃ L, Tl W a.bt a.bm a.bp a.bs n L ∧ Lk (·.c) L A
  mp : ∃ m, PM W a.mb m (A.filter nb).length ∧ (∀ y ∈ A, y.c ≠ -2 → m y.b = some (a.pb y.b)) ∧ ∀ x p, m x = some p → ∃ y ∈ A, y.c ≠ -2 ∧ y.b = x
  bl : ∀ y ∈ A, y.c ≠ -2 → Bl W (a.pb y.b) (a.ub y.b) y
  hd : FRow 63 W a.hb pr (fun p => .slice (some ⟨a.hp p, 0, none⟩) 16 16)
  hr : ∀ p, p < pr → FRow 74 W (a.hp p) 16 (hv a.pb A p)
  own : F a.bc ∧ F a.bt ∧ F a.bm ∧ F a.bp ∧ F a.bs ∧ F a.mb ∧ F a.hb
  ownh : ∀ p, p < pr → F (a.hp p)
  ownb : ∀ y ∈ A, y.c ≠ -2 → F (a.pb y.b) ∧ F (a.ub y.b)
  lt : ∀ i, F i → i < W.heap.size
  siz : Siz W
  f0 : ¬ F 0
  hpi : ∀ p q, p < pr → q < pr → a.hp p = a.hp q → p = q
  ubi : ∀ y ∈ A, ∀ z ∈ A, y.c ≠ -2 → z.c ≠ -2 → a.ub y.b = a.ub z.b → y.b = z.b
  ubp : ∀ y ∈ A, y.c ≠ -2 → a.ub y.b ≠ a.bp
section
variable {n pr : Nat} {F : Nat → Prop} {a : Ad} {W W' : World} {A : List Bk} {S : Nat → Prop} {x y z : Bk} {i : Nat}
theorem Cl.cha (h : Cl n pr F a W A) (c : Cha S W W') (hs : ∀ i, F i → ¬ S i) (h0 : ¬ S 0) : Cl n pr F a W' A := by
  obtain ⟨o1, o2, o3, o4, o5, o6, o7⟩ := h.own
  obtain ⟨L, t1, t2⟩ := h.tl
  obtain ⟨m, m1, m2, m3⟩ := h.mp
  exact ⟨h.inv, h.prr, (c.old _ (h.lt _ o1) (hs _ o1)).trans h.head, ⟨L, ⟨t1.1, t1.2.cha c (hs _ o2) (hs _ o3) (hs _ o4) (hs _ o5)⟩, t2⟩, ⟨m, m1.cha c (hs _ o6), m2, m3⟩,
    fun y hy hc => (h.bl y hy hc).cha c (hs _ (h.ownb y hy hc).1) (hs _ (h.ownb y hy hc).2), c.row h.hd (hs _ o7), fun p hp => c.row (h.hr p hp) (hs _ (h.ownh p hp)),
    h.own, h.ownh, h.ownb, fun i hi => Nat.lt_of_lt_of_le (h.lt i hi) c.size, h.siz.cha c h0, h.f0, h.hpi, h.ubi, h.ubp⟩
theorem Cl.same (h : Cl n pr F a W A) (c : Cha (fun _ => False) W W') : Cl n pr F a W' A := h.cha c (fun _ _ x => x) (fun x => x)
theorem Cl.nle (h : Cl n pr F a W A) : n ≤ 4096 ∧ A.length ≤ n := by
  obtain ⟨L, t1, t2⟩ := h.tl
  exact ⟨t1.2.pg.le, t2.length h.inv t1.1⟩
theorem Cl.more (h : Cl n pr F a W A) {F' : Nat → Prop} (h1 : ∀ i, F i → F' i) (h2 : ∀ i, F' i → i < W.heap.size) (h3 : ¬ F' 0) : Cl n pr F' a W A :=
  ⟨h.inv, h.prr, h.head, h.tl, h.mp, h.bl, h.hd, h.hr, ⟨h1 _ h.own.1, h1 _ h.own.2.1, h1 _ h.own.2.2.1, h1 _ h.own.2.2.2.1, h1 _ h.own.2.2.2.2.1, h1 _ h.own.2.2.2.2.2.1, h1 _ h.own.2.2.2.2.2.2⟩,
    fun p hp => h1 _ (h.ownh p hp), fun y hy hc => ⟨h1 _ (h.ownb y hy hc).1, h1 _ (h.ownb y hy hc).2⟩, h2, h.siz, h3, h.hpi, h.ubi, h.ubp⟩
theorem Cl.c0 (h : Cl n pr F a W A) : W.cell? ⟨a.bc, 0, none⟩ = some (.pointer (some ⟨a.bt, 0, none⟩)) := cell_of_row W a.bc 0 _ 66 (0, 0) h.head
theorem Cl.c1 (h : Cl n pr F a W A) : W.cell? ⟨a.bc, 1, none⟩ = some (.map (some a.mb)) := cell_of_row W a.bc 1 _ 66 (0, 0) h.head
theorem Cl.c2 (h : Cl n pr F a W A) : W.cell? ⟨a.bc, 2, none⟩ = some (.slice (some ⟨a.hb, 0, none⟩) pr pr) := cell_of_row W a.bc 2 _ 66 (0, 0) h.head
theorem pb_inj (h1 : Bl W x.b i y) (h2 : Bl W x.b i z) : y.b = z.b := by
  have e1 := h1.cells.1
  rw [h2.cells.1] at e1
  have : (z.b : Int) = y.b := by injection e1 with e; injection e
  omega
theorem Cl.pbi (h : Cl n pr F a W A) (hy : y ∈ A) (hz : z ∈ A) (h1 : y.c ≠ -2) (h2 : z.c ≠ -2) (e : a.pb y.b = a.pb z.b) : y.b = z.b := by
  have e1 := (h.bl y hy h1).cells.1
  rw [e, (h.bl z hz h2).cells.1] at e1
  have : (z.b : Int) = y.b := by injection e1 with e; injection e
  omega
end
end Go.Proofs.YtiboobaggpghjaaDoor
