/- A graph in memory. -/
import Derived.Test.YtllefljimkmbhaaS
import Derived.Test.YtllefljimkmbhaaPC
import Derived.Deep.RegionLaw
import Derived.Deep.RegionWith
import Derived.Handy
namespace Go.Proofs.Ytllefljimkmbhaa
open Go.ChangeShapes Go.WideShapes Go.ChangeAt Go.RowKit

def inE : Enc Nat := ⟨50, 3, 1, 8, .int .i64 0, fun a => [.int .i64 (a : Int)]⟩
theorem inE_ok : inE.Ok := ⟨Try.underlying50, by kernel_rfl, rfl, by decide, fun _ => rfl, fun a u h => by simp [inE] at h; subst h; rfl⟩
def ptV (a : Option Nat) : Value := .pointer (a.map fun b => ⟨b, 0, none⟩)
def ptE : Enc (Option Nat) := ⟨69, 72, 1, 8, .pointer none, fun a => [ptV a]⟩
theorem ptE_ok : ptE.Ok := ⟨Try.underlying69, by kernel_rfl, rfl, by decide, fun _ => rfl, fun a u h => by simp [ptE] at h; subst h; cases a <;> rfl⟩

def ptrs (n : Nat) (col q : Nat → Nat) : List (Option Nat) := (List.range n).map fun i => if col (i + 1) = 0 then none else some (q (i + 1))
theorem ptrs_len (n : Nat) (col q : Nat → Nat) : (ptrs n col q).length = n := by simp [ptrs]
theorem ptrs_get {n i : Nat} (col q : Nat → Nat) (h : i < n) : (ptrs n col q)[i]? = some (if col (i + 1) = 0 then none else some (q (i + 1))) := by simp [ptrs, h]
theorem ptrs_congr {n : Nat} {col col' q q' : Nat → Nat} (h : ∀ id, 1 ≤ id → id ≤ n → (col id = 0 ↔ col' id = 0) ∧ (col id ≠ 0 → q id = q' id)) : ptrs n col q = ptrs n col' q' := by
  unfold ptrs
  refine List.map_congr_left fun i hi => ?_
  have hi := List.mem_range.1 hi
  obtain ⟨a, b⟩ := h (i + 1) (by omega) (by omega)
  by_cases c : col (i + 1) = 0
  · rw [if_pos c, if_pos (a.1 c)]
  · rw [if_neg c, if_neg (fun x => c (a.2 x)), b c]
def rowV (l : List Nat) (i : Nat) : Value := .int .i64 ((l.getD i 0 : Nat) : Int)

structure Sz (g : Gr) : Prop where
  n : g.n ≤ 4096
  r : g.roots.length ≤ 8192
  q : g.greys.length ≤ 4200
  f : ∀ id, (g.fs id).length ≤ 16
  thr : g.thr ≤ 8192
  swp : g.swp ≤ g.n
  ph : g.ph ≤ 2
  c3 : ∀ id, g.col id ≤ 3
  out : ∀ id, g.col id ≠ 0 → 1 ≤ id ∧ id ≤ g.n
theorem Inv.sz {g : Gr} {K : Nat → Prop} (h : Inv g K) : Sz g := ⟨h.n4, by have := h.r8; have := h.n4; omega, by have := h.greys_le; omega, h.f16, by have := h.thr; have := h.r8; have := h.n4; omega, h.swp, h.ph, h.c3, h.out⟩
def Gr.head (g : Gr) (lv : Int) (vo vr vq : Value) : Array Value := #[.int .i64 g.ph, .int .i64 g.cyc, vo, .int .i64 lv, vr, .int .i64 g.thr, vq, .int .i64 g.swp]
def Gr.cells (g : Gr) (f : Nat → Nat) (rt : Nat → Int) (id : Nat) : Array Value := #[.int .i64 ((g.col id - 1 : Nat) : Int), .slice (some ⟨f id, 0, none⟩) (g.fs id).length (g.fs id).length, .int .i64 (rt id)]
/-- The graph at bg is g; lv: how many it counts; rt: how often each is said to be a root; T tells what each block is of. -/
structure Pm (w : World) (F : Nat → Prop) (bg : Nat) (vo vr vq : Value) (q f T : Nat → Nat) (g : Gr) (lv : Int) (rt : Nat → Int) : Prop where
  head : w.heap[bg]? = some (.cells (g.head lv vo vr vq) 71 (0, 0))
  los : Lies ptE w vo (ptrs g.n g.col q)
  lrs : Lies inE w vr g.roots
  lqs : Lies inE w vq g.greys
  obj : ∀ id, g.col id ≠ 0 → w.heap[q id]? = some (.cells (g.cells f rt id) 74 (0, 0))
  fld : ∀ id, g.col id ≠ 0 → FRow 3 w (f id) (g.fs id).length (rowV (g.fs id))
  tg : T bg = 0 ∧ F bg
  tv : ∀ b, vo.ownBlock = some b → T b = 1 ∧ F b
  tr : ∀ b, vr.ownBlock = some b → T b = 2 ∧ F b
  tq : ∀ b, vq.ownBlock = some b → T b = 3 ∧ F b
  tob : ∀ id, g.col id ≠ 0 → T (q id) = 4 + 2 * id ∧ F (q id)
  tf : ∀ id, g.col id ≠ 0 → T (f id) = 5 + 2 * id ∧ F (f id)
  sz : Sz g
  old : ∀ i, F i → i < w.heap.size
def cntI (L : List Nat) (id : Nat) : Int := (L.count id : Nat)
def PgM (bg : Nat) (g : Gr) : Asn := fun w F => ∃ vo vr vq q f T, Pm w F bg vo vr vq q f T g g.live (cntI g.roots)
/-- A graph of which nothing has been lost. -/
def PgA (bg : Nat) (g : Gr) : Asn := fun w F => (∃ K, Inv g K) ∧ PgM bg g w F
section
variable {w w' W W' : World} {F S : Nat → Prop} {bg : Nat} {vo vr vq : Value} {q f T : Nat → Nat} {g : Gr} {lv : Int} {rt : Nat → Int}
theorem Pm.cha (h : Pm w F bg vo vr vq q f T g lv rt) (c : Cha S w w') (hs : ∀ i, F i → ¬ S i) : Pm w' F bg vo vr vq q f T g lv rt :=
  { head := (c.old bg (h.old _ h.tg.2) (hs _ h.tg.2)).trans h.head, los := h.los.cha c fun b e => hs b (h.tv b e).2, lrs := h.lrs.cha c fun b e => hs b (h.tr b e).2, lqs := h.lqs.cha c fun b e => hs b (h.tq b e).2,
    obj := fun id k => (c.old _ (h.old _ (h.tob id k).2) (hs _ (h.tob id k).2)).trans (h.obj id k), fld := fun id k => c.row (h.fld id k) (hs _ (h.tf id k).2),
    tg := h.tg, tv := h.tv, tr := h.tr, tq := h.tq, tob := h.tob, tf := h.tf, sz := h.sz, old := fun i x => Nat.lt_of_lt_of_le (h.old i x) c.size }
theorem Pm.same (h : Pm w F bg vo vr vq q f T g lv rt) (c : Cha (fun _ => False) w w') : Pm w' F bg vo vr vq q f T g lv rt := h.cha c fun _ _ x => x
theorem fit_pgM (bg : Nat) (g : Gr) : Fit (PgM bg g) :=
  ⟨fun ⟨a1, a2, a3, a4, a5, a6, h⟩ c hs => ⟨a1, a2, a3, a4, a5, a6, h.cha c hs⟩, fun ⟨_, _, _, _, _, _, h⟩ => h.old⟩
theorem fit_pg (bg : Nat) (g : Gr) : Fit (PgA bg g) :=
  ⟨fun ⟨k, h⟩ c hs => ⟨k, (fit_pgM bg g).cha h c hs⟩, fun ⟨_, h⟩ => (fit_pgM bg g).old h⟩
theorem Pm.cell (h : Pm w F bg vo vr vq q f T g lv rt) (i : Nat) : w.cell? ⟨bg, i, none⟩ = (g.head lv vo vr vq)[i]? := cell_of_row w bg i _ 71 (0, 0) h.head
theorem Pm.facts (h : Pm w F bg vo vr vq q f T g lv rt) : w.cell? ⟨bg, 0, none⟩ = some (.int .i64 g.ph) ∧ w.cell? ⟨bg, 1, none⟩ = some (.int .i64 g.cyc) ∧ w.cell? ⟨bg, 2, none⟩ = some vo ∧ w.cell? ⟨bg, 3, none⟩ = some (.int .i64 lv) ∧
    w.cell? ⟨bg, 4, none⟩ = some vr ∧ w.cell? ⟨bg, 5, none⟩ = some (.int .i64 g.thr) ∧ w.cell? ⟨bg, 6, none⟩ = some vq ∧ w.cell? ⟨bg, 7, none⟩ = some (.int .i64 g.swp) ∧ ∀ i, w.frozen? ⟨bg, i, none⟩ = false :=
  ⟨h.cell 0, h.cell 1, h.cell 2, h.cell 3, h.cell 4, h.cell 5, h.cell 6, h.cell 7, fun i => frozen_of_row w bg i _ 71 h.head⟩
theorem Pm.oc (h : Pm w F bg vo vr vq q f T g lv rt) {id : Nat} (k : g.col id ≠ 0) : w.cell? ⟨q id, 0, none⟩ = some (.int .i64 ((g.col id - 1 : Nat) : Int)) ∧ w.cell? ⟨q id, 1, none⟩ = some (.slice (some ⟨f id, 0, none⟩) (g.fs id).length (g.fs id).length) ∧ w.cell? ⟨q id, 2, none⟩ = some (.int .i64 (rt id)) ∧ ∀ i, w.frozen? ⟨q id, i, none⟩ = false :=
  ⟨cell_of_row w (q id) 0 _ 74 (0, 0) (h.obj id k), cell_of_row w (q id) 1 _ 74 (0, 0) (h.obj id k), cell_of_row w (q id) 2 _ 74 (0, 0) (h.obj id k), fun i => frozen_of_row w (q id) i _ 74 (h.obj id k)⟩
theorem Pm.fc (h : Pm w F bg vo vr vq q f T g lv rt) {id i : Nat} (k : g.col id ≠ 0) (hi : i < (g.fs id).length) : w.cell? ⟨f id, i, none⟩ = some (.int .i64 (((g.fs id).getD i 0 : Nat) : Int)) ∧ w.frozen? ⟨f id, i, none⟩ = false :=
  ⟨(h.fld id k).cell hi, (h.fld id k).free i⟩
/-- The list of pointers. -/
theorem Pm.pts (h : Pm w F bg vo vr vq q f T g lv rt) : ∃ a cap, vo = .slice a g.n cap ∧ g.n ≤ cap ∧ cap ≤ maxLen ∧ (0 < g.n → ∃ b o, a = some ⟨b, o, none⟩ ∧ ∀ i, i < g.n → w.cell? ⟨b, o + i, none⟩ = some (ptV (if g.col (i + 1) = 0 then none else some (q (i + 1)))) ∧ w.frozen? ⟨b, o + i, none⟩ = false) := by
  obtain ⟨a, cap, e, h1, h2⟩ := h.los.form
  rw [ptrs_len] at e h1
  refine ⟨a, cap, e, h1, h2, fun hp => ?_⟩
  obtain ⟨b, o, cap', e', _, _, hc, hz⟩ := h.los.elem ptE_ok (i := 0) (by rw [ptrs_len]; exact hp)
  rw [e] at e'
  injection e' with e1 e2 e3
  refine ⟨b, o, e1, fun i hi => ?_⟩
  obtain ⟨b2, o2, cap2, e2', _, _, hc2, hz2⟩ := h.los.elem ptE_ok (i := i) (by rw [ptrs_len]; exact hi)
  rw [e] at e2'
  injection e2' with f1 f2 f3
  rw [e1] at f1
  injection f1 with f1
  injection f1 with f1 f1' f1''
  subst f1 f1'
  have := hc2 0 (by decide)
  have ek : ptE.k = 1 := rfl
  rw [ek, Nat.mul_one, Nat.add_zero] at this
  refine ⟨?_, hz2 _⟩
  rw [this]
  have hg := ptrs_get g.col q hi
  rw [List.getElem?_eq_getElem (by rw [ptrs_len]; exact hi)] at hg
  injection hg with hg
  rw [hg]
  rfl
/-- A list of numbers. -/
theorem Lies.ints {v : Value} {L : List Nat} (h : Lies inE w v L) : ∃ a cap, v = .slice a L.length cap ∧ L.length ≤ cap ∧ cap ≤ maxLen ∧ (0 < L.length → ∃ b o, a = some ⟨b, o, none⟩ ∧ ∀ i, i < L.length → w.cell? ⟨b, o + i, none⟩ = some (.int .i64 ((L.getD i 0 : Nat) : Int)) ∧ w.frozen? ⟨b, o + i, none⟩ = false) := by
  obtain ⟨a, cap, e, h1, h2⟩ := h.form
  refine ⟨a, cap, e, h1, h2, fun hp => ?_⟩
  obtain ⟨b, o, cap', e', _, _, hc, hz⟩ := h.elem inE_ok (i := 0) hp
  rw [e] at e'
  injection e' with e1 e2 e3
  refine ⟨b, o, e1, fun i hi => ?_⟩
  obtain ⟨b2, o2, cap2, e2', _, _, hc2, hz2⟩ := h.elem inE_ok (i := i) hi
  rw [e] at e2'
  injection e2' with f1 f2 f3
  rw [e1] at f1
  injection f1 with f1
  injection f1 with f1 f1' f1''
  subst f1 f1'
  have := hc2 0 (by decide)
  have ek : inE.k = 1 := rfl
  rw [ek, Nat.mul_one, Nat.add_zero] at this
  refine ⟨?_, hz2 _⟩
  rw [this]
  simp [inE, hi]
end
end Go.Proofs.Ytllefljimkmbhaa
