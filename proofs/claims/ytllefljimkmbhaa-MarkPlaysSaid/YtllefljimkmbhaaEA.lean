/- The document's graph, in memory, of the same plain state. -/
import Derived.Test.YtllefljimkmbhaaXA
namespace Go.Proofs.Ytllefljimkmbhaa
open Go.ChangeShapes Go.WideShapes Go.ChangeAt Go.RowKit
variable {w w' w1 W W' : World} {F S : Nat → Prop} {bd : Nat} {vo vr vq : Value} {f T : Nat → Nat} {g : Gr} {sw : Int}

def obE : Enc (Option Nat × Nat × Nat) := ⟨49, 77, 2, 32, .agg #[.slice none 0 0, .int .i64 0], fun a => [.slice (a.1.map fun b => ⟨b, 0, none⟩) a.2.1 a.2.1, .int .i64 a.2.2]⟩
theorem obE_ok : obE.Ok := ⟨Try.underlying49, by kernel_rfl, rfl, by decide, fun _ => rfl, fun a u h => by simp [obE] at h; rcases h with rfl | rfl <;> rfl⟩
def ob (g : Gr) (f : Nat → Nat) (id : Nat) : Option Nat × Nat × Nat := if g.col id = 0 then (none, 0, 0) else (some (f id), (g.fs id).length, g.col id)
def obs (g : Gr) (f : Nat → Nat) : List (Option Nat × Nat × Nat) := (none, 0, 0) :: (List.range g.n).map fun i => ob g f (i + 1)
theorem obs_len (g : Gr) (f : Nat → Nat) : (obs g f).length = g.n + 1 := by simp [obs]
theorem obs_get {id : Nat} (f : Nat → Nat) (h1 : 1 ≤ id) (h2 : id ≤ g.n) : (obs g f)[id]? = some (ob g f id) := by
  obtain ⟨j, rfl⟩ : ∃ j, id = j + 1 := ⟨id - 1, by omega⟩
  unfold obs
  rw [List.getElem?_cons_succ]
  simp [show j < g.n by omega]
/-- The document's graph: its objects, roots, greys, phase, scan, sweep, cycles. -/
structure Dm (w : World) (F : Nat → Prop) (bd : Nat) (vo vr vq : Value) (f T : Nat → Nat) (g : Gr) (sw : Int) : Prop where
  head : w.heap[bd]? = some (.cells #[vo, vr, vq, .int .i64 g.ph, .int .i64 g.thr, .int .i64 sw, .int .i64 g.cyc] 52 (0, 0))
  lo : Lies obE w vo (obs g f)
  lr : Lies inE w vr g.roots
  lq : Lies inE w vq g.greys
  fld : ∀ id, 1 ≤ id → id ≤ g.n → g.col id ≠ 0 → FRow 3 w (f id) (g.fs id).length (rowV (g.fs id))
  tg : T bd = 0 ∧ F bd
  tv : ∀ b, vo.ownBlock = some b → T b = 1 ∧ F b
  tr : ∀ b, vr.ownBlock = some b → T b = 2 ∧ F b
  tq : ∀ b, vq.ownBlock = some b → T b = 3 ∧ F b
  tf : ∀ id, 1 ≤ id → id ≤ g.n → g.col id ≠ 0 → T (f id) = 5 + id ∧ F (f id)
  sws : g.ph = 2 → sw = (g.swp : Int) + 1
  old : ∀ i, F i → i < w.heap.size
def DmA (bd : Nat) (g : Gr) : Asn := fun w F => ∃ vo vr vq f T sw, Dm w F bd vo vr vq f T g sw
theorem Dm.cha (h : Dm w F bd vo vr vq f T g sw) (c : Cha S w w') (hs : ∀ i, F i → ¬ S i) : Dm w' F bd vo vr vq f T g sw :=
  { head := (c.old bd (h.old _ h.tg.2) (hs _ h.tg.2)).trans h.head, lo := h.lo.cha c fun b e => hs b (h.tv b e).2, lr := h.lr.cha c fun b e => hs b (h.tr b e).2, lq := h.lq.cha c fun b e => hs b (h.tq b e).2,
    fld := fun id a b k => c.row (h.fld id a b k) (hs _ (h.tf id a b k).2), tg := h.tg, tv := h.tv, tr := h.tr, tq := h.tq, tf := h.tf, sws := h.sws, old := fun i x => Nat.lt_of_lt_of_le (h.old i x) c.size }
theorem Dm.same (h : Dm w F bd vo vr vq f T g sw) (c : Cha (fun _ => False) w w') : Dm w' F bd vo vr vq f T g sw := h.cha c fun _ _ x => x
theorem fit_dm (bd : Nat) (g : Gr) : Fit (DmA bd g) :=
  ⟨fun ⟨a1, a2, a3, a4, a5, a6, h⟩ c hs => ⟨a1, a2, a3, a4, a5, a6, h.cha c hs⟩, fun ⟨_, _, _, _, _, _, h⟩ => h.old⟩
theorem Dm.facts (h : Dm w F bd vo vr vq f T g sw) : w.cell? ⟨bd, 0, none⟩ = some vo ∧ w.cell? ⟨bd, 1, none⟩ = some vr ∧ w.cell? ⟨bd, 2, none⟩ = some vq ∧ w.cell? ⟨bd, 3, none⟩ = some (.int .i64 g.ph) ∧ w.cell? ⟨bd, 4, none⟩ = some (.int .i64 g.thr) ∧ w.cell? ⟨bd, 5, none⟩ = some (.int .i64 sw) ∧ w.cell? ⟨bd, 6, none⟩ = some (.int .i64 g.cyc) ∧ ∀ i, w.frozen? ⟨bd, i, none⟩ = false :=
  ⟨cell_of_row w bd 0 _ 52 (0, 0) h.head, cell_of_row w bd 1 _ 52 (0, 0) h.head, cell_of_row w bd 2 _ 52 (0, 0) h.head, cell_of_row w bd 3 _ 52 (0, 0) h.head, cell_of_row w bd 4 _ 52 (0, 0) h.head, cell_of_row w bd 5 _ 52 (0, 0) h.head, cell_of_row w bd 6 _ 52 (0, 0) h.head, fun i => frozen_of_row w bd i _ 52 h.head⟩
/-- The list of objects: of each a slice of fields and a colour. -/
theorem Dm.objs (h : Dm w F bd vo vr vq f T g sw) : ∃ b o cap, vo = .slice (some ⟨b, o, none⟩) (g.n + 1) cap ∧ g.n + 1 ≤ cap ∧ cap ≤ maxLen ∧
    ∀ id, 1 ≤ id → id ≤ g.n → w.cell? ⟨b, o + id * 2, none⟩ = some (.slice ((ob g f id).1.map fun b => ⟨b, 0, none⟩) (ob g f id).2.1 (ob g f id).2.1) ∧ w.cell? ⟨b, o + id * 2 + 1, none⟩ = some (.int .i64 (g.col id)) := by
  obtain ⟨b, o, cap, e, h1, h2, hc, _⟩ := h.lo.elem obE_ok (i := 0) (by rw [obs_len]; omega)
  rw [obs_len] at e h1
  refine ⟨b, o, cap, e, h1, h2, fun id a1 a2 => ?_⟩
  obtain ⟨b2, o2, cap2, e2, _, _, hc2, _⟩ := h.lo.elem obE_ok (i := id) (by rw [obs_len]; omega)
  rw [e] at e2
  injection e2 with f1 f2 f3
  injection f1 with f1
  injection f1 with f1 f1' _
  subst f1 f1'
  have hg := obs_get f a1 a2
  rw [List.getElem?_eq_getElem (by rw [obs_len]; omega)] at hg
  injection hg with hg
  have x0 := hc2 0 (by decide)
  have x1 := hc2 1 (by decide)
  have ek : obE.k = 2 := rfl
  rw [ek] at x0 x1
  rw [Nat.add_zero] at x0
  rw [x0, x1, hg]
  refine ⟨rfl, ?_⟩
  have : (ob g f id).2.2 = g.col id := by unfold ob; split <;> simp_all
  rw [← this]
  rfl
end Go.Proofs.Ytllefljimkmbhaa
