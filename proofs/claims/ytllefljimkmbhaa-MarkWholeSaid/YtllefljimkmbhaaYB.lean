/- MarkWhole: a graph, its objects, and what was seen at the beginning. -/
import Derived.Test.YtllefljimkmbhaaYA
namespace Go.Proofs.Ytllefljimkmbhaa
open Go.ChangeShapes Go.WideShapes Go.ChangeAt Go.RowKit
variable {w0 W W' : World} {F : Nat → Prop} {bg bd bs m : Nat} {g g0 : Gr} {X : Nat → Bool}

def RowA (bs n : Nat) (X : Nat → Bool) : Asn := fun w F => FRow 4 w bs n (fun i => .bool (X i)) ∧ F bs ∧ ∀ i, F i → i < w.heap.size
theorem fit_rowA (bs n : Nat) (X : Nat → Bool) : Fit (RowA bs n X) :=
  ⟨fun ⟨a, b, o⟩ c hs => ⟨c.row a (hs _ b), b, fun i x => Nat.lt_of_lt_of_le (o i x) c.size⟩, fun ⟨_, _, o⟩ => o⟩
def Trio (bg bd : Nat) (g : Gr) (bs m : Nat) (X : Nat → Bool) : Asn := Star (Duo bg bd g) (RowA bs m X)
theorem fit_trio (bg bd : Nat) (g : Gr) (bs m : Nat) (X : Nat → Bool) : Fit (Trio bg bd g bs m X) := (fit_duo _ _ _).star (fit_rowA _ _ _)
theorem trio_of (h : Mine w0 (Duo bg bd g) W) {v : Value} (s : Seen W W' g v) : ∃ bs X, v = .slice (some ⟨bs, 0, none⟩) (g.n + 1) (g.n + 1) ∧ X 0 = false ∧ (∀ id, X id = true ↔ Reach g id) ∧ Mine w0 (Trio bg bd g bs (g.n + 1) X) W' := by
  obtain ⟨bs, X, e, r, b, c, x0, x⟩ := s
  exact ⟨bs, X, e, x0, x, h.star (fit_duo _ _ _) (fit_rowA _ _ _) ⟨fun i => i = bs, ⟨r, rfl, fun i e => e ▸ r.lt⟩, c, fun i e => e ▸ b⟩⟩
theorem tduo (h : Mine w0 (Trio bg bd g bs m X) W) : Mine w0 (Duo bg bd g) W := by
  obtain ⟨F, ⟨F1, F2, a, _, _, e1, _, _⟩, c, n⟩ := h
  exact ⟨F1, a, c, fun i x => n i (e1 i x)⟩
theorem trow (h : Mine w0 (Trio bg bd g bs m X) W) : FRow 4 W bs m (fun i => .bool (X i)) := by
  obtain ⟨F, ⟨F1, F2, _, b, _⟩, _⟩ := h
  exact b.1
theorem tchange (h : Mine w0 (Trio bg bd g bs m X) W) (hn : g.n < 4000) (hrn : g.roots.length ≤ 4000) (z0 z1 z2 z3 : Int) :
    Calls Try.prog 32 #[.pointer (some ⟨bg, 0, none⟩), .pointer (some ⟨bd, 0, none⟩), opV z0 z1 z2 z3] W fun e W' => e = .returned (.bool true) ∧ Mine w0 (Trio bg bd (g.change z0 z1 z2 z3) bs m X) W' :=
  h.step fun _ q => q.stepL (fit_duo _ _ _) (fit_rowA _ _ _) fun _ p => change_any p hn hrn z0 z1 z2 z3
theorem trio_kept {g' : Gr} (hk : Kept g g') (h : Mine w0 (Star (Star (PgA bg g') (IdA bd g.n g.fs g.roots)) (RowA bs m X)) W) : Mine w0 (Trio bg bd g' bs m X) W := by
  rw [← hk.n, ← hk.fs, ← hk.roots] at h
  exact h
theorem twork (h : Mine w0 (Trio bg bd g bs m X) W) : Calls Try.prog 22 #[.pointer (some ⟨bg, 0, none⟩)] W fun e W' => (∃ v, e = .returned v) ∧ Mine w0 (Trio bg bd g.workR.2 bs m X) W' :=
  (h.step fun F q => q.stepL ((fit_pg bg g.workR.2).star (fit_id bd g.n g.fs g.roots)) (fit_rowA _ _ _) fun F1 q1 => Star.stepL (fit_pg bg g.workR.2) (fit_id _ _ _ _) q1 fun F2 p => work_any p).mono fun e W' ⟨a, b⟩ => ⟨⟨_, a⟩, trio_kept work_kept b⟩
theorem tstart (h : Mine w0 (Trio bg bd g bs m X) W) : Calls Try.prog 20 #[.pointer (some ⟨bg, 0, none⟩)] W fun e W' => e = .returned (.int .i64 g.startR.1) ∧ Mine w0 (Trio bg bd g.startR.2 bs m X) W' :=
  (h.step fun F q => q.stepL ((fit_pg bg g.startR.2).star (fit_id bd g.n g.fs g.roots)) (fit_rowA _ _ _) fun F1 q1 => Star.stepL (fit_pg bg g.startR.2) (fit_id _ _ _ _) q1 fun F2 p => pg_start p).mono fun e W' ⟨a, b⟩ => ⟨a, trio_kept start_kept b⟩
theorem tcounts (h : Mine w0 (Trio bg bd g bs m X) W) : Calls Try.prog 26 #[.pointer (some ⟨bg, 0, none⟩)] W fun e W' => e = .returned (.tuple #[.int .i64 g.ph, .int .i64 g.cyc, .int .i64 g.live]) ∧ Mine w0 (Trio bg bd g bs m X) W' :=
  h.look (fit_trio _ _ _ _ _ _) fun F q => by
    obtain ⟨F1, F2, q1, _⟩ := q
    obtain ⟨F3, F4, p1, _⟩ := q1
    obtain ⟨K, vo, vr, vq, q, f, T, hi, p⟩ := p1.open
    exact counts_any p
/-- What holds while a cycle goes on that began at g0. -/
structure Whole (g0 g : Gr) : Prop where
  inv : Inv g (fun id => Reach g0 id ∨ g0.n < id)
  dn : g.ph = 0 → ∀ j, g.col j ≠ 0 → Reach g0 j ∨ g0.n < j
  cy : Cy g 0 (wrap64 (0 + 1))
theorem Whole.start {K : Nat → Prop} (h : Inv g0 K) (hp : g0.ph = 0) (hc : g0.cyc = 0) : Whole g0 g0.startR.2 := by
  have e : g0.startR.2 = { g0 with ph := 1, thr := 0, greys := [], swp := 0 } := by unfold Gr.startR; rw [if_pos hp]
  have hq : g0.startR.2.ph = 1 := by rw [e]
  exact ⟨h.start hp, fun k => by omega, fun k => by omega, fun _ => by rw [e]; exact hc⟩
theorem Whole.work (h : Whole g0 g) : Whole g0 g.workR.2 := by
  obtain ⟨a, b⟩ := h.inv.work h.dn
  exact ⟨a, b, h.cy.work h.inv.ph⟩
theorem Whole.works (h : Whole g0 g) : ∀ k, Whole g0 (g.works k)
  | 0 => h
  | k + 1 => (h.works k).work
theorem Whole.change (h : Whole g0 g) (hp : g.ph ≠ 0) (hn : g.n < 4000) (hrn : g.roots.length ≤ 4000) (z0 z1 z2 z3 : Int) : Whole g0 (g.change z0 z1 z2 z3) := by
  obtain ⟨_, _, e, c, _⟩ := change_size (g := g) z0 z1 z2 z3
  exact ⟨h.inv.change hn hrn z0 z1 z2 z3, fun k => absurd (e ▸ k) hp, fun k => absurd (e ▸ k) hp, fun _ => c.trans (h.cy.2 hp)⟩
theorem Whole.gone (h : Whole g0 g) (hp : g.ph = 0) (hX : ∀ id, X id = true ↔ Reach g0 id) {k : Nat} (hk : k ≤ g0.n) (x : X k = false) : g.has (k : Int) = false := by
  unfold Gr.has
  rw [decide_eq_false_iff_not, Int.toNat_natCast]
  rintro ⟨_, hc⟩
  rcases h.dn hp k hc with r | r
  · rw [(hX k).2 r] at x; cases x
  · omega
def cntz (X : Nat → Bool) : Nat → Nat
  | 0 => 0
  | p + 1 => cntz X p + (if X p then 1 else 0)
theorem cntz_le (X : Nat → Bool) : ∀ n, cntz X n ≤ n
  | 0 => Nat.le_refl _
  | n + 1 => by have := cntz_le X n; unfold cntz; split <;> omega
theorem cntz_cnt (h : X 0 = false) : ∀ n, cntz X (n + 1) = cnt X n
  | 0 => by unfold cntz cntz cnt; rw [h]; rfl
  | n + 1 => by
    rw [cntz, cntz_cnt h n]
    rfl
/-- Without changes just what can be reached is left. -/
theorem whole_live {K : Nat → Prop} (h : Inv g0 K) (hp : g0.ph = 0) (x0 : X 0 = false) (hX : ∀ id, X id = true ↔ Reach g0 id) (hs : g0.roots.length + 2 * g0.n + 2 ≤ m) : (g0.startR.2.works m).live = cntz X (g0.n + 1) := by
  rw [cntz_cnt x0]
  unfold Gr.live
  rw [(start_kept.trans (works_kept m)).n]
  refine cnt_congr fun i _ _ => ?_
  rw [Bool.eq_iff_iff, bne_iff_ne, hX]
  exact (h.cycle hp hs i).2
end Go.Proofs.Ytllefljimkmbhaa
