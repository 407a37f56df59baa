/- MarkPlays: both graphs and a call beside one another. -/
import Derived.Test.YtllefljimkmbhaaEO
namespace Go.Proofs.Ytllefljimkmbhaa
open Go.ChangeShapes Go.WideShapes Go.ChangeAt Go.RowKit
variable {w0 w w' w1 w2 W W' : World} {F S : Nat → Prop} {bg bd ob : Nat} {cs : Array Value} {g gp gd gp' gd' : Gr} {K : Nat → Prop}

/-- The program's graph and the document's. -/
abbrev Duet (bg bd : Nat) (gp gd : Gr) : Asn := Star (PgA bg gp) (DmA bd gd)
/-- And a call. -/
abbrev Three (bg bd ob : Nat) (cs : Array Value) (gp gd : Gr) : Asn := Star (Duet bg bd gp gd) (Blk ob 29 cs)
theorem fit_duet (bg bd : Nat) (gp gd : Gr) : Fit (Duet bg bd gp gd) := (fit_pg _ _).star (fit_dm _ _)
theorem fit_three (bg bd ob : Nat) (cs : Array Value) (gp gd : Gr) : Fit (Three bg bd ob cs gp gd) := (fit_duet _ _ _ _).star (fit_blk _ _ _)
theorem three_put (h : Mine w0 (Duet bg bd gp gd) W) (cs : Array Value) : Mine w0 (Three bg bd W.heap.size cs gp gd) (W.alloc (.cells cs 29)) := h.star (fit_duet _ _ _ _) (fit_blk _ _ _) (blk_new W cs 29)
theorem three_off (h : Mine w0 (Three bg bd ob cs gp gd) W) : Mine w0 (Duet bg bd gp gd) W := by
  obtain ⟨F, ⟨F1, F2, a, b, d, e1, e2, o⟩, c, n⟩ := h
  exact ⟨F1, a, c, fun i x => n i (e1 i x)⟩
theorem three_same (h : Mine w0 (Three bg bd ob cs gp gd) W) (c : Cha (fun _ => False) W W') : Mine w0 (Three bg bd ob cs gp gd) W' := h.same (fit_three _ _ _ _ _ _) c
theorem three_inv (h : Mine w0 (Three bg bd ob cs gp gd) W) : ∃ K, Inv gp K := by
  obtain ⟨F, ⟨F1, F2, ⟨F3, F4, a, _⟩, _⟩, _⟩ := h
  exact a.1
theorem three_cell (h : Mine w0 (Three bg bd ob cs gp gd) W) (i : Nat) : W.cell? ⟨ob, i, none⟩ = cs[i]? := by
  obtain ⟨F, ⟨F1, F2, a, b, _⟩, _⟩ := h
  exact b.cell i
section
variable {f : FuncId} {args : Array Value} {v : Ending}
theorem three_p (h : Mine w0 (Three bg bd ob cs gp gd) W) (k : ∀ F, PgA bg gp W F → Calls Try.prog f args W fun e W' => e = v ∧ Goes (PgA bg gp') W W' F) : Calls Try.prog f args W fun e W' => e = v ∧ Mine w0 (Three bg bd ob cs gp' gd) W' :=
  h.step fun _ q => Star.stepL (fit_duet _ _ _ _) (fit_blk _ _ _) q fun _ q1 => Star.stepL (fit_pg _ _) (fit_dm _ _) q1 k
theorem three_d (h : Mine w0 (Three bg bd ob cs gp gd) W) (k : ∀ F, DmA bd gd W F → Calls Try.prog f args W fun e W' => e = v ∧ Goes (DmA bd gd') W W' F) : Calls Try.prog f args W fun e W' => e = v ∧ Mine w0 (Three bg bd ob cs gp gd') W' :=
  h.step fun _ q => Star.stepL (fit_duet _ _ _ _) (fit_blk _ _ _) q fun _ q1 => Star.stepR (fit_pg _ _) (fit_dm _ _) q1 k
end
theorem pgstart (q : PgA bg g W F) : Calls Try.prog 20 #[.pointer (some ⟨bg, 0, none⟩)] W fun e W' => e = .returned (.int .i64 g.startR.1) ∧ Goes (PgA bg g.startR.2) W W' F := by
  obtain ⟨K, vo, vr, vq, q, f, T, hi, p⟩ := q.open
  refine (start_any p fun k => hi.off (by omega)).mono fun e W' ⟨he, F', hx, c, n⟩ => ⟨he, F', ⟨?_, ?_⟩, c, n⟩
  · by_cases k : g.ph = 0
    · exact ⟨_, hi.start k⟩
    · unfold Gr.startR; rw [if_neg k]; exact ⟨K, hi⟩
  · obtain ⟨a1, a2, a3, a4, a5, a6, p'⟩ := hx
    have e1 : g.startR.2.live = g.live := by unfold Gr.startR; split <;> rfl
    have e2 : g.startR.2.roots = g.roots := by unfold Gr.startR; split <;> rfl
    refine ⟨a1, a2, a3, a4, a5, a6, ?_⟩
    rw [e1, e2]; exact p'
section
variable (hi : Inv g K)
include hi
/-- Two calls that answer two numbers. -/
theorem pair_add (a : Int) : ∃ x y g', (∀ W, Mine w0 (Three bg bd ob cs g g) W → Calls Try.prog 12 #[.pointer (some ⟨bg, 0, none⟩), .int .i64 a] W fun e W' => e = .returned (.tuple #[.int .i64 x, .int .i64 y]) ∧ Mine w0 (Three bg bd ob cs g' g) W') ∧
    (∀ W, Mine w0 (Three bg bd ob cs g' g) W → Calls Try.prog 13 #[.pointer (some ⟨bd, 0, none⟩), .int .i64 a] W fun e W' => e = .returned (.tuple #[.int .i64 x, .int .i64 y]) ∧ Mine w0 (Three bg bd ob cs g' g') W') :=
  ⟨(g.addR a).1.1, (g.addR a).1.2, (g.addR a).2, fun _ h => three_p h fun _ q => add_any q a, fun _ h => three_d h fun _ ⟨_, _, _, _, _, _, d⟩ => dadd_any d hi a⟩
theorem pair_work : ∃ x y g', (∀ W, Mine w0 (Three bg bd ob cs g g) W → Calls Try.prog 22 #[.pointer (some ⟨bg, 0, none⟩)] W fun e W' => e = .returned (.tuple #[.int .i64 x, .int .i64 y]) ∧ Mine w0 (Three bg bd ob cs g' g) W') ∧
    (∀ W, Mine w0 (Three bg bd ob cs g' g) W → Calls Try.prog 23 #[.pointer (some ⟨bd, 0, none⟩)] W fun e W' => e = .returned (.tuple #[.int .i64 x, .int .i64 y]) ∧ Mine w0 (Three bg bd ob cs g' g') W') :=
  ⟨g.workR.1.1, g.workR.1.2, g.workR.2, fun _ h => three_p h fun _ q => work_any q, fun _ h => three_d h fun _ ⟨_, _, _, _, _, _, d⟩ => dwork_any d hi⟩
theorem pair_drop (a : Int) : ∃ x g', (∀ W, Mine w0 (Three bg bd ob cs g g) W → Calls Try.prog 14 #[.pointer (some ⟨bg, 0, none⟩), .int .i64 a] W fun e W' => e = .returned (.int .i64 x) ∧ Mine w0 (Three bg bd ob cs g' g) W') ∧
    (∀ W, Mine w0 (Three bg bd ob cs g' g) W → Calls Try.prog 15 #[.pointer (some ⟨bd, 0, none⟩), .int .i64 a] W fun e W' => e = .returned (.int .i64 x) ∧ Mine w0 (Three bg bd ob cs g' g') W') :=
  ⟨(g.dropR a).1, (g.dropR a).2, fun _ h => three_p h fun _ q => drop_any q a, fun _ h => three_d h fun _ ⟨_, _, _, _, _, _, d⟩ => ddrop_any d hi a⟩
theorem pair_root (a b : Int) : ∃ x g', (∀ W, Mine w0 (Three bg bd ob cs g g) W → Calls Try.prog 16 #[.pointer (some ⟨bg, 0, none⟩), .int .i64 a, .int .i64 b] W fun e W' => e = .returned (.int .i64 x) ∧ Mine w0 (Three bg bd ob cs g' g) W') ∧
    (∀ W, Mine w0 (Three bg bd ob cs g' g) W → Calls Try.prog 17 #[.pointer (some ⟨bd, 0, none⟩), .int .i64 a, .int .i64 b] W fun e W' => e = .returned (.int .i64 x) ∧ Mine w0 (Three bg bd ob cs g' g') W') :=
  ⟨(g.rootR a b).1, (g.rootR a b).2, fun _ h => three_p h fun _ q => root_any q a b, fun _ h => three_d h fun _ ⟨_, _, _, _, _, _, d⟩ => drootR_any d hi a b⟩
theorem pair_set (a b c : Int) : ∃ x g', (∀ W, Mine w0 (Three bg bd ob cs g g) W → Calls Try.prog 18 #[.pointer (some ⟨bg, 0, none⟩), .int .i64 a, .int .i64 b, .int .i64 c] W fun e W' => e = .returned (.int .i64 x) ∧ Mine w0 (Three bg bd ob cs g' g) W') ∧
    (∀ W, Mine w0 (Three bg bd ob cs g' g) W → Calls Try.prog 19 #[.pointer (some ⟨bd, 0, none⟩), .int .i64 a, .int .i64 b, .int .i64 c] W fun e W' => e = .returned (.int .i64 x) ∧ Mine w0 (Three bg bd ob cs g' g') W') :=
  ⟨(g.setR a b c).1, (g.setR a b c).2, fun _ h => three_p h fun _ q => set_any q a b c, fun _ h => three_d h fun _ ⟨_, _, _, _, _, _, d⟩ => dset_any d hi a b c⟩
theorem pair_start : ∃ x g', (∀ W, Mine w0 (Three bg bd ob cs g g) W → Calls Try.prog 20 #[.pointer (some ⟨bg, 0, none⟩)] W fun e W' => e = .returned (.int .i64 x) ∧ Mine w0 (Three bg bd ob cs g' g) W') ∧
    (∀ W, Mine w0 (Three bg bd ob cs g' g) W → Calls Try.prog 21 #[.pointer (some ⟨bd, 0, none⟩)] W fun e W' => e = .returned (.int .i64 x) ∧ Mine w0 (Three bg bd ob cs g' g') W') :=
  ⟨g.startR.1, g.startR.2, fun _ h => three_p h fun _ q => pgstart q, fun _ h => three_d h fun _ ⟨_, _, _, _, _, _, d⟩ => dstart_any d hi.ph⟩
/-- What tells them apart, or doesn't. -/
theorem look_get (a b : Int) : ∃ x y, (∀ W, Mine w0 (Three bg bd ob cs g g) W → Calls Try.prog 24 #[.pointer (some ⟨bg, 0, none⟩), .int .i64 a, .int .i64 b] W fun e W' => e = .returned (.tuple #[.int .i64 x, .int .i64 y]) ∧ Mine w0 (Three bg bd ob cs g g) W') ∧
    (∀ W, Mine w0 (Three bg bd ob cs g g) W → Calls Try.prog 25 #[.pointer (some ⟨bd, 0, none⟩), .int .i64 a, .int .i64 b] W fun e W' => e = .returned (.tuple #[.int .i64 x, .int .i64 y]) ∧ Mine w0 (Three bg bd ob cs g g) W') :=
  ⟨(g.get a b).1, (g.get a b).2, fun _ h => three_p h fun _ q => by
      obtain ⟨K, vo, vr, vq, r, f, T, hi, p⟩ := q.open
      exact (get_any p hi.rk a b).mono fun _ _ ⟨a, b⟩ => ⟨a, b ▸ Goes.refl q⟩,
    fun _ h => three_d h fun _ ⟨vo, vr, vq, f, T, sw, d⟩ => (dget_any d hi a b).mono fun _ _ ⟨x, y⟩ => ⟨x, by rw [y]; exact Goes.refl ⟨vo, vr, vq, f, T, sw, d⟩⟩⟩
theorem look_has (a : Int) : ∃ x, (∀ W, Mine w0 (Three bg bd ob cs g g) W → Calls Try.prog 28 #[.pointer (some ⟨bg, 0, none⟩), .int .i64 a] W fun e W' => e = .returned (.bool x) ∧ Cha (fun _ => False) W W') ∧
    (∀ W, Mine w0 (Three bg bd ob cs g g) W → Calls Try.prog 29 #[.pointer (some ⟨bd, 0, none⟩), .int .i64 a] W fun e W' => e = .returned (.bool x) ∧ Cha (fun _ => False) W W') :=
  ⟨g.has a, fun W h => by
      obtain ⟨F, ⟨F1, F2, ⟨F3, F4, q, _⟩, _⟩, _⟩ := h
      obtain ⟨K, vo, vr, vq, r, f, T, hi, p⟩ := q.open
      exact (has_any p a).mono fun _ _ ⟨a, b⟩ => ⟨a, b ▸ Cha.refl _ _⟩,
    fun W h => by
      obtain ⟨F, ⟨F1, F2, ⟨F3, F4, p, ⟨vo, vr, vq, f, T, sw, d⟩, _⟩, _⟩, _⟩ := h
      exact (dis_any d hi.n4 hi.out a).mono fun _ _ ⟨x, y⟩ => ⟨x, y ▸ Cha.refl _ _⟩⟩
theorem look_counts : ∃ (p c l : Int), (∀ W, Mine w0 (Three bg bd ob cs g g) W → Calls Try.prog 26 #[.pointer (some ⟨bg, 0, none⟩)] W fun e W' => e = .returned (.tuple #[.int .i64 p, .int .i64 c, .int .i64 l]) ∧ Mine w0 (Three bg bd ob cs g g) W') ∧
    (∀ W, Mine w0 (Three bg bd ob cs g g) W → Calls Try.prog 27 #[.pointer (some ⟨bd, 0, none⟩)] W fun e W' => e = .returned (.int .i64 l) ∧ Cha (fun _ => False) W W') ∧
    (∀ W, Mine w0 (Three bg bd ob cs g g) W → ∃ a n k, W.cell? ⟨bd, 3, none⟩ = some (.int .i64 p) ∧ W.cell? ⟨bd, 6, none⟩ = some (.int .i64 c) ∧ W.cell? ⟨bd, 1, none⟩ = some (.slice a n k) ∧ ∀ W', Cha (fun _ => False) W W' → W'.cell? ⟨bd, 3, none⟩ = some (.int .i64 p) ∧ W'.cell? ⟨bd, 6, none⟩ = some (.int .i64 c) ∧ W'.cell? ⟨bd, 1, none⟩ = some (.slice a n k) ∧ Lies inE W' (.slice a n k) g.roots) ∧
    (∀ W, Mine w0 (Three bg bd ob cs g g) W → Calls Try.prog 31 #[.pointer (some ⟨bg, 0, none⟩)] W fun e W' => ∃ a n c, e = .returned (.slice a n c) ∧ Lies inE W' (.slice a n c) g.roots ∧ Cha (fun _ => False) W W') ∧
    (∀ W u v, Lies inE W u g.roots → Lies inE W v g.roots → Calls Try.prog 30 #[u, v] W fun e W' => e = .returned (.bool true) ∧ Cha (fun _ => False) W W') := by
  refine ⟨g.ph, g.cyc, g.live, fun _ h => three_p h fun _ q => ?_, fun _ h => ?_, fun W h => ?_, fun W h => ?_, fun W u v hu hv => same_any hu hv (by have := hi.r8; have := hi.n4; omega)⟩
  · obtain ⟨K, vo, vr, vq, r, f, T, hi, p⟩ := q.open
    exact (counts_any p).mono fun _ _ ⟨a, c⟩ => ⟨a, .same (fit_pg _ _) q c⟩
  · obtain ⟨F, ⟨F1, F2, ⟨F3, F4, p, ⟨vo, vr, vq, f, T, sw, d⟩, _⟩, _⟩, _⟩ := h
    exact (dlive_any d hi.n4).mono fun _ _ ⟨x, y⟩ => ⟨x, y ▸ Cha.refl _ _⟩
  · obtain ⟨F, ⟨F1, F2, ⟨F3, F4, p, ⟨vo, vr, vq, f, T, sw, d⟩, _⟩, _⟩, _⟩ := h
    obtain ⟨a, k, e, _⟩ := d.lr.ints
    subst e
    have hk : ∀ W', Cha (fun _ => False) W W' → W'.cell? ⟨bd, 3, none⟩ = some (.int .i64 g.ph) ∧ W'.cell? ⟨bd, 6, none⟩ = some (.int .i64 g.cyc) ∧ W'.cell? ⟨bd, 1, none⟩ = some (.slice a g.roots.length k) ∧ Lies inE W' (.slice a g.roots.length k) g.roots := fun W' c => by
      have d' := d.same c
      obtain ⟨x0, x1, x2, x3, x4, x5, x6, xf⟩ := d'.facts
      exact ⟨x3, x6, x1, d'.lr⟩
    obtain ⟨y1, y2, y3, _⟩ := hk W (Cha.refl _ _)
    exact ⟨a, g.roots.length, k, y1, y2, y3, hk⟩
  · obtain ⟨F, ⟨F1, F2, ⟨F3, F4, q, _⟩, _⟩, _⟩ := h
    obtain ⟨K, vo, vr, vq, r, f, T, hi, p⟩ := q.open
    exact (roots_any p).mono fun _ _ ⟨a, n, c, e, k⟩ => ⟨a, n, c, e, k.1, k.2.1⟩
end
/-- At the start. -/
theorem duet_new (c : Cha (fun _ => False) w0 w0) : Calls Try.prog 9 #[] w0 fun e W' => ∃ bg, e = .returned (.pointer (some ⟨bg, 0, none⟩)) ∧ Calls Try.prog 10 #[] W' fun e2 W2 => ∃ bd, e2 = .returned (.pointer (some ⟨bd, 0, none⟩)) ∧ Mine w0 (Duet bg bd Gr.new Gr.new) W2 :=
  (m9 c).mono fun _ W' ⟨bg, e, h⟩ => ⟨bg, e, (dnew_any W').mono fun _ _ ⟨bd, e2, k⟩ => ⟨bd, e2, h.star (fit_pg _ _) (fit_dm _ _) k⟩⟩
end Go.Proofs.Ytllefljimkmbhaa
