/- A graph that the law itself has made; equal lists; awake. -/
import Derived.Test.YtllefljimkmbhaaQ
namespace Go.Proofs.Ytllefljimkmbhaa
open Go.ChangeShapes Go.WideShapes Go.ChangeAt Go.RowKit
variable {w0 w w' W W' : World} {bg : Nat} {g : Gr}

theorem same_any {u v : Value} {A : List Nat} (hu : Lies inE W u A) (hv : Lies inE W v A) (hl : A.length ≤ 1000000) : Calls Try.prog 30 #[u, v] W fun e W' => e = .returned (.bool true) ∧ Cha (fun _ => False) W W' := by
  obtain ⟨a, ca, rfl, h1, h2, h3⟩ := hu.ints
  obtain ⟨b, cb, rfl, k1, k2, k3⟩ := hv.ints
  have H3 := Lib.hid h3
  have K3 := Lib.hid k3
  clear hu hv h3 k3
  unfold maxLen at h2 k2
  go_enter Try.func30, Try.ntmps30
  go_wp2
  go_loopw [5] (fun i wr => ∃ j : Nat, i = .int .i64 (j : Int) ∧ j ≤ A.length ∧ Cha (fun _ => False) W wr ∧ wr.heap = W.heap) (fun i _ => A.length - (intOf i).toNat)
  case atStart => exact ⟨0, rfl, Nat.zero_le _, Cha.refl _ _, rfl⟩
  case round =>
    obtain ⟨j, rfl, hj, hc, hh⟩ := hrel
    by_cases hlt : j < A.length
    · obtain ⟨ba, oa, rfl, ha⟩ := H3.out (by omega)
      obtain ⟨bb, ob, rfl, hb⟩ := K3.out (by omega)
      have x1 := (ha j hlt).1
      have x2 := (hb j hlt).1
      have y1 : wr.cell? ⟨ba, oa + j, none⟩ = some (.int .i64 ((A.getD j 0 : Nat) : Int)) := by rw [← x1]; unfold World.cell?; rw [hh]
      have y2 : wr.cell? ⟨bb, ob + j, none⟩ = some (.int .i64 ((A.getD j 0 : Nat) : Int)) := by rw [← x2]; unfold World.cell?; rw [hh]
      generalize A.getD j 0 = V at *
      have hlt2 : (j : Int) < (A.length : Int) := by omega
      have HC := Lib.hid hc
      have HH := Lib.hid hh
      clear x1 x2 ha hb hc hh H3 K3
      go_wp2
      go_quiet (fail)
      go_wp2
      go_roundw
      case rel => exact ⟨j + 1, rfl, hlt, HC.out.drewN _, HH.out⟩
      case measure => simp [intOf]; omega
    · obtain rfl : j = A.length := by omega
      have HC := Lib.hid hc
      clear hc hh H3 K3
      go_wp2
      go_returns
      exact ⟨rfl, HC.out⟩
section
variable (h : Mine w0 (PgA bg g) W)
include h
theorem m12 (a : Int) : Calls Try.prog 12 #[.pointer (some ⟨bg, 0, none⟩), .int .i64 a] W fun e W' => e = .returned (pairV (g.addR a).1) ∧ Mine w0 (PgA bg (g.addR a).2) W' := h.step fun _ q => add_any q a
theorem m14 (a : Int) : Calls Try.prog 14 #[.pointer (some ⟨bg, 0, none⟩), .int .i64 a] W fun e W' => e = .returned (.int .i64 (g.dropR a).1) ∧ Mine w0 (PgA bg (g.dropR a).2) W' := h.step fun _ q => drop_any q a
theorem m16 (a b : Int) : Calls Try.prog 16 #[.pointer (some ⟨bg, 0, none⟩), .int .i64 a, .int .i64 b] W fun e W' => e = .returned (.int .i64 (g.rootR a b).1) ∧ Mine w0 (PgA bg (g.rootR a b).2) W' := h.step fun _ q => root_any q a b
theorem m18 (a b c : Int) : Calls Try.prog 18 #[.pointer (some ⟨bg, 0, none⟩), .int .i64 a, .int .i64 b, .int .i64 c] W fun e W' => e = .returned (.int .i64 (g.setR a b c).1) ∧ Mine w0 (PgA bg (g.setR a b c).2) W' := h.step fun _ q => set_any q a b c
theorem m22 : Calls Try.prog 22 #[.pointer (some ⟨bg, 0, none⟩)] W fun e W' => e = .returned (pairV g.workR.1) ∧ Mine w0 (PgA bg g.workR.2) W' := h.step fun _ q => work_any q
theorem m20 : Calls Try.prog 20 #[.pointer (some ⟨bg, 0, none⟩)] W fun e W' => e = .returned (.int .i64 g.startR.1) ∧ Mine w0 (PgA bg g.startR.2) W' := h.step fun _ q => by
  obtain ⟨K, vo, vr, vq, q, f, T, hi, p⟩ := q.open
  refine (start_any p fun k => hi.off (by omega)).mono fun e W' ⟨he, F', hx, c, n⟩ => ⟨he, F', ⟨?_, ?_⟩, c, n⟩
  · by_cases k : g.ph = 0
    · exact ⟨_, hi.start k⟩
    · unfold Gr.startR; rw [if_neg k]; exact ⟨K, hi⟩
  · obtain ⟨a1, a2, a3, a4, a5, a6, p'⟩ := hx
    have e1 : g.startR.2.live = g.live := by unfold Gr.startR; split <;> rfl
    have e2 : g.startR.2.roots = g.roots := by unfold Gr.startR; split <;> rfl
    refine ⟨a1, a2, a3, a4, a5, a6, ?_⟩
    rw [e1, e2]; exact p'
theorem m24 (a b : Int) : Calls Try.prog 24 #[.pointer (some ⟨bg, 0, none⟩), .int .i64 a, .int .i64 b] W fun e W' => e = .returned (pairV (g.get a b)) ∧ Mine w0 (PgA bg g) W' := h.look (fit_pg _ _) fun _ q => by
  obtain ⟨K, vo, vr, vq, q, f, T, hi, p⟩ := q.open
  exact (get_any p hi.rk a b).mono fun _ _ ⟨a, b⟩ => ⟨a, b ▸ Cha.refl _ _⟩
theorem m26 : Calls Try.prog 26 #[.pointer (some ⟨bg, 0, none⟩)] W fun e W' => e = .returned (.tuple #[.int .i64 g.ph, .int .i64 g.cyc, .int .i64 g.live]) ∧ Mine w0 (PgA bg g) W' := h.look (fit_pg _ _) fun _ q => by
  obtain ⟨K, vo, vr, vq, q, f, T, hi, p⟩ := q.open
  exact counts_any p
theorem m28 (a : Int) : Calls Try.prog 28 #[.pointer (some ⟨bg, 0, none⟩), .int .i64 a] W fun e W' => e = .returned (.bool (g.has a)) ∧ Mine w0 (PgA bg g) W' := h.look (fit_pg _ _) fun _ q => by
  obtain ⟨K, vo, vr, vq, q, f, T, hi, p⟩ := q.open
  exact (has_any p a).mono fun _ _ ⟨a, b⟩ => ⟨a, b ▸ Cha.refl _ _⟩
theorem m31 : Calls Try.prog 31 #[.pointer (some ⟨bg, 0, none⟩)] W fun e W' => ∃ a n c, e = .returned (.slice a n c) ∧ Fresh W W' (.slice a n c) g.roots ∧ Mine w0 (PgA bg g) W' := by
  have h' := h
  obtain ⟨F, q, c, n⟩ := h
  obtain ⟨K, vo, vr, vq, q, f, T, hi, p⟩ := q.open
  exact (roots_any p).mono fun _ _ ⟨a, n, c, e, k⟩ => ⟨a, n, c, e, k, h'.same (fit_pg _ _) k.2.1⟩
theorem Mine.inv : ∃ K, Inv g K := by obtain ⟨F, q, c, n⟩ := h; exact q.1
end
theorem m9 (c : Cha (fun _ => False) w0 W) : Calls Try.prog 9 #[] W fun e W' => ∃ bg, e = .returned (.pointer (some ⟨bg, 0, none⟩)) ∧ Mine w0 (PgA bg Gr.new) W' :=
  (new_any W).mono fun _ _ ⟨bg, e, h⟩ => ⟨bg, e, h.before c⟩
/-- Numbers that were just laid into a block of their own. -/
theorem lies_new (w : World) (L : List Nat) (hm : L.length ≤ maxLen) (cs : Array Value) (hc : cs = (L.map fun (a : Nat) => Value.int .i64 (a : Int)).toArray) : Lies inE (w.alloc (.cells cs 3)) (.slice (some ⟨w.heap.size, 0, none⟩) L.length L.length) L := by
  subst hc
  refine .inr ⟨w.heap.size, 0, L.length, _, rfl, Nat.le_refl _, hm, heap_alloc_new w _, by show 0 + L.length * 1 ≤ _; simp, fun i hi => ?_⟩
  have e : inE.cs L = L.map fun (a : Nat) => Value.int .i64 (a : Int) := by
    unfold Enc.cs inE
    clear hm hi
    induction L with
    | nil => rfl
    | cons a l ih => rw [List.flatMap_cons, ih]; rfl
  rw [e]
  simp
def a1 : Gr := (Gr.new.addR 1).2
def a2 : Gr := (a1.addR 0).2
def a3 : Gr := (a2.setR 1 0 2).2
def a4 : Gr := (a3.dropR 1).2
def a5 : Gr := a4.startR.2
set_option maxRecDepth 100000 in
theorem awake_any (W : World) : Calls Try.prog 11 #[] W fun e W' => e = .returned (.bool true) ∧ Cha (fun _ => False) W W' := by
  have C0 := Lib.hid (m9 (Cha.refl (fun _ => False) W))
  have C1 : Hid (∀ bg W1, Mine W (PgA bg Gr.new) W1 → Calls Try.prog 12 #[.pointer (some ⟨bg, 0, none⟩), .int .i64 1] W1 fun e W' => e = .returned (.tuple #[.int .i64 1, .int .i64 0]) ∧ Mine W (PgA bg a1) W') := Lib.hid fun bg W1 h => m12 h 1
  have C2 : Hid (∀ bg W1, Mine W (PgA bg a1) W1 → Calls Try.prog 12 #[.pointer (some ⟨bg, 0, none⟩), .int .i64 0] W1 fun e W' => e = .returned (.tuple #[.int .i64 2, .int .i64 0]) ∧ Mine W (PgA bg a2) W') := Lib.hid fun bg W1 h => m12 h 0
  have C3 : Hid (∀ bg W1, Mine W (PgA bg a2) W1 → Calls Try.prog 18 #[.pointer (some ⟨bg, 0, none⟩), .int .i64 1, .int .i64 0, .int .i64 2] W1 fun e W' => e = .returned (.int .i64 0) ∧ Mine W (PgA bg a3) W') := Lib.hid fun bg W1 h => by
    have := m18 h 1 0 2
    rwa [show (a2.setR 1 0 2).1 = 0 by decide +kernel] at this
  have C4 : Hid (∀ bg W1, Mine W (PgA bg a3) W1 → Calls Try.prog 14 #[.pointer (some ⟨bg, 0, none⟩), .int .i64 1] W1 fun e W' => e = .returned (.int .i64 0) ∧ Mine W (PgA bg a4) W') := Lib.hid fun bg W1 h => by
    have := m14 h 1
    rwa [show (a3.dropR 1).1 = 0 by decide +kernel] at this
  have C5 : Hid (∀ bg W1, Mine W (PgA bg a4) W1 → Calls Try.prog 20 #[.pointer (some ⟨bg, 0, none⟩)] W1 fun e W' => e = .returned (.int .i64 0) ∧ Mine W (PgA bg a5) W') := Lib.hid fun bg W1 h => by
    have := m20 h
    rwa [show a4.startR.1 = 0 by decide +kernel] at this
  have C6 : Hid (∀ bg W1, Mine W (PgA bg a5) W1 → Calls Try.prog 24 #[.pointer (some ⟨bg, 0, none⟩), .int .i64 1, .int .i64 0] W1 fun e W' => e = .returned (.tuple #[.int .i64 2, .int .i64 0]) ∧ Mine W (PgA bg a5) W') := Lib.hid fun bg W1 h => by
    have := m24 h 1 0
    rwa [show a5.get 1 0 = (2, 0) by decide +kernel] at this
  have C7 : Hid (∀ bg W1, Mine W (PgA bg a5) W1 → Calls Try.prog 20 #[.pointer (some ⟨bg, 0, none⟩)] W1 fun e W' => e = .returned (.int .i64 5) ∧ Mine W (PgA bg a5) W') := Lib.hid fun bg W1 h => by
    have := m20 h
    have e2 : a5.startR = (5, a5) := by unfold Gr.startR; rw [if_neg (by decide +kernel)]
    rw [e2] at this
    exact this
  have C8 : Hid (∀ bg W1, Mine W (PgA bg a5) W1 → Calls Try.prog 31 #[.pointer (some ⟨bg, 0, none⟩)] W1 fun e W' => ∃ a n c, e = .returned (.slice a n c) ∧ Fresh W1 W' (.slice a n c) [1] ∧ Mine W (PgA bg a5) W') := Lib.hid fun bg W1 h => by
    have := m31 h
    rwa [show a5.roots = [1] by decide +kernel] at this
  have C9 : Hid (∀ W1 W2 v, Fresh W1 W2 v [1] → Calls Try.prog 30 #[v, .slice (some ⟨W2.heap.size, 0, none⟩) 1 1] (W2.alloc (.cells #[.int .i64 1] 3)) fun e W' => e = .returned (.bool true) ∧ Cha (fun _ => False) W2 W') := Lib.hid fun W1 W2 v h =>
    (same_any (h.1.same ((Cha.refl (fun _ => False) W2).alloc _)) (lies_new W2 [1] (by decide) _ rfl) (by decide)).mono fun _ _ ⟨a, c⟩ => ⟨a, ((Cha.refl _ W2).alloc _).trans c⟩
  go_enter Try.func11, Try.ntmps11
  go_wp2_with (first
    | (go_at_call 9; ((with_reducible refine (C0.out).mono ?_); rintro e w1 ⟨bg, rfl, h⟩; have D1 := Lib.hid (C1.out _ _ h); clear h))
    | (go_at_call 12; ((with_reducible refine (D1.out).mono ?_); rintro e w2 ⟨rfl, h⟩; have D2 := Lib.hid (C2.out _ _ h); clear h))
    | (go_at_call 12; ((with_reducible refine (D2.out).mono ?_); rintro e w3 ⟨rfl, h⟩; have D3 := Lib.hid (C3.out _ _ h); clear h))
    | (go_at_call 18; ((with_reducible refine (D3.out).mono ?_); rintro e w4 ⟨rfl, h⟩; have D4 := Lib.hid (C4.out _ _ h); clear h))
    | (go_at_call 14; ((with_reducible refine (D4.out).mono ?_); rintro e w5 ⟨rfl, h⟩; have D5 := Lib.hid (C5.out _ _ h); clear h))
    | (go_at_call 20; ((with_reducible refine (D5.out).mono ?_); rintro e w6 ⟨rfl, h⟩; have D6 := Lib.hid (C6.out _ _ h); clear h))
    | (go_at_call 24; ((with_reducible refine (D6.out).mono ?_); rintro e w7 ⟨rfl, h⟩; have D7 := Lib.hid (C7.out _ _ h); clear h))
    | (go_at_call 20; ((with_reducible refine (D7.out).mono ?_); rintro e w8 ⟨rfl, h⟩; have D8 := Lib.hid (C8.out _ _ h); clear h))
    | (go_at_call 31; ((with_reducible refine (D8.out).mono ?_); rintro e w9 ⟨a, n, c, rfl, hf, h⟩; have D9 := Lib.hid (C9.out _ _ _ hf); have H9 := Lib.hid h.cha; clear h hf))
    | (go_at_call 30; ((with_reducible refine (D9.out).mono ?_); rintro e w10 ⟨rfl, h⟩; have H10 := Lib.hid (H9.out.trans h); clear h)))
  go_returns
  exact ⟨rfl, H10.out⟩
end Go.Proofs.Ytllefljimkmbhaa
