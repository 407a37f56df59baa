/- Scripts of a stack's calls among the arguments. -/
import Derived.Test.YteienclklmjhdaaAB
namespace Go.Proofs.Yteienclklmjhdaa
open Go.ChangeShapes Go.WideShapes Go.ChangeAt Go.RowKit
section
variable {H : Type} {enc : TypeId × Value → H} {W : World} {base : Nat} {spare : Nat → Bool} {held : Bool}
/-- An operation of a script: five ints, a word. -/
structure OpW (w : World) (b o : Nat) (z0 z1 z2 z3 z4 z5 : Int) : Prop where
  cells : w.rangeAt b o [.int .i64 z0, .int .i64 z1, .int .i64 z2, .int .i64 z3, .int .i64 z4, .int .u64 z5]
  lo : 0 ≤ z5
  hi : z5 ≤ 18446744073709551615
  m1 : z1 ≤ 9223372036854775807
  m3 : z3 ≤ 9223372036854775807
theorem OpW.cha {w W : World} {b o : Nat} {z0 z1 z2 z3 z4 z5 : Int} (h : OpW w b o z0 z1 z2 z3 z4 z5) (c : Cha (fun _ => False) w W) : OpW W b o z0 z1 z2 z3 z4 z5 := by
  refine ⟨fun j v hv => ?_, h.lo, h.hi, h.m1, h.m3⟩
  have h1 := h.cells j v hv
  have hb := block_lt_of_cell h1
  have e := c.old b hb (fun x => x)
  simpa [World.cell?, e] using h1
set_option maxRecDepth 100000 in
theorem six6 {t : TypeId} {f1 f2 f3 f4 f5 f6 : Field} (ht : Try.prog.underlying t = some (.struct #[f1, f2, f3, f4, f5, f6])) (e1 : f1.type = 3 ∧ f1.offset = 0) (e2 : f2.type = 3 ∧ f2.offset = 1) (e3 : f3.type = 3 ∧ f3.offset = 2) (e4 : f4.type = 3 ∧ f4.offset = 3) (e5 : f5.type = 3 ∧ f5.offset = 4) (e6 : f6.type = 28 ∧ f6.offset = 5) (hc : Try.prog.cellsOf t = 6)
    {fuel : Nat} {cs : List Value} {x : DataW H × List MemPlace} (h : DataW.trod enc Try.prog W base spare held fuel t cs = some x) :
    ∃ z0 z1 z2 z3 z4 z5 : Int, cs = [.int .i64 z0, .int .i64 z1, .int .i64 z2, .int .i64 z3, .int .i64 z4, .int .u64 z5] ∧ 0 ≤ z5 ∧ z5 ≤ 18446744073709551615 ∧ z1 ≤ 9223372036854775807 ∧ z3 ≤ 9223372036854775807 := by
  obtain ⟨xs, n, _, _, hl, hlen, hf⟩ := DataW.trod_struct ht h
  rw [hc] at hl
  match cs, hl, xs, hlen with
  | [c0, c1, c2, c3, c4, c5], _, [y0, y1, y2, y3, y4, y5], _ =>
    have g0 : DataW.trod enc Try.prog W base spare held n 3 [c0] = some y0 := by have := hf 0 _ rfl; simpa [e1.1, e1.2, cell1] using this
    have g1 : DataW.trod enc Try.prog W base spare held n 3 [c1] = some y1 := by have := hf 1 _ rfl; simpa [e2.1, e2.2, cell1] using this
    have g2 : DataW.trod enc Try.prog W base spare held n 3 [c2] = some y2 := by have := hf 2 _ rfl; simpa [e3.1, e3.2, cell1] using this
    have g3 : DataW.trod enc Try.prog W base spare held n 3 [c3] = some y3 := by have := hf 3 _ rfl; simpa [e4.1, e4.2, cell1] using this
    have g4 : DataW.trod enc Try.prog W base spare held n 3 [c4] = some y4 := by have := hf 4 _ rfl; simpa [e5.1, e5.2, cell1] using this
    have g5 : DataW.trod enc Try.prog W base spare held n 28 [c5] = some y5 := by have := hf 5 _ rfl; simpa [e6.1, e6.2, cell28] using this
    obtain ⟨z0, q0, _, _⟩ := DataW.trod_int Try.underlying3 g0
    obtain ⟨z1, q1, _, w1⟩ := DataW.trod_int Try.underlying3 g1
    obtain ⟨z2, q2, _, _⟩ := DataW.trod_int Try.underlying3 g2
    obtain ⟨z3, q3, _, w3⟩ := DataW.trod_int Try.underlying3 g3
    obtain ⟨z4, q4, _, _⟩ := DataW.trod_int Try.underlying3 g4
    obtain ⟨z5, q5, _, w5⟩ := DataW.trod_int Try.underlying28 g5
    simp at q0 q1 q2 q3 q4 q5
    exact ⟨z0, z1, z2, z3, z4, z5, by rw [q0, q1, q2, q3, q4, q5], u64_lo w5, u64_hi w5, i64_hi w1, i64_hi w3⟩

/-- A script that came in, whose elements take so many bytes. -/
def Script6 (W : World) (a : Option Addr) (len : Nat) : Prop := len ≤ 9223372036854775807 ∧
  (0 < len → ∃ (b o : Nat), a = some ⟨b, o, none⟩ ∧ ∀ i, i < len → ∃ z0 z1 z2 z3 z4 z5, OpW W b (o + i * 6) z0 z1 z2 z3 z4 z5)
theorem script6_of {s t : TypeId} (hs : Try.prog.underlying s = some (.slice t)) (hc3 : Try.prog.cellsOf t = 6)
    (h3 : ∀ (fuel : Nat) (cs : List Value) (x : DataW H × List MemPlace), DataW.trod enc Try.prog W base spare held fuel t cs = some x → ∃ z0 z1 z2 z3 z4 z5 : Int, cs = [.int .i64 z0, .int .i64 z1, .int .i64 z2, .int .i64 z3, .int .i64 z4, .int .u64 z5] ∧ 0 ≤ z5 ∧ z5 ≤ 18446744073709551615 ∧ z1 ≤ 9223372036854775807 ∧ z3 ≤ 9223372036854775807)
    {fuel : Nat} {a : Option Addr} {len c : Nat} {x : DataW H × List MemPlace}
    (h : DataW.trod enc Try.prog W base spare held fuel s (Value.slice a len c).cells.toList = some x) : Script6 W a len := by
  rcases DataW.trod_slice hs h with ⟨hcs, _⟩ | ⟨a', len', cap', elems, rest, n, _, hcs, _, hb, hl, hm, hlen, hel, _⟩
  · simp [Value.cells] at hcs
    obtain ⟨rfl, rfl, rfl⟩ := hcs
    exact ⟨by omega, fun h => absurd h (by omega)⟩
  · simp [Value.cells] at hcs
    obtain ⟨rfl, rfl, rfl⟩ := hcs
    unfold maxLen at hm
    rw [hc3] at hel
    have each : ∀ i, i < len → ∃ cs y, W.cells? base (a'.add (i * 6)) 6 = some cs ∧ DataW.trod enc Try.prog W base spare held n t cs = some y := fun i hi => by
      have h1 := hel i hi
      rw [List.getElem?_eq_getElem (by omega), Option.bind_eq_some_iff] at h1
      obtain ⟨cs, h2, h3⟩ := h1
      exact ⟨cs, _, h2, h3⟩
    refine ⟨by omega, fun hn => ?_⟩
    obtain ⟨b, o, s⟩ := a'
    have hs : s = none := by
      obtain ⟨cs, y, h2, k3⟩ := each 0 hn
      obtain ⟨z0, z1, z2, z3, z4, z5, rfl, lo, hi, m1, m3⟩ := h3 _ _ _ k3
      have h4 := (World.cells?_some h2).2.2 0 (by omega)
      cases s with
      | none => rfl
      | some q =>
        have e : ((⟨b, o, some q⟩ : Addr).add (0 * 6)).add 0 = ⟨b, o, some q⟩ := by simp [Addr.add]
        rw [e] at h4
        unfold World.cell? at h4
        split at h4
        · simp at h4
        · cases h4
    subst hs
    refine ⟨b, o, rfl, fun i hi => ?_⟩
    obtain ⟨cs, y, h2, k3⟩ := each i hi
    obtain ⟨z0, z1, z2, z3, z4, z5, rfl, lo, hi, m1, m3⟩ := h3 _ _ _ k3
    refine ⟨z0, z1, z2, z3, z4, z5, ⟨fun j v hv => ?_, lo, hi, m1, m3⟩⟩
    have hj : j < 6 := by
      by_cases c : j < 6
      · exact c
      · rw [List.getElem?_eq_none (by simp; omega)] at hv; cases hv
    have h4 := (World.cells?_some h2).2.2 j hj
    rw [Addr.add_mid, Addr.add_mid] at h4
    rw [h4]
    exact hv
end
end Go.Proofs.Yteienclklmjhdaa
