/- Arguments that are scripts of calls: how they are opened. -/
import Derived.Test.YtaloafihbdamiaaGreatAB
import Derived.Test.YtaloafihbdamiaaGreatB
namespace Go.Proofs.YtaloafihbdamiaaGreat
open Go.ChangeShapes Go.WideShapes Go.ChangeAt Go.RowKit
theorem cell31 : Tryz.prog.cellsOf 31 = 1 := by kernel_rfl
theorem cell33 : Tryz.prog.cellsOf 33 = 4 := by kernel_rfl
theorem bytes33 : Tryz.prog.bytesOf 33 = 32 := by kernel_rfl
structure OpAt4 (w : World) (b o : Nat) (z0 z1 z2 z3 : Int) : Prop where
  cells : w.rangeAt b o [.int .i64 z0, .int .i64 z1, .int .i64 z2, .int .u64 z3]
  l1 : -9223372036854775808 ≤ z1
  l2 : -9223372036854775808 ≤ z2
  l3 : 0 ≤ z3
  h1 : z1 ≤ 9223372036854775807
  h2 : z2 ≤ 9223372036854775807
  h3 : z3 ≤ 18446744073709551615
theorem OpAt4.cha {w W : World} {b o : Nat} {z0 z1 z2 z3 : Int} (h : OpAt4 w b o z0 z1 z2 z3) (c : Cha (fun _ => False) w W) : OpAt4 W b o z0 z1 z2 z3 := by
  refine ⟨fun j v hv => ?_, h.l1, h.l2, h.l3, h.h1, h.h2, h.h3⟩
  have h1 := h.cells j v hv
  have hb := block_lt_of_cell h1
  have e := c.old b hb (fun x => x)
  simpa [World.cell?, e] using h1
section
variable {H : Type} {enc : TypeId × Value → H} {W : World} {base : Nat} {spare : Nat → Bool} {held : Bool}
set_option maxRecDepth 100000 in
theorem four4 {t : TypeId} {f1 f2 f3 f4 : Field} (ht : Tryz.prog.underlying t = some (.struct #[f1, f2, f3, f4])) (e1 : f1.type = 3 ∧ f1.offset = 0) (e2 : f2.type = 3 ∧ f2.offset = 1) (e3 : f3.type = 3 ∧ f3.offset = 2) (e4 : f4.type = 31 ∧ f4.offset = 3) (hc : Tryz.prog.cellsOf t = 4)
    {fuel : Nat} {cs : List Value} {x : DataW H × List MemPlace} (h : DataW.trod enc Tryz.prog W base spare held fuel t cs = some x) :
    ∃ z0 z1 z2 z3 : Int, cs = [.int .i64 z0, .int .i64 z1, .int .i64 z2, .int .u64 z3] ∧ (Lit.int .i64 z1).wf = true ∧ (Lit.int .i64 z2).wf = true ∧ (Lit.int .u64 z3).wf = true := by
  obtain ⟨xs, n, _, _, hl, hlen, hf⟩ := DataW.trod_struct ht h
  rw [hc] at hl
  match cs, hl, xs, hlen with
  | [c0, c1, c2, c3], _, [y0, y1, y2, y3], _ =>
    have g0 : DataW.trod enc Tryz.prog W base spare held n 3 [c0] = some y0 := by have := hf 0 _ rfl; simpa [e1.1, e1.2, cell1] using this
    have g1 : DataW.trod enc Tryz.prog W base spare held n 3 [c1] = some y1 := by have := hf 1 _ rfl; simpa [e2.1, e2.2, cell1] using this
    have g2 : DataW.trod enc Tryz.prog W base spare held n 3 [c2] = some y2 := by have := hf 2 _ rfl; simpa [e3.1, e3.2, cell1] using this
    have g3 : DataW.trod enc Tryz.prog W base spare held n 31 [c3] = some y3 := by have := hf 3 _ rfl; simpa [e4.1, e4.2, cell31] using this
    obtain ⟨z0, q0, _, _⟩ := DataW.trod_int Tryz.underlying3 g0
    obtain ⟨z1, q1, _, w1⟩ := DataW.trod_int Tryz.underlying3 g1
    obtain ⟨z2, q2, _, w2⟩ := DataW.trod_int Tryz.underlying3 g2
    obtain ⟨z3, q3, _, w3⟩ := DataW.trod_int Tryz.underlying31 g3
    simp at q0 q1 q2 q3
    exact ⟨z0, z1, z2, z3, by rw [q0, q1, q2, q3], w1, w2, w3⟩

/-- A script that came in. -/
def Script4 (W : World) (a : Option Addr) (len c : Nat) : Prop := (len ≤ c ∧ c ≤ 9223372036854775807) ∧
  (0 < len → ∃ (b o : Nat), a = some ⟨b, o, none⟩ ∧ ∀ i, i < len → ∃ z0 z1 z2 z3, OpAt4 W b (o + i * 4) z0 z1 z2 z3)
theorem script4_of {s t : TypeId} (hs : Tryz.prog.underlying s = some (.slice t)) (hc3 : Tryz.prog.cellsOf t = 4)
    (h3 : ∀ (fuel : Nat) (cs : List Value) (x : DataW H × List MemPlace), DataW.trod enc Tryz.prog W base spare held fuel t cs = some x → ∃ z0 z1 z2 z3 : Int, cs = [.int .i64 z0, .int .i64 z1, .int .i64 z2, .int .u64 z3] ∧ (Lit.int .i64 z1).wf = true ∧ (Lit.int .i64 z2).wf = true ∧ (Lit.int .u64 z3).wf = true)
    {fuel : Nat} {a : Option Addr} {len c : Nat} {x : DataW H × List MemPlace}
    (h : DataW.trod enc Tryz.prog W base spare held fuel s (Value.slice a len c).cells.toList = some x) : Script4 W a len c := by
  rcases DataW.trod_slice hs h with ⟨hcs, _⟩ | ⟨a', len', cap', elems, rest, n, _, hcs, _, hb, hl, hm, hlen, hel, _⟩
  · simp [Value.cells] at hcs
    obtain ⟨rfl, rfl, rfl⟩ := hcs
    exact ⟨⟨by omega, by omega⟩, fun h => absurd h (by omega)⟩
  · simp [Value.cells] at hcs
    obtain ⟨rfl, rfl, rfl⟩ := hcs
    unfold maxLen at hm
    rw [hc3] at hel
    have each : ∀ i, i < len → ∃ cs y, W.cells? base (a'.add (i * 4)) 4 = some cs ∧ DataW.trod enc Tryz.prog W base spare held n t cs = some y := fun i hi => by
      have h1 := hel i hi
      rw [List.getElem?_eq_getElem (by omega), Option.bind_eq_some_iff] at h1
      obtain ⟨cs, h2, h3⟩ := h1
      exact ⟨cs, _, h2, h3⟩
    refine ⟨⟨by omega, by omega⟩, fun hn => ?_⟩
    obtain ⟨b, o, s⟩ := a'
    have hs : s = none := by
      obtain ⟨cs, y, h2, k3⟩ := each 0 hn
      obtain ⟨z0, z1, z2, z3, rfl, _⟩ := h3 _ _ _ k3
      have h4 := (World.cells?_some h2).2.2 0 (by omega)
      cases s with
      | none => rfl
      | some q =>
        have e : ((⟨b, o, some q⟩ : Addr).add (0 * 4)).add 0 = ⟨b, o, some q⟩ := by simp [Addr.add]
        rw [e] at h4
        unfold World.cell? at h4
        split at h4
        · simp at h4
        · cases h4
    subst hs
    refine ⟨b, o, rfl, fun i hi => ?_⟩
    obtain ⟨cs, y, h2, k3⟩ := each i hi
    obtain ⟨z0, z1, z2, z3, rfl, w1, w2, w3⟩ := h3 _ _ _ k3
    refine ⟨z0, z1, z2, z3, ⟨fun j v hv => ?_, i64_lo w1, i64_lo w2, u64_lo w3, i64_hi w1, i64_hi w2, u64_hi w3⟩⟩
    have hj : j < 4 := by
      by_cases c : j < 4
      · exact c
      · rw [List.getElem?_eq_none (by simp; omega)] at hv; cases hv
    have h4 := (World.cells?_some h2).2.2 j hj
    rw [Addr.add_mid, Addr.add_mid] at h4
    rw [h4]
    exact hv
end
end Go.Proofs.YtaloafihbdamiaaGreat
