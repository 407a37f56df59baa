/- A script of calls among the arguments: how it is opened. -/
import Derived.Test.YtbkpbineagfbgaaAH
import Derived.Test.YtbkpbineagfbgaaQ
namespace Go.Proofs.Ytbkpbineagfbgaa
open Go.ChangeShapes Go.WideShapes Go.ChangeAt Go.RowKit

theorem cells33 : Try.prog.cellsOf 33 = 6 := by kernel_rfl
theorem cells3 : Try.prog.cellsOf 3 = 1 := by kernel_rfl
theorem cells31 : Try.prog.cellsOf 31 = 1 := by kernel_rfl
section
variable {H : Type} {enc : TypeId × Value → H} {W : World} {base : Nat} {spare : Nat → Bool} {held : Bool}
theorem six {fuel : Nat} {cs : List Value} {x : DataW H × List MemPlace} (h : DataW.trod enc Try.prog W base spare held fuel 33 cs = some x) :
    ∃ z0 z1 z2 z3 z4 z5 : Int, cs = [.int .i64 z0, .int .i64 z1, .int .i64 z2, .int .i64 z3, .int .u64 z4, .int .u64 z5] ∧ (Lit.int .i64 z1).wf = true ∧ (Lit.int .i64 z2).wf = true ∧ (Lit.int .i64 z3).wf = true := by
  obtain ⟨xs, n, _, _, hl, hlen, hf⟩ := DataW.trod_struct Try.underlying33 h
  rw [cells33] at hl
  match cs, hl, xs, hlen with
  | [c0, c1, c2, c3, c4, c5], _, [y0, y1, y2, y3, y4, y5], _ =>
    have f0 : DataW.trod enc Try.prog W base spare held n 3 [c0] = some y0 := by have := hf 0 _ rfl; simpa [cells3] using this
    have f1 : DataW.trod enc Try.prog W base spare held n 3 [c1] = some y1 := by have := hf 1 _ rfl; simpa [cells3] using this
    have f2 : DataW.trod enc Try.prog W base spare held n 3 [c2] = some y2 := by have := hf 2 _ rfl; simpa [cells3] using this
    have f3 : DataW.trod enc Try.prog W base spare held n 3 [c3] = some y3 := by have := hf 3 _ rfl; simpa [cells3] using this
    have f4 : DataW.trod enc Try.prog W base spare held n 31 [c4] = some y4 := by have := hf 4 _ rfl; simpa [cells31] using this
    have f5 : DataW.trod enc Try.prog W base spare held n 31 [c5] = some y5 := by have := hf 5 _ rfl; simpa [cells31] using this
    obtain ⟨z0, e0, _, _⟩ := DataW.trod_int Try.underlying3 f0
    obtain ⟨z1, e1, _, w1⟩ := DataW.trod_int Try.underlying3 f1
    obtain ⟨z2, e2, _, w2⟩ := DataW.trod_int Try.underlying3 f2
    obtain ⟨z3, e3, _, w3⟩ := DataW.trod_int Try.underlying3 f3
    obtain ⟨z4, e4, _, _⟩ := DataW.trod_int Try.underlying31 f4
    obtain ⟨z5, e5, _, _⟩ := DataW.trod_int Try.underlying31 f5
    simp at e0 e1 e2 e3 e4 e5
    exact ⟨z0, z1, z2, z3, z4, z5, by rw [e0, e1, e2, e3, e4, e5], w1, w2, w3⟩

/-- A script that came in. -/
def Script (W : World) (a : Option Addr) (len : Nat) : Prop := len ≤ 9223372036854775807 ∧
  (0 < len → ∃ (b o : Nat), a = some ⟨b, o, none⟩ ∧ ∀ i, i < len → ∃ z0 z1 z2 z3 z4 z5, OpAt W b (o + i * 6) z0 z1 z2 z3 z4 z5)
theorem script_of {fuel : Nat} {a : Option Addr} {len c : Nat} {x : DataW H × List MemPlace}
    (h : DataW.trod enc Try.prog W base spare held fuel 22 (Value.slice a len c).cells.toList = some x) : Script W a len := by
  rcases DataW.trod_slice Try.underlying22 h with ⟨hcs, _⟩ | ⟨a', len', cap', elems, rest, n, _, hcs, _, hb, hl, hm, hlen, hel, _⟩
  · simp [Value.cells] at hcs
    obtain ⟨rfl, rfl, rfl⟩ := hcs
    exact ⟨by omega, fun h => absurd h (by omega)⟩
  · simp [Value.cells] at hcs
    obtain ⟨rfl, rfl, rfl⟩ := hcs
    unfold maxLen at hm
    rw [cells33] at hel
    have each : ∀ i, i < len → ∃ cs y, W.cells? base (a'.add (i * 6)) 6 = some cs ∧ DataW.trod enc Try.prog W base spare held n 33 cs = some y := fun i hi => by
      have h1 := hel i hi
      rw [List.getElem?_eq_getElem (by omega), Option.bind_eq_some_iff] at h1
      obtain ⟨cs, h2, h3⟩ := h1
      exact ⟨cs, _, h2, h3⟩
    refine ⟨by omega, fun hn => ?_⟩
    obtain ⟨b, o, s⟩ := a'
    have hs : s = none := by
      obtain ⟨cs, y, h2, h3⟩ := each 0 hn
      obtain ⟨z0, z1, z2, z3, z4, z5, rfl, _⟩ := six h3
      have h4 := (World.cells?_some h2).2.2 0 (by omega)
      cases s with
      | none => rfl
      | some q =>
        have e : ((⟨b, o, some q⟩ : Addr).add (0 * 6)).add 0 = ⟨b, o, some q⟩ := by simp [Addr.add]
        rw [e] at h4
        unfold World.cell? at h4
        split at h4
        · simp at h4
        · cases h4
    subst hs
    refine ⟨b, o, rfl, fun i hi => ?_⟩
    obtain ⟨cs, y, h2, h3⟩ := each i hi
    obtain ⟨z0, z1, z2, z3, z4, z5, rfl, w1, w2, w3⟩ := six h3
    refine ⟨z0, z1, z2, z3, z4, z5, ⟨fun j v hv => ?_, i64_lo w1, i64_hi w1, i64_hi w2, i64_hi w3⟩⟩
    have hj : j < 6 := by
      by_cases c : j < 6
      · exact c
      · rw [List.getElem?_eq_none (by simp; omega)] at hv; cases hv
    have h4 := (World.cells?_some h2).2.2 j hj
    rw [Addr.add_mid, Addr.add_mid] at h4
    rw [h4]
    exact hv
end
theorem same_of_cha {W W' : World} (h : Cha (fun _ => False) W W') {p : MemPlace} (hp : p.block < W.heap.size) : W.sameAt W' p := by
  have e := h.old _ hp (fun x => x)
  cases p with
  | cell b o => show W'.cell? ⟨b, o, none⟩ = W.cell? ⟨b, o, none⟩; have e : W'.heap[b]? = W.heap[b]? := e; simp [World.cell?, e]
  | map b => exact e
theorem stays_cha {H : Type} {enc : TypeId × Value → H} {W W' : World} {sp : Nat → Bool} {t : TypeId} {v : Value} {d : DataW H} {ps : List MemPlace} (hr : Try.prog.readableRec t = true) (hrow : t < Try.prog.types.size)
    (h : DataW.Trod enc Try.prog W 0 (fun _ => true) true t v d ps) (hg : Cha (fun _ => False) W W') (hb : ∀ p ∈ ps, p.block < W.heap.size) (hsp : ∀ p ∈ ps, sp p.block = true) : DataW.Trod enc Try.prog W' 0 sp true t v d ps :=
  WideElems.Trod_stays laidOut hr hrow h (fun p hp => same_of_cha hg (hb p hp)) hsp
theorem kept_of_cha {W W' : World} (h : Cha (fun _ => False) W W') (may : MemPlace → Prop) : W.keptBut W' may :=
  World.keptBut_mono (fun _ f => f.elim) (World.keptBut_none_iff.2 ⟨h.os, h.out, fun i hi => h.old i hi (fun x => x)⟩)
end Go.Proofs.Ytbkpbineagfbgaa
