/- Arguments that are slices: how they are opened; what reads as before. -/
import Derived.Test.YtaloafihbdamiaaGreatE
import Derived.OpenShut
import Derived.ChangeSame
import Derived.JoinedOf
import Derived.JoinedAt
import Derived.RowKit3
import Derived.ReadAgain
import Derived.Laws.IdiomElems
import Derived.Laws.IdiomAt
import Derived.RowKit2
import Derived.ChangeSlices
import Derived.Carry
namespace Go.Proofs.YtaloafihbdamiaaGreat
open Go.ChangeShapes Go.WideShapes Go.ChangeAt Go.RowKit

theorem cell1 : Tryz.prog.cellsOf 3 = 1 := by kernel_rfl
theorem cell5 : Tryz.prog.cellsOf 5 = 1 := by kernel_rfl
theorem laidOut : laidOutB Tryz.prog = true := by kernel_rfl

/-- A slice of numbers that came in. -/
def Nums (k : IntKind) (W : World) (a : Option Addr) (n : Nat) : Prop := n ≤ 9223372036854775807 ∧
  (0 < n → ∃ (b o : Nat) (z : Nat → Int), a = some ⟨b, o, none⟩ ∧ ∀ i, i < n → W.cell? ⟨b, o + i, none⟩ = some (.int k (z i)) ∧ (Lit.int k (z i)).wf = true)
section
variable {H : Type} {enc : TypeId × Value → H} {W : World} {base : Nat} {spare : Nat → Bool} {held : Bool}
theorem nums_of {t e : TypeId} {k : IntKind} {fuel : Nat} {a : Option Addr} {n c : Nat} {x : DataW H × List MemPlace}
    (ht : Tryz.prog.underlying t = some (.slice e)) (he : Tryz.prog.underlying e = some (.int k)) (hc : Tryz.prog.cellsOf e = 1) (hsp : ∀ b, spare b = true)
    (h : DataW.trod enc Tryz.prog W base spare held fuel t (Value.slice a n c).cells.toList = some x) : Nums k W a n := by
  rcases open_ints ht he hc h with ⟨hcs, hx⟩ | ⟨a', len', cap', zs, hcs, hb, hl, hm, hz, hx, hcell, hwz⟩
  · simp [Value.cells] at hcs
    obtain ⟨rfl, rfl, rfl⟩ := hcs
    exact ⟨by omega, fun h => absurd h (by omega)⟩
  · simp [Value.cells] at hcs
    obtain ⟨rfl, rfl, rfl⟩ := hcs
    unfold maxLen at hm
    refine ⟨by omega, fun hn => ?_⟩
    have hlen : n ≤ zs.length := by rw [hz, hsp]; simpa using hl
    obtain ⟨b, o, s⟩ := a'
    have hs : s = none := by
      have h0 := hcell 0 (by omega)
      cases s with
      | none => rfl
      | some y =>
        have e : (⟨b, o, some y⟩ : Addr).add 0 = ⟨b, o, some y⟩ := by simp [Addr.add]
        rw [e] at h0
        unfold World.cell? at h0
        split at h0
        · simp at h0
        · cases h0
    subst hs
    refine ⟨b, o, fun i => zs.getD i 0, rfl, fun i hi => ?_⟩
    have h1 := hcell i (by omega)
    have e : (⟨b, o, none⟩ : Addr).add i = ⟨b, o + i, none⟩ := by unfold Addr.add; split <;> simp_all
    rw [e] at h1
    refine ⟨h1, hwz _ ?_⟩
    show zs.getD i 0 ∈ zs
    have h2 : zs.getD i 0 = zs[i] := by simp [List.getD, show i < zs.length by omega]
    rw [h2]
    exact List.getElem_mem _

/-- An operation of a script: three ints. -/
structure OpAt (w : World) (b o : Nat) (z0 z1 z2 : Int) : Prop where
  cells : w.rangeAt b o [.int .i64 z0, .int .i64 z1, .int .i64 z2]
  l1 : -9223372036854775808 ≤ z1
  l2 : -9223372036854775808 ≤ z2
  h1 : z1 ≤ 9223372036854775807
  h2 : z2 ≤ 9223372036854775807
theorem OpAt.cha {w W : World} {b o : Nat} {z0 z1 z2 : Int} (h : OpAt w b o z0 z1 z2) (c : Cha (fun _ => False) w W) : OpAt W b o z0 z1 z2 := by
  refine ⟨fun j v hv => ?_, h.l1, h.l2, h.h1, h.h2⟩
  have h1 := h.cells j v hv
  have hb := block_lt_of_cell h1
  have e := c.old b hb (fun x => x)
  simpa [World.cell?, e] using h1
set_option maxRecDepth 100000 in
theorem three {t : TypeId} {f1 f2 f3 : Field} (ht : Tryz.prog.underlying t = some (.struct #[f1, f2, f3])) (e1 : f1.type = 3 ∧ f1.offset = 0) (e2 : f2.type = 3 ∧ f2.offset = 1) (e3 : f3.type = 3 ∧ f3.offset = 2) (hc : Tryz.prog.cellsOf t = 3)
    {fuel : Nat} {cs : List Value} {x : DataW H × List MemPlace} (h : DataW.trod enc Tryz.prog W base spare held fuel t cs = some x) :
    ∃ z0 z1 z2 : Int, cs = [.int .i64 z0, .int .i64 z1, .int .i64 z2] ∧ (Lit.int .i64 z1).wf = true ∧ (Lit.int .i64 z2).wf = true := by
  obtain ⟨xs, n, _, _, hl, hlen, hf⟩ := DataW.trod_struct ht h
  rw [hc] at hl
  match cs, hl, xs, hlen with
  | [c0, c1, c2], _, [y0, y1, y2], _ =>
    have g0 : DataW.trod enc Tryz.prog W base spare held n 3 [c0] = some y0 := by have := hf 0 _ rfl; simpa [e1.1, e1.2, cell1] using this
    have g1 : DataW.trod enc Tryz.prog W base spare held n 3 [c1] = some y1 := by have := hf 1 _ rfl; simpa [e2.1, e2.2, cell1] using this
    have g2 : DataW.trod enc Tryz.prog W base spare held n 3 [c2] = some y2 := by have := hf 2 _ rfl; simpa [e3.1, e3.2, cell1] using this
    obtain ⟨z0, q0, _, _⟩ := DataW.trod_int Tryz.underlying3 g0
    obtain ⟨z1, q1, _, w1⟩ := DataW.trod_int Tryz.underlying3 g1
    obtain ⟨z2, q2, _, w2⟩ := DataW.trod_int Tryz.underlying3 g2
    simp at q0 q1 q2
    exact ⟨z0, z1, z2, by rw [q0, q1, q2], w1, w2⟩

/-- A script that came in, whose elements take so many bytes. -/
def Script (W : World) (a : Option Addr) (len : Nat) : Prop := len ≤ 9223372036854775807 ∧
  (0 < len → ∃ (b o : Nat), a = some ⟨b, o, none⟩ ∧ ∀ i, i < len → ∃ z0 z1 z2, OpAt W b (o + i * 3) z0 z1 z2)
theorem script_of {s t : TypeId} (hs : Tryz.prog.underlying s = some (.slice t)) (hc3 : Tryz.prog.cellsOf t = 3)
    (h3 : ∀ (fuel : Nat) (cs : List Value) (x : DataW H × List MemPlace), DataW.trod enc Tryz.prog W base spare held fuel t cs = some x → ∃ z0 z1 z2 : Int, cs = [.int .i64 z0, .int .i64 z1, .int .i64 z2] ∧ (Lit.int .i64 z1).wf = true ∧ (Lit.int .i64 z2).wf = true)
    {fuel : Nat} {a : Option Addr} {len c : Nat} {x : DataW H × List MemPlace}
    (h : DataW.trod enc Tryz.prog W base spare held fuel s (Value.slice a len c).cells.toList = some x) : Script W a len := by
  rcases DataW.trod_slice hs h with ⟨hcs, _⟩ | ⟨a', len', cap', elems, rest, n, _, hcs, _, hb, hl, hm, hlen, hel, _⟩
  · simp [Value.cells] at hcs
    obtain ⟨rfl, rfl, rfl⟩ := hcs
    exact ⟨by omega, fun h => absurd h (by omega)⟩
  · simp [Value.cells] at hcs
    obtain ⟨rfl, rfl, rfl⟩ := hcs
    unfold maxLen at hm
    rw [hc3] at hel
    have each : ∀ i, i < len → ∃ cs y, W.cells? base (a'.add (i * 3)) 3 = some cs ∧ DataW.trod enc Tryz.prog W base spare held n t cs = some y := fun i hi => by
      have h1 := hel i hi
      rw [List.getElem?_eq_getElem (by omega), Option.bind_eq_some_iff] at h1
      obtain ⟨cs, h2, h3⟩ := h1
      exact ⟨cs, _, h2, h3⟩
    refine ⟨by omega, fun hn => ?_⟩
    obtain ⟨b, o, s⟩ := a'
    have hs : s = none := by
      obtain ⟨cs, y, h2, k3⟩ := each 0 hn
      obtain ⟨z0, z1, z2, rfl, _⟩ := h3 _ _ _ k3
      have h4 := (World.cells?_some h2).2.2 0 (by omega)
      cases s with
      | none => rfl
      | some q =>
        have e : ((⟨b, o, some q⟩ : Addr).add (0 * 3)).add 0 = ⟨b, o, some q⟩ := by simp [Addr.add]
        rw [e] at h4
        unfold World.cell? at h4
        split at h4
        · simp at h4
        · cases h4
    subst hs
    refine ⟨b, o, rfl, fun i hi => ?_⟩
    obtain ⟨cs, y, h2, k3⟩ := each i hi
    obtain ⟨z0, z1, z2, rfl, w1, w2⟩ := h3 _ _ _ k3
    refine ⟨z0, z1, z2, ⟨fun j v hv => ?_, i64_lo w1, i64_lo w2, i64_hi w1, i64_hi w2⟩⟩
    have hj : j < 3 := by
      by_cases c : j < 3
      · exact c
      · rw [List.getElem?_eq_none (by simp; omega)] at hv; cases hv
    have h4 := (World.cells?_some h2).2.2 j hj
    rw [Addr.add_mid, Addr.add_mid] at h4
    rw [h4]
    exact hv
end
theorem same_of_cha {W W' : World} (h : Cha (fun _ => False) W W') {p : MemPlace} (hp : p.block < W.heap.size) : W.sameAt W' p := by
  have e := h.old _ hp (fun x => x)
  cases p with
  | cell b o => show W'.cell? ⟨b, o, none⟩ = W.cell? ⟨b, o, none⟩; have e : W'.heap[b]? = W.heap[b]? := e; simp [World.cell?, e]
  | map b => exact e
theorem stays_cha {H : Type} {enc : TypeId × Value → H} {W W' : World} {sp : Nat → Bool} {t : TypeId} {v : Value} {d : DataW H} {ps : List MemPlace} (hr : Tryz.prog.readableRec t = true) (hrow : t < Tryz.prog.types.size)
    (h : DataW.Trod enc Tryz.prog W 0 (fun _ => true) true t v d ps) (hg : Cha (fun _ => False) W W') (hb : ∀ p ∈ ps, p.block < W.heap.size) (hsp : ∀ p ∈ ps, sp p.block = true) : DataW.Trod enc Tryz.prog W' 0 sp true t v d ps :=
  WideElems.Trod_stays laidOut hr hrow h (fun p hp => same_of_cha hg (hb p hp)) hsp
/-- A slice of bytes that came in, and its room. -/
def NumsC (k : IntKind) (W : World) (a : Option Addr) (n c : Nat) : Prop := n ≤ c ∧ c ≤ 9223372036854775807 ∧ Nums k W a n
theorem numsC_of {H : Type} {enc : TypeId × Value → H} {W : World} {base : Nat} {spare : Nat → Bool} {held : Bool} {t e : TypeId} {k : IntKind} {fuel : Nat} {a : Option Addr} {n c : Nat} {x : DataW H × List MemPlace}
    (ht : Tryz.prog.underlying t = some (.slice e)) (he : Tryz.prog.underlying e = some (.int k)) (hc : Tryz.prog.cellsOf e = 1) (hsp : ∀ b, spare b = true)
    (h : DataW.trod enc Tryz.prog W base spare held fuel t (Value.slice a n c).cells.toList = some x) : NumsC k W a n c := by
  refine ⟨?_, ?_, nums_of ht he hc hsp h⟩
  all_goals
    rcases open_ints ht he hc h with ⟨hcs, hx⟩ | ⟨a', len', cap', zs, hcs, hb, hl, hm, hz, hx, hcell, hwz⟩
    · simp [Value.cells] at hcs
      obtain ⟨rfl, rfl, rfl⟩ := hcs
      omega
    · simp [Value.cells] at hcs
      obtain ⟨rfl, rfl, rfl⟩ := hcs
      unfold maxLen at hm
      omega

theorem script_size {H : Type} {enc : TypeId × Value → H} {W : World} {base : Nat} {spare : Nat → Bool} {held : Bool} {s t : TypeId} (hs : Tryz.prog.underlying s = some (.slice t)) {fuel : Nat} {a : Option Addr} {len c : Nat} {d : DataW H} {ps : List MemPlace}
    (h : DataW.trod enc Tryz.prog W base spare held fuel s (Value.slice a len c).cells.toList = some (d, ps)) : len = 0 ∨ ∃ el sp, d = .slice el sp ∧ el.length = len := by
  rcases DataW.trod_slice hs h with ⟨hcs, _⟩ | ⟨a', len', cap', elems, rest, n, _, hcs, hx, hb, hl, hm, hlen, hel, _⟩
  · simp [Value.cells] at hcs
    exact .inl hcs.2.1
  · simp [Value.cells] at hcs
    obtain ⟨rfl, rfl, rfl⟩ := hcs
    cases hx
    exact .inr ⟨_, _, rfl, by rw [List.length_map]; exact hlen⟩
end Go.Proofs.YtaloafihbdamiaaGreat
