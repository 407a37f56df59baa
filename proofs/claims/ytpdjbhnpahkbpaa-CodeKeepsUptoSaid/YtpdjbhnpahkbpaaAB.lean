/- Arguments: bytes; what stays. -/
import Derived.Test.YtpdjbhnpahkbpaaX
namespace Go.Proofs.Ytpdjbhnpahkbpaa
open Go.ChangeShapes Go.WideShapes Go.ChangeAt Go.RowKit
theorem same_of_cha {W W' : World} (h : Cha (fun _ => False) W W') {p : MemPlace} (hp : p.block < W.heap.size) : W.sameAt W' p := by
  have e := h.old _ hp (fun x => x)
  cases p with
  | cell b o => show W'.cell? ⟨b, o, none⟩ = W.cell? ⟨b, o, none⟩; have e : W'.heap[b]? = W.heap[b]? := e; simp [World.cell?, e]
  | map b => exact e
theorem stays_cha {H : Type} {enc : TypeId × Value → H} {W W' : World} {sp : Nat → Bool} {t : TypeId} {v : Value} {d : DataW H} {ps : List MemPlace} (hr : Try.prog.readableRec t = true) (hrow : t < Try.prog.types.size)
    (h : DataW.Trod enc Try.prog W 0 (fun _ => true) true t v d ps) (hg : Cha (fun _ => False) W W') (hb : ∀ p ∈ ps, p.block < W.heap.size) (hsp : ∀ p ∈ ps, sp p.block = true) : DataW.Trod enc Try.prog W' 0 sp true t v d ps :=
  WideElems.Trod_stays laidOut hr hrow h (fun p hp => same_of_cha hg (hb p hp)) hsp
section
variable {H : Type} {enc : TypeId × Value → H} {W : World} {base : Nat} {spare : Nat → Bool} {held : Bool}
theorem byte_elem {fuel : Nat} {cs : List Value} {x : DataW H × List MemPlace} (h : DataW.trod enc Try.prog W base spare held fuel 5 cs = some x) :
    cs.length = 1 ∧ ∃ y : Nat, ∀ b o, (∀ (j : Nat) (v : Value), cs[j]? = some v → W.cell? ⟨b, o + j, none⟩ = some v) → RdU8 (· < W.heap.size) W b o y := by
  obtain ⟨z, rfl, _, w⟩ := DataW.trod_int Try.underlying5 h
  have g1 := u8_lo w
  have g2 := u8_hi w
  refine ⟨rfl, z.toNat, fun b o hc => ⟨?_, by omega⟩⟩
  rw [Int.toNat_of_nonneg g1]
  exact hc 0 _ rfl
theorem text_of {fuel : Nat} {a : Option Addr} {len c : Nat} {x : DataW H × List MemPlace} (h : DataW.trod enc Try.prog W base spare held fuel 27 (Value.slice a len c).cells.toList = some x) : ∃ T, HasT W a len c T := by
  obtain ⟨T, hl, hT⟩ := rds_of Try.underlying27 cell5 (by omega) (fun _ _ _ h => byte_elem h) h
  refine ⟨T, hT, hl, ?_⟩
  rcases DataW.trod_slice Try.underlying27 h with ⟨hcs, _⟩ | ⟨a', len', cap', elems, rest, n, _, hcs, _, hb, hl, hm, _⟩
  · simp [Value.cells] at hcs
    omega
  · simp [Value.cells] at hcs
    omega
set_option maxRecDepth 100000 in
theorem prog_arg {r : Reach} {b0 fuel : Nat} {v : Value} {x : DataW H × List MemPlace} (hv : Value.okWide Try.prog W r b0 26 v) (h : DataW.trod enc Try.prog W base spare held fuel 26 v.cells.toList = some x) : ∃ v0 v1 v2, v = .agg #[v0, v1, v2] ∧ ∃ p, HasP W (.agg #[v0, v1, v2]) p := by
  obtain ⟨p, hp⟩ := prog_of hv h
  have hp' := hp
  obtain ⟨v0, v1, v2, rfl, _⟩ := hp'
  exact ⟨v0, v1, v2, rfl, p, hp⟩
end
end Go.Proofs.Ytpdjbhnpahkbpaa
