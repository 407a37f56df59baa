/- Arguments that are slices: how they are opened. -/
import Derived.Test.YtbkpbineagfbgaaB
import Derived.WalkKit
import Derived.ProofKit
import Derived.OpenShut
import Derived.ChangeSame
import Derived.JoinedOf
import Derived.JoinedAt
import Derived.RowKit3
import Derived.ReadAgain
import Derived.Laws.IdiomElems
import Derived.Laws.IdiomAt
import Derived.RowKit2
import Derived.ChangeSlices
import Derived.Carry
import Derived.Test.YtbkpbineagfbgaaP
namespace Go.Proofs.Ytbkpbineagfbgaa
open Go.ChangeShapes Go.WideShapes Go.ChangeAt Go.RowKit

theorem cells5 : Try.prog.cellsOf 5 = 1 := by kernel_rfl
theorem cells42 : Try.prog.cellsOf 42 = 1 := by kernel_rfl
theorem kids : Kids Try.prog (· < Try.prog.types.size) := kids_rows (by kernel_rfl) (by kernel_rfl)
theorem full : ∀ t e, t < Try.prog.types.size → Try.prog.underlying t = some (.slice e) → 0 < Try.prog.cellsOf e := slices_full_of Try.prog (by kernel_rfl)

/-- A slice of numbers that came in. -/
def Nums (k : IntKind) (W : World) (v : Value) : Prop := ∃ (a : Option Addr) (n c : Nat), v = .slice a n c ∧ n ≤ 9223372036854775807 ∧
  (0 < n → ∃ (b o : Nat) (z : Nat → Int), a = some ⟨b, o, none⟩ ∧ ∀ i, i < n → W.cell? ⟨b, o + i, none⟩ = some (.int k (z i)) ∧ (Lit.int k (z i)).wf = true)
theorem nums_of {H : Type} {enc : TypeId × Value → H} {W : World} {base : Nat} {spare : Nat → Bool} {held : Bool} {t e : TypeId} {k : IntKind} {fuel : Nat} {a : Option Addr} {n c : Nat} {x : DataW H × List MemPlace}
    (ht : Try.prog.underlying t = some (.slice e)) (he : Try.prog.underlying e = some (.int k)) (hc : Try.prog.cellsOf e = 1) (hsp : ∀ b, spare b = true)
    (h : DataW.trod enc Try.prog W base spare held fuel t (Value.slice a n c).cells.toList = some x) : Nums k W (.slice a n c) := by
  rcases open_ints ht he hc h with ⟨hcs, hx⟩ | ⟨a', len', cap', zs, hcs, hb, hl, hm, hz, hx, hcell, hwz⟩
  · simp [Value.cells] at hcs
    obtain ⟨rfl, rfl, rfl⟩ := hcs
    exact ⟨_, _, _, rfl, by omega, fun h => absurd h (by omega)⟩
  · simp [Value.cells] at hcs
    obtain ⟨rfl, rfl, rfl⟩ := hcs
    unfold maxLen at hm
    refine ⟨_, _, _, rfl, by omega, fun hn => ?_⟩
    have hlen : n ≤ zs.length := by rw [hz, hsp]; simpa using hl
    obtain ⟨b, o, s⟩ := a'
    have hs : s = none := by
      have h0 := hcell 0 (by omega)
      cases s with
      | none => rfl
      | some y =>
        have e : (⟨b, o, some y⟩ : Addr).add 0 = ⟨b, o, some y⟩ := by simp [Addr.add]
        rw [e] at h0
        unfold World.cell? at h0
        split at h0
        · simp at h0
        · cases h0
    subst hs
    refine ⟨b, o, fun i => zs.getD i 0, rfl, fun i hi => ?_⟩
    have h1 := hcell i (by omega)
    have e : (⟨b, o, none⟩ : Addr).add i = ⟨b, o + i, none⟩ := by unfold Addr.add; split <;> simp_all
    rw [e] at h1
    refine ⟨h1, hwz _ ?_⟩
    show zs.getD i 0 ∈ zs
    have h2 : zs.getD i 0 = zs[i] := by simp [List.getD, show i < zs.length by omega]
    rw [h2]
    exact List.getElem_mem _

theorem laidOut : laidOutB Try.prog = true := by kernel_rfl
theorem same_of_grown {W W' : World} (h : Grown W W') {p : MemPlace} (hp : p.block < W.heap.size) : W.sameAt W' p := by
  have e := keptBut_heap h.1 hp
  cases p with
  | cell b o => show W'.cell? ⟨b, o, none⟩ = W.cell? ⟨b, o, none⟩; have e : W'.heap[b]? = W.heap[b]? := e; simp [World.cell?, e]
  | map b => exact e
/-- An argument reads behind the call as it read before. -/
theorem stays {H : Type} {enc : TypeId × Value → H} {W W' : World} {sp : Nat → Bool} {t : TypeId} {v : Value} {d : DataW H} {ps before : List MemPlace} (hr : Try.prog.readableRec t = true) (hrow : t < Try.prog.types.size)
    (h : DataW.Trod enc Try.prog W 0 (fun _ => true) true t v d ps) (hg : Grown W W') (hb : ∀ p ∈ before, p.block < W.heap.size) (hps : ∀ p ∈ ps, p ∈ before) (hsp : ∀ p ∈ before, sp p.block = true) : DataW.Trod enc Try.prog W' 0 sp true t v d ps :=
  WideElems.Trod_stays laidOut hr hrow h (fun p hp => same_of_grown hg (hb p (hps p hp))) (fun p hp => hsp p (hps p hp))
end Go.Proofs.Ytbkpbineagfbgaa
