/- A slice of numbers that came in lies within its room; lists that get shorter. -/
import Derived.Test.YtgglcfmnhiakcaaR
namespace Go.Proofs.Ytgglcfmnhiakcaa
open Go.ChangeShapes Go.WideShapes Go.ChangeAt Go.RowKit

/-- A slice of bytes that came in, and its room. -/
def NumsC (k : IntKind) (W : World) (a : Option Addr) (n c : Nat) : Prop := n ≤ c ∧ c ≤ 9223372036854775807 ∧ Nums k W a n
theorem numsC_of {H : Type} {enc : TypeId × Value → H} {W : World} {base : Nat} {spare : Nat → Bool} {held : Bool} {t e : TypeId} {k : IntKind} {fuel : Nat} {a : Option Addr} {n c : Nat} {x : DataW H × List MemPlace}
    (ht : Try.prog.underlying t = some (.slice e)) (he : Try.prog.underlying e = some (.int k)) (hc : Try.prog.cellsOf e = 1) (hsp : ∀ b, spare b = true)
    (h : DataW.trod enc Try.prog W base spare held fuel t (Value.slice a n c).cells.toList = some x) : NumsC k W a n c := by
  refine ⟨?_, ?_, nums_of ht he hc hsp h⟩
  all_goals
    rcases open_ints ht he hc h with ⟨hcs, hx⟩ | ⟨a', len', cap', zs, hcs, hb, hl, hm, hz, hx, hcell, hwz⟩
    · simp [Value.cells] at hcs
      obtain ⟨rfl, rfl, rfl⟩ := hcs
      omega
    · simp [Value.cells] at hcs
      obtain ⟨rfl, rfl, rfl⟩ := hcs
      unfold maxLen at hm
      omega

/-- m ints at the beginning of a block. -/
structure Arr (W : World) (g c m : Nat) (A : Nat → Nat) : Prop where
  row : ∃ cur : Array Value, W.heap[g]? = some (.cells cur 3 (0, 0)) ∧ cur.size = c ∧ ∀ i, i < m → cur[i]? = some (.int .i64 (A i : Int))
  le : m ≤ c
variable {W W' : World} {g c m : Nat} {A : Nat → Nat}
theorem Arr.cell (h : Arr W g c m A) {i : Nat} (hi : i < m) : W.cell? ⟨g, i, none⟩ = some (.int .i64 (A i : Int)) := by
  obtain ⟨cur, h1, _, h3⟩ := h.row
  rw [cell_of_row W g i _ 3 (0, 0) h1, h3 i hi]
theorem Arr.free (h : Arr W g c m A) (i : Nat) : W.frozen? ⟨g, i, none⟩ = false := by
  obtain ⟨cur, h1, _⟩ := h.row
  exact frozen_of_row W g i _ 3 h1
theorem Arr.lt (h : Arr W g c m A) : g < W.heap.size := by
  obtain ⟨cur, h1, _⟩ := h.row
  exact (Array.getElem?_eq_some_iff.1 h1).1
theorem Arr.of (h : Arr W g c m A) (e : W'.heap[g]? = W.heap[g]?) : Arr W' g c m A := by
  obtain ⟨cur, h1, h2, h3⟩ := h.row
  exact ⟨⟨cur, e.trans h1, h2, h3⟩, h.le⟩
theorem Arr.cha {S : Nat → Prop} (h : Arr W g c m A) (k : Cha S W W') (hs : ¬ S g) : Arr W' g c m A := h.of (k.old g h.lt hs)
theorem Arr.drop (h : Arr W g c (m + 1) A) {j : Nat} (hj : j < m + 1) : Arr (W.setCell ⟨g, j, none⟩ (.int .i64 (A m : Int))) g c m (put A j m) := by
  obtain ⟨cur, h1, h2, h3⟩ := h.row
  refine ⟨⟨_, heap_setCell_same W g j _ 3 _ h1, by simp [h2], fun i hi => ?_⟩, by have := h.le; omega⟩
  have hs := h.le
  rw [Array.getElem?_setIfInBounds]
  unfold put
  by_cases e : j = i
  · rw [if_pos e, if_pos (by omega), if_pos e.symm]
  · have e2 : ¬ i = j := fun x => e x.symm
    rw [if_neg e, if_neg e2]; exact h3 i (by omega)
theorem arr_of_own {W : World} {B m : Nat} {a : Option Addr} {c : Nat} {A : Nat → Nat} (h : W.ownsRow B 3 1 (.slice a m c) m (ils A m)) (hm : 0 < m) : ∃ g, a = some ⟨g, 0, none⟩ ∧ B ≤ g ∧ c ≤ maxLen ∧ Arr W g c m A := by
  rcases h.2 with ⟨h1, h0⟩ | ⟨g, cap, cur, h1, hb, hg, hnc, hcm, hcs, ht⟩
  · omega
  · cases h1
    refine ⟨g, rfl, hb, hcm, ⟨cur, hg, by omega, fun i hi => ?_⟩, hnc⟩
    have e : (cur.toList.take (m * 1))[i]? = cur.toList[i]? := by rw [List.getElem?_take, if_pos (by omega)]
    rw [← Array.getElem?_toList, ← e, ht]
    unfold ils
    simp [hi]
end Go.Proofs.Ytgglcfmnhiakcaa
