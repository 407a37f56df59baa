/- Lists of rows in memory; the document's Runs. -/
import Derived.Test.YtiboobaggpghjaaDoorI
namespace Go.Proofs.YtiboobaggpghjaaDoor
open Go.ChangeShapes Go.WideShapes Go.ChangeAt Go.RowKit

theorem owns_cha {w w' : World} {B n size : Nat} {t : TypeId} {v : Value} {xs : List Value} {S : Nat → Prop} (h : w.ownsRow B t size v n xs) (c : Cha S w w') (hs : ∀ i, B ≤ i → ¬ S i) : w'.ownsRow B t size v n xs := by
  obtain ⟨h0, h | ⟨g, cap, cur, h1, hg, h2, h3⟩⟩ := h
  · exact ⟨h0, .inl h⟩
  · have hl : g < w.heap.size := by
      by_cases hl : g < w.heap.size
      · exact hl
      · rw [Array.getElem?_eq_none (by omega)] at h2; cases h2
    exact ⟨h0, .inr ⟨g, cap, cur, h1, hg, (c.old g hl (hs g hg)).trans h2, h3⟩⟩
theorem own_base {w : World} {B n size : Nat} {t : TypeId} {v : Value} {xs : List Value} (h : w.ownsRow B t size v n xs) : ∀ k, v.ownBlock = some k → B ≤ k := fun k hk => (h.lt k hk).1

variable {w : World} {bm bp n : Nat} {us : Nat → Bool}
end Go.Proofs.YtiboobaggpghjaaDoor
