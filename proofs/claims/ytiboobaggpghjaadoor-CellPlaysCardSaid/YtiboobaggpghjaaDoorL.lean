/- The statements' runs. -/
import Derived.Test.YtiboobaggpghjaaDoorJ
import Derived.Test.YtiboobaggpghjaaDoorH
import Derived.Maps.AppendAt
namespace Go.Proofs.YtiboobaggpghjaaDoor
open Go.RowKit Go.Shelf
attribute [local go_sem] Oper.semAt_some

theorem own_keep {W W' : World} {B k size : Nat} {t : TypeId} {v : Value} {xs : List Value} (h : W.ownsRow B t size v k xs) (hk : ∀ (b : Nat) (c : Array Value) (t : TypeId) (z : Nat × Nat), W.heap[b]? = some (.cells c t z) → W'.heap[b]? = W.heap[b]?) : W'.ownsRow B t size v k xs := by
  obtain ⟨h0, h | ⟨g, cap, cur, h1, hg, h2, h3⟩⟩ := h
  · exact ⟨h0, .inl h⟩
  · exact ⟨h0, .inr ⟨g, cap, cur, h1, hg, (hk _ _ _ _ h2).trans h2, h3⟩⟩
end Go.Proofs.YtiboobaggpghjaaDoor
