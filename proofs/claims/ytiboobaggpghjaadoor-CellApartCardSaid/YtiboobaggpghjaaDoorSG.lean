/- The statements' all. -/
import Derived.Test.YtiboobaggpghjaaDoorSF
import Derived.Maps.AppendAt
namespace Go.Proofs.YtiboobaggpghjaaDoor
open Go.RowKit Go.Shelf
attribute [local go_sem] Oper.semAt_some

/-- A list of spans as cells. -/
def scs (l : List Spn) : List Value := l.flatMap fun s => [.int .i64 (s.b : Int), .int .i64 (s.k : Int), .int .i64 s.t]
theorem scs_snoc (l : List Spn) (s : Spn) : scs (l ++ [s]) = scs l ++ [.int .i64 (s.b : Int), .int .i64 (s.k : Int), .int .i64 s.t] := by simp [scs]
theorem three_new (w : World) (x y z : Value) (t : TypeId) : ∀ j u, ([x, y, z] : List Value)[j]? = some u → (w.alloc (.cells #[x, y, z] t)).cell? ((⟨w.heap.size, 0, none⟩ : Addr).add j) = some u := by
  intro j u h
  have e : ∀ j, (⟨w.heap.size, 0, none⟩ : Addr).add j = ⟨w.heap.size, j, none⟩ := fun j => by unfold Addr.add; split <;> simp_all
  rw [e, World.cell?_alloc_new]
  match j, h with
  | 0, h => simpa using h
  | 1, h => simpa using h
  | 2, h => simpa using h
  | j + 3, h => simp at h
theorem three_cell (x y z : Int) : ∀ u ∈ ([.int .i64 x, .int .i64 y, .int .i64 z] : List Value), u.oneCell' = true := fun u h => by
  simp at h; rcases h with rfl | rfl | rfl <;> rfl
def BoxS (W : World) (Bx : Nat) (x : Spn) : Prop := W.heap[Bx]? = some (.cells #[.int .i64 (x.b : Int), .int .i64 (x.k : Int), .int .i64 x.t] 78 (0, 0))

end Go.Proofs.YtiboobaggpghjaaDoor
