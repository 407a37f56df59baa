/- Layer 4's calls on a map that a law itself has made; awake; PagesFixed. -/
import Derived.Test.YtiboobaggpghjaaDoorL
namespace Go.Proofs.YtiboobaggpghjaaDoor
open Go.ChangeShapes Go.WideShapes Go.ChangeAt Go.RowKit

theorem alloc_says {w : World} {bm bp n : Nat} {us us' : Nat → Bool} {k b r : Int} (c : Alc n us k b r us') (hk2 : k ≤ 9223372036854775807) (h : Pg 113 w bm bp n us) :
    Calls Tryd.prog 69 #[.pointer (some ⟨bm, 0, none⟩), .int .i64 k] w (Says 113 bm bp n us' w (.tuple #[.int .i64 b, .int .i64 r])) := by
  refine (alloc_any k w h hk2).mono ?_
  rintro e w' (⟨h1, h2, h3⟩ | ⟨h1, h2, h3, h4⟩ | ⟨h1, x, h2, h3, h4, h5⟩)
  · cases c with
    | arg _ => exact ⟨h2, h.same h3, h3.wide⟩
    | full g _ => omega
    | ok x g _ => omega
  · cases c with
    | arg _ => omega
    | full g _ => exact ⟨h3, h.same h4, h4.wide⟩
    | ok x g g2 => rw [g2] at h2; cases h2
  · cases c with
    | arg _ => omega
    | full g g2 => rw [g2] at h2; cases h2
    | ok y g g2 => rw [g2] at h2; cases h2; exact ⟨h3, h4, h5⟩

variable {w W : World} {bm bp n : Nat} {us us' : Nat → Bool}
/-! ### PagesFixed -/
end Go.Proofs.YtiboobaggpghjaaDoor
