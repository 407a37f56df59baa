/-
  No cell of these rows narrows 'for every input' (looked for: loops, veiled, ifaces, maps, wideKeys, modest, calm, conditions, laid).
  DERIVED. THE GIVEN ROWS OF THIS SEAT. 10 by the template 'for every input the law returns true; each argument reads behind the call as it read before'; 0 by the template 'total and deterministic' (their statements: YtlpgfdphoiideaaTotals.lean).
  GIVEN WITH THE SEED: the statements are not yours to turn. If you find one false, say at which input.
  Laid BY PROGRAM, IN A SANDBOX (cutbox-rows.mjs): the forced cells as the released guide's own fill.sh prints them over the translation dc6ddc733505bf21… (all of the seat's roots in one cut). By AI agents, Wed Nov 11 2026. No macro, syntax, notation, axiom, sorry.
-/
import Derived.Test.YtlpgfdphoiideaaChecked
import GoSem.Claim
import GoSem.ClaimJoined
import GoSem.ClaimMapViews
import Derived.JoinedTies
import Derived.KernelRfl
namespace Go.Proofs.Ytlpgfdphoiideaa
/- THE CELL 'sum', in the pinned program and in every row, IS THE sha256 OF THE DUMP (.gsa) THAT YtlpgfdphoiideaaProg.lean LOADS. Nothing in Lean hashes anything: it is a label: what it is worth is what the hold of that sum in a sandbox is worth. -/
noncomputable def Try.pinned : Pinned := { name := "ytlpgfdphoiideaa", sum := "dc6ddc733505bf21ecfe43ebd893e65e676b53324d241c1fdc15b5295c40c111", checked := Try.checked }
namespace Rows
def none {H : Type} : Left H := { results := [], args := [] }

/-- 'treadlelaw15.PacerPlays': WHATEVER THE INPUT: true; the input reads as it did. -/
def pacerPlaysSpec : ChangeSpec := { name := "pacerPlays", fn := fun _ => fun
  | [d1, d2, d3] => { results := [.lit (.bool true)], args := [d1, d2, d3] }
  | _ => none }
def pacerPlaysRow : OpenClaim := { program := "ytlpgfdphoiideaa", sum := "dc6ddc733505bf21ecfe43ebd893e65e676b53324d241c1fdc15b5295c40c111", func := "treadle/treadlelaw15.PacerPlays", spec := "pacerPlays", inPlace := ["math/bits.Add64"], named := ["math/bits.divideError", "math/bits.overflowError"], apart := false }
def PacerPlaysSaid : Prop := pacerPlaysRow.holds Try.pinned (OpenSpec.ofChange pacerPlaysSpec)

/-- ITS FALSE NEIGHBOUR: 'it returns false'. Refute it at one input. -/
def pacerPlaysWrong : ChangeSpec := { name := "pacerPlays", fn := fun _ => fun
  | [d1, d2, d3] => { results := [.lit (.bool false)], args := [d1, d2, d3] }
  | _ => none }
def PacerPlaysWrongFalsely : Prop := pacerPlaysRow.holds Try.pinned (OpenSpec.ofChange pacerPlaysWrong)

/-- 'treadlelaw15.PacerBounds': WHATEVER THE INPUT: true; the input reads as it did. -/
def pacerBoundsSpec : ChangeSpec := { name := "pacerBounds", fn := fun _ => fun
  | [d1, d2, d3, d4] => { results := [.lit (.bool true)], args := [d1, d2, d3, d4] }
  | _ => none }
def pacerBoundsRow : OpenClaim := { program := "ytlpgfdphoiideaa", sum := "dc6ddc733505bf21ecfe43ebd893e65e676b53324d241c1fdc15b5295c40c111", func := "treadle/treadlelaw15.PacerBounds", spec := "pacerBounds", inPlace := ["math/bits.Add64"], named := ["math/bits.divideError", "math/bits.overflowError"], apart := false }
def PacerBoundsSaid : Prop := pacerBoundsRow.holds Try.pinned (OpenSpec.ofChange pacerBoundsSpec)

/-- ITS FALSE NEIGHBOUR: 'it returns false'. Refute it at one input. -/
def pacerBoundsWrong : ChangeSpec := { name := "pacerBounds", fn := fun _ => fun
  | [d1, d2, d3, d4] => { results := [.lit (.bool false)], args := [d1, d2, d3, d4] }
  | _ => none }
def PacerBoundsWrongFalsely : Prop := pacerBoundsRow.holds Try.pinned (OpenSpec.ofChange pacerBoundsWrong)

/-- 'treadlelaw15.PacerEnough': WHATEVER THE INPUT: true; the input reads as it did. -/
def pacerEnoughSpec : ChangeSpec := { name := "pacerEnough", fn := fun _ => fun
  | [d1, d2, d3] => { results := [.lit (.bool true)], args := [d1, d2, d3] }
  | _ => none }
def pacerEnoughRow : OpenClaim := { program := "ytlpgfdphoiideaa", sum := "dc6ddc733505bf21ecfe43ebd893e65e676b53324d241c1fdc15b5295c40c111", func := "treadle/treadlelaw15.PacerEnough", spec := "pacerEnough", inPlace := ["math/bits.Add64"], named := ["math/bits.divideError", "math/bits.overflowError"], apart := false }
def PacerEnoughSaid : Prop := pacerEnoughRow.holds Try.pinned (OpenSpec.ofChange pacerEnoughSpec)

/-- ITS FALSE NEIGHBOUR: 'it returns false'. Refute it at one input. -/
def pacerEnoughWrong : ChangeSpec := { name := "pacerEnough", fn := fun _ => fun
  | [d1, d2, d3] => { results := [.lit (.bool false)], args := [d1, d2, d3] }
  | _ => none }
def PacerEnoughWrongFalsely : Prop := pacerEnoughRow.holds Try.pinned (OpenSpec.ofChange pacerEnoughWrong)

/-- 'treadlelaw15.PacerNone': WHATEVER THE INPUT: true; the input reads as it did. -/
def pacerNoneSpec : ChangeSpec := { name := "pacerNone", fn := fun _ => fun
  | [d] => { results := [.lit (.bool true)], args := [d] }
  | _ => none }
def pacerNoneRow : OpenClaim := { program := "ytlpgfdphoiideaa", sum := "dc6ddc733505bf21ecfe43ebd893e65e676b53324d241c1fdc15b5295c40c111", func := "treadle/treadlelaw15.PacerNone", spec := "pacerNone", inPlace := ["math/bits.Add64"], named := ["math/bits.divideError", "math/bits.overflowError"], apart := false }
def PacerNoneSaid : Prop := pacerNoneRow.holds Try.pinned (OpenSpec.ofChange pacerNoneSpec)

/-- ITS FALSE NEIGHBOUR: 'it returns false'. Refute it at one input. -/
def pacerNoneWrong : ChangeSpec := { name := "pacerNone", fn := fun _ => fun
  | [d] => { results := [.lit (.bool false)], args := [d] }
  | _ => none }
def PacerNoneWrongFalsely : Prop := pacerNoneRow.holds Try.pinned (OpenSpec.ofChange pacerNoneWrong)

/-- 'treadlelaw15.PacerHeap': WHATEVER THE INPUT: true; the input reads as it did. -/
def pacerHeapSpec : ChangeSpec := { name := "pacerHeap", fn := fun _ => fun
  | [d1, d2] => { results := [.lit (.bool true)], args := [d1, d2] }
  | _ => none }
def pacerHeapRow : OpenClaim := { program := "ytlpgfdphoiideaa", sum := "dc6ddc733505bf21ecfe43ebd893e65e676b53324d241c1fdc15b5295c40c111", func := "treadle/treadlelaw15.PacerHeap", spec := "pacerHeap", inPlace := ["math/bits.Add64"], named := ["math/bits.divideError", "math/bits.overflowError"], apart := false }
def PacerHeapSaid : Prop := pacerHeapRow.holds Try.pinned (OpenSpec.ofChange pacerHeapSpec)

/-- ITS FALSE NEIGHBOUR: 'it returns false'. Refute it at one input. -/
def pacerHeapWrong : ChangeSpec := { name := "pacerHeap", fn := fun _ => fun
  | [d1, d2] => { results := [.lit (.bool false)], args := [d1, d2] }
  | _ => none }
def PacerHeapWrongFalsely : Prop := pacerHeapRow.holds Try.pinned (OpenSpec.ofChange pacerHeapWrong)

/-- 'treadlelaw15.PacerFixed': WHATEVER THE INPUT: true; the input reads as it did. -/
def pacerFixedSpec : ChangeSpec := { name := "pacerFixed", fn := fun _ => fun
  | [] => { results := [.lit (.bool true)], args := [] }
  | _ => none }
def pacerFixedRow : OpenClaim := { program := "ytlpgfdphoiideaa", sum := "dc6ddc733505bf21ecfe43ebd893e65e676b53324d241c1fdc15b5295c40c111", func := "treadle/treadlelaw15.PacerFixed", spec := "pacerFixed", inPlace := ["math/bits.Add64"], named := ["math/bits.divideError", "math/bits.overflowError"], apart := false }
def PacerFixedSaid : Prop := pacerFixedRow.holds Try.pinned (OpenSpec.ofChange pacerFixedSpec)

/-- ITS FALSE NEIGHBOUR: 'it returns false'. Refute it at one input. -/
def pacerFixedWrong : ChangeSpec := { name := "pacerFixed", fn := fun _ => fun
  | [] => { results := [.lit (.bool false)], args := [] }
  | _ => none }
def PacerFixedWrongFalsely : Prop := pacerFixedRow.holds Try.pinned (OpenSpec.ofChange pacerFixedWrong)

/-- 'treadlelaw16.ScavPlays': WHATEVER THE INPUT: true; the input reads as it did. -/
def scavPlaysSpec : ChangeSpec := { name := "scavPlays", fn := fun _ => fun
  | [d1, d2] => { results := [.lit (.bool true)], args := [d1, d2] }
  | _ => none }
def scavPlaysRow : OpenClaim := { program := "ytlpgfdphoiideaa", sum := "dc6ddc733505bf21ecfe43ebd893e65e676b53324d241c1fdc15b5295c40c111", func := "treadle/treadlelaw16.ScavPlays", spec := "scavPlays", apart := false }
def ScavPlaysSaid : Prop := scavPlaysRow.holds Try.pinned (OpenSpec.ofChange scavPlaysSpec)

/-- ITS FALSE NEIGHBOUR: 'it returns false'. Refute it at one input. -/
def scavPlaysWrong : ChangeSpec := { name := "scavPlays", fn := fun _ => fun
  | [d1, d2] => { results := [.lit (.bool false)], args := [d1, d2] }
  | _ => none }
def ScavPlaysWrongFalsely : Prop := scavPlaysRow.holds Try.pinned (OpenSpec.ofChange scavPlaysWrong)

/-- 'treadlelaw16.ScavLast': WHATEVER THE INPUT: true; the input reads as it did. -/
def scavLastSpec : ChangeSpec := { name := "scavLast", fn := fun _ => fun
  | [d1, d2] => { results := [.lit (.bool true)], args := [d1, d2] }
  | _ => none }
def scavLastRow : OpenClaim := { program := "ytlpgfdphoiideaa", sum := "dc6ddc733505bf21ecfe43ebd893e65e676b53324d241c1fdc15b5295c40c111", func := "treadle/treadlelaw16.ScavLast", spec := "scavLast", apart := false }
def ScavLastSaid : Prop := scavLastRow.holds Try.pinned (OpenSpec.ofChange scavLastSpec)

/-- ITS FALSE NEIGHBOUR: 'it returns false'. Refute it at one input. -/
def scavLastWrong : ChangeSpec := { name := "scavLast", fn := fun _ => fun
  | [d1, d2] => { results := [.lit (.bool false)], args := [d1, d2] }
  | _ => none }
def ScavLastWrongFalsely : Prop := scavLastRow.holds Try.pinned (OpenSpec.ofChange scavLastWrong)

/-- 'treadlelaw16.ScavTurns': WHATEVER THE INPUT: true; the input reads as it did. -/
def scavTurnsSpec : ChangeSpec := { name := "scavTurns", fn := fun _ => fun
  | [d] => { results := [.lit (.bool true)], args := [d] }
  | _ => none }
def scavTurnsRow : OpenClaim := { program := "ytlpgfdphoiideaa", sum := "dc6ddc733505bf21ecfe43ebd893e65e676b53324d241c1fdc15b5295c40c111", func := "treadle/treadlelaw16.ScavTurns", spec := "scavTurns", apart := false }
def ScavTurnsSaid : Prop := scavTurnsRow.holds Try.pinned (OpenSpec.ofChange scavTurnsSpec)

/-- ITS FALSE NEIGHBOUR: 'it returns false'. Refute it at one input. -/
def scavTurnsWrong : ChangeSpec := { name := "scavTurns", fn := fun _ => fun
  | [d] => { results := [.lit (.bool false)], args := [d] }
  | _ => none }
def ScavTurnsWrongFalsely : Prop := scavTurnsRow.holds Try.pinned (OpenSpec.ofChange scavTurnsWrong)

/-- 'treadlelaw16.ScavFixed': WHATEVER THE INPUT: true; the input reads as it did. -/
def scavFixedSpec : ChangeSpec := { name := "scavFixed", fn := fun _ => fun
  | [] => { results := [.lit (.bool true)], args := [] }
  | _ => none }
def scavFixedRow : OpenClaim := { program := "ytlpgfdphoiideaa", sum := "dc6ddc733505bf21ecfe43ebd893e65e676b53324d241c1fdc15b5295c40c111", func := "treadle/treadlelaw16.ScavFixed", spec := "scavFixed", apart := false }
def ScavFixedSaid : Prop := scavFixedRow.holds Try.pinned (OpenSpec.ofChange scavFixedSpec)

/-- ITS FALSE NEIGHBOUR: 'it returns false'. Refute it at one input. -/
def scavFixedWrong : ChangeSpec := { name := "scavFixed", fn := fun _ => fun
  | [] => { results := [.lit (.bool false)], args := [] }
  | _ => none }
def ScavFixedWrongFalsely : Prop := scavFixedRow.holds Try.pinned (OpenSpec.ofChange scavFixedWrong)

/- THE SECOND FORM. 'bulk': how many values and letters a reading holds, each counted each time it is reached (what is shared counts as often as it is met; a slice's spare places count too). A statement '..UptoSaid' is the law's where the arguments, and the package variables that the reading takes, are together of bulk at most 1048576: NARROWER than '..Said'. Prove '..Said' where nothing that the law and all that it calls make is longer than what came in: it says more and counts as full. Else prove '..UptoSaid'. A law counts once. -/
mutual
def uptoBulk {H : Type} : DataW H → Nat
  | .lit (.string bytes) => bytes.length + 1
  | .lit _ => 1
  | .nil => 1
  | .ptr d => uptoBulk d + 1
  | .slice elems spare => uptoBulkAll elems + uptoBulkAll spare + 1
  | .agg parts => uptoBulkAll parts + 1
  | .iface _ d => uptoBulk d + 1
  | .map entries => uptoBulkEntries entries + 1
  | .held _ => 1
def uptoBulkAll {H : Type} : List (DataW H) → Nat
  | [] => 0
  | d :: r => uptoBulk d + uptoBulkAll r
def uptoBulkEntries {H : Type} : List (Lit × DataW H) → Nat
  | [] => 0
  | x :: r => uptoBulkEntry x + uptoBulkEntries r
def uptoBulkEntry {H : Type} : Lit × DataW H → Nat
  | (.string bytes, d) => bytes.length + uptoBulk d + 1
  | (_, d) => uptoBulk d + 1
 end
def uptoSmall : (H : Type) → List (DataW H) → Bool := fun _ ds => decide (uptoBulkAll ds ≤ 1048576)
def OpenSpec.upto (s : _root_.Go.ChangeSpec) : _root_.Go.OpenSpec := { _root_.Go.OpenSpec.ofChange s with cond := some uptoSmall }

/-- 'treadlelaw15.PacerPlays', WHERE WHAT IT READS IS OF BULK AT MOST 1048576: true; the input reads as it did. -/
def pacerPlaysUptoRow : OpenClaim := { program := "ytlpgfdphoiideaa", sum := "dc6ddc733505bf21ecfe43ebd893e65e676b53324d241c1fdc15b5295c40c111", func := "treadle/treadlelaw15.PacerPlays", spec := "pacerPlays", inPlace := ["math/bits.Add64"], named := ["math/bits.divideError", "math/bits.overflowError"], apart := false, narrowed := true }
def PacerPlaysUptoSaid : Prop := pacerPlaysUptoRow.holds Try.pinned (OpenSpec.upto pacerPlaysSpec)

/-- 'treadlelaw15.PacerBounds', WHERE WHAT IT READS IS OF BULK AT MOST 1048576: true; the input reads as it did. -/
def pacerBoundsUptoRow : OpenClaim := { program := "ytlpgfdphoiideaa", sum := "dc6ddc733505bf21ecfe43ebd893e65e676b53324d241c1fdc15b5295c40c111", func := "treadle/treadlelaw15.PacerBounds", spec := "pacerBounds", inPlace := ["math/bits.Add64"], named := ["math/bits.divideError", "math/bits.overflowError"], apart := false, narrowed := true }
def PacerBoundsUptoSaid : Prop := pacerBoundsUptoRow.holds Try.pinned (OpenSpec.upto pacerBoundsSpec)

/-- 'treadlelaw15.PacerEnough', WHERE WHAT IT READS IS OF BULK AT MOST 1048576: true; the input reads as it did. -/
def pacerEnoughUptoRow : OpenClaim := { program := "ytlpgfdphoiideaa", sum := "dc6ddc733505bf21ecfe43ebd893e65e676b53324d241c1fdc15b5295c40c111", func := "treadle/treadlelaw15.PacerEnough", spec := "pacerEnough", inPlace := ["math/bits.Add64"], named := ["math/bits.divideError", "math/bits.overflowError"], apart := false, narrowed := true }
def PacerEnoughUptoSaid : Prop := pacerEnoughUptoRow.holds Try.pinned (OpenSpec.upto pacerEnoughSpec)

/-- 'treadlelaw15.PacerNone', WHERE WHAT IT READS IS OF BULK AT MOST 1048576: true; the input reads as it did. -/
def pacerNoneUptoRow : OpenClaim := { program := "ytlpgfdphoiideaa", sum := "dc6ddc733505bf21ecfe43ebd893e65e676b53324d241c1fdc15b5295c40c111", func := "treadle/treadlelaw15.PacerNone", spec := "pacerNone", inPlace := ["math/bits.Add64"], named := ["math/bits.divideError", "math/bits.overflowError"], apart := false, narrowed := true }
def PacerNoneUptoSaid : Prop := pacerNoneUptoRow.holds Try.pinned (OpenSpec.upto pacerNoneSpec)

/-- 'treadlelaw15.PacerHeap', WHERE WHAT IT READS IS OF BULK AT MOST 1048576: true; the input reads as it did. -/
def pacerHeapUptoRow : OpenClaim := { program := "ytlpgfdphoiideaa", sum := "dc6ddc733505bf21ecfe43ebd893e65e676b53324d241c1fdc15b5295c40c111", func := "treadle/treadlelaw15.PacerHeap", spec := "pacerHeap", inPlace := ["math/bits.Add64"], named := ["math/bits.divideError", "math/bits.overflowError"], apart := false, narrowed := true }
def PacerHeapUptoSaid : Prop := pacerHeapUptoRow.holds Try.pinned (OpenSpec.upto pacerHeapSpec)

/-- 'treadlelaw15.PacerFixed', WHERE WHAT IT READS IS OF BULK AT MOST 1048576: true; the input reads as it did. -/
def pacerFixedUptoRow : OpenClaim := { program := "ytlpgfdphoiideaa", sum := "dc6ddc733505bf21ecfe43ebd893e65e676b53324d241c1fdc15b5295c40c111", func := "treadle/treadlelaw15.PacerFixed", spec := "pacerFixed", inPlace := ["math/bits.Add64"], named := ["math/bits.divideError", "math/bits.overflowError"], apart := false, narrowed := true }
def PacerFixedUptoSaid : Prop := pacerFixedUptoRow.holds Try.pinned (OpenSpec.upto pacerFixedSpec)

/-- 'treadlelaw16.ScavPlays', WHERE WHAT IT READS IS OF BULK AT MOST 1048576: true; the input reads as it did. -/
def scavPlaysUptoRow : OpenClaim := { program := "ytlpgfdphoiideaa", sum := "dc6ddc733505bf21ecfe43ebd893e65e676b53324d241c1fdc15b5295c40c111", func := "treadle/treadlelaw16.ScavPlays", spec := "scavPlays", apart := false, narrowed := true }
def ScavPlaysUptoSaid : Prop := scavPlaysUptoRow.holds Try.pinned (OpenSpec.upto scavPlaysSpec)

/-- 'treadlelaw16.ScavLast', WHERE WHAT IT READS IS OF BULK AT MOST 1048576: true; the input reads as it did. -/
def scavLastUptoRow : OpenClaim := { program := "ytlpgfdphoiideaa", sum := "dc6ddc733505bf21ecfe43ebd893e65e676b53324d241c1fdc15b5295c40c111", func := "treadle/treadlelaw16.ScavLast", spec := "scavLast", apart := false, narrowed := true }
def ScavLastUptoSaid : Prop := scavLastUptoRow.holds Try.pinned (OpenSpec.upto scavLastSpec)

/-- 'treadlelaw16.ScavTurns', WHERE WHAT IT READS IS OF BULK AT MOST 1048576: true; the input reads as it did. -/
def scavTurnsUptoRow : OpenClaim := { program := "ytlpgfdphoiideaa", sum := "dc6ddc733505bf21ecfe43ebd893e65e676b53324d241c1fdc15b5295c40c111", func := "treadle/treadlelaw16.ScavTurns", spec := "scavTurns", apart := false, narrowed := true }
def ScavTurnsUptoSaid : Prop := scavTurnsUptoRow.holds Try.pinned (OpenSpec.upto scavTurnsSpec)

/-- 'treadlelaw16.ScavFixed', WHERE WHAT IT READS IS OF BULK AT MOST 1048576: true; the input reads as it did. -/
def scavFixedUptoRow : OpenClaim := { program := "ytlpgfdphoiideaa", sum := "dc6ddc733505bf21ecfe43ebd893e65e676b53324d241c1fdc15b5295c40c111", func := "treadle/treadlelaw16.ScavFixed", spec := "scavFixed", apart := false, narrowed := true }
def ScavFixedUptoSaid : Prop := scavFixedUptoRow.holds Try.pinned (OpenSpec.upto scavFixedSpec)

end Rows
end Go.Proofs.Ytlpgfdphoiideaa
