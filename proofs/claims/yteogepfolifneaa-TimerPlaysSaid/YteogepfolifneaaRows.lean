/-
  No cell of these rows narrows 'for every input' (looked for: loops, veiled, ifaces, maps, wideKeys, modest, calm, conditions, laid).
  DERIVED. THE GIVEN ROWS OF THIS SEAT. 9 by the template 'for every input the law returns true; each argument reads behind the call as it read before'; 0 by the template 'total and deterministic' (their statements: YteogepfolifneaaTotals.lean).
  GIVEN WITH THE SEED: the statements are not yours to turn. If you find one false, say at which input.
  Laid BY PROGRAM, IN A SANDBOX (cutbox-rows.mjs): the forced cells as the released guide's own fill.sh prints them over the translation 696ef67baadad8ce… (all of the seat's roots in one cut). By AI agents, Wed Nov 11 2026. No macro, syntax, notation, axiom, sorry.
-/
import Derived.Test.YteogepfolifneaaChecked
import GoSem.Claim
import GoSem.ClaimJoined
import GoSem.ClaimMapViews
import Derived.JoinedTies
import Derived.KernelRfl
namespace Go.Proofs.Yteogepfolifneaa
/- THE CELL 'sum', in the pinned program and in every row, IS THE sha256 OF THE DUMP (.gsa) THAT YteogepfolifneaaProg.lean LOADS. Nothing in Lean hashes anything: it is a label: what it is worth is what the hold of that sum in a sandbox is worth. -/
noncomputable def Try.pinned : Pinned := { name := "yteogepfolifneaa", sum := "696ef67baadad8cefc0968d00b4f65bf286c2919a8e3e80bc36ca7ac1008279f", checked := Try.checked }
namespace Rows
def none {H : Type} : Left H := { results := [], args := [] }

/-- 'treadlelaw10.QueuePlays': WHATEVER THE INPUT: true; the input reads as it did. -/
def queuePlaysSpec : ChangeSpec := { name := "queuePlays", fn := fun _ => fun
  | [d1, d2] => { results := [.lit (.bool true)], args := [d1, d2] }
  | _ => none }
def queuePlaysRow : OpenClaim := { program := "yteogepfolifneaa", sum := "696ef67baadad8cefc0968d00b4f65bf286c2919a8e3e80bc36ca7ac1008279f", func := "treadle/treadlelaw10.QueuePlays", spec := "queuePlays", apart := false }
def QueuePlaysSaid : Prop := queuePlaysRow.holds Try.pinned (OpenSpec.ofChange queuePlaysSpec)

/-- ITS FALSE NEIGHBOUR: 'it returns false'. Refute it at one input. -/
def queuePlaysWrong : ChangeSpec := { name := "queuePlays", fn := fun _ => fun
  | [d1, d2] => { results := [.lit (.bool false)], args := [d1, d2] }
  | _ => none }
def QueuePlaysWrongFalsely : Prop := queuePlaysRow.holds Try.pinned (OpenSpec.ofChange queuePlaysWrong)

/-- 'treadlelaw10.QueueAll': WHATEVER THE INPUT: true; the input reads as it did. -/
def queueAllSpec : ChangeSpec := { name := "queueAll", fn := fun _ => fun
  | [d1, d2, d3] => { results := [.lit (.bool true)], args := [d1, d2, d3] }
  | _ => none }
def queueAllRow : OpenClaim := { program := "yteogepfolifneaa", sum := "696ef67baadad8cefc0968d00b4f65bf286c2919a8e3e80bc36ca7ac1008279f", func := "treadle/treadlelaw10.QueueAll", spec := "queueAll", apart := false }
def QueueAllSaid : Prop := queueAllRow.holds Try.pinned (OpenSpec.ofChange queueAllSpec)

/-- ITS FALSE NEIGHBOUR: 'it returns false'. Refute it at one input. -/
def queueAllWrong : ChangeSpec := { name := "queueAll", fn := fun _ => fun
  | [d1, d2, d3] => { results := [.lit (.bool false)], args := [d1, d2, d3] }
  | _ => none }
def QueueAllWrongFalsely : Prop := queueAllRow.holds Try.pinned (OpenSpec.ofChange queueAllWrong)

/-- 'treadlelaw10.QueueOne': WHATEVER THE INPUT: true; the input reads as it did. -/
def queueOneSpec : ChangeSpec := { name := "queueOne", fn := fun _ => fun
  | [d1, d2] => { results := [.lit (.bool true)], args := [d1, d2] }
  | _ => none }
def queueOneRow : OpenClaim := { program := "yteogepfolifneaa", sum := "696ef67baadad8cefc0968d00b4f65bf286c2919a8e3e80bc36ca7ac1008279f", func := "treadle/treadlelaw10.QueueOne", spec := "queueOne", apart := false }
def QueueOneSaid : Prop := queueOneRow.holds Try.pinned (OpenSpec.ofChange queueOneSpec)

/-- ITS FALSE NEIGHBOUR: 'it returns false'. Refute it at one input. -/
def queueOneWrong : ChangeSpec := { name := "queueOne", fn := fun _ => fun
  | [d1, d2] => { results := [.lit (.bool false)], args := [d1, d2] }
  | _ => none }
def QueueOneWrongFalsely : Prop := queueOneRow.holds Try.pinned (OpenSpec.ofChange queueOneWrong)

/-- 'treadlelaw10.QueueHalf': WHATEVER THE INPUT: true; the input reads as it did. -/
def queueHalfSpec : ChangeSpec := { name := "queueHalf", fn := fun _ => fun
  | [d] => { results := [.lit (.bool true)], args := [d] }
  | _ => none }
def queueHalfRow : OpenClaim := { program := "yteogepfolifneaa", sum := "696ef67baadad8cefc0968d00b4f65bf286c2919a8e3e80bc36ca7ac1008279f", func := "treadle/treadlelaw10.QueueHalf", spec := "queueHalf", apart := false }
def QueueHalfSaid : Prop := queueHalfRow.holds Try.pinned (OpenSpec.ofChange queueHalfSpec)

/-- ITS FALSE NEIGHBOUR: 'it returns false'. Refute it at one input. -/
def queueHalfWrong : ChangeSpec := { name := "queueHalf", fn := fun _ => fun
  | [d] => { results := [.lit (.bool false)], args := [d] }
  | _ => none }
def QueueHalfWrongFalsely : Prop := queueHalfRow.holds Try.pinned (OpenSpec.ofChange queueHalfWrong)

/-- 'treadlelaw10.QueueFixed': WHATEVER THE INPUT: true; the input reads as it did. -/
def queueFixedSpec : ChangeSpec := { name := "queueFixed", fn := fun _ => fun
  | [] => { results := [.lit (.bool true)], args := [] }
  | _ => none }
def queueFixedRow : OpenClaim := { program := "yteogepfolifneaa", sum := "696ef67baadad8cefc0968d00b4f65bf286c2919a8e3e80bc36ca7ac1008279f", func := "treadle/treadlelaw10.QueueFixed", spec := "queueFixed", apart := false }
def QueueFixedSaid : Prop := queueFixedRow.holds Try.pinned (OpenSpec.ofChange queueFixedSpec)

/-- ITS FALSE NEIGHBOUR: 'it returns false'. Refute it at one input. -/
def queueFixedWrong : ChangeSpec := { name := "queueFixed", fn := fun _ => fun
  | [] => { results := [.lit (.bool false)], args := [] }
  | _ => none }
def QueueFixedWrongFalsely : Prop := queueFixedRow.holds Try.pinned (OpenSpec.ofChange queueFixedWrong)

/-- 'treadlelaw11.TimerPlays': WHATEVER THE INPUT: true; the input reads as it did. -/
def timerPlaysSpec : ChangeSpec := { name := "timerPlays", fn := fun _ => fun
  | [d1, d2] => { results := [.lit (.bool true)], args := [d1, d2] }
  | _ => none }
def timerPlaysRow : OpenClaim := { program := "yteogepfolifneaa", sum := "696ef67baadad8cefc0968d00b4f65bf286c2919a8e3e80bc36ca7ac1008279f", func := "treadle/treadlelaw11.TimerPlays", spec := "timerPlays", inPlace := ["slices.overlaps[treadle/timer.entry]"], unfollowed := true, recurses := true, apart := false }
def TimerPlaysSaid : Prop := timerPlaysRow.holds Try.pinned (OpenSpec.ofChange timerPlaysSpec)

/-- ITS FALSE NEIGHBOUR: 'it returns false'. Refute it at one input. -/
def timerPlaysWrong : ChangeSpec := { name := "timerPlays", fn := fun _ => fun
  | [d1, d2] => { results := [.lit (.bool false)], args := [d1, d2] }
  | _ => none }
def TimerPlaysWrongFalsely : Prop := timerPlaysRow.holds Try.pinned (OpenSpec.ofChange timerPlaysWrong)

/-- 'treadlelaw11.TimerOrder': WHATEVER THE INPUT: true; the input reads as it did. -/
def timerOrderSpec : ChangeSpec := { name := "timerOrder", fn := fun _ => fun
  | [d1, d2] => { results := [.lit (.bool true)], args := [d1, d2] }
  | _ => none }
def timerOrderRow : OpenClaim := { program := "yteogepfolifneaa", sum := "696ef67baadad8cefc0968d00b4f65bf286c2919a8e3e80bc36ca7ac1008279f", func := "treadle/treadlelaw11.TimerOrder", spec := "timerOrder", inPlace := ["slices.overlaps[treadle/timer.entry]"], unfollowed := true, recurses := true, apart := false }
def TimerOrderSaid : Prop := timerOrderRow.holds Try.pinned (OpenSpec.ofChange timerOrderSpec)

/-- ITS FALSE NEIGHBOUR: 'it returns false'. Refute it at one input. -/
def timerOrderWrong : ChangeSpec := { name := "timerOrder", fn := fun _ => fun
  | [d1, d2] => { results := [.lit (.bool false)], args := [d1, d2] }
  | _ => none }
def TimerOrderWrongFalsely : Prop := timerOrderRow.holds Try.pinned (OpenSpec.ofChange timerOrderWrong)

/-- 'treadlelaw11.TimerMoves': WHATEVER THE INPUT: true; the input reads as it did. -/
def timerMovesSpec : ChangeSpec := { name := "timerMoves", fn := fun _ => fun
  | [d1, d2] => { results := [.lit (.bool true)], args := [d1, d2] }
  | _ => none }
def timerMovesRow : OpenClaim := { program := "yteogepfolifneaa", sum := "696ef67baadad8cefc0968d00b4f65bf286c2919a8e3e80bc36ca7ac1008279f", func := "treadle/treadlelaw11.TimerMoves", spec := "timerMoves", inPlace := ["slices.overlaps[treadle/timer.entry]"], unfollowed := true, recurses := true, apart := false }
def TimerMovesSaid : Prop := timerMovesRow.holds Try.pinned (OpenSpec.ofChange timerMovesSpec)

/-- ITS FALSE NEIGHBOUR: 'it returns false'. Refute it at one input. -/
def timerMovesWrong : ChangeSpec := { name := "timerMoves", fn := fun _ => fun
  | [d1, d2] => { results := [.lit (.bool false)], args := [d1, d2] }
  | _ => none }
def TimerMovesWrongFalsely : Prop := timerMovesRow.holds Try.pinned (OpenSpec.ofChange timerMovesWrong)

/-- 'treadlelaw11.TimerFull': WHATEVER THE INPUT: true; the input reads as it did. -/
def timerFullSpec : ChangeSpec := { name := "timerFull", fn := fun _ => fun
  | [d] => { results := [.lit (.bool true)], args := [d] }
  | _ => none }
def timerFullRow : OpenClaim := { program := "yteogepfolifneaa", sum := "696ef67baadad8cefc0968d00b4f65bf286c2919a8e3e80bc36ca7ac1008279f", func := "treadle/treadlelaw11.TimerFull", spec := "timerFull", inPlace := ["slices.overlaps[treadle/timer.entry]"], unfollowed := true, recurses := true, apart := false }
def TimerFullSaid : Prop := timerFullRow.holds Try.pinned (OpenSpec.ofChange timerFullSpec)

/-- ITS FALSE NEIGHBOUR: 'it returns false'. Refute it at one input. -/
def timerFullWrong : ChangeSpec := { name := "timerFull", fn := fun _ => fun
  | [d] => { results := [.lit (.bool false)], args := [d] }
  | _ => none }
def TimerFullWrongFalsely : Prop := timerFullRow.holds Try.pinned (OpenSpec.ofChange timerFullWrong)

/- THE SECOND FORM. 'bulk': how many values and letters a reading holds, each counted each time it is reached (what is shared counts as often as it is met; a slice's spare places count too). A statement '..UptoSaid' is the law's where the arguments, and the package variables that the reading takes, are together of bulk at most 1048576: NARROWER than '..Said'. Prove '..Said' where nothing that the law and all that it calls make is longer than what came in: it says more and counts as full. Else prove '..UptoSaid'. A law counts once. -/
mutual
def uptoBulk {H : Type} : DataW H → Nat
  | .lit (.string bytes) => bytes.length + 1
  | .lit _ => 1
  | .nil => 1
  | .ptr d => uptoBulk d + 1
  | .slice elems spare => uptoBulkAll elems + uptoBulkAll spare + 1
  | .agg parts => uptoBulkAll parts + 1
  | .iface _ d => uptoBulk d + 1
  | .map entries => uptoBulkEntries entries + 1
  | .held _ => 1
def uptoBulkAll {H : Type} : List (DataW H) → Nat
  | [] => 0
  | d :: r => uptoBulk d + uptoBulkAll r
def uptoBulkEntries {H : Type} : List (Lit × DataW H) → Nat
  | [] => 0
  | x :: r => uptoBulkEntry x + uptoBulkEntries r
def uptoBulkEntry {H : Type} : Lit × DataW H → Nat
  | (.string bytes, d) => bytes.length + uptoBulk d + 1
  | (_, d) => uptoBulk d + 1
 end
def uptoSmall : (H : Type) → List (DataW H) → Bool := fun _ ds => decide (uptoBulkAll ds ≤ 1048576)
def OpenSpec.upto (s : _root_.Go.ChangeSpec) : _root_.Go.OpenSpec := { _root_.Go.OpenSpec.ofChange s with cond := some uptoSmall }

/-- 'treadlelaw10.QueuePlays', WHERE WHAT IT READS IS OF BULK AT MOST 1048576: true; the input reads as it did. -/
def queuePlaysUptoRow : OpenClaim := { program := "yteogepfolifneaa", sum := "696ef67baadad8cefc0968d00b4f65bf286c2919a8e3e80bc36ca7ac1008279f", func := "treadle/treadlelaw10.QueuePlays", spec := "queuePlays", apart := false, narrowed := true }
def QueuePlaysUptoSaid : Prop := queuePlaysUptoRow.holds Try.pinned (OpenSpec.upto queuePlaysSpec)

/-- 'treadlelaw10.QueueAll', WHERE WHAT IT READS IS OF BULK AT MOST 1048576: true; the input reads as it did. -/
def queueAllUptoRow : OpenClaim := { program := "yteogepfolifneaa", sum := "696ef67baadad8cefc0968d00b4f65bf286c2919a8e3e80bc36ca7ac1008279f", func := "treadle/treadlelaw10.QueueAll", spec := "queueAll", apart := false, narrowed := true }
def QueueAllUptoSaid : Prop := queueAllUptoRow.holds Try.pinned (OpenSpec.upto queueAllSpec)

/-- 'treadlelaw10.QueueOne', WHERE WHAT IT READS IS OF BULK AT MOST 1048576: true; the input reads as it did. -/
def queueOneUptoRow : OpenClaim := { program := "yteogepfolifneaa", sum := "696ef67baadad8cefc0968d00b4f65bf286c2919a8e3e80bc36ca7ac1008279f", func := "treadle/treadlelaw10.QueueOne", spec := "queueOne", apart := false, narrowed := true }
def QueueOneUptoSaid : Prop := queueOneUptoRow.holds Try.pinned (OpenSpec.upto queueOneSpec)

/-- 'treadlelaw10.QueueHalf', WHERE WHAT IT READS IS OF BULK AT MOST 1048576: true; the input reads as it did. -/
def queueHalfUptoRow : OpenClaim := { program := "yteogepfolifneaa", sum := "696ef67baadad8cefc0968d00b4f65bf286c2919a8e3e80bc36ca7ac1008279f", func := "treadle/treadlelaw10.QueueHalf", spec := "queueHalf", apart := false, narrowed := true }
def QueueHalfUptoSaid : Prop := queueHalfUptoRow.holds Try.pinned (OpenSpec.upto queueHalfSpec)

/-- 'treadlelaw10.QueueFixed', WHERE WHAT IT READS IS OF BULK AT MOST 1048576: true; the input reads as it did. -/
def queueFixedUptoRow : OpenClaim := { program := "yteogepfolifneaa", sum := "696ef67baadad8cefc0968d00b4f65bf286c2919a8e3e80bc36ca7ac1008279f", func := "treadle/treadlelaw10.QueueFixed", spec := "queueFixed", apart := false, narrowed := true }
def QueueFixedUptoSaid : Prop := queueFixedUptoRow.holds Try.pinned (OpenSpec.upto queueFixedSpec)

/-- 'treadlelaw11.TimerPlays', WHERE WHAT IT READS IS OF BULK AT MOST 1048576: true; the input reads as it did. -/
def timerPlaysUptoRow : OpenClaim := { program := "yteogepfolifneaa", sum := "696ef67baadad8cefc0968d00b4f65bf286c2919a8e3e80bc36ca7ac1008279f", func := "treadle/treadlelaw11.TimerPlays", spec := "timerPlays", inPlace := ["slices.overlaps[treadle/timer.entry]"], unfollowed := true, recurses := true, apart := false, narrowed := true }
def TimerPlaysUptoSaid : Prop := timerPlaysUptoRow.holds Try.pinned (OpenSpec.upto timerPlaysSpec)

/-- 'treadlelaw11.TimerOrder', WHERE WHAT IT READS IS OF BULK AT MOST 1048576: true; the input reads as it did. -/
def timerOrderUptoRow : OpenClaim := { program := "yteogepfolifneaa", sum := "696ef67baadad8cefc0968d00b4f65bf286c2919a8e3e80bc36ca7ac1008279f", func := "treadle/treadlelaw11.TimerOrder", spec := "timerOrder", inPlace := ["slices.overlaps[treadle/timer.entry]"], unfollowed := true, recurses := true, apart := false, narrowed := true }
def TimerOrderUptoSaid : Prop := timerOrderUptoRow.holds Try.pinned (OpenSpec.upto timerOrderSpec)

/-- 'treadlelaw11.TimerMoves', WHERE WHAT IT READS IS OF BULK AT MOST 1048576: true; the input reads as it did. -/
def timerMovesUptoRow : OpenClaim := { program := "yteogepfolifneaa", sum := "696ef67baadad8cefc0968d00b4f65bf286c2919a8e3e80bc36ca7ac1008279f", func := "treadle/treadlelaw11.TimerMoves", spec := "timerMoves", inPlace := ["slices.overlaps[treadle/timer.entry]"], unfollowed := true, recurses := true, apart := false, narrowed := true }
def TimerMovesUptoSaid : Prop := timerMovesUptoRow.holds Try.pinned (OpenSpec.upto timerMovesSpec)

/-- 'treadlelaw11.TimerFull', WHERE WHAT IT READS IS OF BULK AT MOST 1048576: true; the input reads as it did. -/
def timerFullUptoRow : OpenClaim := { program := "yteogepfolifneaa", sum := "696ef67baadad8cefc0968d00b4f65bf286c2919a8e3e80bc36ca7ac1008279f", func := "treadle/treadlelaw11.TimerFull", spec := "timerFull", inPlace := ["slices.overlaps[treadle/timer.entry]"], unfollowed := true, recurses := true, apart := false, narrowed := true }
def TimerFullUptoSaid : Prop := timerFullUptoRow.holds Try.pinned (OpenSpec.upto timerFullSpec)

end Rows
end Go.Proofs.Yteogepfolifneaa
