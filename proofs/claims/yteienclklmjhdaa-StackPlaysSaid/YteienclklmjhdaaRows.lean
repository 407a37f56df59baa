/-
  No cell of these rows narrows 'for every input' (looked for: loops, veiled, ifaces, maps, wideKeys, modest, calm, conditions, laid).
  DERIVED. THE GIVEN ROWS OF THIS SEAT. 5 by the template 'for every input the law returns true; each argument reads behind the call as it read before'; 0 by the template 'total and deterministic' (their statements: YteienclklmjhdaaTotals.lean).
  GIVEN WITH THE SEED: the statements are not yours to turn. If you find one false, say at which input.
  Laid BY PROGRAM, IN A SANDBOX (cutbox-rows.mjs): the forced cells as the released guide's own fill.sh prints them over the translation 79f1c1c77591eb49… (all of the seat's roots in one cut). By AI agents, Wed Nov 11 2026. No macro, syntax, notation, axiom, sorry.
-/
import Derived.Test.YteienclklmjhdaaChecked
import GoSem.Claim
import GoSem.ClaimJoined
import GoSem.ClaimMapViews
import Derived.JoinedTies
import Derived.KernelRfl
namespace Go.Proofs.Yteienclklmjhdaa
/- THE CELL 'sum', in the pinned program and in every row, IS THE sha256 OF THE DUMP (.gsa) THAT YteienclklmjhdaaProg.lean LOADS. Nothing in Lean hashes anything: it is a label: what it is worth is what the hold of that sum in a sandbox is worth. -/
noncomputable def Try.pinned : Pinned := { name := "yteienclklmjhdaa", sum := "79f1c1c77591eb4991e7516a7137a7e51e79d8dbd950a858cf25e1b405cf5a22", checked := Try.checked }
namespace Rows
def none {H : Type} : Left H := { results := [], args := [] }

/-- 'treadlelaw13.StackPlays': WHATEVER THE INPUT: true; the input reads as it did. -/
def stackPlaysSpec : ChangeSpec := { name := "stackPlays", fn := fun _ => fun
  | [d] => { results := [.lit (.bool true)], args := [d] }
  | _ => none }
def stackPlaysRow : OpenClaim := { program := "yteienclklmjhdaa", sum := "79f1c1c77591eb4991e7516a7137a7e51e79d8dbd950a858cf25e1b405cf5a22", func := "treadle/treadlelaw13.StackPlays", spec := "stackPlays", apart := false }
def StackPlaysSaid : Prop := stackPlaysRow.holds Try.pinned (OpenSpec.ofChange stackPlaysSpec)

/-- ITS FALSE NEIGHBOUR: 'it returns false'. Refute it at one input. -/
def stackPlaysWrong : ChangeSpec := { name := "stackPlays", fn := fun _ => fun
  | [d] => { results := [.lit (.bool false)], args := [d] }
  | _ => none }
def StackPlaysWrongFalsely : Prop := stackPlaysRow.holds Try.pinned (OpenSpec.ofChange stackPlaysWrong)

/-- 'treadlelaw13.StackKeeps': WHATEVER THE INPUT: true; the input reads as it did. -/
def stackKeepsSpec : ChangeSpec := { name := "stackKeeps", fn := fun _ => fun
  | [d1, d2] => { results := [.lit (.bool true)], args := [d1, d2] }
  | _ => none }
def stackKeepsRow : OpenClaim := { program := "yteienclklmjhdaa", sum := "79f1c1c77591eb4991e7516a7137a7e51e79d8dbd950a858cf25e1b405cf5a22", func := "treadle/treadlelaw13.StackKeeps", spec := "stackKeeps", apart := false }
def StackKeepsSaid : Prop := stackKeepsRow.holds Try.pinned (OpenSpec.ofChange stackKeepsSpec)

/-- ITS FALSE NEIGHBOUR: 'it returns false'. Refute it at one input. -/
def stackKeepsWrong : ChangeSpec := { name := "stackKeeps", fn := fun _ => fun
  | [d1, d2] => { results := [.lit (.bool false)], args := [d1, d2] }
  | _ => none }
def StackKeepsWrongFalsely : Prop := stackKeepsRow.holds Try.pinned (OpenSpec.ofChange stackKeepsWrong)

/-- 'treadlelaw13.StackNone': WHATEVER THE INPUT: true; the input reads as it did. -/
def stackNoneSpec : ChangeSpec := { name := "stackNone", fn := fun _ => fun
  | [d1, d2, d3] => { results := [.lit (.bool true)], args := [d1, d2, d3] }
  | _ => none }
def stackNoneRow : OpenClaim := { program := "yteienclklmjhdaa", sum := "79f1c1c77591eb4991e7516a7137a7e51e79d8dbd950a858cf25e1b405cf5a22", func := "treadle/treadlelaw13.StackNone", spec := "stackNone", apart := false }
def StackNoneSaid : Prop := stackNoneRow.holds Try.pinned (OpenSpec.ofChange stackNoneSpec)

/-- ITS FALSE NEIGHBOUR: 'it returns false'. Refute it at one input. -/
def stackNoneWrong : ChangeSpec := { name := "stackNone", fn := fun _ => fun
  | [d1, d2, d3] => { results := [.lit (.bool false)], args := [d1, d2, d3] }
  | _ => none }
def StackNoneWrongFalsely : Prop := stackNoneRow.holds Try.pinned (OpenSpec.ofChange stackNoneWrong)

/-- 'treadlelaw13.StackRows': WHATEVER THE INPUT: true; the input reads as it did. -/
def stackRowsSpec : ChangeSpec := { name := "stackRows", fn := fun _ => fun
  | [d1, d2] => { results := [.lit (.bool true)], args := [d1, d2] }
  | _ => none }
def stackRowsRow : OpenClaim := { program := "yteienclklmjhdaa", sum := "79f1c1c77591eb4991e7516a7137a7e51e79d8dbd950a858cf25e1b405cf5a22", func := "treadle/treadlelaw13.StackRows", spec := "stackRows", apart := false }
def StackRowsSaid : Prop := stackRowsRow.holds Try.pinned (OpenSpec.ofChange stackRowsSpec)

/-- ITS FALSE NEIGHBOUR: 'it returns false'. Refute it at one input. -/
def stackRowsWrong : ChangeSpec := { name := "stackRows", fn := fun _ => fun
  | [d1, d2] => { results := [.lit (.bool false)], args := [d1, d2] }
  | _ => none }
def StackRowsWrongFalsely : Prop := stackRowsRow.holds Try.pinned (OpenSpec.ofChange stackRowsWrong)

/-- 'treadlelaw13.StackShrinks': WHATEVER THE INPUT: true; the input reads as it did. -/
def stackShrinksSpec : ChangeSpec := { name := "stackShrinks", fn := fun _ => fun
  | [d1, d2, d3] => { results := [.lit (.bool true)], args := [d1, d2, d3] }
  | _ => none }
def stackShrinksRow : OpenClaim := { program := "yteienclklmjhdaa", sum := "79f1c1c77591eb4991e7516a7137a7e51e79d8dbd950a858cf25e1b405cf5a22", func := "treadle/treadlelaw13.StackShrinks", spec := "stackShrinks", apart := false }
def StackShrinksSaid : Prop := stackShrinksRow.holds Try.pinned (OpenSpec.ofChange stackShrinksSpec)

/-- ITS FALSE NEIGHBOUR: 'it returns false'. Refute it at one input. -/
def stackShrinksWrong : ChangeSpec := { name := "stackShrinks", fn := fun _ => fun
  | [d1, d2, d3] => { results := [.lit (.bool false)], args := [d1, d2, d3] }
  | _ => none }
def StackShrinksWrongFalsely : Prop := stackShrinksRow.holds Try.pinned (OpenSpec.ofChange stackShrinksWrong)

/- THE SECOND FORM. 'bulk': how many values and letters a reading holds, each counted each time it is reached (what is shared counts as often as it is met; a slice's spare places count too). A statement '..UptoSaid' is the law's where the arguments, and the package variables that the reading takes, are together of bulk at most 1048576: NARROWER than '..Said'. Prove '..Said' where nothing that the law and all that it calls make is longer than what came in: it says more and counts as full. Else prove '..UptoSaid'. A law counts once. -/
mutual
def uptoBulk {H : Type} : DataW H → Nat
  | .lit (.string bytes) => bytes.length + 1
  | .lit _ => 1
  | .nil => 1
  | .ptr d => uptoBulk d + 1
  | .slice elems spare => uptoBulkAll elems + uptoBulkAll spare + 1
  | .agg parts => uptoBulkAll parts + 1
  | .iface _ d => uptoBulk d + 1
  | .map entries => uptoBulkEntries entries + 1
  | .held _ => 1
def uptoBulkAll {H : Type} : List (DataW H) → Nat
  | [] => 0
  | d :: r => uptoBulk d + uptoBulkAll r
def uptoBulkEntries {H : Type} : List (Lit × DataW H) → Nat
  | [] => 0
  | x :: r => uptoBulkEntry x + uptoBulkEntries r
def uptoBulkEntry {H : Type} : Lit × DataW H → Nat
  | (.string bytes, d) => bytes.length + uptoBulk d + 1
  | (_, d) => uptoBulk d + 1
 end
def uptoSmall : (H : Type) → List (DataW H) → Bool := fun _ ds => decide (uptoBulkAll ds ≤ 1048576)
def OpenSpec.upto (s : _root_.Go.ChangeSpec) : _root_.Go.OpenSpec := { _root_.Go.OpenSpec.ofChange s with cond := some uptoSmall }

/-- 'treadlelaw13.StackPlays', WHERE WHAT IT READS IS OF BULK AT MOST 1048576: true; the input reads as it did. -/
def stackPlaysUptoRow : OpenClaim := { program := "yteienclklmjhdaa", sum := "79f1c1c77591eb4991e7516a7137a7e51e79d8dbd950a858cf25e1b405cf5a22", func := "treadle/treadlelaw13.StackPlays", spec := "stackPlays", apart := false, narrowed := true }
def StackPlaysUptoSaid : Prop := stackPlaysUptoRow.holds Try.pinned (OpenSpec.upto stackPlaysSpec)

/-- 'treadlelaw13.StackKeeps', WHERE WHAT IT READS IS OF BULK AT MOST 1048576: true; the input reads as it did. -/
def stackKeepsUptoRow : OpenClaim := { program := "yteienclklmjhdaa", sum := "79f1c1c77591eb4991e7516a7137a7e51e79d8dbd950a858cf25e1b405cf5a22", func := "treadle/treadlelaw13.StackKeeps", spec := "stackKeeps", apart := false, narrowed := true }
def StackKeepsUptoSaid : Prop := stackKeepsUptoRow.holds Try.pinned (OpenSpec.upto stackKeepsSpec)

/-- 'treadlelaw13.StackNone', WHERE WHAT IT READS IS OF BULK AT MOST 1048576: true; the input reads as it did. -/
def stackNoneUptoRow : OpenClaim := { program := "yteienclklmjhdaa", sum := "79f1c1c77591eb4991e7516a7137a7e51e79d8dbd950a858cf25e1b405cf5a22", func := "treadle/treadlelaw13.StackNone", spec := "stackNone", apart := false, narrowed := true }
def StackNoneUptoSaid : Prop := stackNoneUptoRow.holds Try.pinned (OpenSpec.upto stackNoneSpec)

/-- 'treadlelaw13.StackRows', WHERE WHAT IT READS IS OF BULK AT MOST 1048576: true; the input reads as it did. -/
def stackRowsUptoRow : OpenClaim := { program := "yteienclklmjhdaa", sum := "79f1c1c77591eb4991e7516a7137a7e51e79d8dbd950a858cf25e1b405cf5a22", func := "treadle/treadlelaw13.StackRows", spec := "stackRows", apart := false, narrowed := true }
def StackRowsUptoSaid : Prop := stackRowsUptoRow.holds Try.pinned (OpenSpec.upto stackRowsSpec)

/-- 'treadlelaw13.StackShrinks', WHERE WHAT IT READS IS OF BULK AT MOST 1048576: true; the input reads as it did. -/
def stackShrinksUptoRow : OpenClaim := { program := "yteienclklmjhdaa", sum := "79f1c1c77591eb4991e7516a7137a7e51e79d8dbd950a858cf25e1b405cf5a22", func := "treadle/treadlelaw13.StackShrinks", spec := "stackShrinks", apart := false, narrowed := true }
def StackShrinksUptoSaid : Prop := stackShrinksUptoRow.holds Try.pinned (OpenSpec.upto stackShrinksSpec)

end Rows
end Go.Proofs.Yteienclklmjhdaa
