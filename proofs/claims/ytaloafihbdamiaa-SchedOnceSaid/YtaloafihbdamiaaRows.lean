/-
  No cell of these rows narrows 'for every input' (looked for: loops, veiled, ifaces, maps, wideKeys, modest, calm, conditions, laid).
  DERIVED. THE GIVEN ROWS OF THIS SEAT. 7 by the template 'for every input the law returns true; each argument reads behind the call as it read before'; 0 by the template 'total and deterministic' (their statements: YtaloafihbdamiaaTotals.lean).
  GIVEN WITH THE SEED: the statements are not yours to turn. If you find one false, say at which input.
  Laid BY PROGRAM, IN A SANDBOX (cutbox-rows.mjs): the forced cells as the released guide's own fill.sh prints them over the translation 89d4e40347c70232… (all of the seat's roots in one cut). By AI agents, Wed Nov 11 2026. No macro, syntax, notation, axiom, sorry.
-/
import Derived.Test.YtaloafihbdamiaaChecked
import GoSem.Claim
import GoSem.ClaimJoined
import GoSem.ClaimMapViews
import Derived.JoinedTies
import Derived.KernelRfl
namespace Go.Proofs.Ytaloafihbdamiaa
/- THE CELL 'sum', in the pinned program and in every row, IS THE sha256 OF THE DUMP (.gsa) THAT YtaloafihbdamiaaProg.lean LOADS. Nothing in Lean hashes anything: it is a label: what it is worth is what the hold of that sum in a sandbox is worth. -/
noncomputable def Try.pinned : Pinned := { name := "ytaloafihbdamiaa", sum := "89d4e40347c702328021b79683d99db713839df05f06beca077bda821ac19110", checked := Try.checked }
namespace Rows
def none {H : Type} : Left H := { results := [], args := [] }

/-- 'treadlelaw17.SchedOnce': WHATEVER THE INPUT: true; the input reads as it did. -/
def schedOnceSpec : ChangeSpec := { name := "schedOnce", fn := fun _ => fun
  | [d1, d2] => { results := [.lit (.bool true)], args := [d1, d2] }
  | _ => none }
def schedOnceRow : OpenClaim := { program := "ytaloafihbdamiaa", sum := "89d4e40347c702328021b79683d99db713839df05f06beca077bda821ac19110", func := "treadle/treadlelaw17.SchedOnce", spec := "schedOnce", inPlace := ["slices.overlaps[treadle/timer.entry]"], unfollowed := true, recurses := true, apart := false }
def SchedOnceSaid : Prop := schedOnceRow.holds Try.pinned (OpenSpec.ofChange schedOnceSpec)

/-- ITS FALSE NEIGHBOUR: 'it returns false'. Refute it at one input. -/
def schedOnceWrong : ChangeSpec := { name := "schedOnce", fn := fun _ => fun
  | [d1, d2] => { results := [.lit (.bool false)], args := [d1, d2] }
  | _ => none }
def SchedOnceWrongFalsely : Prop := schedOnceRow.holds Try.pinned (OpenSpec.ofChange schedOnceWrong)

/-- 'treadlelaw17.SchedFair': WHATEVER THE INPUT: true; the input reads as it did. -/
def schedFairSpec : ChangeSpec := { name := "schedFair", fn := fun _ => fun
  | [d1, d2] => { results := [.lit (.bool true)], args := [d1, d2] }
  | _ => none }
def schedFairRow : OpenClaim := { program := "ytaloafihbdamiaa", sum := "89d4e40347c702328021b79683d99db713839df05f06beca077bda821ac19110", func := "treadle/treadlelaw17.SchedFair", spec := "schedFair", unfollowed := true, recurses := true, apart := false }
def SchedFairSaid : Prop := schedFairRow.holds Try.pinned (OpenSpec.ofChange schedFairSpec)

/-- ITS FALSE NEIGHBOUR: 'it returns false'. Refute it at one input. -/
def schedFairWrong : ChangeSpec := { name := "schedFair", fn := fun _ => fun
  | [d1, d2] => { results := [.lit (.bool false)], args := [d1, d2] }
  | _ => none }
def SchedFairWrongFalsely : Prop := schedFairRow.holds Try.pinned (OpenSpec.ofChange schedFairWrong)

/-- 'treadlelaw17.SchedNone': WHATEVER THE INPUT: true; the input reads as it did. -/
def schedNoneSpec : ChangeSpec := { name := "schedNone", fn := fun _ => fun
  | [d1, d2] => { results := [.lit (.bool true)], args := [d1, d2] }
  | _ => none }
def schedNoneRow : OpenClaim := { program := "ytaloafihbdamiaa", sum := "89d4e40347c702328021b79683d99db713839df05f06beca077bda821ac19110", func := "treadle/treadlelaw17.SchedNone", spec := "schedNone", inPlace := ["slices.overlaps[treadle/timer.entry]"], unfollowed := true, recurses := true, apart := false }
def SchedNoneSaid : Prop := schedNoneRow.holds Try.pinned (OpenSpec.ofChange schedNoneSpec)

/-- ITS FALSE NEIGHBOUR: 'it returns false'. Refute it at one input. -/
def schedNoneWrong : ChangeSpec := { name := "schedNone", fn := fun _ => fun
  | [d1, d2] => { results := [.lit (.bool false)], args := [d1, d2] }
  | _ => none }
def SchedNoneWrongFalsely : Prop := schedNoneRow.holds Try.pinned (OpenSpec.ofChange schedNoneWrong)

/-- 'treadlelaw17.SchedSleeps': WHATEVER THE INPUT: true; the input reads as it did. -/
def schedSleepsSpec : ChangeSpec := { name := "schedSleeps", fn := fun _ => fun
  | [d1, d2] => { results := [.lit (.bool true)], args := [d1, d2] }
  | _ => none }
def schedSleepsRow : OpenClaim := { program := "ytaloafihbdamiaa", sum := "89d4e40347c702328021b79683d99db713839df05f06beca077bda821ac19110", func := "treadle/treadlelaw17.SchedSleeps", spec := "schedSleeps", inPlace := ["slices.overlaps[treadle/timer.entry]"], unfollowed := true, recurses := true, apart := false }
def SchedSleepsSaid : Prop := schedSleepsRow.holds Try.pinned (OpenSpec.ofChange schedSleepsSpec)

/-- ITS FALSE NEIGHBOUR: 'it returns false'. Refute it at one input. -/
def schedSleepsWrong : ChangeSpec := { name := "schedSleeps", fn := fun _ => fun
  | [d1, d2] => { results := [.lit (.bool false)], args := [d1, d2] }
  | _ => none }
def SchedSleepsWrongFalsely : Prop := schedSleepsRow.holds Try.pinned (OpenSpec.ofChange schedSleepsWrong)

/-- 'treadlelaw17.SchedWakes': WHATEVER THE INPUT: true; the input reads as it did. -/
def schedWakesSpec : ChangeSpec := { name := "schedWakes", fn := fun _ => fun
  | [d] => { results := [.lit (.bool true)], args := [d] }
  | _ => none }
def schedWakesRow : OpenClaim := { program := "ytaloafihbdamiaa", sum := "89d4e40347c702328021b79683d99db713839df05f06beca077bda821ac19110", func := "treadle/treadlelaw17.SchedWakes", spec := "schedWakes", unfollowed := true, recurses := true, apart := false }
def SchedWakesSaid : Prop := schedWakesRow.holds Try.pinned (OpenSpec.ofChange schedWakesSpec)

/-- ITS FALSE NEIGHBOUR: 'it returns false'. Refute it at one input. -/
def schedWakesWrong : ChangeSpec := { name := "schedWakes", fn := fun _ => fun
  | [d] => { results := [.lit (.bool false)], args := [d] }
  | _ => none }
def SchedWakesWrongFalsely : Prop := schedWakesRow.holds Try.pinned (OpenSpec.ofChange schedWakesWrong)

/-- 'treadlelaw17.SchedLet': WHATEVER THE INPUT: true; the input reads as it did. -/
def schedLetSpec : ChangeSpec := { name := "schedLet", fn := fun _ => fun
  | [d1, d2] => { results := [.lit (.bool true)], args := [d1, d2] }
  | _ => none }
def schedLetRow : OpenClaim := { program := "ytaloafihbdamiaa", sum := "89d4e40347c702328021b79683d99db713839df05f06beca077bda821ac19110", func := "treadle/treadlelaw17.SchedLet", spec := "schedLet", unfollowed := true, recurses := true, apart := false }
def SchedLetSaid : Prop := schedLetRow.holds Try.pinned (OpenSpec.ofChange schedLetSpec)

/-- ITS FALSE NEIGHBOUR: 'it returns false'. Refute it at one input. -/
def schedLetWrong : ChangeSpec := { name := "schedLet", fn := fun _ => fun
  | [d1, d2] => { results := [.lit (.bool false)], args := [d1, d2] }
  | _ => none }
def SchedLetWrongFalsely : Prop := schedLetRow.holds Try.pinned (OpenSpec.ofChange schedLetWrong)

/-- 'treadlelaw17.SchedFixed': WHATEVER THE INPUT: true; the input reads as it did. -/
def schedFixedSpec : ChangeSpec := { name := "schedFixed", fn := fun _ => fun
  | [] => { results := [.lit (.bool true)], args := [] }
  | _ => none }
def schedFixedRow : OpenClaim := { program := "ytaloafihbdamiaa", sum := "89d4e40347c702328021b79683d99db713839df05f06beca077bda821ac19110", func := "treadle/treadlelaw17.SchedFixed", spec := "schedFixed", inPlace := ["slices.overlaps[treadle/timer.entry]"], unfollowed := true, recurses := true, apart := false }
def SchedFixedSaid : Prop := schedFixedRow.holds Try.pinned (OpenSpec.ofChange schedFixedSpec)

/-- ITS FALSE NEIGHBOUR: 'it returns false'. Refute it at one input. -/
def schedFixedWrong : ChangeSpec := { name := "schedFixed", fn := fun _ => fun
  | [] => { results := [.lit (.bool false)], args := [] }
  | _ => none }
def SchedFixedWrongFalsely : Prop := schedFixedRow.holds Try.pinned (OpenSpec.ofChange schedFixedWrong)

/- THE SECOND FORM. 'bulk': how many values and letters a reading holds, each counted each time it is reached (what is shared counts as often as it is met; a slice's spare places count too). A statement '..UptoSaid' is the law's where the arguments, and the package variables that the reading takes, are together of bulk at most 1048576: NARROWER than '..Said'. Prove '..Said' where nothing that the law and all that it calls make is longer than what came in: it says more and counts as full. Else prove '..UptoSaid'. A law counts once. -/
mutual
def uptoBulk {H : Type} : DataW H → Nat
  | .lit (.string bytes) => bytes.length + 1
  | .lit _ => 1
  | .nil => 1
  | .ptr d => uptoBulk d + 1
  | .slice elems spare => uptoBulkAll elems + uptoBulkAll spare + 1
  | .agg parts => uptoBulkAll parts + 1
  | .iface _ d => uptoBulk d + 1
  | .map entries => uptoBulkEntries entries + 1
  | .held _ => 1
def uptoBulkAll {H : Type} : List (DataW H) → Nat
  | [] => 0
  | d :: r => uptoBulk d + uptoBulkAll r
def uptoBulkEntries {H : Type} : List (Lit × DataW H) → Nat
  | [] => 0
  | x :: r => uptoBulkEntry x + uptoBulkEntries r
def uptoBulkEntry {H : Type} : Lit × DataW H → Nat
  | (.string bytes, d) => bytes.length + uptoBulk d + 1
  | (_, d) => uptoBulk d + 1
 end
def uptoSmall : (H : Type) → List (DataW H) → Bool := fun _ ds => decide (uptoBulkAll ds ≤ 1048576)
def OpenSpec.upto (s : _root_.Go.ChangeSpec) : _root_.Go.OpenSpec := { _root_.Go.OpenSpec.ofChange s with cond := some uptoSmall }

/-- 'treadlelaw17.SchedOnce', WHERE WHAT IT READS IS OF BULK AT MOST 1048576: true; the input reads as it did. -/
def schedOnceUptoRow : OpenClaim := { program := "ytaloafihbdamiaa", sum := "89d4e40347c702328021b79683d99db713839df05f06beca077bda821ac19110", func := "treadle/treadlelaw17.SchedOnce", spec := "schedOnce", inPlace := ["slices.overlaps[treadle/timer.entry]"], unfollowed := true, recurses := true, apart := false, narrowed := true }
def SchedOnceUptoSaid : Prop := schedOnceUptoRow.holds Try.pinned (OpenSpec.upto schedOnceSpec)

/-- 'treadlelaw17.SchedFair', WHERE WHAT IT READS IS OF BULK AT MOST 1048576: true; the input reads as it did. -/
def schedFairUptoRow : OpenClaim := { program := "ytaloafihbdamiaa", sum := "89d4e40347c702328021b79683d99db713839df05f06beca077bda821ac19110", func := "treadle/treadlelaw17.SchedFair", spec := "schedFair", unfollowed := true, recurses := true, apart := false, narrowed := true }
def SchedFairUptoSaid : Prop := schedFairUptoRow.holds Try.pinned (OpenSpec.upto schedFairSpec)

/-- 'treadlelaw17.SchedNone', WHERE WHAT IT READS IS OF BULK AT MOST 1048576: true; the input reads as it did. -/
def schedNoneUptoRow : OpenClaim := { program := "ytaloafihbdamiaa", sum := "89d4e40347c702328021b79683d99db713839df05f06beca077bda821ac19110", func := "treadle/treadlelaw17.SchedNone", spec := "schedNone", inPlace := ["slices.overlaps[treadle/timer.entry]"], unfollowed := true, recurses := true, apart := false, narrowed := true }
def SchedNoneUptoSaid : Prop := schedNoneUptoRow.holds Try.pinned (OpenSpec.upto schedNoneSpec)

/-- 'treadlelaw17.SchedSleeps', WHERE WHAT IT READS IS OF BULK AT MOST 1048576: true; the input reads as it did. -/
def schedSleepsUptoRow : OpenClaim := { program := "ytaloafihbdamiaa", sum := "89d4e40347c702328021b79683d99db713839df05f06beca077bda821ac19110", func := "treadle/treadlelaw17.SchedSleeps", spec := "schedSleeps", inPlace := ["slices.overlaps[treadle/timer.entry]"], unfollowed := true, recurses := true, apart := false, narrowed := true }
def SchedSleepsUptoSaid : Prop := schedSleepsUptoRow.holds Try.pinned (OpenSpec.upto schedSleepsSpec)

/-- 'treadlelaw17.SchedWakes', WHERE WHAT IT READS IS OF BULK AT MOST 1048576: true; the input reads as it did. -/
def schedWakesUptoRow : OpenClaim := { program := "ytaloafihbdamiaa", sum := "89d4e40347c702328021b79683d99db713839df05f06beca077bda821ac19110", func := "treadle/treadlelaw17.SchedWakes", spec := "schedWakes", unfollowed := true, recurses := true, apart := false, narrowed := true }
def SchedWakesUptoSaid : Prop := schedWakesUptoRow.holds Try.pinned (OpenSpec.upto schedWakesSpec)

/-- 'treadlelaw17.SchedLet', WHERE WHAT IT READS IS OF BULK AT MOST 1048576: true; the input reads as it did. -/
def schedLetUptoRow : OpenClaim := { program := "ytaloafihbdamiaa", sum := "89d4e40347c702328021b79683d99db713839df05f06beca077bda821ac19110", func := "treadle/treadlelaw17.SchedLet", spec := "schedLet", unfollowed := true, recurses := true, apart := false, narrowed := true }
def SchedLetUptoSaid : Prop := schedLetUptoRow.holds Try.pinned (OpenSpec.upto schedLetSpec)

/-- 'treadlelaw17.SchedFixed', WHERE WHAT IT READS IS OF BULK AT MOST 1048576: true; the input reads as it did. -/
def schedFixedUptoRow : OpenClaim := { program := "ytaloafihbdamiaa", sum := "89d4e40347c702328021b79683d99db713839df05f06beca077bda821ac19110", func := "treadle/treadlelaw17.SchedFixed", spec := "schedFixed", inPlace := ["slices.overlaps[treadle/timer.entry]"], unfollowed := true, recurses := true, apart := false, narrowed := true }
def SchedFixedUptoSaid : Prop := schedFixedUptoRow.holds Try.pinned (OpenSpec.upto schedFixedSpec)

end Rows
end Go.Proofs.Ytaloafihbdamiaa
