/-
  No cell of these rows narrows 'for every input' (looked for: loops, veiled, ifaces, maps, wideKeys, modest, calm, conditions, laid).
  DERIVED. THE GIVEN ROWS OF THIS SEAT. 12 by the template 'for every input the law returns true; each argument reads behind the call as it read before'; 0 by the template 'total and deterministic' (their statements: YtpdjbhnpahkbpaaTotals.lean).
  GIVEN WITH THE SEED: the statements are not yours to turn. If you find one false, say at which input.
  Laid BY PROGRAM, IN A SANDBOX (cutbox-rows.mjs): the forced cells as the released guide's own fill.sh prints them over the translation 8479ab1627fb31b8… (all of the seat's roots in one cut). By AI agents, Wed Nov 11 2026. No macro, syntax, notation, axiom, sorry.
-/
import Derived.Test.YtpdjbhnpahkbpaaChecked
import GoSem.Claim
import GoSem.ClaimJoined
import GoSem.ClaimMapViews
import Derived.JoinedTies
import Derived.KernelRfl
namespace Go.Proofs.Ytpdjbhnpahkbpaa
/- THE CELL 'sum', in the pinned program and in every row, IS THE sha256 OF THE DUMP (.gsa) THAT YtpdjbhnpahkbpaaProg.lean LOADS. Nothing in Lean hashes anything: it is a label: what it is worth is what the hold of that sum in a sandbox is worth. -/
noncomputable def Try.pinned : Pinned := { name := "ytpdjbhnpahkbpaa", sum := "8479ab1627fb31b82b256fff050d62de59874bb8e9190dd7e46c182fa3294569", checked := Try.checked }
namespace Rows
def none {H : Type} : Left H := { results := [], args := [] }

/-- 'treadlelaw08.CodeEncodes': WHATEVER THE INPUT: true; the input reads as it did. -/
def codeEncodesSpec : ChangeSpec := { name := "codeEncodes", fn := fun _ => fun
  | [d] => { results := [.lit (.bool true)], args := [d] }
  | _ => none }
def codeEncodesRow : OpenClaim := { program := "ytpdjbhnpahkbpaa", sum := "8479ab1627fb31b82b256fff050d62de59874bb8e9190dd7e46c182fa3294569", func := "treadle/treadlelaw08.CodeEncodes", spec := "codeEncodes", unfollowed := true, recurses := true, apart := false }
def CodeEncodesSaid : Prop := codeEncodesRow.holds Try.pinned (OpenSpec.ofChange codeEncodesSpec)

/-- ITS FALSE NEIGHBOUR: 'it returns false'. Refute it at one input. -/
def codeEncodesWrong : ChangeSpec := { name := "codeEncodes", fn := fun _ => fun
  | [d] => { results := [.lit (.bool false)], args := [d] }
  | _ => none }
def CodeEncodesWrongFalsely : Prop := codeEncodesRow.holds Try.pinned (OpenSpec.ofChange codeEncodesWrong)

/-- 'treadlelaw08.CodeDecodes': WHATEVER THE INPUT: true; the input reads as it did. -/
def codeDecodesSpec : ChangeSpec := { name := "codeDecodes", fn := fun _ => fun
  | [d] => { results := [.lit (.bool true)], args := [d] }
  | _ => none }
def codeDecodesRow : OpenClaim := { program := "ytpdjbhnpahkbpaa", sum := "8479ab1627fb31b82b256fff050d62de59874bb8e9190dd7e46c182fa3294569", func := "treadle/treadlelaw08.CodeDecodes", spec := "codeDecodes", unfollowed := true, recurses := true, apart := false }
def CodeDecodesSaid : Prop := codeDecodesRow.holds Try.pinned (OpenSpec.ofChange codeDecodesSpec)

/-- ITS FALSE NEIGHBOUR: 'it returns false'. Refute it at one input. -/
def codeDecodesWrong : ChangeSpec := { name := "codeDecodes", fn := fun _ => fun
  | [d] => { results := [.lit (.bool false)], args := [d] }
  | _ => none }
def CodeDecodesWrongFalsely : Prop := codeDecodesRow.holds Try.pinned (OpenSpec.ofChange codeDecodesWrong)

/-- 'treadlelaw08.CodeBack': WHATEVER THE INPUT: true; the input reads as it did. -/
def codeBackSpec : ChangeSpec := { name := "codeBack", fn := fun _ => fun
  | [d1, d2] => { results := [.lit (.bool true)], args := [d1, d2] }
  | _ => none }
def codeBackRow : OpenClaim := { program := "ytpdjbhnpahkbpaa", sum := "8479ab1627fb31b82b256fff050d62de59874bb8e9190dd7e46c182fa3294569", func := "treadle/treadlelaw08.CodeBack", spec := "codeBack", unfollowed := true, recurses := true, apart := false }
def CodeBackSaid : Prop := codeBackRow.holds Try.pinned (OpenSpec.ofChange codeBackSpec)

/-- ITS FALSE NEIGHBOUR: 'it returns false'. Refute it at one input. -/
def codeBackWrong : ChangeSpec := { name := "codeBack", fn := fun _ => fun
  | [d1, d2] => { results := [.lit (.bool false)], args := [d1, d2] }
  | _ => none }
def CodeBackWrongFalsely : Prop := codeBackRow.holds Try.pinned (OpenSpec.ofChange codeBackWrong)

/-- 'treadlelaw08.CodeKeeps': WHATEVER THE INPUT: true; the input reads as it did. -/
def codeKeepsSpec : ChangeSpec := { name := "codeKeeps", fn := fun _ => fun
  | [d] => { results := [.lit (.bool true)], args := [d] }
  | _ => none }
def codeKeepsRow : OpenClaim := { program := "ytpdjbhnpahkbpaa", sum := "8479ab1627fb31b82b256fff050d62de59874bb8e9190dd7e46c182fa3294569", func := "treadle/treadlelaw08.CodeKeeps", spec := "codeKeeps", unfollowed := true, recurses := true, apart := false }
def CodeKeepsSaid : Prop := codeKeepsRow.holds Try.pinned (OpenSpec.ofChange codeKeepsSpec)

/-- ITS FALSE NEIGHBOUR: 'it returns false'. Refute it at one input. -/
def codeKeepsWrong : ChangeSpec := { name := "codeKeeps", fn := fun _ => fun
  | [d] => { results := [.lit (.bool false)], args := [d] }
  | _ => none }
def CodeKeepsWrongFalsely : Prop := codeKeepsRow.holds Try.pinned (OpenSpec.ofChange codeKeepsWrong)

/-- 'treadlelaw08.CodeShort': WHATEVER THE INPUT: true; the input reads as it did. -/
def codeShortSpec : ChangeSpec := { name := "codeShort", fn := fun _ => fun
  | [d1, d2, d3] => { results := [.lit (.bool true)], args := [d1, d2, d3] }
  | _ => none }
def codeShortRow : OpenClaim := { program := "ytpdjbhnpahkbpaa", sum := "8479ab1627fb31b82b256fff050d62de59874bb8e9190dd7e46c182fa3294569", func := "treadle/treadlelaw08.CodeShort", spec := "codeShort", unfollowed := true, recurses := true, apart := false }
def CodeShortSaid : Prop := codeShortRow.holds Try.pinned (OpenSpec.ofChange codeShortSpec)

/-- ITS FALSE NEIGHBOUR: 'it returns false'. Refute it at one input. -/
def codeShortWrong : ChangeSpec := { name := "codeShort", fn := fun _ => fun
  | [d1, d2, d3] => { results := [.lit (.bool false)], args := [d1, d2, d3] }
  | _ => none }
def CodeShortWrongFalsely : Prop := codeShortRow.holds Try.pinned (OpenSpec.ofChange codeShortWrong)

/-- 'treadlelaw08.CodeImms': WHATEVER THE INPUT: true; the input reads as it did. -/
def codeImmsSpec : ChangeSpec := { name := "codeImms", fn := fun _ => fun
  | [d1, d2] => { results := [.lit (.bool true)], args := [d1, d2] }
  | _ => none }
def codeImmsRow : OpenClaim := { program := "ytpdjbhnpahkbpaa", sum := "8479ab1627fb31b82b256fff050d62de59874bb8e9190dd7e46c182fa3294569", func := "treadle/treadlelaw08.CodeImms", spec := "codeImms", unfollowed := true, recurses := true, apart := false }
def CodeImmsSaid : Prop := codeImmsRow.holds Try.pinned (OpenSpec.ofChange codeImmsSpec)

/-- ITS FALSE NEIGHBOUR: 'it returns false'. Refute it at one input. -/
def codeImmsWrong : ChangeSpec := { name := "codeImms", fn := fun _ => fun
  | [d1, d2] => { results := [.lit (.bool false)], args := [d1, d2] }
  | _ => none }
def CodeImmsWrongFalsely : Prop := codeImmsRow.holds Try.pinned (OpenSpec.ofChange codeImmsWrong)

/-- 'treadlelaw08.CodeFixed': WHATEVER THE INPUT: true; the input reads as it did. -/
def codeFixedSpec : ChangeSpec := { name := "codeFixed", fn := fun _ => fun
  | [] => { results := [.lit (.bool true)], args := [] }
  | _ => none }
def codeFixedRow : OpenClaim := { program := "ytpdjbhnpahkbpaa", sum := "8479ab1627fb31b82b256fff050d62de59874bb8e9190dd7e46c182fa3294569", func := "treadle/treadlelaw08.CodeFixed", spec := "codeFixed", unfollowed := true, recurses := true, apart := false }
def CodeFixedSaid : Prop := codeFixedRow.holds Try.pinned (OpenSpec.ofChange codeFixedSpec)

/-- ITS FALSE NEIGHBOUR: 'it returns false'. Refute it at one input. -/
def codeFixedWrong : ChangeSpec := { name := "codeFixed", fn := fun _ => fun
  | [] => { results := [.lit (.bool false)], args := [] }
  | _ => none }
def CodeFixedWrongFalsely : Prop := codeFixedRow.holds Try.pinned (OpenSpec.ofChange codeFixedWrong)

/-- 'treadlelaw09.VerifyChecks': WHATEVER THE INPUT: true; the input reads as it did. -/
def verifyChecksSpec : ChangeSpec := { name := "verifyChecks", fn := fun _ => fun
  | [d] => { results := [.lit (.bool true)], args := [d] }
  | _ => none }
def verifyChecksRow : OpenClaim := { program := "ytpdjbhnpahkbpaa", sum := "8479ab1627fb31b82b256fff050d62de59874bb8e9190dd7e46c182fa3294569", func := "treadle/treadlelaw09.VerifyChecks", spec := "verifyChecks", unfollowed := true, recurses := true, apart := false }
def VerifyChecksSaid : Prop := verifyChecksRow.holds Try.pinned (OpenSpec.ofChange verifyChecksSpec)

/-- ITS FALSE NEIGHBOUR: 'it returns false'. Refute it at one input. -/
def verifyChecksWrong : ChangeSpec := { name := "verifyChecks", fn := fun _ => fun
  | [d] => { results := [.lit (.bool false)], args := [d] }
  | _ => none }
def VerifyChecksWrongFalsely : Prop := verifyChecksRow.holds Try.pinned (OpenSpec.ofChange verifyChecksWrong)

/-- 'treadlelaw09.VerifyPlaces': WHATEVER THE INPUT: true; the input reads as it did. -/
def verifyPlacesSpec : ChangeSpec := { name := "verifyPlaces", fn := fun _ => fun
  | [d1, d2] => { results := [.lit (.bool true)], args := [d1, d2] }
  | _ => none }
def verifyPlacesRow : OpenClaim := { program := "ytpdjbhnpahkbpaa", sum := "8479ab1627fb31b82b256fff050d62de59874bb8e9190dd7e46c182fa3294569", func := "treadle/treadlelaw09.VerifyPlaces", spec := "verifyPlaces", unfollowed := true, recurses := true, apart := false }
def VerifyPlacesSaid : Prop := verifyPlacesRow.holds Try.pinned (OpenSpec.ofChange verifyPlacesSpec)

/-- ITS FALSE NEIGHBOUR: 'it returns false'. Refute it at one input. -/
def verifyPlacesWrong : ChangeSpec := { name := "verifyPlaces", fn := fun _ => fun
  | [d1, d2] => { results := [.lit (.bool false)], args := [d1, d2] }
  | _ => none }
def VerifyPlacesWrongFalsely : Prop := verifyPlacesRow.holds Try.pinned (OpenSpec.ofChange verifyPlacesWrong)

/-- 'treadlelaw09.VerifyKeeps': WHATEVER THE INPUT: true; the input reads as it did. -/
def verifyKeepsSpec : ChangeSpec := { name := "verifyKeeps", fn := fun _ => fun
  | [d] => { results := [.lit (.bool true)], args := [d] }
  | _ => none }
def verifyKeepsRow : OpenClaim := { program := "ytpdjbhnpahkbpaa", sum := "8479ab1627fb31b82b256fff050d62de59874bb8e9190dd7e46c182fa3294569", func := "treadle/treadlelaw09.VerifyKeeps", spec := "verifyKeeps", unfollowed := true, recurses := true, apart := false }
def VerifyKeepsSaid : Prop := verifyKeepsRow.holds Try.pinned (OpenSpec.ofChange verifyKeepsSpec)

/-- ITS FALSE NEIGHBOUR: 'it returns false'. Refute it at one input. -/
def verifyKeepsWrong : ChangeSpec := { name := "verifyKeeps", fn := fun _ => fun
  | [d] => { results := [.lit (.bool false)], args := [d] }
  | _ => none }
def VerifyKeepsWrongFalsely : Prop := verifyKeepsRow.holds Try.pinned (OpenSpec.ofChange verifyKeepsWrong)

/-- 'treadlelaw09.VerifyMore': WHATEVER THE INPUT: true; the input reads as it did. -/
def verifyMoreSpec : ChangeSpec := { name := "verifyMore", fn := fun _ => fun
  | [d1, d2] => { results := [.lit (.bool true)], args := [d1, d2] }
  | _ => none }
def verifyMoreRow : OpenClaim := { program := "ytpdjbhnpahkbpaa", sum := "8479ab1627fb31b82b256fff050d62de59874bb8e9190dd7e46c182fa3294569", func := "treadle/treadlelaw09.VerifyMore", spec := "verifyMore", unfollowed := true, recurses := true, apart := false }
def VerifyMoreSaid : Prop := verifyMoreRow.holds Try.pinned (OpenSpec.ofChange verifyMoreSpec)

/-- ITS FALSE NEIGHBOUR: 'it returns false'. Refute it at one input. -/
def verifyMoreWrong : ChangeSpec := { name := "verifyMore", fn := fun _ => fun
  | [d1, d2] => { results := [.lit (.bool false)], args := [d1, d2] }
  | _ => none }
def VerifyMoreWrongFalsely : Prop := verifyMoreRow.holds Try.pinned (OpenSpec.ofChange verifyMoreWrong)

/-- 'treadlelaw09.VerifyFixed': WHATEVER THE INPUT: true; the input reads as it did. -/
def verifyFixedSpec : ChangeSpec := { name := "verifyFixed", fn := fun _ => fun
  | [] => { results := [.lit (.bool true)], args := [] }
  | _ => none }
def verifyFixedRow : OpenClaim := { program := "ytpdjbhnpahkbpaa", sum := "8479ab1627fb31b82b256fff050d62de59874bb8e9190dd7e46c182fa3294569", func := "treadle/treadlelaw09.VerifyFixed", spec := "verifyFixed", unfollowed := true, recurses := true, apart := false }
def VerifyFixedSaid : Prop := verifyFixedRow.holds Try.pinned (OpenSpec.ofChange verifyFixedSpec)

/-- ITS FALSE NEIGHBOUR: 'it returns false'. Refute it at one input. -/
def verifyFixedWrong : ChangeSpec := { name := "verifyFixed", fn := fun _ => fun
  | [] => { results := [.lit (.bool false)], args := [] }
  | _ => none }
def VerifyFixedWrongFalsely : Prop := verifyFixedRow.holds Try.pinned (OpenSpec.ofChange verifyFixedWrong)

/- THE SECOND FORM. 'bulk': how many values and letters a reading holds, each counted each time it is reached (what is shared counts as often as it is met; a slice's spare places count too). A statement '..UptoSaid' is the law's where the arguments, and the package variables that the reading takes, are together of bulk at most 1048576: NARROWER than '..Said'. Prove '..Said' where nothing that the law and all that it calls make is longer than what came in: it says more and counts as full. Else prove '..UptoSaid'. A law counts once. -/
mutual
def uptoBulk {H : Type} : DataW H → Nat
  | .lit (.string bytes) => bytes.length + 1
  | .lit _ => 1
  | .nil => 1
  | .ptr d => uptoBulk d + 1
  | .slice elems spare => uptoBulkAll elems + uptoBulkAll spare + 1
  | .agg parts => uptoBulkAll parts + 1
  | .iface _ d => uptoBulk d + 1
  | .map entries => uptoBulkEntries entries + 1
  | .held _ => 1
def uptoBulkAll {H : Type} : List (DataW H) → Nat
  | [] => 0
  | d :: r => uptoBulk d + uptoBulkAll r
def uptoBulkEntries {H : Type} : List (Lit × DataW H) → Nat
  | [] => 0
  | x :: r => uptoBulkEntry x + uptoBulkEntries r
def uptoBulkEntry {H : Type} : Lit × DataW H → Nat
  | (.string bytes, d) => bytes.length + uptoBulk d + 1
  | (_, d) => uptoBulk d + 1
 end
def uptoSmall : (H : Type) → List (DataW H) → Bool := fun _ ds => decide (uptoBulkAll ds ≤ 1048576)
def OpenSpec.upto (s : _root_.Go.ChangeSpec) : _root_.Go.OpenSpec := { _root_.Go.OpenSpec.ofChange s with cond := some uptoSmall }

/-- 'treadlelaw08.CodeEncodes', WHERE WHAT IT READS IS OF BULK AT MOST 1048576: true; the input reads as it did. -/
def codeEncodesUptoRow : OpenClaim := { program := "ytpdjbhnpahkbpaa", sum := "8479ab1627fb31b82b256fff050d62de59874bb8e9190dd7e46c182fa3294569", func := "treadle/treadlelaw08.CodeEncodes", spec := "codeEncodes", unfollowed := true, recurses := true, apart := false, narrowed := true }
def CodeEncodesUptoSaid : Prop := codeEncodesUptoRow.holds Try.pinned (OpenSpec.upto codeEncodesSpec)

/-- 'treadlelaw08.CodeDecodes', WHERE WHAT IT READS IS OF BULK AT MOST 1048576: true; the input reads as it did. -/
def codeDecodesUptoRow : OpenClaim := { program := "ytpdjbhnpahkbpaa", sum := "8479ab1627fb31b82b256fff050d62de59874bb8e9190dd7e46c182fa3294569", func := "treadle/treadlelaw08.CodeDecodes", spec := "codeDecodes", unfollowed := true, recurses := true, apart := false, narrowed := true }
def CodeDecodesUptoSaid : Prop := codeDecodesUptoRow.holds Try.pinned (OpenSpec.upto codeDecodesSpec)

/-- 'treadlelaw08.CodeBack', WHERE WHAT IT READS IS OF BULK AT MOST 1048576: true; the input reads as it did. -/
def codeBackUptoRow : OpenClaim := { program := "ytpdjbhnpahkbpaa", sum := "8479ab1627fb31b82b256fff050d62de59874bb8e9190dd7e46c182fa3294569", func := "treadle/treadlelaw08.CodeBack", spec := "codeBack", unfollowed := true, recurses := true, apart := false, narrowed := true }
def CodeBackUptoSaid : Prop := codeBackUptoRow.holds Try.pinned (OpenSpec.upto codeBackSpec)

/-- 'treadlelaw08.CodeKeeps', WHERE WHAT IT READS IS OF BULK AT MOST 1048576: true; the input reads as it did. -/
def codeKeepsUptoRow : OpenClaim := { program := "ytpdjbhnpahkbpaa", sum := "8479ab1627fb31b82b256fff050d62de59874bb8e9190dd7e46c182fa3294569", func := "treadle/treadlelaw08.CodeKeeps", spec := "codeKeeps", unfollowed := true, recurses := true, apart := false, narrowed := true }
def CodeKeepsUptoSaid : Prop := codeKeepsUptoRow.holds Try.pinned (OpenSpec.upto codeKeepsSpec)

/-- 'treadlelaw08.CodeShort', WHERE WHAT IT READS IS OF BULK AT MOST 1048576: true; the input reads as it did. -/
def codeShortUptoRow : OpenClaim := { program := "ytpdjbhnpahkbpaa", sum := "8479ab1627fb31b82b256fff050d62de59874bb8e9190dd7e46c182fa3294569", func := "treadle/treadlelaw08.CodeShort", spec := "codeShort", unfollowed := true, recurses := true, apart := false, narrowed := true }
def CodeShortUptoSaid : Prop := codeShortUptoRow.holds Try.pinned (OpenSpec.upto codeShortSpec)

/-- 'treadlelaw08.CodeImms', WHERE WHAT IT READS IS OF BULK AT MOST 1048576: true; the input reads as it did. -/
def codeImmsUptoRow : OpenClaim := { program := "ytpdjbhnpahkbpaa", sum := "8479ab1627fb31b82b256fff050d62de59874bb8e9190dd7e46c182fa3294569", func := "treadle/treadlelaw08.CodeImms", spec := "codeImms", unfollowed := true, recurses := true, apart := false, narrowed := true }
def CodeImmsUptoSaid : Prop := codeImmsUptoRow.holds Try.pinned (OpenSpec.upto codeImmsSpec)

/-- 'treadlelaw08.CodeFixed', WHERE WHAT IT READS IS OF BULK AT MOST 1048576: true; the input reads as it did. -/
def codeFixedUptoRow : OpenClaim := { program := "ytpdjbhnpahkbpaa", sum := "8479ab1627fb31b82b256fff050d62de59874bb8e9190dd7e46c182fa3294569", func := "treadle/treadlelaw08.CodeFixed", spec := "codeFixed", unfollowed := true, recurses := true, apart := false, narrowed := true }
def CodeFixedUptoSaid : Prop := codeFixedUptoRow.holds Try.pinned (OpenSpec.upto codeFixedSpec)

/-- 'treadlelaw09.VerifyChecks', WHERE WHAT IT READS IS OF BULK AT MOST 1048576: true; the input reads as it did. -/
def verifyChecksUptoRow : OpenClaim := { program := "ytpdjbhnpahkbpaa", sum := "8479ab1627fb31b82b256fff050d62de59874bb8e9190dd7e46c182fa3294569", func := "treadle/treadlelaw09.VerifyChecks", spec := "verifyChecks", unfollowed := true, recurses := true, apart := false, narrowed := true }
def VerifyChecksUptoSaid : Prop := verifyChecksUptoRow.holds Try.pinned (OpenSpec.upto verifyChecksSpec)

/-- 'treadlelaw09.VerifyPlaces', WHERE WHAT IT READS IS OF BULK AT MOST 1048576: true; the input reads as it did. -/
def verifyPlacesUptoRow : OpenClaim := { program := "ytpdjbhnpahkbpaa", sum := "8479ab1627fb31b82b256fff050d62de59874bb8e9190dd7e46c182fa3294569", func := "treadle/treadlelaw09.VerifyPlaces", spec := "verifyPlaces", unfollowed := true, recurses := true, apart := false, narrowed := true }
def VerifyPlacesUptoSaid : Prop := verifyPlacesUptoRow.holds Try.pinned (OpenSpec.upto verifyPlacesSpec)

/-- 'treadlelaw09.VerifyKeeps', WHERE WHAT IT READS IS OF BULK AT MOST 1048576: true; the input reads as it did. -/
def verifyKeepsUptoRow : OpenClaim := { program := "ytpdjbhnpahkbpaa", sum := "8479ab1627fb31b82b256fff050d62de59874bb8e9190dd7e46c182fa3294569", func := "treadle/treadlelaw09.VerifyKeeps", spec := "verifyKeeps", unfollowed := true, recurses := true, apart := false, narrowed := true }
def VerifyKeepsUptoSaid : Prop := verifyKeepsUptoRow.holds Try.pinned (OpenSpec.upto verifyKeepsSpec)

/-- 'treadlelaw09.VerifyMore', WHERE WHAT IT READS IS OF BULK AT MOST 1048576: true; the input reads as it did. -/
def verifyMoreUptoRow : OpenClaim := { program := "ytpdjbhnpahkbpaa", sum := "8479ab1627fb31b82b256fff050d62de59874bb8e9190dd7e46c182fa3294569", func := "treadle/treadlelaw09.VerifyMore", spec := "verifyMore", unfollowed := true, recurses := true, apart := false, narrowed := true }
def VerifyMoreUptoSaid : Prop := verifyMoreUptoRow.holds Try.pinned (OpenSpec.upto verifyMoreSpec)

/-- 'treadlelaw09.VerifyFixed', WHERE WHAT IT READS IS OF BULK AT MOST 1048576: true; the input reads as it did. -/
def verifyFixedUptoRow : OpenClaim := { program := "ytpdjbhnpahkbpaa", sum := "8479ab1627fb31b82b256fff050d62de59874bb8e9190dd7e46c182fa3294569", func := "treadle/treadlelaw09.VerifyFixed", spec := "verifyFixed", unfollowed := true, recurses := true, apart := false, narrowed := true }
def VerifyFixedUptoSaid : Prop := verifyFixedUptoRow.holds Try.pinned (OpenSpec.upto verifyFixedSpec)

end Rows
end Go.Proofs.Ytpdjbhnpahkbpaa
