/-
  No cell of these rows narrows 'for every input' (looked for: loops, veiled, ifaces, maps, wideKeys, modest, calm, conditions, laid).
  DERIVED. THE GIVEN ROWS OF THIS SEAT. 6 by the template 'for every input the law returns true; each argument reads behind the call as it read before'; 0 by the template 'total and deterministic' (their statements: YtllefljimkmbhaaTotals.lean).
  GIVEN WITH THE SEED: the statements are not yours to turn. If you find one false, say at which input.
  Laid BY PROGRAM, IN A SANDBOX (cutbox-rows.mjs): the forced cells as the released guide's own fill.sh prints them over the translation bd6fbe6c828149a7… (all of the seat's roots in one cut). By AI agents, Wed Nov 11 2026. No macro, syntax, notation, axiom, sorry.
-/
import Derived.Test.YtllefljimkmbhaaChecked
import GoSem.Claim
import GoSem.ClaimJoined
import GoSem.ClaimMapViews
import Derived.JoinedTies
import Derived.KernelRfl
namespace Go.Proofs.Ytllefljimkmbhaa
/- THE CELL 'sum', in the pinned program and in every row, IS THE sha256 OF THE DUMP (.gsa) THAT YtllefljimkmbhaaProg.lean LOADS. Nothing in Lean hashes anything: it is a label: what it is worth is what the hold of that sum in a sandbox is worth. -/
noncomputable def Try.pinned : Pinned := { name := "ytllefljimkmbhaa", sum := "bd6fbe6c828149a76f035df5f3fa46ef9815defcd463c77b2e4184e9ab1122a1", checked := Try.checked }
namespace Rows
def none {H : Type} : Left H := { results := [], args := [] }

/-- 'treadlelaw14.MarkPlays': WHATEVER THE INPUT: true; the input reads as it did. -/
def markPlaysSpec : ChangeSpec := { name := "markPlays", fn := fun _ => fun
  | [d] => { results := [.lit (.bool true)], args := [d] }
  | _ => none }
def markPlaysRow : OpenClaim := { program := "ytllefljimkmbhaa", sum := "bd6fbe6c828149a76f035df5f3fa46ef9815defcd463c77b2e4184e9ab1122a1", func := "treadle/treadlelaw14.MarkPlays", spec := "markPlays", apart := false }
def MarkPlaysSaid : Prop := markPlaysRow.holds Try.pinned (OpenSpec.ofChange markPlaysSpec)

/-- ITS FALSE NEIGHBOUR: 'it returns false'. Refute it at one input. -/
def markPlaysWrong : ChangeSpec := { name := "markPlays", fn := fun _ => fun
  | [d] => { results := [.lit (.bool false)], args := [d] }
  | _ => none }
def MarkPlaysWrongFalsely : Prop := markPlaysRow.holds Try.pinned (OpenSpec.ofChange markPlaysWrong)

/-- 'treadlelaw14.MarkSafe': WHATEVER THE INPUT: true; the input reads as it did. -/
def markSafeSpec : ChangeSpec := { name := "markSafe", fn := fun _ => fun
  | [d1, d2] => { results := [.lit (.bool true)], args := [d1, d2] }
  | _ => none }
def markSafeRow : OpenClaim := { program := "ytllefljimkmbhaa", sum := "bd6fbe6c828149a76f035df5f3fa46ef9815defcd463c77b2e4184e9ab1122a1", func := "treadle/treadlelaw14.MarkSafe", spec := "markSafe", apart := false }
def MarkSafeSaid : Prop := markSafeRow.holds Try.pinned (OpenSpec.ofChange markSafeSpec)

/-- ITS FALSE NEIGHBOUR: 'it returns false'. Refute it at one input. -/
def markSafeWrong : ChangeSpec := { name := "markSafe", fn := fun _ => fun
  | [d1, d2] => { results := [.lit (.bool false)], args := [d1, d2] }
  | _ => none }
def MarkSafeWrongFalsely : Prop := markSafeRow.holds Try.pinned (OpenSpec.ofChange markSafeWrong)

/-- 'treadlelaw14.MarkWhole': WHATEVER THE INPUT: true; the input reads as it did. -/
def markWholeSpec : ChangeSpec := { name := "markWhole", fn := fun _ => fun
  | [d1, d2, d3] => { results := [.lit (.bool true)], args := [d1, d2, d3] }
  | _ => none }
def markWholeRow : OpenClaim := { program := "ytllefljimkmbhaa", sum := "bd6fbe6c828149a76f035df5f3fa46ef9815defcd463c77b2e4184e9ab1122a1", func := "treadle/treadlelaw14.MarkWhole", spec := "markWhole", apart := false }
def MarkWholeSaid : Prop := markWholeRow.holds Try.pinned (OpenSpec.ofChange markWholeSpec)

/-- ITS FALSE NEIGHBOUR: 'it returns false'. Refute it at one input. -/
def markWholeWrong : ChangeSpec := { name := "markWhole", fn := fun _ => fun
  | [d1, d2, d3] => { results := [.lit (.bool false)], args := [d1, d2, d3] }
  | _ => none }
def MarkWholeWrongFalsely : Prop := markWholeRow.holds Try.pinned (OpenSpec.ofChange markWholeWrong)

/-- 'treadlelaw14.MarkNone': WHATEVER THE INPUT: true; the input reads as it did. -/
def markNoneSpec : ChangeSpec := { name := "markNone", fn := fun _ => fun
  | [d] => { results := [.lit (.bool true)], args := [d] }
  | _ => none }
def markNoneRow : OpenClaim := { program := "ytllefljimkmbhaa", sum := "bd6fbe6c828149a76f035df5f3fa46ef9815defcd463c77b2e4184e9ab1122a1", func := "treadle/treadlelaw14.MarkNone", spec := "markNone", apart := false }
def MarkNoneSaid : Prop := markNoneRow.holds Try.pinned (OpenSpec.ofChange markNoneSpec)

/-- ITS FALSE NEIGHBOUR: 'it returns false'. Refute it at one input. -/
def markNoneWrong : ChangeSpec := { name := "markNone", fn := fun _ => fun
  | [d] => { results := [.lit (.bool false)], args := [d] }
  | _ => none }
def MarkNoneWrongFalsely : Prop := markNoneRow.holds Try.pinned (OpenSpec.ofChange markNoneWrong)

/-- 'treadlelaw14.MarkOften': WHATEVER THE INPUT: true; the input reads as it did. -/
def markOftenSpec : ChangeSpec := { name := "markOften", fn := fun _ => fun
  | [d] => { results := [.lit (.bool true)], args := [d] }
  | _ => none }
def markOftenRow : OpenClaim := { program := "ytllefljimkmbhaa", sum := "bd6fbe6c828149a76f035df5f3fa46ef9815defcd463c77b2e4184e9ab1122a1", func := "treadle/treadlelaw14.MarkOften", spec := "markOften", apart := false }
def MarkOftenSaid : Prop := markOftenRow.holds Try.pinned (OpenSpec.ofChange markOftenSpec)

/-- ITS FALSE NEIGHBOUR: 'it returns false'. Refute it at one input. -/
def markOftenWrong : ChangeSpec := { name := "markOften", fn := fun _ => fun
  | [d] => { results := [.lit (.bool false)], args := [d] }
  | _ => none }
def MarkOftenWrongFalsely : Prop := markOftenRow.holds Try.pinned (OpenSpec.ofChange markOftenWrong)

/-- 'treadlelaw14.MarkFixed': WHATEVER THE INPUT: true; the input reads as it did. -/
def markFixedSpec : ChangeSpec := { name := "markFixed", fn := fun _ => fun
  | [] => { results := [.lit (.bool true)], args := [] }
  | _ => none }
def markFixedRow : OpenClaim := { program := "ytllefljimkmbhaa", sum := "bd6fbe6c828149a76f035df5f3fa46ef9815defcd463c77b2e4184e9ab1122a1", func := "treadle/treadlelaw14.MarkFixed", spec := "markFixed", apart := false }
def MarkFixedSaid : Prop := markFixedRow.holds Try.pinned (OpenSpec.ofChange markFixedSpec)

/-- ITS FALSE NEIGHBOUR: 'it returns false'. Refute it at one input. -/
def markFixedWrong : ChangeSpec := { name := "markFixed", fn := fun _ => fun
  | [] => { results := [.lit (.bool false)], args := [] }
  | _ => none }
def MarkFixedWrongFalsely : Prop := markFixedRow.holds Try.pinned (OpenSpec.ofChange markFixedWrong)

/- THE SECOND FORM. 'bulk': how many values and letters a reading holds, each counted each time it is reached (what is shared counts as often as it is met; a slice's spare places count too). A statement '..UptoSaid' is the law's where the arguments, and the package variables that the reading takes, are together of bulk at most 1048576: NARROWER than '..Said'. Prove '..Said' where nothing that the law and all that it calls make is longer than what came in: it says more and counts as full. Else prove '..UptoSaid'. A law counts once. -/
mutual
def uptoBulk {H : Type} : DataW H → Nat
  | .lit (.string bytes) => bytes.length + 1
  | .lit _ => 1
  | .nil => 1
  | .ptr d => uptoBulk d + 1
  | .slice elems spare => uptoBulkAll elems + uptoBulkAll spare + 1
  | .agg parts => uptoBulkAll parts + 1
  | .iface _ d => uptoBulk d + 1
  | .map entries => uptoBulkEntries entries + 1
  | .held _ => 1
def uptoBulkAll {H : Type} : List (DataW H) → Nat
  | [] => 0
  | d :: r => uptoBulk d + uptoBulkAll r
def uptoBulkEntries {H : Type} : List (Lit × DataW H) → Nat
  | [] => 0
  | x :: r => uptoBulkEntry x + uptoBulkEntries r
def uptoBulkEntry {H : Type} : Lit × DataW H → Nat
  | (.string bytes, d) => bytes.length + uptoBulk d + 1
  | (_, d) => uptoBulk d + 1
 end
def uptoSmall : (H : Type) → List (DataW H) → Bool := fun _ ds => decide (uptoBulkAll ds ≤ 1048576)
def OpenSpec.upto (s : _root_.Go.ChangeSpec) : _root_.Go.OpenSpec := { _root_.Go.OpenSpec.ofChange s with cond := some uptoSmall }

/-- 'treadlelaw14.MarkPlays', WHERE WHAT IT READS IS OF BULK AT MOST 1048576: true; the input reads as it did. -/
def markPlaysUptoRow : OpenClaim := { program := "ytllefljimkmbhaa", sum := "bd6fbe6c828149a76f035df5f3fa46ef9815defcd463c77b2e4184e9ab1122a1", func := "treadle/treadlelaw14.MarkPlays", spec := "markPlays", apart := false, narrowed := true }
def MarkPlaysUptoSaid : Prop := markPlaysUptoRow.holds Try.pinned (OpenSpec.upto markPlaysSpec)

/-- 'treadlelaw14.MarkSafe', WHERE WHAT IT READS IS OF BULK AT MOST 1048576: true; the input reads as it did. -/
def markSafeUptoRow : OpenClaim := { program := "ytllefljimkmbhaa", sum := "bd6fbe6c828149a76f035df5f3fa46ef9815defcd463c77b2e4184e9ab1122a1", func := "treadle/treadlelaw14.MarkSafe", spec := "markSafe", apart := false, narrowed := true }
def MarkSafeUptoSaid : Prop := markSafeUptoRow.holds Try.pinned (OpenSpec.upto markSafeSpec)

/-- 'treadlelaw14.MarkWhole', WHERE WHAT IT READS IS OF BULK AT MOST 1048576: true; the input reads as it did. -/
def markWholeUptoRow : OpenClaim := { program := "ytllefljimkmbhaa", sum := "bd6fbe6c828149a76f035df5f3fa46ef9815defcd463c77b2e4184e9ab1122a1", func := "treadle/treadlelaw14.MarkWhole", spec := "markWhole", apart := false, narrowed := true }
def MarkWholeUptoSaid : Prop := markWholeUptoRow.holds Try.pinned (OpenSpec.upto markWholeSpec)

/-- 'treadlelaw14.MarkNone', WHERE WHAT IT READS IS OF BULK AT MOST 1048576: true; the input reads as it did. -/
def markNoneUptoRow : OpenClaim := { program := "ytllefljimkmbhaa", sum := "bd6fbe6c828149a76f035df5f3fa46ef9815defcd463c77b2e4184e9ab1122a1", func := "treadle/treadlelaw14.MarkNone", spec := "markNone", apart := false, narrowed := true }
def MarkNoneUptoSaid : Prop := markNoneUptoRow.holds Try.pinned (OpenSpec.upto markNoneSpec)

/-- 'treadlelaw14.MarkOften', WHERE WHAT IT READS IS OF BULK AT MOST 1048576: true; the input reads as it did. -/
def markOftenUptoRow : OpenClaim := { program := "ytllefljimkmbhaa", sum := "bd6fbe6c828149a76f035df5f3fa46ef9815defcd463c77b2e4184e9ab1122a1", func := "treadle/treadlelaw14.MarkOften", spec := "markOften", apart := false, narrowed := true }
def MarkOftenUptoSaid : Prop := markOftenUptoRow.holds Try.pinned (OpenSpec.upto markOftenSpec)

/-- 'treadlelaw14.MarkFixed', WHERE WHAT IT READS IS OF BULK AT MOST 1048576: true; the input reads as it did. -/
def markFixedUptoRow : OpenClaim := { program := "ytllefljimkmbhaa", sum := "bd6fbe6c828149a76f035df5f3fa46ef9815defcd463c77b2e4184e9ab1122a1", func := "treadle/treadlelaw14.MarkFixed", spec := "markFixed", apart := false, narrowed := true }
def MarkFixedUptoSaid : Prop := markFixedUptoRow.holds Try.pinned (OpenSpec.upto markFixedSpec)

end Rows
end Go.Proofs.Ytllefljimkmbhaa
