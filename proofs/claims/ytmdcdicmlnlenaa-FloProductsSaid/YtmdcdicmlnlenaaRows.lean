/-
  No cell of these rows narrows 'for every input' (looked for: loops, veiled, ifaces, maps, wideKeys, modest, calm, conditions, laid).
  DERIVED. THE GIVEN ROWS OF THIS SEAT. 9 by the template 'for every input the law returns true; each argument reads behind the call as it read before'; 0 by the template 'total and deterministic' (their statements: YtmdcdicmlnlenaaTotals.lean).
  GIVEN WITH THE SEED: the statements are not yours to turn. If you find one false, say at which input.
  Laid BY PROGRAM, IN A SANDBOX (cutbox-rows.mjs): the forced cells as the released guide's own fill.sh prints them over the translation 29cda580f50b2240… (all of the seat's roots in one cut). By AI agents, Wed Nov 11 2026. No macro, syntax, notation, axiom, sorry.
-/
import Derived.Test.YtmdcdicmlnlenaaChecked
import GoSem.Claim
import GoSem.ClaimJoined
import GoSem.ClaimMapViews
import Derived.JoinedTies
import Derived.KernelRfl
namespace Go.Proofs.Ytmdcdicmlnlenaa
/- THE CELL 'sum', in the pinned program and in every row, IS THE sha256 OF THE DUMP (.gsa) THAT YtmdcdicmlnlenaaProg.lean LOADS. Nothing in Lean hashes anything: it is a label: what it is worth is what the hold of that sum in a sandbox is worth. -/
noncomputable def Try.pinned : Pinned := { name := "ytmdcdicmlnlenaa", sum := "29cda580f50b2240c9d818379473c3708556010586a2000a1515e922ac05da7d", checked := Try.checked }
namespace Rows
def none {H : Type} : Left H := { results := [], args := [] }

/-- 'treadlelaw02.FloSums': WHATEVER THE INPUT: true; the input reads as it did. -/
def floSumsSpec : ChangeSpec := { name := "floSums", fn := fun _ => fun
  | [d1, d2] => { results := [.lit (.bool true)], args := [d1, d2] }
  | _ => none }
def floSumsRow : OpenClaim := { program := "ytmdcdicmlnlenaa", sum := "29cda580f50b2240c9d818379473c3708556010586a2000a1515e922ac05da7d", func := "treadle/treadlelaw02.FloSums", spec := "floSums", inPlace := ["math.Float64frombits", "math.Float64bits"], apart := false }
def FloSumsSaid : Prop := floSumsRow.holds Try.pinned (OpenSpec.ofChange floSumsSpec)

/-- ITS FALSE NEIGHBOUR: 'it returns false'. Refute it at one input. -/
def floSumsWrong : ChangeSpec := { name := "floSums", fn := fun _ => fun
  | [d1, d2] => { results := [.lit (.bool false)], args := [d1, d2] }
  | _ => none }
def FloSumsWrongFalsely : Prop := floSumsRow.holds Try.pinned (OpenSpec.ofChange floSumsWrong)

/-- 'treadlelaw02.FloProducts': WHATEVER THE INPUT: true; the input reads as it did. -/
def floProductsSpec : ChangeSpec := { name := "floProducts", fn := fun _ => fun
  | [d1, d2] => { results := [.lit (.bool true)], args := [d1, d2] }
  | _ => none }
def floProductsRow : OpenClaim := { program := "ytmdcdicmlnlenaa", sum := "29cda580f50b2240c9d818379473c3708556010586a2000a1515e922ac05da7d", func := "treadle/treadlelaw02.FloProducts", spec := "floProducts", inPlace := ["math.Float64frombits", "math.Float64bits"], apart := false }
def FloProductsSaid : Prop := floProductsRow.holds Try.pinned (OpenSpec.ofChange floProductsSpec)

/-- ITS FALSE NEIGHBOUR: 'it returns false'. Refute it at one input. -/
def floProductsWrong : ChangeSpec := { name := "floProducts", fn := fun _ => fun
  | [d1, d2] => { results := [.lit (.bool false)], args := [d1, d2] }
  | _ => none }
def FloProductsWrongFalsely : Prop := floProductsRow.holds Try.pinned (OpenSpec.ofChange floProductsWrong)

/-- 'treadlelaw02.FloOrders': WHATEVER THE INPUT: true; the input reads as it did. -/
def floOrdersSpec : ChangeSpec := { name := "floOrders", fn := fun _ => fun
  | [d1, d2] => { results := [.lit (.bool true)], args := [d1, d2] }
  | _ => none }
def floOrdersRow : OpenClaim := { program := "ytmdcdicmlnlenaa", sum := "29cda580f50b2240c9d818379473c3708556010586a2000a1515e922ac05da7d", func := "treadle/treadlelaw02.FloOrders", spec := "floOrders", inPlace := ["math.Float64frombits", "math.Float64bits"], apart := false }
def FloOrdersSaid : Prop := floOrdersRow.holds Try.pinned (OpenSpec.ofChange floOrdersSpec)

/-- ITS FALSE NEIGHBOUR: 'it returns false'. Refute it at one input. -/
def floOrdersWrong : ChangeSpec := { name := "floOrders", fn := fun _ => fun
  | [d1, d2] => { results := [.lit (.bool false)], args := [d1, d2] }
  | _ => none }
def FloOrdersWrongFalsely : Prop := floOrdersRow.holds Try.pinned (OpenSpec.ofChange floOrdersWrong)

/-- 'treadlelaw02.FloInts': WHATEVER THE INPUT: true; the input reads as it did. -/
def floIntsSpec : ChangeSpec := { name := "floInts", fn := fun _ => fun
  | [d1, d2] => { results := [.lit (.bool true)], args := [d1, d2] }
  | _ => none }
def floIntsRow : OpenClaim := { program := "ytmdcdicmlnlenaa", sum := "29cda580f50b2240c9d818379473c3708556010586a2000a1515e922ac05da7d", func := "treadle/treadlelaw02.FloInts", spec := "floInts", inPlace := ["math.Float64frombits", "math.Float64bits"], apart := false }
def FloIntsSaid : Prop := floIntsRow.holds Try.pinned (OpenSpec.ofChange floIntsSpec)

/-- ITS FALSE NEIGHBOUR: 'it returns false'. Refute it at one input. -/
def floIntsWrong : ChangeSpec := { name := "floInts", fn := fun _ => fun
  | [d1, d2] => { results := [.lit (.bool false)], args := [d1, d2] }
  | _ => none }
def FloIntsWrongFalsely : Prop := floIntsRow.holds Try.pinned (OpenSpec.ofChange floIntsWrong)

/-- 'treadlelaw02.FloEdges': WHATEVER THE INPUT: true; the input reads as it did. -/
def floEdgesSpec : ChangeSpec := { name := "floEdges", fn := fun _ => fun
  | [d1, d2, d3] => { results := [.lit (.bool true)], args := [d1, d2, d3] }
  | _ => none }
def floEdgesRow : OpenClaim := { program := "ytmdcdicmlnlenaa", sum := "29cda580f50b2240c9d818379473c3708556010586a2000a1515e922ac05da7d", func := "treadle/treadlelaw02.FloEdges", spec := "floEdges", inPlace := ["math.Float64frombits", "math.Float64bits"], apart := false }
def FloEdgesSaid : Prop := floEdgesRow.holds Try.pinned (OpenSpec.ofChange floEdgesSpec)

/-- ITS FALSE NEIGHBOUR: 'it returns false'. Refute it at one input. -/
def floEdgesWrong : ChangeSpec := { name := "floEdges", fn := fun _ => fun
  | [d1, d2, d3] => { results := [.lit (.bool false)], args := [d1, d2, d3] }
  | _ => none }
def FloEdgesWrongFalsely : Prop := floEdgesRow.holds Try.pinned (OpenSpec.ofChange floEdgesWrong)

/-- 'treadlelaw02.FloBack': WHATEVER THE INPUT: true; the input reads as it did. -/
def floBackSpec : ChangeSpec := { name := "floBack", fn := fun _ => fun
  | [d] => { results := [.lit (.bool true)], args := [d] }
  | _ => none }
def floBackRow : OpenClaim := { program := "ytmdcdicmlnlenaa", sum := "29cda580f50b2240c9d818379473c3708556010586a2000a1515e922ac05da7d", func := "treadle/treadlelaw02.FloBack", spec := "floBack", inPlace := ["math.Float64frombits", "math.Float64bits"], apart := false }
def FloBackSaid : Prop := floBackRow.holds Try.pinned (OpenSpec.ofChange floBackSpec)

/-- ITS FALSE NEIGHBOUR: 'it returns false'. Refute it at one input. -/
def floBackWrong : ChangeSpec := { name := "floBack", fn := fun _ => fun
  | [d] => { results := [.lit (.bool false)], args := [d] }
  | _ => none }
def FloBackWrongFalsely : Prop := floBackRow.holds Try.pinned (OpenSpec.ofChange floBackWrong)

/-- 'treadlelaw02.FloWholes': WHATEVER THE INPUT: true; the input reads as it did. -/
def floWholesSpec : ChangeSpec := { name := "floWholes", fn := fun _ => fun
  | [d1, d2] => { results := [.lit (.bool true)], args := [d1, d2] }
  | _ => none }
def floWholesRow : OpenClaim := { program := "ytmdcdicmlnlenaa", sum := "29cda580f50b2240c9d818379473c3708556010586a2000a1515e922ac05da7d", func := "treadle/treadlelaw02.FloWholes", spec := "floWholes", inPlace := ["math.Float64frombits", "math.Float64bits"], apart := false }
def FloWholesSaid : Prop := floWholesRow.holds Try.pinned (OpenSpec.ofChange floWholesSpec)

/-- ITS FALSE NEIGHBOUR: 'it returns false'. Refute it at one input. -/
def floWholesWrong : ChangeSpec := { name := "floWholes", fn := fun _ => fun
  | [d1, d2] => { results := [.lit (.bool false)], args := [d1, d2] }
  | _ => none }
def FloWholesWrongFalsely : Prop := floWholesRow.holds Try.pinned (OpenSpec.ofChange floWholesWrong)

/-- 'treadlelaw02.FloSigns': WHATEVER THE INPUT: true; the input reads as it did. -/
def floSignsSpec : ChangeSpec := { name := "floSigns", fn := fun _ => fun
  | [d1, d2] => { results := [.lit (.bool true)], args := [d1, d2] }
  | _ => none }
def floSignsRow : OpenClaim := { program := "ytmdcdicmlnlenaa", sum := "29cda580f50b2240c9d818379473c3708556010586a2000a1515e922ac05da7d", func := "treadle/treadlelaw02.FloSigns", spec := "floSigns", inPlace := ["math.Float64frombits", "math.Float64bits"], apart := false }
def FloSignsSaid : Prop := floSignsRow.holds Try.pinned (OpenSpec.ofChange floSignsSpec)

/-- ITS FALSE NEIGHBOUR: 'it returns false'. Refute it at one input. -/
def floSignsWrong : ChangeSpec := { name := "floSigns", fn := fun _ => fun
  | [d1, d2] => { results := [.lit (.bool false)], args := [d1, d2] }
  | _ => none }
def FloSignsWrongFalsely : Prop := floSignsRow.holds Try.pinned (OpenSpec.ofChange floSignsWrong)

/-- 'treadlelaw02.FloFixed': WHATEVER THE INPUT: true; the input reads as it did. -/
def floFixedSpec : ChangeSpec := { name := "floFixed", fn := fun _ => fun
  | [] => { results := [.lit (.bool true)], args := [] }
  | _ => none }
def floFixedRow : OpenClaim := { program := "ytmdcdicmlnlenaa", sum := "29cda580f50b2240c9d818379473c3708556010586a2000a1515e922ac05da7d", func := "treadle/treadlelaw02.FloFixed", spec := "floFixed", inPlace := ["math.Float64frombits", "math.Float64bits"], apart := false }
def FloFixedSaid : Prop := floFixedRow.holds Try.pinned (OpenSpec.ofChange floFixedSpec)

/-- ITS FALSE NEIGHBOUR: 'it returns false'. Refute it at one input. -/
def floFixedWrong : ChangeSpec := { name := "floFixed", fn := fun _ => fun
  | [] => { results := [.lit (.bool false)], args := [] }
  | _ => none }
def FloFixedWrongFalsely : Prop := floFixedRow.holds Try.pinned (OpenSpec.ofChange floFixedWrong)

/- THE SECOND FORM. 'bulk': how many values and letters a reading holds, each counted each time it is reached (what is shared counts as often as it is met; a slice's spare places count too). A statement '..UptoSaid' is the law's where the arguments, and the package variables that the reading takes, are together of bulk at most 1048576: NARROWER than '..Said'. Prove '..Said' where nothing that the law and all that it calls make is longer than what came in: it says more and counts as full. Else prove '..UptoSaid'. A law counts once. -/
mutual
def uptoBulk {H : Type} : DataW H → Nat
  | .lit (.string bytes) => bytes.length + 1
  | .lit _ => 1
  | .nil => 1
  | .ptr d => uptoBulk d + 1
  | .slice elems spare => uptoBulkAll elems + uptoBulkAll spare + 1
  | .agg parts => uptoBulkAll parts + 1
  | .iface _ d => uptoBulk d + 1
  | .map entries => uptoBulkEntries entries + 1
  | .held _ => 1
def uptoBulkAll {H : Type} : List (DataW H) → Nat
  | [] => 0
  | d :: r => uptoBulk d + uptoBulkAll r
def uptoBulkEntries {H : Type} : List (Lit × DataW H) → Nat
  | [] => 0
  | x :: r => uptoBulkEntry x + uptoBulkEntries r
def uptoBulkEntry {H : Type} : Lit × DataW H → Nat
  | (.string bytes, d) => bytes.length + uptoBulk d + 1
  | (_, d) => uptoBulk d + 1
 end
def uptoSmall : (H : Type) → List (DataW H) → Bool := fun _ ds => decide (uptoBulkAll ds ≤ 1048576)
def OpenSpec.upto (s : _root_.Go.ChangeSpec) : _root_.Go.OpenSpec := { _root_.Go.OpenSpec.ofChange s with cond := some uptoSmall }

/-- 'treadlelaw02.FloSums', WHERE WHAT IT READS IS OF BULK AT MOST 1048576: true; the input reads as it did. -/
def floSumsUptoRow : OpenClaim := { program := "ytmdcdicmlnlenaa", sum := "29cda580f50b2240c9d818379473c3708556010586a2000a1515e922ac05da7d", func := "treadle/treadlelaw02.FloSums", spec := "floSums", inPlace := ["math.Float64frombits", "math.Float64bits"], apart := false, narrowed := true }
def FloSumsUptoSaid : Prop := floSumsUptoRow.holds Try.pinned (OpenSpec.upto floSumsSpec)

/-- 'treadlelaw02.FloProducts', WHERE WHAT IT READS IS OF BULK AT MOST 1048576: true; the input reads as it did. -/
def floProductsUptoRow : OpenClaim := { program := "ytmdcdicmlnlenaa", sum := "29cda580f50b2240c9d818379473c3708556010586a2000a1515e922ac05da7d", func := "treadle/treadlelaw02.FloProducts", spec := "floProducts", inPlace := ["math.Float64frombits", "math.Float64bits"], apart := false, narrowed := true }
def FloProductsUptoSaid : Prop := floProductsUptoRow.holds Try.pinned (OpenSpec.upto floProductsSpec)

/-- 'treadlelaw02.FloOrders', WHERE WHAT IT READS IS OF BULK AT MOST 1048576: true; the input reads as it did. -/
def floOrdersUptoRow : OpenClaim := { program := "ytmdcdicmlnlenaa", sum := "29cda580f50b2240c9d818379473c3708556010586a2000a1515e922ac05da7d", func := "treadle/treadlelaw02.FloOrders", spec := "floOrders", inPlace := ["math.Float64frombits", "math.Float64bits"], apart := false, narrowed := true }
def FloOrdersUptoSaid : Prop := floOrdersUptoRow.holds Try.pinned (OpenSpec.upto floOrdersSpec)

/-- 'treadlelaw02.FloInts', WHERE WHAT IT READS IS OF BULK AT MOST 1048576: true; the input reads as it did. -/
def floIntsUptoRow : OpenClaim := { program := "ytmdcdicmlnlenaa", sum := "29cda580f50b2240c9d818379473c3708556010586a2000a1515e922ac05da7d", func := "treadle/treadlelaw02.FloInts", spec := "floInts", inPlace := ["math.Float64frombits", "math.Float64bits"], apart := false, narrowed := true }
def FloIntsUptoSaid : Prop := floIntsUptoRow.holds Try.pinned (OpenSpec.upto floIntsSpec)

/-- 'treadlelaw02.FloEdges', WHERE WHAT IT READS IS OF BULK AT MOST 1048576: true; the input reads as it did. -/
def floEdgesUptoRow : OpenClaim := { program := "ytmdcdicmlnlenaa", sum := "29cda580f50b2240c9d818379473c3708556010586a2000a1515e922ac05da7d", func := "treadle/treadlelaw02.FloEdges", spec := "floEdges", inPlace := ["math.Float64frombits", "math.Float64bits"], apart := false, narrowed := true }
def FloEdgesUptoSaid : Prop := floEdgesUptoRow.holds Try.pinned (OpenSpec.upto floEdgesSpec)

/-- 'treadlelaw02.FloBack', WHERE WHAT IT READS IS OF BULK AT MOST 1048576: true; the input reads as it did. -/
def floBackUptoRow : OpenClaim := { program := "ytmdcdicmlnlenaa", sum := "29cda580f50b2240c9d818379473c3708556010586a2000a1515e922ac05da7d", func := "treadle/treadlelaw02.FloBack", spec := "floBack", inPlace := ["math.Float64frombits", "math.Float64bits"], apart := false, narrowed := true }
def FloBackUptoSaid : Prop := floBackUptoRow.holds Try.pinned (OpenSpec.upto floBackSpec)

/-- 'treadlelaw02.FloWholes', WHERE WHAT IT READS IS OF BULK AT MOST 1048576: true; the input reads as it did. -/
def floWholesUptoRow : OpenClaim := { program := "ytmdcdicmlnlenaa", sum := "29cda580f50b2240c9d818379473c3708556010586a2000a1515e922ac05da7d", func := "treadle/treadlelaw02.FloWholes", spec := "floWholes", inPlace := ["math.Float64frombits", "math.Float64bits"], apart := false, narrowed := true }
def FloWholesUptoSaid : Prop := floWholesUptoRow.holds Try.pinned (OpenSpec.upto floWholesSpec)

/-- 'treadlelaw02.FloSigns', WHERE WHAT IT READS IS OF BULK AT MOST 1048576: true; the input reads as it did. -/
def floSignsUptoRow : OpenClaim := { program := "ytmdcdicmlnlenaa", sum := "29cda580f50b2240c9d818379473c3708556010586a2000a1515e922ac05da7d", func := "treadle/treadlelaw02.FloSigns", spec := "floSigns", inPlace := ["math.Float64frombits", "math.Float64bits"], apart := false, narrowed := true }
def FloSignsUptoSaid : Prop := floSignsUptoRow.holds Try.pinned (OpenSpec.upto floSignsSpec)

/-- 'treadlelaw02.FloFixed', WHERE WHAT IT READS IS OF BULK AT MOST 1048576: true; the input reads as it did. -/
def floFixedUptoRow : OpenClaim := { program := "ytmdcdicmlnlenaa", sum := "29cda580f50b2240c9d818379473c3708556010586a2000a1515e922ac05da7d", func := "treadle/treadlelaw02.FloFixed", spec := "floFixed", inPlace := ["math.Float64frombits", "math.Float64bits"], apart := false, narrowed := true }
def FloFixedUptoSaid : Prop := floFixedUptoRow.holds Try.pinned (OpenSpec.upto floFixedSpec)

end Rows
end Go.Proofs.Ytmdcdicmlnlenaa
