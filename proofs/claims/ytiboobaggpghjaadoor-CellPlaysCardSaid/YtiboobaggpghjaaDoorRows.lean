/-
  NARROWER THAN 'FOR EVERY INPUT', by the rows' own cells (each row's printed sentence says how): ClassTells: laid · ClassWaste: laid · ClassRises: laid · CellPlays: laid · CellApart: laid · CellBack: laid · CellOwn: laid · CellFixed: laid.
  DERIVED. THE GIVEN ROWS OF THIS SEAT. 8 by the template 'for every input the law returns true; each argument reads behind the call as it read before'; 0 by the template 'total and deterministic' (their statements: YtiboobaggpghjaaDoorTotals.lean).
  GIVEN WITH THE SEED: the statements are not yours to turn. If you find one false, say at which input.
  Laid BY PROGRAM, IN A SANDBOX (cutbox-rows.mjs): the forced cells as the released guide's own fill.sh prints them over the translation 0b19bd094fb51b73… (all of the seat's roots in one cut). By AI agents, Wed Nov 11 2026. No macro, syntax, notation, axiom, sorry.
-/
import Derived.Test.YtiboobaggpghjaaDoorChecked
import GoSem.Claim
import GoSem.ClaimJoined
import GoSem.ClaimMapViews
import Derived.JoinedTies
import Derived.KernelRfl
namespace Go.Proofs.YtiboobaggpghjaaDoor
/- THE CELL 'sum', in the pinned program and in every row, IS THE sha256 OF THE DUMP (.gsa) THAT YtiboobaggpghjaaDoorProg.lean LOADS. Nothing in Lean hashes anything: it is a label: what it is worth is what the hold of that sum in a sandbox is worth. -/
noncomputable def Tryd.pinned : Pinned := { name := "ytiboobaggpghjaadoor", sum := "0b19bd094fb51b736ee00b9073f93f0e83964b32c2e17e1b9f2e309667565cd9", checked := Tryd.checked }
namespace Rows
def none {H : Type} : Left H := { results := [], args := [] }

/- WHAT THE LISTED PACKAGE-LEVEL VARIABLES READ AS WHEN THE CALL BEGINS. Each datum BY PROGRAM (the guide's laid-datum.mjs) off the statement by which the dump's own 'gosem.cut.vars' lays the variable. In a bare row this is a premise. The card (YtiboobaggpghjaaDoorCards.lean) ties it to the program's text. -/
def laid_treadle_class_sizes {H : Type} : DataW H := .agg [.lit (.int .i64 1), .lit (.int .i64 2), .lit (.int .i64 3), .lit (.int .i64 4), .lit (.int .i64 5), .lit (.int .i64 6), .lit (.int .i64 8), .lit (.int .i64 10), .lit (.int .i64 12), .lit (.int .i64 16), .lit (.int .i64 20), .lit (.int .i64 24), .lit (.int .i64 32), .lit (.int .i64 40), .lit (.int .i64 48), .lit (.int .i64 64)]

/-- 'treadlelaw06.ClassTells': WHATEVER THE INPUT: true; the input reads as it did. -/
def classTellsSpec : ChangeSpec := { name := "classTells", fn := fun _ => fun
  | [d1, d2] => { results := [.lit (.bool true)], args := [d1, d2] }
  | _ => none }
def classTellsRow : OpenClaim := { program := "ytiboobaggpghjaadoor", sum := "0b19bd094fb51b736ee00b9073f93f0e83964b32c2e17e1b9f2e309667565cd9", func := "treadle/treadlelaw06.ClassTells", spec := "classTells", named := ["treadle/class.sizes"], apart := false, laid := [("treadle/class.sizes", laid_treadle_class_sizes)] }
def ClassTellsSaid : Prop := classTellsRow.holds Tryd.pinned (OpenSpec.ofChange classTellsSpec)

/-- ITS FALSE NEIGHBOUR: 'it returns false'. Refute it at one input. -/
def classTellsWrong : ChangeSpec := { name := "classTells", fn := fun _ => fun
  | [d1, d2] => { results := [.lit (.bool false)], args := [d1, d2] }
  | _ => none }
def ClassTellsWrongFalsely : Prop := classTellsRow.holds Tryd.pinned (OpenSpec.ofChange classTellsWrong)

/-- 'treadlelaw06.ClassWaste': WHATEVER THE INPUT: true; the input reads as it did. -/
def classWasteSpec : ChangeSpec := { name := "classWaste", fn := fun _ => fun
  | [] => { results := [.lit (.bool true)], args := [] }
  | _ => none }
def classWasteRow : OpenClaim := { program := "ytiboobaggpghjaadoor", sum := "0b19bd094fb51b736ee00b9073f93f0e83964b32c2e17e1b9f2e309667565cd9", func := "treadle/treadlelaw06.ClassWaste", spec := "classWaste", named := ["treadle/class.sizes"], apart := false, laid := [("treadle/class.sizes", laid_treadle_class_sizes)] }
def ClassWasteSaid : Prop := classWasteRow.holds Tryd.pinned (OpenSpec.ofChange classWasteSpec)

/-- ITS FALSE NEIGHBOUR: 'it returns false'. Refute it at one input. -/
def classWasteWrong : ChangeSpec := { name := "classWaste", fn := fun _ => fun
  | [] => { results := [.lit (.bool false)], args := [] }
  | _ => none }
def ClassWasteWrongFalsely : Prop := classWasteRow.holds Tryd.pinned (OpenSpec.ofChange classWasteWrong)

/-- 'treadlelaw06.ClassRises': WHATEVER THE INPUT: true; the input reads as it did. -/
def classRisesSpec : ChangeSpec := { name := "classRises", fn := fun _ => fun
  | [d1, d2] => { results := [.lit (.bool true)], args := [d1, d2] }
  | _ => none }
def classRisesRow : OpenClaim := { program := "ytiboobaggpghjaadoor", sum := "0b19bd094fb51b736ee00b9073f93f0e83964b32c2e17e1b9f2e309667565cd9", func := "treadle/treadlelaw06.ClassRises", spec := "classRises", named := ["treadle/class.sizes"], apart := false, laid := [("treadle/class.sizes", laid_treadle_class_sizes)] }
def ClassRisesSaid : Prop := classRisesRow.holds Tryd.pinned (OpenSpec.ofChange classRisesSpec)

/-- ITS FALSE NEIGHBOUR: 'it returns false'. Refute it at one input. -/
def classRisesWrong : ChangeSpec := { name := "classRises", fn := fun _ => fun
  | [d1, d2] => { results := [.lit (.bool false)], args := [d1, d2] }
  | _ => none }
def ClassRisesWrongFalsely : Prop := classRisesRow.holds Tryd.pinned (OpenSpec.ofChange classRisesWrong)

/-- 'treadlelaw07.CellPlays': WHATEVER THE INPUT: true; the input reads as it did. -/
def cellPlaysSpec : ChangeSpec := { name := "cellPlays", fn := fun _ => fun
  | [d1, d2, d3] => { results := [.lit (.bool true)], args := [d1, d2, d3] }
  | _ => none }
def cellPlaysRow : OpenClaim := { program := "ytiboobaggpghjaadoor", sum := "0b19bd094fb51b736ee00b9073f93f0e83964b32c2e17e1b9f2e309667565cd9", func := "treadle/treadlelaw07.CellPlays", spec := "cellPlays", unfollowed := true, recurses := true, named := ["treadle/class.sizes"], apart := false, laid := [("treadle/class.sizes", laid_treadle_class_sizes)] }
def CellPlaysSaid : Prop := cellPlaysRow.holds Tryd.pinned (OpenSpec.ofChange cellPlaysSpec)

/-- ITS FALSE NEIGHBOUR: 'it returns false'. Refute it at one input. -/
def cellPlaysWrong : ChangeSpec := { name := "cellPlays", fn := fun _ => fun
  | [d1, d2, d3] => { results := [.lit (.bool false)], args := [d1, d2, d3] }
  | _ => none }
def CellPlaysWrongFalsely : Prop := cellPlaysRow.holds Tryd.pinned (OpenSpec.ofChange cellPlaysWrong)

/-- 'treadlelaw07.CellApart': WHATEVER THE INPUT: true; the input reads as it did. -/
def cellApartSpec : ChangeSpec := { name := "cellApart", fn := fun _ => fun
  | [d1, d2] => { results := [.lit (.bool true)], args := [d1, d2] }
  | _ => none }
def cellApartRow : OpenClaim := { program := "ytiboobaggpghjaadoor", sum := "0b19bd094fb51b736ee00b9073f93f0e83964b32c2e17e1b9f2e309667565cd9", func := "treadle/treadlelaw07.CellApart", spec := "cellApart", unfollowed := true, recurses := true, named := ["treadle/class.sizes"], apart := false, laid := [("treadle/class.sizes", laid_treadle_class_sizes)] }
def CellApartSaid : Prop := cellApartRow.holds Tryd.pinned (OpenSpec.ofChange cellApartSpec)

/-- ITS FALSE NEIGHBOUR: 'it returns false'. Refute it at one input. -/
def cellApartWrong : ChangeSpec := { name := "cellApart", fn := fun _ => fun
  | [d1, d2] => { results := [.lit (.bool false)], args := [d1, d2] }
  | _ => none }
def CellApartWrongFalsely : Prop := cellApartRow.holds Tryd.pinned (OpenSpec.ofChange cellApartWrong)

/-- 'treadlelaw07.CellBack': WHATEVER THE INPUT: true; the input reads as it did. -/
def cellBackSpec : ChangeSpec := { name := "cellBack", fn := fun _ => fun
  | [d] => { results := [.lit (.bool true)], args := [d] }
  | _ => none }
def cellBackRow : OpenClaim := { program := "ytiboobaggpghjaadoor", sum := "0b19bd094fb51b736ee00b9073f93f0e83964b32c2e17e1b9f2e309667565cd9", func := "treadle/treadlelaw07.CellBack", spec := "cellBack", unfollowed := true, recurses := true, named := ["treadle/class.sizes"], apart := false, laid := [("treadle/class.sizes", laid_treadle_class_sizes)] }
def CellBackSaid : Prop := cellBackRow.holds Tryd.pinned (OpenSpec.ofChange cellBackSpec)

/-- ITS FALSE NEIGHBOUR: 'it returns false'. Refute it at one input. -/
def cellBackWrong : ChangeSpec := { name := "cellBack", fn := fun _ => fun
  | [d] => { results := [.lit (.bool false)], args := [d] }
  | _ => none }
def CellBackWrongFalsely : Prop := cellBackRow.holds Tryd.pinned (OpenSpec.ofChange cellBackWrong)

/-- 'treadlelaw07.CellOwn': WHATEVER THE INPUT: true; the input reads as it did. -/
def cellOwnSpec : ChangeSpec := { name := "cellOwn", fn := fun _ => fun
  | [d1, d2] => { results := [.lit (.bool true)], args := [d1, d2] }
  | _ => none }
def cellOwnRow : OpenClaim := { program := "ytiboobaggpghjaadoor", sum := "0b19bd094fb51b736ee00b9073f93f0e83964b32c2e17e1b9f2e309667565cd9", func := "treadle/treadlelaw07.CellOwn", spec := "cellOwn", unfollowed := true, recurses := true, named := ["treadle/class.sizes"], apart := false, laid := [("treadle/class.sizes", laid_treadle_class_sizes)] }
def CellOwnSaid : Prop := cellOwnRow.holds Tryd.pinned (OpenSpec.ofChange cellOwnSpec)

/-- ITS FALSE NEIGHBOUR: 'it returns false'. Refute it at one input. -/
def cellOwnWrong : ChangeSpec := { name := "cellOwn", fn := fun _ => fun
  | [d1, d2] => { results := [.lit (.bool false)], args := [d1, d2] }
  | _ => none }
def CellOwnWrongFalsely : Prop := cellOwnRow.holds Tryd.pinned (OpenSpec.ofChange cellOwnWrong)

/-- 'treadlelaw07.CellFixed': WHATEVER THE INPUT: true; the input reads as it did. -/
def cellFixedSpec : ChangeSpec := { name := "cellFixed", fn := fun _ => fun
  | [] => { results := [.lit (.bool true)], args := [] }
  | _ => none }
def cellFixedRow : OpenClaim := { program := "ytiboobaggpghjaadoor", sum := "0b19bd094fb51b736ee00b9073f93f0e83964b32c2e17e1b9f2e309667565cd9", func := "treadle/treadlelaw07.CellFixed", spec := "cellFixed", unfollowed := true, recurses := true, named := ["treadle/class.sizes"], apart := false, laid := [("treadle/class.sizes", laid_treadle_class_sizes)] }
def CellFixedSaid : Prop := cellFixedRow.holds Tryd.pinned (OpenSpec.ofChange cellFixedSpec)

/-- ITS FALSE NEIGHBOUR: 'it returns false'. Refute it at one input. -/
def cellFixedWrong : ChangeSpec := { name := "cellFixed", fn := fun _ => fun
  | [] => { results := [.lit (.bool false)], args := [] }
  | _ => none }
def CellFixedWrongFalsely : Prop := cellFixedRow.holds Tryd.pinned (OpenSpec.ofChange cellFixedWrong)

/- THE SECOND FORM. 'bulk': how many values and letters a reading holds, each counted each time it is reached (what is shared counts as often as it is met; a slice's spare places count too). A statement '..UptoSaid' is the law's where the arguments, and the package variables that the reading takes, are together of bulk at most 1048576: NARROWER than '..Said'. Prove '..Said' where nothing that the law and all that it calls make is longer than what came in: it says more and counts as full. Else prove '..UptoSaid'. A law counts once. -/
mutual
def uptoBulk {H : Type} : DataW H → Nat
  | .lit (.string bytes) => bytes.length + 1
  | .lit _ => 1
  | .nil => 1
  | .ptr d => uptoBulk d + 1
  | .slice elems spare => uptoBulkAll elems + uptoBulkAll spare + 1
  | .agg parts => uptoBulkAll parts + 1
  | .iface _ d => uptoBulk d + 1
  | .map entries => uptoBulkEntries entries + 1
  | .held _ => 1
def uptoBulkAll {H : Type} : List (DataW H) → Nat
  | [] => 0
  | d :: r => uptoBulk d + uptoBulkAll r
def uptoBulkEntries {H : Type} : List (Lit × DataW H) → Nat
  | [] => 0
  | x :: r => uptoBulkEntry x + uptoBulkEntries r
def uptoBulkEntry {H : Type} : Lit × DataW H → Nat
  | (.string bytes, d) => bytes.length + uptoBulk d + 1
  | (_, d) => uptoBulk d + 1
 end
def uptoSmall : (H : Type) → List (DataW H) → Bool := fun _ ds => decide (uptoBulkAll ds ≤ 1048576)
def OpenSpec.upto (s : _root_.Go.ChangeSpec) : _root_.Go.OpenSpec := { _root_.Go.OpenSpec.ofChange s with cond := some uptoSmall }

/-- 'treadlelaw06.ClassTells', WHERE WHAT IT READS IS OF BULK AT MOST 1048576: true; the input reads as it did. -/
def classTellsUptoRow : OpenClaim := { program := "ytiboobaggpghjaadoor", sum := "0b19bd094fb51b736ee00b9073f93f0e83964b32c2e17e1b9f2e309667565cd9", func := "treadle/treadlelaw06.ClassTells", spec := "classTells", named := ["treadle/class.sizes"], apart := false, laid := [("treadle/class.sizes", laid_treadle_class_sizes)], narrowed := true }
def ClassTellsUptoSaid : Prop := classTellsUptoRow.holds Tryd.pinned (OpenSpec.upto classTellsSpec)

/-- 'treadlelaw06.ClassWaste', WHERE WHAT IT READS IS OF BULK AT MOST 1048576: true; the input reads as it did. -/
def classWasteUptoRow : OpenClaim := { program := "ytiboobaggpghjaadoor", sum := "0b19bd094fb51b736ee00b9073f93f0e83964b32c2e17e1b9f2e309667565cd9", func := "treadle/treadlelaw06.ClassWaste", spec := "classWaste", named := ["treadle/class.sizes"], apart := false, laid := [("treadle/class.sizes", laid_treadle_class_sizes)], narrowed := true }
def ClassWasteUptoSaid : Prop := classWasteUptoRow.holds Tryd.pinned (OpenSpec.upto classWasteSpec)

/-- 'treadlelaw06.ClassRises', WHERE WHAT IT READS IS OF BULK AT MOST 1048576: true; the input reads as it did. -/
def classRisesUptoRow : OpenClaim := { program := "ytiboobaggpghjaadoor", sum := "0b19bd094fb51b736ee00b9073f93f0e83964b32c2e17e1b9f2e309667565cd9", func := "treadle/treadlelaw06.ClassRises", spec := "classRises", named := ["treadle/class.sizes"], apart := false, laid := [("treadle/class.sizes", laid_treadle_class_sizes)], narrowed := true }
def ClassRisesUptoSaid : Prop := classRisesUptoRow.holds Tryd.pinned (OpenSpec.upto classRisesSpec)

/-- 'treadlelaw07.CellPlays', WHERE WHAT IT READS IS OF BULK AT MOST 1048576: true; the input reads as it did. -/
def cellPlaysUptoRow : OpenClaim := { program := "ytiboobaggpghjaadoor", sum := "0b19bd094fb51b736ee00b9073f93f0e83964b32c2e17e1b9f2e309667565cd9", func := "treadle/treadlelaw07.CellPlays", spec := "cellPlays", unfollowed := true, recurses := true, named := ["treadle/class.sizes"], apart := false, laid := [("treadle/class.sizes", laid_treadle_class_sizes)], narrowed := true }
def CellPlaysUptoSaid : Prop := cellPlaysUptoRow.holds Tryd.pinned (OpenSpec.upto cellPlaysSpec)

/-- 'treadlelaw07.CellApart', WHERE WHAT IT READS IS OF BULK AT MOST 1048576: true; the input reads as it did. -/
def cellApartUptoRow : OpenClaim := { program := "ytiboobaggpghjaadoor", sum := "0b19bd094fb51b736ee00b9073f93f0e83964b32c2e17e1b9f2e309667565cd9", func := "treadle/treadlelaw07.CellApart", spec := "cellApart", unfollowed := true, recurses := true, named := ["treadle/class.sizes"], apart := false, laid := [("treadle/class.sizes", laid_treadle_class_sizes)], narrowed := true }
def CellApartUptoSaid : Prop := cellApartUptoRow.holds Tryd.pinned (OpenSpec.upto cellApartSpec)

/-- 'treadlelaw07.CellBack', WHERE WHAT IT READS IS OF BULK AT MOST 1048576: true; the input reads as it did. -/
def cellBackUptoRow : OpenClaim := { program := "ytiboobaggpghjaadoor", sum := "0b19bd094fb51b736ee00b9073f93f0e83964b32c2e17e1b9f2e309667565cd9", func := "treadle/treadlelaw07.CellBack", spec := "cellBack", unfollowed := true, recurses := true, named := ["treadle/class.sizes"], apart := false, laid := [("treadle/class.sizes", laid_treadle_class_sizes)], narrowed := true }
def CellBackUptoSaid : Prop := cellBackUptoRow.holds Tryd.pinned (OpenSpec.upto cellBackSpec)

/-- 'treadlelaw07.CellOwn', WHERE WHAT IT READS IS OF BULK AT MOST 1048576: true; the input reads as it did. -/
def cellOwnUptoRow : OpenClaim := { program := "ytiboobaggpghjaadoor", sum := "0b19bd094fb51b736ee00b9073f93f0e83964b32c2e17e1b9f2e309667565cd9", func := "treadle/treadlelaw07.CellOwn", spec := "cellOwn", unfollowed := true, recurses := true, named := ["treadle/class.sizes"], apart := false, laid := [("treadle/class.sizes", laid_treadle_class_sizes)], narrowed := true }
def CellOwnUptoSaid : Prop := cellOwnUptoRow.holds Tryd.pinned (OpenSpec.upto cellOwnSpec)

/-- 'treadlelaw07.CellFixed', WHERE WHAT IT READS IS OF BULK AT MOST 1048576: true; the input reads as it did. -/
def cellFixedUptoRow : OpenClaim := { program := "ytiboobaggpghjaadoor", sum := "0b19bd094fb51b736ee00b9073f93f0e83964b32c2e17e1b9f2e309667565cd9", func := "treadle/treadlelaw07.CellFixed", spec := "cellFixed", unfollowed := true, recurses := true, named := ["treadle/class.sizes"], apart := false, laid := [("treadle/class.sizes", laid_treadle_class_sizes)], narrowed := true }
def CellFixedUptoSaid : Prop := cellFixedUptoRow.holds Tryd.pinned (OpenSpec.upto cellFixedSpec)

end Rows
end Go.Proofs.YtiboobaggpghjaaDoor
