/-
  No cell of these rows narrows 'for every input' (looked for: loops, veiled, ifaces, maps, wideKeys, modest, calm, conditions, laid).
  DERIVED. THE GIVEN ROWS OF THIS SEAT. 7 by the template 'for every input the law returns true; each argument reads behind the call as it read before'; 0 by the template 'total and deterministic' (their statements: YtgglcfmnhiakcaaTotals.lean).
  GIVEN WITH THE SEED: the statements are not yours to turn. If you find one false, say at which input.
  Laid BY PROGRAM, IN A SANDBOX (cutbox-rows.mjs): the forced cells as the released guide's own fill.sh prints them over the translation 20883afe3eebdf9f… (all of the seat's roots in one cut). By AI agents, Wed Nov 11 2026. No macro, syntax, notation, axiom, sorry.
-/
import Derived.Test.YtgglcfmnhiakcaaChecked
import GoSem.Claim
import GoSem.ClaimJoined
import GoSem.ClaimMapViews
import Derived.JoinedTies
import Derived.KernelRfl
namespace Go.Proofs.Ytgglcfmnhiakcaa
/- THE CELL 'sum', in the pinned program and in every row, IS THE sha256 OF THE DUMP (.gsa) THAT YtgglcfmnhiakcaaProg.lean LOADS. Nothing in Lean hashes anything: it is a label: what it is worth is what the hold of that sum in a sandbox is worth. -/
noncomputable def Try.pinned : Pinned := { name := "ytgglcfmnhiakcaa", sum := "20883afe3eebdf9fceded0d8220e6e7ad94f905dd3d405f0b87b854a0357f36e", checked := Try.checked }
namespace Rows
def none {H : Type} : Left H := { results := [], args := [] }

/-- 'treadlelaw04.PagesPlays': WHATEVER THE INPUT: true; the input reads as it did. -/
def pagesPlaysSpec : ChangeSpec := { name := "pagesPlays", fn := fun _ => fun
  | [d1, d2] => { results := [.lit (.bool true)], args := [d1, d2] }
  | _ => none }
def pagesPlaysRow : OpenClaim := { program := "ytgglcfmnhiakcaa", sum := "20883afe3eebdf9fceded0d8220e6e7ad94f905dd3d405f0b87b854a0357f36e", func := "treadle/treadlelaw04.PagesPlays", spec := "pagesPlays", unfollowed := true, recurses := true, apart := false }
def PagesPlaysSaid : Prop := pagesPlaysRow.holds Try.pinned (OpenSpec.ofChange pagesPlaysSpec)

/-- ITS FALSE NEIGHBOUR: 'it returns false'. Refute it at one input. -/
def pagesPlaysWrong : ChangeSpec := { name := "pagesPlays", fn := fun _ => fun
  | [d1, d2] => { results := [.lit (.bool false)], args := [d1, d2] }
  | _ => none }
def PagesPlaysWrongFalsely : Prop := pagesPlaysRow.holds Try.pinned (OpenSpec.ofChange pagesPlaysWrong)

/-- 'treadlelaw04.PagesFirst': WHATEVER THE INPUT: true; the input reads as it did. -/
def pagesFirstSpec : ChangeSpec := { name := "pagesFirst", fn := fun _ => fun
  | [d1, d2, d3] => { results := [.lit (.bool true)], args := [d1, d2, d3] }
  | _ => none }
def pagesFirstRow : OpenClaim := { program := "ytgglcfmnhiakcaa", sum := "20883afe3eebdf9fceded0d8220e6e7ad94f905dd3d405f0b87b854a0357f36e", func := "treadle/treadlelaw04.PagesFirst", spec := "pagesFirst", unfollowed := true, recurses := true, apart := false }
def PagesFirstSaid : Prop := pagesFirstRow.holds Try.pinned (OpenSpec.ofChange pagesFirstSpec)

/-- ITS FALSE NEIGHBOUR: 'it returns false'. Refute it at one input. -/
def pagesFirstWrong : ChangeSpec := { name := "pagesFirst", fn := fun _ => fun
  | [d1, d2, d3] => { results := [.lit (.bool false)], args := [d1, d2, d3] }
  | _ => none }
def PagesFirstWrongFalsely : Prop := pagesFirstRow.holds Try.pinned (OpenSpec.ofChange pagesFirstWrong)

/-- 'treadlelaw04.PagesBack': WHATEVER THE INPUT: true; the input reads as it did. -/
def pagesBackSpec : ChangeSpec := { name := "pagesBack", fn := fun _ => fun
  | [d1, d2] => { results := [.lit (.bool true)], args := [d1, d2] }
  | _ => none }
def pagesBackRow : OpenClaim := { program := "ytgglcfmnhiakcaa", sum := "20883afe3eebdf9fceded0d8220e6e7ad94f905dd3d405f0b87b854a0357f36e", func := "treadle/treadlelaw04.PagesBack", spec := "pagesBack", unfollowed := true, recurses := true, apart := false }
def PagesBackSaid : Prop := pagesBackRow.holds Try.pinned (OpenSpec.ofChange pagesBackSpec)

/-- ITS FALSE NEIGHBOUR: 'it returns false'. Refute it at one input. -/
def pagesBackWrong : ChangeSpec := { name := "pagesBack", fn := fun _ => fun
  | [d1, d2] => { results := [.lit (.bool false)], args := [d1, d2] }
  | _ => none }
def PagesBackWrongFalsely : Prop := pagesBackRow.holds Try.pinned (OpenSpec.ofChange pagesBackWrong)

/-- 'treadlelaw04.PagesFixed': WHATEVER THE INPUT: true; the input reads as it did. -/
def pagesFixedSpec : ChangeSpec := { name := "pagesFixed", fn := fun _ => fun
  | [] => { results := [.lit (.bool true)], args := [] }
  | _ => none }
def pagesFixedRow : OpenClaim := { program := "ytgglcfmnhiakcaa", sum := "20883afe3eebdf9fceded0d8220e6e7ad94f905dd3d405f0b87b854a0357f36e", func := "treadle/treadlelaw04.PagesFixed", spec := "pagesFixed", unfollowed := true, recurses := true, apart := false }
def PagesFixedSaid : Prop := pagesFixedRow.holds Try.pinned (OpenSpec.ofChange pagesFixedSpec)

/-- ITS FALSE NEIGHBOUR: 'it returns false'. Refute it at one input. -/
def pagesFixedWrong : ChangeSpec := { name := "pagesFixed", fn := fun _ => fun
  | [] => { results := [.lit (.bool false)], args := [] }
  | _ => none }
def PagesFixedWrongFalsely : Prop := pagesFixedRow.holds Try.pinned (OpenSpec.ofChange pagesFixedWrong)

/-- 'treadlelaw05.SpanPlays': WHATEVER THE INPUT: true; the input reads as it did. -/
def spanPlaysSpec : ChangeSpec := { name := "spanPlays", fn := fun _ => fun
  | [d1, d2] => { results := [.lit (.bool true)], args := [d1, d2] }
  | _ => none }
def spanPlaysRow : OpenClaim := { program := "ytgglcfmnhiakcaa", sum := "20883afe3eebdf9fceded0d8220e6e7ad94f905dd3d405f0b87b854a0357f36e", func := "treadle/treadlelaw05.SpanPlays", spec := "spanPlays", unfollowed := true, recurses := true, apart := false }
def SpanPlaysSaid : Prop := spanPlaysRow.holds Try.pinned (OpenSpec.ofChange spanPlaysSpec)

/-- ITS FALSE NEIGHBOUR: 'it returns false'. Refute it at one input. -/
def spanPlaysWrong : ChangeSpec := { name := "spanPlays", fn := fun _ => fun
  | [d1, d2] => { results := [.lit (.bool false)], args := [d1, d2] }
  | _ => none }
def SpanPlaysWrongFalsely : Prop := spanPlaysRow.holds Try.pinned (OpenSpec.ofChange spanPlaysWrong)

/-- 'treadlelaw05.SpanBack': WHATEVER THE INPUT: true; the input reads as it did. -/
def spanBackSpec : ChangeSpec := { name := "spanBack", fn := fun _ => fun
  | [d1, d2] => { results := [.lit (.bool true)], args := [d1, d2] }
  | _ => none }
def spanBackRow : OpenClaim := { program := "ytgglcfmnhiakcaa", sum := "20883afe3eebdf9fceded0d8220e6e7ad94f905dd3d405f0b87b854a0357f36e", func := "treadle/treadlelaw05.SpanBack", spec := "spanBack", unfollowed := true, recurses := true, apart := false }
def SpanBackSaid : Prop := spanBackRow.holds Try.pinned (OpenSpec.ofChange spanBackSpec)

/-- ITS FALSE NEIGHBOUR: 'it returns false'. Refute it at one input. -/
def spanBackWrong : ChangeSpec := { name := "spanBack", fn := fun _ => fun
  | [d1, d2] => { results := [.lit (.bool false)], args := [d1, d2] }
  | _ => none }
def SpanBackWrongFalsely : Prop := spanBackRow.holds Try.pinned (OpenSpec.ofChange spanBackWrong)

/-- 'treadlelaw05.SpanFixed': WHATEVER THE INPUT: true; the input reads as it did. -/
def spanFixedSpec : ChangeSpec := { name := "spanFixed", fn := fun _ => fun
  | [] => { results := [.lit (.bool true)], args := [] }
  | _ => none }
def spanFixedRow : OpenClaim := { program := "ytgglcfmnhiakcaa", sum := "20883afe3eebdf9fceded0d8220e6e7ad94f905dd3d405f0b87b854a0357f36e", func := "treadle/treadlelaw05.SpanFixed", spec := "spanFixed", unfollowed := true, recurses := true, apart := false }
def SpanFixedSaid : Prop := spanFixedRow.holds Try.pinned (OpenSpec.ofChange spanFixedSpec)

/-- ITS FALSE NEIGHBOUR: 'it returns false'. Refute it at one input. -/
def spanFixedWrong : ChangeSpec := { name := "spanFixed", fn := fun _ => fun
  | [] => { results := [.lit (.bool false)], args := [] }
  | _ => none }
def SpanFixedWrongFalsely : Prop := spanFixedRow.holds Try.pinned (OpenSpec.ofChange spanFixedWrong)

/- THE SECOND FORM. 'bulk': how many values and letters a reading holds, each counted each time it is reached (what is shared counts as often as it is met; a slice's spare places count too). A statement '..UptoSaid' is the law's where the arguments, and the package variables that the reading takes, are together of bulk at most 1048576: NARROWER than '..Said'. Prove '..Said' where nothing that the law and all that it calls make is longer than what came in: it says more and counts as full. Else prove '..UptoSaid'. A law counts once. -/
mutual
def uptoBulk {H : Type} : DataW H → Nat
  | .lit (.string bytes) => bytes.length + 1
  | .lit _ => 1
  | .nil => 1
  | .ptr d => uptoBulk d + 1
  | .slice elems spare => uptoBulkAll elems + uptoBulkAll spare + 1
  | .agg parts => uptoBulkAll parts + 1
  | .iface _ d => uptoBulk d + 1
  | .map entries => uptoBulkEntries entries + 1
  | .held _ => 1
def uptoBulkAll {H : Type} : List (DataW H) → Nat
  | [] => 0
  | d :: r => uptoBulk d + uptoBulkAll r
def uptoBulkEntries {H : Type} : List (Lit × DataW H) → Nat
  | [] => 0
  | x :: r => uptoBulkEntry x + uptoBulkEntries r
def uptoBulkEntry {H : Type} : Lit × DataW H → Nat
  | (.string bytes, d) => bytes.length + uptoBulk d + 1
  | (_, d) => uptoBulk d + 1
 end
def uptoSmall : (H : Type) → List (DataW H) → Bool := fun _ ds => decide (uptoBulkAll ds ≤ 1048576)
def OpenSpec.upto (s : _root_.Go.ChangeSpec) : _root_.Go.OpenSpec := { _root_.Go.OpenSpec.ofChange s with cond := some uptoSmall }

/-- 'treadlelaw04.PagesPlays', WHERE WHAT IT READS IS OF BULK AT MOST 1048576: true; the input reads as it did. -/
def pagesPlaysUptoRow : OpenClaim := { program := "ytgglcfmnhiakcaa", sum := "20883afe3eebdf9fceded0d8220e6e7ad94f905dd3d405f0b87b854a0357f36e", func := "treadle/treadlelaw04.PagesPlays", spec := "pagesPlays", unfollowed := true, recurses := true, apart := false, narrowed := true }
def PagesPlaysUptoSaid : Prop := pagesPlaysUptoRow.holds Try.pinned (OpenSpec.upto pagesPlaysSpec)

/-- 'treadlelaw04.PagesFirst', WHERE WHAT IT READS IS OF BULK AT MOST 1048576: true; the input reads as it did. -/
def pagesFirstUptoRow : OpenClaim := { program := "ytgglcfmnhiakcaa", sum := "20883afe3eebdf9fceded0d8220e6e7ad94f905dd3d405f0b87b854a0357f36e", func := "treadle/treadlelaw04.PagesFirst", spec := "pagesFirst", unfollowed := true, recurses := true, apart := false, narrowed := true }
def PagesFirstUptoSaid : Prop := pagesFirstUptoRow.holds Try.pinned (OpenSpec.upto pagesFirstSpec)

/-- 'treadlelaw04.PagesBack', WHERE WHAT IT READS IS OF BULK AT MOST 1048576: true; the input reads as it did. -/
def pagesBackUptoRow : OpenClaim := { program := "ytgglcfmnhiakcaa", sum := "20883afe3eebdf9fceded0d8220e6e7ad94f905dd3d405f0b87b854a0357f36e", func := "treadle/treadlelaw04.PagesBack", spec := "pagesBack", unfollowed := true, recurses := true, apart := false, narrowed := true }
def PagesBackUptoSaid : Prop := pagesBackUptoRow.holds Try.pinned (OpenSpec.upto pagesBackSpec)

/-- 'treadlelaw04.PagesFixed', WHERE WHAT IT READS IS OF BULK AT MOST 1048576: true; the input reads as it did. -/
def pagesFixedUptoRow : OpenClaim := { program := "ytgglcfmnhiakcaa", sum := "20883afe3eebdf9fceded0d8220e6e7ad94f905dd3d405f0b87b854a0357f36e", func := "treadle/treadlelaw04.PagesFixed", spec := "pagesFixed", unfollowed := true, recurses := true, apart := false, narrowed := true }
def PagesFixedUptoSaid : Prop := pagesFixedUptoRow.holds Try.pinned (OpenSpec.upto pagesFixedSpec)

/-- 'treadlelaw05.SpanPlays', WHERE WHAT IT READS IS OF BULK AT MOST 1048576: true; the input reads as it did. -/
def spanPlaysUptoRow : OpenClaim := { program := "ytgglcfmnhiakcaa", sum := "20883afe3eebdf9fceded0d8220e6e7ad94f905dd3d405f0b87b854a0357f36e", func := "treadle/treadlelaw05.SpanPlays", spec := "spanPlays", unfollowed := true, recurses := true, apart := false, narrowed := true }
def SpanPlaysUptoSaid : Prop := spanPlaysUptoRow.holds Try.pinned (OpenSpec.upto spanPlaysSpec)

/-- 'treadlelaw05.SpanBack', WHERE WHAT IT READS IS OF BULK AT MOST 1048576: true; the input reads as it did. -/
def spanBackUptoRow : OpenClaim := { program := "ytgglcfmnhiakcaa", sum := "20883afe3eebdf9fceded0d8220e6e7ad94f905dd3d405f0b87b854a0357f36e", func := "treadle/treadlelaw05.SpanBack", spec := "spanBack", unfollowed := true, recurses := true, apart := false, narrowed := true }
def SpanBackUptoSaid : Prop := spanBackUptoRow.holds Try.pinned (OpenSpec.upto spanBackSpec)

/-- 'treadlelaw05.SpanFixed', WHERE WHAT IT READS IS OF BULK AT MOST 1048576: true; the input reads as it did. -/
def spanFixedUptoRow : OpenClaim := { program := "ytgglcfmnhiakcaa", sum := "20883afe3eebdf9fceded0d8220e6e7ad94f905dd3d405f0b87b854a0357f36e", func := "treadle/treadlelaw05.SpanFixed", spec := "spanFixed", unfollowed := true, recurses := true, apart := false, narrowed := true }
def SpanFixedUptoSaid : Prop := spanFixedUptoRow.holds Try.pinned (OpenSpec.upto spanFixedSpec)

end Rows
end Go.Proofs.Ytgglcfmnhiakcaa
