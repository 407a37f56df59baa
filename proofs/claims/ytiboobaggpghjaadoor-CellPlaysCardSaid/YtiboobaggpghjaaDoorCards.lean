/-
  DERIVED. GIVEN WITH THE SEED: THE CARDS: each row of YtiboobaggpghjaaDoorRows.lean that lists a variable, with what it lists TIED to the program's text (the seventh form; the later family's looks); each row that meets fmt, with fmt's text TOLD by the authors' own Lean function (tested against real Go, not proved from fmt's source: count such statements apart). THE CARD IS WHAT COUNTS. Prove the row's statement (the work); the ties are given (YtiboobaggpghjaaDoorTie.lean); close each card by the builder's one call (the guide's Derived/Test/ToyasCard.lean, 'card_holds'). Laid BY PROGRAM, IN A SANDBOX (cutbox-door.mjs). By AI agents, Wed Nov 11 2026. No macro, syntax, notation, axiom, sorry.
-/
import Derived.Test.YtiboobaggpghjaaDoorRows
import GoSem.ClaimSeven
namespace Go.Proofs.YtiboobaggpghjaaDoor
namespace Rows

/-- THE TIED CARD OF 'treadlelaw06.ClassTells'. -/
def classTellsCard : Claim7 := { stood := { row := classTellsRow, standIns := [], harness := (true, "3ba3a1b8f9fb928e299fad0d31f91a13a4f30e2b1d6d3b9ada7513b0b641fe93"), looks := false }, kinds := [], alts := [], laidByText := true, laidKinds := [.data], laidTests := true, laidLooks := .later }
def ClassTellsCardSaid : Prop := Claim7.holds Tryd.pinned (.plain (OpenSpec.ofChange classTellsSpec)) classTellsCard

/-- THE TIED CARD OF 'treadlelaw06.ClassWaste'. -/
def classWasteCard : Claim7 := { stood := { row := classWasteRow, standIns := [], harness := (true, "3ba3a1b8f9fb928e299fad0d31f91a13a4f30e2b1d6d3b9ada7513b0b641fe93"), looks := false }, kinds := [], alts := [], laidByText := true, laidKinds := [.data], laidTests := true, laidLooks := .later }
def ClassWasteCardSaid : Prop := Claim7.holds Tryd.pinned (.plain (OpenSpec.ofChange classWasteSpec)) classWasteCard

/-- THE TIED CARD OF 'treadlelaw06.ClassRises'. -/
def classRisesCard : Claim7 := { stood := { row := classRisesRow, standIns := [], harness := (true, "3ba3a1b8f9fb928e299fad0d31f91a13a4f30e2b1d6d3b9ada7513b0b641fe93"), looks := false }, kinds := [], alts := [], laidByText := true, laidKinds := [.data], laidTests := true, laidLooks := .later }
def ClassRisesCardSaid : Prop := Claim7.holds Tryd.pinned (.plain (OpenSpec.ofChange classRisesSpec)) classRisesCard

/-- THE TIED CARD OF 'treadlelaw07.CellPlays'. -/
def cellPlaysCard : Claim7 := { stood := { row := cellPlaysRow, standIns := [], harness := (true, "3ba3a1b8f9fb928e299fad0d31f91a13a4f30e2b1d6d3b9ada7513b0b641fe93"), looks := false }, kinds := [], alts := [], laidByText := true, laidKinds := [.data], laidTests := true, laidLooks := .later }
def CellPlaysCardSaid : Prop := Claim7.holds Tryd.pinned (.plain (OpenSpec.ofChange cellPlaysSpec)) cellPlaysCard

/-- THE TIED CARD OF 'treadlelaw07.CellApart'. -/
def cellApartCard : Claim7 := { stood := { row := cellApartRow, standIns := [], harness := (true, "3ba3a1b8f9fb928e299fad0d31f91a13a4f30e2b1d6d3b9ada7513b0b641fe93"), looks := false }, kinds := [], alts := [], laidByText := true, laidKinds := [.data], laidTests := true, laidLooks := .later }
def CellApartCardSaid : Prop := Claim7.holds Tryd.pinned (.plain (OpenSpec.ofChange cellApartSpec)) cellApartCard

/-- THE TIED CARD OF 'treadlelaw07.CellBack'. -/
def cellBackCard : Claim7 := { stood := { row := cellBackRow, standIns := [], harness := (true, "3ba3a1b8f9fb928e299fad0d31f91a13a4f30e2b1d6d3b9ada7513b0b641fe93"), looks := false }, kinds := [], alts := [], laidByText := true, laidKinds := [.data], laidTests := true, laidLooks := .later }
def CellBackCardSaid : Prop := Claim7.holds Tryd.pinned (.plain (OpenSpec.ofChange cellBackSpec)) cellBackCard

/-- THE TIED CARD OF 'treadlelaw07.CellOwn'. -/
def cellOwnCard : Claim7 := { stood := { row := cellOwnRow, standIns := [], harness := (true, "3ba3a1b8f9fb928e299fad0d31f91a13a4f30e2b1d6d3b9ada7513b0b641fe93"), looks := false }, kinds := [], alts := [], laidByText := true, laidKinds := [.data], laidTests := true, laidLooks := .later }
def CellOwnCardSaid : Prop := Claim7.holds Tryd.pinned (.plain (OpenSpec.ofChange cellOwnSpec)) cellOwnCard

/-- THE TIED CARD OF 'treadlelaw07.CellFixed'. -/
def cellFixedCard : Claim7 := { stood := { row := cellFixedRow, standIns := [], harness := (true, "3ba3a1b8f9fb928e299fad0d31f91a13a4f30e2b1d6d3b9ada7513b0b641fe93"), looks := false }, kinds := [], alts := [], laidByText := true, laidKinds := [.data], laidTests := true, laidLooks := .later }
def CellFixedCardSaid : Prop := Claim7.holds Tryd.pinned (.plain (OpenSpec.ofChange cellFixedSpec)) cellFixedCard

/-- THE SECOND FORM's CARD OF 'treadlelaw06.ClassTells'. -/
def classTellsUptoCard : Claim7 := { stood := { row := classTellsUptoRow, standIns := [], harness := (true, "3ba3a1b8f9fb928e299fad0d31f91a13a4f30e2b1d6d3b9ada7513b0b641fe93"), looks := false }, kinds := [], alts := [], laidByText := true, laidKinds := [.data], laidTests := true, laidLooks := .later }
def ClassTellsUptoCardSaid : Prop := Claim7.holds Tryd.pinned (.plain (OpenSpec.upto classTellsSpec)) classTellsUptoCard

/-- THE SECOND FORM's CARD OF 'treadlelaw06.ClassWaste'. -/
def classWasteUptoCard : Claim7 := { stood := { row := classWasteUptoRow, standIns := [], harness := (true, "3ba3a1b8f9fb928e299fad0d31f91a13a4f30e2b1d6d3b9ada7513b0b641fe93"), looks := false }, kinds := [], alts := [], laidByText := true, laidKinds := [.data], laidTests := true, laidLooks := .later }
def ClassWasteUptoCardSaid : Prop := Claim7.holds Tryd.pinned (.plain (OpenSpec.upto classWasteSpec)) classWasteUptoCard

/-- THE SECOND FORM's CARD OF 'treadlelaw06.ClassRises'. -/
def classRisesUptoCard : Claim7 := { stood := { row := classRisesUptoRow, standIns := [], harness := (true, "3ba3a1b8f9fb928e299fad0d31f91a13a4f30e2b1d6d3b9ada7513b0b641fe93"), looks := false }, kinds := [], alts := [], laidByText := true, laidKinds := [.data], laidTests := true, laidLooks := .later }
def ClassRisesUptoCardSaid : Prop := Claim7.holds Tryd.pinned (.plain (OpenSpec.upto classRisesSpec)) classRisesUptoCard

/-- THE SECOND FORM's CARD OF 'treadlelaw07.CellPlays'. -/
def cellPlaysUptoCard : Claim7 := { stood := { row := cellPlaysUptoRow, standIns := [], harness := (true, "3ba3a1b8f9fb928e299fad0d31f91a13a4f30e2b1d6d3b9ada7513b0b641fe93"), looks := false }, kinds := [], alts := [], laidByText := true, laidKinds := [.data], laidTests := true, laidLooks := .later }
def CellPlaysUptoCardSaid : Prop := Claim7.holds Tryd.pinned (.plain (OpenSpec.upto cellPlaysSpec)) cellPlaysUptoCard

/-- THE SECOND FORM's CARD OF 'treadlelaw07.CellApart'. -/
def cellApartUptoCard : Claim7 := { stood := { row := cellApartUptoRow, standIns := [], harness := (true, "3ba3a1b8f9fb928e299fad0d31f91a13a4f30e2b1d6d3b9ada7513b0b641fe93"), looks := false }, kinds := [], alts := [], laidByText := true, laidKinds := [.data], laidTests := true, laidLooks := .later }
def CellApartUptoCardSaid : Prop := Claim7.holds Tryd.pinned (.plain (OpenSpec.upto cellApartSpec)) cellApartUptoCard

/-- THE SECOND FORM's CARD OF 'treadlelaw07.CellBack'. -/
def cellBackUptoCard : Claim7 := { stood := { row := cellBackUptoRow, standIns := [], harness := (true, "3ba3a1b8f9fb928e299fad0d31f91a13a4f30e2b1d6d3b9ada7513b0b641fe93"), looks := false }, kinds := [], alts := [], laidByText := true, laidKinds := [.data], laidTests := true, laidLooks := .later }
def CellBackUptoCardSaid : Prop := Claim7.holds Tryd.pinned (.plain (OpenSpec.upto cellBackSpec)) cellBackUptoCard

/-- THE SECOND FORM's CARD OF 'treadlelaw07.CellOwn'. -/
def cellOwnUptoCard : Claim7 := { stood := { row := cellOwnUptoRow, standIns := [], harness := (true, "3ba3a1b8f9fb928e299fad0d31f91a13a4f30e2b1d6d3b9ada7513b0b641fe93"), looks := false }, kinds := [], alts := [], laidByText := true, laidKinds := [.data], laidTests := true, laidLooks := .later }
def CellOwnUptoCardSaid : Prop := Claim7.holds Tryd.pinned (.plain (OpenSpec.upto cellOwnSpec)) cellOwnUptoCard

/-- THE SECOND FORM's CARD OF 'treadlelaw07.CellFixed'. -/
def cellFixedUptoCard : Claim7 := { stood := { row := cellFixedUptoRow, standIns := [], harness := (true, "3ba3a1b8f9fb928e299fad0d31f91a13a4f30e2b1d6d3b9ada7513b0b641fe93"), looks := false }, kinds := [], alts := [], laidByText := true, laidKinds := [.data], laidTests := true, laidLooks := .later }
def CellFixedUptoCardSaid : Prop := Claim7.holds Tryd.pinned (.plain (OpenSpec.upto cellFixedSpec)) cellFixedUptoCard
end Rows
end Go.Proofs.YtiboobaggpghjaaDoor
