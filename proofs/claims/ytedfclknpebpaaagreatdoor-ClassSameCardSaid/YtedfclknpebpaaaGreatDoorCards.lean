/-
  DERIVED. GIVEN WITH THE SEED: THE CARDS: each row of YtedfclknpebpaaaGreatDoorRows.lean that lists a variable, with what it lists TIED to the program's text (the seventh form; the later family's looks); each row that meets fmt, with fmt's text TOLD by the authors' own Lean function (tested against real Go, not proved from fmt's source: count such statements apart). THE CARD IS WHAT COUNTS. Prove the row's statement (the work); the ties are given (YtedfclknpebpaaaGreatDoorTie.lean); close each card by the builder's one call (the guide's Derived/Test/ToyasCard.lean, 'card_holds'). Laid BY PROGRAM, IN A SANDBOX (cutbox-door.mjs). By AI agents, Wed Nov 11 2026. No macro, syntax, notation, axiom, sorry.
-/
import Derived.Test.YtedfclknpebpaaaGreatDoorRows
import GoSem.ClaimSeven
namespace Go.Proofs.YtedfclknpebpaaaGreatDoor
namespace Rows

/-- THE TIED CARD OF 'signalmanlaw05.ClassTells'. -/
def classTellsCard : Claim7 := { stood := { row := classTellsRow, standIns := [], harness := (true, "92cc63bb41ae001ae72b72d7e2aea9120b35a7a28f0263726ab3e521b468fdbe"), looks := false }, kinds := [], alts := [], laidByText := true, laidKinds := [.data, .pinned], laidTests := true, laidLooks := .later }
def ClassTellsCardSaid : Prop := Claim7.holds Tryz.pinned (.plain (OpenSpec.ofChange classTellsSpec)) classTellsCard

/-- THE TIED CARD OF 'signalmanlaw05.ClassSafe'. -/
def classSafeCard : Claim7 := { stood := { row := classSafeRow, standIns := [], harness := (true, "92cc63bb41ae001ae72b72d7e2aea9120b35a7a28f0263726ab3e521b468fdbe"), looks := false }, kinds := [], alts := [], laidByText := true, laidKinds := [.data, .pinned], laidTests := true, laidLooks := .later }
def ClassSafeCardSaid : Prop := Claim7.holds Tryz.pinned (.plain (OpenSpec.ofChange classSafeSpec)) classSafeCard

/-- THE TIED CARD OF 'signalmanlaw05.ClassSame'. -/
def classSameCard : Claim7 := { stood := { row := classSameRow, standIns := [], harness := (true, "92cc63bb41ae001ae72b72d7e2aea9120b35a7a28f0263726ab3e521b468fdbe"), looks := false }, kinds := [], alts := [], laidByText := true, laidKinds := [.data, .pinned, .pinned], laidTests := true, laidLooks := .later }
def ClassSameCardSaid : Prop := Claim7.holds Tryz.pinned (.plain (OpenSpec.ofChange classSameSpec)) classSameCard

/-- THE TIED CARD OF 'signalmanlaw05.ClassOne'. -/
def classOneCard : Claim7 := { stood := { row := classOneRow, standIns := [], harness := (true, "92cc63bb41ae001ae72b72d7e2aea9120b35a7a28f0263726ab3e521b468fdbe"), looks := false }, kinds := [], alts := [], laidByText := true, laidKinds := [.data, .pinned], laidTests := true, laidLooks := .later }
def ClassOneCardSaid : Prop := Claim7.holds Tryz.pinned (.plain (OpenSpec.ofChange classOneSpec)) classOneCard

/-- THE SECOND FORM's CARD OF 'signalmanlaw05.ClassTells'. -/
def classTellsUptoCard : Claim7 := { stood := { row := classTellsUptoRow, standIns := [], harness := (true, "92cc63bb41ae001ae72b72d7e2aea9120b35a7a28f0263726ab3e521b468fdbe"), looks := false }, kinds := [], alts := [], laidByText := true, laidKinds := [.data, .pinned], laidTests := true, laidLooks := .later }
def ClassTellsUptoCardSaid : Prop := Claim7.holds Tryz.pinned (.plain (OpenSpec.upto classTellsSpec)) classTellsUptoCard

/-- THE SECOND FORM's CARD OF 'signalmanlaw05.ClassSafe'. -/
def classSafeUptoCard : Claim7 := { stood := { row := classSafeUptoRow, standIns := [], harness := (true, "92cc63bb41ae001ae72b72d7e2aea9120b35a7a28f0263726ab3e521b468fdbe"), looks := false }, kinds := [], alts := [], laidByText := true, laidKinds := [.data, .pinned], laidTests := true, laidLooks := .later }
def ClassSafeUptoCardSaid : Prop := Claim7.holds Tryz.pinned (.plain (OpenSpec.upto classSafeSpec)) classSafeUptoCard

/-- THE SECOND FORM's CARD OF 'signalmanlaw05.ClassSame'. -/
def classSameUptoCard : Claim7 := { stood := { row := classSameUptoRow, standIns := [], harness := (true, "92cc63bb41ae001ae72b72d7e2aea9120b35a7a28f0263726ab3e521b468fdbe"), looks := false }, kinds := [], alts := [], laidByText := true, laidKinds := [.data, .pinned, .pinned], laidTests := true, laidLooks := .later }
def ClassSameUptoCardSaid : Prop := Claim7.holds Tryz.pinned (.plain (OpenSpec.upto classSameSpec)) classSameUptoCard

/-- THE SECOND FORM's CARD OF 'signalmanlaw05.ClassOne'. -/
def classOneUptoCard : Claim7 := { stood := { row := classOneUptoRow, standIns := [], harness := (true, "92cc63bb41ae001ae72b72d7e2aea9120b35a7a28f0263726ab3e521b468fdbe"), looks := false }, kinds := [], alts := [], laidByText := true, laidKinds := [.data, .pinned], laidTests := true, laidLooks := .later }
def ClassOneUptoCardSaid : Prop := Claim7.holds Tryz.pinned (.plain (OpenSpec.upto classOneSpec)) classOneUptoCard
end Rows
end Go.Proofs.YtedfclknpebpaaaGreatDoor
