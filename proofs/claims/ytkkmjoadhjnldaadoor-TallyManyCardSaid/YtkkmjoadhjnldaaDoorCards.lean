/-
  DERIVED. GIVEN WITH THE SEED: THE CARDS: each row of YtkkmjoadhjnldaaDoorRows.lean that lists a variable, with what it lists TIED to the program's text (the seventh form; the later family's looks); each row that meets fmt, with fmt's text TOLD by the authors' own Lean function (tested against real Go, not proved from fmt's source: count such statements apart). THE CARD IS WHAT COUNTS. Prove the row's statement (the work); the ties are given (YtkkmjoadhjnldaaDoorTie.lean); close each card by the builder's one call (the guide's Derived/Test/ToyasCard.lean, 'card_holds'). Laid BY PROGRAM, IN A SANDBOX (cutbox-door.mjs). By AI agents, Wed Nov 11 2026. No macro, syntax, notation, axiom, sorry.
-/
import Derived.Test.YtkkmjoadhjnldaaDoorRows
import GoSem.ClaimSeven
namespace Go.Proofs.YtkkmjoadhjnldaaDoor
namespace Rows

/-- THE TIED CARD OF 'signalmanlaw07.TallyDoes'. -/
def tallyDoesCard : Claim7 := { stood := { row := tallyDoesRow, standIns := [], harness := (true, "9cba4e9d709ef606b1e62d706a3bef3e176a0e92858af24b2909254dc2ae1b64"), looks := false }, kinds := [], alts := [], laidByText := true, laidKinds := [.data, .data, .data], laidTests := true, laidLooks := .later }
def TallyDoesCardSaid : Prop := Claim7.holds Tryd.pinned (.plain (OpenSpec.ofChange tallyDoesSpec)) tallyDoesCard

/-- THE TIED CARD OF 'signalmanlaw07.TallyOrder'. -/
def tallyOrderCard : Claim7 := { stood := { row := tallyOrderRow, standIns := [], harness := (true, "9cba4e9d709ef606b1e62d706a3bef3e176a0e92858af24b2909254dc2ae1b64"), looks := false }, kinds := [], alts := [], laidByText := true, laidKinds := [.data, .data, .data], laidTests := true, laidLooks := .later }
def TallyOrderCardSaid : Prop := Claim7.holds Tryd.pinned (.plain (OpenSpec.ofChange tallyOrderSpec)) tallyOrderCard

/-- THE TIED CARD OF 'signalmanlaw07.TallyMany'. -/
def tallyManyCard : Claim7 := { stood := { row := tallyManyRow, standIns := [], harness := (true, "9cba4e9d709ef606b1e62d706a3bef3e176a0e92858af24b2909254dc2ae1b64"), looks := false }, kinds := [], alts := [], laidByText := true, laidKinds := [.data, .data, .data], laidTests := true, laidLooks := .later }
def TallyManyCardSaid : Prop := Claim7.holds Tryd.pinned (.plain (OpenSpec.ofChange tallyManySpec)) tallyManyCard

/-- THE SECOND FORM's CARD OF 'signalmanlaw07.TallyDoes'. -/
def tallyDoesUptoCard : Claim7 := { stood := { row := tallyDoesUptoRow, standIns := [], harness := (true, "9cba4e9d709ef606b1e62d706a3bef3e176a0e92858af24b2909254dc2ae1b64"), looks := false }, kinds := [], alts := [], laidByText := true, laidKinds := [.data, .data, .data], laidTests := true, laidLooks := .later }
def TallyDoesUptoCardSaid : Prop := Claim7.holds Tryd.pinned (.plain (OpenSpec.upto tallyDoesSpec)) tallyDoesUptoCard

/-- THE SECOND FORM's CARD OF 'signalmanlaw07.TallyOrder'. -/
def tallyOrderUptoCard : Claim7 := { stood := { row := tallyOrderUptoRow, standIns := [], harness := (true, "9cba4e9d709ef606b1e62d706a3bef3e176a0e92858af24b2909254dc2ae1b64"), looks := false }, kinds := [], alts := [], laidByText := true, laidKinds := [.data, .data, .data], laidTests := true, laidLooks := .later }
def TallyOrderUptoCardSaid : Prop := Claim7.holds Tryd.pinned (.plain (OpenSpec.upto tallyOrderSpec)) tallyOrderUptoCard

/-- THE SECOND FORM's CARD OF 'signalmanlaw07.TallyMany'. -/
def tallyManyUptoCard : Claim7 := { stood := { row := tallyManyUptoRow, standIns := [], harness := (true, "9cba4e9d709ef606b1e62d706a3bef3e176a0e92858af24b2909254dc2ae1b64"), looks := false }, kinds := [], alts := [], laidByText := true, laidKinds := [.data, .data, .data], laidTests := true, laidLooks := .later }
def TallyManyUptoCardSaid : Prop := Claim7.holds Tryd.pinned (.plain (OpenSpec.upto tallyManySpec)) tallyManyUptoCard
end Rows
end Go.Proofs.YtkkmjoadhjnldaaDoor
