/-
  DERIVED. GIVEN WITH THE SEED: THE CARDS: each row of YtaoegiohnebnhaaGreatDoorRows.lean that lists a variable, with what it lists TIED to the program's text (the seventh form; the later family's looks); each row that meets fmt, with fmt's text TOLD by the authors' own Lean function (tested against real Go, not proved from fmt's source: count such statements apart). THE CARD IS WHAT COUNTS. Prove the row's statement (the work); the ties are given (YtaoegiohnebnhaaGreatDoorTie.lean); close each card by the builder's one call (the guide's Derived/Test/ToyasCard.lean, 'card_holds'). Laid BY PROGRAM, IN A SANDBOX (cutbox-door.mjs). By AI agents, Wed Nov 11 2026. No macro, syntax, notation, axiom, sorry.
-/
import Derived.Test.YtaoegiohnebnhaaGreatDoorRows
import GoSem.ClaimSeven
namespace Go.Proofs.YtaoegiohnebnhaaGreatDoor
namespace Rows

/-- THE TIED CARD OF 'signalmanlaw15.NodeDoes'. -/
def nodeDoesCard : Claim7 := { stood := { row := nodeDoesRow, standIns := [], harness := (true, "9bdeb40d72fd8d5a23684550ce4073ee59252bcbcdb3fb31445e760bbe363b8a"), looks := false }, kinds := [], alts := [], laidByText := true, laidKinds := [.data, .pinned], laidTests := true, laidLooks := .later }
def NodeDoesCardSaid : Prop := Claim7.holds Tryz.pinned (.plain (OpenSpec.ofChange nodeDoesSpec)) nodeDoesCard

/-- THE TIED CARD OF 'signalmanlaw15.NodeFences'. -/
def nodeFencesCard : Claim7 := { stood := { row := nodeFencesRow, standIns := [], harness := (true, "9bdeb40d72fd8d5a23684550ce4073ee59252bcbcdb3fb31445e760bbe363b8a"), looks := false }, kinds := [], alts := [], laidByText := true, laidKinds := [.data, .pinned], laidTests := true, laidLooks := .later }
def NodeFencesCardSaid : Prop := Claim7.holds Tryz.pinned (.plain (OpenSpec.ofChange nodeFencesSpec)) nodeFencesCard

/-- THE TIED CARD OF 'signalmanlaw15.NodeWhole'. -/
def nodeWholeCard : Claim7 := { stood := { row := nodeWholeRow, standIns := [], harness := (true, "9bdeb40d72fd8d5a23684550ce4073ee59252bcbcdb3fb31445e760bbe363b8a"), looks := false }, kinds := [], alts := [], laidByText := true, laidKinds := [.data, .pinned], laidTests := true, laidLooks := .later }
def NodeWholeCardSaid : Prop := Claim7.holds Tryz.pinned (.plain (OpenSpec.ofChange nodeWholeSpec)) nodeWholeCard

/-- THE TIED CARD OF 'signalmanlaw15.NodeCopies'. -/
def nodeCopiesCard : Claim7 := { stood := { row := nodeCopiesRow, standIns := [], harness := (true, "9bdeb40d72fd8d5a23684550ce4073ee59252bcbcdb3fb31445e760bbe363b8a"), looks := false }, kinds := [], alts := [], laidByText := true, laidKinds := [.data, .pinned], laidTests := true, laidLooks := .later }
def NodeCopiesCardSaid : Prop := Claim7.holds Tryz.pinned (.plain (OpenSpec.ofChange nodeCopiesSpec)) nodeCopiesCard

/-- THE TIED CARD OF 'signalmanlaw15.NodeReads'. -/
def nodeReadsCard : Claim7 := { stood := { row := nodeReadsRow, standIns := [], harness := (true, "9bdeb40d72fd8d5a23684550ce4073ee59252bcbcdb3fb31445e760bbe363b8a"), looks := false }, kinds := [], alts := [], laidByText := true, laidKinds := [.data, .pinned], laidTests := true, laidLooks := .later }
def NodeReadsCardSaid : Prop := Claim7.holds Tryz.pinned (.plain (OpenSpec.ofChange nodeReadsSpec)) nodeReadsCard

/-- THE SECOND FORM's CARD OF 'signalmanlaw15.NodeDoes'. -/
def nodeDoesUptoCard : Claim7 := { stood := { row := nodeDoesUptoRow, standIns := [], harness := (true, "9bdeb40d72fd8d5a23684550ce4073ee59252bcbcdb3fb31445e760bbe363b8a"), looks := false }, kinds := [], alts := [], laidByText := true, laidKinds := [.data, .pinned], laidTests := true, laidLooks := .later }
def NodeDoesUptoCardSaid : Prop := Claim7.holds Tryz.pinned (.plain (OpenSpec.upto nodeDoesSpec)) nodeDoesUptoCard

/-- THE SECOND FORM's CARD OF 'signalmanlaw15.NodeFences'. -/
def nodeFencesUptoCard : Claim7 := { stood := { row := nodeFencesUptoRow, standIns := [], harness := (true, "9bdeb40d72fd8d5a23684550ce4073ee59252bcbcdb3fb31445e760bbe363b8a"), looks := false }, kinds := [], alts := [], laidByText := true, laidKinds := [.data, .pinned], laidTests := true, laidLooks := .later }
def NodeFencesUptoCardSaid : Prop := Claim7.holds Tryz.pinned (.plain (OpenSpec.upto nodeFencesSpec)) nodeFencesUptoCard

/-- THE SECOND FORM's CARD OF 'signalmanlaw15.NodeWhole'. -/
def nodeWholeUptoCard : Claim7 := { stood := { row := nodeWholeUptoRow, standIns := [], harness := (true, "9bdeb40d72fd8d5a23684550ce4073ee59252bcbcdb3fb31445e760bbe363b8a"), looks := false }, kinds := [], alts := [], laidByText := true, laidKinds := [.data, .pinned], laidTests := true, laidLooks := .later }
def NodeWholeUptoCardSaid : Prop := Claim7.holds Tryz.pinned (.plain (OpenSpec.upto nodeWholeSpec)) nodeWholeUptoCard

/-- THE SECOND FORM's CARD OF 'signalmanlaw15.NodeCopies'. -/
def nodeCopiesUptoCard : Claim7 := { stood := { row := nodeCopiesUptoRow, standIns := [], harness := (true, "9bdeb40d72fd8d5a23684550ce4073ee59252bcbcdb3fb31445e760bbe363b8a"), looks := false }, kinds := [], alts := [], laidByText := true, laidKinds := [.data, .pinned], laidTests := true, laidLooks := .later }
def NodeCopiesUptoCardSaid : Prop := Claim7.holds Tryz.pinned (.plain (OpenSpec.upto nodeCopiesSpec)) nodeCopiesUptoCard

/-- THE SECOND FORM's CARD OF 'signalmanlaw15.NodeReads'. -/
def nodeReadsUptoCard : Claim7 := { stood := { row := nodeReadsUptoRow, standIns := [], harness := (true, "9bdeb40d72fd8d5a23684550ce4073ee59252bcbcdb3fb31445e760bbe363b8a"), looks := false }, kinds := [], alts := [], laidByText := true, laidKinds := [.data, .pinned], laidTests := true, laidLooks := .later }
def NodeReadsUptoCardSaid : Prop := Claim7.holds Tryz.pinned (.plain (OpenSpec.upto nodeReadsSpec)) nodeReadsUptoCard
end Rows
end Go.Proofs.YtaoegiohnebnhaaGreatDoor
