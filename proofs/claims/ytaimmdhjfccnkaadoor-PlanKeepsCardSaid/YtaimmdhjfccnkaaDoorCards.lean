/-
  DERIVED. GIVEN WITH THE SEED: THE CARDS: each row of YtaimmdhjfccnkaaDoorRows.lean that lists a variable, with what it lists TIED to the program's text (the seventh form; the later family's looks); each row that meets fmt, with fmt's text TOLD by the authors' own Lean function (tested against real Go, not proved from fmt's source: count such statements apart). THE CARD IS WHAT COUNTS. Prove the row's statement (the work); the ties are given (YtaimmdhjfccnkaaDoorTie.lean); close each card by the builder's one call (the guide's Derived/Test/ToyasCard.lean, 'card_holds'). Laid BY PROGRAM, IN A SANDBOX (cutbox-door.mjs). By AI agents, Wed Nov 11 2026. No macro, syntax, notation, axiom, sorry.
-/
import Derived.Test.YtaimmdhjfccnkaaDoorRows
import GoSem.ClaimSeven
namespace Go.Proofs.YtaimmdhjfccnkaaDoor
namespace Rows

/-- THE TIED CARD OF 'signalmanlaw06.PlanDoes'. -/
def planDoesCard : Claim7 := { stood := { row := planDoesRow, standIns := [], harness := (true, "bfcb389f08bd5ed3832df11c3fd15cfca0cc84d5849b10fa436e38050d1c121c"), looks := false }, kinds := [], alts := [], laidByText := true, laidKinds := [.data, .pinned], laidTests := true, laidLooks := .later }
def PlanDoesCardSaid : Prop := Claim7.holds Tryd.pinned (.plain (OpenSpec.ofChange planDoesSpec)) planDoesCard

/-- THE TIED CARD OF 'signalmanlaw06.PlanKeeps'. -/
def planKeepsCard : Claim7 := { stood := { row := planKeepsRow, standIns := [], harness := (true, "bfcb389f08bd5ed3832df11c3fd15cfca0cc84d5849b10fa436e38050d1c121c"), looks := false }, kinds := [], alts := [], laidByText := true, laidKinds := [.data, .pinned], laidTests := true, laidLooks := .later }
def PlanKeepsCardSaid : Prop := Claim7.holds Tryd.pinned (.plain (OpenSpec.ofChange planKeepsSpec)) planKeepsCard

/-- THE TIED CARD OF 'signalmanlaw06.PlanQuotes'. -/
def planQuotesCard : Claim7 := { stood := { row := planQuotesRow, standIns := [], harness := (true, "bfcb389f08bd5ed3832df11c3fd15cfca0cc84d5849b10fa436e38050d1c121c"), looks := false }, kinds := [], alts := [], laidByText := true, laidKinds := [.data, .pinned], laidTests := true, laidLooks := .later }
def PlanQuotesCardSaid : Prop := Claim7.holds Tryd.pinned (.plain (OpenSpec.ofChange planQuotesSpec)) planQuotesCard

/-- THE SECOND FORM's CARD OF 'signalmanlaw06.PlanDoes'. -/
def planDoesUptoCard : Claim7 := { stood := { row := planDoesUptoRow, standIns := [], harness := (true, "bfcb389f08bd5ed3832df11c3fd15cfca0cc84d5849b10fa436e38050d1c121c"), looks := false }, kinds := [], alts := [], laidByText := true, laidKinds := [.data, .pinned], laidTests := true, laidLooks := .later }
def PlanDoesUptoCardSaid : Prop := Claim7.holds Tryd.pinned (.plain (OpenSpec.upto planDoesSpec)) planDoesUptoCard

/-- THE SECOND FORM's CARD OF 'signalmanlaw06.PlanKeeps'. -/
def planKeepsUptoCard : Claim7 := { stood := { row := planKeepsUptoRow, standIns := [], harness := (true, "bfcb389f08bd5ed3832df11c3fd15cfca0cc84d5849b10fa436e38050d1c121c"), looks := false }, kinds := [], alts := [], laidByText := true, laidKinds := [.data, .pinned], laidTests := true, laidLooks := .later }
def PlanKeepsUptoCardSaid : Prop := Claim7.holds Tryd.pinned (.plain (OpenSpec.upto planKeepsSpec)) planKeepsUptoCard

/-- THE SECOND FORM's CARD OF 'signalmanlaw06.PlanQuotes'. -/
def planQuotesUptoCard : Claim7 := { stood := { row := planQuotesUptoRow, standIns := [], harness := (true, "bfcb389f08bd5ed3832df11c3fd15cfca0cc84d5849b10fa436e38050d1c121c"), looks := false }, kinds := [], alts := [], laidByText := true, laidKinds := [.data, .pinned], laidTests := true, laidLooks := .later }
def PlanQuotesUptoCardSaid : Prop := Claim7.holds Tryd.pinned (.plain (OpenSpec.upto planQuotesSpec)) planQuotesUptoCard
end Rows
end Go.Proofs.YtaimmdhjfccnkaaDoor
