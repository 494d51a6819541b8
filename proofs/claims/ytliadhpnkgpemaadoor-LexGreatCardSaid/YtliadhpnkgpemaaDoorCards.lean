/-
  DERIVED. GIVEN WITH THE SEED: THE CARDS: each row of YtliadhpnkgpemaaDoorRows.lean that lists a variable, with what it lists TIED to the program's text (the seventh form; the later family's looks); each row that meets fmt, with fmt's text TOLD by the authors' own Lean function (tested against real Go, not proved from fmt's source: count such statements apart). THE CARD IS WHAT COUNTS. Prove the row's statement (the work); the ties are given (YtliadhpnkgpemaaDoorTie.lean); close each card by the builder's one call (the guide's Derived/Test/ToyasCard.lean, 'card_holds'). Laid BY PROGRAM, IN A SANDBOX (cutbox-door.mjs). By AI agents, Wed Nov 11 2026. No macro, syntax, notation, axiom, sorry.
-/
import Derived.Test.YtliadhpnkgpemaaDoorRows
import GoSem.ClaimSeven
namespace Go.Proofs.YtliadhpnkgpemaaDoor
namespace Rows

/-- THE TIED CARD OF 'signalmanlaw04.LexTells'. -/
def lexTellsCard : Claim7 := { stood := { row := lexTellsRow, standIns := [], harness := (true, "08050fb682daba55ca0a0446ddda4b94e86541c2e319b9cbe9344d540fc157dd"), looks := false }, kinds := [], alts := [], laidByText := true, laidKinds := [.data, .pinned], laidTests := true, laidLooks := .later }
def LexTellsCardSaid : Prop := Claim7.holds Tryd.pinned (.plain (OpenSpec.ofChange lexTellsSpec)) lexTellsCard

/-- THE TIED CARD OF 'signalmanlaw04.LexRemarks'. -/
def lexRemarksCard : Claim7 := { stood := { row := lexRemarksRow, standIns := [], harness := (true, "08050fb682daba55ca0a0446ddda4b94e86541c2e319b9cbe9344d540fc157dd"), looks := false }, kinds := [], alts := [], laidByText := true, laidKinds := [.data, .pinned], laidTests := true, laidLooks := .later }
def LexRemarksCardSaid : Prop := Claim7.holds Tryd.pinned (.plain (OpenSpec.ofChange lexRemarksSpec)) lexRemarksCard

/-- THE TIED CARD OF 'signalmanlaw04.LexGreat'. -/
def lexGreatCard : Claim7 := { stood := { row := lexGreatRow, standIns := [], harness := (true, "08050fb682daba55ca0a0446ddda4b94e86541c2e319b9cbe9344d540fc157dd"), looks := false }, kinds := [], alts := [], laidByText := true, laidKinds := [.data, .pinned, .pinned], laidTests := true, laidLooks := .later }
def LexGreatCardSaid : Prop := Claim7.holds Tryd.pinned (.plain (OpenSpec.ofChange lexGreatSpec)) lexGreatCard

/-- THE SECOND FORM's CARD OF 'signalmanlaw04.LexTells'. -/
def lexTellsUptoCard : Claim7 := { stood := { row := lexTellsUptoRow, standIns := [], harness := (true, "08050fb682daba55ca0a0446ddda4b94e86541c2e319b9cbe9344d540fc157dd"), looks := false }, kinds := [], alts := [], laidByText := true, laidKinds := [.data, .pinned], laidTests := true, laidLooks := .later }
def LexTellsUptoCardSaid : Prop := Claim7.holds Tryd.pinned (.plain (OpenSpec.upto lexTellsSpec)) lexTellsUptoCard

/-- THE SECOND FORM's CARD OF 'signalmanlaw04.LexRemarks'. -/
def lexRemarksUptoCard : Claim7 := { stood := { row := lexRemarksUptoRow, standIns := [], harness := (true, "08050fb682daba55ca0a0446ddda4b94e86541c2e319b9cbe9344d540fc157dd"), looks := false }, kinds := [], alts := [], laidByText := true, laidKinds := [.data, .pinned], laidTests := true, laidLooks := .later }
def LexRemarksUptoCardSaid : Prop := Claim7.holds Tryd.pinned (.plain (OpenSpec.upto lexRemarksSpec)) lexRemarksUptoCard

/-- THE SECOND FORM's CARD OF 'signalmanlaw04.LexGreat'. -/
def lexGreatUptoCard : Claim7 := { stood := { row := lexGreatUptoRow, standIns := [], harness := (true, "08050fb682daba55ca0a0446ddda4b94e86541c2e319b9cbe9344d540fc157dd"), looks := false }, kinds := [], alts := [], laidByText := true, laidKinds := [.data, .pinned, .pinned], laidTests := true, laidLooks := .later }
def LexGreatUptoCardSaid : Prop := Claim7.holds Tryd.pinned (.plain (OpenSpec.upto lexGreatSpec)) lexGreatUptoCard
end Rows
end Go.Proofs.YtliadhpnkgpemaaDoor
