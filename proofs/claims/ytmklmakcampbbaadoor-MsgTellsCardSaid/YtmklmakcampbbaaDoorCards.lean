/-
  DERIVED. GIVEN WITH THE SEED: THE CARDS: each row of YtmklmakcampbbaaDoorRows.lean that lists a variable, with what it lists TIED to the program's text (the seventh form; the later family's looks); each row that meets fmt, with fmt's text TOLD by the authors' own Lean function (tested against real Go, not proved from fmt's source: count such statements apart). THE CARD IS WHAT COUNTS. Prove the row's statement (the work); the ties are given (YtmklmakcampbbaaDoorTie.lean); close each card by the builder's one call (the guide's Derived/Test/ToyasCard.lean, 'card_holds'). Laid BY PROGRAM, IN A SANDBOX (cutbox-door.mjs). By AI agents, Wed Nov 11 2026. No macro, syntax, notation, axiom, sorry.
-/
import Derived.Test.YtmklmakcampbbaaDoorRows
import GoSem.ClaimSeven
namespace Go.Proofs.YtmklmakcampbbaaDoor
namespace Rows

/-- THE TIED CARD OF 'signalmanlaw03.MsgTells'. -/
def msgTellsCard : Claim7 := { stood := { row := msgTellsRow, standIns := [], harness := (true, "9ff8a7501add50cf51209c6676e7fe956cfe4dde036c67b9f848026c7d8bcc06"), looks := false }, kinds := [], alts := [], laidByText := true, laidKinds := [.data], laidTests := true, laidLooks := .later }
def MsgTellsCardSaid : Prop := Claim7.holds Tryd.pinned (.plain (OpenSpec.ofChange msgTellsSpec)) msgTellsCard

/-- THE TIED CARD OF 'signalmanlaw03.MsgBack'. -/
def msgBackCard : Claim7 := { stood := { row := msgBackRow, standIns := [], harness := (true, "9ff8a7501add50cf51209c6676e7fe956cfe4dde036c67b9f848026c7d8bcc06"), looks := false }, kinds := [], alts := [], laidByText := true, laidKinds := [.data], laidTests := true, laidLooks := .later }
def MsgBackCardSaid : Prop := Claim7.holds Tryd.pinned (.plain (OpenSpec.ofChange msgBackSpec)) msgBackCard

/-- THE TIED CARD OF 'signalmanlaw03.MsgStream'. -/
def msgStreamCard : Claim7 := { stood := { row := msgStreamRow, standIns := [], harness := (true, "9ff8a7501add50cf51209c6676e7fe956cfe4dde036c67b9f848026c7d8bcc06"), looks := false }, kinds := [], alts := [], laidByText := true, laidKinds := [.data], laidTests := true, laidLooks := .later }
def MsgStreamCardSaid : Prop := Claim7.holds Tryd.pinned (.plain (OpenSpec.ofChange msgStreamSpec)) msgStreamCard

/-- THE SECOND FORM's CARD OF 'signalmanlaw03.MsgTells'. -/
def msgTellsUptoCard : Claim7 := { stood := { row := msgTellsUptoRow, standIns := [], harness := (true, "9ff8a7501add50cf51209c6676e7fe956cfe4dde036c67b9f848026c7d8bcc06"), looks := false }, kinds := [], alts := [], laidByText := true, laidKinds := [.data], laidTests := true, laidLooks := .later }
def MsgTellsUptoCardSaid : Prop := Claim7.holds Tryd.pinned (.plain (OpenSpec.upto msgTellsSpec)) msgTellsUptoCard

/-- THE SECOND FORM's CARD OF 'signalmanlaw03.MsgBack'. -/
def msgBackUptoCard : Claim7 := { stood := { row := msgBackUptoRow, standIns := [], harness := (true, "9ff8a7501add50cf51209c6676e7fe956cfe4dde036c67b9f848026c7d8bcc06"), looks := false }, kinds := [], alts := [], laidByText := true, laidKinds := [.data], laidTests := true, laidLooks := .later }
def MsgBackUptoCardSaid : Prop := Claim7.holds Tryd.pinned (.plain (OpenSpec.upto msgBackSpec)) msgBackUptoCard

/-- THE SECOND FORM's CARD OF 'signalmanlaw03.MsgStream'. -/
def msgStreamUptoCard : Claim7 := { stood := { row := msgStreamUptoRow, standIns := [], harness := (true, "9ff8a7501add50cf51209c6676e7fe956cfe4dde036c67b9f848026c7d8bcc06"), looks := false }, kinds := [], alts := [], laidByText := true, laidKinds := [.data], laidTests := true, laidLooks := .later }
def MsgStreamUptoCardSaid : Prop := Claim7.holds Tryd.pinned (.plain (OpenSpec.upto msgStreamSpec)) msgStreamUptoCard
end Rows
end Go.Proofs.YtmklmakcampbbaaDoor
