/-
  DERIVED. GIVEN WITH THE SEED: THE CARDS: each row of YtdhnpmagapbmhaaGreatDoorRows.lean that lists a variable, with what it lists TIED to the program's text (the seventh form; the later family's looks); each row that meets fmt, with fmt's text TOLD by the authors' own Lean function (tested against real Go, not proved from fmt's source: count such statements apart). THE CARD IS WHAT COUNTS. Prove the row's statement (the work); the ties are given (YtdhnpmagapbmhaaGreatDoorTie.lean); close each card by the builder's one call (the guide's Derived/Test/ToyasCard.lean, 'card_holds'). Laid BY PROGRAM, IN A SANDBOX (cutbox-door.mjs). By AI agents, Wed Nov 11 2026. No macro, syntax, notation, axiom, sorry.
-/
import Derived.Test.YtdhnpmagapbmhaaGreatDoorRows
import GoSem.ClaimSeven
namespace Go.Proofs.YtdhnpmagapbmhaaGreatDoor
namespace Rows

/-- THE TIED CARD OF 'signalmanlaw16.ClusterDoes'. -/
def clusterDoesCard : Claim7 := { stood := { row := clusterDoesRow, standIns := [], harness := (true, "468edc4b7a6b8952e5f0bfb696dbcc1108d111bfc10ea5c3f0f66ae14327be08"), looks := false }, kinds := [], alts := [], laidByText := true, laidKinds := [.data, .pinned], laidTests := true, laidLooks := .later }
def ClusterDoesCardSaid : Prop := Claim7.holds Tryz.pinned (.plain (OpenSpec.ofChange clusterDoesSpec)) clusterDoesCard

/-- THE TIED CARD OF 'signalmanlaw16.ClusterLeads'. -/
def clusterLeadsCard : Claim7 := { stood := { row := clusterLeadsRow, standIns := [], harness := (true, "468edc4b7a6b8952e5f0bfb696dbcc1108d111bfc10ea5c3f0f66ae14327be08"), looks := false }, kinds := [], alts := [], laidByText := true, laidKinds := [.data, .pinned], laidTests := true, laidLooks := .later }
def ClusterLeadsCardSaid : Prop := Claim7.holds Tryz.pinned (.plain (OpenSpec.ofChange clusterLeadsSpec)) clusterLeadsCard

/-- THE TIED CARD OF 'signalmanlaw16.ClusterKeeps'. -/
def clusterKeepsCard : Claim7 := { stood := { row := clusterKeepsRow, standIns := [], harness := (true, "468edc4b7a6b8952e5f0bfb696dbcc1108d111bfc10ea5c3f0f66ae14327be08"), looks := false }, kinds := [], alts := [], laidByText := true, laidKinds := [.data, .pinned], laidTests := true, laidLooks := .later }
def ClusterKeepsCardSaid : Prop := Claim7.holds Tryz.pinned (.plain (OpenSpec.ofChange clusterKeepsSpec)) clusterKeepsCard

/-- THE TIED CARD OF 'signalmanlaw16.ClusterServes'. -/
def clusterServesCard : Claim7 := { stood := { row := clusterServesRow, standIns := [], harness := (true, "468edc4b7a6b8952e5f0bfb696dbcc1108d111bfc10ea5c3f0f66ae14327be08"), looks := false }, kinds := [], alts := [], laidByText := true, laidKinds := [.data, .pinned], laidTests := true, laidLooks := .later }
def ClusterServesCardSaid : Prop := Claim7.holds Tryz.pinned (.plain (OpenSpec.ofChange clusterServesSpec)) clusterServesCard

/-- THE TIED CARD OF 'signalmanlaw16.ClusterCopies'. -/
def clusterCopiesCard : Claim7 := { stood := { row := clusterCopiesRow, standIns := [], harness := (true, "468edc4b7a6b8952e5f0bfb696dbcc1108d111bfc10ea5c3f0f66ae14327be08"), looks := false }, kinds := [], alts := [], laidByText := true, laidKinds := [.data, .pinned], laidTests := true, laidLooks := .later }
def ClusterCopiesCardSaid : Prop := Claim7.holds Tryz.pinned (.plain (OpenSpec.ofChange clusterCopiesSpec)) clusterCopiesCard

/-- THE SECOND FORM's CARD OF 'signalmanlaw16.ClusterDoes'. -/
def clusterDoesUptoCard : Claim7 := { stood := { row := clusterDoesUptoRow, standIns := [], harness := (true, "468edc4b7a6b8952e5f0bfb696dbcc1108d111bfc10ea5c3f0f66ae14327be08"), looks := false }, kinds := [], alts := [], laidByText := true, laidKinds := [.data, .pinned], laidTests := true, laidLooks := .later }
def ClusterDoesUptoCardSaid : Prop := Claim7.holds Tryz.pinned (.plain (OpenSpec.upto clusterDoesSpec)) clusterDoesUptoCard

/-- THE SECOND FORM's CARD OF 'signalmanlaw16.ClusterLeads'. -/
def clusterLeadsUptoCard : Claim7 := { stood := { row := clusterLeadsUptoRow, standIns := [], harness := (true, "468edc4b7a6b8952e5f0bfb696dbcc1108d111bfc10ea5c3f0f66ae14327be08"), looks := false }, kinds := [], alts := [], laidByText := true, laidKinds := [.data, .pinned], laidTests := true, laidLooks := .later }
def ClusterLeadsUptoCardSaid : Prop := Claim7.holds Tryz.pinned (.plain (OpenSpec.upto clusterLeadsSpec)) clusterLeadsUptoCard

/-- THE SECOND FORM's CARD OF 'signalmanlaw16.ClusterKeeps'. -/
def clusterKeepsUptoCard : Claim7 := { stood := { row := clusterKeepsUptoRow, standIns := [], harness := (true, "468edc4b7a6b8952e5f0bfb696dbcc1108d111bfc10ea5c3f0f66ae14327be08"), looks := false }, kinds := [], alts := [], laidByText := true, laidKinds := [.data, .pinned], laidTests := true, laidLooks := .later }
def ClusterKeepsUptoCardSaid : Prop := Claim7.holds Tryz.pinned (.plain (OpenSpec.upto clusterKeepsSpec)) clusterKeepsUptoCard

/-- THE SECOND FORM's CARD OF 'signalmanlaw16.ClusterServes'. -/
def clusterServesUptoCard : Claim7 := { stood := { row := clusterServesUptoRow, standIns := [], harness := (true, "468edc4b7a6b8952e5f0bfb696dbcc1108d111bfc10ea5c3f0f66ae14327be08"), looks := false }, kinds := [], alts := [], laidByText := true, laidKinds := [.data, .pinned], laidTests := true, laidLooks := .later }
def ClusterServesUptoCardSaid : Prop := Claim7.holds Tryz.pinned (.plain (OpenSpec.upto clusterServesSpec)) clusterServesUptoCard

/-- THE SECOND FORM's CARD OF 'signalmanlaw16.ClusterCopies'. -/
def clusterCopiesUptoCard : Claim7 := { stood := { row := clusterCopiesUptoRow, standIns := [], harness := (true, "468edc4b7a6b8952e5f0bfb696dbcc1108d111bfc10ea5c3f0f66ae14327be08"), looks := false }, kinds := [], alts := [], laidByText := true, laidKinds := [.data, .pinned], laidTests := true, laidLooks := .later }
def ClusterCopiesUptoCardSaid : Prop := Claim7.holds Tryz.pinned (.plain (OpenSpec.upto clusterCopiesSpec)) clusterCopiesUptoCard
end Rows
end Go.Proofs.YtdhnpmagapbmhaaGreatDoor
