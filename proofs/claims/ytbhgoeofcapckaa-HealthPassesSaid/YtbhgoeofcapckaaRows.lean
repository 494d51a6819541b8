/-
  No cell of these rows narrows 'for every input' (looked for: loops, veiled, ifaces, maps, wideKeys, modest, calm, conditions, laid).
  DERIVED. THE GIVEN ROWS OF THIS SEAT. 3 by the template 'for every input the law returns true; each argument reads behind the call as it read before'; 0 by the template 'total and deterministic' (their statements: YtbhgoeofcapckaaTotals.lean).
  GIVEN WITH THE SEED: the statements are not yours to turn. If you find one false, say at which input.
  Laid BY PROGRAM, IN A SANDBOX (cutbox-rows.mjs): the forced cells as the released guide's own fill.sh prints them over the translation 1464bec9ca7cf578… (all of the seat's roots in one cut). By AI agents, Wed Nov 11 2026. No macro, syntax, notation, axiom, sorry.
-/
import Derived.Test.YtbhgoeofcapckaaChecked
import GoSem.Claim
import GoSem.ClaimJoined
import GoSem.ClaimMapViews
import Derived.JoinedTies
import Derived.KernelRfl
namespace Go.Proofs.Ytbhgoeofcapckaa
/- THE CELL 'sum', in the pinned program and in every row, IS THE sha256 OF THE DUMP (.gsa) THAT YtbhgoeofcapckaaProg.lean LOADS. Nothing in Lean hashes anything: it is a label: what it is worth is what the hold of that sum in a sandbox is worth. -/
noncomputable def Try.pinned : Pinned := { name := "ytbhgoeofcapckaa", sum := "1464bec9ca7cf57865826c603b59e3678ff11e01c5cc3c358378412586506686", checked := Try.checked }
namespace Rows
def none {H : Type} : Left H := { results := [], args := [] }

/-- 'signalmanlaw12.HealthTells': WHATEVER THE INPUT: true; the input reads as it did. -/
def healthTellsSpec : ChangeSpec := { name := "healthTells", fn := fun _ => fun
  | [d1, d2, d3] => { results := [.lit (.bool true)], args := [d1, d2, d3] }
  | _ => none }
def healthTellsRow : OpenClaim := { program := "ytbhgoeofcapckaa", sum := "1464bec9ca7cf57865826c603b59e3678ff11e01c5cc3c358378412586506686", func := "signalman/signalmanlaw12.HealthTells", spec := "healthTells", apart := false }
def HealthTellsSaid : Prop := healthTellsRow.holds Try.pinned (OpenSpec.ofChange healthTellsSpec)

/-- ITS FALSE NEIGHBOUR: 'it returns false'. Refute it at one input. -/
def healthTellsWrong : ChangeSpec := { name := "healthTells", fn := fun _ => fun
  | [d1, d2, d3] => { results := [.lit (.bool false)], args := [d1, d2, d3] }
  | _ => none }
def HealthTellsWrongFalsely : Prop := healthTellsRow.holds Try.pinned (OpenSpec.ofChange healthTellsWrong)

/-- 'signalmanlaw12.HealthPasses': WHATEVER THE INPUT: true; the input reads as it did. -/
def healthPassesSpec : ChangeSpec := { name := "healthPasses", fn := fun _ => fun
  | [d1, d2, d3] => { results := [.lit (.bool true)], args := [d1, d2, d3] }
  | _ => none }
def healthPassesRow : OpenClaim := { program := "ytbhgoeofcapckaa", sum := "1464bec9ca7cf57865826c603b59e3678ff11e01c5cc3c358378412586506686", func := "signalman/signalmanlaw12.HealthPasses", spec := "healthPasses", apart := false }
def HealthPassesSaid : Prop := healthPassesRow.holds Try.pinned (OpenSpec.ofChange healthPassesSpec)

/-- ITS FALSE NEIGHBOUR: 'it returns false'. Refute it at one input. -/
def healthPassesWrong : ChangeSpec := { name := "healthPasses", fn := fun _ => fun
  | [d1, d2, d3] => { results := [.lit (.bool false)], args := [d1, d2, d3] }
  | _ => none }
def HealthPassesWrongFalsely : Prop := healthPassesRow.holds Try.pinned (OpenSpec.ofChange healthPassesWrong)

/-- 'signalmanlaw12.HealthLags': WHATEVER THE INPUT: true; the input reads as it did. -/
def healthLagsSpec : ChangeSpec := { name := "healthLags", fn := fun _ => fun
  | [d1, d2, d3] => { results := [.lit (.bool true)], args := [d1, d2, d3] }
  | _ => none }
def healthLagsRow : OpenClaim := { program := "ytbhgoeofcapckaa", sum := "1464bec9ca7cf57865826c603b59e3678ff11e01c5cc3c358378412586506686", func := "signalman/signalmanlaw12.HealthLags", spec := "healthLags", apart := false }
def HealthLagsSaid : Prop := healthLagsRow.holds Try.pinned (OpenSpec.ofChange healthLagsSpec)

/-- ITS FALSE NEIGHBOUR: 'it returns false'. Refute it at one input. -/
def healthLagsWrong : ChangeSpec := { name := "healthLags", fn := fun _ => fun
  | [d1, d2, d3] => { results := [.lit (.bool false)], args := [d1, d2, d3] }
  | _ => none }
def HealthLagsWrongFalsely : Prop := healthLagsRow.holds Try.pinned (OpenSpec.ofChange healthLagsWrong)

/- THE SECOND FORM. 'bulk': how many values and letters a reading holds, each counted each time it is reached (what is shared counts as often as it is met; a slice's spare places count too). A statement '..UptoSaid' is the law's where the arguments, and the package variables that the reading takes, are together of bulk at most 1048576: NARROWER than '..Said'. Prove '..Said' where nothing that the law and all that it calls make is longer than what came in: it says more and counts as full. Else prove '..UptoSaid'. A law counts once. -/
mutual
def uptoBulk {H : Type} : DataW H → Nat
  | .lit (.string bytes) => bytes.length + 1
  | .lit _ => 1
  | .nil => 1
  | .ptr d => uptoBulk d + 1
  | .slice elems spare => uptoBulkAll elems + uptoBulkAll spare + 1
  | .agg parts => uptoBulkAll parts + 1
  | .iface _ d => uptoBulk d + 1
  | .map entries => uptoBulkEntries entries + 1
  | .held _ => 1
def uptoBulkAll {H : Type} : List (DataW H) → Nat
  | [] => 0
  | d :: r => uptoBulk d + uptoBulkAll r
def uptoBulkEntries {H : Type} : List (Lit × DataW H) → Nat
  | [] => 0
  | x :: r => uptoBulkEntry x + uptoBulkEntries r
def uptoBulkEntry {H : Type} : Lit × DataW H → Nat
  | (.string bytes, d) => bytes.length + uptoBulk d + 1
  | (_, d) => uptoBulk d + 1
 end
def uptoSmall : (H : Type) → List (DataW H) → Bool := fun _ ds => decide (uptoBulkAll ds ≤ 1048576)
def OpenSpec.upto (s : _root_.Go.ChangeSpec) : _root_.Go.OpenSpec := { _root_.Go.OpenSpec.ofChange s with cond := some uptoSmall }

/-- 'signalmanlaw12.HealthTells', WHERE WHAT IT READS IS OF BULK AT MOST 1048576: true; the input reads as it did. -/
def healthTellsUptoRow : OpenClaim := { program := "ytbhgoeofcapckaa", sum := "1464bec9ca7cf57865826c603b59e3678ff11e01c5cc3c358378412586506686", func := "signalman/signalmanlaw12.HealthTells", spec := "healthTells", apart := false, narrowed := true }
def HealthTellsUptoSaid : Prop := healthTellsUptoRow.holds Try.pinned (OpenSpec.upto healthTellsSpec)

/-- 'signalmanlaw12.HealthPasses', WHERE WHAT IT READS IS OF BULK AT MOST 1048576: true; the input reads as it did. -/
def healthPassesUptoRow : OpenClaim := { program := "ytbhgoeofcapckaa", sum := "1464bec9ca7cf57865826c603b59e3678ff11e01c5cc3c358378412586506686", func := "signalman/signalmanlaw12.HealthPasses", spec := "healthPasses", apart := false, narrowed := true }
def HealthPassesUptoSaid : Prop := healthPassesUptoRow.holds Try.pinned (OpenSpec.upto healthPassesSpec)

/-- 'signalmanlaw12.HealthLags', WHERE WHAT IT READS IS OF BULK AT MOST 1048576: true; the input reads as it did. -/
def healthLagsUptoRow : OpenClaim := { program := "ytbhgoeofcapckaa", sum := "1464bec9ca7cf57865826c603b59e3678ff11e01c5cc3c358378412586506686", func := "signalman/signalmanlaw12.HealthLags", spec := "healthLags", apart := false, narrowed := true }
def HealthLagsUptoSaid : Prop := healthLagsUptoRow.holds Try.pinned (OpenSpec.upto healthLagsSpec)

end Rows
end Go.Proofs.Ytbhgoeofcapckaa
