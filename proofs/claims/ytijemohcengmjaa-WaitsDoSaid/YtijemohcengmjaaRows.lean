/-
  No cell of these rows narrows 'for every input' (looked for: loops, veiled, ifaces, maps, wideKeys, modest, calm, conditions, laid).
  DERIVED. THE GIVEN ROWS OF THIS SEAT. 3 by the template 'for every input the law returns true; each argument reads behind the call as it read before'; 0 by the template 'total and deterministic' (their statements: YtijemohcengmjaaTotals.lean).
  GIVEN WITH THE SEED: the statements are not yours to turn. If you find one false, say at which input.
  Laid BY PROGRAM, IN A SANDBOX (cutbox-rows.mjs): the forced cells as the released guide's own fill.sh prints them over the translation 73589bb4998f8163… (all of the seat's roots in one cut). By AI agents, Wed Nov 11 2026. No macro, syntax, notation, axiom, sorry.
-/
import Derived.Test.YtijemohcengmjaaChecked
import GoSem.Claim
import GoSem.ClaimJoined
import GoSem.ClaimMapViews
import Derived.JoinedTies
import Derived.KernelRfl
namespace Go.Proofs.Ytijemohcengmjaa
/- THE CELL 'sum', in the pinned program and in every row, IS THE sha256 OF THE DUMP (.gsa) THAT YtijemohcengmjaaProg.lean LOADS. Nothing in Lean hashes anything: it is a label: what it is worth is what the hold of that sum in a sandbox is worth. -/
noncomputable def Try.pinned : Pinned := { name := "ytijemohcengmjaa", sum := "73589bb4998f81634a61bb5c0e3ed49566d14765732b0f52337aa81102e5f1b8", checked := Try.checked }
namespace Rows
def none {H : Type} : Left H := { results := [], args := [] }

/-- 'signalmanlaw08.WaitsDo': WHATEVER THE INPUT: true; the input reads as it did. -/
def waitsDoSpec : ChangeSpec := { name := "waitsDo", fn := fun _ => fun
  | [d1, d2, d3] => { results := [.lit (.bool true)], args := [d1, d2, d3] }
  | _ => none }
def waitsDoRow : OpenClaim := { program := "ytijemohcengmjaa", sum := "73589bb4998f81634a61bb5c0e3ed49566d14765732b0f52337aa81102e5f1b8", func := "signalman/signalmanlaw08.WaitsDo", spec := "waitsDo", apart := false }
def WaitsDoSaid : Prop := waitsDoRow.holds Try.pinned (OpenSpec.ofChange waitsDoSpec)

/-- ITS FALSE NEIGHBOUR: 'it returns false'. Refute it at one input. -/
def waitsDoWrong : ChangeSpec := { name := "waitsDo", fn := fun _ => fun
  | [d1, d2, d3] => { results := [.lit (.bool false)], args := [d1, d2, d3] }
  | _ => none }
def WaitsDoWrongFalsely : Prop := waitsDoRow.holds Try.pinned (OpenSpec.ofChange waitsDoWrong)

/-- 'signalmanlaw08.WaitsRow': WHATEVER THE INPUT: true; the input reads as it did. -/
def waitsRowSpec : ChangeSpec := { name := "waitsRow", fn := fun _ => fun
  | [d1, d2] => { results := [.lit (.bool true)], args := [d1, d2] }
  | _ => none }
def waitsRowRow : OpenClaim := { program := "ytijemohcengmjaa", sum := "73589bb4998f81634a61bb5c0e3ed49566d14765732b0f52337aa81102e5f1b8", func := "signalman/signalmanlaw08.WaitsRow", spec := "waitsRow", apart := false }
def WaitsRowSaid : Prop := waitsRowRow.holds Try.pinned (OpenSpec.ofChange waitsRowSpec)

/-- ITS FALSE NEIGHBOUR: 'it returns false'. Refute it at one input. -/
def waitsRowWrong : ChangeSpec := { name := "waitsRow", fn := fun _ => fun
  | [d1, d2] => { results := [.lit (.bool false)], args := [d1, d2] }
  | _ => none }
def WaitsRowWrongFalsely : Prop := waitsRowRow.holds Try.pinned (OpenSpec.ofChange waitsRowWrong)

/-- 'signalmanlaw08.WaitsDropped': WHATEVER THE INPUT: true; the input reads as it did. -/
def waitsDroppedSpec : ChangeSpec := { name := "waitsDropped", fn := fun _ => fun
  | [d1, d2] => { results := [.lit (.bool true)], args := [d1, d2] }
  | _ => none }
def waitsDroppedRow : OpenClaim := { program := "ytijemohcengmjaa", sum := "73589bb4998f81634a61bb5c0e3ed49566d14765732b0f52337aa81102e5f1b8", func := "signalman/signalmanlaw08.WaitsDropped", spec := "waitsDropped", apart := false }
def WaitsDroppedSaid : Prop := waitsDroppedRow.holds Try.pinned (OpenSpec.ofChange waitsDroppedSpec)

/-- ITS FALSE NEIGHBOUR: 'it returns false'. Refute it at one input. -/
def waitsDroppedWrong : ChangeSpec := { name := "waitsDropped", fn := fun _ => fun
  | [d1, d2] => { results := [.lit (.bool false)], args := [d1, d2] }
  | _ => none }
def WaitsDroppedWrongFalsely : Prop := waitsDroppedRow.holds Try.pinned (OpenSpec.ofChange waitsDroppedWrong)

/- THE SECOND FORM. 'bulk': how many values and letters a reading holds, each counted each time it is reached (what is shared counts as often as it is met; a slice's spare places count too). A statement '..UptoSaid' is the law's where the arguments, and the package variables that the reading takes, are together of bulk at most 1048576: NARROWER than '..Said'. Prove '..Said' where nothing that the law and all that it calls make is longer than what came in: it says more and counts as full. Else prove '..UptoSaid'. A law counts once. -/
mutual
def uptoBulk {H : Type} : DataW H → Nat
  | .lit (.string bytes) => bytes.length + 1
  | .lit _ => 1
  | .nil => 1
  | .ptr d => uptoBulk d + 1
  | .slice elems spare => uptoBulkAll elems + uptoBulkAll spare + 1
  | .agg parts => uptoBulkAll parts + 1
  | .iface _ d => uptoBulk d + 1
  | .map entries => uptoBulkEntries entries + 1
  | .held _ => 1
def uptoBulkAll {H : Type} : List (DataW H) → Nat
  | [] => 0
  | d :: r => uptoBulk d + uptoBulkAll r
def uptoBulkEntries {H : Type} : List (Lit × DataW H) → Nat
  | [] => 0
  | x :: r => uptoBulkEntry x + uptoBulkEntries r
def uptoBulkEntry {H : Type} : Lit × DataW H → Nat
  | (.string bytes, d) => bytes.length + uptoBulk d + 1
  | (_, d) => uptoBulk d + 1
 end
def uptoSmall : (H : Type) → List (DataW H) → Bool := fun _ ds => decide (uptoBulkAll ds ≤ 1048576)
def OpenSpec.upto (s : _root_.Go.ChangeSpec) : _root_.Go.OpenSpec := { _root_.Go.OpenSpec.ofChange s with cond := some uptoSmall }

/-- 'signalmanlaw08.WaitsDo', WHERE WHAT IT READS IS OF BULK AT MOST 1048576: true; the input reads as it did. -/
def waitsDoUptoRow : OpenClaim := { program := "ytijemohcengmjaa", sum := "73589bb4998f81634a61bb5c0e3ed49566d14765732b0f52337aa81102e5f1b8", func := "signalman/signalmanlaw08.WaitsDo", spec := "waitsDo", apart := false, narrowed := true }
def WaitsDoUptoSaid : Prop := waitsDoUptoRow.holds Try.pinned (OpenSpec.upto waitsDoSpec)

/-- 'signalmanlaw08.WaitsRow', WHERE WHAT IT READS IS OF BULK AT MOST 1048576: true; the input reads as it did. -/
def waitsRowUptoRow : OpenClaim := { program := "ytijemohcengmjaa", sum := "73589bb4998f81634a61bb5c0e3ed49566d14765732b0f52337aa81102e5f1b8", func := "signalman/signalmanlaw08.WaitsRow", spec := "waitsRow", apart := false, narrowed := true }
def WaitsRowUptoSaid : Prop := waitsRowUptoRow.holds Try.pinned (OpenSpec.upto waitsRowSpec)

/-- 'signalmanlaw08.WaitsDropped', WHERE WHAT IT READS IS OF BULK AT MOST 1048576: true; the input reads as it did. -/
def waitsDroppedUptoRow : OpenClaim := { program := "ytijemohcengmjaa", sum := "73589bb4998f81634a61bb5c0e3ed49566d14765732b0f52337aa81102e5f1b8", func := "signalman/signalmanlaw08.WaitsDropped", spec := "waitsDropped", apart := false, narrowed := true }
def WaitsDroppedUptoSaid : Prop := waitsDroppedUptoRow.holds Try.pinned (OpenSpec.upto waitsDroppedSpec)

end Rows
end Go.Proofs.Ytijemohcengmjaa
