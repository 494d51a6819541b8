/-
  NARROWER THAN 'FOR EVERY INPUT', by the rows' own cells (each row's printed sentence says how): MsgTells: laid · MsgBack: laid · MsgStream: laid.
  DERIVED. THE GIVEN ROWS OF THIS SEAT. 3 by the template 'for every input the law returns true; each argument reads behind the call as it read before'; 0 by the template 'total and deterministic' (their statements: YtmklmakcampbbaaDoorTotals.lean).
  GIVEN WITH THE SEED: the statements are not yours to turn. If you find one false, say at which input.
  Laid BY PROGRAM, IN A SANDBOX (cutbox-rows.mjs): the forced cells as the released guide's own fill.sh prints them over the translation 488bc2f13a7bc337… (all of the seat's roots in one cut). By AI agents, Wed Nov 11 2026. No macro, syntax, notation, axiom, sorry.
-/
import Derived.Test.YtmklmakcampbbaaDoorChecked
import GoSem.Claim
import GoSem.ClaimJoined
import GoSem.ClaimMapViews
import Derived.JoinedTies
import Derived.KernelRfl
namespace Go.Proofs.YtmklmakcampbbaaDoor
/- THE CELL 'sum', in the pinned program and in every row, IS THE sha256 OF THE DUMP (.gsa) THAT YtmklmakcampbbaaDoorProg.lean LOADS. Nothing in Lean hashes anything: it is a label: what it is worth is what the hold of that sum in a sandbox is worth. -/
noncomputable def Tryd.pinned : Pinned := { name := "ytmklmakcampbbaadoor", sum := "488bc2f13a7bc33759f12a8de0ed27887533fb33cd0fde82c2b5cb1751228593", checked := Tryd.checked }
namespace Rows
def none {H : Type} : Left H := { results := [], args := [] }

/- WHAT THE LISTED PACKAGE-LEVEL VARIABLES READ AS WHEN THE CALL BEGINS. Each datum BY PROGRAM (the guide's laid-datum.mjs) off the statement by which the dump's own 'gosem.cut.vars' lays the variable. In a bare row this is a premise. The card (YtmklmakcampbbaaDoorCards.lean) ties it to the program's text. -/
def laid_signalman_msg_shapes {H : Type} : DataW H := .agg [.agg [.agg [.lit (.int .i64 0), .lit (.int .i64 0), .lit (.int .i64 0)], .lit (.int .i64 0)], .agg [.agg [.lit (.int .i64 0), .lit (.int .i64 0), .lit (.int .i64 0)], .lit (.int .i64 1)], .agg [.agg [.lit (.int .i64 4), .lit (.int .i64 0), .lit (.int .i64 0)], .lit (.int .i64 1)], .agg [.agg [.lit (.int .i64 4), .lit (.int .i64 0), .lit (.int .i64 0)], .lit (.int .i64 0)], .agg [.agg [.lit (.int .i64 0), .lit (.int .i64 0), .lit (.int .i64 0)], .lit (.int .i64 0)], .agg [.agg [.lit (.int .i64 4), .lit (.int .i64 0), .lit (.int .i64 0)], .lit (.int .i64 0)], .agg [.agg [.lit (.int .i64 4), .lit (.int .i64 4), .lit (.int .i64 4)], .lit (.int .i64 (-1))], .agg [.agg [.lit (.int .i64 4), .lit (.int .i64 4), .lit (.int .i64 4)], .lit (.int .i64 0)], .agg [.agg [.lit (.int .i64 4), .lit (.int .i64 1), .lit (.int .i64 0)], .lit (.int .i64 0)], .agg [.agg [.lit (.int .i64 4), .lit (.int .i64 4), .lit (.int .i64 1)], .lit (.int .i64 1)], .agg [.agg [.lit (.int .i64 4), .lit (.int .i64 0), .lit (.int .i64 0)], .lit (.int .i64 0)], .agg [.agg [.lit (.int .i64 4), .lit (.int .i64 0), .lit (.int .i64 0)], .lit (.int .i64 0)], .agg [.agg [.lit (.int .i64 4), .lit (.int .i64 4), .lit (.int .i64 4)], .lit (.int .i64 (-1))], .agg [.agg [.lit (.int .i64 4), .lit (.int .i64 1), .lit (.int .i64 4)], .lit (.int .i64 0)], .agg [.agg [.lit (.int .i64 4), .lit (.int .i64 4), .lit (.int .i64 4)], .lit (.int .i64 0)]]

/-- 'signalmanlaw03.MsgTells': WHATEVER THE INPUT: true; the input reads as it did. -/
def msgTellsSpec : ChangeSpec := { name := "msgTells", fn := fun _ => fun
  | [d1, d2, d3] => { results := [.lit (.bool true)], args := [d1, d2, d3] }
  | _ => none }
def msgTellsRow : OpenClaim := { program := "ytmklmakcampbbaadoor", sum := "488bc2f13a7bc33759f12a8de0ed27887533fb33cd0fde82c2b5cb1751228593", func := "signalman/signalmanlaw03.MsgTells", spec := "msgTells", unfollowed := true, recurses := true, named := ["signalman/msg.shapes"], apart := false, laid := [("signalman/msg.shapes", laid_signalman_msg_shapes)] }
def MsgTellsSaid : Prop := msgTellsRow.holds Tryd.pinned (OpenSpec.ofChange msgTellsSpec)

/-- ITS FALSE NEIGHBOUR: 'it returns false'. Refute it at one input. -/
def msgTellsWrong : ChangeSpec := { name := "msgTells", fn := fun _ => fun
  | [d1, d2, d3] => { results := [.lit (.bool false)], args := [d1, d2, d3] }
  | _ => none }
def MsgTellsWrongFalsely : Prop := msgTellsRow.holds Tryd.pinned (OpenSpec.ofChange msgTellsWrong)

/-- 'signalmanlaw03.MsgBack': WHATEVER THE INPUT: true; the input reads as it did. -/
def msgBackSpec : ChangeSpec := { name := "msgBack", fn := fun _ => fun
  | [d1, d2] => { results := [.lit (.bool true)], args := [d1, d2] }
  | _ => none }
def msgBackRow : OpenClaim := { program := "ytmklmakcampbbaadoor", sum := "488bc2f13a7bc33759f12a8de0ed27887533fb33cd0fde82c2b5cb1751228593", func := "signalman/signalmanlaw03.MsgBack", spec := "msgBack", unfollowed := true, recurses := true, named := ["signalman/msg.shapes"], apart := false, laid := [("signalman/msg.shapes", laid_signalman_msg_shapes)] }
def MsgBackSaid : Prop := msgBackRow.holds Tryd.pinned (OpenSpec.ofChange msgBackSpec)

/-- ITS FALSE NEIGHBOUR: 'it returns false'. Refute it at one input. -/
def msgBackWrong : ChangeSpec := { name := "msgBack", fn := fun _ => fun
  | [d1, d2] => { results := [.lit (.bool false)], args := [d1, d2] }
  | _ => none }
def MsgBackWrongFalsely : Prop := msgBackRow.holds Tryd.pinned (OpenSpec.ofChange msgBackWrong)

/-- 'signalmanlaw03.MsgStream': WHATEVER THE INPUT: true; the input reads as it did. -/
def msgStreamSpec : ChangeSpec := { name := "msgStream", fn := fun _ => fun
  | [d1, d2] => { results := [.lit (.bool true)], args := [d1, d2] }
  | _ => none }
def msgStreamRow : OpenClaim := { program := "ytmklmakcampbbaadoor", sum := "488bc2f13a7bc33759f12a8de0ed27887533fb33cd0fde82c2b5cb1751228593", func := "signalman/signalmanlaw03.MsgStream", spec := "msgStream", unfollowed := true, recurses := true, named := ["signalman/msg.shapes"], apart := false, laid := [("signalman/msg.shapes", laid_signalman_msg_shapes)] }
def MsgStreamSaid : Prop := msgStreamRow.holds Tryd.pinned (OpenSpec.ofChange msgStreamSpec)

/-- ITS FALSE NEIGHBOUR: 'it returns false'. Refute it at one input. -/
def msgStreamWrong : ChangeSpec := { name := "msgStream", fn := fun _ => fun
  | [d1, d2] => { results := [.lit (.bool false)], args := [d1, d2] }
  | _ => none }
def MsgStreamWrongFalsely : Prop := msgStreamRow.holds Tryd.pinned (OpenSpec.ofChange msgStreamWrong)

/- THE SECOND FORM. 'bulk': how many values and letters a reading holds, each counted each time it is reached (what is shared counts as often as it is met; a slice's spare places count too). A statement '..UptoSaid' is the law's where the arguments, and the package variables that the reading takes, are together of bulk at most 1048576: NARROWER than '..Said'. Prove '..Said' where nothing that the law and all that it calls make is longer than what came in: it says more and counts as full. Else prove '..UptoSaid'. A law counts once. -/
mutual
def uptoBulk {H : Type} : DataW H → Nat
  | .lit (.string bytes) => bytes.length + 1
  | .lit _ => 1
  | .nil => 1
  | .ptr d => uptoBulk d + 1
  | .slice elems spare => uptoBulkAll elems + uptoBulkAll spare + 1
  | .agg parts => uptoBulkAll parts + 1
  | .iface _ d => uptoBulk d + 1
  | .map entries => uptoBulkEntries entries + 1
  | .held _ => 1
def uptoBulkAll {H : Type} : List (DataW H) → Nat
  | [] => 0
  | d :: r => uptoBulk d + uptoBulkAll r
def uptoBulkEntries {H : Type} : List (Lit × DataW H) → Nat
  | [] => 0
  | x :: r => uptoBulkEntry x + uptoBulkEntries r
def uptoBulkEntry {H : Type} : Lit × DataW H → Nat
  | (.string bytes, d) => bytes.length + uptoBulk d + 1
  | (_, d) => uptoBulk d + 1
 end
def uptoSmall : (H : Type) → List (DataW H) → Bool := fun _ ds => decide (uptoBulkAll ds ≤ 1048576)
def OpenSpec.upto (s : _root_.Go.ChangeSpec) : _root_.Go.OpenSpec := { _root_.Go.OpenSpec.ofChange s with cond := some uptoSmall }

/-- 'signalmanlaw03.MsgTells', WHERE WHAT IT READS IS OF BULK AT MOST 1048576: true; the input reads as it did. -/
def msgTellsUptoRow : OpenClaim := { program := "ytmklmakcampbbaadoor", sum := "488bc2f13a7bc33759f12a8de0ed27887533fb33cd0fde82c2b5cb1751228593", func := "signalman/signalmanlaw03.MsgTells", spec := "msgTells", unfollowed := true, recurses := true, named := ["signalman/msg.shapes"], apart := false, laid := [("signalman/msg.shapes", laid_signalman_msg_shapes)], narrowed := true }
def MsgTellsUptoSaid : Prop := msgTellsUptoRow.holds Tryd.pinned (OpenSpec.upto msgTellsSpec)

/-- 'signalmanlaw03.MsgBack', WHERE WHAT IT READS IS OF BULK AT MOST 1048576: true; the input reads as it did. -/
def msgBackUptoRow : OpenClaim := { program := "ytmklmakcampbbaadoor", sum := "488bc2f13a7bc33759f12a8de0ed27887533fb33cd0fde82c2b5cb1751228593", func := "signalman/signalmanlaw03.MsgBack", spec := "msgBack", unfollowed := true, recurses := true, named := ["signalman/msg.shapes"], apart := false, laid := [("signalman/msg.shapes", laid_signalman_msg_shapes)], narrowed := true }
def MsgBackUptoSaid : Prop := msgBackUptoRow.holds Tryd.pinned (OpenSpec.upto msgBackSpec)

/-- 'signalmanlaw03.MsgStream', WHERE WHAT IT READS IS OF BULK AT MOST 1048576: true; the input reads as it did. -/
def msgStreamUptoRow : OpenClaim := { program := "ytmklmakcampbbaadoor", sum := "488bc2f13a7bc33759f12a8de0ed27887533fb33cd0fde82c2b5cb1751228593", func := "signalman/signalmanlaw03.MsgStream", spec := "msgStream", unfollowed := true, recurses := true, named := ["signalman/msg.shapes"], apart := false, laid := [("signalman/msg.shapes", laid_signalman_msg_shapes)], narrowed := true }
def MsgStreamUptoSaid : Prop := msgStreamUptoRow.holds Tryd.pinned (OpenSpec.upto msgStreamSpec)

end Rows
end Go.Proofs.YtmklmakcampbbaaDoor
