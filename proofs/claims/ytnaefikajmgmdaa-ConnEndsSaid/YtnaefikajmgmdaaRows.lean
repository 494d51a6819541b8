/-
  No cell of these rows narrows 'for every input' (looked for: loops, veiled, ifaces, maps, wideKeys, modest, calm, conditions, laid).
  DERIVED. THE GIVEN ROWS OF THIS SEAT. 3 by the template 'for every input the law returns true; each argument reads behind the call as it read before'; 0 by the template 'total and deterministic' (their statements: YtnaefikajmgmdaaTotals.lean).
  GIVEN WITH THE SEED: the statements are not yours to turn. If you find one false, say at which input.
  Laid BY PROGRAM, IN A SANDBOX (cutbox-rows.mjs): the forced cells as the released guide's own fill.sh prints them over the translation b0ba3118212d3029… (all of the seat's roots in one cut). By AI agents, Wed Nov 11 2026. No macro, syntax, notation, axiom, sorry.
-/
import Derived.Test.YtnaefikajmgmdaaChecked
import GoSem.Claim
import GoSem.ClaimJoined
import GoSem.ClaimMapViews
import Derived.JoinedTies
import Derived.KernelRfl
namespace Go.Proofs.Ytnaefikajmgmdaa
/- THE CELL 'sum', in the pinned program and in every row, IS THE sha256 OF THE DUMP (.gsa) THAT YtnaefikajmgmdaaProg.lean LOADS. Nothing in Lean hashes anything: it is a label: what it is worth is what the hold of that sum in a sandbox is worth. -/
noncomputable def Try.pinned : Pinned := { name := "ytnaefikajmgmdaa", sum := "b0ba3118212d302979783854442f56c5d6af064da2f1577ee37a7192e228a44d", checked := Try.checked }
namespace Rows
def none {H : Type} : Left H := { results := [], args := [] }

/-- 'signalmanlaw09.ConnDoes': WHATEVER THE INPUT: true; the input reads as it did. -/
def connDoesSpec : ChangeSpec := { name := "connDoes", fn := fun _ => fun
  | [d1, d2] => { results := [.lit (.bool true)], args := [d1, d2] }
  | _ => none }
def connDoesRow : OpenClaim := { program := "ytnaefikajmgmdaa", sum := "b0ba3118212d302979783854442f56c5d6af064da2f1577ee37a7192e228a44d", func := "signalman/signalmanlaw09.ConnDoes", spec := "connDoes", inPlace := ["sync/atomic.CompareAndSwapInt64", "sync/atomic.LoadInt64", "sync/atomic.LoadUint32", "sync/atomic.CompareAndSwapUint64", "sync/atomic.AddInt64", "sync/atomic.LoadUint64", "sync/atomic.StoreUint32", "sync/atomic.StoreInt64", "sync/atomic.SwapUint64"], apart := false }
def ConnDoesSaid : Prop := connDoesRow.holds Try.pinned (OpenSpec.ofChange connDoesSpec)

/-- ITS FALSE NEIGHBOUR: 'it returns false'. Refute it at one input. -/
def connDoesWrong : ChangeSpec := { name := "connDoes", fn := fun _ => fun
  | [d1, d2] => { results := [.lit (.bool false)], args := [d1, d2] }
  | _ => none }
def ConnDoesWrongFalsely : Prop := connDoesRow.holds Try.pinned (OpenSpec.ofChange connDoesWrong)

/-- 'signalmanlaw09.ConnOne': WHATEVER THE INPUT: true; the input reads as it did. -/
def connOneSpec : ChangeSpec := { name := "connOne", fn := fun _ => fun
  | [d] => { results := [.lit (.bool true)], args := [d] }
  | _ => none }
def connOneRow : OpenClaim := { program := "ytnaefikajmgmdaa", sum := "b0ba3118212d302979783854442f56c5d6af064da2f1577ee37a7192e228a44d", func := "signalman/signalmanlaw09.ConnOne", spec := "connOne", inPlace := ["sync/atomic.CompareAndSwapInt64", "sync/atomic.LoadInt64", "sync/atomic.LoadUint32", "sync/atomic.CompareAndSwapUint64", "sync/atomic.AddInt64", "sync/atomic.LoadUint64", "sync/atomic.StoreUint32", "sync/atomic.StoreInt64", "sync/atomic.SwapUint64"], apart := false }
def ConnOneSaid : Prop := connOneRow.holds Try.pinned (OpenSpec.ofChange connOneSpec)

/-- ITS FALSE NEIGHBOUR: 'it returns false'. Refute it at one input. -/
def connOneWrong : ChangeSpec := { name := "connOne", fn := fun _ => fun
  | [d] => { results := [.lit (.bool false)], args := [d] }
  | _ => none }
def ConnOneWrongFalsely : Prop := connOneRow.holds Try.pinned (OpenSpec.ofChange connOneWrong)

/-- 'signalmanlaw09.ConnEnds': WHATEVER THE INPUT: true; the input reads as it did. -/
def connEndsSpec : ChangeSpec := { name := "connEnds", fn := fun _ => fun
  | [d1, d2, d3] => { results := [.lit (.bool true)], args := [d1, d2, d3] }
  | _ => none }
def connEndsRow : OpenClaim := { program := "ytnaefikajmgmdaa", sum := "b0ba3118212d302979783854442f56c5d6af064da2f1577ee37a7192e228a44d", func := "signalman/signalmanlaw09.ConnEnds", spec := "connEnds", inPlace := ["sync/atomic.CompareAndSwapInt64", "sync/atomic.LoadInt64", "sync/atomic.LoadUint32", "sync/atomic.CompareAndSwapUint64", "sync/atomic.AddInt64", "sync/atomic.LoadUint64", "sync/atomic.StoreUint32", "sync/atomic.StoreInt64", "sync/atomic.SwapUint64"], apart := false }
def ConnEndsSaid : Prop := connEndsRow.holds Try.pinned (OpenSpec.ofChange connEndsSpec)

/-- ITS FALSE NEIGHBOUR: 'it returns false'. Refute it at one input. -/
def connEndsWrong : ChangeSpec := { name := "connEnds", fn := fun _ => fun
  | [d1, d2, d3] => { results := [.lit (.bool false)], args := [d1, d2, d3] }
  | _ => none }
def ConnEndsWrongFalsely : Prop := connEndsRow.holds Try.pinned (OpenSpec.ofChange connEndsWrong)

/- THE SECOND FORM. 'bulk': how many values and letters a reading holds, each counted each time it is reached (what is shared counts as often as it is met; a slice's spare places count too). A statement '..UptoSaid' is the law's where the arguments, and the package variables that the reading takes, are together of bulk at most 1048576: NARROWER than '..Said'. Prove '..Said' where nothing that the law and all that it calls make is longer than what came in: it says more and counts as full. Else prove '..UptoSaid'. A law counts once. -/
mutual
def uptoBulk {H : Type} : DataW H → Nat
  | .lit (.string bytes) => bytes.length + 1
  | .lit _ => 1
  | .nil => 1
  | .ptr d => uptoBulk d + 1
  | .slice elems spare => uptoBulkAll elems + uptoBulkAll spare + 1
  | .agg parts => uptoBulkAll parts + 1
  | .iface _ d => uptoBulk d + 1
  | .map entries => uptoBulkEntries entries + 1
  | .held _ => 1
def uptoBulkAll {H : Type} : List (DataW H) → Nat
  | [] => 0
  | d :: r => uptoBulk d + uptoBulkAll r
def uptoBulkEntries {H : Type} : List (Lit × DataW H) → Nat
  | [] => 0
  | x :: r => uptoBulkEntry x + uptoBulkEntries r
def uptoBulkEntry {H : Type} : Lit × DataW H → Nat
  | (.string bytes, d) => bytes.length + uptoBulk d + 1
  | (_, d) => uptoBulk d + 1
 end
def uptoSmall : (H : Type) → List (DataW H) → Bool := fun _ ds => decide (uptoBulkAll ds ≤ 1048576)
def OpenSpec.upto (s : _root_.Go.ChangeSpec) : _root_.Go.OpenSpec := { _root_.Go.OpenSpec.ofChange s with cond := some uptoSmall }

/-- 'signalmanlaw09.ConnDoes', WHERE WHAT IT READS IS OF BULK AT MOST 1048576: true; the input reads as it did. -/
def connDoesUptoRow : OpenClaim := { program := "ytnaefikajmgmdaa", sum := "b0ba3118212d302979783854442f56c5d6af064da2f1577ee37a7192e228a44d", func := "signalman/signalmanlaw09.ConnDoes", spec := "connDoes", inPlace := ["sync/atomic.CompareAndSwapInt64", "sync/atomic.LoadInt64", "sync/atomic.LoadUint32", "sync/atomic.CompareAndSwapUint64", "sync/atomic.AddInt64", "sync/atomic.LoadUint64", "sync/atomic.StoreUint32", "sync/atomic.StoreInt64", "sync/atomic.SwapUint64"], apart := false, narrowed := true }
def ConnDoesUptoSaid : Prop := connDoesUptoRow.holds Try.pinned (OpenSpec.upto connDoesSpec)

/-- 'signalmanlaw09.ConnOne', WHERE WHAT IT READS IS OF BULK AT MOST 1048576: true; the input reads as it did. -/
def connOneUptoRow : OpenClaim := { program := "ytnaefikajmgmdaa", sum := "b0ba3118212d302979783854442f56c5d6af064da2f1577ee37a7192e228a44d", func := "signalman/signalmanlaw09.ConnOne", spec := "connOne", inPlace := ["sync/atomic.CompareAndSwapInt64", "sync/atomic.LoadInt64", "sync/atomic.LoadUint32", "sync/atomic.CompareAndSwapUint64", "sync/atomic.AddInt64", "sync/atomic.LoadUint64", "sync/atomic.StoreUint32", "sync/atomic.StoreInt64", "sync/atomic.SwapUint64"], apart := false, narrowed := true }
def ConnOneUptoSaid : Prop := connOneUptoRow.holds Try.pinned (OpenSpec.upto connOneSpec)

/-- 'signalmanlaw09.ConnEnds', WHERE WHAT IT READS IS OF BULK AT MOST 1048576: true; the input reads as it did. -/
def connEndsUptoRow : OpenClaim := { program := "ytnaefikajmgmdaa", sum := "b0ba3118212d302979783854442f56c5d6af064da2f1577ee37a7192e228a44d", func := "signalman/signalmanlaw09.ConnEnds", spec := "connEnds", inPlace := ["sync/atomic.CompareAndSwapInt64", "sync/atomic.LoadInt64", "sync/atomic.LoadUint32", "sync/atomic.CompareAndSwapUint64", "sync/atomic.AddInt64", "sync/atomic.LoadUint64", "sync/atomic.StoreUint32", "sync/atomic.StoreInt64", "sync/atomic.SwapUint64"], apart := false, narrowed := true }
def ConnEndsUptoSaid : Prop := connEndsUptoRow.holds Try.pinned (OpenSpec.upto connEndsSpec)

end Rows
end Go.Proofs.Ytnaefikajmgmdaa
