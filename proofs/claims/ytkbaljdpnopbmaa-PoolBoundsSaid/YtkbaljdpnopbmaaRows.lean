/-
  No cell of these rows narrows 'for every input' (looked for: loops, veiled, ifaces, maps, wideKeys, modest, calm, conditions, laid).
  DERIVED. THE GIVEN ROWS OF THIS SEAT. 5 by the template 'for every input the law returns true; each argument reads behind the call as it read before'; 0 by the template 'total and deterministic' (their statements: YtkbaljdpnopbmaaTotals.lean).
  GIVEN WITH THE SEED: the statements are not yours to turn. If you find one false, say at which input.
  Laid BY PROGRAM, IN A SANDBOX (cutbox-rows.mjs): the forced cells as the released guide's own fill.sh prints them over the translation 0491efafa6f10f52… (all of the seat's roots in one cut). By AI agents, Wed Nov 11 2026. No macro, syntax, notation, axiom, sorry.
-/
import Derived.Test.YtkbaljdpnopbmaaChecked
import GoSem.Claim
import GoSem.ClaimJoined
import GoSem.ClaimMapViews
import Derived.JoinedTies
import Derived.KernelRfl
namespace Go.Proofs.Ytkbaljdpnopbmaa
/- THE CELL 'sum', in the pinned program and in every row, IS THE sha256 OF THE DUMP (.gsa) THAT YtkbaljdpnopbmaaProg.lean LOADS. Nothing in Lean hashes anything: it is a label: what it is worth is what the hold of that sum in a sandbox is worth. -/
noncomputable def Try.pinned : Pinned := { name := "ytkbaljdpnopbmaa", sum := "0491efafa6f10f52413bcbecc21495a21d0113f7a5554e74ff83611b39fb0bb8", checked := Try.checked }
namespace Rows
def none {H : Type} : Left H := { results := [], args := [] }

/-- 'signalmanlaw10.PoolBounds': WHATEVER THE INPUT: true; the input reads as it did. -/
def poolBoundsSpec : ChangeSpec := { name := "poolBounds", fn := fun _ => fun
  | [d1, d2, d3, d4] => { results := [.lit (.bool true)], args := [d1, d2, d3, d4] }
  | _ => none }
def poolBoundsRow : OpenClaim := { program := "ytkbaljdpnopbmaa", sum := "0491efafa6f10f52413bcbecc21495a21d0113f7a5554e74ff83611b39fb0bb8", func := "signalman/signalmanlaw10.PoolBounds", spec := "poolBounds", inPlace := ["sync/atomic.LoadInt64", "sync/atomic.LoadUint32", "sync/atomic.CompareAndSwapInt64", "sync/atomic.LoadUint64"], unfollowed := true, recurses := true, apart := false }
def PoolBoundsSaid : Prop := poolBoundsRow.holds Try.pinned (OpenSpec.ofChange poolBoundsSpec)

/-- ITS FALSE NEIGHBOUR: 'it returns false'. Refute it at one input. -/
def poolBoundsWrong : ChangeSpec := { name := "poolBounds", fn := fun _ => fun
  | [d1, d2, d3, d4] => { results := [.lit (.bool false)], args := [d1, d2, d3, d4] }
  | _ => none }
def PoolBoundsWrongFalsely : Prop := poolBoundsRow.holds Try.pinned (OpenSpec.ofChange poolBoundsWrong)

/-- 'signalmanlaw10.PoolFair': WHATEVER THE INPUT: true; the input reads as it did. -/
def poolFairSpec : ChangeSpec := { name := "poolFair", fn := fun _ => fun
  | [d1, d2, d3] => { results := [.lit (.bool true)], args := [d1, d2, d3] }
  | _ => none }
def poolFairRow : OpenClaim := { program := "ytkbaljdpnopbmaa", sum := "0491efafa6f10f52413bcbecc21495a21d0113f7a5554e74ff83611b39fb0bb8", func := "signalman/signalmanlaw10.PoolFair", spec := "poolFair", inPlace := ["sync/atomic.LoadInt64", "sync/atomic.LoadUint32", "sync/atomic.CompareAndSwapInt64", "sync/atomic.LoadUint64"], unfollowed := true, recurses := true, apart := false }
def PoolFairSaid : Prop := poolFairRow.holds Try.pinned (OpenSpec.ofChange poolFairSpec)

/-- ITS FALSE NEIGHBOUR: 'it returns false'. Refute it at one input. -/
def poolFairWrong : ChangeSpec := { name := "poolFair", fn := fun _ => fun
  | [d1, d2, d3] => { results := [.lit (.bool false)], args := [d1, d2, d3] }
  | _ => none }
def PoolFairWrongFalsely : Prop := poolFairRow.holds Try.pinned (OpenSpec.ofChange poolFairWrong)

/-- 'signalmanlaw10.PoolDrains': WHATEVER THE INPUT: true; the input reads as it did. -/
def poolDrainsSpec : ChangeSpec := { name := "poolDrains", fn := fun _ => fun
  | [d1, d2, d3, d4, d5] => { results := [.lit (.bool true)], args := [d1, d2, d3, d4, d5] }
  | _ => none }
def poolDrainsRow : OpenClaim := { program := "ytkbaljdpnopbmaa", sum := "0491efafa6f10f52413bcbecc21495a21d0113f7a5554e74ff83611b39fb0bb8", func := "signalman/signalmanlaw10.PoolDrains", spec := "poolDrains", inPlace := ["sync/atomic.LoadInt64", "sync/atomic.LoadUint32", "sync/atomic.CompareAndSwapInt64", "sync/atomic.LoadUint64"], unfollowed := true, recurses := true, apart := false }
def PoolDrainsSaid : Prop := poolDrainsRow.holds Try.pinned (OpenSpec.ofChange poolDrainsSpec)

/-- ITS FALSE NEIGHBOUR: 'it returns false'. Refute it at one input. -/
def poolDrainsWrong : ChangeSpec := { name := "poolDrains", fn := fun _ => fun
  | [d1, d2, d3, d4, d5] => { results := [.lit (.bool false)], args := [d1, d2, d3, d4, d5] }
  | _ => none }
def PoolDrainsWrongFalsely : Prop := poolDrainsRow.holds Try.pinned (OpenSpec.ofChange poolDrainsWrong)

/-- 'signalmanlaw10.PoolIds': WHATEVER THE INPUT: true; the input reads as it did. -/
def poolIdsSpec : ChangeSpec := { name := "poolIds", fn := fun _ => fun
  | [d1, d2, d3, d4] => { results := [.lit (.bool true)], args := [d1, d2, d3, d4] }
  | _ => none }
def poolIdsRow : OpenClaim := { program := "ytkbaljdpnopbmaa", sum := "0491efafa6f10f52413bcbecc21495a21d0113f7a5554e74ff83611b39fb0bb8", func := "signalman/signalmanlaw10.PoolIds", spec := "poolIds", inPlace := ["sync/atomic.LoadInt64", "sync/atomic.LoadUint32", "sync/atomic.CompareAndSwapInt64", "sync/atomic.LoadUint64"], unfollowed := true, recurses := true, apart := false }
def PoolIdsSaid : Prop := poolIdsRow.holds Try.pinned (OpenSpec.ofChange poolIdsSpec)

/-- ITS FALSE NEIGHBOUR: 'it returns false'. Refute it at one input. -/
def poolIdsWrong : ChangeSpec := { name := "poolIds", fn := fun _ => fun
  | [d1, d2, d3, d4] => { results := [.lit (.bool false)], args := [d1, d2, d3, d4] }
  | _ => none }
def PoolIdsWrongFalsely : Prop := poolIdsRow.holds Try.pinned (OpenSpec.ofChange poolIdsWrong)

/-- 'signalmanlaw10.PoolReaps': WHATEVER THE INPUT: true; the input reads as it did. -/
def poolReapsSpec : ChangeSpec := { name := "poolReaps", fn := fun _ => fun
  | [d1, d2, d3, d4, d5] => { results := [.lit (.bool true)], args := [d1, d2, d3, d4, d5] }
  | _ => none }
def poolReapsRow : OpenClaim := { program := "ytkbaljdpnopbmaa", sum := "0491efafa6f10f52413bcbecc21495a21d0113f7a5554e74ff83611b39fb0bb8", func := "signalman/signalmanlaw10.PoolReaps", spec := "poolReaps", inPlace := ["sync/atomic.LoadInt64", "sync/atomic.LoadUint32", "sync/atomic.CompareAndSwapInt64", "sync/atomic.LoadUint64"], unfollowed := true, recurses := true, apart := false }
def PoolReapsSaid : Prop := poolReapsRow.holds Try.pinned (OpenSpec.ofChange poolReapsSpec)

/-- ITS FALSE NEIGHBOUR: 'it returns false'. Refute it at one input. -/
def poolReapsWrong : ChangeSpec := { name := "poolReaps", fn := fun _ => fun
  | [d1, d2, d3, d4, d5] => { results := [.lit (.bool false)], args := [d1, d2, d3, d4, d5] }
  | _ => none }
def PoolReapsWrongFalsely : Prop := poolReapsRow.holds Try.pinned (OpenSpec.ofChange poolReapsWrong)

/- THE SECOND FORM. 'bulk': how many values and letters a reading holds, each counted each time it is reached (what is shared counts as often as it is met; a slice's spare places count too). A statement '..UptoSaid' is the law's where the arguments, and the package variables that the reading takes, are together of bulk at most 1048576: NARROWER than '..Said'. Prove '..Said' where nothing that the law and all that it calls make is longer than what came in: it says more and counts as full. Else prove '..UptoSaid'. A law counts once. -/
mutual
def uptoBulk {H : Type} : DataW H → Nat
  | .lit (.string bytes) => bytes.length + 1
  | .lit _ => 1
  | .nil => 1
  | .ptr d => uptoBulk d + 1
  | .slice elems spare => uptoBulkAll elems + uptoBulkAll spare + 1
  | .agg parts => uptoBulkAll parts + 1
  | .iface _ d => uptoBulk d + 1
  | .map entries => uptoBulkEntries entries + 1
  | .held _ => 1
def uptoBulkAll {H : Type} : List (DataW H) → Nat
  | [] => 0
  | d :: r => uptoBulk d + uptoBulkAll r
def uptoBulkEntries {H : Type} : List (Lit × DataW H) → Nat
  | [] => 0
  | x :: r => uptoBulkEntry x + uptoBulkEntries r
def uptoBulkEntry {H : Type} : Lit × DataW H → Nat
  | (.string bytes, d) => bytes.length + uptoBulk d + 1
  | (_, d) => uptoBulk d + 1
 end
def uptoSmall : (H : Type) → List (DataW H) → Bool := fun _ ds => decide (uptoBulkAll ds ≤ 1048576)
def OpenSpec.upto (s : _root_.Go.ChangeSpec) : _root_.Go.OpenSpec := { _root_.Go.OpenSpec.ofChange s with cond := some uptoSmall }

/-- 'signalmanlaw10.PoolBounds', WHERE WHAT IT READS IS OF BULK AT MOST 1048576: true; the input reads as it did. -/
def poolBoundsUptoRow : OpenClaim := { program := "ytkbaljdpnopbmaa", sum := "0491efafa6f10f52413bcbecc21495a21d0113f7a5554e74ff83611b39fb0bb8", func := "signalman/signalmanlaw10.PoolBounds", spec := "poolBounds", inPlace := ["sync/atomic.LoadInt64", "sync/atomic.LoadUint32", "sync/atomic.CompareAndSwapInt64", "sync/atomic.LoadUint64"], unfollowed := true, recurses := true, apart := false, narrowed := true }
def PoolBoundsUptoSaid : Prop := poolBoundsUptoRow.holds Try.pinned (OpenSpec.upto poolBoundsSpec)

/-- 'signalmanlaw10.PoolFair', WHERE WHAT IT READS IS OF BULK AT MOST 1048576: true; the input reads as it did. -/
def poolFairUptoRow : OpenClaim := { program := "ytkbaljdpnopbmaa", sum := "0491efafa6f10f52413bcbecc21495a21d0113f7a5554e74ff83611b39fb0bb8", func := "signalman/signalmanlaw10.PoolFair", spec := "poolFair", inPlace := ["sync/atomic.LoadInt64", "sync/atomic.LoadUint32", "sync/atomic.CompareAndSwapInt64", "sync/atomic.LoadUint64"], unfollowed := true, recurses := true, apart := false, narrowed := true }
def PoolFairUptoSaid : Prop := poolFairUptoRow.holds Try.pinned (OpenSpec.upto poolFairSpec)

/-- 'signalmanlaw10.PoolDrains', WHERE WHAT IT READS IS OF BULK AT MOST 1048576: true; the input reads as it did. -/
def poolDrainsUptoRow : OpenClaim := { program := "ytkbaljdpnopbmaa", sum := "0491efafa6f10f52413bcbecc21495a21d0113f7a5554e74ff83611b39fb0bb8", func := "signalman/signalmanlaw10.PoolDrains", spec := "poolDrains", inPlace := ["sync/atomic.LoadInt64", "sync/atomic.LoadUint32", "sync/atomic.CompareAndSwapInt64", "sync/atomic.LoadUint64"], unfollowed := true, recurses := true, apart := false, narrowed := true }
def PoolDrainsUptoSaid : Prop := poolDrainsUptoRow.holds Try.pinned (OpenSpec.upto poolDrainsSpec)

/-- 'signalmanlaw10.PoolIds', WHERE WHAT IT READS IS OF BULK AT MOST 1048576: true; the input reads as it did. -/
def poolIdsUptoRow : OpenClaim := { program := "ytkbaljdpnopbmaa", sum := "0491efafa6f10f52413bcbecc21495a21d0113f7a5554e74ff83611b39fb0bb8", func := "signalman/signalmanlaw10.PoolIds", spec := "poolIds", inPlace := ["sync/atomic.LoadInt64", "sync/atomic.LoadUint32", "sync/atomic.CompareAndSwapInt64", "sync/atomic.LoadUint64"], unfollowed := true, recurses := true, apart := false, narrowed := true }
def PoolIdsUptoSaid : Prop := poolIdsUptoRow.holds Try.pinned (OpenSpec.upto poolIdsSpec)

/-- 'signalmanlaw10.PoolReaps', WHERE WHAT IT READS IS OF BULK AT MOST 1048576: true; the input reads as it did. -/
def poolReapsUptoRow : OpenClaim := { program := "ytkbaljdpnopbmaa", sum := "0491efafa6f10f52413bcbecc21495a21d0113f7a5554e74ff83611b39fb0bb8", func := "signalman/signalmanlaw10.PoolReaps", spec := "poolReaps", inPlace := ["sync/atomic.LoadInt64", "sync/atomic.LoadUint32", "sync/atomic.CompareAndSwapInt64", "sync/atomic.LoadUint64"], unfollowed := true, recurses := true, apart := false, narrowed := true }
def PoolReapsUptoSaid : Prop := poolReapsUptoRow.holds Try.pinned (OpenSpec.upto poolReapsSpec)

end Rows
end Go.Proofs.Ytkbaljdpnopbmaa
