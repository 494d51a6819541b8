/-
  Layer 12: the three walks, of the landed code.
-/
import Derived.Test.YtbhgoeofcapckaaHeD
import Derived.Test.YtbhgoeofcapckaaHeA
import Derived.Test.YtbhgoeofcapckaaHealthTellsW
import Derived.Test.YtbhgoeofcapckaaHealthPassesW
import Derived.Test.YtbhgoeofcapckaaHealthLagsW
namespace Go.Proofs.Ytbhgoeofcapckaa
open Go.RowKit
set_option maxRecDepth 100000

theorem healthtells_all (c : HCf) (s : HSt) (p : HPr) (W : World) (_ : 0 ≤ c.l) :
    Calls Try.prog 3 #[.agg #[.int .i64 c.f, .int .i64 c.p, .int .u64 c.l], .agg #[.int .i64 s.i, .int .i64 s.c], .agg #[.bool p.o, .int .u64 p.l]] W fun e w' => e = .returned (.bool true) ∧ Below W.heap.size W w' :=
  healthtells_walk healthc_ok.k c.f c.p c.l s.i s.c p.o p.l W
theorem healthpasses_all (c : HCf) (A1 : Option Addr) (n1 c1 : Nat) (ps : List HPr) (A2 : Option Addr) (n2 c2 : Nat) (gs : List Int) (W : World) (h0 : 0 ≤ c.l) (r1 : HQ W A1 n1 ps) (r2 : UR W A2 n2 gs) :
    Calls Try.prog 4 #[.agg #[.int .i64 c.f, .int .i64 c.p, .int .u64 c.l], .slice A1 n1 c1, .slice A2 n2 c2] W fun e w' => e = .returned (.bool true) ∧ Below W.heap.size W w' :=
  healthpasses_walk healthc_ok.k c A1 n1 c1 ps A2 n2 c2 gs W h0 r1 r2
theorem healthlags_all (c : HCf) (A1 : Option Addr) (n1 c1 : Nat) (ps : List HPr) (g : Int) (W : World) (h0 : 0 ≤ c.l) (r1 : HQ W A1 n1 ps) :
    Calls Try.prog 5 #[.agg #[.int .i64 c.f, .int .i64 c.p, .int .u64 c.l], .slice A1 n1 c1, .int .u64 g] W fun e w' => e = .returned (.bool true) ∧ Below W.heap.size W w' :=
  healthlags_walk healthc_ok.k c A1 n1 c1 ps g W h0 r1
end Go.Proofs.Ytbhgoeofcapckaa
