/-
  Connections: a connection as plain data, and what calls make of it (no function of the program is named here).
-/
import Derived.Test.YtnaefikajmgmdaaDuo
namespace Go.Proofs.Ytnaefikajmgmdaa
open Go.RowKit
set_option maxRecDepth 100000

/-- a connection: dirty?, how much was sent; who has it, what is in flight -/
inductive Cn where
  | idle (d : Bool) (n : Int)
  | lent (o f : Int) (d : Bool) (n : Int)
  | drains (o f : Int) (d : Bool) (n : Int)
  | closed (d : Bool) (n : Int)
/-- an act: what, a session, a request -/
structure Act3 where
  d : Int
  x : Int
  y : Int
instance : Inhabited Act3 := ⟨⟨0, 0, 0⟩⟩
/-- what an act answers -/
structure Told3 where
  i : Bool
  e : Int
  n : Int
namespace Cn
def s : Cn → Int
  | idle _ _ => 1
  | lent _ _ _ _ => 2
  | drains _ _ _ _ => 3
  | closed _ _ => 4
def o : Cn → Int
  | idle _ _ => 0
  | lent o _ _ _ => o
  | drains o _ _ _ => o
  | closed _ _ => 0
def f : Cn → Int
  | idle _ _ => 0
  | lent _ f _ _ => f
  | drains _ f _ _ => f
  | closed _ _ => 0
def d : Cn → Bool
  | idle d _ => d
  | lent _ _ d _ => d
  | drains _ _ d _ => d
  | closed d _ => d
def n : Cn → Int
  | idle _ n => n
  | lent _ _ _ n => n
  | drains _ _ _ n => n
  | closed _ n => n
def ok : Cn → Prop
  | idle _ _ => True
  | lent o _ _ _ => 1 ≤ o
  | drains o f _ _ => 1 ≤ o ∧ f ≠ 0
  | closed _ _ => True
def lendA (x : Int) : Cn → Bool
  | idle _ _ => decide (1 ≤ x)
  | _ => false
def lendC (x : Int) : Cn → Cn
  | idle d n => if 1 ≤ x then lent x 0 d n else idle d n
  | c => c
def sendA (y : Int) : Cn → Int
  | lent _ f _ _ => if y = 0 then 1 else if f = 0 then 0 else 7
  | _ => if y = 0 then 1 else 7
def sendC (y : Int) : Cn → Cn
  | lent o f d n => if y = 0 then lent o f d n else if f = 0 then lent o y d (IntKind.i64.wrap (n + 1)) else lent o f d n
  | c => c
def replyA (y : Int) (c : Cn) : Bool := decide (y ≠ 0 ∧ c.f = y)
def replyC (y : Int) : Cn → Cn
  | lent o f d n => if y ≠ 0 ∧ f = y then lent o 0 d n else lent o f d n
  | drains o f d n => if y ≠ 0 ∧ f = y then closed d n else drains o f d n
  | c => c
def soilA : Cn → Bool
  | lent _ _ _ _ => true
  | _ => false
def soilC : Cn → Cn
  | lent o f _ n => lent o f true n
  | c => c
def releaseA : Cn → Bool
  | lent _ f _ _ => decide (f = 0)
  | _ => false
def releaseC : Cn → Cn
  | lent o f d n => if f = 0 then (if d then closed d n else idle d n) else lent o f d n
  | c => c
def drainC : Cn → Cn
  | idle d n => closed d n
  | lent o f d n => if f = 0 then closed d n else drains o f d n
  | c => c
def breakC (c : Cn) : Cn := closed c.d c.n
/-- an act -/
def doC (t : Act3) (c : Cn) : Cn :=
  if t.d = 0 then lendC t.x c else if t.d = 1 then sendC t.y c else if t.d = 2 then replyC t.y c else if t.d = 3 then soilC c else if t.d = 4 then releaseC c else if t.d = 5 then drainC c else if t.d = 6 then breakC c else c
def doA (t : Act3) (c : Cn) : Told3 :=
  if t.d = 0 then ⟨lendA t.x c, 0, 0⟩ else if t.d = 1 then ⟨false, sendA t.y c, 0⟩ else if t.d = 2 then ⟨replyA t.y c, 0, 0⟩ else if t.d = 3 then ⟨soilA c, 0, 0⟩ else if t.d = 4 then ⟨releaseA c, 0, 0⟩ else if t.d = 5 then ⟨false, 0, 0⟩ else if t.d = 6 then ⟨false, 0, c.f⟩ else ⟨false, 0, 0⟩
/-- who has it, as the code keeps it -/
def w : Cn → Int
  | idle _ _ => 0
  | lent o _ _ _ => o
  | drains o _ _ _ => o
  | closed _ _ => -1
/-- whether it drains, as the code keeps it -/
def g (z : Bool) : Cn → Bool
  | idle _ _ => false
  | lent _ _ _ _ => false
  | drains _ _ _ _ => true
  | closed _ _ => z
end Cn
def bit (b : Bool) : Int := cond b 1 0
end Go.Proofs.Ytnaefikajmgmdaa
