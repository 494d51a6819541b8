/-
  Where a key stands in a table: place, and the library's binary search, by calls: contracts.
-/
import Derived.Test.YtkkmjoadhjnldaaDoorPlT
import Derived.Laws.Cover1
namespace Go.Proofs.YtkkmjoadhjnldaaDoor
open Go.RowKit
set_option maxRecDepth 100000

def cmpB (a b : ByteArray) : Int := if ltB a b then -1 else if a = b then 0 else 1
theorem cmpB_lt {a b : ByteArray} : decide (cmpB a b < 0) = ltB a b := by
  unfold cmpB
  cases ltB a b with
  | true => rfl
  | false =>
    by_cases h : a = b
    · rw [if_neg (by simp), if_pos h]; rfl
    · rw [if_neg (by simp), if_neg h]; rfl
theorem cmpB_eq {a b : ByteArray} : (cmpB a b == 0) = decide (a = b) := by
  unfold cmpB
  by_cases h : a = b
  · subst h
    rw [ltB_irrefl]
    simp
  · cases ltB a b with
    | true => simp [h]
    | false => simp [h]

theorem ret_b {a b : Bool} (h : a = b) : Ending.returned (.bool a) = .returned (.bool b) := by rw [h]
end Go.Proofs.YtkkmjoadhjnldaaDoor
