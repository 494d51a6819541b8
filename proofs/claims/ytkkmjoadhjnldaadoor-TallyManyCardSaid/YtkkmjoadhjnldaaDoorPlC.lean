/-
  What is written to a table, by the call Writes of package plan: contract.
-/
import Derived.Test.YtkkmjoadhjnldaaDoorPlB
import Derived.BigQuiet
namespace Go.Proofs.YtkkmjoadhjnldaaDoor
open Go.RowKit
set_option maxRecDepth 100000

def planV (d : Int) (k v : ByteArray) : Value := .agg #[.int .i64 d, .string k, .string v]
/-- a block of three cells -/
theorem cells3 {w : World} {b : Nat} {x y z : Value} {t : TypeId} (h : w.heap[b]? = some (.cells #[x, y, z] t (0, 0))) : w.cell? ⟨b, 0, none⟩ = some x ∧ w.cell? ⟨b, 1, none⟩ = some y ∧ w.cell? ⟨b, 2, none⟩ = some z := by
  refine ⟨?_, ?_, ?_⟩
  · rw [cell_of_row _ _ 0 #[x, y, z] t (0, 0) h]; rfl
  · rw [cell_of_row _ _ 1 #[x, y, z] t (0, 0) h]; rfl
  · rw [cell_of_row _ _ 2 #[x, y, z] t (0, 0) h]; rfl
theorem box3 {w u : World} {x y z : Value} {t : TypeId} (k : Below (w.alloc (.cells #[x, y, z] t)).heap.size (w.alloc (.cells #[x, y, z] t)) u) : u.cell? ⟨w.heap.size, 0, none⟩ = some x ∧ u.cell? ⟨w.heap.size, 1, none⟩ = some y ∧ u.cell? ⟨w.heap.size, 2, none⟩ = some z :=
  cells3 ((k.block _ (by simp)).trans (heap_alloc_new w _))

end Go.Proofs.YtkkmjoadhjnldaaDoor
