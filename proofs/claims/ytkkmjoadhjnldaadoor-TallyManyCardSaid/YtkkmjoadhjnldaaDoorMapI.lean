/-
  Maps of texts to numbers, as they read.
-/
import Derived.Test.YtkkmjoadhjnldaaDoorBase
import Derived.Maps.OwnOps
import Derived.StringKeys
import Derived.Maps.OwnSet
namespace Go.Proofs.YtkkmjoadhjnldaaDoor
open Go.RowKit Go.Maps Go.WideMaps
set_option maxRecDepth 100000

theorem sKey : Keyed Tryd.prog 9 := string_keyed Tryd.underlying9
theorem sZero (w : World) : (zeroValue 3).run Tryd.prog w = .ok (.int .i64 0) w := by kernel_rfl

/-- a map as it reads, of rows of a text and a number -/
def datM (L : List (List UInt8 × Int)) : DataW Unit := L.foldl (fun D p => D.put (.string p.1) (.lit (.int .i64 p.2))) (.map [])
theorem datM_push (L : List (List UInt8 × Int)) (x : List UInt8) (c : Int) : datM (L ++ [(x, c)]) = (datM L).put (.string x) (.lit (.int .i64 c)) := by simp [datM, List.foldl_append]
theorem datM_isMap (L : List (List UInt8 × Int)) : IsMap (datM L) := by
  unfold datM
  suffices h : ∀ (L : List (List UInt8 × Int)) (D : DataW Unit), IsMap D → IsMap (L.foldl (fun D p => D.put (.string p.1) (.lit (.int .i64 p.2))) D) from h L _ isMap_empty
  intro L
  induction L with
  | nil => exact fun D h => h
  | cons p r ih => exact fun D h => ih _ (h.put _ _)

def MapAt (w : World) (b : Nat) (L : List (List UInt8 × Int)) : Prop := w.ownsMap Tryd.prog 9 (plainElem Tryd.prog 3) b L.length (datM L)
theorem MapAt.keep {w w' : World} {b : Nat} {L : List (List UInt8 × Int)} (h : MapAt w b L) (hk : w'.heap[b]? = w.heap[b]?) : MapAt w' b L := by
  obtain ⟨es, clock, hb, r⟩ := h
  exact ⟨es, clock, hk.trans hb, r⟩
theorem MapAt.lt {w : World} {b : Nat} {L : List (List UInt8 × Int)} (h : MapAt w b L) : b < w.heap.size := World.ownsMap.lt h

/-- a look-up in a map -/
theorem datM_at (L : List (List UInt8 × Int)) (x : List UInt8) (z : DataW Unit) : (datM L).atKey (.string x) z = ((L.reverse.find? fun p => decide (p.1 = x)).map fun p => (.lit (.int .i64 p.2) : DataW Unit)).getD z := by
  induction h : L.reverse generalizing L with
  | nil =>
    obtain rfl : L = [] := by simpa using h
    rfl
  | cons p r ih =>
    obtain rfl : L = r.reverse ++ [p] := by rw [← List.reverse_reverse L, h]; simp
    obtain ⟨k, v⟩ := p
    rw [datM_push, List.find?_cons]
    by_cases hk : k = x
    · subst hk
      rw [atKey_put_same (datM_isMap _) (by simp [WideAt.IsKeyLit]), decide_eq_true rfl]
      rfl
    · rw [atKey_put_other (by simpa using fun e => hk e.symm), decide_eq_false hk]
      exact ih _ (by simp)
end Go.Proofs.YtkkmjoadhjnldaaDoor
