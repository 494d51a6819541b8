/-
  Rows of pairs cut, copied and laid behind one another: slices.Concat, slices.Clone: contracts.
-/
import Derived.Test.YtkkmjoadhjnldaaDoorPlA
import Derived.Lib.AppendZerosOnto
import Derived.Lib.SliceRun
namespace Go.Proofs.YtkkmjoadhjnldaaDoor
open Go.RowKit
set_option maxRecDepth 100000

section
variable {w : World} {A : Option Addr} {n c : Nat} {ts : List Kv}
theorem KR.cut0 (h : KR w A n ts) (hc : n ≤ c) (P : Program) (t : TypeId) (ht : P.underlying t = some (.slice (P.elem t))) (hz : (P.info? (P.elem t)).map (·.size) = some 2) {j : Nat} (y : Int) (hy : y = j) (hj : j ≤ n) :
    ∃ A', (∀ u, (Instr.slice t (.slice A n c) none (some (.int .i64 y)) none).run P u = .ok (.slice A' j c) u) ∧ KR w A' j (ts.take j) := by
  obtain ⟨ti, hti, hsz⟩ := Option.map_eq_some_iff.1 hz
  refine ⟨A, fun u => ?_, ⟨by rw [List.length_take, h.len]; omega, by rw [kvC_take]; exact h.rd.front _⟩⟩
  subst hy
  rw [run_slice_h u t A n c ht .i64 j (by omega) (by omega)]
  cases A with
  | none => simp [sizeOf, typeInfo, hti, hsz, sliced, Result.andThen]
  | some ad => simp [sizeOf, typeInfo, hti, hsz, sliced, Result.andThen, Addr.add]
theorem KR.cut1 (h : KR w A n ts) (hc : n ≤ c) (P : Program) (t : TypeId) (ht : P.underlying t = some (.slice (P.elem t))) (hz : (P.info? (P.elem t)).map (·.size) = some 2) {i : Nat} (x : Int) (hx : x = i) (hi : i ≤ n) :
    ∃ A', (∀ u, (Instr.slice t (.slice A n c) (some (.int .i64 x)) none none).run P u = .ok (.slice A' (n - i) (c - i)) u) ∧ KR w A' (n - i) (ts.drop i) := by
  obtain ⟨ti, hti, hsz⟩ := Option.map_eq_some_iff.1 hz
  have hr := h.rd.cut (k := i * 2) (cap := c * 2) (by rw [kvC_length, h.len]; omega)
  have e : (if c * 2 = i * 2 then A else A.map (·.add (i * 2))) = if c = i then A else A.map (·.add (i * 2)) := by
    by_cases hci : c = i
    · rw [if_pos hci, if_pos (by rw [hci])]
    · rw [if_neg hci, if_neg (by omega)]
  rw [e] at hr
  refine ⟨_, fun u => ?_, ⟨by rw [List.length_drop, h.len], by rw [kvC_drop]; exact hr⟩⟩
  subst hx
  rw [run_slice_l u t A n c ht .i64 i (by omega) (by omega)]
  simp [sizeOf, typeInfo, hti, hsz, sliced, Result.andThen]
end

/-- a row of pairs as it lies -/
structure PartK where
  A : Option Addr
  l : Nat
  c : Nat
  ts : List Kv
def flatK (ps : List PartK) : List Kv := ps.flatMap (·.ts)
theorem flatK_next (ps : List PartK) (k : Nat) (h : k < ps.length) : flatK (ps.take (k + 1)) = flatK (ps.take k) ++ ps[k].ts := by
  rw [List.take_succ_eq_append_getElem h]
  simp only [flatK, List.flatMap_append, List.flatMap_cons, List.flatMap_nil, List.append_nil]
theorem sizesK_next (ps : List PartK) (k : Nat) (h : k < ps.length) : (flatK (ps.take (k + 1))).length = (flatK (ps.take k)).length + ps[k].ts.length := by
  rw [flatK_next ps k h, List.length_append]
theorem sizesK_le (ps : List PartK) (k : Nat) : (flatK (ps.take k)).length ≤ (flatK ps).length := by
  have h : flatK ps = flatK (ps.take k) ++ flatK (ps.drop k) := by rw [flatK, flatK, flatK, ← List.flatMap_append, List.take_append_drop]
  rw [h, List.length_append]
  omega

end Go.Proofs.YtkkmjoadhjnldaaDoor
