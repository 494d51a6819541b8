/-
  Arguments that are rows of acts of a number, a number and a natural number (layer 13), opened, with their bounds.
-/
import Derived.Test.YtgneieelfapmcaaOpen
import Derived.Test.YtgneieelfapmcaaPrK
namespace Go.Proofs.Ytgneieelfapmcaa
open Go.RowKit Go.ChangeShapes Go.WideShapes Go.ChangeAt
set_option maxRecDepth 100000

theorem u64_wf {a : Int} (h : (Lit.int .u64 a).wf = true) : U64 a := by
  obtain ⟨n, rfl, h2⟩ := wfu64 h
  exact ⟨Int.natCast_nonneg n, by omega⟩
section
variable {H : Type} {enc : TypeId × Value → H} {W : World}
theorem open_ac3_cells {fuel : Nat} {cs : List Value} {x : DataW H × List MemPlace} (h : DataW.trod enc Try.prog W 0 (fun _ => true) true fuel 34 cs = some x) :
    ∃ t : Ac3, cs = t.cells ∧ I64 t.x ∧ U64 t.y := by
  obtain ⟨xs, n, _, rfl, hl, hlen, hf⟩ := DataW.trod_struct Try.underlying34 h
  have h2 : Try.prog.cellsOf 34 = 3 := by kernel_rfl
  rw [h2] at hl
  match cs, hl with
  | [v0, v1, v2], _ =>
    simp only [Array.size] at hlen
    match xs, hlen with
    | [y0, y1, y2], _ =>
      have c1 : Try.prog.cellsOf 3 = 1 := by kernel_rfl
      have c2 : Try.prog.cellsOf 22 = 1 := by kernel_rfl
      have e0 : DataW.trod enc Try.prog W 0 (fun _ => true) true n 3 (([v0, v1, v2].drop 0).take (Try.prog.cellsOf 3)) = some y0 := hf 0 _ rfl
      have e1 : DataW.trod enc Try.prog W 0 (fun _ => true) true n 3 (([v0, v1, v2].drop 1).take (Try.prog.cellsOf 3)) = some y1 := hf 1 _ rfl
      have e2 : DataW.trod enc Try.prog W 0 (fun _ => true) true n 22 (([v0, v1, v2].drop 2).take (Try.prog.cellsOf 22)) = some y2 := hf 2 _ rfl
      rw [c1] at e0 e1
      rw [c2] at e2
      obtain ⟨q, hq, _, _⟩ := DataW.trod_int (k := .i64) Try.underlying3 (show DataW.trod enc Try.prog W 0 (fun _ => true) true n 3 [v0] = some y0 from e0)
      obtain ⟨a, ha, _, wa⟩ := DataW.trod_int (k := .i64) Try.underlying3 (show DataW.trod enc Try.prog W 0 (fun _ => true) true n 3 [v1] = some y1 from e1)
      obtain ⟨b, hb, _, wb⟩ := DataW.trod_int (k := .u64) Try.underlying22 (show DataW.trod enc Try.prog W 0 (fun _ => true) true n 22 [v2] = some y2 from e2)
      simp only [List.cons.injEq, and_true] at hq ha hb
      subst hq ha hb
      exact ⟨⟨q, a, b⟩, rfl, wf64 wa, u64_wf wb⟩

theorem open_ac3s {r : Reach} {b0 : Nat} {v : Value} {d : DataW H} {ps : List MemPlace} (hval : Value.okWide Try.prog W r b0 23 v) (h : DataW.Trod enc Try.prog W 0 (fun _ => true) true 23 v d ps) (hw : Light Try.prog 23 d) :
    ∃ A l c ts, v = .slice A l c ∧ AP W A l ts ∧ ∀ x ∈ ts, I64 x.x ∧ U64 x.y := by
  obtain ⟨a, l, c, rfl⟩ := okWide_slice Try.underlying23 hval
  obtain ⟨fuel, hf⟩ := h
  obtain ⟨A, l', c', ts, hcs, hl, hr, hy, _, _⟩ := open_rows (R := Ac3) (cells := Ac3.cells) (size := 3) (bytes := 24) (OK := fun t => I64 t.x ∧ U64 t.y) Try.underlying23 (by kernel_rfl) (by kernel_rfl) (by omega)
    (fun n cs' x' h' _ => by
      obtain ⟨t, ht, h1, h2⟩ := open_ac3_cells h'
      exact ⟨t, ht, h1, h2⟩) hf hw
  have hcs' : [Value.slice a l c] = [Value.slice A l' c'] := hcs
  simp only [List.cons.injEq, Value.slice.injEq, and_true] at hcs'
  obtain ⟨rfl, rfl, rfl⟩ := hcs'
  exact ⟨a, l, c, ts, rfl, ⟨hl, hr⟩, hy⟩
end
end Go.Proofs.Ytgneieelfapmcaa
