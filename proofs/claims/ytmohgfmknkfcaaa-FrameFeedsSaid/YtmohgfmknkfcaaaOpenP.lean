/-
  An argument that is a row of rows of bytes, opened.
-/
import Derived.Test.YtmohgfmknkfcaaaOpenF
namespace Go.Proofs.Ytmohgfmknkfcaaa
open Go.RowKit Go.ChangeShapes Go.WideShapes Go.ChangeAt

section
variable {H : Type} {enc : TypeId × Value → H} {W : World}
theorem open_parts {r : Reach} {b0 : Nat} {v : Value} {d : DataW H} {ps : List MemPlace} (hval : Value.okWide Try.prog W r b0 41 v) (h : DataW.Trod enc Try.prog W 0 (fun _ => true) true 41 v d ps) (hw : Light Try.prog 41 d) :
    ∃ A l c, ∃ qs : List Part, v = .slice A l c ∧ qs.length = l ∧ Rd W W.heap.size A (qs.map fun p => Value.slice p.A p.l p.c) ∧ (∀ p ∈ qs, Sl W W.heap.size p.A p.l p.c p.bs ∧ p.c ≤ 140737488351232) ∧ l ≤ c ∧ c * 24 ≤ 140737488351232 := by
  obtain ⟨a, l, c, rfl⟩ := okWide_slice Try.underlying41 hval
  obtain ⟨fuel, hf⟩ := h
  obtain ⟨A, l', c', qs, hcs, hl, hr, hok, hlc, hm⟩ := open_rows (R := Part) (cells := Part.cell) (size := 1) (OK := fun p => Sl W W.heap.size p.A p.l p.c p.bs ∧ p.c ≤ 140737488351232) Try.underlying41 (by kernel_rfl) (by kernel_rfl) (by omega)
    (fun n cs' x' h' hw' => by
      obtain ⟨A, l, c, bs, rfl, hs, hc⟩ := open_bytes_cells Try.underlying22 Try.underlying5 (by kernel_rfl) (by kernel_rfl) h' hw'
      exact ⟨⟨A, l, c, bs⟩, rfl, hs, hc⟩) hf hw
  have hcs' : [Value.slice a l c] = [Value.slice A l' c'] := hcs
  simp only [List.cons.injEq, Value.slice.injEq, and_true] at hcs'
  obtain ⟨rfl, rfl, rfl⟩ := hcs'
  rw [part_cells] at hr
  exact ⟨a, l, c, qs, rfl, hl, hr, hok, hlc, hm⟩
end
end Go.Proofs.Ytmohgfmknkfcaaa
