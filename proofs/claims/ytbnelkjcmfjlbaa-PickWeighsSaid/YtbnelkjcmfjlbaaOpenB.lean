/-
  Rows of truths, opened.
-/
import Derived.Test.YtbnelkjcmfjlbaaOpen
import Derived.Test.YtbnelkjcmfjlbaaRowN
namespace Go.Proofs.Ytbnelkjcmfjlbaa
open Go.RowKit Go.ChangeShapes Go.WideShapes Go.ChangeAt
set_option maxRecDepth 100000
section
variable {H : Type} {enc : TypeId × Value → H} {W : World}
theorem flat_bools : ∀ bs : List Bool, bs.flatMap (fun b => [Value.bool b]) = bs.map Value.bool
  | [] => rfl
  | b :: r => congrArg (Value.bool b :: ·) (flat_bools r)
theorem open_bools {r : Reach} {b0 : Nat} {v : Value} {d : DataW H} {ps : List MemPlace} (hval : Value.okWide Try.prog W r b0 24 v) (h : DataW.Trod enc Try.prog W 0 (fun _ => true) true 24 v d ps) (hw : Light Try.prog 24 d) :
    ∃ A l c bs, v = .slice A l c ∧ BR W A l bs := by
  obtain ⟨a, l, c, rfl⟩ := okWide_slice Try.underlying24 hval
  obtain ⟨fuel, hf⟩ := h
  obtain ⟨A, l', c', bs, hcs, hl, hr, _, _, _⟩ := open_rows (R := Bool) (cells := fun b => [Value.bool b]) (size := 1) (bytes := 1) (OK := fun _ => True) Try.underlying24 (by kernel_rfl) (by kernel_rfl) (by omega)
    (fun n cs' x' h' _ => by
      obtain ⟨b, hb, _⟩ := DataW.trod_bool Try.underlying4 h'
      exact ⟨b, hb, trivial⟩) hf hw
  have hcs' : [Value.slice a l c] = [Value.slice A l' c'] := hcs
  simp only [List.cons.injEq, Value.slice.injEq, and_true] at hcs'
  obtain ⟨rfl, rfl, rfl⟩ := hcs'
  rw [flat_bools] at hr
  exact ⟨a, l, c, bs, rfl, ⟨hl, hr⟩⟩
end
end Go.Proofs.Ytbnelkjcmfjlbaa
