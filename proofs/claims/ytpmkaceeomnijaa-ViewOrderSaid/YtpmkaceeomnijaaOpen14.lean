/-
  Arguments that are tokens, or rows of promotions (layer 14), opened, with their bounds.
-/
import Derived.Test.YtpmkaceeomnijaaOpen
import Derived.Test.YtpmkaceeomnijaaViK
namespace Go.Proofs.Ytpmkaceeomnijaa
open Go.RowKit Go.ChangeShapes Go.WideShapes Go.ChangeAt
set_option maxRecDepth 100000

theorem isU_wf {a : Int} (h : (Lit.int .u64 a).wf = true) : IsU a := by
  obtain ⟨n, rfl, h2⟩ := wfu64 h
  exact ⟨Int.natCast_nonneg n, by omega⟩
section
variable {H : Type} {enc : TypeId × Value → H} {W : World}
theorem open_tk14_cells {fuel : Nat} {cs : List Value} {x : DataW H × List MemPlace} (h : DataW.trod enc Try.prog W 0 (fun _ => true) true fuel 25 cs = some x) : ∃ s : Tk14, cs = [.int .u64 s.e, .int .u64 s.p] ∧ IsU s.e ∧ IsU s.p := by
  obtain ⟨xs, n, _, rfl, hl, hlen, hf⟩ := DataW.trod_struct Try.underlying25 h
  have h2 : Try.prog.cellsOf 25 = 2 := by kernel_rfl
  rw [h2] at hl
  match cs, hl with
  | [v0, v1], _ =>
    simp only [Array.size] at hlen
    match xs, hlen with
    | [y0, y1], _ =>
      have c1 : Try.prog.cellsOf 23 = 1 := by kernel_rfl
      have e0 : DataW.trod enc Try.prog W 0 (fun _ => true) true n 23 (([v0, v1].drop 0).take (Try.prog.cellsOf 23)) = some y0 := hf 0 _ rfl
      have e1 : DataW.trod enc Try.prog W 0 (fun _ => true) true n 23 (([v0, v1].drop 1).take (Try.prog.cellsOf 23)) = some y1 := hf 1 _ rfl
      rw [c1] at e0 e1
      obtain ⟨a, ha, _, wa⟩ := DataW.trod_int (k := .u64) Try.underlying23 (show DataW.trod enc Try.prog W 0 (fun _ => true) true n 23 [v0] = some y0 from e0)
      obtain ⟨b, hb, _, wb⟩ := DataW.trod_int (k := .u64) Try.underlying23 (show DataW.trod enc Try.prog W 0 (fun _ => true) true n 23 [v1] = some y1 from e1)
      simp only [List.cons.injEq, and_true] at ha hb
      subst ha hb
      exact ⟨⟨a, b⟩, rfl, isU_wf wa, isU_wf wb⟩
theorem open_tk14 {r : Reach} {b0 : Nat} {v : Value} {d : DataW H} {ps : List MemPlace} (hval : Value.okWide Try.prog W r b0 25 v) (h : DataW.Trod enc Try.prog W 0 (fun _ => true) true 25 v d ps) :
    ∃ e p : Int, v = .agg #[.int .u64 e, .int .u64 p] ∧ IsU e ∧ IsU p := by
  obtain ⟨cs, rfl, hsz⟩ := okWide_struct Try.underlying25 hval
  obtain ⟨fuel, hf⟩ := h
  obtain ⟨t, hq, h0, h1⟩ := open_tk14_cells hf
  refine ⟨t.e, t.p, ?_, h0, h1⟩
  have h2 : cs.toList = [.int .u64 t.e, .int .u64 t.p] := hq
  rw [show cs = #[.int .u64 t.e, .int .u64 t.p] by rw [← h2]]
theorem open_pm_cells {fuel : Nat} {cs : List Value} {x : DataW H × List MemPlace} (h : DataW.trod enc Try.prog W 0 (fun _ => true) true fuel 45 cs = some x) :
    ∃ t : Pm, cs = [.int .u64 t.e, .int .u64 t.c, .int .i64 t.p] ∧ IsU t.e ∧ IsU t.c ∧ IsI t.p := by
  obtain ⟨xs, n, _, rfl, hl, hlen, hf⟩ := DataW.trod_struct Try.underlying45 h
  have h2 : Try.prog.cellsOf 45 = 3 := by kernel_rfl
  rw [h2] at hl
  match cs, hl with
  | [v0, v1, v2], _ =>
    simp only [Array.size] at hlen
    match xs, hlen with
    | [y0, y1, y2], _ =>
      have c1 : Try.prog.cellsOf 3 = 1 := by kernel_rfl
      have c2 : Try.prog.cellsOf 23 = 1 := by kernel_rfl
      have e0 : DataW.trod enc Try.prog W 0 (fun _ => true) true n 23 (([v0, v1, v2].drop 0).take (Try.prog.cellsOf 23)) = some y0 := hf 0 _ rfl
      have e1 : DataW.trod enc Try.prog W 0 (fun _ => true) true n 23 (([v0, v1, v2].drop 1).take (Try.prog.cellsOf 23)) = some y1 := hf 1 _ rfl
      have e2 : DataW.trod enc Try.prog W 0 (fun _ => true) true n 3 (([v0, v1, v2].drop 2).take (Try.prog.cellsOf 3)) = some y2 := hf 2 _ rfl
      rw [c2] at e0 e1
      rw [c1] at e2
      obtain ⟨a, ha, _, wa⟩ := DataW.trod_int (k := .u64) Try.underlying23 (show DataW.trod enc Try.prog W 0 (fun _ => true) true n 23 [v0] = some y0 from e0)
      obtain ⟨b, hb, _, wb⟩ := DataW.trod_int (k := .u64) Try.underlying23 (show DataW.trod enc Try.prog W 0 (fun _ => true) true n 23 [v1] = some y1 from e1)
      obtain ⟨q, hq, _, wq⟩ := DataW.trod_int (k := .i64) Try.underlying3 (show DataW.trod enc Try.prog W 0 (fun _ => true) true n 3 [v2] = some y2 from e2)
      simp only [List.cons.injEq, and_true] at hq ha hb
      subst hq ha hb
      exact ⟨⟨a, b, q⟩, rfl, isU_wf wa, isU_wf wb, wf64 wq⟩
theorem open_pms {r : Reach} {b0 : Nat} {v : Value} {d : DataW H} {ps : List MemPlace} (hval : Value.okWide Try.prog W r b0 22 v) (h : DataW.Trod enc Try.prog W 0 (fun _ => true) true 22 v d ps) (hw : Light Try.prog 22 d) :
    ∃ A l c ts, v = .slice A l c ∧ PMR W A l ts ∧ ∀ x ∈ ts, IsU x.e ∧ IsU x.c ∧ IsI x.p := by
  obtain ⟨a, l, c, rfl⟩ := okWide_slice Try.underlying22 hval
  obtain ⟨fuel, hf⟩ := h
  obtain ⟨A, l', c', ts, hcs, hl, hr, hy, _, _⟩ := open_rows (R := Pm) (cells := fun t => [.int .u64 t.e, .int .u64 t.c, .int .i64 t.p]) (size := 3) (bytes := 24) (OK := fun t => IsU t.e ∧ IsU t.c ∧ IsI t.p) Try.underlying22 (by kernel_rfl) (by kernel_rfl) (by omega)
    (fun n cs' x' h' _ => by
      obtain ⟨t, ht, h1, h2⟩ := open_pm_cells h'
      exact ⟨t, ht, h1, h2⟩) hf hw
  have hcs' : [Value.slice a l c] = [Value.slice A l' c'] := hcs
  simp only [List.cons.injEq, Value.slice.injEq, and_true] at hcs'
  obtain ⟨rfl, rfl, rfl⟩ := hcs'
  exact ⟨a, l, c, ts, rfl, ⟨hl, hr⟩, hy⟩
end
end Go.Proofs.Ytpmkaceeomnijaa
