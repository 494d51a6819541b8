/-
  Arguments that are a node's settings, its state, a probe, a row of probes, a row of natural numbers, opened.
-/
import Derived.Test.YtbhgoeofcapckaaOpen
import Derived.Test.YtbhgoeofcapckaaHeL
namespace Go.Proofs.Ytbhgoeofcapckaa
open Go.RowKit Go.ChangeShapes Go.WideShapes Go.ChangeAt
set_option maxRecDepth 100000

section
variable {H : Type} {enc : TypeId × Value → H} {W : World}
theorem open_hcf_cells {fuel : Nat} {cs : List Value} {x : DataW H × List MemPlace} (h : DataW.trod enc Try.prog W 0 (fun _ => true) true fuel 24 cs = some x) : ∃ c : HCf, cs = [.int .i64 c.f, .int .i64 c.p, .int .u64 c.l] ∧ 0 ≤ c.l := by
  obtain ⟨xs, n, _, rfl, hl, hlen, hf⟩ := DataW.trod_struct Try.underlying24 h
  have h2 : Try.prog.cellsOf 24 = 3 := by kernel_rfl
  rw [h2] at hl
  match cs, hl with
  | [v0, v1, v2], _ =>
    simp only [Array.size] at hlen
    match xs, hlen with
    | [y0, y1, y2], _ =>
      have c1 : Try.prog.cellsOf 3 = 1 := by kernel_rfl
      have c2 : Try.prog.cellsOf 22 = 1 := by kernel_rfl
      have e0 : DataW.trod enc Try.prog W 0 (fun _ => true) true n 3 (([v0, v1, v2].drop 0).take (Try.prog.cellsOf 3)) = some y0 := hf 0 _ rfl
      have e1 : DataW.trod enc Try.prog W 0 (fun _ => true) true n 3 (([v0, v1, v2].drop 1).take (Try.prog.cellsOf 3)) = some y1 := hf 1 _ rfl
      have e2 : DataW.trod enc Try.prog W 0 (fun _ => true) true n 22 (([v0, v1, v2].drop 2).take (Try.prog.cellsOf 22)) = some y2 := hf 2 _ rfl
      rw [c1] at e0 e1
      rw [c2] at e2
      obtain ⟨a, ha, _, _⟩ := DataW.trod_int (k := .i64) Try.underlying3 (show DataW.trod enc Try.prog W 0 (fun _ => true) true n 3 [v0] = some y0 from e0)
      obtain ⟨b, hb, _, _⟩ := DataW.trod_int (k := .i64) Try.underlying3 (show DataW.trod enc Try.prog W 0 (fun _ => true) true n 3 [v1] = some y1 from e1)
      obtain ⟨q, hq, _, hw⟩ := DataW.trod_int (k := .u64) Try.underlying22 (show DataW.trod enc Try.prog W 0 (fun _ => true) true n 22 [v2] = some y2 from e2)
      simp only [List.cons.injEq, and_true] at ha hb hq
      subst ha hb hq
      obtain ⟨m, rfl, _⟩ := wfu64 hw
      exact ⟨⟨a, b, m⟩, rfl, Int.natCast_nonneg m⟩
theorem open_hcf {r : Reach} {b0 : Nat} {v : Value} {d : DataW H} {ps : List MemPlace} (hval : Value.okWide Try.prog W r b0 24 v) (h : DataW.Trod enc Try.prog W 0 (fun _ => true) true 24 v d ps) :
    ∃ c : HCf, v = .agg #[.int .i64 c.f, .int .i64 c.p, .int .u64 c.l] ∧ 0 ≤ c.l := by
  obtain ⟨cs, rfl, hsz⟩ := okWide_struct Try.underlying24 hval
  obtain ⟨fuel, hf⟩ := h
  obtain ⟨t, hq, h0⟩ := open_hcf_cells hf
  refine ⟨t, ?_, h0⟩
  have h2 : cs.toList = [.int .i64 t.f, .int .i64 t.p, .int .u64 t.l] := hq
  rw [show cs = #[.int .i64 t.f, .int .i64 t.p, .int .u64 t.l] by rw [← h2]]
theorem open_hst_cells {fuel : Nat} {cs : List Value} {x : DataW H × List MemPlace} (h : DataW.trod enc Try.prog W 0 (fun _ => true) true fuel 26 cs = some x) : ∃ s : HSt, cs = [.int .i64 s.i, .int .i64 s.c] := by
  obtain ⟨xs, n, _, rfl, hl, hlen, hf⟩ := DataW.trod_struct Try.underlying26 h
  have h2 : Try.prog.cellsOf 26 = 2 := by kernel_rfl
  rw [h2] at hl
  match cs, hl with
  | [v0, v1], _ =>
    simp only [Array.size] at hlen
    match xs, hlen with
    | [y0, y1], _ =>
      have c1 : Try.prog.cellsOf 3 = 1 := by kernel_rfl
      have e0 : DataW.trod enc Try.prog W 0 (fun _ => true) true n 3 (([v0, v1].drop 0).take (Try.prog.cellsOf 3)) = some y0 := hf 0 _ rfl
      have e1 : DataW.trod enc Try.prog W 0 (fun _ => true) true n 3 (([v0, v1].drop 1).take (Try.prog.cellsOf 3)) = some y1 := hf 1 _ rfl
      rw [c1] at e0 e1
      obtain ⟨a, ha, _, _⟩ := DataW.trod_int (k := .i64) Try.underlying3 (show DataW.trod enc Try.prog W 0 (fun _ => true) true n 3 [v0] = some y0 from e0)
      obtain ⟨b, hb, _, _⟩ := DataW.trod_int (k := .i64) Try.underlying3 (show DataW.trod enc Try.prog W 0 (fun _ => true) true n 3 [v1] = some y1 from e1)
      simp only [List.cons.injEq, and_true] at ha hb
      subst ha hb
      exact ⟨⟨a, b⟩, rfl⟩
theorem open_hst {r : Reach} {b0 : Nat} {v : Value} {d : DataW H} {ps : List MemPlace} (hval : Value.okWide Try.prog W r b0 26 v) (h : DataW.Trod enc Try.prog W 0 (fun _ => true) true 26 v d ps) :
    ∃ s : HSt, v = .agg #[.int .i64 s.i, .int .i64 s.c] := by
  obtain ⟨cs, rfl, hsz⟩ := okWide_struct Try.underlying26 hval
  obtain ⟨fuel, hf⟩ := h
  obtain ⟨t, hq⟩ := open_hst_cells hf
  refine ⟨t, ?_⟩
  have h2 : cs.toList = [.int .i64 t.i, .int .i64 t.c] := hq
  rw [show cs = #[.int .i64 t.i, .int .i64 t.c] by rw [← h2]]
instance : Inhabited HPr := ⟨⟨false, 0⟩⟩
theorem open_hpr_cells {fuel : Nat} {cs : List Value} {x : DataW H × List MemPlace} (h : DataW.trod enc Try.prog W 0 (fun _ => true) true fuel 28 cs = some x) : ∃ t : HPr, cs = t.cells := by
  obtain ⟨xs, n, _, rfl, hl, hlen, hf⟩ := DataW.trod_struct Try.underlying28 h
  have h2 : Try.prog.cellsOf 28 = 2 := by kernel_rfl
  rw [h2] at hl
  match cs, hl with
  | [v0, v1], _ =>
    simp only [Array.size] at hlen
    match xs, hlen with
    | [y0, y1], _ =>
      have c1 : Try.prog.cellsOf 4 = 1 := by kernel_rfl
      have c2 : Try.prog.cellsOf 22 = 1 := by kernel_rfl
      have e0 : DataW.trod enc Try.prog W 0 (fun _ => true) true n 4 (([v0, v1].drop 0).take (Try.prog.cellsOf 4)) = some y0 := hf 0 _ rfl
      have e1 : DataW.trod enc Try.prog W 0 (fun _ => true) true n 22 (([v0, v1].drop 1).take (Try.prog.cellsOf 22)) = some y1 := hf 1 _ rfl
      rw [c1] at e0
      rw [c2] at e1
      obtain ⟨a, ha, _⟩ := DataW.trod_bool Try.underlying4 (show DataW.trod enc Try.prog W 0 (fun _ => true) true n 4 [v0] = some y0 from e0)
      obtain ⟨b, hb, _, _⟩ := DataW.trod_int (k := .u64) Try.underlying22 (show DataW.trod enc Try.prog W 0 (fun _ => true) true n 22 [v1] = some y1 from e1)
      simp only [List.cons.injEq, and_true] at ha hb
      subst ha hb
      exact ⟨⟨a, b⟩, rfl⟩
theorem open_hpr {r : Reach} {b0 : Nat} {v : Value} {d : DataW H} {ps : List MemPlace} (hval : Value.okWide Try.prog W r b0 28 v) (h : DataW.Trod enc Try.prog W 0 (fun _ => true) true 28 v d ps) :
    ∃ p : HPr, v = .agg #[.bool p.o, .int .u64 p.l] := by
  obtain ⟨cs, rfl, hsz⟩ := okWide_struct Try.underlying28 hval
  obtain ⟨fuel, hf⟩ := h
  obtain ⟨t, hq⟩ := open_hpr_cells hf
  refine ⟨t, ?_⟩
  have : cs = t.cells.toArray := by
    have h2 : cs.toList = t.cells := hq
    rw [← h2]
  rw [this]
  rfl
theorem open_hprs {r : Reach} {b0 : Nat} {v : Value} {d : DataW H} {ps : List MemPlace} (hval : Value.okWide Try.prog W r b0 42 v) (h : DataW.Trod enc Try.prog W 0 (fun _ => true) true 42 v d ps) (hw : Light Try.prog 42 d) :
    ∃ A l c ts, v = .slice A l c ∧ HQ W A l ts := by
  obtain ⟨a, l, c, rfl⟩ := okWide_slice Try.underlying42 hval
  obtain ⟨fuel, hf⟩ := h
  obtain ⟨A, l', c', ts, hcs, hl, hr, _, _, _⟩ := open_rows (R := HPr) (cells := HPr.cells) (size := 2) (bytes := 16) (OK := fun _ => True) Try.underlying42 (by kernel_rfl) (by kernel_rfl) (by omega)
    (fun n cs' x' h' _ => by
      obtain ⟨t, ht⟩ := open_hpr_cells h'
      exact ⟨t, ht, trivial⟩) hf hw
  have hcs' : [Value.slice a l c] = [Value.slice A l' c'] := hcs
  simp only [List.cons.injEq, Value.slice.injEq, and_true] at hcs'
  obtain ⟨rfl, rfl, rfl⟩ := hcs'
  exact ⟨a, l, c, ts, rfl, ⟨hl, hr⟩⟩
theorem flat_u64s : ∀ zs : List Int, zs.flatMap (fun z => [Value.int .u64 z]) = zs.map (Value.int .u64)
  | [] => rfl
  | z :: r => congrArg (Value.int .u64 z :: ·) (flat_u64s r)
theorem open_u64s {r : Reach} {b0 : Nat} {v : Value} {d : DataW H} {ps : List MemPlace} (hval : Value.okWide Try.prog W r b0 43 v) (h : DataW.Trod enc Try.prog W 0 (fun _ => true) true 43 v d ps) (hw : Light Try.prog 43 d) :
    ∃ A l c zs, v = .slice A l c ∧ UR W A l zs := by
  obtain ⟨a, l, c, rfl⟩ := okWide_slice Try.underlying43 hval
  obtain ⟨fuel, hf⟩ := h
  obtain ⟨A, l', c', zs, hcs, hl, hr, _, _, _⟩ := open_rows (R := Int) (cells := fun z => [Value.int .u64 z]) (size := 1) (bytes := 8) (OK := fun _ => True) Try.underlying43 (by kernel_rfl) (by kernel_rfl) (by omega)
    (fun n cs' x' h' _ => by
      obtain ⟨q, hq, _, _⟩ := DataW.trod_int (k := .u64) Try.underlying22 h'
      exact ⟨q, hq, trivial⟩) hf hw
  have hcs' : [Value.slice a l c] = [Value.slice A l' c'] := hcs
  simp only [List.cons.injEq, Value.slice.injEq, and_true] at hcs'
  obtain ⟨rfl, rfl, rfl⟩ := hcs'
  rw [flat_u64s] at hr
  exact ⟨a, l, c, zs, rfl, ⟨hl, hr⟩⟩
end
end Go.Proofs.Ytbhgoeofcapckaa
