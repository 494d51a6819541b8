/-
  Arguments that are frames, and rows of frames, opened.
-/
import Derived.Test.YtmklmakcampbbaaDoorOpen
import Derived.Test.YtmklmakcampbbaaDoorFrameE
namespace Go.Proofs.YtmklmakcampbbaaDoor
open Go.RowKit Go.ChangeShapes Go.WideShapes Go.ChangeAt
set_option maxRecDepth 100000

instance : Inhabited Part := ⟨⟨none, 0, 0, []⟩⟩
instance : Inhabited Rep := ⟨⟨0, ⟨none, 0, 0, []⟩⟩⟩

theorem byte_of {n : Int} (hw : (Lit.int .u8 n).wf = true) : ∃ b : UInt8, Value.int .u8 n = .int .u8 (b.toNat : Int) := by
  have hw2 : 0 ≤ n ∧ n ≤ 255 := by simpa [Lit.wf, IntKind.min, IntKind.max, IntKind.signed, IntKind.bits] using hw
  refine ⟨UInt8.ofNat n.toNat, ?_⟩
  simp only [UInt8.toNat_ofNat']
  congr 1
  omega

section
variable {H : Type} {enc : TypeId × Value → H} {W : World}
/-- a frame, by its cells -/
theorem open_frame_cells {fuel : Nat} {cs : List Value} {x : DataW H × List MemPlace} (h : DataW.trod enc Tryd.prog W 0 (fun _ => true) true fuel 28 cs = some x) (hw : Light Tryd.prog 28 x.1) :
    ∃ r : Rep, cs = r.cells ∧ Sl W W.heap.size r.p.A r.p.l r.p.c r.p.bs ∧ r.p.c ≤ 140737488351232 := by
  obtain ⟨xs, n, _, rfl, hl, hlen, hf⟩ := DataW.trod_struct Tryd.underlying28 h
  have h2 : Tryd.prog.cellsOf 28 = 2 := by kernel_rfl
  rw [h2] at hl
  match cs, hl with
  | [v0, v1], _ =>
    simp only [Array.size] at hlen
    match xs, hlen with
    | [y0, y1], _ =>
      have c1 : Tryd.prog.cellsOf 5 = 1 := by kernel_rfl
      have c2 : Tryd.prog.cellsOf 26 = 1 := by kernel_rfl
      have e0 : DataW.trod enc Tryd.prog W 0 (fun _ => true) true n 5 (([v0, v1].drop 0).take (Tryd.prog.cellsOf 5)) = some y0 := hf 0 _ rfl
      have e1 : DataW.trod enc Tryd.prog W 0 (fun _ => true) true n 26 (([v0, v1].drop 1).take (Tryd.prog.cellsOf 26)) = some y1 := hf 1 _ rfl
      have hw1 : Light Tryd.prog 26 y1.1 := hw.field (j := 1) Tryd.underlying28 rfl rfl
      rw [c1] at e0
      rw [c2] at e1
      obtain ⟨m, hm, _, hwf⟩ := DataW.trod_int (k := .u8) Tryd.underlying5 (show DataW.trod enc Tryd.prog W 0 (fun _ => true) true n 5 [v0] = some y0 from e0)
      obtain ⟨A, l, c, bs, hb, hs, hc⟩ := open_bytes_cells Tryd.underlying26 Tryd.underlying5 c1 (by kernel_rfl) (show DataW.trod enc Tryd.prog W 0 (fun _ => true) true n 26 [v1] = some y1 from e1) hw1
      obtain ⟨b, hb8⟩ := byte_of hwf
      simp only [List.cons.injEq, and_true] at hm hb
      subst hm hb
      exact ⟨⟨b, ⟨A, l, c, bs⟩⟩, by rw [hb8]; rfl, hs, hc⟩

theorem open_frame {r : Reach} {b0 : Nat} {v : Value} {d : DataW H} {ps : List MemPlace} (hval : Value.okWide Tryd.prog W r b0 28 v) (h : DataW.Trod enc Tryd.prog W 0 (fun _ => true) true 28 v d ps) (hw : Light Tryd.prog 28 d) :
    ∃ k A l c bs, v = frV k A l c ∧ Sl W W.heap.size A l c bs ∧ c ≤ 140737488351232 := by
  obtain ⟨cs, rfl, hsz⟩ := okWide_struct Tryd.underlying28 hval
  obtain ⟨fuel, hf⟩ := h
  obtain ⟨q, hq, hs, hc⟩ := open_frame_cells hf hw
  refine ⟨q.k, q.p.A, q.p.l, q.p.c, q.p.bs, ?_, hs, hc⟩
  have : cs = q.cells.toArray := by
    have h2 : cs.toList = q.cells := hq
    rw [← h2]
  rw [this]
  rfl

/-- a row of rows of bytes -/
def Part.cell (p : Part) : List Value := [.slice p.A p.l p.c]
theorem part_cells : ∀ ps : List Part, ps.flatMap Part.cell = ps.map fun p => Value.slice p.A p.l p.c
  | [] => rfl
  | p :: r => congrArg (Value.slice p.A p.l p.c :: ·) (part_cells r)

/-- a row of frames -/
theorem open_frames {r : Reach} {b0 : Nat} {v : Value} {d : DataW H} {ps : List MemPlace} (hval : Value.okWide Tryd.prog W r b0 58 v) (h : DataW.Trod enc Tryd.prog W 0 (fun _ => true) true 58 v d ps) (hw : Light Tryd.prog 58 d) :
    ∃ A l c rs, v = .slice A l c ∧ FR W A l rs ∧ (∀ r ∈ rs, r.p.c ≤ 140737488351232) ∧ l ≤ c ∧ c * 32 ≤ 140737488351232 := by
  obtain ⟨a, l, c, rfl⟩ := okWide_slice Tryd.underlying58 hval
  obtain ⟨fuel, hf⟩ := h
  obtain ⟨A, l', c', rs, hcs, hl, hr, hok, hlc, hm⟩ := open_rows (R := Rep) (cells := Rep.cells) (size := 2) (OK := fun r => Sl W W.heap.size r.p.A r.p.l r.p.c r.p.bs ∧ r.p.c ≤ 140737488351232) Tryd.underlying58 (by kernel_rfl) (by kernel_rfl) (by omega)
    (fun n cs' x' h' hw' => open_frame_cells h' hw') hf hw
  have hcs' : [Value.slice a l c] = [Value.slice A l' c'] := hcs
  simp only [List.cons.injEq, Value.slice.injEq, and_true] at hcs'
  obtain ⟨rfl, rfl, rfl⟩ := hcs'
  exact ⟨a, l, c, rs, rfl, ⟨hl, hr, fun r h => (hok r h).1⟩, fun r h => (hok r h).2, hlc, hm⟩
end
end Go.Proofs.YtmklmakcampbbaaDoor
