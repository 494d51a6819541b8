/-
  Arguments that are rows of texts, of acts, of truths, opened.
-/
import Derived.Test.YtkkmjoadhjnldaaDoorOpenS
import Derived.Test.YtkkmjoadhjnldaaDoorPlD
namespace Go.Proofs.YtkkmjoadhjnldaaDoor
open Go.RowKit Go.ChangeShapes Go.WideShapes Go.ChangeAt
set_option maxRecDepth 100000

theorem flat_texts : ∀ ss : List ByteArray, ss.flatMap (fun s => [Value.string s]) = tvs ss
  | [] => rfl
  | s :: r => congrArg (Value.string s :: ·) (flat_texts r)

/-- an act -/
structure Act7 where
  d : Int
  s : ByteArray
  n : Int
  m : Int
instance : Inhabited Act7 := ⟨⟨0, ⟨#[]⟩, 0, 0⟩⟩
def Act7.cells (t : Act7) : List Value := [.int .i64 t.d, .string t.s, .int .i64 t.n, .int .i64 t.m]
def acC (ts : List Act7) : List Value := ts.flatMap Act7.cells
theorem acC_length : ∀ ts : List Act7, (acC ts).length = ts.length * 4
  | [] => rfl
  | r :: rs => by
    have := acC_length rs
    simp only [acC, List.flatMap_cons, List.length_append, List.length_cons, Act7.cells, List.length_nil] at this ⊢
    omega
theorem acC_at : ∀ (rs : List Act7) (j : Nat) (h : j < rs.length), (acC rs)[j * 4]? = some (.int .i64 rs[j].d) ∧ (acC rs)[j * 4 + 1]? = some (.string rs[j].s) ∧ (acC rs)[j * 4 + 2]? = some (.int .i64 rs[j].n) ∧ (acC rs)[j * 4 + 3]? = some (.int .i64 rs[j].m)
  | [], _, h => by simp at h
  | r :: rs, 0, _ => by simp [acC, Act7.cells]
  | r :: rs, j + 1, h => by
    have := acC_at rs j (by simpa using h)
    have e1 : (j + 1) * 4 = j * 4 + 4 := by omega
    simp only [acC, List.flatMap_cons] at this ⊢
    rw [e1]
    simpa [Act7.cells] using this
/-- a row of acts that is read -/
structure AR (w : World) (A : Option Addr) (n : Nat) (ts : List Act7) : Prop where
  len : ts.length = n
  rd : Rd w w.heap.size A (acC ts)
theorem AR.at_ {w : World} {A : Option Addr} {n : Nat} {ts : List Act7} (h : AR w A n ts) {j : Nat} (hj : j < ts.length) : ∃ ad, A = some ad ∧ ad.block < w.heap.size ∧ ∀ w', Below w.heap.size w w' → w'.cell? (ad.add (j * 4)) = some (.int .i64 ts[j].d) ∧ w'.cell? ⟨(ad.add (j * 4)).block, (ad.add (j * 4)).off + 1, none⟩ = some (.string ts[j].s) ∧ w'.cell? ⟨(ad.add (j * 4)).block, (ad.add (j * 4)).off + 2, none⟩ = some (.int .i64 ts[j].n) ∧ w'.cell? ⟨(ad.add (j * 4)).block, (ad.add (j * 4)).off + 3, none⟩ = some (.int .i64 ts[j].m) := by
  obtain ⟨ad, hA, hb, hc⟩ := h.rd.addr (by rw [acC_length]; omega)
  have key : ∀ (w' : World) (i : Nat) (v : Value), Below w.heap.size w w' → (acC ts)[j * 4 + i]? = some v → w'.cell? (ad.add (j * 4 + i)) = some v := fun w' i v hw hv => by
    rw [hw.cell (by rw [add_block]; exact hb)]
    exact hc _ _ hv
  obtain ⟨e0, e1, e2, e3⟩ := acC_at ts j hj
  have a1 : ∀ i, i ≠ 0 → (⟨(ad.add (j * 4)).block, (ad.add (j * 4)).off + i, none⟩ : Addr) = ad.add (j * 4 + i) := fun i hi => by rw [← add_add]; unfold Addr.add; simp [hi]
  refine ⟨ad, hA, hb, fun w' hw => ⟨key w' 0 _ hw e0, ?_, ?_, ?_⟩⟩
  · rw [a1 1 (by decide)]; exact key w' 1 _ hw e1
  · rw [a1 2 (by decide)]; exact key w' 2 _ hw e2
  · rw [a1 3 (by decide)]; exact key w' 3 _ hw e3

section
variable {H : Type} {enc : TypeId × Value → H} {W : World}
theorem open_texts {r : Reach} {b0 : Nat} {v : Value} {d : DataW H} {ps : List MemPlace} (hval : Value.okWide Tryd.prog W r b0 22 v) (h : DataW.Trod enc Tryd.prog W 0 (fun _ => true) true 22 v d ps) (hw : Light Tryd.prog 22 d) :
    ∃ A l c ss, v = .slice A l c ∧ XR W A l ss ∧ (∀ s ∈ ss, s.size ≤ 140737488351232) ∧ l ≤ c ∧ c * 16 ≤ 140737488351232 := by
  obtain ⟨a, l, c, rfl⟩ := okWide_slice Tryd.underlying22 hval
  obtain ⟨fuel, hf⟩ := h
  obtain ⟨A, l', c', ss, hcs, hl, hr, hok, hlc, hm⟩ := open_rows (R := ByteArray) (cells := fun s => [Value.string s]) (size := 1) (OK := fun s => s.size ≤ 140737488351232) Tryd.underlying22 (by kernel_rfl) (by kernel_rfl) (by omega)
    (fun n cs' x' h' hw' => by
      obtain ⟨s, hs, hy, _⟩ := DataW.trod_string Tryd.underlying9 h'
      subst hy
      have hb := hw'.string
      refine ⟨s, hs, ?_⟩
      rw [Array.length_toList] at hb
      exact hb) hf hw
  have hcs' : [Value.slice a l c] = [Value.slice A l' c'] := hcs
  simp only [List.cons.injEq, Value.slice.injEq, and_true] at hcs'
  obtain ⟨rfl, rfl, rfl⟩ := hcs'
  rw [flat_texts] at hr
  exact ⟨a, l, c, ss, rfl, ⟨hl, hr⟩, hok, hlc, hm⟩

theorem open_act_cells {fuel : Nat} {cs : List Value} {x : DataW H × List MemPlace} (h : DataW.trod enc Tryd.prog W 0 (fun _ => true) true fuel 36 cs = some x) (hw : Light Tryd.prog 36 x.1) :
    ∃ t : Act7, cs = t.cells ∧ t.s.size ≤ 140737488351232 ∧ (-9223372036854775808 ≤ t.n ∧ t.n ≤ 9223372036854775807) ∧ (-9223372036854775808 ≤ t.m ∧ t.m ≤ 9223372036854775807) := by
  obtain ⟨xs, n, _, rfl, hl, hlen, hf⟩ := DataW.trod_struct Tryd.underlying36 h
  have h4 : Tryd.prog.cellsOf 36 = 4 := by kernel_rfl
  rw [h4] at hl
  match cs, hl with
  | [v0, v1, v2, v3], _ =>
    simp only [Array.size] at hlen
    match xs, hlen with
    | [y0, y1, y2, y3], _ =>
      have c1 : Tryd.prog.cellsOf 3 = 1 := by kernel_rfl
      have c2 : Tryd.prog.cellsOf 9 = 1 := by kernel_rfl
      have c3 : Tryd.prog.cellsOf 2 = 1 := by kernel_rfl
      have e0 : DataW.trod enc Tryd.prog W 0 (fun _ => true) true n 3 (([v0, v1, v2, v3].drop 0).take (Tryd.prog.cellsOf 3)) = some y0 := hf 0 _ rfl
      have e1 : DataW.trod enc Tryd.prog W 0 (fun _ => true) true n 9 (([v0, v1, v2, v3].drop 1).take (Tryd.prog.cellsOf 9)) = some y1 := hf 1 _ rfl
      have e2 : DataW.trod enc Tryd.prog W 0 (fun _ => true) true n 2 (([v0, v1, v2, v3].drop 2).take (Tryd.prog.cellsOf 2)) = some y2 := hf 2 _ rfl
      have e3 : DataW.trod enc Tryd.prog W 0 (fun _ => true) true n 2 (([v0, v1, v2, v3].drop 3).take (Tryd.prog.cellsOf 2)) = some y3 := hf 3 _ rfl
      have hw1 : Light Tryd.prog 9 y1.1 := hw.field (j := 1) Tryd.underlying36 rfl rfl
      rw [c1] at e0
      rw [c2] at e1
      rw [c3] at e2 e3
      obtain ⟨q, hq, _, _⟩ := DataW.trod_int (k := .i64) Tryd.underlying3 (show DataW.trod enc Tryd.prog W 0 (fun _ => true) true n 3 [v0] = some y0 from e0)
      obtain ⟨s, hs, hy, _⟩ := DataW.trod_string Tryd.underlying9 (show DataW.trod enc Tryd.prog W 0 (fun _ => true) true n 9 [v1] = some y1 from e1)
      obtain ⟨a, ha, _, wa⟩ := DataW.trod_int (k := .i64) Tryd.underlying2 (show DataW.trod enc Tryd.prog W 0 (fun _ => true) true n 2 [v2] = some y2 from e2)
      obtain ⟨b, hb, _, wb⟩ := DataW.trod_int (k := .i64) Tryd.underlying2 (show DataW.trod enc Tryd.prog W 0 (fun _ => true) true n 2 [v3] = some y3 from e3)
      subst hy
      have hz := hw1.string
      rw [Array.length_toList] at hz
      simp only [List.cons.injEq, and_true] at hq hs ha hb
      subst hq hs ha hb
      exact ⟨⟨q, s, a, b⟩, rfl, hz, wf64 wa, wf64 wb⟩

theorem open_acts {r : Reach} {b0 : Nat} {v : Value} {d : DataW H} {ps : List MemPlace} (hval : Value.okWide Tryd.prog W r b0 23 v) (h : DataW.Trod enc Tryd.prog W 0 (fun _ => true) true 23 v d ps) (hw : Light Tryd.prog 23 d) :
    ∃ A l c ts, v = .slice A l c ∧ AR W A l ts ∧ (∀ t ∈ ts, t.s.size ≤ 140737488351232 ∧ (-9223372036854775808 ≤ t.n ∧ t.n ≤ 9223372036854775807) ∧ (-9223372036854775808 ≤ t.m ∧ t.m ≤ 9223372036854775807)) ∧ l ≤ c ∧ c * 40 ≤ 140737488351232 := by
  obtain ⟨a, l, c, rfl⟩ := okWide_slice Tryd.underlying23 hval
  obtain ⟨fuel, hf⟩ := h
  obtain ⟨A, l', c', ts, hcs, hl, hr, hok, hlc, hm⟩ := open_rows (R := Act7) (cells := Act7.cells) (size := 4) (OK := fun t => t.s.size ≤ 140737488351232 ∧ (-9223372036854775808 ≤ t.n ∧ t.n ≤ 9223372036854775807) ∧ (-9223372036854775808 ≤ t.m ∧ t.m ≤ 9223372036854775807)) Tryd.underlying23 (by kernel_rfl) (by kernel_rfl) (by omega)
    (fun n cs' x' h' hw' => open_act_cells h' hw') hf hw
  have hcs' : [Value.slice a l c] = [Value.slice A l' c'] := hcs
  simp only [List.cons.injEq, Value.slice.injEq, and_true] at hcs'
  obtain ⟨rfl, rfl, rfl⟩ := hcs'
  exact ⟨a, l, c, ts, rfl, ⟨hl, hr⟩, hok, hlc, hm⟩
end
end Go.Proofs.YtkkmjoadhjnldaaDoor
