/-
  Arguments that are rows of acts of two numbers, opened.
-/
import Derived.Test.YtijemohcengmjaaOpen
import Derived.Test.YtijemohcengmjaaRowN
namespace Go.Proofs.Ytijemohcengmjaa
open Go.RowKit Go.ChangeShapes Go.WideShapes Go.ChangeAt
set_option maxRecDepth 100000

/-- an act of a number and a number -/
structure Act2 where
  d : Int
  x : Int
instance : Inhabited Act2 := ⟨⟨0, 0⟩⟩
def Act2.cells (t : Act2) : List Value := [.int .i64 t.d, .int .i64 t.x]
def awC (ts : List Act2) : List Value := ts.flatMap Act2.cells
theorem awC_length : ∀ ts : List Act2, (awC ts).length = ts.length * 2
  | [] => rfl
  | r :: rs => by
    have := awC_length rs
    simp only [awC, List.flatMap_cons, List.length_append, List.length_cons, Act2.cells, List.length_nil] at this ⊢
    omega
theorem awC_at : ∀ (rs : List Act2) (j : Nat) (h : j < rs.length), (awC rs)[j * 2]? = some (.int .i64 rs[j].d) ∧ (awC rs)[j * 2 + 1]? = some (.int .i64 rs[j].x)
  | [], _, h => by simp at h
  | r :: rs, 0, _ => by simp [awC, Act2.cells]
  | r :: rs, j + 1, h => by
    have := awC_at rs j (by simpa using h)
    have e1 : (j + 1) * 2 = j * 2 + 2 := by omega
    simp only [awC, List.flatMap_cons] at this ⊢
    rw [e1]
    simpa [Act2.cells] using this
/-- a row of acts that is read -/
structure AW (w : World) (A : Option Addr) (n : Nat) (ts : List Act2) : Prop where
  len : ts.length = n
  rd : Rd w w.heap.size A (awC ts)
theorem AW.next {w w' : World} {A : Option Addr} {n : Nat} {ts : List Act2} (h : AW w A n ts) (hb : Below w.heap.size w w') : AW w' A n ts := ⟨h.len, (h.rd.below hb (Nat.le_refl _)).more hb.size⟩
theorem AW.at_ {w : World} {A : Option Addr} {n : Nat} {ts : List Act2} (h : AW w A n ts) {j : Nat} (hj : j < ts.length) : ∃ ad, A = some ad ∧ ad.block < w.heap.size ∧ ∀ w', Below w.heap.size w w' → w'.cell? (ad.add (j * 2)) = some (.int .i64 ts[j].d) ∧ w'.cell? ⟨(ad.add (j * 2)).block, (ad.add (j * 2)).off + 1, none⟩ = some (.int .i64 ts[j].x) := by
  obtain ⟨ad, hA, hb, hc⟩ := h.rd.addr (by rw [awC_length]; omega)
  have key : ∀ (w' : World) (i : Nat) (v : Value), Below w.heap.size w w' → (awC ts)[j * 2 + i]? = some v → w'.cell? (ad.add (j * 2 + i)) = some v := fun w' i v hw hv => by
    rw [hw.cell (by rw [add_block]; exact hb)]
    exact hc _ _ hv
  obtain ⟨e0, e1⟩ := awC_at ts j hj
  have a1 : ∀ i, i ≠ 0 → (⟨(ad.add (j * 2)).block, (ad.add (j * 2)).off + i, none⟩ : Addr) = ad.add (j * 2 + i) := fun i hi => by rw [← add_add]; unfold Addr.add; simp [hi]
  refine ⟨ad, hA, hb, fun w' hw => ⟨key w' 0 _ hw e0, ?_⟩⟩
  rw [a1 1 (by decide)]; exact key w' 1 _ hw e1

section
variable {H : Type} {enc : TypeId × Value → H} {W : World}
theorem open_act2_cells {fuel : Nat} {cs : List Value} {x : DataW H × List MemPlace} (h : DataW.trod enc Try.prog W 0 (fun _ => true) true fuel 32 cs = some x) :
    ∃ t : Act2, cs = t.cells := by
  obtain ⟨xs, n, _, rfl, hl, hlen, hf⟩ := DataW.trod_struct Try.underlying32 h
  have h2 : Try.prog.cellsOf 32 = 2 := by kernel_rfl
  rw [h2] at hl
  match cs, hl with
  | [v0, v1], _ =>
    simp only [Array.size] at hlen
    match xs, hlen with
    | [y0, y1], _ =>
      have c1 : Try.prog.cellsOf 3 = 1 := by kernel_rfl
      have e0 : DataW.trod enc Try.prog W 0 (fun _ => true) true n 3 (([v0, v1].drop 0).take (Try.prog.cellsOf 3)) = some y0 := hf 0 _ rfl
      have e1 : DataW.trod enc Try.prog W 0 (fun _ => true) true n 3 (([v0, v1].drop 1).take (Try.prog.cellsOf 3)) = some y1 := hf 1 _ rfl
      rw [c1] at e0 e1
      obtain ⟨q, hq, _, _⟩ := DataW.trod_int (k := .i64) Try.underlying3 (show DataW.trod enc Try.prog W 0 (fun _ => true) true n 3 [v0] = some y0 from e0)
      obtain ⟨a, ha, _, _⟩ := DataW.trod_int (k := .i64) Try.underlying3 (show DataW.trod enc Try.prog W 0 (fun _ => true) true n 3 [v1] = some y1 from e1)
      simp only [List.cons.injEq, and_true] at hq ha
      subst hq ha
      exact ⟨⟨q, a⟩, rfl⟩

theorem open_act2s {r : Reach} {b0 : Nat} {v : Value} {d : DataW H} {ps : List MemPlace} (hval : Value.okWide Try.prog W r b0 22 v) (h : DataW.Trod enc Try.prog W 0 (fun _ => true) true 22 v d ps) (hw : Light Try.prog 22 d) :
    ∃ A l c ts, v = .slice A l c ∧ AW W A l ts := by
  obtain ⟨a, l, c, rfl⟩ := okWide_slice Try.underlying22 hval
  obtain ⟨fuel, hf⟩ := h
  obtain ⟨A, l', c', ts, hcs, hl, hr, _, _, _⟩ := open_rows (R := Act2) (cells := Act2.cells) (size := 2) (bytes := 16) (OK := fun _ => True) Try.underlying22 (by kernel_rfl) (by kernel_rfl) (by omega)
    (fun n cs' x' h' _ => by
      obtain ⟨t, ht⟩ := open_act2_cells h'
      exact ⟨t, ht, trivial⟩) hf hw
  have hcs' : [Value.slice a l c] = [Value.slice A l' c'] := hcs
  simp only [List.cons.injEq, Value.slice.injEq, and_true] at hcs'
  obtain ⟨rfl, rfl, rfl⟩ := hcs'
  exact ⟨a, l, c, ts, rfl, ⟨hl, hr⟩⟩
end
end Go.Proofs.Ytijemohcengmjaa
