/-
  Arguments that are rows of acts of a number, a number and a natural number, opened.
-/
import Derived.Test.YtnaefikajmgmdaaOpen
import Derived.Test.YtnaefikajmgmdaaCoP
namespace Go.Proofs.Ytnaefikajmgmdaa
open Go.RowKit Go.ChangeShapes Go.WideShapes Go.ChangeAt
set_option maxRecDepth 100000

def Act3.cells (t : Act3) : List Value := [.int .i64 t.d, .int .i64 t.x, .int .u64 t.y]
def ayC (ts : List Act3) : List Value := ts.flatMap Act3.cells
theorem ayC_length : ∀ ts : List Act3, (ayC ts).length = ts.length * 3
  | [] => rfl
  | r :: rs => by
    have := ayC_length rs
    simp only [ayC, List.flatMap_cons, List.length_append, List.length_cons, Act3.cells, List.length_nil] at this ⊢
    omega
theorem ayC_at : ∀ (rs : List Act3) (j : Nat) (h : j < rs.length), (ayC rs)[j * 3]? = some (.int .i64 rs[j].d) ∧ (ayC rs)[j * 3 + 1]? = some (.int .i64 rs[j].x) ∧ (ayC rs)[j * 3 + 2]? = some (.int .u64 rs[j].y)
  | [], _, h => by simp at h
  | r :: rs, 0, _ => by simp [ayC, Act3.cells]
  | r :: rs, j + 1, h => by
    have := ayC_at rs j (by simpa using h)
    have e1 : (j + 1) * 3 = j * 3 + 3 := by omega
    simp only [ayC, List.flatMap_cons] at this ⊢
    rw [e1]
    simpa [Act3.cells] using this
/-- a row of acts that is read -/
structure AY (w : World) (A : Option Addr) (n : Nat) (ts : List Act3) : Prop where
  len : ts.length = n
  rd : Rd w w.heap.size A (ayC ts)
theorem AY.next {w w' : World} {A : Option Addr} {n : Nat} {ts : List Act3} (h : AY w A n ts) (hb : Below w.heap.size w w') : AY w' A n ts := ⟨h.len, (h.rd.below hb (Nat.le_refl _)).more hb.size⟩
theorem AY.at_ {w : World} {A : Option Addr} {n : Nat} {ts : List Act3} (h : AY w A n ts) {j : Nat} (hj : j < ts.length) : ∃ ad, A = some ad ∧ ad.block < w.heap.size ∧ ∀ w', Below w.heap.size w w' → w'.cell? (ad.add (j * 3)) = some (.int .i64 ts[j].d) ∧ w'.cell? ⟨(ad.add (j * 3)).block, (ad.add (j * 3)).off + 1, none⟩ = some (.int .i64 ts[j].x) ∧ w'.cell? ⟨(ad.add (j * 3)).block, (ad.add (j * 3)).off + 2, none⟩ = some (.int .u64 ts[j].y) := by
  obtain ⟨ad, hA, hb, hc⟩ := h.rd.addr (by rw [ayC_length]; omega)
  have key : ∀ (w' : World) (i : Nat) (v : Value), Below w.heap.size w w' → (ayC ts)[j * 3 + i]? = some v → w'.cell? (ad.add (j * 3 + i)) = some v := fun w' i v hw hv => by
    rw [hw.cell (by rw [add_block]; exact hb)]
    exact hc _ _ hv
  obtain ⟨e0, e1, e2⟩ := ayC_at ts j hj
  have a1 : ∀ i, i ≠ 0 → (⟨(ad.add (j * 3)).block, (ad.add (j * 3)).off + i, none⟩ : Addr) = ad.add (j * 3 + i) := fun i hi => by rw [← add_add]; unfold Addr.add; simp [hi]
  refine ⟨ad, hA, hb, fun w' hw => ⟨key w' 0 _ hw e0, ?_, ?_⟩⟩
  · rw [a1 1 (by decide)]; exact key w' 1 _ hw e1
  · rw [a1 2 (by decide)]; exact key w' 2 _ hw e2

section
variable {H : Type} {enc : TypeId × Value → H} {W : World}
theorem open_act3_cells {fuel : Nat} {cs : List Value} {x : DataW H × List MemPlace} (h : DataW.trod enc Try.prog W 0 (fun _ => true) true fuel 30 cs = some x) :
    ∃ t : Act3, cs = t.cells := by
  obtain ⟨xs, n, _, rfl, hl, hlen, hf⟩ := DataW.trod_struct Try.underlying30 h
  have h2 : Try.prog.cellsOf 30 = 3 := by kernel_rfl
  rw [h2] at hl
  match cs, hl with
  | [v0, v1, v2], _ =>
    simp only [Array.size] at hlen
    match xs, hlen with
    | [y0, y1, y2], _ =>
      have c1 : Try.prog.cellsOf 3 = 1 := by kernel_rfl
      have c2 : Try.prog.cellsOf 22 = 1 := by kernel_rfl
      have e0 : DataW.trod enc Try.prog W 0 (fun _ => true) true n 3 (([v0, v1, v2].drop 0).take (Try.prog.cellsOf 3)) = some y0 := hf 0 _ rfl
      have e1 : DataW.trod enc Try.prog W 0 (fun _ => true) true n 3 (([v0, v1, v2].drop 1).take (Try.prog.cellsOf 3)) = some y1 := hf 1 _ rfl
      have e2 : DataW.trod enc Try.prog W 0 (fun _ => true) true n 22 (([v0, v1, v2].drop 2).take (Try.prog.cellsOf 22)) = some y2 := hf 2 _ rfl
      rw [c1] at e0 e1
      rw [c2] at e2
      obtain ⟨q, hq, _, _⟩ := DataW.trod_int (k := .i64) Try.underlying3 (show DataW.trod enc Try.prog W 0 (fun _ => true) true n 3 [v0] = some y0 from e0)
      obtain ⟨a, ha, _, _⟩ := DataW.trod_int (k := .i64) Try.underlying3 (show DataW.trod enc Try.prog W 0 (fun _ => true) true n 3 [v1] = some y1 from e1)
      obtain ⟨b, hb, _, _⟩ := DataW.trod_int (k := .u64) Try.underlying22 (show DataW.trod enc Try.prog W 0 (fun _ => true) true n 22 [v2] = some y2 from e2)
      simp only [List.cons.injEq, and_true] at hq ha hb
      subst hq ha hb
      exact ⟨⟨q, a, b⟩, rfl⟩

theorem open_act3s {r : Reach} {b0 : Nat} {v : Value} {d : DataW H} {ps : List MemPlace} (hval : Value.okWide Try.prog W r b0 23 v) (h : DataW.Trod enc Try.prog W 0 (fun _ => true) true 23 v d ps) (hw : Light Try.prog 23 d) :
    ∃ A l c ts, v = .slice A l c ∧ AY W A l ts := by
  obtain ⟨a, l, c, rfl⟩ := okWide_slice Try.underlying23 hval
  obtain ⟨fuel, hf⟩ := h
  obtain ⟨A, l', c', ts, hcs, hl, hr, _, _, _⟩ := open_rows (R := Act3) (cells := Act3.cells) (size := 3) (bytes := 24) (OK := fun _ => True) Try.underlying23 (by kernel_rfl) (by kernel_rfl) (by omega)
    (fun n cs' x' h' _ => by
      obtain ⟨t, ht⟩ := open_act3_cells h'
      exact ⟨t, ht, trivial⟩) hf hw
  have hcs' : [Value.slice a l c] = [Value.slice A l' c'] := hcs
  simp only [List.cons.injEq, Value.slice.injEq, and_true] at hcs'
  obtain ⟨rfl, rfl, rfl⟩ := hcs'
  exact ⟨a, l, c, ts, rfl, ⟨hl, hr⟩⟩
end
end Go.Proofs.Ytnaefikajmgmdaa
