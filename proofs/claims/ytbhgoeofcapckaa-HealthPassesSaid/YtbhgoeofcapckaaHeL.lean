/-
  Layer 12: rows of probes, as they are read; a law's settings and its node, as they lie.
-/
import Derived.Test.YtbhgoeofcapckaaHeK
import Derived.Test.YtbhgoeofcapckaaRowU
namespace Go.Proofs.Ytbhgoeofcapckaa
open Go.RowKit
set_option maxRecDepth 100000

def hqC (ts : List HPr) : List Value := ts.flatMap HPr.cells
theorem hqC_length : ∀ ts : List HPr, (hqC ts).length = ts.length * 2
  | [] => rfl
  | r :: rs => by
    have := hqC_length rs
    simp only [hqC, List.flatMap_cons, List.length_append, List.length_cons, HPr.cells, List.length_nil] at this ⊢
    omega
theorem hqC_at : ∀ (rs : List HPr) (j : Nat) (h : j < rs.length), (hqC rs)[j * 2]? = some (.bool rs[j].o) ∧ (hqC rs)[j * 2 + 1]? = some (.int .u64 rs[j].l)
  | [], _, h => by simp at h
  | r :: rs, 0, _ => by simp [hqC, HPr.cells]
  | r :: rs, j + 1, h => by
    have := hqC_at rs j (by simpa using h)
    have e1 : (j + 1) * 2 = j * 2 + 2 := by omega
    simp only [hqC, List.flatMap_cons] at this ⊢
    rw [e1]
    simpa [HPr.cells] using this
/-- a row of probes that is read -/
structure HQ (w : World) (A : Option Addr) (n : Nat) (ts : List HPr) : Prop where
  len : ts.length = n
  rd : Rd w w.heap.size A (hqC ts)
theorem HQ.next {w w' : World} {A : Option Addr} {n : Nat} {ts : List HPr} (h : HQ w A n ts) (hb : Below w.heap.size w w') : HQ w' A n ts := ⟨h.len, (h.rd.below hb (Nat.le_refl _)).more hb.size⟩
theorem HQ.at_ {w : World} {A : Option Addr} {n : Nat} {ts : List HPr} (h : HQ w A n ts) {j : Nat} (hj : j < ts.length) : ∃ ad, A = some ad ∧ ad.block < w.heap.size ∧ ∀ w', Below w.heap.size w w' → w'.cell? (ad.add (j * 2)) = some (.bool ts[j].o) ∧ w'.cell? ⟨(ad.add (j * 2)).block, (ad.add (j * 2)).off + 1, none⟩ = some (.int .u64 ts[j].l) := by
  obtain ⟨ad, hA, hb, hc⟩ := h.rd.addr (by rw [hqC_length]; omega)
  have key : ∀ (w' : World) (i : Nat) (v : Value), Below w.heap.size w w' → (hqC ts)[j * 2 + i]? = some v → w'.cell? (ad.add (j * 2 + i)) = some v := fun w' i v hw hv => by
    rw [hw.cell (by rw [add_block]; exact hb)]
    exact hc _ _ hv
  obtain ⟨e0, e1⟩ := hqC_at ts j hj
  have a1 : ∀ i, i ≠ 0 → (⟨(ad.add (j * 2)).block, (ad.add (j * 2)).off + i, none⟩ : Addr) = ad.add (j * 2 + i) := fun i hi => by rw [← add_add]; unfold Addr.add; simp [hi]
  refine ⟨ad, hA, hb, fun w' hw => ⟨key w' 0 _ hw e0, ?_⟩⟩
  rw [a1 1 (by decide)]
  exact key w' 1 _ hw e1
/-- a block of two cells, both of them written -/
theorem two_set {w : World} {b : Nat} {x y : Value} {t : TypeId} (h : w.heap[b]? = some (.cells #[x, y] t (0, 0))) (x' y' : Value) : ((w.setCell ⟨b, 0, none⟩ x').setCell ⟨b, 1, none⟩ y').heap[b]? = some (.cells #[x', y'] t (0, 0)) :=
  heap_setCell_same _ b 1 _ t y' (heap_setCell_same w b 0 _ t x' h)
theorem two_other {w : World} {b c : Nat} (hc : c ≠ b) (x' y' : Value) : ((w.setCell ⟨b, 0, none⟩ x').setCell ⟨b, 1, none⟩ y').heap[c]? = w.heap[c]? :=
  (Below.heap_setCell _ _ _ _ fun e => hc (by first | exact e | exact e.symm)).trans (Below.heap_setCell _ _ _ _ fun e => hc (by first | exact e | exact e.symm))
theorem two_below {W w : World} {b : Nat} (h : Below W.heap.size W w) (hb : W.heap.size ≤ b) (x' y' : Value) : Below W.heap.size W ((w.setCell ⟨b, 0, none⟩ x').setCell ⟨b, 1, none⟩ y') := (h.setCell (p := ⟨b, 0, none⟩) hb _).setCell (p := ⟨b, 1, none⟩) hb _
theorem two_size (w : World) (p q : Addr) (x' y' : Value) : ((w.setCell p x').setCell q y').heap.size = w.heap.size := by simp [World.setCell]

def cfO (c : HCf) : Obj := .cells #[.int .i64 c.f, .int .i64 c.p, .int .u64 c.l] 24 (0, 0)
def stO (s : HSt) : Obj := .cells #[.int .i64 s.i, .int .i64 s.c] 26 (0, 0)
/-- a law's settings and its node -/
structure HLt (W : World) (c : HCf) (bs : Nat) (s : HSt) (w : World) : Prop where
  low : Below W.heap.size W w
  cf : w.heap[W.heap.size]? = some (cfO c)
  st : w.heap[bs]? = some (stO s)
  lt : W.heap.size < bs
section
variable {W w w' : World} {c : HCf} {bs : Nat} {s : HSt}
theorem HLt.size (h : HLt W c bs s w) : bs < w.heap.size ∧ W.heap.size ≤ w.heap.size := ⟨(Array.getElem?_eq_some_iff.1 h.st).1, h.low.size⟩
theorem HLt.next (h : HLt W c bs s w) (hb : Below w.heap.size w w') : HLt W c bs s w' :=
  ⟨h.low.trans (hb.mono h.size.2), (hb.block _ (Nat.lt_trans h.lt h.size.1)).trans h.cf, (hb.block _ h.size.1).trans h.st, h.lt⟩
theorem HLt.cfc (h : HLt W c bs s w) : w.cell? ⟨W.heap.size, 0, none⟩ = some (.int .i64 c.f) ∧ w.cell? ⟨W.heap.size, 1, none⟩ = some (.int .i64 c.p) ∧ w.cell? ⟨W.heap.size, 2, none⟩ = some (.int .u64 c.l) := ⟨(cellsAt h.cf 0 rfl).1, (cellsAt h.cf 1 rfl).1, (cellsAt h.cf 2 rfl).1⟩
theorem HLt.stc (h : HLt W c bs s w) : w.cell? ⟨bs, 0, none⟩ = some (.int .i64 s.i) ∧ w.cell? ⟨bs, 1, none⟩ = some (.int .i64 s.c) ∧ w.frozen? ⟨bs, 0, none⟩ = false ∧ w.frozen? ⟨bs, 1, none⟩ = false := ⟨(cellsAt h.st 0 rfl).1, (cellsAt h.st 1 rfl).1, (cellsAt h.st 0 (v := .int .i64 s.i) rfl).2, (cellsAt h.st 1 (v := .int .i64 s.c) rfl).2⟩
theorem HLt.set (h : HLt W c bs s w) (i n : Int) : HLt W c bs ⟨i, n⟩ ((w.setCell ⟨bs, 0, none⟩ (.int .i64 i)).setCell ⟨bs, 1, none⟩ (.int .i64 n)) :=
  ⟨two_below h.low (Nat.le_of_lt h.lt) _ _, (two_other (Nat.ne_of_lt h.lt) _ _).trans h.cf, two_set h.st _ _, h.lt⟩
end
end Go.Proofs.Ytbhgoeofcapckaa
