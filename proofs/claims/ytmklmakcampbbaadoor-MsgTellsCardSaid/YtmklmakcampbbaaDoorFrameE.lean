/-
  Rows of frames as they lie in memory; what the statements' own helper frames does of them.
-/
import Derived.Test.YtmklmakcampbbaaDoorFrameD
import Derived.Test.YtmklmakcampbbaaDoorWide
namespace Go.Proofs.YtmklmakcampbbaaDoor
open Go.RowKit
set_option maxRecDepth 100000

/-- a frame as it lies: its Kind, and where its Body is -/
structure Rep where
  k : UInt8
  p : Part
def Rep.cells (r : Rep) : List Value := [.int .u8 (r.k.toNat : Int), .slice r.p.A r.p.l r.p.c]
def repCells (rs : List Rep) : List Value := rs.flatMap Rep.cells
/-- what frames say -/
def Rep.says (r : Rep) : UInt8 × List UInt8 := (r.k, r.p.bs)
theorem repCells_length : ∀ rs : List Rep, (repCells rs).length = rs.length * 2
  | [] => rfl
  | r :: rs => by
    have := repCells_length rs
    simp only [repCells, List.flatMap_cons, List.length_append, List.length_cons, Rep.cells, List.length_nil] at this ⊢
    omega
theorem repCells_append (a b : List Rep) : repCells (a ++ b) = repCells a ++ repCells b := by simp [repCells]
theorem repCells_at : ∀ (rs : List Rep) (j : Nat) (h : j < rs.length), (repCells rs)[j * 2]? = some (.int .u8 (rs[j].k.toNat : Int)) ∧ (repCells rs)[j * 2 + 1]? = some (.slice rs[j].p.A rs[j].p.l rs[j].p.c)
  | [], _, h => by simp at h
  | r :: rs, 0, _ => by simp [repCells, Rep.cells]
  | r :: rs, j + 1, h => by
    have := repCells_at rs j (by simpa using h)
    have e1 : (j + 1) * 2 = j * 2 + 2 := by omega
    simp only [repCells, List.flatMap_cons] at this ⊢
    rw [e1]
    simpa [Rep.cells] using this
theorem repCells_next (rs : List Rep) (k : Nat) (h : k < rs.length) : repCells (rs.take (k + 1)) = repCells (rs.take k) ++ [.int .u8 (rs[k].k.toNat : Int), .slice rs[k].p.A rs[k].p.l rs[k].p.c] := by
  rw [List.take_succ_eq_append_getElem h, repCells_append]
  simp [repCells, Rep.cells]
theorem repCells_one (rs : List Rep) : ∀ u ∈ repCells rs, u.oneCell' = true := by
  intro u hu
  simp only [repCells, List.mem_flatMap] at hu
  obtain ⟨r, _, h⟩ := hu
  simp only [Rep.cells, List.mem_cons, List.not_mem_nil, or_false] at h
  rcases h with rfl | rfl <;> rfl

theorem Rd.of_own2 {w : World} {A : Option Addr} {xs : List Value} {base n c : Nat} {e : TypeId} (h : w.ownsRow base e 2 (.slice A n c) n xs) : Rd w w.heap.size A xs := by
  rcases h.2 with ⟨_, hn⟩ | ⟨g, cap, cur, hv, _, hg, _⟩
  · exact .inl (List.eq_nil_of_length_eq_zero (by have := h.1; omega))
  · have hA : A = some ⟨g, 0, none⟩ := by injection hv
    subst hA
    exact .inr ⟨_, rfl, (Array.getElem?_eq_some_iff.1 hg).1, h.cells (g := g) rfl⟩

/-- a row of frames that can be read -/
structure FR (w : World) (A : Option Addr) (n : Nat) (rs : List Rep) : Prop where
  len : rs.length = n
  rd : Rd w w.heap.size A (repCells rs)
  body : ∀ r ∈ rs, Sl w w.heap.size r.p.A r.p.l r.p.c r.p.bs
theorem FR.next {w w' : World} {A : Option Addr} {n : Nat} {rs : List Rep} (h : FR w A n rs) (hb : Below w.heap.size w w') : FR w' A n rs :=
  ⟨h.len, (h.rd.below hb (Nat.le_refl _)).more hb.size, fun r hr => (h.body r hr).next hb⟩
theorem FR.drew {w : World} {A : Option Addr} {n : Nat} {rs : List Rep} (h : FR w A n rs) : FR w.drew A n rs := ⟨h.len, h.rd, fun r hr => (h.body r hr).drew⟩

theorem rinfo : (Tryd.prog.info? 35).map (fun i => (i.zero, i.size, i.bytes)) = some (some (.agg #[.int .u8 0, .slice none 0 0]), 2, 32) := by kernel_rfl
theorem finfo : (Tryd.prog.info? 28).map (fun i => (i.zero, i.size, i.bytes)) = some (some (.agg #[.int .u8 0, .slice none 0 0]), 2, 32) := by kernel_rfl

end Go.Proofs.YtmklmakcampbbaaDoor
