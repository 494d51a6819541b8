/-
  The document's plan of probes in memory; what is asked of it.
-/
import Derived.Test.YtgneieelfapmcaaPrP
import Derived.Test.YtgneieelfapmcaaRowU
import Derived.Test.YtgneieelfapmcaaDuo
import Derived.BigQuiet
import Derived.BigRegion
namespace Go.Proofs.Ytgneieelfapmcaa
open Go.RowKit
set_option maxRecDepth 100000

/-- where its rows lie -/
structure RPl where
  gd : Nat
  cd : Nat
  go : Nat
  co : Nat
  ga : Nat
  ca : Nat
/-- as it lies: a block of six cells, and three rows -/
structure RPx (r : Nat) (q : RPl) (n : Nat) (ev la last : Int) (ds os qs : List Int) (S : Nat → Prop) (w : World) : Prop where
  top : w.heap[r]? = some (.cells #[.slice (some ⟨q.gd, 0, none⟩) n q.cd, .slice (some ⟨q.go, 0, none⟩) n q.co, .slice (some ⟨q.ga, 0, none⟩) n q.ca, .int .u64 ev, .int .u64 la, .int .u64 last] 49 (0, 0))
  d : w.ownsRow 0 22 1 (.slice (some ⟨q.gd, 0, none⟩) n q.cd) n (uvs ds)
  o : w.ownsRow 0 22 1 (.slice (some ⟨q.go, 0, none⟩) n q.co) n (uvs os)
  a : w.ownsRow 0 22 1 (.slice (some ⟨q.ga, 0, none⟩) n q.ca) n (uvs qs)
  ne1 : q.gd ≠ q.go
  ne2 : q.go ≠ q.ga
  ne3 : q.gd ≠ q.ga
  nr1 : r ≠ q.gd
  nr2 : r ≠ q.go
  nr3 : r ≠ q.ga
  sr : S r
  sd : S q.gd
  so : S q.go
  sa : S q.ga
  lt : ∀ k, S k → k < w.heap.size
section
variable {r : Nat} {q : RPl} {n : Nat} {ev la last : Int} {ds os qs : List Int} {S : Nat → Prop} {w w' : World}
theorem RPx.keep (h : RPx r q n ev la last ds os qs S w) (hk : ∀ k, S k → w'.heap[k]? = w.heap[k]?) (hz : w.heap.size ≤ w'.heap.size) : RPx r q n ev la last ds os qs S w' :=
  { h with
    top := (hk _ h.sr).trans h.top
    d := own_keep h.d fun g hg => by injection hg with hg; subst hg; exact hk _ h.sd
    o := own_keep h.o fun g hg => by injection hg with hg; subst hg; exact hk _ h.so
    a := own_keep h.a fun g hg => by injection hg with hg; subst hg; exact hk _ h.sa
    lt := fun k hk => Nat.lt_of_lt_of_le (h.lt k hk) hz }
theorem RPx.next (h : RPx r q n ev la last ds os qs S w) (hb : Below w.heap.size w w') : RPx r q n ev la last ds os qs S w' := h.keep (fun k hk => hb.block k (h.lt k hk)) hb.size
theorem RPx.tops (h : RPx r q n ev la last ds os qs S w) : w.cell? ⟨r, 0, none⟩ = some (.slice (some ⟨q.gd, 0, none⟩) n q.cd) ∧ w.cell? ⟨r, 1, none⟩ = some (.slice (some ⟨q.go, 0, none⟩) n q.co) ∧ w.cell? ⟨r, 2, none⟩ = some (.slice (some ⟨q.ga, 0, none⟩) n q.ca) ∧ w.cell? ⟨r, 3, none⟩ = some (.int .u64 ev) ∧ w.cell? ⟨r, 4, none⟩ = some (.int .u64 la) ∧ w.cell? ⟨r, 5, none⟩ = some (.int .u64 last) ∧ w.frozen? ⟨r, 5, none⟩ = false :=
  ⟨(cellsAt h.top 0 rfl).1, (cellsAt h.top 1 rfl).1, (cellsAt h.top 2 rfl).1, (cellsAt h.top 3 rfl).1, (cellsAt h.top 4 rfl).1, (cellsAt h.top 5 rfl).1, (cellsAt h.top 5 (v := .int .u64 last) rfl).2⟩
theorem RPx.lens (h : RPx r q n ev la last ds os qs S w) : ds.length = n ∧ os.length = n ∧ qs.length = n := by
  have h1 := h.d.1
  have h2 := h.o.1
  have h3 := h.a.1
  rw [uvs_length] at h1 h2 h3
  exact ⟨by omega, by omega, by omega⟩
theorem RPx.dat (h : RPx r q n ev la last ds os qs S w) {j : Nat} (hj : j < ds.length) : w.cell? ⟨q.gd, j, none⟩ = some (.int .u64 ds[j]) ∧ w.frozen? ⟨q.gd, j, none⟩ = false := by
  obtain ⟨g, hg, h1, h2, _⟩ := uvs_cell h.d hj
  injection hg with hg; injection hg with hg; subst hg
  exact ⟨h1, h2⟩
theorem RPx.oat (h : RPx r q n ev la last ds os qs S w) {j : Nat} (hj : j < os.length) : w.cell? ⟨q.go, j, none⟩ = some (.int .u64 os[j]) ∧ w.frozen? ⟨q.go, j, none⟩ = false := by
  obtain ⟨g, hg, h1, h2, _⟩ := uvs_cell h.o hj
  injection hg with hg; injection hg with hg; subst hg
  exact ⟨h1, h2⟩
theorem RPx.aat (h : RPx r q n ev la last ds os qs S w) {j : Nat} (hj : j < qs.length) : w.cell? ⟨q.ga, j, none⟩ = some (.int .u64 qs[j]) ∧ w.frozen? ⟨q.ga, j, none⟩ = false := by
  obtain ⟨g, hg, h1, h2, _⟩ := uvs_cell h.a hj
  injection hg with hg; injection hg with hg; subst hg
  exact ⟨h1, h2⟩
theorem set_other {w : World} {p : Addr} {v : Value} {k : Nat} (h : k ≠ p.block) : (w.setCell p v).heap[k]? = w.heap[k]? := Below.heap_setCell _ _ _ _ fun e => h (by first | exact e | exact e.symm)
theorem set_size (w : World) (p : Addr) (v : Value) : (w.setCell p v).heap.size = w.heap.size := by simp [World.setCell]
theorem RPx.setO (h : RPx r q n ev la last ds os qs S w) (j : Nat) (v : Int) : RPx r q n ev la last ds (os.set j v) qs S (w.setCell ⟨q.go, j, none⟩ (.int .u64 v)) :=
  { h with
    top := (set_other h.nr2).trans h.top
    d := own_keep h.d fun g hg => by injection hg with hg; subst hg; exact set_other h.ne1
    o := by rw [uvs_set]; exact own_set h.o j _
    a := own_keep h.a fun g hg => by injection hg with hg; subst hg; exact set_other h.ne2.symm
    lt := fun k hk => by rw [set_size]; exact h.lt k hk }
theorem RPx.setA (h : RPx r q n ev la last ds os qs S w) (j : Nat) (v : Int) : RPx r q n ev la last ds os (qs.set j v) S (w.setCell ⟨q.ga, j, none⟩ (.int .u64 v)) :=
  { h with
    top := (set_other h.nr3).trans h.top
    d := own_keep h.d fun g hg => by injection hg with hg; subst hg; exact set_other h.ne3
    a := by rw [uvs_set]; exact own_set h.a j _
    o := own_keep h.o fun g hg => by injection hg with hg; subst hg; exact set_other h.ne2
    lt := fun k hk => by rw [set_size]; exact h.lt k hk }
theorem RPx.setD (h : RPx r q n ev la last ds os qs S w) (j : Nat) (v : Int) : RPx r q n ev la last (ds.set j v) os qs S (w.setCell ⟨q.gd, j, none⟩ (.int .u64 v)) :=
  { h with
    top := (set_other h.nr1).trans h.top
    o := own_keep h.o fun g hg => by injection hg with hg; subst hg; exact set_other h.ne1.symm
    d := by rw [uvs_set]; exact own_set h.d j _
    a := own_keep h.a fun g hg => by injection hg with hg; subst hg; exact set_other h.ne3.symm
    lt := fun k hk => by rw [set_size]; exact h.lt k hk }
theorem RPx.setL (h : RPx r q n ev la last ds os qs S w) (v : Int) : RPx r q n ev la v ds os qs S (w.setCell ⟨r, 5, none⟩ (.int .u64 v)) :=
  { h with
    top := heap_setCell_same w r 5 _ _ _ h.top
    d := own_keep h.d fun g hg => by injection hg with hg; subst hg; exact set_other h.nr1.symm
    o := own_keep h.o fun g hg => by injection hg with hg; subst hg; exact set_other h.nr2.symm
    a := own_keep h.a fun g hg => by injection hg with hg; subst hg; exact set_other h.nr3.symm
    lt := fun k hk => by rw [set_size]; exact h.lt k hk }
end
/-- the document's plan -/
def RPb (r : Nat) (p : Pb) : Thing where
  p := fun S w => ∃ q, RPx r q p.l.length p.ev p.la p.last (p.l.map Nw.d) (p.l.map Nw.o) (p.l.map Nw.a) S w
  keep := fun ⟨q, h⟩ hk hz => ⟨q, h.keep hk hz⟩
  lt := fun ⟨_, h⟩ => h.lt
end Go.Proofs.Ytgneieelfapmcaa
