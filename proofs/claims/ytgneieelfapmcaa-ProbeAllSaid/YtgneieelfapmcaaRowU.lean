/-
  Rows of natural numbers (uint64), as they lie in memory (no function of the program is named here).
-/
import Derived.Test.YtgneieelfapmcaaRowN
namespace Go.Proofs.Ytgneieelfapmcaa
open Go.RowKit
set_option maxRecDepth 100000

/-- natural numbers as cells -/
def uvs (l : List Int) : List Value := l.map (Value.int .u64)
theorem uvs_length (l : List Int) : (uvs l).length = l.length := by simp [uvs]
theorem uvs_append (a b : List Int) : uvs (a ++ b) = uvs a ++ uvs b := by simp [uvs]
theorem uvs_set (l : List Int) (i : Nat) (n : Int) : uvs (l.set i n) = (uvs l).set i (.int .u64 n) := by simp [uvs, List.map_set]
theorem uvs_cell {w : World} {B : Option Addr} {m cb : Nat} {e : TypeId} {base : Nat} {cs : List Int} (h : w.ownsRow base e 1 (.slice B m cb) m (uvs cs)) {i : Nat} (hi : i < cs.length) : ∃ g, B = some ⟨g, 0, none⟩ ∧ w.cell? ⟨g, i, none⟩ = some (.int .u64 cs[i]) ∧ w.frozen? ⟨g, i, none⟩ = false ∧ g < w.heap.size ∧ ∃ cur, w.heap[g]? = some (.cells cur e (0, 0)) := by
  have hm := h.1
  rw [uvs_length] at hm
  have hh := h
  rcases h.2 with ⟨h1, h2⟩ | ⟨g, cap, cur, h1, _, hg, _⟩
  · omega
  · injection h1 with h1 _ _
    subst h1
    refine ⟨g, rfl, ?_, ?_, (Array.getElem?_eq_some_iff.1 hg).1, cur, hg⟩
    · have := hh.cells (g := g) rfl i (.int .u64 cs[i]) (by simp [uvs, hi])
      have ha : (⟨g, 0, none⟩ : Addr).add i = ⟨g, i, none⟩ := by unfold Addr.add; split <;> simp_all
      rw [ha] at this
      exact this
    · simp [World.frozen?, hg]
/-- a row of natural numbers that is read -/
structure UR (w : World) (A : Option Addr) (n : Nat) (zs : List Int) : Prop where
  len : zs.length = n
  rd : Rd w w.heap.size A (zs.map (Value.int .u64))
theorem UR.next {w w' : World} {A : Option Addr} {n : Nat} {zs : List Int} (h : UR w A n zs) (hb : Below w.heap.size w w') : UR w' A n zs := ⟨h.len, (h.rd.below hb (Nat.le_refl _)).more hb.size⟩
theorem UR.at_ {w : World} {A : Option Addr} {n : Nat} {zs : List Int} (h : UR w A n zs) {j : Nat} (hj : j < zs.length) : ∃ ad, A = some ad ∧ ad.block < w.heap.size ∧ ∀ w', Below w.heap.size w w' → w'.cell? (ad.add j) = some (.int .u64 zs[j]) := by
  obtain ⟨ad, hA, hb, hc⟩ := h.rd.at_ (k := j) (by rw [List.length_map]; exact hj)
  refine ⟨ad, hA, hb, fun w' hw => ?_⟩
  rw [hw.cell (by rw [add_block]; exact hb), hc]
  simp

theorem UR.off {w w' : World} {A : Option Addr} {n : Nat} {zs : List Int} (h : UR w A n zs) (hz : w.heap.size ≤ w'.heap.size) (hk : ∀ ad, A = some ad → w'.heap[ad.block]? = w.heap[ad.block]?) : UR w' A n zs := ⟨h.len, h.rd.offR hz hk⟩
theorem UR.of_own {w : World} {base n c : Nat} {e : TypeId} {A : Option Addr} {zs : List Int} (h : w.ownsRow base e 1 (.slice A n c) n (uvs zs)) : UR w A n zs := ⟨by have := h.1; rw [uvs_length] at this; omega, Rd.of_own h⟩
end Go.Proofs.Ytgneieelfapmcaa
