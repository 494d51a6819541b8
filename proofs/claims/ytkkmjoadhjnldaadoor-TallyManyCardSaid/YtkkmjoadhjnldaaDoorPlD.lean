/-
  What is read of a table, by the call Reads of package plan: contract. Rows of texts.
-/
import Derived.Test.YtkkmjoadhjnldaaDoorPlC
namespace Go.Proofs.YtkkmjoadhjnldaaDoor
open Go.RowKit
set_option maxRecDepth 100000

def tvs (l : List ByteArray) : List Value := l.map .string
theorem tvs_length (l : List ByteArray) : (tvs l).length = l.length := by simp [tvs]
theorem tvs_append (a b : List ByteArray) : tvs (a ++ b) = tvs a ++ tvs b := by simp [tvs]
theorem tvs_one (l : List ByteArray) : ∀ u ∈ tvs l, u.oneCell' = true := by
  intro u hu
  obtain ⟨b, _, rfl⟩ := List.mem_map.1 hu
  rfl
theorem strinfo6 : (Tryd.prog.info? 9).map (fun i => (i.zero, i.size, i.bytes)) = some (some (.string ⟨#[]⟩), 1, 16) := by kernel_rfl
/-- a row of texts that is read -/
structure XR (w : World) (A : Option Addr) (n : Nat) (ss : List ByteArray) : Prop where
  len : ss.length = n
  rd : Rd w w.heap.size A (tvs ss)
theorem XR.next {w w' : World} {A : Option Addr} {n : Nat} {ss : List ByteArray} (h : XR w A n ss) (hb : Below w.heap.size w w') : XR w' A n ss := ⟨h.len, (h.rd.below hb (Nat.le_refl _)).more hb.size⟩
theorem XR.nil (w : World) : XR w none 0 [] := ⟨rfl, .inl rfl⟩
theorem XR.at_ {w : World} {A : Option Addr} {n : Nat} {ss : List ByteArray} (h : XR w A n ss) {j : Nat} (hj : j < ss.length) : ∃ ad, A = some ad ∧ ad.block < w.heap.size ∧ w.cell? (ad.add j) = some (.string ss[j]) := by
  obtain ⟨ad, hA, hb, hc⟩ := h.rd.at_ (k := j) (by rw [tvs_length]; exact hj)
  exact ⟨ad, hA, hb, by simpa [tvs] using hc⟩
theorem XR.new (w : World) (t : TypeId) (ss : List ByteArray) : XR (w.alloc (.cells (tvs ss).toArray t)) (some ⟨w.heap.size, 0, none⟩) ss.length ss := ⟨rfl, (Rd.new w t (tvs ss)).more (by simp)⟩
theorem XR.of_own {w : World} {base n c : Nat} {e : TypeId} {A : Option Addr} {ss : List ByteArray} (h : w.ownsRow base e 1 (.slice A n c) n (tvs ss)) : XR w A n ss := ⟨by have := h.1; rw [tvs_length] at this; omega, Rd.of_own h⟩

theorem firsts_next (l : List Kv) (k : Nat) (h : k < l.length) : ((l.take (k + 1)).flatMap fun p => [p.k, p.v]) = ((l.take k).flatMap fun p => [p.k, p.v]) ++ [l[k].k, l[k].v] := by
  rw [List.take_succ_eq_append_getElem h, List.flatMap_append]
  rfl
theorem firsts_len : ∀ l : List Kv, (l.flatMap fun p => [p.k, p.v]).length = 2 * l.length
  | [] => rfl
  | a :: r => by
    have := firsts_len r
    simp only [List.flatMap_cons, List.length_append, List.length_cons, List.length_nil]
    omega

end Go.Proofs.YtkkmjoadhjnldaaDoor
