/-
  The project's layer 8: a ring in an array, by the call: contracts.
-/
import Derived.Test.YtijemohcengmjaaWaP
import Derived.Test.YtijemohcengmjaaDuo
import Derived.BigRegion
import Derived.BigQuiet
namespace Go.Proofs.Ytijemohcengmjaa
open Go.RowKit
set_option maxRecDepth 100000

/-- a ring r of twelve, from f on: it says l -/
structure RingAt (r : List Int) (f : Nat) (l : List Int) : Prop where
  size : r.length = 12
  first : f < 12
  len : l.length ≤ 12
  at_ : ∀ i (hi : i < l.length), r[(f + i) % 12]? = some l[i]
theorem RingAt.nil {r : List Int} (h : r.length = 12) : RingAt r 0 [] := ⟨h, by decide, by decide, fun i hi => absurd hi (by simp)⟩
theorem RingAt.get {r : List Int} {f : Nat} {l : List Int} (h : RingAt r f l) {i : Nat} (hi : i < l.length) : ∃ hj : (f + i) % 12 < r.length, r[(f + i) % 12] = l[i] := by
  have := h.at_ i hi
  obtain ⟨h1, h2⟩ := List.getElem?_eq_some_iff.1 this
  exact ⟨h1, h2⟩
theorem RingAt.put {r : List Int} {f : Nat} {l : List Int} (h : RingAt r f l) (hl : l.length < 12) (x : Int) : RingAt (r.set ((f + l.length) % 12) x) f (l ++ [x]) := by
  have hs := h.size
  have hf := h.first
  refine ⟨by rw [List.length_set]; exact hs, hf, by simp; omega, fun i hi => ?_⟩
  rw [List.length_append, List.length_singleton] at hi
  by_cases he : i = l.length
  · subst he
    rw [List.getElem?_set_self (by omega)]
    simp
  · have hi2 : i < l.length := by omega
    rw [List.getElem?_set_ne (by omega), h.at_ i hi2, List.getElem_append_left hi2]
theorem RingAt.take {r : List Int} {f : Nat} {x : Int} {l : List Int} (h : RingAt r f (x :: l)) : RingAt r ((f + 1) % 12) l := by
  have hl := h.len
  refine ⟨h.size, by omega, by simp at hl; omega, fun i hi => ?_⟩
  have := h.at_ (i + 1) (by simpa using hi)
  rw [show ((f + 1) % 12 + i) % 12 = (f + (i + 1)) % 12 by omega, this]
  rfl
theorem RingAt.set {r : List Int} {f : Nat} {l : List Int} (h : RingAt r f l) {i : Nat} (hi : i < l.length) (z : Int) : RingAt (r.set ((f + i) % 12) z) f (l.set i z) := by
  have hs := h.size
  have hf := h.first
  have hl := h.len
  refine ⟨by rw [List.length_set]; exact hs, hf, by simpa using hl, fun j hj => ?_⟩
  have hj2 : j < l.length := by simpa using hj
  by_cases he : i = j
  · subst he
    rw [List.getElem?_set_self (by omega)]
    simp
  · rw [List.getElem?_set_ne (by omega), h.at_ j hj2, List.getElem_set_ne he]
theorem RingAt.cut {r : List Int} {f : Nat} {l : List Int} (h : RingAt r f l) (k : Nat) : RingAt r f (l.take k) := by
  have hl := h.len
  refine ⟨h.size, h.first, by rw [List.length_take]; omega, fun i hi => ?_⟩
  rw [List.length_take] at hi
  rw [h.at_ i (by omega), List.getElem_take]

/-- all behind a place close up: the first j of them have -/
def shiftW (a j : Nat) (l : List Int) : List Int := (l.take a ++ (l.drop (a + 1)).take j) ++ l.drop (a + j)
theorem shiftW_len {a j : Nat} {l : List Int} (h : a + j + 1 ≤ l.length) : (shiftW a j l).length = l.length := by
  simp [shiftW]; omega
theorem shiftW_zero (a : Nat) (l : List Int) : shiftW a 0 l = l := by simp [shiftW]
theorem shiftW_get {a j : Nat} {l : List Int} (h : a + j + 1 ≤ l.length) (k : Nat) (hk : k < l.length) (hjk : a + j ≤ k) : (shiftW a j l)[k]'(by rw [shiftW_len h]; exact hk) = l[k] := by
  unfold shiftW
  rw [List.getElem_append_right (by simp; omega)]
  simp
  congr 1
  omega
theorem shiftW_at? {a j : Nat} {l : List Int} (h : a + j + 1 ≤ l.length) (k : Nat) : (shiftW a j l)[k]? = if k < a then l[k]? else if k < a + j then l[k + 1]? else l[k]? := by
  unfold shiftW
  rw [List.getElem?_append, List.getElem?_append]
  simp only [List.length_append, List.length_take, List.length_drop]
  by_cases h1 : k < a
  · rw [if_pos (by omega), if_pos (by omega), if_pos h1, List.getElem?_take, if_pos h1]
  · rw [if_neg h1]
    by_cases h2 : k < a + j
    · rw [if_pos (by omega), if_neg (by omega), if_pos h2, List.getElem?_take, if_pos (by omega), List.getElem?_drop]
      congr 1; omega
    · rw [if_neg (by omega), if_neg h2, List.getElem?_drop]
      congr 1; omega
theorem shiftW_next {a j : Nat} {l : List Int} (h : a + j + 1 < l.length) : (shiftW a j l).set (a + j) l[a + j + 1] = shiftW a (j + 1) l := by
  apply List.ext_getElem?
  intro k
  rw [shiftW_at? (by omega), List.getElem?_set, shiftW_len (by omega), shiftW_at? (by omega)]
  by_cases he : a + j = k
  · subst he
    rw [if_pos rfl, if_pos (by omega), if_neg (by omega), if_pos (by omega), List.getElem?_eq_getElem h]
  · rw [if_neg he]
    split
    · rfl
    · by_cases h3 : k < a + j
      · rw [if_pos h3, if_pos (by omega)]
      · rw [if_neg h3, if_neg (by omega)]
theorem shiftW_end {a j : Nat} {l : List Int} (h : a + j + 1 = l.length) : (shiftW a j l).take (a + j) = l.take a ++ l.drop (a + 1) := by
  unfold shiftW
  rw [List.take_append_of_le_length (by simp; omega), List.take_of_length_le (by simp; omega), List.take_of_length_le (l := l.drop (a + 1)) (by simp; omega)]

/-- a row's cells -/
def rowC (r : List Int) (f n : Nat) (m : Int) : Array Value := (ivs r ++ ([.int .i64 f, .int .i64 n, .int .i64 m] : List Value)).toArray
/-- a row of the project's, as it lies -/
structure PRow (w : World) (b : Nat) (r : List Int) (f n : Nat) (m : Int) : Prop where
  heap : w.heap[b]? = some (.cells (rowC r f n m) 48 (0, 0))
  size : r.length = 12
section
variable {w : World} {b : Nat} {r : List Int} {f n : Nat} {m : Int}
theorem PRow.ring (h : PRow w b r f n m) {j : Nat} (hj : j < r.length) : w.cell? ⟨b, j, none⟩ = some (.int .i64 r[j]) := by
  have hs := h.size
  rw [cell_of_row _ _ j _ _ _ h.heap]
  simp only [rowC, List.getElem?_toArray]
  rw [List.getElem?_append_left (by rw [ivs_length]; exact hj)]
  simp [ivs, hj]
theorem PRow.cells (h : PRow w b r f n m) : w.cell? ⟨b, 12, none⟩ = some (.int .i64 f) ∧ w.cell? ⟨b, 13, none⟩ = some (.int .i64 n) ∧ w.cell? ⟨b, 14, none⟩ = some (.int .i64 m) := by
  have hs := h.size
  have key : ∀ (j : Nat) (v : Value), ([.int .i64 f, .int .i64 n, .int .i64 m] : List Value)[j]? = some v → w.cell? ⟨b, 12 + j, none⟩ = some v := fun j v hv => by
    rw [cell_of_row _ _ (12 + j) _ _ _ h.heap]
    simp only [rowC, List.getElem?_toArray]
    rw [List.getElem?_append_right (by rw [ivs_length]; omega), ivs_length, hs, show 12 + j - 12 = j by omega]
    exact hv
  exact ⟨key 0 _ rfl, key 1 _ rfl, key 2 _ rfl⟩
theorem PRow.froz (h : PRow w b r f n m) (j : Nat) : w.frozen? ⟨b, j, none⟩ = false := by simp [World.frozen?, h.heap]
theorem PRow.lt (h : PRow w b r f n m) : b < w.heap.size := (Array.getElem?_eq_some_iff.1 h.heap).1
theorem PRow.setRing (h : PRow w b r f n m) {j : Nat} (hj : j < 12) (z : Int) : PRow (w.setCell ⟨b, j, none⟩ (.int .i64 z)) b (r.set j z) f n m := by
  have hs := h.size
  refine ⟨?_, by rw [List.length_set]; exact hs⟩
  rw [heap_setCell_same w b j _ _ _ h.heap]
  congr 2
  simp only [rowC, List.setIfInBounds_toArray, ivs_set]
  rw [List.set_append_left _ _ (by rw [ivs_length]; omega)]
theorem PRow.setLate (h : PRow w b r f n m) {j : Nat} (v : Value) (f' n' : Nat) (hv : ([.int .i64 f, .int .i64 n, .int .i64 m] : List Value).set j v = [.int .i64 f', .int .i64 n', .int .i64 m]) : PRow (w.setCell ⟨b, 12 + j, none⟩ v) b r f' n' m := by
  have hs := h.size
  refine ⟨?_, hs⟩
  rw [heap_setCell_same w b (12 + j) _ _ _ h.heap]
  congr 2
  simp only [rowC, List.setIfInBounds_toArray]
  rw [List.set_append_right _ _ (by rw [ivs_length]; omega), ivs_length, hs, show 12 + j - 12 = j by omega, hv]
theorem PRow.setFirst (h : PRow w b r f n m) (f' : Nat) : PRow (w.setCell ⟨b, 12, none⟩ (.int .i64 f')) b r f' n m := h.setLate (j := 0) _ f' n rfl
theorem PRow.setCount (h : PRow w b r f n m) (n' : Nat) : PRow (w.setCell ⟨b, 13, none⟩ (.int .i64 n')) b r f n' m := h.setLate (j := 1) _ f n' rfl
theorem PRow.of {w' : World} (h : PRow w b r f n m) (hk : w'.heap[b]? = w.heap[b]?) : PRow w' b r f n m := ⟨hk.trans h.heap, h.size⟩

set_option maxHeartbeats 2000000 in
theorem place_ok (k : Nat) (h : PRow w b r f n m) (hf : f < 12) (hk : k ≤ 12) :
    Calls Try.prog 19 #[.pointer (some ⟨b, 0, none⟩), .int .i64 k] w fun e w' => e = .returned (.pointer (some ⟨b, (f + k) % 12, none⟩)) ∧ w'.heap = w.heap ∧ Below w.heap.size w w' := by
  obtain ⟨c12, _, _⟩ := h.cells
  obtain ⟨q, hq⟩ : ∃ q, q = (f + k) % 12 := ⟨_, rfl⟩
  have hrem : Int.tmod ((f : Int) + k) 12 = (q : Int) := by
    rw [hq, show ((f : Int) + k) = ((f + k : Nat) : Int) by omega]
    rfl
  have hq0 : (0 : Int) ≤ q := by omega
  have hq1 : (q : Int) < 12 := by omega
  have hwr : IntKind.i64.wrap ((f : Int) + k) = (f : Int) + k := by rw [IntKind.wrap_i64]; omega
  rw [← hq]
  clear h hq
  go_enter Try.func19, Try.ntmps19
  go_wp2_with fail
  go_quiet (fail)
  go_wp2_with fail
  go_ret
  exact ⟨rfl, rfl, kp_drewN _ _⟩
end
end Go.Proofs.Ytijemohcengmjaa
