/-
  The project's tally in memory.
-/
import Derived.Test.YtkkmjoadhjnldaaDoorTaR
import Derived.Test.YtkkmjoadhjnldaaDoorMapI
namespace Go.Proofs.YtkkmjoadhjnldaaDoor
open Go.RowKit Go.Maps Go.WideMaps
set_option maxRecDepth 100000

/-- places of names, as rows of a map -/
def idxT (ns : List ByteArray) : List (List UInt8 × Int) := ns.zipIdx.map fun p => (p.1.data.toList, (p.2 : Int))
theorem idxT_push (ns : List ByteArray) (x : ByteArray) : idxT (ns ++ [x]) = idxT ns ++ [(x.data.toList, (ns.length : Int))] := by simp [idxT, List.zipIdx_append]
theorem idxT_len (ns : List ByteArray) : (idxT ns).length = ns.length := by simp [idxT]
theorem placeT_push (s x : ByteArray) : ∀ acc : List ByteArray, placeT s (acc ++ [x]) = if placeT s acc < 0 then (if x = s then (acc.length : Int) else -1) else placeT s acc
  | [] => by
    by_cases h : x = s
    · simp [placeT, h]
    · simp [placeT, h]
  | y :: r => by
    have ih := placeT_push s x r
    have hge := placeT_ge s r
    simp only [List.cons_append]
    unfold placeT
    by_cases hy : y = s
    · simp [hy]
    · rw [if_neg hy, if_neg hy, ih]
      by_cases h1 : placeT s r < 0
      · rw [if_pos h1, if_pos h1]
        by_cases hx : x = s
        · rw [if_pos hx, if_neg (by omega), if_pos (by omega), if_pos hx]
          simp
        · rw [if_neg hx, if_pos (by omega), if_pos (by omega), if_neg hx]
      · rw [if_neg h1, if_neg h1, if_neg (by omega)]
theorem newT_push (l : List ByteArray) (x : ByteArray) : newT (l ++ [x]) = addN (newT l) x := by simp [newT, List.foldl_append]
/-- a look-up gives a name's place -/
theorem newT_at (s : ByteArray) (z : DataW Unit) (l : List ByteArray) : (datM (idxT (newT l))).atKey (.string s.data.toList) z = if placeT s (newT l) < 0 then z else .lit (.int .i64 (placeT s (newT l))) := by
  induction h : l.reverse generalizing l with
  | nil =>
    obtain rfl : l = [] := by simpa using h
    rfl
  | cons x r ih =>
    obtain rfl : l = r.reverse ++ [x] := by rw [← List.reverse_reverse l, h]; simp
    have ih := ih r.reverse (by simp)
    rw [newT_push]
    unfold addN
    generalize newT r.reverse = acc at *
    by_cases hp : placeT x acc < 0
    · rw [if_pos hp, idxT_push, datM_push, placeT_push]
      by_cases hx : x = s
      · subst hx
        rw [atKey_put_same (datM_isMap _) (by simp [WideAt.IsKeyLit]), if_pos hp, if_pos rfl, if_neg (by omega)]
      · rw [atKey_put_other (by simpa using fun e => hx (ByteArray.ext e.symm)), ih]
        by_cases h1 : placeT s acc < 0
        · rw [if_pos h1, if_pos h1, if_neg hx, if_pos (by omega)]
        · rw [if_neg h1, if_neg h1, if_neg h1]
    · rw [if_neg hp]
      exact ih

/-- a tally's cells: the mark, the lock, the lock's own, names, places, counts -/
def Tly (w : World) (b : Nat) (c0 c1 c2 c3 c4 c5 : Value) : Prop := w.heap[b]? = some (.cells #[c0, c1, c2, c3, c4, c5] 59 (0, 0))
section
variable {w : World} {b : Nat} {c0 c1 c2 c3 c4 c5 : Value}
theorem Tly.lt (h : Tly w b c0 c1 c2 c3 c4 c5) : b < w.heap.size := (Array.getElem?_eq_some_iff.1 h).1
theorem Tly.keep {w' : World} (h : Tly w b c0 c1 c2 c3 c4 c5) (hk : w'.heap[b]? = w.heap[b]?) : Tly w' b c0 c1 c2 c3 c4 c5 := hk.trans h
theorem Tly.next {w' : World} (h : Tly w b c0 c1 c2 c3 c4 c5) (hb : Below w.heap.size w w') : Tly w' b c0 c1 c2 c3 c4 c5 := h.keep (hb.block b h.lt)
theorem Tly.cells (h : Tly w b c0 c1 c2 c3 c4 c5) : w.cell? ⟨b, 0, none⟩ = some c0 ∧ w.cell? ⟨b, 1, none⟩ = some c1 ∧ w.cell? ⟨b, 2, none⟩ = some c2 ∧ w.cell? ⟨b, 3, none⟩ = some c3 ∧ w.cell? ⟨b, 4, none⟩ = some c4 ∧ w.cell? ⟨b, 5, none⟩ = some c5 := by
  refine ⟨?_, ?_, ?_, ?_, ?_, ?_⟩
  · rw [cell_of_row _ _ 0 _ _ (0, 0) h]; rfl
  · rw [cell_of_row _ _ 1 _ _ (0, 0) h]; rfl
  · rw [cell_of_row _ _ 2 _ _ (0, 0) h]; rfl
  · rw [cell_of_row _ _ 3 _ _ (0, 0) h]; rfl
  · rw [cell_of_row _ _ 4 _ _ (0, 0) h]; rfl
  · rw [cell_of_row _ _ 5 _ _ (0, 0) h]; rfl
theorem Tly.thaw (h : Tly w b c0 c1 c2 c3 c4 c5) (k : Nat) : w.frozen? ⟨b, k, none⟩ = false := by
  unfold Tly at h
  unfold World.frozen?
  simp [h]
theorem Tly.set0 (h : Tly w b c0 c1 c2 c3 c4 c5) (u : Value) : Tly (w.setCell ⟨b, 0, none⟩ u) b u c1 c2 c3 c4 c5 := by unfold Tly at *; simp [World.setCell, Array.getElem?_modify, h]
theorem Tly.set1 (h : Tly w b c0 c1 c2 c3 c4 c5) (u : Value) : Tly (w.setCell ⟨b, 1, none⟩ u) b c0 u c2 c3 c4 c5 := by unfold Tly at *; simp [World.setCell, Array.getElem?_modify, h]
theorem Tly.set3 (h : Tly w b c0 c1 c2 c3 c4 c5) (u : Value) : Tly (w.setCell ⟨b, 3, none⟩ u) b c0 c1 c2 u c4 c5 := by unfold Tly at *; simp [World.setCell, Array.getElem?_modify, h]
theorem Tly.set4 (h : Tly w b c0 c1 c2 c3 c4 c5) (u : Value) : Tly (w.setCell ⟨b, 4, none⟩ u) b c0 c1 c2 c3 u c5 := by unfold Tly at *; simp [World.setCell, Array.getElem?_modify, h]
theorem Tly.set5 (h : Tly w b c0 c1 c2 c3 c4 c5) (u : Value) : Tly (w.setCell ⟨b, 5, none⟩ u) b c0 c1 c2 c3 c4 u := by unfold Tly at *; simp [World.setCell, Array.getElem?_modify, h]
theorem Tly.off (h : Tly w b c0 c1 c2 c3 c4 c5) {base n size : Nat} {e : TypeId} {v : Value} {xs : List Value} (ho : w.ownsRow base e size v n xs) (he : 59 ≠ e) : v.ownBlock ≠ some b := own_type_ne ho h he
end

/-- not made yet: its names as they were given -/
structure PU (w : World) (b : Nat) (S : Nat → Prop) (l : List ByteArray) : Prop where
  at_ : ∃ x A n c, Tly w b (.int .u32 0) (.int .i32 0) x (.slice A n c) (.map none) (.slice none 0 0) ∧ w.ownsRow 0 9 1 (.slice A n c) n (tvs l) ∧ (∀ g, (Value.slice A n c).ownBlock = some g → S g)
/-- made -/
structure PM (w : World) (b : Nat) (S : Nat → Prop) (ns : List ByteArray) (cs : List Int) (A : Option Addr) (n ca bm : Nat) (B : Option Addr) (cb : Nat) : Prop where
  cls : ∃ x, Tly w b (.int .u32 1) (.int .i32 0) x (.slice A n ca) (.map (some bm)) (.slice B n cb)
  nm : w.ownsRow 0 9 1 (.slice A n ca) n (tvs ns)
  ct : w.ownsRow 0 68 1 (.slice B n cb) n (ivs cs)
  map : MapAt w bm (idxT ns)
  sn : ∀ g, (Value.slice A n ca).ownBlock = some g → S g
  sc : ∀ g, (Value.slice B n cb).ownBlock = some g → S g
  sm : S bm
/-- a tally, its blocks among S -/
structure PT (S : Nat → Prop) (w : World) (b : Nat) (l ns : List ByteArray) (cs : List Int) : Prop where
  names : ns = newT l
  few : l.length ≤ 900
  short : ∀ s ∈ l, s.size ≤ 1000
  inb : S b
  lt : ∀ k, S k → k < w.heap.size
  is : (PU w b S l ∧ cs = List.replicate ns.length 0) ∨ ∃ A n ca bm B cb, PM w b S ns cs A n ca bm B cb
/-- what is left by a call -/
structure PC (S : Nat → Prop) (w : World) (b : Nat) (l ns : List ByteArray) (cs : List Int) (w' : World) : Prop where
  at_ : ∃ S', PT S' w' b l ns cs ∧ (∀ k, S' k → S k ∨ w.heap.size ≤ k)
  off : Off S w w'

theorem newT_len (l : List ByteArray) : (newT l).length ≤ l.length := by
  induction h : l.reverse generalizing l with
  | nil =>
    obtain rfl : l = [] := by simpa using h
    exact Nat.le_refl _
  | cons x r ih =>
    obtain rfl : l = r.reverse ++ [x] := by rw [← List.reverse_reverse l, h]; simp
    have := ih r.reverse (by simp)
    have h2 := addN_len (newT r.reverse) x
    rw [newT_push, List.length_append]
    simp only [List.length_singleton]
    omega
theorem PU.keep {w w' : World} {b : Nat} {S : Nat → Prop} {l : List ByteArray} (h : PU w b S l) (hb : S b) (hk : ∀ k, S k → w'.heap[k]? = w.heap[k]?) : PU w' b S l := by
  obtain ⟨x, A, n, c, h1, h2, h3⟩ := h
  exact ⟨x, A, n, c, h1.keep (hk b hb), own_keep h2 fun g e => hk g (h3 g e), h3⟩
theorem PM.keep {w w' : World} {b : Nat} {S : Nat → Prop} {ns : List ByteArray} {cs : List Int} {A : Option Addr} {n ca bm : Nat} {B : Option Addr} {cb : Nat} (h : PM w b S ns cs A n ca bm B cb) (hb : S b) (hk : ∀ k, S k → w'.heap[k]? = w.heap[k]?) : PM w' b S ns cs A n ca bm B cb := by
  obtain ⟨⟨x, h1⟩, h2, h3, h4, s1, s2, s3⟩ := h
  exact ⟨⟨x, h1.keep (hk b hb)⟩, own_keep h2 fun g e => hk g (s1 g e), own_keep h3 fun g e => hk g (s2 g e), h4.keep (hk bm s3), s1, s2, s3⟩
theorem PT.keep {S : Nat → Prop} {w w' : World} {b : Nat} {l ns : List ByteArray} {cs : List Int} (h : PT S w b l ns cs) (hk : ∀ k, S k → w'.heap[k]? = w.heap[k]?) (hz : w.heap.size ≤ w'.heap.size) : PT S w' b l ns cs := by
  obtain ⟨h1, h2, hs, h3, h4, h5⟩ := h
  refine ⟨h1, h2, hs, h3, fun k hk => Nat.lt_of_lt_of_le (h4 k hk) hz, ?_⟩
  rcases h5 with ⟨h5, h6⟩ | ⟨A, n, ca, bm, B, cb, h5⟩
  · exact .inl ⟨h5.keep h3 hk, h6⟩
  · exact .inr ⟨A, n, ca, bm, B, cb, h5.keep h3 hk⟩
/-- what others do leaves it as it is -/
theorem PT.off {S T : Nat → Prop} {w w' : World} {b : Nat} {l ns : List ByteArray} {cs : List Int} (h : PT S w b l ns cs) (ho : Off T w w') (hT : ∀ k, S k → ¬ T k) : PT S w' b l ns cs := h.keep (fun k hk => ho.block k (h.lt k hk) (hT k hk)) ho.size
theorem PT.next {S : Nat → Prop} {w w' : World} {b : Nat} {l ns : List ByteArray} {cs : List Int} (h : PT S w b l ns cs) (ho : Below w.heap.size w w') : PT S w' b l ns cs := h.keep (fun k hk => ho.block k (h.lt k hk)) ho.size
theorem PT.len {S : Nat → Prop} {w : World} {b : Nat} {l ns : List ByteArray} {cs : List Int} (h : PT S w b l ns cs) : ns.length = cs.length ∧ ns.length ≤ 900 := by
  have h1 := h.names
  have h2 := h.few
  have h3 := newT_len l
  refine ⟨?_, by rw [h1]; omega⟩
  rcases h.is with ⟨_, h6⟩ | ⟨A, n, ca, bm, B, cb, h5⟩
  · rw [h6, List.length_replicate]
  · have e1 := h5.nm.1
    have e2 := h5.ct.1
    rw [tvs_length] at e1
    rw [ivs_length] at e2
    omega
end Go.Proofs.YtkkmjoadhjnldaaDoor
