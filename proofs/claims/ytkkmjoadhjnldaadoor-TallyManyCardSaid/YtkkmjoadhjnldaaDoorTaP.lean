/-
  Tallies: names, each once, a count of each: plain functions, and how rows of numbers lie in memory (no function of the program is named here).
-/
import Derived.Test.YtkkmjoadhjnldaaDoorPlR
import Derived.Test.YtkkmjoadhjnldaaDoorBel
import Derived.Lib.ItoaNum
import Derived.OneCell
namespace Go.Proofs.YtkkmjoadhjnldaaDoor
open Go.RowKit
set_option maxRecDepth 100000

/-- where a name stands; below 0: it isn't there -/
def placeT (s : ByteArray) : List ByteArray → Int
  | [] => -1
  | x :: r => if x = s then 0 else if placeT s r < 0 then -1 else placeT s r + 1
theorem placeT_ge (s : ByteArray) : ∀ ns, -1 ≤ placeT s ns
  | [] => by simp [placeT]
  | x :: r => by
    have := placeT_ge s r
    unfold placeT
    split
    · omega
    split <;> omega
theorem placeT_at {s : ByteArray} : ∀ {ns : List ByteArray} {i : Nat} (h : i < ns.length), (∀ j (hj : j < ns.length), j < i → ns[j] ≠ s) → ns[i] = s → placeT s ns = i
  | [], i, h, _, _ => by simp at h
  | x :: r, 0, _, _, e => by
    have e' : x = s := e
    simp [placeT, e']
  | x :: r, i + 1, h, hne, e => by
    have h0 : x ≠ s := hne 0 (by simp) (by omega)
    have ih := placeT_at (s := s) (ns := r) (i := i) (by simpa using h) (fun j hj hji => by have := hne (j + 1) (by simpa using hj) (by omega); exact this) e
    unfold placeT
    rw [if_neg h0, if_neg (by omega), ih]
    omega
theorem placeT_none {s : ByteArray} : ∀ {ns : List ByteArray}, (∀ x ∈ ns, x ≠ s) → placeT s ns = -1
  | [], _ => rfl
  | x :: r, h => by
    unfold placeT
    rw [if_neg (h x (by simp)), if_pos (by rw [placeT_none fun y hy => h y (List.mem_cons_of_mem _ hy)]; omega)]
theorem placeT_is {s : ByteArray} : ∀ {ns : List ByteArray} {i : Nat}, placeT s ns = i → ∃ h : i < ns.length, ns[i] = s
  | [], i, h => by simp [placeT] at h
  | x :: r, i, h => by
    unfold placeT at h
    split at h
    · rename_i e
      obtain rfl : i = 0 := by omega
      exact ⟨by simp, e⟩
    split at h
    · omega
    · cases i with
      | zero => rename_i h1 h2; omega
      | succ i =>
        obtain ⟨h1, h2⟩ := placeT_is (s := s) (ns := r) (i := i) (by omega)
        exact ⟨by simpa using h1, by simpa using h2⟩
theorem placeT_mem {s : ByteArray} {ns : List ByteArray} : placeT s ns < 0 ↔ s ∉ ns := by
  constructor
  · intro h hm
    induction ns with
    | nil => cases hm
    | cons x r ih =>
      unfold placeT at h
      by_cases e : x = s
      · rw [if_pos e] at h
        omega
      · rw [if_neg e] at h
        have hr : s ∈ r := (List.mem_cons.1 hm).resolve_left (fun h => e h.symm)
        split at h
        · rename_i h2; exact ih h2 hr
        · omega
  · intro h
    rw [placeT_none (s := s) (ns := ns) (fun x hx e => h (by rw [← e]; exact hx))]
    omega

def addN (acc : List ByteArray) (s : ByteArray) : List ByteArray := if placeT s acc < 0 then acc ++ [s] else acc
/-- the names of a new tally -/
def newT (l : List ByteArray) : List ByteArray := l.foldl addN []
theorem addN_len (acc : List ByteArray) (s : ByteArray) : (addN acc s).length ≤ acc.length + 1 := by
  unfold addN
  split <;> simp
theorem newT_next (l : List ByteArray) (k : Nat) (h : k < l.length) : newT (l.take (k + 1)) = addN (newT (l.take k)) l[k] := by
  unfold newT
  rw [List.take_succ_eq_append_getElem h, List.foldl_append]
  rfl

def wrapT (n : Int) : Int := wrap64 n
/-- a count is more, at a place -/
def moreT (cs : List Int) (i : Nat) (n : Int) : List Int := cs.set i (wrapT (cs.getD i 0 + n))
/-- a line -/
def lineT (s : ByteArray) (n : Int) : List UInt8 := s.data.toList ++ 32 :: Lib.itoa n
def linesT : List ByteArray → List Int → List (List UInt8)
  | s :: ns, n :: cs => if n = 0 then linesT ns cs else lineT s n :: linesT ns cs
  | _, _ => []

/-- numbers as cells -/
def ivs (l : List Int) : List Value := l.map (Value.int .i64)
theorem ivs_length (l : List Int) : (ivs l).length = l.length := by simp [ivs]
theorem ivs_append (a b : List Int) : ivs (a ++ b) = ivs a ++ ivs b := by simp [ivs]
theorem ivs_set (l : List Int) (i : Nat) (n : Int) : ivs (l.set i n) = (ivs l).set i (.int .i64 n) := by simp [ivs, List.map_set]
theorem ivs_one (l : List Int) : ∀ u ∈ ivs l, u.oneCell' = true := by
  intro u hu
  obtain ⟨b, _, rfl⟩ := List.mem_map.1 hu
  rfl
theorem cells2t {w : World} {b : Nat} {x y : Value} {t : TypeId} (h : w.heap[b]? = some (.cells #[x, y] t (0, 0))) :
    w.cell? ⟨b, 0, none⟩ = some x ∧ w.cell? ⟨b, 1, none⟩ = some y ∧ w.frozen? ⟨b, 0, none⟩ = false ∧ w.frozen? ⟨b, 1, none⟩ = false := by
  refine ⟨?_, ?_, ?_, ?_⟩
  · rw [cell_of_row _ _ 0 #[x, y] t (0, 0) h]; rfl
  · rw [cell_of_row _ _ 1 #[x, y] t (0, 0) h]; rfl
  · simp [World.frozen?, h]
  · simp [World.frozen?, h]
/-- a cell of a row of the call's own is written -/
theorem own_set {w : World} {base n c : Nat} {e : TypeId} {g : Nat} {xs : List Value} (h : w.ownsRow base e 1 (.slice (some ⟨g, 0, none⟩) n c) n xs) (i : Nat) (v : Value) : (w.setCell ⟨g, i, none⟩ v).ownsRow base e 1 (.slice (some ⟨g, 0, none⟩) n c) n (xs.set i v) := by
  refine ⟨by rw [List.length_set]; exact h.1, ?_⟩
  rcases h.2 with ⟨h1, _⟩ | ⟨g', cap, cur, h1, hb, hg, hc, hm, hs, ht⟩
  · cases h1
  · injection h1 with h1 h2 h3
    injection h1 with h1
    injection h1 with h1 h4 h5
    subst h1 h3
    refine .inr ⟨g, c, cur.set! i v, rfl, hb, heap_setCell_same w g i cur e v hg, hc, hm, by simpa using hs, ?_⟩
    rw [← ht]
    simp [Array.set!_eq_setIfInBounds, List.take_set]
end Go.Proofs.YtkkmjoadhjnldaaDoor
