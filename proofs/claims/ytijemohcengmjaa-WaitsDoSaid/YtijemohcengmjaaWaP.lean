/-
  Who waits: plain mathematics of rows of numbers.
-/
import Derived.Test.YtijemohcengmjaaRowN
namespace Go.Proofs.Ytijemohcengmjaa
open Go.RowKit

/-- where one stands in a row; -1: nowhere -/
def atW (x : Int) (l : List Int) : Int := if x ∈ l then (l.idxOf x : Nat) else -1
theorem atW_at {l : List Int} {x : Int} {k : Nat} (hk : k < l.length) (hne : ∀ j (hj : j < l.length), j < k → l[j] ≠ x) (he : l[k] = x) : atW x l = k := by
  have hm : x ∈ l := he ▸ List.getElem_mem hk
  have hi := List.idxOf_lt_length_of_mem hm
  have hg : l[l.idxOf x] = x := List.getElem_idxOf hi
  unfold atW
  rw [if_pos hm]
  rcases Nat.lt_trichotomy (l.idxOf x) k with h | h | h
  · exact absurd hg (hne _ hi h)
  · rw [h]
  · have := List.not_of_lt_findIdx (p := (· == x)) (xs := l) h
    simp [he] at this
theorem atW_none {l : List Int} {x : Int} (h : ∀ y ∈ l, y ≠ x) : atW x l = -1 := by
  unfold atW
  rw [if_neg fun hm => h x hm rfl]
theorem atW_mem {l : List Int} {x : Int} : 0 ≤ atW x l ↔ x ∈ l := by
  unfold atW
  split
  · simp_all
  · simp_all
theorem atW_not {l : List Int} {x : Int} (h : x ∉ l) : atW x l = -1 := if_neg h
theorem atW_ge (x : Int) (l : List Int) : -1 ≤ atW x l := by
  unfold atW
  split <;> omega
theorem atW_is {l : List Int} {x : Int} {i : Nat} (h : atW x l = i) : ∃ h : i < l.length, l[i] = x := by
  unfold atW at h
  split at h
  · rename_i hm
    obtain rfl : l.idxOf x = i := by omega
    exact ⟨List.idxOf_lt_length_of_mem hm, List.getElem_idxOf _⟩
  · omega
theorem atW_self {l : List Int} (h : l.Nodup) {i : Nat} (hi : i < l.length) : atW l[i] l = i :=
  atW_at hi (fun j hj hji e => by have := (List.getElem_inj h).1 e; omega) rfl

/-- one comes: what is answered, and the row behind it -/
def putW (m : Int) (x : Int) (l : List Int) : Int × List Int := if 0 ≤ atW x l then (7, l) else if m ≤ l.length then (5, l) else (0, l ++ [x])
/-- the first one goes -/
def takeW (l : List Int) : Value := .tuple #[.int .i64 (l.headD 0), .bool (decide (l ≠ []))]
/-- one goes -/
def dropW (x : Int) (l : List Int) : List Int := l.erase x
theorem dropW_at {l : List Int} {x : Int} {i : Nat} (h : atW x l = i) : dropW x l = l.take i ++ l.drop (i + 1) := by
  have hm : x ∈ l := atW_mem.1 (by omega)
  unfold atW at h
  rw [if_pos hm] at h
  obtain rfl : l.idxOf x = i := by omega
  unfold dropW
  rw [List.erase_eq_eraseIdx_of_idxOf rfl, List.eraseIdx_eq_take_drop_succ]
theorem dropW_not {l : List Int} {x : Int} (h : atW x l = -1) : dropW x l = l := List.erase_of_not_mem fun hm => by have := atW_mem.2 hm; omega
theorem putW_len {m x : Int} {l : List Int} (h : (l.length : Int) ≤ m) : ((putW m x l).2.length : Int) ≤ m := by
  unfold putW
  split
  · exact h
  split
  · exact h
  · simp; omega
theorem dropW_len (x : Int) (l : List Int) : (dropW x l).length ≤ l.length := (List.erase_sublist).length_le
theorem tail_len (l : List Int) : l.tail.length ≤ l.length := by simp

theorem putW_nodup {m x : Int} {l : List Int} (h : l.Nodup) : (putW m x l).2.Nodup := by
  unfold putW
  split
  · exact h
  split
  · exact h
  · rename_i h1 _
    refine List.nodup_append.2 ⟨h, by simp, fun a ha b hb => ?_⟩
    obtain rfl : b = x := by simpa using hb
    rintro rfl
    exact h1 (atW_mem.2 ha)
theorem dropW_nodup {x : Int} {l : List Int} (h : l.Nodup) : (dropW x l).Nodup := h.erase x
theorem tail_nodup {l : List Int} (h : l.Nodup) : l.tail.Nodup := h.sublist (List.tail_sublist l)
theorem dropW_kept {x : Int} {l : List Int} (h : l.Nodup) : dropW x l = l.filter (fun y => !(y == x)) := by
  unfold dropW
  rw [h.erase_eq_filter]
  rfl
theorem dropW_gone {x : Int} {l : List Int} (h : l.Nodup) : x ∉ dropW x l := h.not_mem_erase

/-- who all come, one behind the other, with room for so many -/
def allW (m : Int) (l : List Int) : List Int := l.foldl (fun a x => (putW m x a).2) []
theorem allW_next (m : Int) (l : List Int) (k : Nat) (hk : k < l.length) : allW m (l.take (k + 1)) = (putW m l[k] (allW m (l.take k))).2 := by
  unfold allW
  rw [List.take_succ_eq_append_getElem hk, List.foldl_append]
  rfl
theorem allW_nodup (m : Int) (l : List Int) : (allW m l).Nodup := by
  unfold allW
  suffices h : ∀ a : List Int, a.Nodup → (l.foldl (fun a x => (putW m x a).2) a).Nodup from h [] List.nodup_nil
  induction l with
  | nil => intro a ha; exact ha
  | cons x l ih => intro a ha; exact ih _ (putW_nodup ha)
theorem putW_len1 (m x : Int) (l : List Int) : (putW m x l).2.length ≤ l.length + 1 := by
  unfold putW
  split
  · exact Nat.le_succ _
  split
  · exact Nat.le_succ _
  · simp
theorem allW_len (m : Int) (l : List Int) : (allW m l).length ≤ l.length := by
  unfold allW
  suffices h : ∀ a : List Int, (l.foldl (fun a x => (putW m x a).2) a).length ≤ a.length + l.length from by simpa using h []
  induction l with
  | nil => intro a; simp
  | cons x l ih =>
    intro a
    have h1 := ih (putW m x a).2
    have h2 := putW_len1 m x a
    simp only [List.foldl_cons, List.length_cons]
    omega
/-- one that comes, and others that don't wait by the same number -/
theorem putW_dropped {m x y : Int} {a : List Int} (hm : (a.length : Int) < m) : dropW y (putW m x a).2 = if x = y then dropW y a else (putW m x (dropW y a)).2 := by
  have hle := dropW_len y a
  by_cases hxy : x = y
  · subst hxy
    rw [if_pos rfl]
    unfold putW
    split
    · rfl
    · rename_i h1
      rw [if_neg (by omega)]
      have hn : x ∉ a := fun h => h1 (atW_mem.2 h)
      show (a ++ [x]).erase x = a.erase x
      rw [List.erase_append_right _ hn, List.erase_of_not_mem hn]
      simp
  · rw [if_neg hxy]
    have hiff : x ∈ dropW y a ↔ x ∈ a := List.mem_erase_of_ne hxy
    unfold putW
    by_cases h1 : x ∈ a
    · rw [if_pos (atW_mem.2 h1), if_pos (atW_mem.2 (hiff.2 h1))]
    · rw [if_neg (fun h => h1 (atW_mem.1 h)), if_neg (fun h => h1 (hiff.1 (atW_mem.1 h))), if_neg (by omega), if_neg (by omega)]
      show (a ++ [x]).erase y = a.erase y ++ [x]
      by_cases hy : y ∈ a
      · exact List.erase_append_left _ hy
      · rw [List.erase_append_right _ hy, List.erase_of_not_mem hy, List.erase_of_not_mem (by simpa using fun e => hxy e.symm)]
end Go.Proofs.Ytijemohcengmjaa
