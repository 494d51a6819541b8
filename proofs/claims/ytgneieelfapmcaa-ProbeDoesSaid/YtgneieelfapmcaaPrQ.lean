/-
  A plan of probes, plain: what Tick has done when so many nodes are over.
-/
import Derived.Test.YtgneieelfapmcaaPrP
namespace Go.Proofs.Ytgneieelfapmcaa
open Go.RowKit
set_option maxRecDepth 100000

theorem lateF_snoc (la now : Int) (x : Nw) : ∀ (b : Nat) (l : List Nw), lateF la now b (l ++ [x]) = lateF la now b l ++ (if lateB la now x = true then [((b + l.length : Nat) : Int)] else [])
  | b, [] => by
    simp only [List.nil_append, lateF, List.length_nil, Nat.add_zero]
  | b, y :: r => by
    have := lateF_snoc la now x (b + 1) r
    have e : b + 1 + r.length = b + (r.length + 1) := by omega
    simp only [List.cons_append, lateF, List.length_cons]
    rw [this, e]
    split <;> simp
theorem cntF_snoc (now : Int) (x : Nw) (l : List Nw) : cntF now (l ++ [x]) = cntF now l + (if askB now x = true then 1 else 0) := by
  unfold cntF
  rw [List.filter_append, List.length_append]
  by_cases h : askB now x = true
  · simp [h]
  · simp [h]
theorem askF_snoc (now : Int) (x : Nw) : ∀ (n : Int) (b : Nat) (l : List Nw), askF now n b (l ++ [x]) = askF now n b l ++ (if askB now x = true then [(((b + l.length : Nat) : Int), n + cntF now l + 1)] else [])
  | n, b, [] => by
    simp only [List.nil_append, askF, List.length_nil, Nat.add_zero, cntF]
    split <;> simp
  | n, b, y :: r => by
    have e : b + 1 + r.length = b + (r.length + 1) := by omega
    simp only [List.cons_append, askF, List.length_cons, cntF_cons]
    by_cases hy : askB now y = true
    · have := askF_snoc now x (n + 1) (b + 1) r
      rw [if_pos hy, if_pos hy, if_pos hy, this, e]
      by_cases hx : askB now x = true
      · rw [if_pos hx, if_pos hx]
        simp only [List.cons_append]
        congr 4
        omega
      · rw [if_neg hx, if_neg hx]
        simp
    · have := askF_snoc now x n (b + 1) r
      rw [if_neg hy, if_neg hy, if_neg hy, this, e]
      by_cases hx : askB now x = true
      · rw [if_pos hx, if_pos hx]
        congr 4
        omega
      · rw [if_neg hx, if_neg hx]
theorem runF_snoc (ev now : Int) (x : Nw) : ∀ (n : Int) (l : List Nw), runF ev now n (l ++ [x]) = runF ev now n l ++ [if askB now x = true then ⟨now + ev, n + cntF now l + 1, now⟩ else x]
  | n, [] => by
    simp only [List.nil_append, runF, cntF]
    split <;> simp
  | n, y :: r => by
    simp only [List.cons_append, runF, cntF_cons]
    by_cases hy : askB now y = true
    · have := runF_snoc ev now x (n + 1) r
      have e1 : n + 1 + cntF now r = n + (1 + cntF now r) := by omega
      rw [if_pos hy, if_pos hy, if_pos hy, this, e1]
      rfl
    · have := runF_snoc ev now x n r
      have e1 : n + cntF now r = n + (0 + cntF now r) := by omega
      rw [if_neg hy, if_neg hy, if_neg hy, this, e1]
      rfl
/-- the nodes, when so many were looked at for who is late -/
def midL (la now : Int) (l : List Nw) (j : Nat) : List Nw := (l.take j).map (dropN la now) ++ l.drop j
theorem midL_length (la now : Int) (l : List Nw) (j : Nat) : (midL la now l j).length = l.length := by simp [midL]; omega
theorem midL_at {la now : Int} {l : List Nw} {j : Nat} (h : j < l.length) : (midL la now l j)[j]'(by rw [midL_length]; exact h) = l[j] := by
  unfold midL
  rw [List.getElem_append_right (by simp; omega)]
  simp
  congr 1
  omega
theorem midL_next {la now : Int} {l : List Nw} {j : Nat} (h : j < l.length) : midL la now l (j + 1) = (midL la now l j).set j (dropN la now l[j]) := by
  unfold midL
  rw [List.set_append, if_neg (show ¬ j < ((l.take j).map (dropN la now)).length by simp; omega), List.take_succ_eq_append_getElem h, List.drop_eq_getElem_cons h]
  have e : j - ((l.take j).map (dropN la now)).length = 0 := by simp; omega
  rw [e, List.map_append, List.append_assoc]
  rfl
theorem midL_done (la now : Int) (l : List Nw) : midL la now l l.length = l.map (dropN la now) := by simp [midL]
theorem midL_zero (la now : Int) (l : List Nw) : midL la now l 0 = l := by simp [midL]
/-- when so many were looked at for who is due -/
def midR (ev now n : Int) (l : List Nw) (j : Nat) : List Nw := runF ev now n (l.take j) ++ l.drop j
theorem midR_length (ev now n : Int) (l : List Nw) (j : Nat) : (midR ev now n l j).length = l.length := by simp [midR, runF_length]; omega
theorem midR_at {ev now n : Int} {l : List Nw} {j : Nat} (h : j < l.length) : (midR ev now n l j)[j]'(by rw [midR_length]; exact h) = l[j] := by
  have hm : (runF ev now n (l.take j)).length = j := by rw [runF_length]; simp; omega
  unfold midR
  rw [List.getElem_append_right (by omega)]
  simp
  congr 1
  omega
theorem midR_next {ev now n : Int} {l : List Nw} {j : Nat} (h : j < l.length) : midR ev now n l (j + 1) = (midR ev now n l j).set j (if askB now l[j] = true then ⟨now + ev, n + cntF now (l.take j) + 1, now⟩ else l[j]) := by
  have hm : (runF ev now n (l.take j)).length = j := by rw [runF_length]; simp; omega
  unfold midR
  rw [List.set_append, if_neg (by omega), List.take_succ_eq_append_getElem h, List.drop_eq_getElem_cons h, runF_snoc, hm, Nat.sub_self, List.append_assoc]
  rfl
theorem midR_done (ev now n : Int) (l : List Nw) : midR ev now n l l.length = runF ev now n l := by simp [midR]
theorem midR_zero (ev now n : Int) (l : List Nw) : midR ev now n l 0 = l := by simp [midR, runF]
theorem set_self {l : List Nw} {j : Nat} (h : j < l.length) : l.set j l[j] = l := List.set_getElem_self h
theorem lateF_length (la now : Int) : ∀ (b : Nat) (l : List Nw), (lateF la now b l).length ≤ l.length
  | _, [] => Nat.le_refl _
  | b, x :: r => by
    have := lateF_length la now (b + 1) r
    unfold lateF
    split <;> simp <;> omega
theorem askF_length (now : Int) : ∀ (n : Int) (b : Nat) (l : List Nw), ((askF now n b l).length : Int) = cntF now l
  | _, _, [] => rfl
  | n, b, x :: r => by
    unfold askF
    rw [cntF_cons]
    by_cases h : askB now x = true
    · have := askF_length now (n + 1) (b + 1) r
      rw [if_pos h, if_pos h]
      simp
      omega
    · have := askF_length now n (b + 1) r
      rw [if_neg h, if_neg h]
      omega
end Go.Proofs.Ytgneieelfapmcaa
