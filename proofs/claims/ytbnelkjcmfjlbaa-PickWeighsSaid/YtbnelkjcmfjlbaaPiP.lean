/-
  Weights and draws, plain (no function of the program is named here).
-/
import Derived.Test.YtbnelkjcmfjlbaaRowN
namespace Go.Proofs.Ytbnelkjcmfjlbaa
open Go.RowKit
set_option maxRecDepth 100000

/-- all together -/
def sumW : List Int → Int
  | [] => 0
  | x :: r => x + sumW r
/-- the first place whose weight, and those ahead of it, are together more; below 0: there is none -/
def pickAt : Int → List Int → Int
  | _, [] => -1
  | d, x :: r => if d < x then 0 else if pickAt (d - x) r < 0 then -1 else pickAt (d - x) r + 1
def pickW (l : List Int) (draw : Int) : Int := if sumW l = 0 then -1 else pickAt (draw % sumW l) l
def rightW (l : List Int) : Bool := l.all (fun x => decide (0 ≤ x ∧ x ≤ 100)) && decide (l.length ≤ 6)
/-- the weights of those that may be -/
def onlyW : List Int → List Bool → List Int
  | [], _ => []
  | _ :: r, [] => 0 :: onlyW r []
  | x :: r, b :: bs => (bif b then x else 0) :: onlyW r bs
theorem sumW_nonneg : ∀ {l : List Int}, (∀ x ∈ l, 0 ≤ x) → 0 ≤ sumW l
  | [], _ => Int.le_refl _
  | x :: r, h => by
    have h1 := h x (by simp)
    have h2 := sumW_nonneg (l := r) fun y hy => h y (List.mem_cons_of_mem _ hy)
    show 0 ≤ x + sumW r
    omega
theorem sumW_le : ∀ {l : List Int} {c : Int}, (∀ x ∈ l, x ≤ c) → sumW l ≤ l.length * c
  | [], _, _ => by simp [sumW]
  | x :: r, c, h => by
    have h1 := h x (by simp)
    have h2 := sumW_le (l := r) (c := c) fun y hy => h y (List.mem_cons_of_mem _ hy)
    show x + sumW r ≤ ((r.length + 1 : Nat) : Int) * c
    have : ((r.length + 1 : Nat) : Int) * c = r.length * c + c := by
      rw [Int.natCast_add, Int.add_mul]
      simp
    omega
theorem pickAt_ge : ∀ (d : Int) (l : List Int), -1 ≤ pickAt d l
  | _, [] => Int.le_refl _
  | d, x :: r => by
    have := pickAt_ge (d - x) r
    unfold pickAt
    split
    · omega
    split <;> omega
/-- a draw below the sum picks a place, and it weighs something -/
theorem pickAt_is : ∀ {l : List Int} {d : Int}, 0 ≤ d → d < sumW l → ∃ i : Nat, ∃ h : i < l.length, pickAt d l = i ∧ 0 < l[i]
  | [], d, h0, h1 => by simp only [sumW] at h1; omega
  | x :: r, d, h0, h1 => by
    unfold pickAt
    by_cases hx : d < x
    · refine ⟨0, by simp, by rw [if_pos hx]; rfl, ?_⟩
      simp only [List.getElem_cons_zero]
      omega
    · simp only [sumW] at h1
      obtain ⟨i, hi, he, hp⟩ := pickAt_is (l := r) (d := d - x) (by omega) (by omega)
      refine ⟨i + 1, by simpa using hi, ?_, by simpa using hp⟩
      rw [if_neg hx, if_neg (by omega), he]
      omega
theorem pickW_is {l : List Int} (h : ∀ x ∈ l, 0 ≤ x) (hs : sumW l ≠ 0) (d : Int) : ∃ i : Nat, ∃ h : i < l.length, pickW l d = i ∧ 0 < l[i] := by
  have h0 := sumW_nonneg h
  unfold pickW
  rw [if_neg hs]
  exact pickAt_is (Int.emod_nonneg _ hs) (Int.emod_lt_of_pos _ (by omega))
/-- how many of some numbers, one behind the other, are so -/
def cntI (f : Int → Bool) : Int → Nat → Nat
  | _, 0 => 0
  | a, n + 1 => (bif f a then 1 else 0) + cntI f (a + 1) n
theorem cntI_add (f : Int → Bool) : ∀ (n m : Nat) (a : Int), cntI f a (n + m) = cntI f a n + cntI f (a + n) m
  | 0, m, a => by simp [cntI]
  | n + 1, m, a => by
    have h := cntI_add f n m (a + 1)
    have e : n + 1 + m = (n + m) + 1 := by omega
    have e2 : a + 1 + (n : Int) = a + ((n + 1 : Nat) : Int) := by omega
    rw [e]
    show _ + cntI f (a + 1) (n + m) = (_ + cntI f (a + 1) n) + _
    rw [h, e2]
    omega
theorem cntI_next (f : Int → Bool) (a : Int) (n : Nat) : cntI f a (n + 1) = cntI f a n + (bif f (a + n) then 1 else 0) := by
  rw [cntI_add f n 1 a]
  rfl
theorem cntI_congr {f g : Int → Bool} : ∀ (n : Nat) (a b : Int), (∀ t : Nat, t < n → f (a + t) = g (b + t)) → cntI f a n = cntI g b n
  | 0, _, _, _ => rfl
  | n + 1, a, b, h => by
    have h0 := h 0 (by omega)
    simp only [Int.natCast_zero, Int.add_zero] at h0
    unfold cntI
    rw [h0, cntI_congr n (a + 1) (b + 1) fun t ht => by
      have := h (t + 1) (by omega)
      have e1 : a + 1 + (t : Int) = a + ((t + 1 : Nat) : Int) := by omega
      have e2 : b + 1 + (t : Int) = b + ((t + 1 : Nat) : Int) := by omega
      rw [e1, e2]
      exact this]
theorem cntI_all {f : Int → Bool} : ∀ (n : Nat) (a : Int), (∀ t : Nat, t < n → f (a + t) = true) → cntI f a n = n
  | 0, _, _ => rfl
  | n + 1, a, h => by
    have h0 := h 0 (by omega)
    simp only [Int.natCast_zero, Int.add_zero] at h0
    unfold cntI
    rw [h0, cntI_all n (a + 1) fun t ht => by
      have := h (t + 1) (by omega)
      have e1 : a + 1 + (t : Int) = a + ((t + 1 : Nat) : Int) := by omega
      rw [e1]
      exact this]
    simp only [cond_true]
    omega
theorem cntI_none {f : Int → Bool} : ∀ (n : Nat) (a : Int), (∀ t : Nat, t < n → f (a + t) = false) → cntI f a n = 0
  | 0, _, _ => rfl
  | n + 1, a, h => by
    have h0 := h 0 (by omega)
    simp only [Int.natCast_zero, Int.add_zero] at h0
    unfold cntI
    rw [h0, cntI_none n (a + 1) fun t ht => by
      have := h (t + 1) (by omega)
      have e1 : a + 1 + (t : Int) = a + ((t + 1 : Nat) : Int) := by omega
      rw [e1]
      exact this]
    rfl
/-- of the numbers below the sum each place is picked as often as it weighs -/
theorem cnt_pickAt : ∀ {l : List Int}, (∀ x ∈ l, 0 ≤ x) → ∀ (j : Nat) (hj : j < l.length), (cntI (fun d => pickAt d l == (j : Int)) 0 (sumW l).toNat : Int) = l[j]
  | [], _, j, hj => by simp at hj
  | x :: r, h, j, hj => by
    have hx := h x (by simp)
    have hr : ∀ y ∈ r, 0 ≤ y := fun y hy => h y (List.mem_cons_of_mem _ hy)
    have hs := sumW_nonneg hr
    have e : (sumW (x :: r)).toNat = x.toNat + (sumW r).toNat := by
      show (x + sumW r).toNat = _
      omega
    rw [e, cntI_add]
    cases j with
    | zero =>
      rw [cntI_all x.toNat 0 fun t ht => by
        show (pickAt (0 + (t : Int)) (x :: r) == ((0 : Nat) : Int)) = true
        unfold pickAt
        rw [if_pos (by omega)]
        rfl]
      rw [cntI_none (sumW r).toNat (0 + (x.toNat : Int)) fun t ht => by
        show (pickAt (0 + (x.toNat : Int) + (t : Int)) (x :: r) == ((0 : Nat) : Int)) = false
        unfold pickAt
        rw [if_neg (by omega)]
        have := pickAt_ge (0 + (x.toNat : Int) + (t : Int) - x) r
        split
        · rfl
        · exact beq_eq_false_iff_ne.2 (by omega)]
      simp only [List.getElem_cons_zero]
      omega
    | succ j =>
      have hj' : j < r.length := by simpa using hj
      rw [cntI_none x.toNat 0 fun t ht => by
        show (pickAt (0 + (t : Int)) (x :: r) == ((j + 1 : Nat) : Int)) = false
        unfold pickAt
        rw [if_pos (by omega)]
        simp
        omega]
      rw [cntI_congr (g := fun d => pickAt d r == (j : Int)) (sumW r).toNat (0 + (x.toNat : Int)) 0 fun t ht => by
        show (pickAt (0 + (x.toNat : Int) + (t : Int)) (x :: r) == ((j + 1 : Nat) : Int)) = (pickAt (0 + (t : Int)) r == (j : Int))
        have e1 : 0 + (x.toNat : Int) + (t : Int) - x = 0 + (t : Int) := by omega
        conv => lhs; unfold pickAt
        rw [if_neg (by omega), e1]
        have := pickAt_ge (0 + (t : Int)) r
        split
        · have h1 : (pickAt (0 + (t : Int)) r == (j : Int)) = false := beq_eq_false_iff_ne.2 (by omega)
          rw [h1]
          exact beq_eq_false_iff_ne.2 (by omega)
        · rw [Bool.eq_iff_iff, beq_iff_eq, beq_iff_eq]
          omega]
      have := cnt_pickAt hr j hj'
      simp only [List.getElem_cons_succ]
      omega
/-- of as many draws as the sum says, one behind the other, each place is picked as often as it weighs -/
theorem cnt_pickW {l : List Int} (h : ∀ x ∈ l, 0 ≤ x) (draw : Int) (j : Nat) (hj : j < l.length) : (cntI (fun d => pickW l d == (j : Int)) draw (sumW l).toNat : Int) = l[j] := by
  have h0 := sumW_nonneg h
  have hc := cnt_pickAt h j hj
  by_cases hs : sumW l = 0
  · rw [hs] at hc ⊢
    exact hc
  have ha0 := Int.emod_nonneg draw hs
  have ha1 := Int.emod_lt_of_pos draw (show 0 < sumW l by omega)
  rw [← hc]
  have hp : ∀ d, pickW l d = pickAt (d % sumW l) l := fun d => by unfold pickW; rw [if_neg hs]
  obtain ⟨a, ha⟩ : ∃ a, draw % sumW l = a := ⟨_, rfl⟩
  rw [ha] at ha0 ha1
  have hm : ∀ t : Int, (draw + t) % sumW l = (a + t) % sumW l := fun t => by rw [← ha, Int.emod_add_emod]
  have e1 : (sumW l).toNat = (sumW l - a).toNat + a.toNat := by omega
  have e2 : (sumW l).toNat = a.toNat + (sumW l - a).toNat := by omega
  have k1 : cntI (fun d => pickW l d == (j : Int)) draw (sumW l).toNat = cntI (fun d => pickAt d l == (j : Int)) a (sumW l - a).toNat + cntI (fun d => pickAt d l == (j : Int)) 0 a.toNat := by
    rw [e1, cntI_add]
    congr 1
    · refine cntI_congr _ _ _ fun t ht => ?_
      show (pickW l (draw + (t : Int)) == _) = (pickAt (a + (t : Int)) l == _)
      rw [hp, hm, Int.emod_eq_of_lt (by omega) (by omega)]
    · refine cntI_congr _ _ _ fun t ht => ?_
      show (pickW l (draw + ((sumW l - a).toNat : Int) + (t : Int)) == _) = (pickAt (0 + (t : Int)) l == _)
      have e3 : draw + ((sumW l - a).toNat : Int) + (t : Int) = draw + (((sumW l - a).toNat : Int) + (t : Int)) := by omega
      have e4 : a + (((sumW l - a).toNat : Int) + (t : Int)) = t + sumW l := by omega
      rw [hp, e3, hm, e4, Int.add_emod_right, Int.emod_eq_of_lt (by omega) (by omega), Int.zero_add]
  have k2 : cntI (fun d => pickAt d l == (j : Int)) 0 (sumW l).toNat = cntI (fun d => pickAt d l == (j : Int)) 0 a.toNat + cntI (fun d => pickAt d l == (j : Int)) a (sumW l - a).toNat := by
    rw [e2, cntI_add]
    congr 2
    omega
  rw [k1, k2]
  omega
theorem onlyW_length : ∀ (l : List Int) (may : List Bool), (onlyW l may).length = l.length
  | [], _ => rfl
  | _ :: r, [] => by simp [onlyW, onlyW_length r []]
  | _ :: r, _ :: bs => by simp [onlyW, onlyW_length r bs]
theorem onlyW_at : ∀ (l : List Int) (may : List Bool) (i : Nat) (h : i < l.length), (onlyW l may)[i]'(by rw [onlyW_length]; exact h) = if may.getD i false = true then l[i] else 0
  | [], _, i, h => by simp at h
  | x :: r, [], 0, _ => by simp [onlyW]
  | x :: r, [], i + 1, h => by
    have := onlyW_at r [] i (by simpa using h)
    simpa [onlyW] using this
  | x :: r, b :: bs, 0, _ => by cases b <;> simp [onlyW]
  | x :: r, b :: bs, i + 1, h => by
    have := onlyW_at r bs i (by simpa using h)
    simpa [onlyW] using this
theorem onlyW_nonneg {l : List Int} (h : ∀ x ∈ l, 0 ≤ x) (may : List Bool) : ∀ x ∈ onlyW l may, 0 ≤ x := fun x hx => by
  obtain ⟨i, hi, rfl⟩ := List.getElem_of_mem hx
  have hi' : i < l.length := by rwa [onlyW_length] at hi
  rw [onlyW_at l may i hi']
  split
  · exact h _ (List.getElem_mem _)
  · exact Int.le_refl _
/-- nobody weighs anything -/
theorem sumW_zero : ∀ {l : List Int}, (∀ x ∈ l, 0 ≤ x) → sumW l = 0 → ∀ x ∈ l, x = 0
  | [], _, _ => by simp
  | x :: r, h, hs => fun y hy => by
    have h1 := h x (by simp)
    have hr : ∀ y ∈ r, 0 ≤ y := fun y hy => h y (List.mem_cons_of_mem _ hy)
    have h2 := sumW_nonneg hr
    simp only [sumW] at hs
    rcases List.mem_cons.1 hy with rfl | hy
    · omega
    · exact sumW_zero hr (by omega) y hy
end Go.Proofs.Ytbnelkjcmfjlbaa
