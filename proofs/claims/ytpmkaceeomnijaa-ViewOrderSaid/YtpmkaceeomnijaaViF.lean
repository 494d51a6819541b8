/-
  What the landed view keeps of the promotions, plain: of their cuts those that no later one makes needless (no function of the program is named here).
-/
import Derived.Test.YtpmkaceeomnijaaViP
namespace Go.Proofs.Ytpmkaceeomnijaa
open Go.RowKit
set_option maxRecDepth 100000

/-- what is kept tells the same of each token, and rises -/
structure Vk14 (v : Vw) (l : List (Int × Int)) : Prop where
  eq : ∀ t x, leftF t l x = leftF t v.l x
  ris : List.Pairwise (fun a b => a.1 < b.1 ∧ a.2 < b.2) l
  sub : ∀ c ∈ l, c ∈ v.l
  len : l.length ≤ v.l.length
theorem Vk14.nil (pr : Int) : Vk14 (newVw pr) [] := ⟨fun _ _ => rfl, List.Pairwise.nil, fun _ h => h, Nat.le_refl _⟩
theorem leftF_two (t : Int) : ∀ (a b : List (Int × Int)) (x : Int), leftF t (a ++ b) x = leftF t b (leftF t a x)
  | [], _, _ => rfl
  | _ :: a, b, _ => leftF_two t a b _
/-- a cut ahead of which greater ones are let go -/
theorem leftF_forget (t : Int) (a d : List (Int × Int)) (e c x : Int) (hd : ∀ y ∈ d, c ≤ y.2) (h : (∀ y ∈ d, y.1 ≤ t) ∨ t < e) : leftF t (a ++ [(e, c)]) x = leftF t (a ++ d ++ [(e, c)]) x := by
  rw [leftF_append, leftF_append, leftF_two t a d]
  obtain ⟨y, hy⟩ : ∃ y, leftF t a x = y := ⟨_, rfl⟩
  rw [hy]
  dsimp only
  rcases h with h | h
  · rw [leftF_no t d y h]
  · have hle := leftF_le t d y
    by_cases h1 : c < y
    · have h2 : c ≤ leftF t d y := leftF_lo t c d y (by omega) hd
      rw [if_pos ⟨h, h1⟩]
      by_cases h3 : c < leftF t d y
      · rw [if_pos ⟨h, h3⟩]
      · rw [if_neg fun q => h3 q.2]
        omega
    · have h2 : leftF t d y = y := (leftF_eq t d y).2 fun z hz _ => by have := hd z hz; omega
      rw [h2]
theorem Vk14.learn {k : Nat} {v : Vw} {l : List (Int × Int)} (h : Vk14 v l) (hv : VwI k v) (m : Pm) (hm : v.ep < m.e) {j : Nat} (hd : ∀ y ∈ l.drop j, m.c ≤ y.2) (ht : ∀ y ∈ l.take j, y.2 < m.c) : Vk14 (learnC v m) (l.take j ++ [(m.e, m.c)]) := by
  have hl : learnC v m = ⟨m.e, m.p, v.l ++ [(m.e, m.c)]⟩ := if_pos hm
  rw [hl]
  refine ⟨fun t x => ?_, ?_, fun c hc => ?_, ?_⟩
  · have h1 : leftF t (l.take j ++ [(m.e, m.c)]) x = leftF t (l ++ [(m.e, m.c)]) x := by
      have := leftF_forget t (l.take j) (l.drop j) m.e m.c x hd (by
        by_cases hte : t < m.e
        · exact .inr hte
        · exact .inl fun y hy => by
            have := (hv.at_ y (h.sub y (List.mem_of_mem_drop hy))).2.1
            omega)
      rwa [List.take_append_drop] at this
    rw [h1, leftF_append, leftF_append, h.eq]
  · refine List.pairwise_append.2 ⟨h.ris.sublist (List.take_sublist _ _), List.pairwise_singleton _ _, fun a ha b hb => ?_⟩
    obtain rfl := List.mem_singleton.1 hb
    have h1 := (hv.at_ a (h.sub a (List.mem_of_mem_take ha))).2.1
    have h2 := ht a ha
    exact ⟨show a.1 < m.e by omega, h2⟩
  · rcases List.mem_append.1 hc with hc | hc
    · exact List.mem_append_left _ (h.sub c (List.mem_of_mem_take hc))
    · exact List.mem_append_right _ hc
  · have := h.len
    simp only [List.length_append, List.length_take, List.length_cons, List.length_nil]
    omega
/-- the first cut that took a token is the least -/
theorem leftF_first (t x : Int) {l : List (Int × Int)} (hr : List.Pairwise (fun a b : Int × Int => a.1 < b.1 ∧ a.2 < b.2) l) {k : Nat} (hk : k < l.length) (h : t < l[k].1 ∧ l[k].2 < x) (hno : ∀ y ∈ l.take k, ¬ (t < y.1 ∧ y.2 < x)) : leftF t l x = l[k].2 := by
  have e : l = l.take k ++ l[k] :: l.drop (k + 1) := by rw [← List.drop_eq_getElem_cons hk, List.take_append_drop]
  have h1 : leftF t (l.take k) x = x := (leftF_eq t _ x).2 fun y hy ht => by have := hno y hy; omega
  have h2 : leftF t (l.drop (k + 1)) l[k].2 = l[k].2 := (leftF_eq t _ _).2 fun y hy _ => by
    have hp := hr
    rw [e] at hp
    have := (List.pairwise_cons.1 (List.pairwise_append.1 hp).2.1).1 y hy
    omega
  obtain ⟨c, hc⟩ : ∃ c, l[k] = c := ⟨_, rfl⟩
  rw [hc] at e h h2 ⊢
  rw [e, leftF_two, h1]
  show leftF t (l.drop (k + 1)) (if t < c.1 ∧ c.2 < x then c.2 else x) = c.2
  rw [if_pos h, h2]
/-- the cells of fewer cuts -/
theorem cuC_take : ∀ (l : List (Int × Int)) (k : Nat), (cuC l).take (k * 2) = cuC (l.take k)
  | [], k => by simp [cuC]
  | c :: cs, 0 => by simp [cuC]
  | c :: cs, k + 1 => by
    have := cuC_take cs k
    have e1 : (k + 1) * 2 = k * 2 + 2 := by omega
    rw [List.take_succ_cons]
    simp only [cuC, List.flatMap_cons] at this ⊢
    rw [e1]
    simpa using this
/-- a row that the call owns, cut at its end: the room stays -/
theorem own_take {w : World} {base n c : Nat} {e : TypeId} {A : Option Addr} {l : List (Int × Int)} (h : w.ownsRow base e 2 (.slice A n c) n (cuC l)) {k : Nat} (hk : k ≤ n) : w.ownsRow base e 2 (.slice A k c) k (cuC (l.take k)) := by
  have hl := h.1
  rw [cuC_length] at hl
  refine ⟨by rw [cuC_length, List.length_take]; omega, ?_⟩
  rcases h.2 with ⟨h1, h2⟩ | ⟨g, cap, cur, h1, h2, h3, h4, h5, h6, h7⟩
  · injection h1 with a b d
    subst a b d
    obtain rfl : k = 0 := by omega
    exact .inl ⟨rfl, rfl⟩
  · injection h1 with a _ d
    subst a d
    refine .inr ⟨g, c, cur, rfl, h2, h3, by omega, h5, h6, ?_⟩
    rw [← cuC_take, ← h7, List.take_take, Nat.min_eq_left (by omega)]
end Go.Proofs.Ytpmkaceeomnijaa
