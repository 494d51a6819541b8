/-
  A view, plain: tokens, promotions, what is left of a token (no function of the program is named here).
-/
import Derived.Test.YtpmkaceeomnijaaRowN
namespace Go.Proofs.Ytpmkaceeomnijaa
open Go.RowKit
set_option maxRecDepth 100000

structure Tk14 where
  e : Int
  p : Int
deriving DecidableEq
/-- a promotion: the epoch that it began, how many entries were left, who leads -/
structure Pm where
  e : Int
  c : Int
  p : Int
instance : Inhabited Pm := ⟨⟨0, 0, 0⟩⟩
/-- a view: the epoch, who leads, the cuts that were learned -/
structure Vw where
  ep : Int
  pr : Int
  l : List (Int × Int)
def Tk14.v (t : Tk14) : Value := .agg #[.int .u64 t.e, .int .u64 t.p]
def newVw (pr : Int) : Vw := ⟨1, pr, []⟩
def learnC (v : Vw) (m : Pm) : Vw := if v.ep < m.e then ⟨m.e, m.p, v.l ++ [(m.e, m.c)]⟩ else v
/-- the least of a place and the cuts behind an epoch -/
def leftF (t : Int) : List (Int × Int) → Int → Int
  | [], x => x
  | c :: cs, x => leftF t cs (if t < c.1 ∧ c.2 < x then c.2 else x)
def bringF (v : Vw) (t : Tk14) : Tk14 := if v.ep ≤ t.e then t else ⟨v.ep, leftF t.e v.l t.p⟩
def bringB (v : Vw) (t : Tk14) : Bool := decide (v.ep ≤ t.e ∨ leftF t.e v.l t.p = t.p)
def coversB (v : Vw) (t : Tk14) (e p : Int) : Bool := bringB v t && decide ((bringF v t).e = e ∧ (bringF v t).p ≤ p)
def laterF (a b : Tk14) : Tk14 := if b.e < a.e ∨ (a.e = b.e ∧ b.p < a.p) then a else b

theorem leftF_append (t : Int) : ∀ (l : List (Int × Int)) (c : Int × Int) (x : Int), leftF t (l ++ [c]) x = if t < c.1 ∧ c.2 < leftF t l x then c.2 else leftF t l x
  | [], _, _ => rfl
  | _ :: l, c, _ => leftF_append t l c _
theorem leftF_le (t : Int) : ∀ (l : List (Int × Int)) (x : Int), leftF t l x ≤ x
  | [], _ => Int.le_refl _
  | c :: cs, x => by
    have := leftF_le t cs (if t < c.1 ∧ c.2 < x then c.2 else x)
    unfold leftF
    split at this
    · rename_i h
      rw [if_pos h]
      omega
    · rename_i h
      rw [if_neg h]
      exact this
/-- a place that every cut leaves, and what a cut took -/
theorem leftF_eq (t : Int) : ∀ (l : List (Int × Int)) (x : Int), leftF t l x = x ↔ ∀ c ∈ l, t < c.1 → x ≤ c.2
  | [], _ => by simp [leftF]
  | c :: cs, x => by
    unfold leftF
    by_cases h : t < c.1 ∧ c.2 < x
    · rw [if_pos h]
      have := leftF_le t cs c.2
      constructor
      · intro e; omega
      · intro e
        have := e c (by simp) h.1
        omega
    · rw [if_neg h, leftF_eq t cs x]
      constructor
      · intro e d hd ht
        rcases List.mem_cons.1 hd with rfl | hd
        · have := fun h2 => h ⟨ht, h2⟩; omega
        · exact e d hd ht
      · intro e d hd ht
        exact e d (List.mem_cons_of_mem _ hd) ht
/-- nothing lies behind the epoch -/
theorem leftF_no (t : Int) (l : List (Int × Int)) (x : Int) (h : ∀ c ∈ l, c.1 ≤ t) : leftF t l x = x := (leftF_eq t l x).2 fun c hc ht => by have := h c hc; omega
theorem leftF_lo (t b : Int) : ∀ (l : List (Int × Int)) (x : Int), b ≤ x → (∀ c ∈ l, b ≤ c.2) → b ≤ leftF t l x
  | [], _, h, _ => h
  | c :: cs, x, h, hc => by
    unfold leftF
    refine leftF_lo t b cs _ ?_ fun d hd => hc d (List.mem_cons_of_mem _ hd)
    split
    · exact hc c (by simp)
    · exact h

/-- numbers as the program's kinds hold them -/
def IsI (i : Int) : Prop := -9223372036854775808 ≤ i ∧ i ≤ 9223372036854775807
def IsU (n : Int) : Prop := 0 ≤ n ∧ n < 18446744073709551616
/-- a view as it comes to be: its epochs rise, up to its own -/
structure VwI (k : Nat) (v : Vw) : Prop where
  e1 : 1 ≤ v.ep
  eu : IsU v.ep
  pi : IsI v.pr
  len : v.l.length ≤ k
  at_ : ∀ c ∈ v.l, 1 < c.1 ∧ c.1 ≤ v.ep ∧ IsU c.1 ∧ IsU c.2
  ris : List.Pairwise (fun a b => a.1 < b.1) v.l
  last : (v.l.getLast?.map Prod.fst).getD 1 = v.ep
theorem VwI.new {pr : Int} (h : IsI pr) : VwI 0 (newVw pr) := ⟨Int.le_refl _, ⟨(by decide : (0 : Int) ≤ 1), (by decide : (1 : Int) < 18446744073709551616)⟩, h, Nat.le_refl _, (fun _ h => nomatch h), List.Pairwise.nil, rfl⟩
theorem VwI.more {k k' : Nat} {v : Vw} (h : VwI k v) (hk : k ≤ k') : VwI k' v := { h with len := Nat.le_trans h.len hk }
theorem VwI.learn {k : Nat} {v : Vw} {m : Pm} (h : VwI k v) (he : IsU m.e) (hc : IsU m.c) (hp : IsI m.p) : VwI (k + 1) (learnC v m) := by
  unfold learnC
  by_cases hl : v.ep < m.e
  · rw [if_pos hl]
    have h1 := h.e1
    refine ⟨show 1 ≤ m.e by omega, he, hp, by simpa using h.len, fun c hm => ?_, ?_, by simp⟩
    · rcases List.mem_append.1 hm with hm | hm
      · obtain ⟨a, b, c', d⟩ := h.at_ c hm
        exact ⟨a, show c.1 ≤ m.e by omega, c', d⟩
      · obtain rfl := List.mem_singleton.1 hm
        exact ⟨show 1 < m.e by omega, Int.le_refl _, he, hc⟩
    · refine List.pairwise_append.2 ⟨h.ris, List.pairwise_singleton _ _, fun a ha b hb => ?_⟩
      obtain rfl := List.mem_singleton.1 hb
      have := (h.at_ a ha).2.1
      show a.1 < m.e
      omega
  · rw [if_neg hl]
    exact h.more (Nat.le_succ k)
theorem VwI.bring {k : Nat} {v : Vw} (h : VwI k v) {t : Tk14} (he : IsU t.e) (hp : IsU t.p) : IsU (bringF v t).e ∧ IsU (bringF v t).p := by
  unfold bringF
  split
  · exact ⟨he, hp⟩
  · refine ⟨h.eu, ?_, ?_⟩
    · exact leftF_lo _ _ _ _ hp.1 fun c hc => (h.at_ c hc).2.2.2.1
    · have := leftF_le t.e v.l t.p
      have := hp.2
      show leftF t.e v.l t.p < _
      omega
/-- what is left, brought up once more, stays -/
theorem bring_again (v : Vw) (t : Tk14) : bringF v (bringF v t) = bringF v t ∧ bringB v (bringF v t) = true := by
  unfold bringF
  by_cases h : v.ep ≤ t.e
  · rw [if_pos h, if_pos h]
    exact ⟨rfl, by unfold bringB; rw [decide_eq_true_iff]; exact .inl h⟩
  · rw [if_neg h]
    exact ⟨if_pos (Int.le_refl _), by unfold bringB; rw [decide_eq_true_iff]; exact .inl (Int.le_refl _)⟩
/-- of two of one epoch the later one is lost, if the other one is -/
theorem bring_order {v : Vw} {e a b : Int} (h : a ≤ b) (hb : bringB v ⟨e, b⟩ = true) : bringB v ⟨e, a⟩ = true := by
  unfold bringB at hb ⊢
  rw [decide_eq_true_iff] at hb ⊢
  rcases hb with hb | hb
  · exact .inl hb
  · exact .inr ((leftF_eq _ _ _).2 fun c hc ht => by have := (leftF_eq _ _ _).1 hb c hc ht; dsimp only at this ⊢; omega)
theorem bring_kept {v : Vw} {t : Tk14} (h : bringB v t = true) : bringF v t = if v.ep ≤ t.e then t else ⟨v.ep, t.p⟩ := by
  unfold bringB at h
  rw [decide_eq_true_iff] at h
  unfold bringF
  split
  · rfl
  · rename_i hn
    rw [h.resolve_left hn]
theorem covers_order {v : Vw} {e a b at_ p : Int} (h : a ≤ b) (hb : coversB v ⟨e, b⟩ at_ p = true) : coversB v ⟨e, a⟩ at_ p = true := by
  unfold coversB at hb ⊢
  rw [Bool.and_eq_true, decide_eq_true_iff] at hb ⊢
  obtain ⟨h1, h2⟩ := hb
  have h3 := bring_order h h1
  refine ⟨h3, ?_⟩
  rw [bring_kept h1] at h2
  rw [bring_kept h3]
  by_cases hv : v.ep ≤ e
  · rw [if_pos hv] at h2 ⊢
    exact ⟨h2.1, Int.le_trans h h2.2⟩
  · rw [if_neg hv] at h2 ⊢
    exact ⟨h2.1, Int.le_trans h h2.2⟩
theorem later_order {e a b : Int} (h : a ≤ b) : laterF ⟨e, a⟩ ⟨e, b⟩ = ⟨e, b⟩ ∧ laterF ⟨e, b⟩ ⟨e, a⟩ = ⟨e, b⟩ := by
  unfold laterF
  dsimp only
  refine ⟨if_neg (by omega), ?_⟩
  by_cases hab : a = b
  · subst hab
    split <;> rfl
  · exact if_pos (by omega)
/-- promotions that are learned, one behind the other -/
def learnsC (v : Vw) (l : List Pm) : Vw := l.foldl learnC v
theorem learnsC_succ (v : Vw) {l : List Pm} {k : Nat} (h : k < l.length) : learnsC v (l.take (k + 1)) = learnC (learnsC v (l.take k)) l[k] := by
  unfold learnsC
  rw [List.take_succ_eq_append_getElem h, List.foldl_append]
  rfl

/-- cuts as cells -/
def cuC (l : List (Int × Int)) : List Value := l.flatMap fun c => [.int .u64 c.1, .int .u64 c.2]
theorem cuC_append (a b : List (Int × Int)) : cuC (a ++ b) = cuC a ++ cuC b := by simp [cuC]
theorem cuC_length : ∀ ts : List (Int × Int), (cuC ts).length = ts.length * 2
  | [] => rfl
  | r :: rs => by
    have := cuC_length rs
    simp only [cuC, List.flatMap_cons, List.length_append, List.length_cons, List.length_nil] at this ⊢
    omega
theorem cuC_at : ∀ (rs : List (Int × Int)) (j : Nat) (h : j < rs.length), (cuC rs)[j * 2]? = some (.int .u64 rs[j].1) ∧ (cuC rs)[j * 2 + 1]? = some (.int .u64 rs[j].2)
  | [], _, h => by simp at h
  | r :: rs, 0, _ => by simp [cuC]
  | r :: rs, j + 1, h => by
    have := cuC_at rs j (by simpa using h)
    have e1 : (j + 1) * 2 = j * 2 + 2 := by omega
    simp only [cuC, List.flatMap_cons] at this ⊢
    rw [e1]
    simpa using this
theorem cuC_one : ∀ (l : List (Int × Int)), ∀ u ∈ cuC l, u.oneCell' = true
  | [], _, h => by simp [cuC] at h
  | c :: cs, u, h => by
    simp only [cuC, List.flatMap_cons, List.mem_append, List.mem_cons, List.not_mem_nil, or_false] at h
    rcases h with (rfl | rfl) | h
    · rfl
    · rfl
    · exact cuC_one cs u h
/-- a row of cuts that is read -/
structure CUR (w : World) (A : Option Addr) (n : Nat) (ts : List (Int × Int)) : Prop where
  len : ts.length = n
  rd : Rd w w.heap.size A (cuC ts)
theorem CUR.next {w w' : World} {A : Option Addr} {n : Nat} {ts : List (Int × Int)} (h : CUR w A n ts) (hb : Below w.heap.size w w') : CUR w' A n ts := ⟨h.len, (h.rd.below hb (Nat.le_refl _)).more hb.size⟩
theorem CUR.off {w w' : World} {A : Option Addr} {n : Nat} {ts : List (Int × Int)} (h : CUR w A n ts) (hz : w.heap.size ≤ w'.heap.size) (hk : ∀ ad, A = some ad → w'.heap[ad.block]? = w.heap[ad.block]?) : CUR w' A n ts := ⟨h.len, h.rd.offR hz hk⟩
theorem CUR.nil (w : World) : CUR w none 0 [] := ⟨rfl, .inl rfl⟩
theorem CUR.of_own {w : World} {base n c : Nat} {e : TypeId} {A : Option Addr} {ts : List (Int × Int)} (h : w.ownsRow base e 2 (.slice A n c) n (cuC ts)) : CUR w A n ts := by
  refine ⟨by have := h.1; rw [cuC_length] at this; omega, ?_⟩
  rcases h.2 with ⟨_, hn⟩ | ⟨g, cap, cur, hv, _, hg, _⟩
  · exact .inl (List.eq_nil_of_length_eq_zero (by have := h.1; rw [hn, Nat.zero_mul] at this; exact this))
  · have hA : A = some ⟨g, 0, none⟩ := by injection hv
    subst hA
    exact .inr ⟨_, rfl, (Array.getElem?_eq_some_iff.1 hg).1, h.cells (g := g) rfl⟩
theorem CUR.at_ {w : World} {A : Option Addr} {n : Nat} {ts : List (Int × Int)} (h : CUR w A n ts) {j : Nat} (hj : j < ts.length) : ∃ ad, A = some ad ∧ ad.block < w.heap.size ∧ ∀ w', Below w.heap.size w w' → w'.cell? (ad.add (j * 2)) = some (.int .u64 ts[j].1) ∧ w'.cell? ⟨(ad.add (j * 2)).block, (ad.add (j * 2)).off + 1, none⟩ = some (.int .u64 ts[j].2) := by
  obtain ⟨ad, hA, hb, hc⟩ := h.rd.addr (by rw [cuC_length]; omega)
  have key : ∀ (w' : World) (i : Nat) (v : Value), Below w.heap.size w w' → (cuC ts)[j * 2 + i]? = some v → w'.cell? (ad.add (j * 2 + i)) = some v := fun w' i v hw hv => by
    rw [hw.cell (by rw [add_block]; exact hb)]
    exact hc _ _ hv
  obtain ⟨e0, e1⟩ := cuC_at ts j hj
  have a1 : ∀ i, i ≠ 0 → (⟨(ad.add (j * 2)).block, (ad.add (j * 2)).off + i, none⟩ : Addr) = ad.add (j * 2 + i) := fun i hi => by rw [← add_add]; unfold Addr.add; simp [hi]
  refine ⟨ad, hA, hb, fun w' hw => ⟨key w' 0 _ hw e0, ?_⟩⟩
  rw [a1 1 (by decide)]
  exact key w' 1 _ hw e1
/-- promotions as cells -/
def pmC (ts : List Pm) : List Value := ts.flatMap fun t => [.int .u64 t.e, .int .u64 t.c, .int .i64 t.p]
theorem pmC_length : ∀ ts : List Pm, (pmC ts).length = ts.length * 3
  | [] => rfl
  | r :: rs => by
    have := pmC_length rs
    simp only [pmC, List.flatMap_cons, List.length_append, List.length_cons, List.length_nil] at this ⊢
    omega
theorem pmC_at : ∀ (rs : List Pm) (j : Nat) (h : j < rs.length), (pmC rs)[j * 3]? = some (.int .u64 rs[j].e) ∧ (pmC rs)[j * 3 + 1]? = some (.int .u64 rs[j].c) ∧ (pmC rs)[j * 3 + 2]? = some (.int .i64 rs[j].p)
  | [], _, h => by simp at h
  | r :: rs, 0, _ => by simp [pmC]
  | r :: rs, j + 1, h => by
    have := pmC_at rs j (by simpa using h)
    have e1 : (j + 1) * 3 = j * 3 + 3 := by omega
    simp only [pmC, List.flatMap_cons] at this ⊢
    rw [e1]
    simpa using this
/-- a row of promotions that is read -/
structure PMR (w : World) (A : Option Addr) (n : Nat) (ts : List Pm) : Prop where
  len : ts.length = n
  rd : Rd w w.heap.size A (pmC ts)
theorem PMR.next {w w' : World} {A : Option Addr} {n : Nat} {ts : List Pm} (h : PMR w A n ts) (hb : Below w.heap.size w w') : PMR w' A n ts := ⟨h.len, (h.rd.below hb (Nat.le_refl _)).more hb.size⟩
theorem PMR.at_ {w : World} {A : Option Addr} {n : Nat} {ts : List Pm} (h : PMR w A n ts) {j : Nat} (hj : j < ts.length) : ∃ ad, A = some ad ∧ ad.block < w.heap.size ∧ ∀ w', Below w.heap.size w w' → w'.cell? (ad.add (j * 3)) = some (.int .u64 ts[j].e) ∧ w'.cell? ⟨(ad.add (j * 3)).block, (ad.add (j * 3)).off + 1, none⟩ = some (.int .u64 ts[j].c) ∧ w'.cell? ⟨(ad.add (j * 3)).block, (ad.add (j * 3)).off + 2, none⟩ = some (.int .i64 ts[j].p) := by
  obtain ⟨ad, hA, hb, hc⟩ := h.rd.addr (by rw [pmC_length]; omega)
  have key : ∀ (w' : World) (i : Nat) (v : Value), Below w.heap.size w w' → (pmC ts)[j * 3 + i]? = some v → w'.cell? (ad.add (j * 3 + i)) = some v := fun w' i v hw hv => by
    rw [hw.cell (by rw [add_block]; exact hb)]
    exact hc _ _ hv
  obtain ⟨e0, e1, e2⟩ := pmC_at ts j hj
  have a1 : ∀ i, i ≠ 0 → (⟨(ad.add (j * 3)).block, (ad.add (j * 3)).off + i, none⟩ : Addr) = ad.add (j * 3 + i) := fun i hi => by rw [← add_add]; unfold Addr.add; simp [hi]
  refine ⟨ad, hA, hb, fun w' hw => ⟨key w' 0 _ hw e0, ?_, ?_⟩⟩
  · rw [a1 1 (by decide)]; exact key w' 1 _ hw e1
  · rw [a1 2 (by decide)]; exact key w' 2 _ hw e2
end Go.Proofs.Ytpmkaceeomnijaa
