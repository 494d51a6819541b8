/-
  Frames of bytes: plain mathematics.
-/
import Derived.Test.YtmklmakcampbbaaDoorFrameG
namespace Go.Proofs.YtmklmakcampbbaaDoor
open Go.RowKit
set_option maxRecDepth 100000

/-- the ways of readF -/
theorem readF_cases (bs : List UInt8) :
    (readF bs = (0, [], 0, 3) ∧ (bs.length < 2 ∨ (2 ≤ bs.length ∧ val (bs.take 2) ≤ 301 ∧ val (bs.take 2) ≠ 0 ∧ bs.length < 2 + val (bs.take 2)))) ∨
    (2 ≤ bs.length ∧ ((val (bs.take 2) = 0 ∧ readF bs = (0, [], 0, 2)) ∨ (val (bs.take 2) ≠ 0 ∧ 301 < val (bs.take 2) ∧ readF bs = (0, [], 0, 4)) ∨
      (val (bs.take 2) ≠ 0 ∧ val (bs.take 2) ≤ 301 ∧ 2 + val (bs.take 2) ≤ bs.length ∧ ((bs.getD 2 0 = 0 ∧ readF bs = (0, [], 0, 2)) ∨ (bs.getD 2 0 ≠ 0 ∧ readF bs = (bs.getD 2 0, (bs.take (2 + val (bs.take 2))).drop 3, 2 + val (bs.take 2), 0)))))) := by
  unfold readF
  by_cases h2 : bs.length < 2
  · rw [if_pos h2]; exact .inl ⟨rfl, .inl h2⟩
  rw [if_neg h2]
  by_cases h0 : val (bs.take 2) = 0
  · rw [if_pos h0]; exact .inr ⟨by omega, .inl ⟨h0, rfl⟩⟩
  rw [if_neg h0]
  by_cases h1 : 301 < val (bs.take 2)
  · rw [if_pos h1]; exact .inr ⟨by omega, .inr (.inl ⟨h0, h1, rfl⟩)⟩
  rw [if_neg h1]
  by_cases hs : bs.length < 2 + val (bs.take 2)
  · rw [if_pos hs]; exact .inl ⟨rfl, .inr ⟨by omega, by omega, h0, hs⟩⟩
  rw [if_neg hs]
  by_cases hk : bs.getD 2 0 = 0
  · rw [if_pos hk]; exact .inr ⟨by omega, .inr (.inr ⟨h0, by omega, by omega, .inl ⟨hk, rfl⟩⟩)⟩
  rw [if_neg hk]; exact .inr ⟨by omega, .inr (.inr ⟨h0, by omega, by omega, .inr ⟨hk, rfl⟩⟩)⟩

theorem readF_short_len {bs : List UInt8} (h : (readF bs).2.2.2 = 3) : bs.length ≤ 302 := by
  rcases readF_cases bs with ⟨_, h1 | ⟨_, h1, _, h2⟩⟩ | ⟨h2, ⟨_, hr⟩ | ⟨_, _, hr⟩ | ⟨_, _, _, ⟨_, hr⟩ | ⟨_, hr⟩⟩⟩
  · omega
  · omega
  all_goals (rw [hr] at h; simp at h)

theorem readF_len (bs : List UInt8) : (readF bs).2.1.length ≤ 300 := by
  rcases readF_cases bs with ⟨hr, _⟩ | ⟨h2, ⟨_, hr⟩ | ⟨_, _, hr⟩ | ⟨_, h1, _, ⟨_, hr⟩ | ⟨_, hr⟩⟩⟩
  case inr.inr.inr.inr => rw [hr]; simp only [List.length_drop, List.length_take]; omega
  all_goals (rw [hr]; simp)
theorem bytesF_len (k : UInt8) (bs : List UInt8) : (bytesF k bs).1.length ≤ 303 := by
  unfold bytesF
  split
  · simp
  · split
    · simp
    · simp only [List.length_append, List.length_cons, be_length]; omega

theorem take_app (a b : List UInt8) {n : Nat} (h : n ≤ a.length) : (a ++ b).take n = a.take n := by
  rw [List.take_append_of_le_length h]
theorem getD_app (a b : List UInt8) {n : Nat} (h : n < a.length) : (a ++ b).getD n 0 = a.getD n 0 := by
  simp [List.getD_eq_getElem?_getD, List.getElem?_append_left h]

/-- what is told of bytes that suffice is told whatever stands behind -/
theorem readF_append (a b : List UInt8) (h : (readF a).2.2.2 ≠ 3) : readF (a ++ b) = readF a := by
  rcases readF_cases a with ⟨hr, _⟩ | ⟨h2, hh⟩
  · rw [hr] at h; simp at h
  have ht := take_app a b h2
  have hl : (a ++ b).length = a.length + b.length := List.length_append
  rcases hh with ⟨h0, hr⟩ | ⟨h0, h1, hr⟩ | ⟨h0, h1, hs, hh⟩
  · rw [hr, readF, if_neg (by omega), ht, if_pos h0]
  · rw [hr, readF, if_neg (by omega), ht, if_neg h0, if_pos h1]
  · have hg := getD_app a b (n := 2) (by omega)
    rcases hh with ⟨hk, hr⟩ | ⟨hk, hr⟩
    · rw [hr, readF, if_neg (by omega), ht, if_neg h0, if_neg (by omega), if_neg (by omega), hg, if_pos hk]
    · rw [hr, readF, if_neg (by omega), ht, if_neg h0, if_neg (by omega), if_neg (by omega), hg, if_neg hk, take_app a b hs]

theorem allF_ind (P : List UInt8 → Prop) (h : ∀ bs, ((readF bs).2.2.2 = 0 → P (bs.drop (readF bs).2.2.1)) → P bs) (bs : List UInt8) : P bs := by
  induction hn : bs.length using Nat.strongRecOn generalizing bs with
  | _ n ih =>
    refine h bs fun h0 => ?_
    have := readF_ok h0
    exact ih _ (by rw [List.length_drop]; omega) _ rfl

/-- what is left is short; beside an error nothing is -/
theorem allF_rest (bs : List UInt8) : (allF bs).2.1.length ≤ 302 ∧ (allF bs).2.1.length ≤ bs.length ∧ (allF bs).1.length ≤ bs.length ∧ (∀ f ∈ (allF bs).1, f.2.length ≤ 300) ∧ ((allF bs).2.2 ≠ 0 → (allF bs).2.1 = []) := by
  refine allF_ind (fun bs => (allF bs).2.1.length ≤ 302 ∧ (allF bs).2.1.length ≤ bs.length ∧ (allF bs).1.length ≤ bs.length ∧ (∀ f ∈ (allF bs).1, f.2.length ≤ 300) ∧ ((allF bs).2.2 ≠ 0 → (allF bs).2.1 = [])) (fun bs ih => ?_) bs
  by_cases h0 : (readF bs).2.2.2 = 0
  · obtain ⟨i1, i2, i3, i4, i5⟩ := ih h0
    obtain ⟨p1, p2, p3, p4⟩ := readF_ok h0
    rw [allF_step h0]
    rw [List.length_drop] at i2 i3
    refine ⟨i1, by simp only []; omega, by simp only [List.length_cons]; omega, ?_, i5⟩
    intro f hf
    rcases List.mem_cons.1 hf with rfl | hf
    · exact p3
    · exact i4 f hf
  · by_cases h3 : (readF bs).2.2.2 = 3
    · rw [allF_short h3]
      exact ⟨readF_short_len h3, Nat.le_refl _, by simp, by simp, by simp⟩
    · rw [allF_bad h0 h3]
      simp

theorem allF_append_bad (a b : List UInt8) : (allF a).2.2 ≠ 0 → allF (a ++ b) = allF a := by
  refine allF_ind (fun a => (allF a).2.2 ≠ 0 → allF (a ++ b) = allF a) (fun a ih => ?_) a
  intro h
  by_cases h0 : (readF a).2.2.2 = 0
  · have hr := readF_append a b (by rw [h0]; decide)
    rw [allF_step h0] at h ⊢
    rw [allF_step (by rw [hr]; exact h0), hr, List.drop_append_of_le_length (readF_ok h0).2.1, ih h0 h]
  · by_cases h3 : (readF a).2.2.2 = 3
    · rw [allF_short h3] at h; simp at h
    · have hr := readF_append a b h3
      rw [allF_bad h0 h3, allF_bad (by rw [hr]; exact h0) (by rw [hr]; exact h3), hr]

theorem allF_append (a b : List UInt8) : (allF a).2.2 = 0 → allF (a ++ b) = ((allF a).1 ++ (allF ((allF a).2.1 ++ b)).1, (allF ((allF a).2.1 ++ b)).2) := by
  refine allF_ind (fun a => (allF a).2.2 = 0 → allF (a ++ b) = ((allF a).1 ++ (allF ((allF a).2.1 ++ b)).1, (allF ((allF a).2.1 ++ b)).2)) (fun a ih => ?_) a
  intro h
  by_cases h0 : (readF a).2.2.2 = 0
  · have hr := readF_append a b (by rw [h0]; decide)
    rw [allF_step h0] at h ⊢
    rw [allF_step (bs := a ++ b) (by rw [hr]; exact h0), hr, List.drop_append_of_le_length (readF_ok h0).2.1, ih h0 h]
    rfl
  · by_cases h3 : (readF a).2.2.2 = 3
    · rw [allF_short h3]; simp
    · rw [allF_bad h0 h3] at h; exact absurd h h0

/-- a frame comes back from its bytes, whatever stands behind -/
theorem readF_back (k : UInt8) (body more : List UInt8) (hk : k ≠ 0) (hl : body.length ≤ 300) : readF ((be 2 (body.length + 1) ++ (k :: body)) ++ more) = (k, body, 3 + body.length, 0) := by
  have hb : (be 2 (body.length + 1)).length = 2 := be_length _ _
  have e1 : ((be 2 (body.length + 1) ++ (k :: body)) ++ more).take 2 = be 2 (body.length + 1) := by
    rw [List.append_assoc, List.take_append_of_le_length (by omega), List.take_of_length_le (by omega)]
  have hv : val (be 2 (body.length + 1)) = body.length + 1 := val_be 2 _ (by omega)
  have hlen : ((be 2 (body.length + 1) ++ (k :: body)) ++ more).length = 3 + body.length + more.length := by
    simp only [List.length_append, List.length_cons, hb]; omega
  have hg : ((be 2 (body.length + 1) ++ (k :: body)) ++ more).getD 2 0 = k := by
    rw [List.getD_eq_getElem?_getD, List.append_assoc, List.getElem?_append_right (by omega), hb]; rfl
  rw [readF, if_neg (by omega), e1, hv, if_neg (by omega), if_neg (by omega), if_neg (by omega), hg, if_neg hk]
  have e2 : 2 + (body.length + 1) = (be 2 (body.length + 1) ++ (k :: body)).length := by simp only [List.length_append, List.length_cons, hb]
  rw [e2, List.take_left]
  have e3 : (be 2 (body.length + 1) ++ (k :: body)).drop 3 = body := by
    rw [show 3 = (be 2 (body.length + 1)).length + 1 from by omega, List.drop_append]
    simp
  rw [e3, ← e2]
  congr 2
  rw [show 2 + (body.length + 1) = 3 + body.length from by omega]

def wires (fs : List (UInt8 × List UInt8)) : List UInt8 := fs.flatMap fun f => be 2 (f.2.length + 1) ++ (f.1 :: f.2)
theorem allF_nil : allF [] = ([], [], 0) := allF_short (by decide)
theorem allF_back : ∀ fs : List (UInt8 × List UInt8), (∀ f ∈ fs, f.1 ≠ 0 ∧ f.2.length ≤ 300) → allF (wires fs) = (fs, [], 0)
  | [], _ => allF_nil
  | f :: fs, h => by
    have hf := h f (by simp)
    have hr := readF_back f.1 f.2 (wires fs) hf.1 hf.2
    have e : wires (f :: fs) = (be 2 (f.2.length + 1) ++ (f.1 :: f.2)) ++ wires fs := by simp [wires]
    rw [e, allF_step (by rw [hr]), hr]
    have hd : ((be 2 (f.2.length + 1) ++ (f.1 :: f.2)) ++ wires fs).drop (3 + f.2.length) = wires fs := by
      rw [show 3 + f.2.length = (be 2 (f.2.length + 1) ++ (f.1 :: f.2)).length from by simp only [List.length_append, List.length_cons, be_length]; omega, List.drop_left]
    simp only []
    rw [hd, allF_back fs fun g hg => h g (by simp [hg])]
end Go.Proofs.YtmklmakcampbbaaDoor
