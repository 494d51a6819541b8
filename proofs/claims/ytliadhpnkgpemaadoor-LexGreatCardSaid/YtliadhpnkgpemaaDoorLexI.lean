/-
  What is written of tokens, by package lex: contracts.
-/
import Derived.Test.YtliadhpnkgpemaaDoorLexH
import Derived.Shelf.Strings.Replace
namespace Go.Proofs.YtliadhpnkgpemaaDoor
open Go.RowKit
set_option maxRecDepth 100000

/-- a text with each byte q twice -/
def twiceF (q : UInt8) : List UInt8 → List UInt8
  | [] => []
  | b :: r => if b = q then q :: q :: twiceF q r else b :: twiceF q r

theorem twiceF_length (q : UInt8) : ∀ l, (twiceF q l).length ≤ 2 * l.length
  | [] => by simp [twiceF]
  | b :: r => by
    have := twiceF_length q r
    unfold twiceF
    split <;> simp <;> omega
theorem twiceF_take (q : UInt8) : ∀ (l : List UInt8) (k : Nat), (∀ j (h : j < l.length), j < k → l[j] ≠ q) → k ≤ l.length → twiceF q l = l.take k ++ twiceF q (l.drop k)
  | l, 0, _, _ => by simp
  | [], k + 1, _, h => by simp at h
  | b :: r, k + 1, h, hk => by
    have h0 : b ≠ q := h 0 (by simp) (by omega)
    have := twiceF_take q r k (fun j hj hjk => h (j + 1) (by simpa using hj) (by omega)) (by simpa using hk)
    rw [twiceF, if_neg h0, this]
    simp

theorem index_one (l : List UInt8) (q : UInt8) : (Lib.index l [q] = -1 ∧ (∀ b ∈ l, b ≠ q)) ∨ ∃ i : Nat, ∃ h : i < l.length, Lib.index l [q] = i ∧ l[i] = q ∧ ∀ j (hj : j < l.length), j < i → l[j] ≠ q := by
  induction l with
  | nil => exact .inl ⟨rfl, fun b h => by simp at h⟩
  | cons b r ih =>
    by_cases hb : b = q
    · subst hb
      refine .inr ⟨0, by simp, ?_, rfl, fun j _ hj => by omega⟩
      unfold Lib.index
      rw [if_pos (by simp)]
      rfl
    · have hp : [q].isPrefixOf (b :: r) = false := by
        rw [List.isPrefixOf]
        simp
        exact fun h => hb h.symm
      rcases ih with ⟨h1, h2⟩ | ⟨i, hi, h1, h2, h3⟩
      · refine .inl ⟨?_, fun c hc => ?_⟩
        · unfold Lib.index
          rw [hp, h1]
          rfl
        · rcases List.mem_cons.1 hc with rfl | hc
          · exact hb
          · exact h2 c hc
      · refine .inr ⟨i + 1, by simpa using hi, ?_, by simpa using h2, fun j hj hji => ?_⟩
        · unfold Lib.index
          rw [hp, h1]
          have : ((i : Int) == -1) = false := by rw [beq_eq_false_iff_ne]; omega
          simp [this]
        · cases j with
          | zero => exact hb
          | succ j => exact h3 j (by simpa using hj) (by omega)

theorem replaceK_none (q : UInt8) (k : Nat) (l : List UInt8) (h : Lib.index l [q] = -1) : Lib.replaceK [q] [q, q] k l = l := by
  cases k with
  | zero => rfl
  | succ k => rw [Lib.replaceK, if_pos (beq_iff_eq.2 h)]
theorem replaceK_twice (q : UInt8) : ∀ (n : Nat) (l : List UInt8) (k : Nat), l.length ≤ n → Lib.count l [q] ≤ k → Lib.replaceK [q] [q, q] k l = twiceF q l := by
  intro n
  induction n with
  | zero =>
    intro l k hl _
    obtain rfl : l = [] := List.eq_nil_of_length_eq_zero (by omega)
    rw [replaceK_none q k [] rfl]
    rfl
  | succ n ih =>
    intro l k hl hc
    rcases index_one l q with ⟨h1, h2⟩ | ⟨i, hi, h1, h2, h3⟩
    · rw [replaceK_none q k l h1, twiceF_take q l l.length (fun j hj _ => h2 _ (List.getElem_mem hj)) (Nat.le_refl _)]
      simp [twiceF]
    · rw [Lib.count_hit (by simp) h1] at hc
      obtain ⟨k', rfl⟩ : ∃ k', k = k' + 1 := ⟨k - 1, by omega⟩
      rw [Lib.replaceK_hit _ _ _ _ _ h1, ih (l.drop (i + [q].length)) k' (by rw [List.length_drop]; simp; omega) (by omega)]
      rw [twiceF_take q l i h3 (by omega), List.drop_eq_getElem_cons hi, h2]
      simp [twiceF]
theorem replaceAll_twice (q : UInt8) (l : List UInt8) : Lib.replaceAll l [q] [q, q] = twiceF q l := by
  unfold Lib.replaceAll Lib.replace
  rw [if_neg (by simp)]
  unfold Lib.replaceNum
  rw [if_pos (.inl (by decide))]
  exact replaceK_twice q l.length l _ (Nat.le_refl _) (Nat.le_refl _)

theorem twice_s (q : UInt8) (s old new : ByteArray) (w : World) (hL : Lw w) (hs : s.size ≤ 1000000) (ho : old.data.toList = [q]) (hn : new.data.toList = [q, q]) :
    Calls Tryd.prog 91 #[.string s, .string old, .string new] w fun e w' => ∃ r : ByteArray, e = .returned (.string r) ∧ r.data.toList = twiceF q s.data.toList ∧ Below w.heap.size w w' := by
  obtain ⟨m, hm⟩ := hL
  have o1 : old.size = 1 := by rw [← text_len, ho]; rfl
  have n2 : new.size = 2 := by rw [← text_len, hn]; rfl
  have hc := Lib.countB_mul_le old (by omega) s.size s (Nat.le_refl _)
  rw [o1, Nat.mul_one] at hc
  refine (Tryd.strings_ReplaceAll s old new m w (by omega) hm (by omega) (by rw [n2]; omega)).mono fun e w' ⟨he, hb⟩ => ⟨_, he, ?_, hb⟩
  rw [ho, hn, replaceAll_twice]

theorem text_add (a b : ByteArray) : (a ++ b).data.toList = a.data.toList ++ b.data.toList := by simp

def quoteF (q : UInt8) (l : List UInt8) : List UInt8 := q :: twiceF q l ++ [q]

set_option maxHeartbeats 400000 in
theorem quote_ok (q : UInt8) (s mark : ByteArray) (hq : mark.data.toList = [q]) (w : World) (hL : Lw w) (hs : s.size ≤ 1000000) :
    Calls Tryd.prog 78 #[.string s, .string mark] w fun e w' => ∃ r : ByteArray, e = .returned (.string r) ∧ r.data.toList = quoteF q s.data.toList ∧ Below w.heap.size w w' := by
  have hms : mark.size = 1 := by rw [← text_len, hq]; rfl
  go_enter Tryd.func78, Tryd.ntmps78
  go_wp2_with fail
  refine (twice_s q s mark (mark ++ mark) w hL hs hq (by rw [text_add, hq]; rfl)).mono ?_
  rintro e w1 ⟨r, rfl, hr, k1⟩
  have hrs : r.size ≤ 2000000 := by
    have h1 := twiceF_length q s.data.toList
    have h2 := text_len s
    have h3 := text_len r
    rw [hr] at h3
    omega
  have hms2 : (mark ++ r).size ≤ 2000001 := by rw [ByteArray.size_append]; omega
  go_wp2_with fail
  go_ret
  exact ⟨_, rfl, by rw [text_add, text_add, hr, hq]; rfl, k1⟩

def writtenF (k : Int) (l : List UInt8) : List UInt8 :=
  if k = 1 ∨ k = 4 ∨ k = 6 then l
  else if k = 2 then quoteF 34 l
  else if k = 3 then quoteF 39 l
  else if k = 5 then [47, 42, 43, 32] ++ l ++ [32] ++ [42, 47]
  else []
theorem writtenF_length (k : Int) (l : List UInt8) : (writtenF k l).length ≤ 2 * l.length + 7 := by
  have h1 := twiceF_length 34 l
  have h2 := twiceF_length 39 l
  unfold writtenF quoteF
  split
  · omega
  split
  · simp; omega
  split
  · simp; omega
  split
  · simp; omega
  · simp

set_option maxHeartbeats 1000000 in
theorem written_ok (k : Int) (s : ByteArray) (w : World) (hL : Lw w) (hs : s.size ≤ 1000000) :
    Calls Tryd.prog 45 #[.agg #[.int .i64 k, .string s]] w fun e w' => ∃ r : ByteArray, e = .returned (.string r) ∧ r.data.toList = writtenF k s.data.toList ∧ Below w.heap.size w w' := by
  have kw := kp_new w (.cells #[.int .i64 k, .string s] 24)
  have hL1 := hL.next kw
  by_cases h1 : k = 1 ∨ k = 4 ∨ k = 6
  · have hF : writtenF k s.data.toList = s.data.toList := by unfold writtenF; rw [if_pos h1]
    have HF := Lib.hid hF
    clear hF
    rcases h1 with rfl | rfl | rfl
    all_goals
      go_enter Tryd.func45, Tryd.ntmps45
      go_wp2_with fail
      go_ret
      exact ⟨s, rfl, HF.out.symm, kw⟩
  by_cases h2 : k = 2
  · subst h2
    have hQ := Lib.hid (quote_ok 34 s ⟨#[34]⟩ rfl _ hL1 hs)
    go_enter Tryd.func45, Tryd.ntmps45
    go_wp2_with fail
    refine hQ.out.mono ?_
    rintro e w1 ⟨r, rfl, hr, k1⟩
    go_wp2_with fail
    go_ret
    exact ⟨r, rfl, hr, kp_trans kw k1⟩
  by_cases h3 : k = 3
  · subst h3
    have hQ := Lib.hid (quote_ok 39 s ⟨#[39]⟩ rfl _ hL1 hs)
    go_enter Tryd.func45, Tryd.ntmps45
    go_wp2_with fail
    refine hQ.out.mono ?_
    rintro e w1 ⟨r, rfl, hr, k1⟩
    go_wp2_with fail
    go_ret
    exact ⟨r, rfl, hr, kp_trans kw k1⟩
  by_cases h5 : k = 5
  · subst h5
    have z1 : (⟨#[47, 42, 43, 32]⟩ ++ s : ByteArray).size ≤ 1000004 := by rw [ByteArray.size_append]; have : (⟨#[47, 42, 43, 32]⟩ : ByteArray).size = 4 := rfl; omega
    have z2 : (⟨#[47, 42, 43, 32]⟩ ++ s ++ ⟨#[32]⟩ : ByteArray).size ≤ 1000005 := by rw [ByteArray.size_append]; have : (⟨#[32]⟩ : ByteArray).size = 1 := rfl; omega
    have z3 : (⟨#[47, 42, 43, 32]⟩ : ByteArray).size = 4 := rfl
    have z4 : (⟨#[32]⟩ : ByteArray).size = 1 := rfl
    have z5 : (⟨#[42, 47]⟩ : ByteArray).size = 2 := rfl
    go_enter Tryd.func45, Tryd.ntmps45
    go_wp2_with fail
    go_ret
    exact ⟨_, rfl, by rw [text_add, text_add, text_add]; rfl, kw⟩
  · have hF : writtenF k s.data.toList = [] := by unfold writtenF; rw [if_neg h1, if_neg h2, if_neg h3, if_neg h5]
    have HF := Lib.hid hF
    have e1 : (k == 1) = false := by simp only [beq_eq_false_iff_ne, ne_eq]; omega
    have e2 : (k == 2) = false := by simp only [beq_eq_false_iff_ne, ne_eq]; omega
    have e3 : (k == 3) = false := by simp only [beq_eq_false_iff_ne, ne_eq]; omega
    have e4 : (k == 4) = false := by simp only [beq_eq_false_iff_ne, ne_eq]; omega
    have e5 : (k == 5) = false := by simp only [beq_eq_false_iff_ne, ne_eq]; omega
    have e6 : (k == 6) = false := by simp only [beq_eq_false_iff_ne, ne_eq]; omega
    clear hF h1 h2 h3 h5
    go_enter Tryd.func45, Tryd.ntmps45
    go_wp2_with fail
    go_ret
    exact ⟨⟨#[]⟩, rfl, HF.out.symm, kw⟩
end Go.Proofs.YtliadhpnkgpemaaDoor
