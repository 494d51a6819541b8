/-
  What may stand between two tokens: blanks, remarks of each kind; a remark's line without line ends: plain mathematics.
-/
import Derived.Test.YtliadhpnkgpemaaDoorLexBk
import Derived.Lib.MapLaws
namespace Go.Proofs.YtliadhpnkgpemaaDoor
open Go.RowKit
set_option maxRecDepth 100000

theorem lexF_blank (b : UInt8) (rest : List UInt8) (h : blankF b = true) : lexF (b :: rest) = lexF rest := by
  have hs : stepF (b :: rest) = .skip 1 := by rw [stepF, if_pos h]
  rw [lexF_skip (by simp) hs (by decide)]
  rfl
theorem indexByte_front : ∀ (t r : List UInt8), (10 : UInt8) ∉ t → Lib.indexByte (t ++ 10 :: r) 10 = (t.length : Int)
  | [], r, _ => by simp [Lib.indexByte]
  | b :: t, r, h => by
    have hb : b ≠ 10 := fun e => h (by rw [e]; simp)
    have ht : (10 : UInt8) ∉ t := fun e => h (List.mem_cons_of_mem _ e)
    have ih := indexByte_front t r ht
    rw [List.cons_append, Lib.indexByte, if_neg (by simpa using hb), ih, if_neg (by simp only [beq_iff_eq]; omega)]
    simp
theorem lexF_line (l rest : List UInt8) (t : List UInt8) (hl : l = t ++ 10 :: rest) (h : (10 : UInt8) ∉ t) (ht : t ≠ []) (hb : isLineF l = true) (hk : ∀ b, l[0]? = some b → blankF b = false) : lexF l = lexF rest := by
  have hne : l ≠ [] := by rw [hl]; simp
  have hs : stepF l = .skip t.length := by
    obtain ⟨c, r, hcr⟩ : ∃ c r, l = c :: r := by cases l with | nil => exact absurd rfl hne | cons c r => exact ⟨c, r, rfl⟩
    have hc := hk c (by rw [hcr]; rfl)
    rw [hcr] at hb ⊢
    rw [stepF, if_neg (by rw [hc]; simp), if_pos hb, ← hcr]
    unfold lineF
    rw [hl, indexByte_front t rest h, if_neg (by omega)]
    rfl
  rw [lexF_skip hne hs (by intro e; exact ht (List.eq_nil_of_length_eq_zero e)), hl, List.drop_left' rfl, lexF_blank 10 rest (by decide)]

theorem gap_blanks : Gap [9, 13, 10, 32] := ⟨⟨9, _, rfl, by decide⟩, fun rest => by
  rw [List.cons_append, List.cons_append, List.cons_append, List.cons_append, List.nil_append, lexF_blank _ _ (by decide), lexF_blank _ _ (by decide), lexF_blank _ _ (by decide), lexF_blank _ _ (by decide)]⟩
theorem gap_dashes (t : List UInt8) (h : (10 : UInt8) ∉ t) : Gap (32 :: 45 :: 45 :: (t ++ [10])) := ⟨⟨32, _, rfl, by decide⟩, fun rest => by
  rw [List.cons_append, lexF_blank _ _ (by decide)]
  refine lexF_line _ rest (45 :: 45 :: t) (by simp) (by simpa using h) (by simp) ?_ (by
    intro b hb
    simp at hb
    subst hb
    decide)
  rw [List.cons_append, List.cons_append]
  show (decide ((45 : UInt8).toNat = 35) || begF [45, 45] _) = true
  simp [begF, Lib.hasPrefix, List.isPrefixOf]⟩
theorem gap_hash (t : List UInt8) (h : (10 : UInt8) ∉ t) : Gap (32 :: 35 :: (t ++ [10])) := ⟨⟨32, _, rfl, by decide⟩, fun rest => by
  rw [List.cons_append, lexF_blank _ _ (by decide)]
  refine lexF_line _ rest (35 :: t) (by simp) (by simpa using h) (by simp) ?_ (by
    intro b hb
    simp at hb
    subst hb
    decide)
  rw [List.cons_append]
  show (decide ((35 : UInt8).toNat = 35) || begF [45, 45] (35 :: (t ++ [10] ++ rest))) = true
  simp⟩
theorem gap_remark (t : List UInt8) (h : Lib.contains t ends2 = false) (h43 : t[0]? ≠ some 43) : Gap (32 :: 47 :: 42 :: (t ++ [42, 47, 32])) := ⟨⟨32, _, rfl, by decide⟩, fun rest => by
  rw [List.cons_append, lexF_blank _ _ (by decide)]
  have e1 : 47 :: 42 :: (t ++ [42, 47, 32]) ++ rest = 47 :: 42 :: (t ++ 42 :: 47 :: 32 :: rest) := by simp
  rw [e1]
  have hidx : Lib.index (t ++ 42 :: 47 :: 32 :: rest) ends2 = (t.length : Int) := by
    rw [index_behind t 42 (47 :: 32 :: rest) (no_end t h) (by decide) (by rw [index_here]; omega), index_here]
    omega
  have hcl : closedF (47 :: 42 :: (t ++ 42 :: 47 :: 32 :: rest)) 2 = t.length + 4 := by
    unfold closedF
    simp only [List.drop_succ_cons, List.drop_zero]
    rw [hidx, if_neg (by omega)]
    omega
  have hln : isLineF (47 :: 42 :: (t ++ 42 :: 47 :: 32 :: rest)) = false := by
    show (decide ((47 : UInt8).toNat = 35) || begF [45, 45] _) = false
    rw [beg_not (by decide)]
    decide
  have hrm : isRemarkF (47 :: 42 :: (t ++ 42 :: 47 :: 32 :: rest)) = true := by
    have h3 : begF [47, 42, 43] (47 :: 42 :: (t ++ 42 :: 47 :: 32 :: rest)) = false := by
      cases t with
      | nil => simp [begF, Lib.hasPrefix, List.isPrefixOf]
      | cons c r =>
        have hc : c ≠ 43 := by simpa using h43
        have hc2 : ¬ 43 = c := fun e => hc e.symm
        simp [begF, Lib.hasPrefix, List.isPrefixOf, hc2]
    unfold isRemarkF
    rw [h3]
    simp [begF, Lib.hasPrefix, List.isPrefixOf]
  have hs : stepF (47 :: 42 :: (t ++ 42 :: 47 :: 32 :: rest)) = .skip (t.length + 4) := by
    rw [stepF, if_neg (by decide), if_neg (by rw [hln]; simp), if_pos hrm, hcl, if_neg (by omega)]
  rw [lexF_skip (by simp) hs (by omega)]
  have e2 : 47 :: 42 :: (t ++ 42 :: 47 :: 32 :: rest) = (47 :: 42 :: (t ++ [42, 47])) ++ 32 :: rest := by simp
  rw [e2, List.drop_left' (by simp), lexF_blank _ _ (by decide)]⟩

/-- what a line end becomes in a remark's line -/
def lnF (r : Int) : Int := if r = 10 then 32 else r
theorem byteZ_ne (x : Int) (h0 : 0 ≤ x) (h1 : x < 256) (h : x ≠ 10) : (10 : UInt8) ≠ x.toNat.toUInt8 := by
  intro e
  have := congrArg UInt8.toNat e
  simp at this
  omega
theorem encode_free (r : Int) (h0 : 0 ≤ r) (h : r ≠ 10) : (10 : UInt8) ∉ Lib.encodeRune r ∧ (Lib.encodeRune r).length ≤ 4 := by
  unfold Lib.encodeRune
  by_cases h1 : r ≤ 127
  · rw [Lib.encodeRuneZ_one h0 h1]
    simp only [List.map_cons, List.map_nil, List.mem_singleton, List.length_cons, List.length_nil]
    exact ⟨byteZ_ne r h0 (by omega) h, by omega⟩
  by_cases h2 : r ≤ 2047
  · rw [Lib.encodeRuneZ_two (by omega) h2]
    simp only [List.map_cons, List.map_nil, List.mem_cons, List.not_mem_nil, or_false, not_or, List.length_cons, List.length_nil]
    exact ⟨⟨byteZ_ne _ (by omega) (by omega) (by omega), byteZ_ne _ (by omega) (by omega) (by omega)⟩, by omega⟩
  by_cases h3 : (2048 ≤ r ∧ r < 55296) ∨ (57343 < r ∧ r ≤ 65535)
  · rw [Lib.encodeRuneZ_three h3]
    simp only [List.map_cons, List.map_nil, List.mem_cons, List.not_mem_nil, or_false, not_or, List.length_cons, List.length_nil]
    exact ⟨⟨byteZ_ne _ (by omega) (by omega) (by omega), byteZ_ne _ (by omega) (by omega) (by omega), byteZ_ne _ (by omega) (by omega) (by omega)⟩, by omega⟩
  by_cases h4 : 65536 ≤ r ∧ r ≤ 1114111
  · rw [Lib.encodeRuneZ_four h4.1 h4.2]
    simp only [List.map_cons, List.map_nil, List.mem_cons, List.not_mem_nil, or_false, not_or, List.length_cons, List.length_nil]
    exact ⟨⟨byteZ_ne _ (by omega) (by omega) (by omega), byteZ_ne _ (by omega) (by omega) (by omega), byteZ_ne _ (by omega) (by omega) (by omega), byteZ_ne _ (by omega) (by omega) (by omega)⟩, by omega⟩
  rw [Lib.encodeRuneZ_bad (by omega)]
  exact ⟨by decide, by decide⟩
theorem line_free : ∀ (n : Nat) (l : List UInt8), l.length ≤ n → (10 : UInt8) ∉ Lib.mapD lnF l ∧ (Lib.mapD lnF l).length ≤ 4 * l.length
  | 0, l, hn => by
    obtain rfl : l = [] := List.eq_nil_of_length_eq_zero (by omega)
    rw [Lib.mapD_nil]
    exact ⟨by simp, by simp⟩
  | n + 1, l, hn => by
    by_cases hne : l = []
    · subst hne
      rw [Lib.mapD_nil]
      exact ⟨by simp, by simp⟩
    have hw := Lib.decodeL_width l
    have hle := Lib.decodeL_le l hne
    have hl : 0 < l.length := List.length_pos_iff.2 hne
    obtain ⟨i1, i2⟩ := line_free n (l.drop (Lib.decodeL l).2) (by rw [List.length_drop]; omega)
    rw [List.length_drop] at i2
    have hf0 : 0 ≤ lnF (Lib.decodeL l).1 := by unfold lnF; split <;> omega
    have hf1 : lnF (Lib.decodeL l).1 ≠ 10 := by unfold lnF; split <;> omega
    obtain ⟨e1, e2⟩ := encode_free _ hf0 hf1
    rw [Lib.mapD_step lnF l hne, if_pos hf0]
    refine ⟨fun h => ?_, ?_⟩
    · rcases List.mem_append.1 h with h | h
      · exact e1 h
      · exact i1 h
    · rw [List.length_append]
      omega
end Go.Proofs.YtliadhpnkgpemaaDoor
