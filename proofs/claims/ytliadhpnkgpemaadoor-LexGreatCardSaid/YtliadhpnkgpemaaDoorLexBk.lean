/-
  Tokens come back from what is written of them, whatever stands between: plain mathematics.
-/
import Derived.Test.YtliadhpnkgpemaaDoorRfL
namespace Go.Proofs.YtliadhpnkgpemaaDoor
open Go.RowKit
set_option maxRecDepth 100000

theorem blank_parts (b : UInt8) (h : blankF b = true) : lodF b = false ∧ b ≠ 34 ∧ b ≠ 39 ∧ b ≠ 42 ∧ b ≠ 45 ∧ b ≠ 47 := by
  have := by_all (fun b => !blankF b || (!lodF b && (decide (b ≠ 34) && (decide (b ≠ 39) && (decide (b ≠ 42) && (decide (b ≠ 45) && decide (b ≠ 47))))))) (by decide +kernel) b
  rw [h] at this
  simp only [Bool.not_true, Bool.false_or, Bool.and_eq_true, Bool.not_eq_true', decide_eq_true_eq] at this
  exact this
theorem runF_append {p : UInt8 → Bool} : ∀ (t : List UInt8) (b : UInt8) (r : List UInt8), runF p t = t.length → p b = false → runF p (t ++ b :: r) = t.length
  | [], b, r, _, hb => runF_none hb
  | c :: t, b, r, h, hb => by
    have hc : p c = true := by
      cases hp : p c with
      | true => rfl
      | false => rw [runF_none hp] at h; simp at h
    rw [runF_some hc] at h
    rw [List.cons_append, runF_some hc, runF_append t b r (by simpa using h) hb]
    rfl
theorem beg_snd {a b c d : UInt8} {r : List UInt8} (h : d ≠ b) : begF [a, b] (c :: d :: r) = false := by
  cases hb : begF [a, b] (c :: d :: r) with
  | false => rfl
  | true =>
    unfold begF Lib.hasPrefix at hb
    rw [List.isPrefixOf, List.isPrefixOf] at hb
    simp at hb
    exact absurd hb.2.symm h
theorem beg3_snd {a b e c d : UInt8} {r : List UInt8} (h : d ≠ b) : begF [a, b, e] (c :: d :: r) = false := by
  cases hb : begF [a, b, e] (c :: d :: r) with
  | false => rfl
  | true =>
    unfold begF Lib.hasPrefix at hb
    rw [List.isPrefixOf, List.isPrefixOf] at hb
    simp at hb
    exact absurd hb.2.1.symm h

theorem quoted_back (q : UInt8) : ∀ (t r : List UInt8), r[0]? ≠ some q → quotedF q (twiceF q t ++ q :: r) = some (t, (twiceF q t).length + 1)
  | [], r, h => by
    rw [twiceF, List.nil_append, quotedF_ends h]
    rfl
  | b :: t, r, h => by
    have ih := quoted_back q t r h
    rw [twiceF]
    split
    · rename_i hb
      subst hb
      rw [List.cons_append, List.cons_append, quotedF_twice, ih]
      simp
    · rename_i hb
      rw [List.cons_append, quotedF_other hb, ih]
      simp

theorem index_behind : ∀ (t : List UInt8) (x : UInt8) (r : List UInt8), Lib.index t ends2 = -1 → x ≠ 47 → 0 ≤ Lib.index (x :: r) ends2 → Lib.index (t ++ x :: r) ends2 = (t.length : Int) + Lib.index (x :: r) ends2
  | [], x, r, _, _, _ => by simp
  | b :: t, x, r, h, hx, h0 => by
    have hb : ends2.isPrefixOf (b :: t) = false := by
      cases hp : ends2.isPrefixOf (b :: t) with
      | false => rfl
      | true => rw [Lib.index, hp] at h; simp at h
    have ht : Lib.index t ends2 = -1 := by
      rw [Lib.index, hb] at h
      simp only [Bool.false_eq_true, if_false] at h
      split at h
      · rename_i h1; simpa using h1
      · have := Lib.index_ge t ends2
        omega
    have hb2 : ends2.isPrefixOf (b :: (t ++ x :: r)) = false := by
      cases hp : ends2.isPrefixOf (b :: (t ++ x :: r)) with
      | false => rfl
      | true =>
        exfalso
        unfold ends2 at hp hb
        cases t with
        | nil =>
          rw [List.nil_append, List.isPrefixOf, List.isPrefixOf] at hp
          simp at hp
          exact hx hp.2.symm
        | cons d t =>
          rw [List.cons_append, List.isPrefixOf, List.isPrefixOf] at hp
          rw [List.isPrefixOf, List.isPrefixOf] at hb
          simp at hp hb
          exact hb hp.1 hp.2
    have ih := index_behind t x r ht hx h0
    rw [List.cons_append, Lib.index, hb2, ih]
    simp only [Bool.false_eq_true, if_false]
    rw [if_neg (by simp only [beq_iff_eq]; omega)]
    simp
    omega
theorem index_here (r : List UInt8) : Lib.index (42 :: 47 :: r) ends2 = 0 := by
  rw [Lib.index, if_pos (by simp [ends2, List.isPrefixOf])]

theorem trim_spaces (t : List UInt8) : trimF (32 :: t ++ [32]) = trimF t := by
  rw [trimF_R, trimF_R]
  have e1 : trimR (32 :: t ++ [32]) = rtrim blankF ((t ++ [32]).dropWhile blankF) := by
    unfold trimR rtrim
    rw [List.cons_append, dropWhile_front (by decide)]
  have e2 : trimR t = rtrim blankF (t.dropWhile blankF) := rfl
  rw [e1, e2, ← trim_sides, ← trim_sides, rtrim_front (by decide)]

theorem no_end (t : List UInt8) (h : Lib.contains t ends2 = false) : Lib.index t ends2 = -1 := by
  unfold Lib.contains at h
  have h2 : ¬ 0 ≤ Lib.index t ends2 := by simpa using h
  have := Lib.index_ge t ends2
  omega

theorem step_of_first (c : UInt8) (r : List UInt8) (h : skipF (c :: r) = 0) {k : Nat} {t : List UInt8} {n : Nat} (hf : firstF (c :: r) = some (k, t, n)) : stepF (c :: r) = .tok k t n := by
  rw [(step_first c r h).2.2, hf]

/-- what is written of a token, and a blank behind: that token comes first -/
theorem step_written (k : Int) (t : List UInt8) (hr : rightF k t = true) (b : UInt8) (hb : blankF b = true) (rest : List UInt8) :
    stepF (writtenF k t ++ b :: rest) = .tok k.toNat t (writtenF k t).length ∧ writtenF k t ≠ [] := by
  obtain ⟨bl, b34, b39, b42, b45, b47⟩ := blank_parts b hb
  rcases right_kind hr with rfl | rfl | rfl | rfl | rfl | rfl
  · have hw : writtenF 1 t = t := rfl
    rw [hw]
    have hF : rightWordF t = true := hr
    cases t with
    | nil => simp [rightWordF] at hF
    | cons c r =>
      simp only [rightWordF, Bool.and_eq_true, decide_eq_true_eq] at hF
      obtain ⟨h1, h2, h3⟩ := hF
      have hlod : lodF c = true := by simp [lodF, h1]
      have hrun := runF_append (p := lodF) (c :: r) b rest h2 bl
      rw [List.cons_append] at hrun ⊢
      refine ⟨step_of_first c _ (skip_lod c _ hlod) ?_, by simp⟩
      simp only [firstF, h1, if_true]
      rw [hrun]
      have e1 : (c :: (r ++ b :: rest)).take (c :: r).length = c :: r := by
        rw [← List.cons_append, List.take_left']
        rfl
      rw [e1, h3]
      rfl
  · have hw : writtenF 2 t = 34 :: (twiceF 34 t ++ [34]) := rfl
    rw [hw]
    have hs : skipF (34 :: (twiceF 34 t ++ [34] ++ b :: rest)) = 0 := skip_plain _ _ (by decide) (beg_not (by decide)) (by decide) (beg_not (by decide))
    refine ⟨?_, by simp⟩
    rw [List.cons_append]
    refine step_of_first _ _ hs ?_
    simp only [firstF]
    rw [if_neg (by decide), if_neg (by decide), if_pos (by decide), List.append_assoc]
    have := quoted_back 34 t (b :: rest) (by simpa using b34)
    rw [List.singleton_append, this]
    simp
  · have hw : writtenF 3 t = 39 :: (twiceF 39 t ++ [39]) := rfl
    rw [hw]
    have hs : skipF (39 :: (twiceF 39 t ++ [39] ++ b :: rest)) = 0 := skip_plain _ _ (by decide) (beg_not (by decide)) (by decide) (beg_not (by decide))
    refine ⟨?_, by simp⟩
    rw [List.cons_append]
    refine step_of_first _ _ hs ?_
    simp only [firstF]
    rw [if_neg (by decide), if_neg (by decide), if_neg (by decide), if_pos (by decide), List.append_assoc]
    have := quoted_back 39 t (b :: rest) (by simpa using b39)
    rw [List.singleton_append, this]
    simp
  · have hw : writtenF 4 t = t := rfl
    rw [hw]
    have hF : (decide (t ≠ []) && decide (runF digitF t = t.length)) = true := hr
    simp only [Bool.and_eq_true, decide_eq_true_eq] at hF
    cases t with
    | nil => exact absurd rfl hF.1
    | cons c r =>
      have h2 := hF.2
      have hd : digitF c = true := by
        cases hp : digitF c with
        | true => rfl
        | false => rw [runF_none hp] at h2; simp at h2
      have hlod : lodF c = true := by simp [lodF, hd]
      have hbd : digitF b = false := by
        cases hp : digitF b with
        | false => rfl
        | true => simp [lodF, hp] at bl
      have hrun := runF_append (p := digitF) (c :: r) b rest h2 hbd
      rw [List.cons_append] at hrun ⊢
      refine ⟨step_of_first c _ (skip_lod c _ hlod) ?_, by simp⟩
      simp only [firstF, digit_no_letter c hd, hd, Bool.false_eq_true, if_false, if_true]
      rw [hrun]
      have e1 : (c :: (r ++ b :: rest)).take (c :: r).length = c :: r := by
        rw [← List.cons_append, List.take_left']
        rfl
      rw [e1]
      rfl
  · have hF : (!Lib.contains t ends2 && decide (trimF t = t)) = true := hr
    simp only [Bool.and_eq_true, Bool.not_eq_true', decide_eq_true_eq] at hF
    have hw : writtenF 5 t ++ b :: rest = 47 :: (42 :: 43 :: 32 :: (t ++ 32 :: 42 :: 47 :: b :: rest)) := by simp [writtenF]
    have hwl : (writtenF 5 t).length = t.length + 7 := by simp [writtenF]
    have hidx : Lib.index (32 :: (t ++ 32 :: 42 :: 47 :: b :: rest)) ends2 = (t.length : Int) + 2 := by
      have h1 := index_behind t 32 (42 :: 47 :: b :: rest) (no_end t hF.1) (by decide) (by
        have := index_behind [32] 42 (47 :: b :: rest) (by decide) (by decide) (by rw [index_here]; omega)
        rw [List.singleton_append, index_here] at this
        rw [this]; simp)
      have h2 := index_behind [32] 42 (47 :: b :: rest) (by decide) (by decide) (by rw [index_here]; omega)
      rw [List.singleton_append, index_here] at h2
      rw [h2] at h1
      rw [Lib.index, if_neg (by simp [ends2, List.isPrefixOf]), h1, if_neg (by simp only [beq_iff_eq]; simp; omega)]
      simp
      omega
    have hbeg : begF [47, 42, 43] (47 :: (42 :: 43 :: 32 :: (t ++ 32 :: 42 :: 47 :: b :: rest))) = true := by simp [begF, Lib.hasPrefix, List.isPrefixOf]
    have hcl : closedF (47 :: (42 :: 43 :: 32 :: (t ++ 32 :: 42 :: 47 :: b :: rest))) 3 = t.length + 7 := by
      unfold closedF
      simp only [List.drop_succ_cons, List.drop_zero]
      rw [hidx, if_neg (by omega)]
      omega
    have hs : skipF (47 :: (42 :: 43 :: 32 :: (t ++ 32 :: 42 :: 47 :: b :: rest))) = 0 := by
      have hrm : isRemarkF (47 :: (42 :: 43 :: 32 :: (t ++ 32 :: 42 :: 47 :: b :: rest))) = false := by unfold isRemarkF; rw [hbeg]; simp
      have hln : isLineF (47 :: (42 :: 43 :: 32 :: (t ++ 32 :: 42 :: 47 :: b :: rest))) = false := by
        show (decide ((47 : UInt8).toNat = 35) || begF [45, 45] _) = false
        rw [beg_not (by decide)]
        decide
      rw [skipF, if_neg (by decide), hrm, hln]
      rfl
    refine ⟨?_, by intro e; rw [e] at hwl; simp at hwl⟩
    rw [hw, hwl]
    refine step_of_first _ _ hs ?_
    simp only [firstF]
    rw [if_neg (by decide), if_neg (by decide), if_neg (by decide), if_neg (by decide), if_pos hbeg, hcl, if_neg (by omega)]
    have e1 : ((47 :: (42 :: 43 :: 32 :: (t ++ 32 :: 42 :: 47 :: b :: rest))).take (t.length + 7 - 2)).drop 3 = 32 :: t ++ [32] := by
      rw [show t.length + 7 - 2 = (t.length + 1) + 1 + 1 + 1 + 1 from by omega]
      simp only [List.take_succ_cons, List.drop_succ_cons, List.drop_zero]
      have e2 : t ++ 32 :: 42 :: 47 :: b :: rest = (t ++ [32]) ++ 42 :: 47 :: b :: rest := by simp
      rw [e2, List.take_left' (by simp)]
      rfl
    rw [e1, trim_spaces, hF.2]
    rfl
  · have hw : writtenF 6 t = t := rfl
    rw [hw]
    cases t with
    | nil => exact absurd hr (by decide)
    | cons c r =>
      cases r with
      | cons d r =>
        have hF : false = true := hr
        cases hF
      | nil =>
        have hF : signF c = true := hr
        obtain ⟨g1, g2, g3, g4, g5, g6, g7, g8⟩ := (sign_parts c).1 hF
        have hs : skipF (c :: b :: rest) = 0 := skip_plain _ _ (blank_lt c g1) (beg_snd b42) g8 (beg_snd b45)
        refine ⟨step_of_first c _ hs ?_, by simp⟩
        simp only [firstF, g3, g4, Bool.false_eq_true, if_false]
        rw [if_neg (by omega), if_neg g7, if_neg (by rw [beg3_snd b42]; simp), if_pos hF]
        rfl

/-- a gap: a blank first, and nothing is told of it -/
structure Gap (g : List UInt8) : Prop where
  head : ∃ b g', g = b :: g' ∧ blankF b = true
  none_ : ∀ rest, lexF (g ++ rest) = lexF rest

theorem lex_back {g : List UInt8} (hg : Gap g) : ∀ ts : List (Int × List UInt8), (∀ t ∈ ts, rightF t.1 t.2 = true) → lexF (ts.flatMap fun t => writtenF t.1 t.2 ++ g) = some ts
  | [], _ => by rw [List.flatMap_nil, lexF_nil]
  | t :: ts, h => by
    have ih := lex_back hg ts (fun x hx => h x (List.mem_cons_of_mem _ hx))
    have ht := h t (by simp)
    obtain ⟨b, g', rfl, hb⟩ := hg.head
    obtain ⟨hs, hne⟩ := step_written t.1 t.2 ht b hb (g' ++ ts.flatMap fun t => writtenF t.1 t.2 ++ b :: g')
    have hk : ((t.1.toNat : Nat) : Int) = t.1 := by have := right_kind ht; omega
    have e1 : ((t :: ts).flatMap fun t => writtenF t.1 t.2 ++ b :: g') = writtenF t.1 t.2 ++ b :: (g' ++ ts.flatMap fun t => writtenF t.1 t.2 ++ b :: g') := by simp
    rw [e1, lexF_tok (by simp) hs (by intro e; exact hne (List.eq_nil_of_length_eq_zero e)), List.drop_left', ← List.cons_append, hg.none_, ih, hk]
    · rfl
    · rfl
end Go.Proofs.YtliadhpnkgpemaaDoor
