/-
  Contracts and plain functions that the law stands on, part 3 of 5.
-/
import Derived.Test.YtaimmdhjfccnkaaGreatDoorQ2
import Derived.Lib.Case
import Derived.Lib.MapLaws
import Derived.BigQuiet
import Derived.Test.YtaimmdhjfccnkaaGreatDoorShelf4
import Derived.Laws.Cover1
import Derived.Lib.AppendZerosOnto
import Derived.Lib.SliceRun
namespace Go.Proofs.YtaimmdhjfccnkaaGreatDoor
/- Tokens come back from what is written of them, whatever stands between: plain mathematics. -/
section
open Go.RowKit
set_option maxRecDepth 100000

theorem blank_parts (b : UInt8) (h : blankF b = true) : lodF b = false ∧ b ≠ 34 ∧ b ≠ 39 ∧ b ≠ 42 ∧ b ≠ 45 ∧ b ≠ 47 := by
  have := by_all (fun b => !blankF b || (!lodF b && (decide (b ≠ 34) && (decide (b ≠ 39) && (decide (b ≠ 42) && (decide (b ≠ 45) && decide (b ≠ 47))))))) (by decide +kernel) b
  rw [h] at this
  simp only [Bool.not_true, Bool.false_or, Bool.and_eq_true, Bool.not_eq_true', decide_eq_true_eq] at this
  exact this
theorem runF_append {p : UInt8 → Bool} : ∀ (t : List UInt8) (b : UInt8) (r : List UInt8), runF p t = t.length → p b = false → runF p (t ++ b :: r) = t.length
  | [], b, r, _, hb => runF_none hb
  | c :: t, b, r, h, hb => by
    have hc : p c = true := by
      cases hp : p c with
      | true => rfl
      | false => rw [runF_none hp] at h; simp at h
    rw [runF_some hc] at h
    rw [List.cons_append, runF_some hc, runF_append t b r (by simpa using h) hb]
    rfl
theorem beg_snd {a b c d : UInt8} {r : List UInt8} (h : d ≠ b) : begF [a, b] (c :: d :: r) = false := by
  cases hb : begF [a, b] (c :: d :: r) with
  | false => rfl
  | true =>
    unfold begF Lib.hasPrefix at hb
    rw [List.isPrefixOf, List.isPrefixOf] at hb
    simp at hb
    exact absurd hb.2.symm h
theorem beg3_snd {a b e c d : UInt8} {r : List UInt8} (h : d ≠ b) : begF [a, b, e] (c :: d :: r) = false := by
  cases hb : begF [a, b, e] (c :: d :: r) with
  | false => rfl
  | true =>
    unfold begF Lib.hasPrefix at hb
    rw [List.isPrefixOf, List.isPrefixOf] at hb
    simp at hb
    exact absurd hb.2.1.symm h

theorem quoted_back (q : UInt8) : ∀ (t r : List UInt8), r[0]? ≠ some q → quotedF q (twiceF q t ++ q :: r) = some (t, (twiceF q t).length + 1)
  | [], r, h => by
    rw [twiceF, List.nil_append, quotedF_ends h]
    rfl
  | b :: t, r, h => by
    have ih := quoted_back q t r h
    rw [twiceF]
    split
    · rename_i hb
      subst hb
      rw [List.cons_append, List.cons_append, quotedF_twice, ih]
      simp
    · rename_i hb
      rw [List.cons_append, quotedF_other hb, ih]
      simp

theorem index_behind : ∀ (t : List UInt8) (x : UInt8) (r : List UInt8), Lib.index t ends2 = -1 → x ≠ 47 → 0 ≤ Lib.index (x :: r) ends2 → Lib.index (t ++ x :: r) ends2 = (t.length : Int) + Lib.index (x :: r) ends2
  | [], x, r, _, _, _ => by simp
  | b :: t, x, r, h, hx, h0 => by
    have hb : ends2.isPrefixOf (b :: t) = false := by
      cases hp : ends2.isPrefixOf (b :: t) with
      | false => rfl
      | true => rw [Lib.index, hp] at h; simp at h
    have ht : Lib.index t ends2 = -1 := by
      rw [Lib.index, hb] at h
      simp only [Bool.false_eq_true, if_false] at h
      split at h
      · rename_i h1; simpa using h1
      · have := Lib.index_ge t ends2
        omega
    have hb2 : ends2.isPrefixOf (b :: (t ++ x :: r)) = false := by
      cases hp : ends2.isPrefixOf (b :: (t ++ x :: r)) with
      | false => rfl
      | true =>
        exfalso
        unfold ends2 at hp hb
        cases t with
        | nil =>
          rw [List.nil_append, List.isPrefixOf, List.isPrefixOf] at hp
          simp at hp
          exact hx hp.2.symm
        | cons d t =>
          rw [List.cons_append, List.isPrefixOf, List.isPrefixOf] at hp
          rw [List.isPrefixOf, List.isPrefixOf] at hb
          simp at hp hb
          exact hb hp.1 hp.2
    have ih := index_behind t x r ht hx h0
    rw [List.cons_append, Lib.index, hb2, ih]
    simp only [Bool.false_eq_true, if_false]
    rw [if_neg (by simp only [beq_iff_eq]; omega)]
    simp
    omega
theorem index_here (r : List UInt8) : Lib.index (42 :: 47 :: r) ends2 = 0 := by
  rw [Lib.index, if_pos (by simp [ends2, List.isPrefixOf])]

theorem trim_spaces (t : List UInt8) : trimF (32 :: t ++ [32]) = trimF t := by
  rw [trimF_R, trimF_R]
  have e1 : trimR (32 :: t ++ [32]) = rtrim blankF ((t ++ [32]).dropWhile blankF) := by
    unfold trimR rtrim
    rw [List.cons_append, dropWhile_front (by decide)]
  have e2 : trimR t = rtrim blankF (t.dropWhile blankF) := rfl
  rw [e1, e2, ← trim_sides, ← trim_sides, rtrim_front (by decide)]

theorem no_end (t : List UInt8) (h : Lib.contains t ends2 = false) : Lib.index t ends2 = -1 := by
  unfold Lib.contains at h
  have h2 : ¬ 0 ≤ Lib.index t ends2 := by simpa using h
  have := Lib.index_ge t ends2
  omega

theorem step_of_first (c : UInt8) (r : List UInt8) (h : skipF (c :: r) = 0) {k : Nat} {t : List UInt8} {n : Nat} (hf : firstF (c :: r) = some (k, t, n)) : stepF (c :: r) = .tok k t n := by
  rw [(step_first c r h).2.2, hf]

/-- what is written of a token, and a blank behind: that token comes first -/
theorem step_written (k : Int) (t : List UInt8) (hr : rightF k t = true) (b : UInt8) (hb : blankF b = true) (rest : List UInt8) :
    stepF (writtenF k t ++ b :: rest) = .tok k.toNat t (writtenF k t).length ∧ writtenF k t ≠ [] := by
  obtain ⟨bl, b34, b39, b42, b45, b47⟩ := blank_parts b hb
  rcases right_kind hr with rfl | rfl | rfl | rfl | rfl | rfl
  · have hw : writtenF 1 t = t := rfl
    rw [hw]
    have hF : rightWordF t = true := hr
    cases t with
    | nil => simp [rightWordF] at hF
    | cons c r =>
      simp only [rightWordF, Bool.and_eq_true, decide_eq_true_eq] at hF
      obtain ⟨h1, h2, h3⟩ := hF
      have hlod : lodF c = true := by simp [lodF, h1]
      have hrun := runF_append (p := lodF) (c :: r) b rest h2 bl
      rw [List.cons_append] at hrun ⊢
      refine ⟨step_of_first c _ (skip_lod c _ hlod) ?_, by simp⟩
      simp only [firstF, h1, if_true]
      rw [hrun]
      have e1 : (c :: (r ++ b :: rest)).take (c :: r).length = c :: r := by
        rw [← List.cons_append, List.take_left']
        rfl
      rw [e1, h3]
      rfl
  · have hw : writtenF 2 t = 34 :: (twiceF 34 t ++ [34]) := rfl
    rw [hw]
    have hs : skipF (34 :: (twiceF 34 t ++ [34] ++ b :: rest)) = 0 := skip_plain _ _ (by decide) (beg_not (by decide)) (by decide) (beg_not (by decide))
    refine ⟨?_, by simp⟩
    rw [List.cons_append]
    refine step_of_first _ _ hs ?_
    simp only [firstF]
    rw [if_neg (by decide), if_neg (by decide), if_pos (by decide), List.append_assoc]
    have := quoted_back 34 t (b :: rest) (by simpa using b34)
    rw [List.singleton_append, this]
    simp
  · have hw : writtenF 3 t = 39 :: (twiceF 39 t ++ [39]) := rfl
    rw [hw]
    have hs : skipF (39 :: (twiceF 39 t ++ [39] ++ b :: rest)) = 0 := skip_plain _ _ (by decide) (beg_not (by decide)) (by decide) (beg_not (by decide))
    refine ⟨?_, by simp⟩
    rw [List.cons_append]
    refine step_of_first _ _ hs ?_
    simp only [firstF]
    rw [if_neg (by decide), if_neg (by decide), if_neg (by decide), if_pos (by decide), List.append_assoc]
    have := quoted_back 39 t (b :: rest) (by simpa using b39)
    rw [List.singleton_append, this]
    simp
  · have hw : writtenF 4 t = t := rfl
    rw [hw]
    have hF : (decide (t ≠ []) && decide (runF digitF t = t.length)) = true := hr
    simp only [Bool.and_eq_true, decide_eq_true_eq] at hF
    cases t with
    | nil => exact absurd rfl hF.1
    | cons c r =>
      have h2 := hF.2
      have hd : digitF c = true := by
        cases hp : digitF c with
        | true => rfl
        | false => rw [runF_none hp] at h2; simp at h2
      have hlod : lodF c = true := by simp [lodF, hd]
      have hbd : digitF b = false := by
        cases hp : digitF b with
        | false => rfl
        | true => simp [lodF, hp] at bl
      have hrun := runF_append (p := digitF) (c :: r) b rest h2 hbd
      rw [List.cons_append] at hrun ⊢
      refine ⟨step_of_first c _ (skip_lod c _ hlod) ?_, by simp⟩
      simp only [firstF, digit_no_letter c hd, hd, Bool.false_eq_true, if_false, if_true]
      rw [hrun]
      have e1 : (c :: (r ++ b :: rest)).take (c :: r).length = c :: r := by
        rw [← List.cons_append, List.take_left']
        rfl
      rw [e1]
      rfl
  · have hF : (!Lib.contains t ends2 && decide (trimF t = t)) = true := hr
    simp only [Bool.and_eq_true, Bool.not_eq_true', decide_eq_true_eq] at hF
    have hw : writtenF 5 t ++ b :: rest = 47 :: (42 :: 43 :: 32 :: (t ++ 32 :: 42 :: 47 :: b :: rest)) := by simp [writtenF]
    have hwl : (writtenF 5 t).length = t.length + 7 := by simp [writtenF]
    have hidx : Lib.index (32 :: (t ++ 32 :: 42 :: 47 :: b :: rest)) ends2 = (t.length : Int) + 2 := by
      have h1 := index_behind t 32 (42 :: 47 :: b :: rest) (no_end t hF.1) (by decide) (by
        have := index_behind [32] 42 (47 :: b :: rest) (by decide) (by decide) (by rw [index_here]; omega)
        rw [List.singleton_append, index_here] at this
        rw [this]; simp)
      have h2 := index_behind [32] 42 (47 :: b :: rest) (by decide) (by decide) (by rw [index_here]; omega)
      rw [List.singleton_append, index_here] at h2
      rw [h2] at h1
      rw [Lib.index, if_neg (by simp [ends2, List.isPrefixOf]), h1, if_neg (by simp only [beq_iff_eq]; simp; omega)]
      simp
      omega
    have hbeg : begF [47, 42, 43] (47 :: (42 :: 43 :: 32 :: (t ++ 32 :: 42 :: 47 :: b :: rest))) = true := by simp [begF, Lib.hasPrefix, List.isPrefixOf]
    have hcl : closedF (47 :: (42 :: 43 :: 32 :: (t ++ 32 :: 42 :: 47 :: b :: rest))) 3 = t.length + 7 := by
      unfold closedF
      simp only [List.drop_succ_cons, List.drop_zero]
      rw [hidx, if_neg (by omega)]
      omega
    have hs : skipF (47 :: (42 :: 43 :: 32 :: (t ++ 32 :: 42 :: 47 :: b :: rest))) = 0 := by
      have hrm : isRemarkF (47 :: (42 :: 43 :: 32 :: (t ++ 32 :: 42 :: 47 :: b :: rest))) = false := by unfold isRemarkF; rw [hbeg]; simp
      have hln : isLineF (47 :: (42 :: 43 :: 32 :: (t ++ 32 :: 42 :: 47 :: b :: rest))) = false := by
        show (decide ((47 : UInt8).toNat = 35) || begF [45, 45] _) = false
        rw [beg_not (by decide)]
        decide
      rw [skipF, if_neg (by decide), hrm, hln]
      rfl
    refine ⟨?_, by intro e; rw [e] at hwl; simp at hwl⟩
    rw [hw, hwl]
    refine step_of_first _ _ hs ?_
    simp only [firstF]
    rw [if_neg (by decide), if_neg (by decide), if_neg (by decide), if_neg (by decide), if_pos hbeg, hcl, if_neg (by omega)]
    have e1 : ((47 :: (42 :: 43 :: 32 :: (t ++ 32 :: 42 :: 47 :: b :: rest))).take (t.length + 7 - 2)).drop 3 = 32 :: t ++ [32] := by
      rw [show t.length + 7 - 2 = (t.length + 1) + 1 + 1 + 1 + 1 from by omega]
      simp only [List.take_succ_cons, List.drop_succ_cons, List.drop_zero]
      have e2 : t ++ 32 :: 42 :: 47 :: b :: rest = (t ++ [32]) ++ 42 :: 47 :: b :: rest := by simp
      rw [e2, List.take_left' (by simp)]
      rfl
    rw [e1, trim_spaces, hF.2]
    rfl
  · have hw : writtenF 6 t = t := rfl
    rw [hw]
    cases t with
    | nil => exact absurd hr (by decide)
    | cons c r =>
      cases r with
      | cons d r =>
        have hF : false = true := hr
        cases hF
      | nil =>
        have hF : signF c = true := hr
        obtain ⟨g1, g2, g3, g4, g5, g6, g7, g8⟩ := (sign_parts c).1 hF
        have hs : skipF (c :: b :: rest) = 0 := skip_plain _ _ (blank_lt c g1) (beg_snd b42) g8 (beg_snd b45)
        refine ⟨step_of_first c _ hs ?_, by simp⟩
        simp only [firstF, g3, g4, Bool.false_eq_true, if_false]
        rw [if_neg (by omega), if_neg g7, if_neg (by rw [beg3_snd b42]; simp), if_pos hF]
        rfl

/-- a gap: a blank first, and nothing is told of it -/
structure Gap (g : List UInt8) : Prop where
  head : ∃ b g', g = b :: g' ∧ blankF b = true
  none_ : ∀ rest, lexF (g ++ rest) = lexF rest

theorem lex_back {g : List UInt8} (hg : Gap g) : ∀ ts : List (Int × List UInt8), (∀ t ∈ ts, rightF t.1 t.2 = true) → lexF (ts.flatMap fun t => writtenF t.1 t.2 ++ g) = some ts
  | [], _ => by rw [List.flatMap_nil, lexF_nil]
  | t :: ts, h => by
    have ih := lex_back hg ts (fun x hx => h x (List.mem_cons_of_mem _ hx))
    have ht := h t (by simp)
    obtain ⟨b, g', rfl, hb⟩ := hg.head
    obtain ⟨hs, hne⟩ := step_written t.1 t.2 ht b hb (g' ++ ts.flatMap fun t => writtenF t.1 t.2 ++ b :: g')
    have hk : ((t.1.toNat : Nat) : Int) = t.1 := by have := right_kind ht; omega
    have e1 : ((t :: ts).flatMap fun t => writtenF t.1 t.2 ++ b :: g') = writtenF t.1 t.2 ++ b :: (g' ++ ts.flatMap fun t => writtenF t.1 t.2 ++ b :: g') := by simp
    rw [e1, lexF_tok (by simp) hs (by intro e; exact hne (List.eq_nil_of_length_eq_zero e)), List.drop_left', ← List.cons_append, hg.none_, ih, hk]
    · rfl
    · rfl
end

/- Letters' greatness changes no token where nothing is quoted: plain mathematics. -/
section
open Go.RowKit
set_option maxRecDepth 100000

/-- a change of letters' greatness -/
structure Fold (u : UInt8 → UInt8) : Prop where
  keeps : ∀ c, letterF c = false → u c = c
  letter : ∀ c, letterF c = true → letterF (u c) = true
  up : ∀ c, upF (u c) = upF c
theorem Fold.letterF {u : UInt8 → UInt8} (h : Fold u) (c : UInt8) : Go.Proofs.YtaimmdhjfccnkaaGreatDoor.letterF (u c) = Go.Proofs.YtaimmdhjfccnkaaGreatDoor.letterF c := by
  cases hl : Go.Proofs.YtaimmdhjfccnkaaGreatDoor.letterF c with
  | true => exact h.letter c hl
  | false => rw [h.keeps c hl, hl]
theorem Fold.same {u : UInt8 → UInt8} (h : Fold u) (P : UInt8 → Bool) (hP : ∀ c, Go.Proofs.YtaimmdhjfccnkaaGreatDoor.letterF c = true → P c = false) (c : UInt8) : P (u c) = P c := by
  cases hl : Go.Proofs.YtaimmdhjfccnkaaGreatDoor.letterF c with
  | true => rw [hP c hl, hP _ (h.letter c hl)]
  | false => rw [h.keeps c hl]
theorem not_letter (P : UInt8 → Bool) (h : ∀ c, (!(letterF c && P c)) = true) : ∀ c, letterF c = true → P c = false := fun c hl => by
  have := h c
  rw [hl] at this
  simpa using this
theorem Fold.lod {u : UInt8 → UInt8} (h : Fold u) (c : UInt8) : lodF (u c) = lodF c := by
  unfold lodF
  rw [h.letterF, h.same digitF (not_letter _ (by_all _ (by decide +kernel)))]
theorem runF_map {u : UInt8 → UInt8} {p : UInt8 → Bool} (h : ∀ c, p (u c) = p c) : ∀ l, runF p (l.map u) = runF p l
  | [] => rfl
  | c :: r => by rw [List.map_cons, runF, runF, h c, runF_map h r]
theorem greatF_map {u : UInt8 → UInt8} (h : Fold u) (l : List UInt8) : greatF (l.map u) = greatF l := by
  unfold greatF
  rw [List.map_map]
  exact List.map_congr_left fun c _ => h.up c
theorem indexByte_map {u : UInt8 → UInt8} (h : ∀ c, (u c == 10) = (c == 10)) : ∀ l, Lib.indexByte (l.map u) 10 = Lib.indexByte l 10
  | [] => rfl
  | c :: r => by rw [List.map_cons, Lib.indexByte, Lib.indexByte, h c, indexByte_map h r]
theorem map_same {u : UInt8 → UInt8} (l : List UInt8) (h : ∀ c ∈ l, u c = c) : l.map u = l := by
  rw [List.map_congr_left h]
  simp

/-- nothing is quoted, and no remark or hint begins -/
def PlainB (l : List UInt8) : Prop := ∀ c ∈ l, c ≠ 34 ∧ c ≠ 39 ∧ c ≠ 96 ∧ c ≠ 42

theorem beg47 (c : UInt8) (r : List UInt8) (h : ∀ d ∈ r, d ≠ 42) : begF [47, 42] (c :: r) = false ∧ begF [47, 42, 43] (c :: r) = false := by
  cases r with
  | nil => simp [begF, Lib.hasPrefix, List.isPrefixOf]
  | cons d r =>
    have hd := h d (by simp)
    exact ⟨beg_snd hd, beg3_snd hd⟩
theorem beg45_map {u : UInt8 → UInt8} (h : Fold u) (c : UInt8) (r : List UInt8) : begF [45, 45] (u c :: r.map u) = begF [45, 45] (c :: r) := by
  have h45 := h.same (fun c => 45 == c) (not_letter _ (by_all _ (by decide +kernel)))
  cases r with
  | nil => simp [begF, Lib.hasPrefix, List.isPrefixOf]
  | cons d r => simp only [begF, Lib.hasPrefix, List.isPrefixOf, List.map_cons, h45]

theorem step_map {u : UInt8 → UInt8} (h : Fold u) (l : List UInt8) (hp : PlainB l) : stepF (l.map u) = stepF l := by
  cases l with
  | nil => rfl
  | cons c r =>
    obtain ⟨c34, c39, c96, c42⟩ := hp c (by simp)
    have hr : ∀ d ∈ r, d ≠ 42 := fun d hd => (hp d (List.mem_cons_of_mem _ hd)).2.2.2
    have h42 := h.same (fun c => c == 42) (not_letter _ (by_all _ (by decide +kernel)))
    have hru : ∀ d ∈ r.map u, d ≠ 42 := fun d hd => by
      obtain ⟨x, hx, rfl⟩ := List.mem_map.1 hd
      have h1 := h42 x
      have h2 : (x == 42) = false := by simpa using hr x hx
      rw [h2] at h1
      simpa using h1
    have hbl := h.same blankF (not_letter _ (by_all _ (by decide +kernel))) c
    have h35 := h.same (fun c => decide (c.toNat = 35)) (not_letter _ (by_all _ (by decide +kernel))) c
    have hln : isLineF (u c :: r.map u) = isLineF (c :: r) := by
      show (decide ((u c).toNat = 35) || begF [45, 45] (u c :: r.map u)) = (decide (c.toNat = 35) || begF [45, 45] (c :: r))
      rw [h35, beg45_map h]
    have hrm : isRemarkF (c :: r) = false := by unfold isRemarkF; rw [(beg47 c r hr).1]; rfl
    have hrmu : isRemarkF (u c :: r.map u) = false := by unfold isRemarkF; rw [(beg47 _ _ hru).1]; rfl
    have hlF : lineF (u c :: r.map u) = lineF (c :: r) := by
      have h10 := h.same (fun c => c == 10) (not_letter _ (by_all _ (by decide +kernel)))
      have := indexByte_map (u := u) h10 (c :: r)
      rw [List.map_cons] at this
      unfold lineF
      rw [this]
      simp
    have hF : firstF (u c :: r.map u) = firstF (c :: r) := by
      have hdg := h.same digitF (not_letter _ (by_all _ (by decide +kernel)))
      have hsg := h.same signF
      have hq1 := h.same (fun c => decide (c.toNat = 34 ∨ c.toNat = 96)) (not_letter _ (by_all _ (by decide +kernel))) c
      have hq2 := h.same (fun c => decide (c.toNat = 39)) (not_letter _ (by_all _ (by decide +kernel))) c
      have n1 : ¬ (c.toNat = 34 ∨ c.toNat = 96) := by
        rintro (e | e)
        · exact c34 (UInt8.toNat_inj.1 e)
        · exact c96 (UInt8.toNat_inj.1 e)
      have n2 : ¬ c.toNat = 39 := fun e => c39 (UInt8.toNat_inj.1 e)
      rw [decide_eq_false n1] at hq1
      rw [decide_eq_false n2] at hq2
      have m1 := of_decide_eq_false hq1
      have m2 := of_decide_eq_false hq2
      have e0 : u c :: r.map u = (c :: r).map u := rfl
      have hrl := runF_map (p := lodF) h.lod (c :: r)
      have hrd := runF_map (p := digitF) hdg (c :: r)
      simp only [firstF]
      rw [h.letterF]
      cases hl : Go.Proofs.YtaimmdhjfccnkaaGreatDoor.letterF c with
      | true =>
        simp only [if_true]
        rw [e0, hrl, ← List.map_take, greatF_map h]
      | false =>
        simp only [Bool.false_eq_true, if_false]
        rw [hdg c]
        cases hd : digitF c with
        | true =>
          simp only [if_true]
          rw [e0, hrd, ← List.map_take, map_same]
          intro x hx
          have hxd := runF_all digitF (c :: r) x hx
          exact h.keeps x (digit_no_letter x hxd)
        | false =>
          simp only [Bool.false_eq_true, if_false]
          rw [if_neg n1, if_neg m1, if_neg n2, if_neg m2, (beg47 c r hr).2, (beg47 _ _ hru).2, h.keeps c hl]
          simp only [Bool.false_eq_true, if_false]
    rw [List.map_cons, stepF, stepF, hbl, hln, hrm, hrmu, hlF, hF]
    simp only [Bool.false_eq_true, if_false]

theorem lexF_map {u : UInt8 → UInt8} (h : Fold u) : ∀ (n : Nat) (l : List UInt8), l.length ≤ n → PlainB l → lexF (l.map u) = lexF l
  | 0, l, hn, _ => by
    obtain rfl : l = [] := List.eq_nil_of_length_eq_zero (by omega)
    rfl
  | n + 1, l, hn, hp => by
    by_cases hne : l = []
    · subst hne; rfl
    have hne2 : l.map u ≠ [] := by simpa using hne
    have hl : 0 < l.length := List.length_pos_iff.2 hne
    have hst := step_map h l hp
    have hd : ∀ m, m ≠ 0 → lexF ((l.map u).drop m) = lexF (l.drop m) := fun m hm => by
      rw [← List.map_drop]
      exact lexF_map h n _ (by rw [List.length_drop]; omega) fun c hc => hp c (List.mem_of_mem_drop hc)
    cases hs : stepF l with
    | bad => rw [lexF_bad hne hs, lexF_bad hne2 (hst.trans hs)]
    | skip m =>
      by_cases hm : m = 0
      · rw [lexF, dif_neg hne2, lexF, dif_neg hne, hst, hs]
        simp [hm]
      · rw [lexF_skip hne hs hm, lexF_skip hne2 (hst.trans hs) hm, hd m hm]
    | tok k t m =>
      by_cases hm : m = 0
      · rw [lexF, dif_neg hne2, lexF, dif_neg hne, hst, hs]
        simp [hm]
      · rw [lexF_tok hne hs hm, lexF_tok hne2 (hst.trans hs) hm, hd m hm]
theorem lexA_map {u : UInt8 → UInt8} (h : Fold u) (l : List UInt8) (hp : PlainB l) : lexA (l.map u) = lexA l := by
  unfold lexA
  rw [List.length_map, lexF_map h _ l (Nat.le_refl _) hp]

theorem fold_upper : Fold Lib.upperB := ⟨fun c hl => by
    have := by_all (fun c => letterF c || Lib.upperB c == c) (by decide +kernel) c
    rw [hl] at this
    simpa using this, fun c hl => by
    have := by_all (fun c => !letterF c || letterF (Lib.upperB c)) (by decide +kernel) c
    rw [hl] at this
    simpa using this, fun c => by
    have := by_all (fun c => upF (Lib.upperB c) == upF c) (by decide +kernel) c
    simpa using this⟩
theorem fold_lower : Fold Lib.lowerB := ⟨fun c hl => by
    have := by_all (fun c => letterF c || Lib.lowerB c == c) (by decide +kernel) c
    rw [hl] at this
    simpa using this, fun c hl => by
    have := by_all (fun c => !letterF c || letterF (Lib.lowerB c)) (by decide +kernel) c
    rw [hl] at this
    simpa using this, fun c => by
    have := by_all (fun c => upF (Lib.lowerB c) == upF c) (by decide +kernel) c
    simpa using this⟩
end

/- What may stand between two tokens: blanks, remarks of each kind; a remark's line without line ends: plain mathematics. -/
section
open Go.RowKit
set_option maxRecDepth 100000

theorem lexF_blank (b : UInt8) (rest : List UInt8) (h : blankF b = true) : lexF (b :: rest) = lexF rest := by
  have hs : stepF (b :: rest) = .skip 1 := by rw [stepF, if_pos h]
  rw [lexF_skip (by simp) hs (by decide)]
  rfl
theorem indexByte_front : ∀ (t r : List UInt8), (10 : UInt8) ∉ t → Lib.indexByte (t ++ 10 :: r) 10 = (t.length : Int)
  | [], r, _ => by simp [Lib.indexByte]
  | b :: t, r, h => by
    have hb : b ≠ 10 := fun e => h (by rw [e]; simp)
    have ht : (10 : UInt8) ∉ t := fun e => h (List.mem_cons_of_mem _ e)
    have ih := indexByte_front t r ht
    rw [List.cons_append, Lib.indexByte, if_neg (by simpa using hb), ih, if_neg (by simp only [beq_iff_eq]; omega)]
    simp
theorem lexF_line (l rest : List UInt8) (t : List UInt8) (hl : l = t ++ 10 :: rest) (h : (10 : UInt8) ∉ t) (ht : t ≠ []) (hb : isLineF l = true) (hk : ∀ b, l[0]? = some b → blankF b = false) : lexF l = lexF rest := by
  have hne : l ≠ [] := by rw [hl]; simp
  have hs : stepF l = .skip t.length := by
    obtain ⟨c, r, hcr⟩ : ∃ c r, l = c :: r := by cases l with | nil => exact absurd rfl hne | cons c r => exact ⟨c, r, rfl⟩
    have hc := hk c (by rw [hcr]; rfl)
    rw [hcr] at hb ⊢
    rw [stepF, if_neg (by rw [hc]; simp), if_pos hb, ← hcr]
    unfold lineF
    rw [hl, indexByte_front t rest h, if_neg (by omega)]
    rfl
  rw [lexF_skip hne hs (by intro e; exact ht (List.eq_nil_of_length_eq_zero e)), hl, List.drop_left' rfl, lexF_blank 10 rest (by decide)]

theorem gap_blanks : Gap [9, 13, 10, 32] := ⟨⟨9, _, rfl, by decide⟩, fun rest => by
  rw [List.cons_append, List.cons_append, List.cons_append, List.cons_append, List.nil_append, lexF_blank _ _ (by decide), lexF_blank _ _ (by decide), lexF_blank _ _ (by decide), lexF_blank _ _ (by decide)]⟩
theorem gap_dashes (t : List UInt8) (h : (10 : UInt8) ∉ t) : Gap (32 :: 45 :: 45 :: (t ++ [10])) := ⟨⟨32, _, rfl, by decide⟩, fun rest => by
  rw [List.cons_append, lexF_blank _ _ (by decide)]
  refine lexF_line _ rest (45 :: 45 :: t) (by simp) (by simpa using h) (by simp) ?_ (by
    intro b hb
    simp at hb
    subst hb
    decide)
  rw [List.cons_append, List.cons_append]
  show (decide ((45 : UInt8).toNat = 35) || begF [45, 45] _) = true
  simp [begF, Lib.hasPrefix, List.isPrefixOf]⟩
theorem gap_hash (t : List UInt8) (h : (10 : UInt8) ∉ t) : Gap (32 :: 35 :: (t ++ [10])) := ⟨⟨32, _, rfl, by decide⟩, fun rest => by
  rw [List.cons_append, lexF_blank _ _ (by decide)]
  refine lexF_line _ rest (35 :: t) (by simp) (by simpa using h) (by simp) ?_ (by
    intro b hb
    simp at hb
    subst hb
    decide)
  rw [List.cons_append]
  show (decide ((35 : UInt8).toNat = 35) || begF [45, 45] (35 :: (t ++ [10] ++ rest))) = true
  simp⟩
theorem gap_remark (t : List UInt8) (h : Lib.contains t ends2 = false) (h43 : t[0]? ≠ some 43) : Gap (32 :: 47 :: 42 :: (t ++ [42, 47, 32])) := ⟨⟨32, _, rfl, by decide⟩, fun rest => by
  rw [List.cons_append, lexF_blank _ _ (by decide)]
  have e1 : 47 :: 42 :: (t ++ [42, 47, 32]) ++ rest = 47 :: 42 :: (t ++ 42 :: 47 :: 32 :: rest) := by simp
  rw [e1]
  have hidx : Lib.index (t ++ 42 :: 47 :: 32 :: rest) ends2 = (t.length : Int) := by
    rw [index_behind t 42 (47 :: 32 :: rest) (no_end t h) (by decide) (by rw [index_here]; omega), index_here]
    omega
  have hcl : closedF (47 :: 42 :: (t ++ 42 :: 47 :: 32 :: rest)) 2 = t.length + 4 := by
    unfold closedF
    simp only [List.drop_succ_cons, List.drop_zero]
    rw [hidx, if_neg (by omega)]
    omega
  have hln : isLineF (47 :: 42 :: (t ++ 42 :: 47 :: 32 :: rest)) = false := by
    show (decide ((47 : UInt8).toNat = 35) || begF [45, 45] _) = false
    rw [beg_not (by decide)]
    decide
  have hrm : isRemarkF (47 :: 42 :: (t ++ 42 :: 47 :: 32 :: rest)) = true := by
    have h3 : begF [47, 42, 43] (47 :: 42 :: (t ++ 42 :: 47 :: 32 :: rest)) = false := by
      cases t with
      | nil => simp [begF, Lib.hasPrefix, List.isPrefixOf]
      | cons c r =>
        have hc : c ≠ 43 := by simpa using h43
        have hc2 : ¬ 43 = c := fun e => hc e.symm
        simp [begF, Lib.hasPrefix, List.isPrefixOf, hc2]
    unfold isRemarkF
    rw [h3]
    simp [begF, Lib.hasPrefix, List.isPrefixOf]
  have hs : stepF (47 :: 42 :: (t ++ 42 :: 47 :: 32 :: rest)) = .skip (t.length + 4) := by
    rw [stepF, if_neg (by decide), if_neg (by rw [hln]; simp), if_pos hrm, hcl, if_neg (by omega)]
  rw [lexF_skip (by simp) hs (by omega)]
  have e2 : 47 :: 42 :: (t ++ 42 :: 47 :: 32 :: rest) = (47 :: 42 :: (t ++ [42, 47])) ++ 32 :: rest := by simp
  rw [e2, List.drop_left' (by simp), lexF_blank _ _ (by decide)]⟩

/-- what a line end becomes in a remark's line -/
def lnF (r : Int) : Int := if r = 10 then 32 else r
theorem byteZ_ne (x : Int) (h0 : 0 ≤ x) (h1 : x < 256) (h : x ≠ 10) : (10 : UInt8) ≠ x.toNat.toUInt8 := by
  intro e
  have := congrArg UInt8.toNat e
  simp at this
  omega
theorem encode_free (r : Int) (h0 : 0 ≤ r) (h : r ≠ 10) : (10 : UInt8) ∉ Lib.encodeRune r ∧ (Lib.encodeRune r).length ≤ 4 := by
  unfold Lib.encodeRune
  by_cases h1 : r ≤ 127
  · rw [Lib.encodeRuneZ_one h0 h1]
    simp only [List.map_cons, List.map_nil, List.mem_singleton, List.length_cons, List.length_nil]
    exact ⟨byteZ_ne r h0 (by omega) h, by omega⟩
  by_cases h2 : r ≤ 2047
  · rw [Lib.encodeRuneZ_two (by omega) h2]
    simp only [List.map_cons, List.map_nil, List.mem_cons, List.not_mem_nil, or_false, not_or, List.length_cons, List.length_nil]
    exact ⟨⟨byteZ_ne _ (by omega) (by omega) (by omega), byteZ_ne _ (by omega) (by omega) (by omega)⟩, by omega⟩
  by_cases h3 : (2048 ≤ r ∧ r < 55296) ∨ (57343 < r ∧ r ≤ 65535)
  · rw [Lib.encodeRuneZ_three h3]
    simp only [List.map_cons, List.map_nil, List.mem_cons, List.not_mem_nil, or_false, not_or, List.length_cons, List.length_nil]
    exact ⟨⟨byteZ_ne _ (by omega) (by omega) (by omega), byteZ_ne _ (by omega) (by omega) (by omega), byteZ_ne _ (by omega) (by omega) (by omega)⟩, by omega⟩
  by_cases h4 : 65536 ≤ r ∧ r ≤ 1114111
  · rw [Lib.encodeRuneZ_four h4.1 h4.2]
    simp only [List.map_cons, List.map_nil, List.mem_cons, List.not_mem_nil, or_false, not_or, List.length_cons, List.length_nil]
    exact ⟨⟨byteZ_ne _ (by omega) (by omega) (by omega), byteZ_ne _ (by omega) (by omega) (by omega), byteZ_ne _ (by omega) (by omega) (by omega), byteZ_ne _ (by omega) (by omega) (by omega)⟩, by omega⟩
  rw [Lib.encodeRuneZ_bad (by omega)]
  exact ⟨by decide, by decide⟩
theorem line_free : ∀ (n : Nat) (l : List UInt8), l.length ≤ n → (10 : UInt8) ∉ Lib.mapD lnF l ∧ (Lib.mapD lnF l).length ≤ 4 * l.length
  | 0, l, hn => by
    obtain rfl : l = [] := List.eq_nil_of_length_eq_zero (by omega)
    rw [Lib.mapD_nil]
    exact ⟨by simp, by simp⟩
  | n + 1, l, hn => by
    by_cases hne : l = []
    · subst hne
      rw [Lib.mapD_nil]
      exact ⟨by simp, by simp⟩
    have hw := Lib.decodeL_width l
    have hle := Lib.decodeL_le l hne
    have hl : 0 < l.length := List.length_pos_iff.2 hne
    obtain ⟨i1, i2⟩ := line_free n (l.drop (Lib.decodeL l).2) (by rw [List.length_drop]; omega)
    rw [List.length_drop] at i2
    have hf0 : 0 ≤ lnF (Lib.decodeL l).1 := by unfold lnF; split <;> omega
    have hf1 : lnF (Lib.decodeL l).1 ≠ 10 := by unfold lnF; split <;> omega
    obtain ⟨e1, e2⟩ := encode_free _ hf0 hf1
    rw [Lib.mapD_step lnF l hne, if_pos hf0]
    refine ⟨fun h => ?_, ?_⟩
    · rcases List.mem_append.1 h with h | h
      · exact e1 h
      · exact i1 h
    · rw [List.length_append]
      omega
end

/- Texts that say tokens, one behind the other: what is written of tokens, in small letters, with remarks, blanks and signs ; between and behind (no function of the program is named here). -/
section
open Go.RowKit
set_option maxRecDepth 100000

/-- whatever stands behind: these tokens come first -/
def Says (p : List UInt8) (ts : List Tok) : Prop := ∀ rest, lexF (p ++ rest) = (lexF rest).map (ts ++ ·)
theorem Says.nil : Says [] [] := fun rest => by
  rw [List.nil_append]
  cases lexF rest <;> simp
theorem Says.add {p q : List UInt8} {a b : List Tok} (h : Says p a) (k : Says q b) : Says (p ++ q) (a ++ b) := fun rest => by
  rw [List.append_assoc, h, k]
  cases lexF rest <;> simp
theorem Says.lex {p : List UInt8} {ts : List Tok} (h : Says p ts) : lexF p = some ts := by
  have := h []
  rw [List.append_nil, lexF_nil] at this
  simpa using this
theorem Says.then_ {p l : List UInt8} {ts us : List Tok} (h : Says p ts) (k : lexF l = some us) : lexF (p ++ l) = some (ts ++ us) := by
  rw [h, k]
  rfl
theorem says_blank (b : UInt8) (hb : blankF b = true) : Says [b] [] := fun rest => by
  rw [List.singleton_append, lexF_blank b rest hb]
  cases lexF rest <;> simp
theorem says_remark : Says [47, 42, 59, 42, 47] [] := fun rest => by
  have hs : stepF (47 :: 42 :: 59 :: 42 :: 47 :: rest) = .skip 5 := by
    have hidx : Lib.index (59 :: 42 :: 47 :: rest) ends2 = 1 := by
      have := index_behind [59] 42 (47 :: rest) (by decide) (by decide) (by rw [index_here]; omega)
      rw [List.singleton_append, index_here] at this
      simpa using this
    have hcl : closedF (47 :: 42 :: 59 :: 42 :: 47 :: rest) 2 = 5 := by
      unfold closedF
      simp only [List.drop_succ_cons, List.drop_zero]
      rw [hidx]
      decide
    have hln : isLineF (47 :: 42 :: 59 :: 42 :: 47 :: rest) = false := by
      show (decide ((47 : UInt8).toNat = 35) || begF [45, 45] _) = false
      rw [beg_not (by decide)]
      decide
    have hrm : isRemarkF (47 :: 42 :: 59 :: 42 :: 47 :: rest) = true := by
      simp [isRemarkF, begF, Lib.hasPrefix, List.isPrefixOf]
    rw [stepF, if_neg (by decide), if_neg (by rw [hln]; simp), if_pos hrm, hcl, if_neg (by decide)]
  show lexF (47 :: 42 :: 59 :: 42 :: 47 :: rest) = _
  rw [lexF_skip (by simp) hs (by decide)]
  show lexF rest = _
  cases lexF rest <;> simp
theorem says_line : Says [45, 45, 32, 120, 10] [] := fun rest => by
  rw [lexF_line ([45, 45, 32, 120, 10] ++ rest) rest [45, 45, 32, 120] (by simp) (by decide) (by simp) (by
    show (decide ((45 : UInt8).toNat = 35) || begF [45, 45] _) = true
    simp [begF, Lib.hasPrefix, List.isPrefixOf]) (by
    intro b hb
    simp at hb
    subst hb
    decide)]
  cases lexF rest <;> simp

/-- a spelling of a token, a blank behind -/
theorem says_tok {x : List UInt8} {k : Int} {t : List UInt8} (hk : 0 ≤ k) (b : UInt8) (hb : blankF b = true) (hs : ∀ rest, stepF (x ++ b :: rest) = .tok k.toNat t x.length) (hx : x ≠ []) : Says (x ++ [b]) [(k, t)] := fun rest => by
  have e : x ++ [b] ++ rest = x ++ b :: rest := by simp
  rw [e, lexF_tok (by simp) (hs rest) (by intro e; exact hx (List.eq_nil_of_length_eq_zero e)), List.drop_left' rfl, lexF_blank b rest hb]
  have : ((k.toNat : Nat) : Int) = k := by omega
  rw [this]
  cases lexF rest <;> simp
theorem says_written (k : Int) (t : List UInt8) (hr : rightF k t = true) (b : UInt8) (hb : blankF b = true) : Says (writtenF k t ++ [b]) [(k, t)] :=
  says_tok (by have := right_kind hr; omega) b hb (fun rest => (step_written k t hr b hb rest).1) (step_written k t hr b hb []).2
/-- a word in small letters -/
theorem says_small (t : List UInt8) (hr : rightF 1 t = true) (b : UInt8) (hb : blankF b = true) : Says (t.map Lib.lowerB ++ [b]) [(1, t)] := by
  have hF : rightWordF t = true := hr
  obtain ⟨bl, _⟩ := blank_parts b hb
  cases t with
  | nil => simp [rightWordF] at hF
  | cons c r =>
    simp only [rightWordF, Bool.and_eq_true, decide_eq_true_eq] at hF
    obtain ⟨h1, h2, h3⟩ := hF
    refine says_tok (by decide) b hb (fun rest => ?_) (by simp)
    have hlod : lodF c = true := by simp [lodF, h1]
    have hrun := runF_append (p := lodF) ((c :: r).map Lib.lowerB) b rest (by rw [runF_map fold_lower.lod, h2, List.length_map]) bl
    rw [List.map_cons, List.cons_append] at hrun ⊢
    refine step_of_first _ _ (skip_lod _ _ (by rw [fold_lower.lod]; exact hlod)) ?_
    simp only [firstF, fold_lower.letterF, h1, if_true]
    rw [hrun]
    have e1 : (Lib.lowerB c :: (r.map Lib.lowerB ++ b :: rest)).take (Lib.lowerB c :: r.map Lib.lowerB).length = (c :: r).map Lib.lowerB := by
      rw [← List.cons_append, List.take_left' rfl]
      rfl
    rw [e1, greatF_map fold_lower, h3]
    rfl

/-- what is written of a token, at the end -/
theorem step_end (k : Int) (t : List UInt8) (hr : rightF k t = true) (h5 : k ≠ 5) : stepF (writtenF k t) = .tok k.toNat t (writtenF k t).length ∧ writtenF k t ≠ [] := by
  rcases right_kind hr with rfl | rfl | rfl | rfl | rfl | rfl
  · have hw : writtenF 1 t = t := rfl
    rw [hw]
    have hF : rightWordF t = true := hr
    cases t with
    | nil => simp [rightWordF] at hF
    | cons c r =>
      simp only [rightWordF, Bool.and_eq_true, decide_eq_true_eq] at hF
      obtain ⟨h1, h2, h3⟩ := hF
      have hlod : lodF c = true := by simp [lodF, h1]
      refine ⟨step_of_first c _ (skip_lod c _ hlod) ?_, by simp⟩
      simp only [firstF, h1, if_true]
      rw [h2, List.take_length, h3]
      rfl
  · have hw : writtenF 2 t = 34 :: (twiceF 34 t ++ [34]) := rfl
    rw [hw]
    have hs : skipF (34 :: (twiceF 34 t ++ [34])) = 0 := skip_plain _ _ (by decide) (beg_not (by decide)) (by decide) (beg_not (by decide))
    refine ⟨step_of_first _ _ hs ?_, by simp⟩
    simp only [firstF]
    rw [if_neg (by decide), if_neg (by decide), if_pos (by decide), quoted_back 34 t [] (by simp)]
    simp
  · have hw : writtenF 3 t = 39 :: (twiceF 39 t ++ [39]) := rfl
    rw [hw]
    have hs : skipF (39 :: (twiceF 39 t ++ [39])) = 0 := skip_plain _ _ (by decide) (beg_not (by decide)) (by decide) (beg_not (by decide))
    refine ⟨step_of_first _ _ hs ?_, by simp⟩
    simp only [firstF]
    rw [if_neg (by decide), if_neg (by decide), if_neg (by decide), if_pos (by decide), quoted_back 39 t [] (by simp)]
    simp
  · have hw : writtenF 4 t = t := rfl
    rw [hw]
    have hF : (decide (t ≠ []) && decide (runF digitF t = t.length)) = true := hr
    simp only [Bool.and_eq_true, decide_eq_true_eq] at hF
    cases t with
    | nil => exact absurd rfl hF.1
    | cons c r =>
      have h2 := hF.2
      have hd : digitF c = true := by
        cases hp : digitF c with
        | true => rfl
        | false => rw [runF_none hp] at h2; simp at h2
      have hlod : lodF c = true := by simp [lodF, hd]
      refine ⟨step_of_first c _ (skip_lod c _ hlod) ?_, by simp⟩
      simp only [firstF, digit_no_letter c hd, hd, Bool.false_eq_true, if_false, if_true]
      rw [h2, List.take_length]
      rfl
  · exact absurd rfl h5
  · have hw : writtenF 6 t = t := rfl
    rw [hw]
    cases t with
    | nil => exact absurd hr (by decide)
    | cons c r =>
      cases r with
      | cons d r =>
        have hF : false = true := hr
        cases hF
      | nil =>
        have hF : signF c = true := hr
        obtain ⟨g1, g2, g3, g4, g5, g6, g7, g8⟩ := (sign_parts c).1 hF
        have n1 : begF [47, 42] [c] = false := by simp [begF, Lib.hasPrefix, List.isPrefixOf]
        have n2 : begF [45, 45] [c] = false := by simp [begF, Lib.hasPrefix, List.isPrefixOf]
        have n3 : begF [47, 42, 43] [c] = false := by simp [begF, Lib.hasPrefix, List.isPrefixOf]
        have hs : skipF [c] = 0 := skip_plain _ _ (blank_lt c g1) n1 g8 n2
        refine ⟨step_of_first c _ hs ?_, by simp⟩
        simp only [firstF, g3, g4, Bool.false_eq_true, if_false]
        rw [if_neg (by omega), if_neg g7, if_neg (by rw [n3]; simp), if_pos hF]
        rfl

/-- what is written of tokens, with a blank behind each -/
theorem write_flat : ∀ (t : Tok) (r : List Tok), writeF (t :: r) ++ [32] = (t :: r).flatMap fun t => writtenF t.1 t.2 ++ [32]
  | t, [] => by simp [writeF]
  | t, u :: r => by
    have ih := write_flat u r
    have e : writeF (t :: u :: r) = writtenF t.1 t.2 ++ 32 :: writeF (u :: r) := by simp [writeF]
    rw [e, List.flatMap_cons, ← ih]
    simp
theorem says_flat : ∀ ts : List Tok, (∀ t ∈ ts, rightF t.1 t.2 = true) → Says (ts.flatMap fun t => writtenF t.1 t.2 ++ [32]) ts
  | [], _ => Says.nil
  | t :: ts, h => by
    have ih := says_flat ts fun x hx => h x (List.mem_cons_of_mem _ hx)
    have := (says_written t.1 t.2 (h t (by simp)) 32 (by decide)).add ih
    rw [List.flatMap_cons]
    exact this
theorem lex_write : ∀ ts : List Tok, (∀ t ∈ ts, rightF t.1 t.2 = true ∧ t.1 ≠ 5) → lexF (writeF ts) = some ts
  | [], _ => by rw [writeF, lexF_nil]
  | [t], h => by
    obtain ⟨h1, h5⟩ := h t (by simp)
    obtain ⟨hs, hne⟩ := step_end t.1 t.2 h1 h5
    have e : writeF [t] = writtenF t.1 t.2 := by simp [writeF]
    have hk : ((t.1.toNat : Nat) : Int) = t.1 := by have := right_kind h1; omega
    rw [e, lexF_tok hne hs (by intro e; exact hne (List.eq_nil_of_length_eq_zero e)), List.drop_length, lexF_nil, hk]
    rfl
  | t :: u :: r, h => by
    have ih := lex_write (u :: r) fun x hx => h x (List.mem_cons_of_mem _ hx)
    have e : writeF (t :: u :: r) = (writtenF t.1 t.2 ++ [32]) ++ writeF (u :: r) := by simp [writeF]
    rw [e]
    exact (says_written t.1 t.2 (h t (by simp)).1 32 (by decide)).then_ ih

theorem lex_stops : lexF [59, 32, 59] = some [(6, [59]), (6, [59])] := by
  rw [lexF_tok (k := 6) (t := [59]) (n := 1) (by simp) (by kernel_rfl) (by decide)]
  show (lexF [32, 59]).map _ = _
  rw [lexF_blank 32 _ (by decide), lexF_tok (k := 6) (t := [59]) (n := 1) (by simp) (by kernel_rfl) (by decide)]
  show ((lexF []).map _).map _ = _
  rw [lexF_nil]
  rfl
theorem lex_stopped (ts : List Tok) (h : ∀ t ∈ ts, rightF t.1 t.2 = true) : lexF (writeF ts ++ [32, 59, 32, 59]) = some (ts ++ [(6, [59]), (6, [59])]) := by
  cases ts with
  | nil =>
    show lexF [32, 59, 32, 59] = _
    rw [lexF_blank 32 _ (by decide), lex_stops]
    rfl
  | cons t r =>
    have e : writeF (t :: r) ++ [32, 59, 32, 59] = (writeF (t :: r) ++ [32]) ++ [59, 32, 59] := by simp
    rw [e, write_flat]
    exact (says_flat _ h).then_ lex_stops

theorem classA_lex {l : List UInt8} {ts : List Tok} (h : lexF l = some ts) (hl : l.length ≤ 200) : classA l = classF (bodyF ts) := by
  have e : lexA l = (ts, 0) := by
    unfold lexA
    rw [if_neg (by omega), h]
  unfold classA
  rw [e]
  rfl
theorem body_stopped (ts : List Tok) : bodyF (ts ++ [(6, [59]), (6, [59])]) = bodyF ts := by
  unfold bodyF
  have e : (ts ++ [((6 : Int), ([59] : List UInt8)), (6, [59])]).filter (fun t => !isHintF t) = ((ts.filter fun t => !isHintF t) ++ [(6, [59])]) ++ [(6, [59])] := by
    rw [List.filter_append]
    simp [isHintF]
  rw [e, endF_stop (by decide), endF_stop (by decide)]
theorem ifF_ne {c : Int} (h : c ≠ 0) (b : Bool) : ifF c b ≠ 0 := by cases b <;> simp [ifF, h]
theorem selF_ne (l : List Tok) (b : Bool) : selF l b ≠ 0 := by unfold selF; split <;> (try split) <;> decide
theorem exF_ne (l : List Tok) (c : Int) : exF l c ≠ 0 := by unfold exF; split <;> (try split) <;> (try split) <;> decide
theorem famB_ne (v : Int) (r : List Tok) {x : Int} (hx : x ≠ 0) : famB v r x ≠ 0 := by
  unfold famB
  split
  · decide
  split
  · exact hx
  split
  · decide
  split
  · exact selF_ne _ _
  split
  · exact selF_ne _ _
  split
  · exact ifF_ne (by decide) _
  split
  · exact ifF_ne (by decide) _
  split
  · exact ifF_ne (by decide) _
  split
  · exact ifF_ne (by decide) _
  split
  · exact ifF_ne (by decide) _
  · decide
theorem classF_ne (l : List Tok) : classF l ≠ 0 := by
  cases l with
  | nil => rw [classF_nil]; decide
  | cons t r =>
    by_cases h : t.1 ≠ 1 ∨ (t :: r).any stopF = true
    · rw [classF_no h]; decide
    · have h1 : t.1 = 1 := Classical.byContradiction fun e => h (.inl e)
      have h2 : (t :: r).any stopF = false := by
        cases hq : (t :: r).any stopF with
        | false => rfl
        | true => exact absurd (.inr hq) h
      rw [classF_word h1 h2]
      exact famB_ne _ _ (exF_ne _ _)

/-- what the small text has of a token, a blank behind -/
def smallF (t : Tok) : List UInt8 := if t.1 = 1 then (writtenF t.1 t.2).map Lib.lowerB else writtenF t.1 t.2
theorem smallF_len (t : Tok) : (smallF t).length = (writtenF t.1 t.2).length := by unfold smallF; split <;> simp
theorem says_smallF (t : Tok) (h : rightF t.1 t.2 = true) : Says (smallF t ++ [32]) [t] := by
  obtain ⟨k, x⟩ := t
  unfold smallF
  split
  · rename_i h1
    obtain rfl : k = 1 := h1
    exact says_small x h 32 (by decide)
  · exact says_written k x h 32 (by decide)
theorem word_ascii {t : List UInt8} (h : rightF 1 t = true) : ∀ c ∈ t, c.toNat < 128 := by
  have hF : rightWordF t = true := h
  cases t with
  | nil => simp
  | cons c r =>
    simp only [rightWordF, Bool.and_eq_true, decide_eq_true_eq] at hF
    exact run_all_ascii hF.2.1
end

/- What the small functions of package class do: contracts. -/
section
open Go.RowKit
set_option maxRecDepth 100000

theorem toList_is (s : ByteArray) (l : List UInt8) : (s.toList == l) = decide (s.data.toList = l) := by
  rw [ByteArray.toList_eq, Bool.eq_iff_iff]
  simp
/-- texts as bytes -/
def txs (ws : List ByteArray) : List (List UInt8) := ws.map fun x => x.data.toList
theorem mem_txs {s : ByteArray} {ws : List ByteArray} : s.data.toList ∈ txs ws ↔ s ∈ ws := by
  unfold txs
  rw [List.mem_map]
  constructor
  · rintro ⟨x, hx, e⟩
    rw [← text_ext e]
    exact hx
  · exact fun h => ⟨s, h, rfl⟩

theorem isStop_ok (t : Tk) (w : World) : Calls Tryz.prog 44 #[.agg #[.int .i64 t.k, .string t.t]] w fun e w' => e = .returned (.bool (stopF t.says)) ∧ Below w.heap.size w w' := by
  obtain ⟨k, s⟩ := t
  have kw := kp_new w (.cells #[.int .i64 k, .string s] 89)
  have hF : stopF (Tk.says ⟨k, s⟩) = (decide (k = 6) && (s.toList == [59])) := by rw [toList_is]; rfl
  have HF := Lib.hid hF
  clear hF
  by_cases h : k = 6
  · subst h
    go_enter Tryz.func44, Tryz.ntmps44
    go_wp2_with fail
    go_ret
    exact ⟨ret_bool (by rw [HF.out]; rfl), kw⟩
  · have HD := Lib.hid (decide_eq_false h)
    go_enter Tryz.func44, Tryz.ntmps44
    go_wp2_with fail
    go_ret
    exact ⟨ret_bool (by rw [HF.out, HD.out]; rfl), kw⟩

theorem isHint_ok (t : Tk) (w : World) : Calls Tryz.prog 53 #[.agg #[.int .i64 t.k, .string t.t]] w fun e w' => e = .returned (.bool (isHintF t.says)) ∧ Below w.heap.size w w' := by
  obtain ⟨k, s⟩ := t
  have kw := kp_new w (.cells #[.int .i64 k, .string s] 89)
  go_enter Tryz.func53, Tryz.ntmps53
  go_wp2_with fail
  go_ret
  exact ⟨ret_bool rfl, kw⟩

/-- a row of texts that is read -/
structure SR (w : World) (A : Option Addr) (n : Nat) (ws : List ByteArray) : Prop where
  len : ws.length = n
  rd : Rd w w.heap.size A (ws.map .string)
theorem SR.next {w w' : World} {A : Option Addr} {n : Nat} {ws : List ByteArray} (h : SR w A n ws) (hb : Below w.heap.size w w') : SR w' A n ws := ⟨h.len, (h.rd.below hb (Nat.le_refl _)).more hb.size⟩
theorem SR.at_ {w : World} {A : Option Addr} {n : Nat} {ws : List ByteArray} (h : SR w A n ws) {j : Nat} (hj : j < ws.length) : ∃ ad, A = some ad ∧ ad.block < w.heap.size ∧ w.cell? (ad.add j) = some (.string ws[j]) := by
  obtain ⟨ad, hA, hb, hc⟩ := h.rd.at_ (k := j) (by rw [List.length_map]; exact hj)
  exact ⟨ad, hA, hb, by simpa using hc⟩
theorem SR.new (w : World) (t : TypeId) (ws : List ByteArray) : SR (w.alloc (.cells (ws.map Value.string).toArray t)) (some ⟨w.heap.size, 0, none⟩) ws.length ws :=
  ⟨rfl, by have := Rd.new w t (ws.map Value.string); simpa using this⟩

theorem txt_ne {x y : ByteArray} (h : x ≠ y) : (x.toList == y.toList) = false := by
  rw [Bool.eq_false_iff]
  intro hh
  have h2 := eq_of_beq hh
  rw [ByteArray.toList_eq, ByteArray.toList_eq] at h2
  exact h (ByteArray.ext (Array.toList_inj.1 h2))

/-- where a text stands in a row -/
theorem indexS_ok (A : Option Addr) (n c : Nat) (ws : List ByteArray) (s : ByteArray) (w : World) (h : SR w A n ws) (hn : n ≤ 1000000) (b : Bool) (hb : Hid (decide (s.data.toList ∈ txs ws) = b)) :
    Calls Tryz.prog 120 #[.slice A n c, .string s] w fun e w' => ∃ r : Int, e = .returned (.int .i64 r) ∧ decide (0 ≤ r) = b ∧ w = w' := by
  have hlen := Lib.hid h.len
  go_enter Tryz.func120, Tryz.ntmps120
  go_wp2
  go_loop [8] (fun i => ∃ k : Nat, k ≤ n ∧ i = .int .i64 k ∧ Hid (s ∉ ws.take k)) (fun i => n - (intOf i).toNat)
  case atStart => exact ⟨0, Nat.zero_le _, rfl, Lib.hid (by simp)⟩
  case round =>
    obtain ⟨k, hk, rfl, hno⟩ := hrel
    by_cases hlt : k < n
    · have hkl : k < ws.length := by rw [hlen.out]; exact hlt
      obtain ⟨ad, rfl, _, hc⟩ := h.at_ hkl
      have hmem : ws[k] ∈ ws := List.getElem_mem hkl
      have hnx : s ≠ ws[k] → s ∉ ws.take (k + 1) := fun hne => by
        rw [List.take_succ_eq_append_getElem hkl]
        simp only [List.mem_append, List.mem_singleton]
        rintro (h1 | h1)
        · exact hno.out h1
        · exact hne h1
      generalize ws[k] = x at *
      by_cases hx : s = x
      · subst hx
        have hbt : b = true := by rw [← hb.out]; exact decide_eq_true (mem_txs.2 hmem)
        subst hbt
        clear hmem hnx
        go_wp2_with fail
        go_ret
        exact ⟨k, rfl, by simp, rfl⟩
      · have HN := Lib.hid (hnx hx)
        have ht := txt_ne hx
        clear hmem hnx hx
        go_wp2_with fail
        go_round
        case rel => exact ⟨k + 1, by omega, by go_num, HN⟩
        case measure => simp [intOf]; omega
    · obtain rfl : k = n := by omega
      have h1 := hno.out
      rw [List.take_of_length_le (by rw [hlen.out]; exact Nat.le_refl _)] at h1
      have hbf : b = false := by rw [← hb.out]; exact decide_eq_false fun h2 => h1 (mem_txs.1 h2)
      subst hbf
      clear h1
      go_wp2_with fail
      go_ret
      exact ⟨-1, rfl, by simp, rfl⟩
theorem containsS_ok (A : Option Addr) (n c : Nat) (ws : List ByteArray) (s : ByteArray) (w : World) (h : SR w A n ws) (hn : n ≤ 1000000) (b : Bool) (hb : Hid (decide (s.data.toList ∈ txs ws) = b)) :
    Calls Tryz.prog 103 #[.slice A n c, .string s] w fun e w' => e = .returned (.bool b) ∧ w = w' := by
  have hI := Lib.hid (indexS_ok A n c ws s w h hn b hb)
  go_enter Tryz.func103, Tryz.ntmps103
  go_wp2_with fail
  refine hI.out.mono ?_
  rintro e w1 ⟨r, rfl, hr, rfl⟩
  have HR := Lib.hid hr
  clear hr
  go_wp2_with fail
  go_ret
  exact ⟨ret_bool (by rw [← HR.out]), rfl⟩

theorem isWord_ok (t : Tk) (A : Option Addr) (n c : Nat) (ws : List ByteArray) (w : World) (h : SR w A n ws) (hn : n ≤ 1000000) :
    Calls Tryz.prog 89 #[.agg #[.int .i64 t.k, .string t.t], .slice A n c] w fun e w' => e = .returned (.bool (wordF (txs ws) t.says)) ∧ Below w.heap.size w w' := by
  obtain ⟨k, s⟩ := t
  have kw := kp_new w (.cells #[.int .i64 k, .string s] 89)
  have hF : wordF (txs ws) (Tk.says ⟨k, s⟩) = (decide (k = 1) && decide (s.data.toList ∈ txs ws)) := rfl
  have hC := Lib.hid (containsS_ok A n c ws s _ (h.next kw) hn _ (Lib.hid rfl))
  generalize decide (s.data.toList ∈ txs ws) = b at *
  have HF := Lib.hid hF
  clear hF
  by_cases hk : k = 1
  · subst hk
    go_enter Tryz.func89, Tryz.ntmps89
    go_wp2_with fail
    refine hC.out.mono ?_
    rintro e w1 ⟨rfl, rfl⟩
    go_wp2_with fail
    go_ret
    exact ⟨ret_bool (by rw [HF.out]; rfl), kw⟩
  · have HD := Lib.hid (decide_eq_false hk)
    go_enter Tryz.func89, Tryz.ntmps89
    go_wp2_with fail
    go_ret
    exact ⟨ret_bool (by rw [HF.out, HD.out]; rfl), kw⟩
end

/- The document's layer 5: is a word one of some (in), the word of a place (word), has: contracts. -/
section
open Go.RowKit
set_option maxRecDepth 100000

/-- is a word one of some, each between two spaces? -/
def inF (w l : List UInt8) : Bool := decide (w ≠ []) && decide (0 ≤ Lib.index l (32 :: (w ++ [32])))
end

/- The document's words of layer 5, as plain functions: what stands between spaces, which family a word has. -/
section
open Go.RowKit
set_option maxRecDepth 100000

/-- words, each between two spaces -/
def packF : List (List UInt8) → List UInt8
  | [] => [32]
  | a :: ws => 32 :: (a ++ packF ws)

theorem idx_cons {b : UInt8} {l sub : List UInt8} : 0 ≤ Lib.index (b :: l) sub ↔ sub.isPrefixOf (b :: l) = true ∨ 0 ≤ Lib.index l sub := by
  rw [Lib.index]
  by_cases h : sub.isPrefixOf (b :: l) = true
  · simp [h]
  · rw [if_neg h]
    have hge := Lib.index_ge l sub
    by_cases hm : (Lib.index l sub == -1) = true
    · rw [if_pos hm]
      have : Lib.index l sub = -1 := by simpa using hm
      simp [h, this]
    · rw [if_neg hm]
      have : Lib.index l sub ≠ -1 := by simpa using hm
      simp [h]
      omega
theorem idx_nil {sub : List UInt8} (hs : sub ≠ []) : ¬ 0 ≤ Lib.index [] sub := by
  cases sub with
  | nil => exact absurd rfl hs
  | cons a t => simp [Lib.index]
theorem idx_free {a l w : List UInt8} (h : (32 : UInt8) ∉ a) : 0 ≤ Lib.index (a ++ l) (32 :: w) ↔ 0 ≤ Lib.index l (32 :: w) := by
  induction a with
  | nil => rfl
  | cons b r ih =>
    rw [List.cons_append, idx_cons, ih (fun hm => h (List.mem_cons_of_mem _ hm))]
    have hb : b ≠ 32 := fun e => h (by rw [e]; simp)
    have : (32 :: w : List UInt8).isPrefixOf (b :: (r ++ l)) = false := by simp [List.isPrefixOf, hb.symm]
    rw [this]
    simp
theorem pre_word {w a r : List UInt8} (hw : (32 : UInt8) ∉ w) (ha : (32 : UInt8) ∉ a) : (w ++ [32]).isPrefixOf (a ++ 32 :: r) = decide (w = a) := by
  induction w generalizing a with
  | nil =>
    cases a with
    | nil => simp [List.isPrefixOf]
    | cons b a =>
      have hb : (32 : UInt8) ≠ b := fun e => ha (by rw [← e]; simp)
      simp [List.isPrefixOf, hb]
  | cons c w ih =>
    have hc : c ≠ 32 := fun e => hw (by rw [e]; simp)
    cases a with
    | nil => simp [List.isPrefixOf, hc]
    | cons b a =>
      have := ih (a := a) (fun h => hw (List.mem_cons_of_mem _ h)) (fun h => ha (List.mem_cons_of_mem _ h))
      simp only [List.cons_append, List.isPrefixOf, this]
      by_cases e : c = b <;> simp [e]
theorem packF_head (ws : List (List UInt8)) : ∃ r, packF ws = 32 :: r := by
  cases ws with
  | nil => exact ⟨[], rfl⟩
  | cons a ws => exact ⟨_, rfl⟩
theorem idx_pack {w : List UInt8} (hw : (32 : UInt8) ∉ w) : ∀ ws : List (List UInt8), (∀ a ∈ ws, (32 : UInt8) ∉ a) → (0 ≤ Lib.index (packF ws) (32 :: (w ++ [32])) ↔ w ∈ ws)
  | [], _ => by
    have h1 : (32 :: (w ++ [32]) : List UInt8).isPrefixOf [32] = false := by
      cases w <;> simp [List.isPrefixOf]
    rw [packF, idx_cons, h1]
    have := idx_nil (sub := 32 :: (w ++ [32])) (by simp)
    simp only [this, List.not_mem_nil, or_false]
    simp
  | a :: ws, h => by
    have ha := h a (by simp)
    have ih := idx_pack hw ws (fun x hx => h x (List.mem_cons_of_mem _ hx))
    rw [packF, idx_cons, idx_free ha, ih]
    obtain ⟨r, hr⟩ := packF_head ws
    have : (32 :: (w ++ [32]) : List UInt8).isPrefixOf (32 :: (a ++ packF ws)) = decide (w = a) := by
      rw [hr]
      simp only [List.isPrefixOf, pre_word hw ha]
      simp
    rw [this]
    simp
theorem inF_pack {w : List UInt8} (hw : w = [] ∨ (w ≠ [] ∧ (32 : UInt8) ∉ w)) (ws : List (List UInt8)) (h : ∀ a ∈ ws, (32 : UInt8) ∉ a ∧ a ≠ []) : inF w (packF ws) = decide (w ∈ ws) := by
  unfold inF
  rcases hw with rfl | ⟨h0, h1⟩
  · have : ([] : List UInt8) ∉ ws := fun hm => (h _ hm).2 rfl
    simp [this]
  · rw [decide_eq_true h0, Bool.true_and]
    exact decide_eq_decide.2 (idx_pack h1 ws fun a ha => (h a ha).1)

/-- the word of a token, or none -/
def wd (t : Tok) : List UInt8 := if t.1 = 1 then t.2 else []
def wordAt (l : List Tok) (k : Nat) : List UInt8 := (l[k]?.map wd).getD []
theorem wd_ok {t : Tok} {n : Nat} (h : okTok t n) : wd t = [] ∨ (wd t ≠ [] ∧ (32 : UInt8) ∉ wd t) := by
  unfold wd
  split
  · rename_i h1
    exact .inr (h.2 h1)
  · exact .inl rfl
theorem wordAt_ok {l : List Tok} {n : Nat} (h : ∀ t ∈ l, okTok t n) (k : Nat) : wordAt l k = [] ∨ (wordAt l k ≠ [] ∧ (32 : UInt8) ∉ wordAt l k) := by
  unfold wordAt
  cases hk : l[k]? with
  | none => exact .inl rfl
  | some t => exact wd_ok (h t (List.mem_of_getElem? hk))
theorem mem_wd {t : Tok} {ws : List (List UInt8)} (h : [] ∉ ws) : decide (wd t ∈ ws) = wordF ws t := by
  unfold wd wordF
  by_cases h1 : t.1 = 1
  · rw [if_pos h1, decide_eq_true h1, Bool.true_and]
  · rw [if_neg h1, decide_eq_false h1, decide_eq_false h]
    rfl
theorem headF_word {t : Tok} {r : List Tok} {ws : List (List UInt8)} (h : [] ∉ ws) : headF r ws = decide (wordAt (t :: r) 1 ∈ ws) := by
  unfold headF wordAt
  cases r with
  | nil => simp [h]
  | cons u r => exact (mem_wd h).symm
theorem hasF_word {l : List Tok} {ws : List (List UInt8)} (h : [] ∉ ws) : hasF l ws = l.any fun t => decide (wd t ∈ ws) := by
  unfold hasF
  congr 1
  funext t
  exact (mem_wd h).symm

/- families -/
theorem fam_mem {x : List UInt8} {v : Int} (h : famF x = v) (hv : v ≠ 0) : (x, v) ∈ famL := by
  unfold famF at h
  cases hf : famL.reverse.find? fun p => decide (p.1 = x) with
  | none => rw [hf] at h; exact absurd h.symm hv
  | some p =>
    rw [hf] at h
    have h1 := List.mem_of_find?_eq_some hf
    have h2 := List.find?_some hf
    simp only [decide_eq_true_eq] at h2
    obtain ⟨a, b⟩ := p
    simp at h h1 h2
    rw [← h, ← h2]
    exact h1
def wsShow : List (List UInt8) := [wSHOW, wDESCRIBE, wDESC]
def wsWrite : List (List UInt8) := [wINSERT, wUPDATE, wDELETE, wREPLACE, wCREATE, wDROP, wALTER, wTRUNCATE, wGRANT, wREVOKE, wCALL, wLOCK]
def wsSel : List (List UInt8) := [wSELECT, wVALUES, wTABLE, wWITH]
theorem fam_is (x : List UInt8) (v : Int) (ws : List (List UInt8)) (hv : v ≠ 0) (h1 : ∀ p ∈ famL, p.2 = v → p.1 ∈ ws) (h2 : ∀ a ∈ ws, famF a = v) : decide (x ∈ ws) = decide (famF x = v) := by
  refine decide_eq_decide.2 ⟨fun h => h2 x h, fun h => ?_⟩
  exact h1 _ (fam_mem h hv) rfl
theorem fam_one (x : List UInt8) (v : Int) (a : List UInt8) (hv : v ≠ 0) (h1 : ∀ p ∈ famL, p.2 = v → p.1 = a) (h2 : famF a = v) : decide (x = a) = decide (famF x = v) := by
  refine decide_eq_decide.2 ⟨fun h => by rw [h]; exact h2, fun h => ?_⟩
  exact h1 _ (fam_mem h hv) rfl
theorem famShow (x : List UInt8) : decide (x ∈ wsShow) = decide (famF x = 1) := fam_is x 1 wsShow (by decide) (by decide) (by decide)
theorem famWrite (x : List UInt8) : decide (x ∈ wsWrite) = decide (famF x = 3) := fam_is x 3 wsWrite (by decide) (by decide) (by decide)
theorem famSel (x : List UInt8) : decide (x ∈ wsSel) = decide (famF x = 4 ∨ famF x = 5) := by
  refine decide_eq_decide.2 ⟨fun h => ?_, fun h => ?_⟩
  · revert h
    have : ∀ a ∈ wsSel, famF a = 4 ∨ famF a = 5 := by decide
    exact this x
  · rcases h with h | h
    · exact (by decide : ∀ p ∈ famL, p.2 = 4 → p.1 ∈ wsSel) _ (fam_mem h (by decide)) rfl
    · exact (by decide : ∀ p ∈ famL, p.2 = 5 → p.1 ∈ wsSel) _ (fam_mem h (by decide)) rfl
theorem famExplain (x : List UInt8) : decide (x = wEXPLAIN) = decide (famF x = 2) := fam_one x 2 _ (by decide) (by decide) (by decide)
theorem famWith (x : List UInt8) : decide (x = wWITH) = decide (famF x = 5) := fam_one x 5 _ (by decide) (by decide) (by decide)
theorem famBegin (x : List UInt8) : decide (x = wBEGIN) = decide (famF x = 6) := fam_one x 6 _ (by decide) (by decide) (by decide)
theorem famStart (x : List UInt8) : decide (x = wSTART) = decide (famF x = 7) := fam_one x 7 _ (by decide) (by decide) (by decide)
theorem famCommit (x : List UInt8) : decide (x = wCOMMIT) = decide (famF x = 8) := fam_one x 8 _ (by decide) (by decide) (by decide)
theorem famRollback (x : List UInt8) : decide (x = wROLLBACK) = decide (famF x = 9) := fam_one x 9 _ (by decide) (by decide) (by decide)
theorem famSet (x : List UInt8) : decide (x = wSET) = decide (famF x = 10) := fam_one x 10 _ (by decide) (by decide) (by decide)
theorem fam_out (x : List UInt8) : famF x = 0 ∨ famF x = 1 ∨ famF x = 2 ∨ famF x = 3 ∨ famF x = 4 ∨ famF x = 5 ∨ famF x = 6 ∨ famF x = 7 ∨ famF x = 8 ∨ famF x = 9 ∨ famF x = 10 := by
  by_cases h : famF x = 0
  · exact .inl h
  · have := fam_mem rfl h
    have h2 : ∀ p ∈ famL, p.2 = 1 ∨ p.2 = 2 ∨ p.2 = 3 ∨ p.2 = 4 ∨ p.2 = 5 ∨ p.2 = 6 ∨ p.2 = 7 ∨ p.2 = 8 ∨ p.2 = 9 ∨ p.2 = 10 := by decide
    exact .inr (h2 _ this)
theorem six_sel {x : List UInt8} (h : famF x = 4 ∨ famF x = 5) : x ∉ six := by
  have h1 : decide (x ∈ wsSel) = true := by rw [famSel]; exact decide_eq_true h
  have h2 : ∀ a ∈ wsSel, a ∉ six := by decide
  exact h2 x (of_decide_eq_true h1)
end

/- What is a read has no word that writes: plain functions (no function of the program is named here). -/
section
open Go.RowKit
set_option maxRecDepth 100000

theorem endF_split (l : List Tok) : ∃ st, l = endF l ++ st ∧ ∀ x ∈ st, stopF x = true := by
  refine ⟨(l.reverse.takeWhile stopF).reverse, ?_, fun x hx => ?_⟩
  · unfold endF
    rw [← List.reverse_append, List.takeWhile_append_dropWhile, List.reverse_reverse]
  · exact List.all_eq_true.1 List.all_takeWhile x (List.mem_reverse.1 hx)

def eight : List (List UInt8) := [wSELECT, wWITH, wTABLE, wVALUES, wSHOW, wDESCRIBE, wDESC, wEXPLAIN]

theorem one_facts {m : List Tok} (h : classF m = 1) : ∃ t r, m = t :: r ∧ t.1 = 1 ∧ m.any stopF = false ∧ t.2 ∈ eight ∧ (t.2 ∈ wsSel → hasF m six = false) := by
  cases m with
  | nil => rw [classF_nil] at h; cases h
  | cons t r =>
    by_cases h1 : t.1 = 1
    · cases hs : (t :: r).any stopF with
      | true => rw [classF_no (.inr hs)] at h; cases h
      | false =>
        rw [classF_word h1 hs] at h
        refine ⟨t, r, rfl, h1, rfl, ?_⟩
        have hb : ∀ (c : Int) (b : Bool), c ≠ 1 → ifF c b ≠ 1 := fun c b hc => by cases b <;> simp [ifF, hc]
        have hse : ∀ b, selF r b = 1 → hasF r six = false := fun b hh => by
          unfold selF at hh
          cases hx : hasF r six with
          | false => rfl
          | true => rw [hx] at hh; cases hh
        have hno : ∀ v : Int, famF t.2 = v → (v ≠ 4 ∧ v ≠ 5) → t.2 ∉ wsSel := fun v hv hvv hm => by
          have h2 : decide (t.2 ∈ wsSel) = true := decide_eq_true hm
          rw [famSel, hv] at h2
          have := of_decide_eq_true h2
          omega
        have hcons : (famF t.2 = 4 ∨ famF t.2 = 5) → hasF r six = false → hasF (t :: r) six = false := fun hf hr => by
          have e : hasF (t :: r) six = (wordF six t || hasF r six) := rfl
          have hw : wordF six t = false := by
            unfold wordF
            rw [decide_eq_false (six_sel hf)]
            simp
          rw [e, hw, hr]
          rfl
        have hmem : ∀ (v : Int) (ws : List (List UInt8)), famF t.2 = v → v ≠ 0 → (∀ p ∈ famL, p.2 = v → p.1 ∈ ws) → t.2 ∈ ws := fun v ws hv h0 hp => hp _ (fam_mem hv h0) rfl
        rcases fam_out t.2 with hv | hv | hv | hv | hv | hv | hv | hv | hv | hv | hv
        · rw [hv] at h; cases h
        · exact ⟨hmem 1 eight hv (by decide) (by decide), fun hm => absurd hm (hno 1 hv (by decide))⟩
        · exact ⟨hmem 2 eight hv (by decide) (by decide), fun hm => absurd hm (hno 2 hv (by decide))⟩
        · rw [hv] at h; cases h
        · rw [hv] at h; exact ⟨hmem 4 eight hv (by decide) (by decide), fun _ => hcons (.inl hv) (hse _ h)⟩
        · rw [hv] at h; exact ⟨hmem 5 eight hv (by decide) (by decide), fun _ => hcons (.inr hv) (hse _ h)⟩
        · rw [hv] at h; exact absurd h (hb _ _ (by decide))
        · rw [hv] at h; exact absurd h (hb _ _ (by decide))
        · rw [hv] at h; exact absurd h (hb _ _ (by decide))
        · rw [hv] at h; exact absurd h (hb _ _ (by decide))
        · rw [hv] at h; exact absurd h (hb _ _ (by decide))
    · rw [classF_no (.inl h1)] at h; cases h

/-- what is no hint, of so many tokens -/
def preF (L : List Tok) (k : Nat) : List Tok := (L.take k).filter fun t => !isHintF t
theorem preF_hint {L : List Tok} {k : Nat} (hk : k < L.length) (h : isHintF L[k] = true) : preF L (k + 1) = preF L k := by
  unfold preF
  rw [List.take_succ_eq_append_getElem hk, List.filter_append]
  simp [h]
theorem preF_push {L : List Tok} {k : Nat} (hk : k < L.length) (h : isHintF L[k] = false) : preF L (k + 1) = preF L k ++ [L[k]] := by
  unfold preF
  rw [List.take_succ_eq_append_getElem hk, List.filter_append]
  simp [h]
theorem preF_all (L : List Tok) {k : Nat} (hk : L.length ≤ k) : preF L k = L.filter fun t => !isHintF t := by
  unfold preF
  rw [List.take_of_length_le hk]

/-- the first one's text -/
def hdF (P : List Tok) : List UInt8 := (P.head?.map Prod.snd).getD []

theorem safe_next {L m st : List Tok} {t : Tok} {r : List Tok} (hH : L.filter (fun t => !isHintF t) = m ++ st) (hst : ∀ x ∈ st, stopF x = true) (hm : m = t :: r) (hns : m.any stopF = false) {k : Nat} (hk : k < L.length) (hx : isHintF L[k] = false) :
    (stopF L[k] = true → m.length ≤ (preF L k).length ∧ hdF (preF L (k + 1)) = hdF (preF L k)) ∧
    (stopF L[k] = false → (preF L k).length < m.length ∧ L[k] ∈ m ∧ ((preF L k = [] ∧ L[k] = t ∧ hdF (preF L k) = [] ∧ hdF (preF L (k + 1)) = t.2) ∨ (hdF (preF L k) = t.2 ∧ hdF (preF L (k + 1)) = t.2))) := by
  have hpush := preF_push hk hx
  have hsplit : m ++ st = (preF L k ++ [L[k]]) ++ (L.drop (k + 1)).filter (fun t => !isHintF t) := by
    rw [← hpush, ← hH]
    unfold preF
    rw [← List.filter_append, List.take_append_drop]
  have hget : (m ++ st)[(preF L k).length]? = some L[k] := by
    rw [hsplit, List.append_assoc, List.getElem?_append_right (Nat.le_refl _)]
    simp
  have hpre : preF L k = (m ++ st).take (preF L k).length := by
    rw [hsplit, List.append_assoc, List.take_append_of_le_length (Nat.le_refl _), List.take_of_length_le (Nat.le_refl _)]
  have hhd : ∀ j, 0 < j → hdF ((m ++ st).take j) = t.2 := fun j hj => by
    obtain ⟨j, rfl⟩ : ∃ i, j = i + 1 := ⟨j - 1, by omega⟩
    rw [hm]
    rfl
  have hm0 : 0 < m.length := by rw [hm]; simp
  rw [hpush]
  have happ : preF L k ++ [L[k]] = (m ++ st).take ((preF L k).length + 1) := by
    have h1 : ((preF L k).length + 1) = (preF L k ++ [L[k]]).length := by simp
    rw [hsplit, h1, List.take_append_of_le_length (Nat.le_refl _), List.take_of_length_le (Nat.le_refl _)]
  have hhd1 : hdF (preF L k ++ [L[k]]) = t.2 := by rw [happ]; exact hhd _ (by omega)
  refine ⟨fun hs => ?_, fun hs => ?_⟩
  · have hge : m.length ≤ (preF L k).length := by
      rcases Nat.lt_or_ge (preF L k).length m.length with hlt | hge
      · rw [List.getElem?_append_left hlt] at hget
        have hmem := List.mem_of_getElem? hget
        rw [List.any_eq_false] at hns
        exact absurd hs (hns _ hmem)
      · exact hge
    refine ⟨hge, ?_⟩
    rw [hhd1, hpre]
    exact (hhd _ (by omega)).symm
  · have hlt : (preF L k).length < m.length := by
      rcases Nat.lt_or_ge (preF L k).length m.length with hlt | hge
      · exact hlt
      · rw [List.getElem?_append_right hge] at hget
        have := hst _ (List.mem_of_getElem? hget)
        rw [hs] at this
        cases this
    rw [List.getElem?_append_left hlt] at hget
    refine ⟨hlt, List.mem_of_getElem? hget, ?_⟩
    rcases Nat.eq_zero_or_pos (preF L k).length with h0 | h0
    · have hnil : preF L k = [] := List.eq_nil_of_length_eq_zero h0
      refine .inl ⟨hnil, ?_, by rw [hnil]; rfl, hhd1⟩
      rw [h0, hm] at hget
      simpa using hget.symm
    · refine .inr ⟨?_, hhd1⟩
      rw [hpre]
      exact hhd _ (by omega)
theorem six_word {m : List Tok} {x : Tok} (h : hasF m six = false) (hx : x ∈ m) (h1 : x.1 = 1) : x.2 ∉ six := fun h6 => by
  unfold hasF at h
  rw [List.any_eq_false] at h
  refine h x hx ?_
  unfold wordF
  rw [decide_eq_true h1, decide_eq_true h6]
  rfl
end

/- What a statement does, by its tokens: plain functions of lists of tokens (no function of the program is named here). -/
section
open Go.RowKit
set_option maxRecDepth 100000

/-- a String without its text -/
def emptyF (t : Tok) : Tok := if t.1 = 3 then (3, []) else t
def isStrF (t : Tok) : Bool := decide (t.1 = 3)
/-- the texts of the Strings -/
def strsF (l : List Tok) : List (List UInt8) := (l.filter isStrF).map Prod.snd
def keptF (l : List Tok) : List Tok := l.filter fun t => !isHintF t
theorem strsF_append (a b : List Tok) : strsF (a ++ b) = strsF a ++ strsF b := by simp [strsF]
theorem isStr_empty (t : Tok) : isStrF (emptyF t) = isStrF t := by
  unfold emptyF isStrF
  split
  · rename_i h; simp [h]
  · rfl
theorem stop_empty (t : Tok) : stopF (emptyF t) = stopF t := by
  unfold emptyF stopF
  split
  · rename_i h; simp [h]
  · rfl
theorem strsF_empty_len (l : List Tok) : (strsF (l.map emptyF)).length = (strsF l).length := by
  induction l with
  | nil => rfl
  | cons t r ih =>
    simp only [strsF, List.length_map, List.map_cons] at ih ⊢
    rw [List.filter_cons, List.filter_cons, isStr_empty]
    cases isStrF t <;> simp [ih]

/- what ends a text is chopped off -/
def cut2 : List UInt8 := [32, 59]
def chopF (l : List UInt8) : List UInt8 := Lib.trimRightS l cut2
theorem chop_nil : chopF [] = [] := rfl
theorem chop_cut {l : List UInt8} {c : UInt8} (h : cut2.contains c = true) : chopF (l ++ [c]) = chopF l := by
  have h' : c ∈ cut2 := by simpa using h
  simp [chopF, Lib.trimRightS, h']
theorem chop_stays {l : List UInt8} {c : UInt8} (h : cut2.contains c = false) : chopF (l ++ [c]) = l ++ [c] := by
  have h' : c ∉ cut2 := by simpa using h
  simp [chopF, Lib.trimRightS, h']

theorem lod_stays (c : UInt8) (h : lodF c = true) : cut2.contains c = false := by
  have := by_all (fun c => !lodF c || !cut2.contains c) (by decide +kernel) c
  rw [h] at this
  simpa using this
theorem sign_stays (c : UInt8) (h : signF c = true) (h2 : c ≠ 59) : cut2.contains c = false := by
  have := by_all (fun c => !signF c || decide (c = 59) || !cut2.contains c) (by decide +kernel) c
  rw [h, decide_eq_false h2] at this
  simpa using this
theorem last_of {l : List UInt8} (h : l ≠ []) : ∃ x c, l = x ++ [c] ∧ c ∈ l := ⟨l.dropLast, l.getLast h, (List.dropLast_concat_getLast h).symm, List.getLast_mem h⟩
/-- how what is written of a token ends -/
theorem written_ends {k : Int} {t : List UInt8} (hr : rightF k t = true) (h5 : k ≠ 5) (hs : stopF (k, t) = false) : ∃ x c, writtenF k t = x ++ [c] ∧ cut2.contains c = false := by
  rcases right_kind hr with rfl | rfl | rfl | rfl | rfl | rfl
  · have hw : writtenF 1 t = t := rfl
    have hF : rightWordF t = true := hr
    rw [hw]
    cases t with
    | nil => simp [rightWordF] at hF
    | cons c r =>
      simp only [rightWordF, Bool.and_eq_true, decide_eq_true_eq] at hF
      obtain ⟨x, d, e, hd⟩ := last_of (l := c :: r) (by simp)
      refine ⟨x, d, e, lod_stays d ?_⟩
      exact runF_all lodF (c :: r) d (by rw [hF.2.1, List.take_length]; exact hd)
  · exact ⟨34 :: twiceF 34 t, 34, rfl, by decide⟩
  · exact ⟨39 :: twiceF 39 t, 39, rfl, by decide⟩
  · have hw : writtenF 4 t = t := rfl
    have hF : (decide (t ≠ []) && decide (runF digitF t = t.length)) = true := hr
    simp only [Bool.and_eq_true, decide_eq_true_eq] at hF
    rw [hw]
    obtain ⟨x, d, e, hd⟩ := last_of hF.1
    refine ⟨x, d, e, lod_stays d ?_⟩
    have := runF_all digitF t d (by rw [hF.2, List.take_length]; exact hd)
    simp [lodF, this]
  · exact absurd rfl h5
  · have hw : writtenF 6 t = t := rfl
    rw [hw]
    cases t with
    | nil => exact absurd hr (by decide)
    | cons c r =>
      cases r with
      | cons d r =>
        have hF : false = true := hr
        cases hF
      | nil =>
        have hF : signF c = true := hr
        refine ⟨[], c, rfl, sign_stays c hF ?_⟩
        rintro rfl
        exact absurd hs (by decide)

theorem stop_is {t : Tok} (h : stopF t = true) : t = (6, [59]) := by
  obtain ⟨k, x⟩ := t
  simp only [stopF, Bool.and_eq_true, decide_eq_true_eq] at h
  rw [h.1, h.2]
/-- what is written of tokens, chopped, is written of those ahead of the signs that end them -/
theorem chop_write : ∀ (n : Nat) (ts : List Tok), ts.length ≤ n → (∀ t ∈ ts, rightF t.1 t.2 = true ∧ t.1 ≠ 5) → chopF (writeF ts) = writeF (endF ts) := by
  intro n
  induction n with
  | zero =>
    intro ts hn _
    obtain rfl : ts = [] := List.eq_nil_of_length_eq_zero (by omega)
    rfl
  | succ n ih =>
    intro ts hn h
    rcases List.eq_nil_or_concat ts with rfl | ⟨L, b, rfl⟩
    · rfl
    rw [List.concat_eq_append] at h hn ⊢
    rw [List.length_append, List.length_singleton] at hn
    have hL : ∀ t ∈ L, rightF t.1 t.2 = true ∧ t.1 ≠ 5 := fun t ht => h t (List.mem_append_left _ ht)
    by_cases hL0 : L = []
    · subst hL0
      cases hs : stopF b with
      | true =>
        obtain rfl := stop_is hs
        rw [endF_stop hs]
        rfl
      | false =>
        rw [endF_last hs]
        obtain ⟨x, c, e, hc⟩ := written_ends (h b (by simp)).1 (h b (by simp)).2 hs
        have e2 : writeF ([] ++ [b]) = writtenF b.1 b.2 := by simp [writeF]
        rw [e2, e, chop_stays hc]
    · rw [writeF_next L b hL0]
      cases hs : stopF b with
      | true =>
        obtain rfl := stop_is hs
        rw [endF_stop hs]
        show chopF (writeF L ++ [32] ++ [59]) = _
        rw [chop_cut (by decide), chop_cut (by decide)]
        exact ih L (by omega) hL
      | false =>
        rw [endF_last hs, writeF_next L b hL0]
        obtain ⟨x, c, e, hc⟩ := written_ends (h b (by simp)).1 (h b (by simp)).2 hs
        rw [e, ← List.append_assoc, chop_stays hc]
theorem write_inj {a b : List Tok} (ha : ∀ t ∈ a, rightF t.1 t.2 = true ∧ t.1 ≠ 5) (hb : ∀ t ∈ b, rightF t.1 t.2 = true ∧ t.1 ≠ 5) (h : writeF a = writeF b) : a = b := by
  have h1 := lex_write a ha
  have h2 := lex_write b hb
  rw [h, h2] at h1
  exact (Option.some.inj h1).symm

/- lexed tokens may be, Hints aside -/
theorem up_up (c : UInt8) : upF (upF c) = upF c := by
  have := by_all (fun c => decide (upF (upF c) = upF c)) (by decide +kernel) c
  simpa using this
theorem up_lod (c : UInt8) (h : lodF c = true) : lodF (upF c) = true := by
  have := by_all (fun c => !lodF c || lodF (upF c)) (by decide +kernel) c
  rw [h] at this
  simpa using this
theorem up_letter (c : UInt8) (h : letterF c = true) : letterF (upF c) = true := by
  have := by_all (fun c => !letterF c || letterF (upF c)) (by decide +kernel) c
  rw [h] at this
  simpa using this
theorem run_of_all {p : UInt8 → Bool} : ∀ (l : List UInt8), (∀ c ∈ l, p c = true) → runF p l = l.length
  | [], _ => rfl
  | c :: r, h => by rw [runF_some (h c (by simp)), run_of_all r fun d hd => h d (List.mem_cons_of_mem _ hd)]; rfl
theorem great_great (l : List UInt8) : greatF (greatF l) = greatF l := by
  simp only [greatF, List.map_map]
  exact List.map_congr_left fun c _ => up_up c
theorem first_right {l : List UInt8} {k : Nat} {t : List UInt8} {n : Nat} (h : firstF l = some (k, t, n)) (h5 : k ≠ 5) : rightF (k : Int) t = true := by
  cases l with
  | nil => simp [firstF] at h
  | cons c r =>
    simp only [firstF] at h
    split at h
    · rename_i hc
      simp only [Option.some.injEq, Prod.mk.injEq] at h
      obtain ⟨rfl, rfl, rfl⟩ := h
      have hl : lodF c = true := by simp [lodF, hc]
      show rightWordF _ = true
      have hall := runF_all lodF (c :: r)
      rw [runF_some hl, List.take_succ_cons] at hall ⊢
      have hlod : ∀ d ∈ greatF (c :: r.take (runF lodF r)), lodF d = true := fun d hd => by
        obtain ⟨b, hb, rfl⟩ := List.mem_map.1 hd
        exact up_lod b (hall b hb)
      have e : greatF (c :: r.take (runF lodF r)) = upF c :: greatF (r.take (runF lodF r)) := rfl
      have hg := great_great (c :: r.take (runF lodF r))
      rw [e] at hlod hg ⊢
      simp only [rightWordF, Bool.and_eq_true, decide_eq_true_eq]
      exact ⟨up_letter c hc, run_of_all _ hlod, hg⟩
    split at h
    · rename_i hd
      simp only [Option.some.injEq, Prod.mk.injEq] at h
      obtain ⟨rfl, rfl, rfl⟩ := h
      show (decide (_ ≠ []) && decide (runF digitF _ = _)) = true
      rw [run_of_all _ (runF_all digitF (c :: r)), runF_some hd, List.take_succ_cons]
      simp
    split at h
    · obtain ⟨x, _, h⟩ := Option.map_eq_some_iff.1 h
      simp only [Prod.mk.injEq] at h
      obtain ⟨rfl, rfl, rfl⟩ := h
      rfl
    split at h
    · obtain ⟨x, _, h⟩ := Option.map_eq_some_iff.1 h
      simp only [Prod.mk.injEq] at h
      obtain ⟨rfl, rfl, rfl⟩ := h
      rfl
    split at h
    · split at h
      · cases h
      · simp only [Option.some.injEq, Prod.mk.injEq] at h
        exact absurd h.1.symm h5
    split at h
    · rename_i hs
      simp only [Option.some.injEq, Prod.mk.injEq] at h
      obtain ⟨rfl, rfl, rfl⟩ := h
      exact hs
    · cases h
theorem lexF_right : ∀ (n : Nat) (l : List UInt8) (x : List Tok), l.length ≤ n → lexF l = some x → ∀ t ∈ x, t.1 ≠ 5 → rightF t.1 t.2 = true := by
  intro n
  induction n with
  | zero =>
    intro l x hl h
    obtain rfl : l = [] := List.eq_nil_of_length_eq_zero (by omega)
    rw [lexF_nil] at h
    injection h with h
    subst h
    simp
  | succ n ih =>
    intro l x hl h
    by_cases hne : l = []
    · subst hne
      rw [lexF_nil] at h
      injection h with h
      subst h
      simp
    have hl0 := List.length_pos_iff.2 hne
    cases hst : stepF l with
    | bad => rw [lexF_bad hne hst] at h; cases h
    | skip m =>
      by_cases hm : m = 0
      · rw [lexF, dif_neg hne, hst] at h
        simp [hm] at h
      · rw [lexF_skip hne hst hm] at h
        exact ih (l.drop m) x (by rw [List.length_drop]; omega) h
    | tok k t m =>
      by_cases hm : m = 0
      · rw [lexF, dif_neg hne, hst] at h
        simp [hm] at h
      · rw [lexF_tok hne hst hm] at h
        obtain ⟨y, hy, rfl⟩ := Option.map_eq_some_iff.1 h
        intro t' ht' h5
        rcases List.mem_cons.1 ht' with rfl | ht'
        · exact first_right (step_tok hst) (fun e => h5 (by rw [e]; rfl))
        · exact ih (l.drop m) y (by rw [List.length_drop]; omega) hy t' ht' h5
theorem lexA_right (l : List UInt8) : ∀ t ∈ (lexA l).1, t.1 ≠ 5 → rightF t.1 t.2 = true := by
  unfold lexA
  split
  · simp
  · cases h : lexF l with
    | none => simp
    | some x => exact lexF_right l.length l x (Nat.le_refl _) h
theorem kept_right {l : List Tok} (h : ∀ t ∈ l, t.1 ≠ 5 → rightF t.1 t.2 = true) : ∀ t ∈ (keptF l).map emptyF, rightF t.1 t.2 = true ∧ t.1 ≠ 5 := by
  intro t ht
  obtain ⟨u, hu, rfl⟩ := List.mem_map.1 ht
  obtain ⟨hu, h5⟩ := List.mem_filter.1 hu
  have h5' : u.1 ≠ 5 := by simpa [isHintF] using h5
  unfold emptyF
  split
  · exact ⟨by decide, by decide⟩
  · exact ⟨h u hu h5', h5'⟩

/- the forms -/
def wFROM : List UInt8 := [70, 82, 79, 77]
def wKV : List UInt8 := [75, 86]
def wWHERE : List UInt8 := [87, 72, 69, 82, 69]
def wV : List UInt8 := [86]
def wK : List UInt8 := [75]
def fGet : List Tok := [(1, wSELECT), (1, wV), (1, wFROM), (1, wKV), (1, wWHERE), (1, wK), (6, [61]), (3, [])]
def fAll : List Tok := [(1, wSELECT), (6, [42]), (1, wFROM), (1, wKV)]
def fPut : List Tok := [(1, wINSERT), (1, wINTO), (1, wKV), (1, wVALUES), (6, [40]), (3, []), (6, [44]), (3, []), (6, [41])]
def fChg : List Tok := [(1, wUPDATE), (1, wKV), (1, wSET), (1, wV), (6, [61]), (3, []), (1, wWHERE), (1, wK), (6, [61]), (3, [])]
def fDel : List Tok := [(1, wDELETE), (1, wFROM), (1, wKV), (1, wWHERE), (1, wK), (6, [61]), (3, [])]
def tGet : ByteArray := ⟨#[83, 69, 76, 69, 67, 84, 32, 86, 32, 70, 82, 79, 77, 32, 75, 86, 32, 87, 72, 69, 82, 69, 32, 75, 32, 61, 32, 39, 39]⟩
def tAll : ByteArray := ⟨#[83, 69, 76, 69, 67, 84, 32, 42, 32, 70, 82, 79, 77, 32, 75, 86]⟩
def tPut : ByteArray := ⟨#[73, 78, 83, 69, 82, 84, 32, 73, 78, 84, 79, 32, 75, 86, 32, 86, 65, 76, 85, 69, 83, 32, 40, 32, 39, 39, 32, 44, 32, 39, 39, 32, 41]⟩
def tChg : ByteArray := ⟨#[85, 80, 68, 65, 84, 69, 32, 75, 86, 32, 83, 69, 84, 32, 86, 32, 61, 32, 39, 39, 32, 87, 72, 69, 82, 69, 32, 75, 32, 61, 32, 39, 39]⟩
def tDel : ByteArray := ⟨#[68, 69, 76, 69, 84, 69, 32, 70, 82, 79, 77, 32, 75, 86, 32, 87, 72, 69, 82, 69, 32, 75, 32, 61, 32, 39, 39]⟩
theorem tGet_is : writeF fGet = tGet.data.toList := by decide
theorem tAll_is : writeF fAll = tAll.data.toList := by decide
theorem tPut_is : writeF fPut = tPut.data.toList := by decide
theorem tChg_is : writeF fChg = tChg.data.toList := by decide
theorem tDel_is : writeF fDel = tDel.data.toList := by decide

/-- what a text says, of its tokens without Hints -/
def shapeF (m : List Tok) : List UInt8 := chopF (writeF (m.map emptyF))
theorem end_map (m : List Tok) : endF (m.map emptyF) = (endF m).map emptyF := by
  unfold endF
  have hc : stopF ∘ emptyF = stopF := funext stop_empty
  rw [List.map_reverse]
  congr 1
  rw [← List.map_reverse, List.dropWhile_map, hc]
theorem shape_iff {l : List Tok} (h : ∀ t ∈ l, t.1 ≠ 5 → rightF t.1 t.2 = true) (f : List Tok) (hf : ∀ t ∈ f, rightF t.1 t.2 = true ∧ t.1 ≠ 5) : shapeF (keptF l) = writeF f ↔ (bodyF l).map emptyF = f := by
  have hk := kept_right h
  unfold shapeF
  rw [chop_write _ _ (Nat.le_refl _) hk, end_map]
  show writeF ((bodyF l).map emptyF) = _ ↔ _
  constructor
  · intro e
    refine write_inj (fun t ht => ?_) hf e
    have e2 : (bodyF l).map emptyF = endF ((keptF l).map emptyF) := (end_map _).symm
    rw [e2] at ht
    obtain ⟨st, e3, _⟩ := endF_split ((keptF l).map emptyF)
    exact hk t (by rw [e3]; exact List.mem_append_left _ ht)
  · rintro rfl
    rfl
theorem strs_body (l : List Tok) : strsF (keptF l) = strsF (bodyF l) := by
  obtain ⟨st, e, hs⟩ := endF_split (keptF l)
  have h0 : strsF st = [] := by
    unfold strsF
    rw [List.filter_eq_nil_iff.2]
    · rfl
    · intro t ht
      obtain rfl := stop_is (hs t ht)
      decide
  have e2 : bodyF l = endF (keptF l) := rfl
  rw [e2]
  conv => lhs; rw [e]
  rw [strsF_append, h0, List.append_nil]

/-- what is done: its number, the key, the value -/
abbrev Doing := Int × List UInt8 × List UInt8
def pickF (m : List Tok) (xs : List (List UInt8)) : Doing :=
  if m = fGet then (1, xs.getD 0 [], [])
  else if m = fAll then (2, [], [])
  else if m = fPut then (3, xs.getD 0 [], xs.getD 1 [])
  else if m = fChg then (4, xs.getD 1 [], xs.getD 0 [])
  else if m = fDel then (5, xs.getD 0 [], [])
  else (0, [], [])
def planF (m : List Tok) : Doing := pickF (m.map emptyF) (strsF m)
def planA (l : List UInt8) : Doing := planF (bodyF (lexA l).1)
theorem planA_lex {l : List UInt8} {ts : List Tok} (h : lexF l = some ts) (hl : l.length ≤ 200) : planA l = planF (bodyF ts) := by
  unfold planA
  rw [show lexA l = (ts, 0) from by unfold lexA; rw [if_neg (by omega), h]]
theorem strs_len {m f : List Tok} (h : m.map emptyF = f) : (strsF m).length = (strsF f).length := by rw [← h, strsF_empty_len]

/- what does something is classed -/
theorem empty_word {t : Tok} {x : List UInt8} (h : emptyF t = (1, x)) : t = (1, x) := by
  unfold emptyF at h
  split at h
  · cases h
  · exact h
theorem empty_sign {t : Tok} {x : List UInt8} (h : emptyF t = (6, x)) : t = (6, x) := by
  unfold emptyF at h
  split at h
  · cases h
  · exact h
theorem empty_str {t : Tok} (h : emptyF t = (3, [])) : ∃ x, t = (3, x) := by
  obtain ⟨k, x⟩ := t
  unfold emptyF at h
  split at h
  · rename_i h3
    exact ⟨x, by rw [show k = 3 from h3]⟩
  · exact ⟨x, by rw [Prod.mk.injEq] at h; rw [h.1]⟩
theorem map_cons_is {l : List Tok} {u : Tok} {r : List Tok} (h : l.map emptyF = u :: r) : ∃ t s, l = t :: s ∧ emptyF t = u ∧ s.map emptyF = r := by
  cases l with
  | nil => simp at h
  | cons t s => simp only [List.map_cons, List.cons.injEq] at h; exact ⟨t, s, rfl, h.1, h.2⟩
theorem map_nil_is {l : List Tok} (h : l.map emptyF = []) : l = [] := List.map_eq_nil_iff.1 h
theorem stops_of {m : List Tok} : m.any stopF = (m.map emptyF).any stopF := by
  rw [List.any_map, show stopF ∘ emptyF = stopF from funext stop_empty]
theorem word_empty (ws : List (List UInt8)) (t : Tok) : wordF ws (emptyF t) = wordF ws t := by
  unfold emptyF wordF
  split
  · rename_i h; simp [h]
  · rfl
theorem has_empty (l : List Tok) (ws : List (List UInt8)) : hasF (l.map emptyF) ws = hasF l ws := by
  unfold hasF
  rw [List.any_map, show wordF ws ∘ emptyF = wordF ws from funext (word_empty ws)]
theorem class_of_form {m f : List Tok} (h : m.map emptyF = f) {x : List UInt8} {r : List Tok} (hf : f = (1, x) :: r) (hs : f.any stopF = false) {c : Int}
    (hc : (famF x = 4 ∧ hasF r six = false ∧ c = 1) ∨ (famF x = 3 ∧ c = 2)) : classF m = c := by
  rw [hf] at h
  obtain ⟨t, s, rfl, ht, hr⟩ := map_cons_is h
  obtain rfl := empty_word ht
  rw [classF_word rfl (by rw [stops_of, h, ← hf]; exact hs)]
  rcases hc with ⟨h4, h6, rfl⟩ | ⟨h3, rfl⟩
  · show famB (famF x) s _ = 1
    rw [h4]
    show selF s true = 1
    unfold selF
    rw [← has_empty, hr, h6]
    rfl
  · show famB (famF x) s _ = 2
    rw [h3]
    rfl
theorem plan_class {l : List UInt8} : ((planA l).1 = 1 ∨ (planA l).1 = 2 → classA l = 1) ∧ ((planA l).1 = 3 ∨ (planA l).1 = 4 ∨ (planA l).1 = 5 → classA l = 2) := by
  have herr : (lexA l).2 ≠ 0 → planA l = (0, [], []) := fun h => by
    unfold planA
    rw [lexA_err l h]
    rfl
  by_cases he : (lexA l).2 = 0
  case neg => rw [herr he]; exact ⟨(fun h => by rcases h with h | h <;> cases h), (fun h => by rcases h with h | h | h <;> cases h)⟩
  have hA : classA l = classF (bodyF (lexA l).1) := by unfold classA; rw [if_pos he]
  rw [hA]
  unfold planA
  generalize bodyF (lexA l).1 = m
  unfold planF pickF
  split
  · rename_i h
    exact ⟨fun _ => class_of_form h rfl (by decide) (.inl ⟨by decide, by decide, rfl⟩), (fun h => by rcases h with h | h | h <;> cases h)⟩
  split
  · rename_i h
    exact ⟨fun _ => class_of_form h rfl (by decide) (.inl ⟨by decide, by decide, rfl⟩), (fun h => by rcases h with h | h | h <;> cases h)⟩
  split
  · rename_i h
    exact ⟨(fun h => by rcases h with h | h <;> cases h), fun _ => class_of_form h rfl (by decide) (.inr ⟨by decide, rfl⟩)⟩
  split
  · rename_i h
    exact ⟨(fun h => by rcases h with h | h <;> cases h), fun _ => class_of_form h rfl (by decide) (.inr ⟨by decide, rfl⟩)⟩
  split
  · rename_i h
    exact ⟨(fun h => by rcases h with h | h <;> cases h), fun _ => class_of_form h rfl (by decide) (.inr ⟨by decide, rfl⟩)⟩
  · exact ⟨(fun h => by rcases h with h | h <;> cases h), (fun h => by rcases h with h | h | h <;> cases h)⟩
end

/- strings.TrimRight at the cutset that the shapes use: contract. -/
section
open Go.RowKit
set_option maxRecDepth 100000

theorem chop_s (s : ByteArray) (w : World) (hs : s.size ≤ 1000000000) : Calls Tryz.prog 34 #[.string s, .string ⟨#[32, 59]⟩] w fun e w' => ∃ r : ByteArray, e = .returned (.string r) ∧ r.data.toList = chopF s.data.toList ∧ Below w.heap.size w w' := by
  have h := Any.strings_TrimRight_laid Tryz.lays162 (by kernel_rfl) s ⟨#[32, 59]⟩ w (by omega) (by decide) (ascii_of_all (by decide))
  change Calls Tryz.prog 34 _ _ _ at h
  exact h.mono fun _ _ ⟨he, hb⟩ => ⟨_, he, by simp [chopF, cut2], hb⟩
end

/- Tables: rows of pairs as they lie in memory, their order, what is read of them and written to them: plain functions (no function of the program is named here). -/
section
open Go.RowKit
set_option maxRecDepth 100000

/- texts by their bytes -/
theorem bytes_ext {s t : ByteArray} (h : s.toList = t.toList) : s = t := by
  rw [ByteArray.toList_eq, ByteArray.toList_eq] at h
  cases s; cases t
  simp only [ByteArray.mk.injEq]
  exact Array.toList_inj.1 h
theorem rd_own2 {w : World} {A : Option Addr} {xs : List Value} {base n c : Nat} {e : TypeId} (h : w.ownsRow base e 2 (.slice A n c) n xs) : Rd w w.heap.size A xs := by
  rcases h.2 with ⟨_, hn⟩ | ⟨g, cap, cur, hv, _, hg, _⟩
  · exact .inl (List.eq_nil_of_length_eq_zero (by have := h.1; omega))
  · have hA : A = some ⟨g, 0, none⟩ := by injection hv
    subst hA
    exact .inr ⟨_, rfl, (Array.getElem?_eq_some_iff.1 hg).1, h.cells (g := g) rfl⟩
def ltB (a b : ByteArray) : Bool := Op.bytesLess a.toList b.toList
theorem less_irrefl : ∀ a : List UInt8, Op.bytesLess a a = false
  | [] => rfl
  | x :: r => by
    rw [Op.bytesLess, less_irrefl r]
    simp
theorem less_total : ∀ a b : List UInt8, Op.bytesLess a b = false → Op.bytesLess b a = false → a = b
  | [], [], _, _ => rfl
  | [], _ :: _, h, _ => by simp [Op.bytesLess] at h
  | _ :: _, [], _, h => by simp [Op.bytesLess] at h
  | x :: a, y :: b, h, k => by
    simp only [Op.bytesLess, Bool.or_eq_false_iff, decide_eq_false_iff_not, Bool.and_eq_false_iff, beq_eq_false_iff_ne] at h k
    have e : x = y := by
      have h1 := h.1
      have h2 := k.1
      rw [UInt8.lt_iff_toNat_lt] at h1 h2
      exact UInt8.toNat_inj.1 (by omega)
    subst e
    rcases h.2 with h' | h'
    · exact absurd rfl h'
    rcases k.2 with k' | k'
    · exact absurd rfl k'
    rw [less_total a b h' k']
theorem less_trans : ∀ a b c : List UInt8, Op.bytesLess a b = true → Op.bytesLess b c = true → Op.bytesLess a c = true
  | _, [], _, h, _ => by simp [Op.bytesLess] at h
  | _, _ :: _, [], _, h => by simp [Op.bytesLess] at h
  | [], _ :: _, _ :: _, _, _ => rfl
  | x :: a, y :: b, z :: c, h, k => by
    simp only [Op.bytesLess, Bool.or_eq_true, decide_eq_true_eq, Bool.and_eq_true, beq_iff_eq] at h k ⊢
    rcases h with h | ⟨rfl, h⟩
    · rcases k with k | ⟨rfl, _⟩
      · exact .inl (by rw [UInt8.lt_iff_toNat_lt] at h k ⊢; omega)
      · exact .inl h
    · rcases k with k | ⟨rfl, k⟩
      · exact .inl k
      · exact .inr ⟨rfl, less_trans a b c h k⟩
theorem ltB_irrefl (a : ByteArray) : ltB a a = false := less_irrefl _
theorem ltB_total {a b : ByteArray} (h : ltB a b = false) (k : ltB b a = false) : a = b := bytes_ext (less_total _ _ h k)
theorem ltB_trans {a b c : ByteArray} (h : ltB a b = true) (k : ltB b c = true) : ltB a c = true := less_trans _ _ _ h k
theorem ltB_asymm {a b : ByteArray} (h : ltB a b = true) : ltB b a = false := by
  cases k : ltB b a with
  | false => rfl
  | true => rw [← ltB_irrefl a, ← ltB_trans h k]
theorem ltB_ne {a b : ByteArray} (h : ltB a b = true) : a ≠ b := fun e => by rw [e, ltB_irrefl] at h; cases h

/-- a key, its value -/
structure Kv where
  k : ByteArray
  v : ByteArray
deriving DecidableEq
instance : Inhabited Kv := ⟨⟨⟨#[]⟩, ⟨#[]⟩⟩⟩
def Kv.cells (t : Kv) : List Value := [.string t.k, .string t.v]
def kvC (ts : List Kv) : List Value := ts.flatMap Kv.cells
theorem kvC_length : ∀ ts : List Kv, (kvC ts).length = ts.length * 2
  | [] => rfl
  | r :: rs => by
    have := kvC_length rs
    simp only [kvC, List.flatMap_cons, List.length_append, List.length_cons, Kv.cells, List.length_nil] at this ⊢
    omega
theorem kvC_append (a b : List Kv) : kvC (a ++ b) = kvC a ++ kvC b := by simp [kvC]
theorem kvC_at : ∀ (rs : List Kv) (j : Nat) (h : j < rs.length), (kvC rs)[j * 2]? = some (.string rs[j].k) ∧ (kvC rs)[j * 2 + 1]? = some (.string rs[j].v)
  | [], _, h => by simp at h
  | r :: rs, 0, _ => by simp [kvC, Kv.cells]
  | r :: rs, j + 1, h => by
    have := kvC_at rs j (by simpa using h)
    have e1 : (j + 1) * 2 = j * 2 + 2 := by omega
    simp only [kvC, List.flatMap_cons] at this ⊢
    rw [e1]
    simpa [Kv.cells] using this
theorem kvC_next (rs : List Kv) (k : Nat) (h : k < rs.length) : kvC (rs.take (k + 1)) = kvC (rs.take k) ++ [.string rs[k].k, .string rs[k].v] := by
  rw [List.take_succ_eq_append_getElem h, kvC_append]
  simp [kvC, Kv.cells]
theorem kvC_take : ∀ (rs : List Kv) (k : Nat), kvC (rs.take k) = (kvC rs).take (k * 2)
  | _, 0 => by simp [kvC]
  | [], k + 1 => by simp [kvC]
  | r :: rs, k + 1 => by
    have := kvC_take rs k
    have e1 : (k + 1) * 2 = k * 2 + 2 := by omega
    rw [List.take_succ_cons]
    simp only [kvC, List.flatMap_cons] at this ⊢
    rw [this, e1]
    simp [Kv.cells]
theorem kvC_drop : ∀ (rs : List Kv) (k : Nat), kvC (rs.drop k) = (kvC rs).drop (k * 2)
  | _, 0 => by simp [kvC]
  | [], k + 1 => by simp [kvC]
  | r :: rs, k + 1 => by
    have := kvC_drop rs k
    have e1 : (k + 1) * 2 = k * 2 + 2 := by omega
    rw [List.drop_succ_cons]
    simp only [kvC, List.flatMap_cons] at this ⊢
    rw [this, e1]
    simp [Kv.cells]
theorem kvC_one (rs : List Kv) : ∀ u ∈ kvC rs, u.oneCell' = true := by
  intro u hu
  simp only [kvC, List.mem_flatMap] at hu
  obtain ⟨r, _, h⟩ := hu
  simp only [Kv.cells, List.mem_cons, List.not_mem_nil, or_false] at h
  rcases h with rfl | rfl <;> rfl

/-- a row of pairs that is read -/
structure KR (w : World) (A : Option Addr) (n : Nat) (ts : List Kv) : Prop where
  len : ts.length = n
  rd : Rd w w.heap.size A (kvC ts)
theorem KR.next {w w' : World} {A : Option Addr} {n : Nat} {ts : List Kv} (h : KR w A n ts) (hb : Below w.heap.size w w') : KR w' A n ts := ⟨h.len, (h.rd.below hb (Nat.le_refl _)).more hb.size⟩
theorem KR.nil (w : World) : KR w none 0 [] := ⟨rfl, .inl rfl⟩
theorem KR.at_ {w : World} {A : Option Addr} {n : Nat} {ts : List Kv} (h : KR w A n ts) {j : Nat} (hj : j < ts.length) : ∃ ad, A = some ad ∧ ad.block < w.heap.size ∧ ∀ w', Below w.heap.size w w' → w'.cell? (ad.add (j * 2)) = some (.string ts[j].k) ∧ w'.cell? ⟨(ad.add (j * 2)).block, (ad.add (j * 2)).off + 1, none⟩ = some (.string ts[j].v) := by
  obtain ⟨ad, hA, hb, hc⟩ := h.rd.addr (by rw [kvC_length]; omega)
  refine ⟨ad, hA, hb, fun w' hw => ⟨?_, ?_⟩⟩
  · rw [hw.cell (by rw [add_block]; exact hb)]; exact hc _ _ (kvC_at ts j hj).1
  · have e1 : (⟨(ad.add (j * 2)).block, (ad.add (j * 2)).off + 1, none⟩ : Addr) = ad.add (j * 2 + 1) := by rw [← add_add]; rfl
    rw [e1, hw.cell (by rw [add_block]; exact hb)]; exact hc _ _ (kvC_at ts j hj).2

/-- a row of pairs of the call's own -/
structure OK (e : TypeId) (w : World) (base : Nat) (A : Option Addr) (n c : Nat) (ts : List Kv) : Prop where
  own : w.ownsRow base e 2 (.slice A n c) n (kvC ts)
  cap : n ≤ c
section
variable {e : TypeId} {w : World} {base : Nat} {A : Option Addr} {n c : Nat} {ts : List Kv}
theorem OK.len (h : OK e w base A n c ts) : ts.length = n := by
  have := h.own.1
  rw [kvC_length] at this
  omega
theorem OK.kr (h : OK e w base A n c ts) : KR w A n ts := ⟨h.len, rd_own2 h.own⟩
theorem OK.next {w' : World} (h : OK e w base A n c ts) (hb : Below w.heap.size w w') : OK e w' base A n c ts := ⟨own_below_s h.own hb (Nat.le_refl _), h.cap⟩
theorem OK.nil (e : TypeId) (w : World) (base : Nat) : OK e w base none 0 0 [] := ⟨World.ownsRow_nil _ _ _ _, Nat.le_refl _⟩
theorem OK.base_ {base' : Nat} (h : OK e w base A n c ts) (hb : base' ≤ base) : OK e w base' A n c ts := ⟨own_base_s h.own hb, h.cap⟩
theorem OK.push {v : Value} {k r : ByteArray} (h : w.ownsRow base e 2 v (n + 1) (kvC ts ++ [.string k, .string r])) : ∃ A c, v = .slice A (n + 1) c ∧ OK e w base A (n + 1) c (ts ++ [⟨k, r⟩]) := by
  obtain ⟨A, c, rfl, h1, _⟩ := own_form_s h
  exact ⟨A, c, rfl, by rw [kvC_append]; exact h, h1⟩
end

/- order -/
def Srt (l : List Kv) : Prop := l.Pairwise fun a b => ltB a.k b.k = true
/-- keys rise, each above the one ahead -/
def tabF : List Kv → Bool
  | [] => true
  | a :: r => (match r with | [] => true | b :: _ => ltB a.k b.k) && tabF r
theorem tab_srt : ∀ l : List Kv, tabF l = true ↔ Srt l
  | [] => by simp [tabF, Srt]
  | [a] => by simp [tabF, Srt]
  | a :: b :: r => by
    have ih := tab_srt (b :: r)
    unfold Srt at ih ⊢
    rw [List.pairwise_cons, ← ih]
    constructor
    · intro h
      have h' : ltB a.k b.k = true ∧ tabF (b :: r) = true := by simpa [tabF] using h
      refine ⟨fun x hx => ?_, h'.2⟩
      rcases List.mem_cons.1 hx with rfl | hx
      · exact h'.1
      · exact ltB_trans h'.1 ((List.pairwise_cons.1 (ih.1 h'.2)).1 x hx)
    · intro h
      have h1 := h.1 b (by simp)
      have h2 := h.2
      show (ltB a.k b.k && tabF (b :: r)) = true
      rw [h1, h2]
      rfl
theorem Srt.at_ {l : List Kv} (h : Srt l) {i j : Nat} (hj : j < l.length) (hij : i < j) : ltB (l[i]'(by omega)).k l[j].k = true := List.pairwise_iff_getElem.1 h i j (by omega) hj hij
theorem tab_next {l : List Kv} {i : Nat} (hi : i + 1 < l.length) (h : tabF (l.take (i + 1)) = true) : tabF (l.take (i + 2)) = ltB l[i].k l[i + 1].k := by
  have hs := (tab_srt _).1 h
  cases hb : ltB l[i].k l[i + 1].k with
  | true =>
    refine (tab_srt _).2 ?_
    unfold Srt
    rw [List.pairwise_iff_getElem]
    intro a b ha hb' hab
    rw [List.getElem_take, List.getElem_take]
    have hlen : (l.take (i + 2)).length = i + 2 := by rw [List.length_take]; omega
    by_cases hbi : b = i + 1
    · subst hbi
      by_cases hai : a = i
      · subst hai; exact hb
      · have := hs.at_ (i := a) (j := i) (by rw [List.length_take]; omega) (by omega)
        rw [List.getElem_take, List.getElem_take] at this
        exact ltB_trans this hb
    · have := hs.at_ (i := a) (j := b) (by rw [List.length_take]; omega) hab
      rw [List.getElem_take, List.getElem_take] at this
      exact this
  | false =>
    cases ht : tabF (l.take (i + 2)) with
    | false => rfl
    | true =>
      have := ((tab_srt _).1 ht).at_ (i := i) (j := i + 1) (by rw [List.length_take]; omega) (by omega)
      rw [List.getElem_take, List.getElem_take, hb] at this
      cases this
theorem tab_short {l : List Kv} {i : Nat} (h : tabF (l.take i) = false) : tabF l = false := by
  cases ht : tabF l with
  | false => rfl
  | true =>
    have hs := (tab_srt _).1 ht
    have : Srt (l.take i) := List.Pairwise.sublist (List.take_sublist _ _) hs
    rw [(tab_srt _).2 this] at h
    cases h

/- places -/
/-- how many keys at the beginning are below one -/
def posF (k : ByteArray) (l : List Kv) : Nat := (l.takeWhile fun p => ltB p.k k).length
theorem posF_le (k : ByteArray) (l : List Kv) : posF k l ≤ l.length := (List.takeWhile_sublist _).length_le
theorem posF_of {k : ByteArray} : ∀ {l : List Kv} {i : Nat}, i ≤ l.length → (∀ j (h : j < l.length), j < i → ltB l[j].k k = true) → (∀ (h : i < l.length), ltB l[i].k k = false) → posF k l = i
  | [], i, hi, _, _ => by
    obtain rfl : i = 0 := by simpa using hi
    rfl
  | a :: r, 0, _, _, h => by
    have := h (by simp)
    simp at this
    simp [posF, this]
  | a :: r, i + 1, hi, h1, h2 => by
    have h0 := h1 0 (by simp) (by omega)
    simp at h0
    have := posF_of (k := k) (l := r) (i := i) (by simpa using hi) (fun j hj hji => by have := h1 (j + 1) (by simpa using hj) (by omega); exact this) (fun h => by have := h2 (by simpa using h); exact this)
    unfold posF at this ⊢
    rw [List.takeWhile_cons, h0]
    simpa using this
theorem posF_lt {k : ByteArray} : ∀ {l : List Kv} {j : Nat} (h : j < l.length), j < posF k l → ltB l[j].k k = true
  | [], _, h, _ => by simp at h
  | a :: r, j, h, hj => by
    unfold posF at hj
    rw [List.takeWhile_cons] at hj
    split at hj
    · rename_i ha
      cases j with
      | zero => exact ha
      | succ j => exact posF_lt (l := r) (by simpa using h) (by simpa [posF] using hj)
    · simp at hj
theorem posF_at {k : ByteArray} : ∀ {l : List Kv} (h : posF k l < l.length), ltB l[posF k l].k k = false
  | [], h => by simp at h
  | a :: r, h => by
    cases ha : ltB a.k k with
    | true =>
      have e : posF k (a :: r) = posF k r + 1 := by
        unfold posF
        rw [List.takeWhile_cons, ha]
        rfl
      simp only [e, List.length_cons, List.getElem_cons_succ] at h ⊢
      exact posF_at (l := r) (by omega)
    | false =>
      have e : posF k (a :: r) = 0 := by
        unfold posF
        rw [List.takeWhile_cons, ha]
        rfl
      simp only [e, List.getElem_cons_zero]
      exact ha
/-- is a key there? -/
def thereF (k : ByteArray) (l : List Kv) : Bool := decide ((l[posF k l]?).map Kv.k = some k)
theorem there_lt {k : ByteArray} {l : List Kv} (h : thereF k l = true) : ∃ hp : posF k l < l.length, l[posF k l].k = k := by
  unfold thereF at h
  simp only [decide_eq_true_eq, Option.map_eq_some_iff] at h
  obtain ⟨a, ha, e⟩ := h
  obtain ⟨hp, e2⟩ := List.getElem?_eq_some_iff.1 ha
  exact ⟨hp, by rw [e2]; exact e⟩
theorem there_at {k : ByteArray} {l : List Kv} (h : posF k l < l.length) : thereF k l = decide (l[posF k l].k = k) := by
  unfold thereF
  rw [List.getElem?_eq_getElem h]
  simp
theorem there_end {k : ByteArray} {l : List Kv} (h : ¬ posF k l < l.length) : thereF k l = false := by
  unfold thereF
  rw [List.getElem?_eq_none (by omega)]
  simp
/-- behind the place the keys are above -/
theorem above_pos {k : ByteArray} {l : List Kv} (hs : Srt l) {j : Nat} (hj : j < l.length) (h : posF k l < j) : ltB k l[j].k = true := by
  have hp : posF k l < l.length := by omega
  have h1 := hs.at_ hj h
  have h2 := posF_at hp
  cases h3 : ltB k l[posF k l].k with
  | true => exact ltB_trans h3 h1
  | false => rw [← ltB_total h2 h3]; exact h1
theorem above_at {k : ByteArray} {l : List Kv} (hp : posF k l < l.length) (ht : thereF k l = false) : ltB k l[posF k l].k = true := by
  rw [there_at hp] at ht
  have h2 := posF_at hp
  cases h3 : ltB k l[posF k l].k with
  | true => rfl
  | false => exact absurd (ltB_total h2 h3) (by simpa using ht)
/-- a key that is in a table stands at its place -/
theorem mem_there {k v : ByteArray} {l : List Kv} (hs : Srt l) (h : (⟨k, v⟩ : Kv) ∈ l) : ∃ hp : posF k l < l.length, l[posF k l] = ⟨k, v⟩ := by
  obtain ⟨j, hj, e⟩ := List.getElem_of_mem h
  have hpos : posF k l = j := posF_of (by omega) (fun i hi hij => by have := hs.at_ hj hij; rw [e] at this; exact this) (fun _ => by rw [e]; exact ltB_irrefl k)
  subst hpos
  exact ⟨hj, e⟩
theorem there_mem {k : ByteArray} {l : List Kv} (hs : Srt l) (p : Kv) (hp : p ∈ l) (e : p.k = k) : thereF k l = true := by
  obtain ⟨k', v⟩ := p
  obtain rfl : k' = k := e
  obtain ⟨h1, h2⟩ := mem_there hs hp
  rw [there_at h1, h2]
  simp

/- what is read -/
def firstsF (l : List Kv) : List ByteArray := (l.take 10).flatMap fun p => [p.k, p.v]
def readsF (d : Int) (k : ByteArray) (l : List Kv) : List ByteArray :=
  if d = 1 then (if thereF k l then [(l.getD (posF k l) default).v] else []) else if d = 2 then firstsF l else []
/- what is written -/
def restF (k : ByteArray) (l : List Kv) : List Kv := if thereF k l then l.drop (posF k l + 1) else l.drop (posF k l)
def writesF (d : Int) (k v : ByteArray) (l : List Kv) : List Kv × Int :=
  if d = 3 ∨ (d = 4 ∧ thereF k l = true) then (l.take (posF k l) ++ ⟨k, v⟩ :: restF k l, 1)
  else if d = 5 ∧ thereF k l = true then (l.take (posF k l) ++ restF k l, 1)
  else (l, 0)

theorem rest_above {k : ByteArray} {l : List Kv} (hs : Srt l) : ∀ p ∈ restF k l, ltB k p.k = true := by
  intro p hp
  unfold restF at hp
  split at hp
  · rename_i ht
    obtain ⟨j, hj, e⟩ := List.getElem_of_mem hp
    rw [List.length_drop] at hj
    rw [List.getElem_drop] at e
    have := above_pos (k := k) hs (j := posF k l + 1 + j) (by omega) (by omega)
    rw [e] at this
    exact this
  · rename_i ht
    obtain ⟨j, hj, e⟩ := List.getElem_of_mem hp
    rw [List.length_drop] at hj
    rw [List.getElem_drop] at e
    by_cases h0 : j = 0
    · subst h0
      have := above_at (k := k) (l := l) (by omega) (by simpa using ht)
      simp only [Nat.add_zero] at e
      rw [e] at this
      exact this
    · have := above_pos (k := k) hs (j := posF k l + j) (by omega) (by omega)
      rw [e] at this
      exact this
theorem front_below {k : ByteArray} {l : List Kv} : ∀ p ∈ l.take (posF k l), ltB p.k k = true := by
  intro p hp
  obtain ⟨j, hj, e⟩ := List.getElem_of_mem hp
  rw [List.length_take] at hj
  rw [List.getElem_take] at e
  have := posF_lt (k := k) (l := l) (j := j) (by omega) (by omega)
  rw [e] at this
  exact this
theorem rest_sub (k : ByteArray) (l : List Kv) : (restF k l).Sublist l := by
  unfold restF
  split <;> exact List.drop_sublist _ _
theorem parts_sub (k : ByteArray) (l : List Kv) : (l.take (posF k l) ++ restF k l).Sublist l := by
  have e : l = l.take (posF k l) ++ l.drop (posF k l) := (List.take_append_drop _ _).symm
  conv => rhs; rw [e]
  refine List.Sublist.append (List.Sublist.refl _) ?_
  unfold restF
  split
  · rw [← List.drop_drop]
    exact List.drop_sublist _ _
  · exact List.Sublist.refl _
theorem writes_srt (d : Int) (k v : ByteArray) {l : List Kv} (hs : Srt l) : Srt (writesF d k v l).1 := by
  unfold writesF
  split
  · show Srt (l.take (posF k l) ++ ⟨k, v⟩ :: restF k l)
    unfold Srt
    rw [List.pairwise_append, List.pairwise_cons]
    refine ⟨hs.sublist (List.take_sublist _ _), ⟨rest_above hs, hs.sublist (rest_sub k l)⟩, fun a ha b hb => ?_⟩
    rcases List.mem_cons.1 hb with rfl | hb
    · exact front_below a ha
    · exact ltB_trans (front_below a ha) (rest_above hs b hb)
  split
  · exact hs.sublist (parts_sub k l)
  · exact hs
/-- what stands there that isn't the key's -/
theorem mem_parts {k : ByteArray} {l : List Kv} (p : Kv) (hk : p.k ≠ k) : p ∈ l.take (posF k l) ++ restF k l ↔ p ∈ l := by
  constructor
  · exact fun h => (parts_sub k l).mem h
  · intro h
    have e : l = l.take (posF k l) ++ l.drop (posF k l) := (List.take_append_drop _ _).symm
    rw [e] at h
    rcases List.mem_append.1 h with h | h
    · exact List.mem_append_left _ h
    · refine List.mem_append_right _ ?_
      unfold restF
      split
      · rename_i ht
        obtain ⟨hp, e2⟩ := there_lt ht
        rw [List.drop_eq_getElem_cons hp] at h
        rcases List.mem_cons.1 h with rfl | h
        · exact absurd e2 hk
        · exact h
      · exact h
/-- what stands in the table behind a plan -/
theorem mem_writes (d : Int) (k v : ByteArray) {l : List Kv} (p : Kv) (hk : p.k ≠ k) : p ∈ (writesF d k v l).1 ↔ p ∈ l := by
  unfold writesF
  split
  · show p ∈ l.take (posF k l) ++ ⟨k, v⟩ :: restF k l ↔ _
    refine Iff.trans ?_ (mem_parts p hk)
    rw [List.mem_append, List.mem_append, List.mem_cons]
    constructor
    · rintro (h | rfl | h)
      · exact .inl h
      · exact absurd rfl hk
      · exact .inr h
    · rintro (h | h)
      · exact .inl h
      · exact .inr (.inr h)
  split
  · exact mem_parts p hk
  · exact Iff.rfl
theorem writes_put {d : Int} {k v : ByteArray} {l : List Kv} (h : d = 3 ∨ (d = 4 ∧ thereF k l = true)) : (⟨k, v⟩ : Kv) ∈ (writesF d k v l).1 := by
  unfold writesF
  rw [if_pos h]
  simp
theorem writes_gone {k v : ByteArray} {l : List Kv} (hs : Srt l) (p : Kv) (hp : p ∈ (writesF 5 k v l).1) : p.k ≠ k := by
  unfold writesF at hp
  rw [if_neg (by omega)] at hp
  split at hp
  · rcases List.mem_append.1 hp with h | h
    · exact ltB_ne (front_below p h)
    · exact (ltB_ne (rest_above hs p h)).symm
  · rename_i h
    intro e
    exact h ⟨rfl, there_mem hs p hp e⟩
theorem rest_len (k : ByteArray) (l : List Kv) : (l.take (posF k l)).length + (restF k l).length + (if thereF k l then 1 else 0) = l.length := by
  have := posF_le k l
  unfold restF
  split
  · rename_i h
    obtain ⟨hp, _⟩ := there_lt h
    rw [List.length_take, List.length_drop]
    omega
  · rw [List.length_take, List.length_drop]
    omega
theorem writes_len (d : Int) (k v : ByteArray) (l : List Kv) :
    ((writesF d k v l).2 = 0 ∧ (writesF d k v l).1.length = l.length) ∨ ((writesF d k v l).2 = 1 ∧ (writesF d k v l).1.length ≤ l.length + 1 ∧ l.length ≤ (writesF d k v l).1.length + 1) := by
  have := rest_len k l
  unfold writesF
  split
  · refine .inr ⟨rfl, ?_, ?_⟩
    all_goals
      simp only [List.length_append, List.length_cons]
      split at this <;> omega
  split
  · refine .inr ⟨rfl, ?_, ?_⟩
    all_goals
      simp only [List.length_append]
      split at this <;> omega
  · exact .inl ⟨rfl, rfl⟩
/-- what is read of a key -/
theorem reads_mem {k v : ByteArray} {l : List Kv} (hs : Srt l) (h : (⟨k, v⟩ : Kv) ∈ l) : readsF 1 k l = [v] := by
  obtain ⟨hp, e⟩ := mem_there hs h
  unfold readsF
  rw [if_pos rfl, there_mem hs _ h rfl, if_pos rfl, List.getD_eq_getElem?_getD, List.getElem?_eq_getElem hp, e]
  rfl
theorem reads_none {k : ByteArray} {l : List Kv} (h : ∀ p ∈ l, p.k ≠ k) : readsF 1 k l = [] := by
  unfold readsF
  rw [if_pos rfl]
  cases ht : thereF k l with
  | false => rfl
  | true =>
    obtain ⟨hp, e⟩ := there_lt ht
    exact absurd e (h _ (List.getElem_mem hp))
theorem keys_other (d : Int) {k k' v : ByteArray} (hk : k' ≠ k) {l : List Kv} (h : ∀ p ∈ l, p.k ≠ k') : ∀ p ∈ (writesF d k v l).1, p.k ≠ k' := by
  intro p hp e
  exact h p ((mem_writes d k v p (by rw [e]; exact hk)).1 hp) e
end

/- Where a key stands in a table: place, and the library's binary search, by calls: contracts. -/
section
open Go.RowKit
set_option maxRecDepth 100000

def cmpB (a b : ByteArray) : Int := if ltB a b then -1 else if a = b then 0 else 1
theorem cmpB_lt {a b : ByteArray} : decide (cmpB a b < 0) = ltB a b := by
  unfold cmpB
  cases ltB a b with
  | true => rfl
  | false =>
    by_cases h : a = b
    · rw [if_neg (by simp), if_pos h]; rfl
    · rw [if_neg (by simp), if_neg h]; rfl
theorem cmpB_eq {a b : ByteArray} : (cmpB a b == 0) = decide (a = b) := by
  unfold cmpB
  by_cases h : a = b
  · subst h
    rw [ltB_irrefl]
    simp
  · cases ltB a b with
    | true => simp [h]
    | false => simp [h]

theorem ret_b {a b : Bool} (h : a = b) : Ending.returned (.bool a) = .returned (.bool b) := by rw [h]
theorem isNaN_ok (s : ByteArray) (w : World) : Calls Tryz.prog 90 #[.string s] w fun e w' => e = .returned (.bool false) ∧ w = w' := by
  go_enter Tryz.func90, Tryz.ntmps90
  go_wp2_with fail
  go_ret
  exact ⟨ret_b (by simp), rfl⟩

set_option maxHeartbeats 1000000 in
theorem compare_ok (a b : ByteArray) (w : World) : Calls Tryz.prog 56 #[.string a, .string b] w fun e w' => e = .returned (.int .i64 (cmpB a b)) ∧ w = w' := by
  have H1 := fun u => isNaN_ok a u
  have H2 := fun u => isNaN_ok b u
  have hR : cmpB a b = if ltB a b then -1 else if a = b then 0 else 1 := rfl
  have hT : ∀ x, Hid (ltB a b = x) → Op.bytesLess a.toList b.toList = x := fun x h => h.out
  cases hl : ltB a b with
  | true =>
    rw [hl, if_pos rfl] at hR
    have hb := hT _ (Lib.hid hl)
    have HR := Lib.hid hR
    clear hl hT hR
    go_enter Tryz.func56, Tryz.ntmps56
    go_wp2_with fail
    refine (H1 _).mono ?_
    rintro e w1 ⟨rfl, rfl⟩
    go_wp2_with fail
    refine (H2 _).mono ?_
    rintro e w1 ⟨rfl, rfl⟩
    go_wp2_with fail
    go_ret
    exact ⟨by rw [HR.out]; rfl, rfl⟩
  | false =>
    rw [hl, if_neg (by simp)] at hR
    have hb := hT _ (Lib.hid hl)
    by_cases he : a = b
    · rw [if_pos he] at hR
      have hb2 : (a.toList == b.toList) = true := by rw [he]; simp
      have HR := Lib.hid hR
      clear hl hT hR he
      go_enter Tryz.func56, Tryz.ntmps56
      go_wp2_with fail
      refine (H1 _).mono ?_
      rintro e w1 ⟨rfl, rfl⟩
      go_wp2_with fail
      refine (H2 _).mono ?_
      rintro e w1 ⟨rfl, rfl⟩
      go_wp2_with fail
      go_ret
      exact ⟨by rw [HR.out]; rfl, rfl⟩
    · rw [if_neg he] at hR
      have hb2 : (a.toList == b.toList) = false := by
        simp only [beq_eq_false_iff_ne, ne_eq]
        exact fun h => he (bytes_ext h)
      have HR := Lib.hid hR
      clear hl hT hR he
      go_enter Tryz.func56, Tryz.ntmps56
      go_wp2_with fail
      refine (H1 _).mono ?_
      rintro e w1 ⟨rfl, rfl⟩
      go_wp2_with fail
      refine (H2 _).mono ?_
      rintro e w1 ⟨rfl, rfl⟩
      go_wp2_with fail
      go_ret
      exact ⟨by rw [HR.out]; rfl, rfl⟩

theorem keyOf_ok (k v : ByteArray) (w : World) : Calls Tryz.prog 24 #[.agg #[.string k, .string v]] w fun e w' => e = .returned (.string k) ∧ Below w.heap.size w w' := by
  have kw := kp_new w (.cells #[.string k, .string v] 81)
  go_enter Tryz.func24, Tryz.ntmps24
  go_wp2_with fail
  go_ret
  exact ⟨rfl, kw⟩

set_option maxHeartbeats 1000000 in
/-- the closure that the search is given: a pair's key against a key -/
theorem against_ok (k v key : ByteArray) (b : Nat) (w : World) (hc : w.cell? ⟨b, 0, none⟩ = some (.func (.func 24) #[] #[])) (hlt : b < w.heap.size) :
    Calls Tryz.prog 55 #[.agg #[.string k, .string v], .string key, .pointer (some ⟨b, 0, none⟩)] w fun e w' => e = .returned (.int .i64 (cmpB k key)) ∧ Below w.heap.size w w' := by
  have kw := kp_new w (.cells #[.string k, .string v] 81)
  go_enter Tryz.func55, Tryz.ntmps55
  go_wp2_with fail
  refine (keyOf_ok k v _).mono ?_
  rintro e w1 ⟨rfl, k1⟩
  go_wp2_with fail
  refine (compare_ok k key _).mono ?_
  rintro e w2 ⟨rfl, rfl⟩
  go_wp2_with fail
  go_ret
  exact ⟨rfl, kp_trans kw k1⟩

set_option maxHeartbeats 2000000 in
theorem search_ok (A : Option Addr) (n c : Nat) (ts : List Kv) (key : ByteArray) (b : Nat) (w : World) (h : KR w A n ts) (hs : Srt ts) (hn : n ≤ 1000000) (hc : w.cell? ⟨b, 0, none⟩ = some (.func (.func 24) #[] #[])) (hlt : b < w.heap.size) :
    Calls Tryz.prog 54 #[.slice A n c, .string key, .func (.func 55) #[] #[.pointer (some ⟨b, 0, none⟩)]] w
      fun e w' => e = .returned (.tuple #[.int .i64 (posF key ts : Nat), .bool (thereF key ts)]) ∧ Below w.heap.size w w' := by
  have HL := Lib.hid h.len
  have HS := Lib.hid hs
  have HH := Lib.hid h
  have HC := Lib.hid hc
  have HB := Lib.hid hlt
  clear h hs hc hlt
  go_enter Tryz.func54, Tryz.ntmps54
  go_wp2
  go_loopw [9, 10] (fun i j wr => ∃ lo hi : Nat, i = .int .i64 lo ∧ j = .int .i64 hi ∧ lo ≤ hi ∧ hi ≤ n ∧ Hid (∀ t (ht : t < ts.length), t < lo → ltB ts[t].k key = true) ∧ Hid (∀ t (ht : t < ts.length), hi ≤ t → ltB ts[t].k key = false) ∧ Below w.heap.size w wr) (fun i j _ => (intOf j).toNat - (intOf i).toNat)
  case atStart => exact ⟨0, n, rfl, rfl, Nat.zero_le _, Nat.le_refl _, Lib.hid (fun t _ h => absurd h (Nat.not_lt_zero _)), Lib.hid (fun t ht h => by have := HL.out; omega), Below.refl _ _⟩
  case round =>
    obtain ⟨lo, hi, rfl, rfl, hlh, hin, I1, I2, k0⟩ := hrel
    by_cases hlt : lo < hi
    · have hm : (lo + hi) / 2 < ts.length := by rw [HL.out]; omega
      obtain ⟨ad, rfl, _, hcc⟩ := HH.out.at_ hm
      obtain ⟨c0, c1⟩ := hcc _ k0
      clear hcc
      have HA := Lib.hid (against_ok ts[(lo + hi) / 2].k ts[(lo + hi) / 2].v key b wr ((k0.cell HB.out).trans HC.out) (Nat.lt_of_lt_of_le HB.out k0.size))
      have HE := Lib.hid (cmpB_lt (a := ts[(lo + hi) / 2].k) (b := key))
      cases hl : ltB ts[(lo + hi) / 2].k key with
      | true =>
        have J1 : Hid (∀ t (ht : t < ts.length), t < (lo + hi) / 2 + 1 → ltB ts[t].k key = true) := Lib.hid (fun t ht h => by
          by_cases he : t = (lo + hi) / 2
          · subst he; exact hl
          · exact ltB_trans (HS.out.at_ hm (show t < (lo + hi) / 2 by omega)) hl)
        replace HE : Hid (decide (cmpB ts[(lo + hi) / 2].k key < 0) = true) := Lib.hid (by rw [HE.out, hl])
        clear hl I1
        generalize ts[(lo + hi) / 2].k = x at *
        generalize ts[(lo + hi) / 2].v = y at *
        generalize cmpB x key = z at *
        have hz : z < 0 := by simpa using HE.out
        go_wp2_with fail
        refine HA.out.mono ?_
        rintro e w1 ⟨rfl, k1⟩
        go_wp2_with fail
        go_roundw
        case rel => exact ⟨(lo + hi) / 2 + 1, hi, by go_num, rfl, by omega, hin, J1, I2, kp_trans k0 k1⟩
        case measure => simp [intOf]; omega
      | false =>
        have J2 : Hid (∀ t (ht : t < ts.length), (lo + hi) / 2 ≤ t → ltB ts[t].k key = false) := Lib.hid (fun t ht h => by
          by_cases he : t = (lo + hi) / 2
          · subst he; exact hl
          · cases h2 : ltB ts[t].k key with
            | false => rfl
            | true => rw [← hl]; exact (ltB_trans (HS.out.at_ (i := (lo + hi) / 2) ht (by omega)) h2).symm ▸ rfl)
        replace HE : Hid (decide (cmpB ts[(lo + hi) / 2].k key < 0) = false) := Lib.hid (by rw [HE.out, hl])
        clear hl I2
        generalize ts[(lo + hi) / 2].k = x at *
        generalize ts[(lo + hi) / 2].v = y at *
        generalize cmpB x key = z at *
        have hz : ¬ z < 0 := by simpa using HE.out
        go_wp2_with fail
        refine HA.out.mono ?_
        rintro e w1 ⟨rfl, k1⟩
        go_wp2_with fail
        go_roundw
        case rel => exact ⟨lo, (lo + hi) / 2, rfl, by go_num, by omega, by omega, I1, J2, kp_trans k0 k1⟩
        case measure => simp [intOf]; omega
    · obtain rfl : hi = lo := by omega
      have hpos : posF key ts = hi := posF_of (by rw [HL.out]; exact hin) (fun j hj h => I1.out j hj h) (fun h => I2.out hi h (Nat.le_refl _))
      by_cases hn2 : hi < n
      · have hm : hi < ts.length := by rw [HL.out]; exact hn2
        obtain ⟨ad, rfl, _, hcc⟩ := HH.out.at_ hm
        obtain ⟨c0, c1⟩ := hcc _ k0
        clear hcc
        have HA := Lib.hid (against_ok ts[hi].k ts[hi].v key b wr ((k0.cell HB.out).trans HC.out) (Nat.lt_of_lt_of_le HB.out k0.size))
        have hE := cmpB_eq (a := ts[hi].k) (b := key)
        have hT : thereF key ts = decide (ts[hi].k = key) := by
          subst hpos
          exact there_at hm
        rw [← hE] at hT
        have HT := Lib.hid hT
        have HP := Lib.hid hpos
        clear hE hT hpos
        generalize ts[hi].k = x at *
        generalize ts[hi].v = y at *
        generalize cmpB x key = z at *
        go_wp2_with fail
        refine HA.out.mono ?_
        rintro e w1 ⟨rfl, k1⟩
        go_wp2_with fail
        go_ret2
        exact ⟨by rw [HT.out, HP.out]; rfl, kp_trans k0 k1⟩
      · have hT : thereF key ts = false := there_end (by rw [HL.out, hpos]; exact hn2)
        have HT := Lib.hid hT
        have HP := Lib.hid hpos
        clear hT hpos
        go_wp2_with fail
        go_ret2
        exact ⟨by rw [HT.out, HP.out]; rfl, k0⟩

theorem place_ok (A : Option Addr) (n c : Nat) (ts : List Kv) (key : ByteArray) (w : World) (h : KR w A n ts) (hs : Srt ts) (hn : n ≤ 1000000) :
    Calls Tryz.prog 23 #[.slice A n c, .string key, .func (.func 24) #[] #[]] w
      fun e w' => e = .returned (.tuple #[.int .i64 (posF key ts : Nat), .bool (thereF key ts)]) ∧ Below w.heap.size w w' := by
  have HH := Lib.hid h
  clear h
  go_enter Tryz.func23, Tryz.ntmps23
  go_wp2_with fail
  refine (search_ok A n c ts key w.heap.size _ (HH.out.next (kp_new w _)) hs hn ?_ (by simp)).mono ?_
  · rw [cell_of_row _ _ 0 #[_] _ (0, 0) (heap_alloc_new w _)]; rfl
  rintro e w1 ⟨rfl, k1⟩
  go_wp2_with fail
  go_ret2
  exact ⟨rfl, kp_trans (kp_new w _) k1⟩
end

/- Rows of pairs cut, copied and laid behind one another: slices.Concat, slices.Clone: contracts. -/
section
open Go.RowKit
set_option maxRecDepth 100000

theorem kvinfo : (Tryz.prog.info? 81).map (fun i => (i.zero, i.size, i.bytes)) = some (some (.agg #[.string ⟨#[]⟩, .string ⟨#[]⟩]), 2, 32) := by kernel_rfl
theorem kvsize : (Tryz.prog.info? (Tryz.prog.elem 32)).map (·.size) = some 2 := by kernel_rfl

section
variable {w : World} {A : Option Addr} {n c : Nat} {ts : List Kv}
theorem KR.cut0 (h : KR w A n ts) (hc : n ≤ c) (P : Program) (t : TypeId) (ht : P.underlying t = some (.slice (P.elem t))) (hz : (P.info? (P.elem t)).map (·.size) = some 2) {j : Nat} (y : Int) (hy : y = j) (hj : j ≤ n) :
    ∃ A', (∀ u, (Instr.slice t (.slice A n c) none (some (.int .i64 y)) none).run P u = .ok (.slice A' j c) u) ∧ KR w A' j (ts.take j) := by
  obtain ⟨ti, hti, hsz⟩ := Option.map_eq_some_iff.1 hz
  refine ⟨A, fun u => ?_, ⟨by rw [List.length_take, h.len]; omega, by rw [kvC_take]; exact h.rd.front _⟩⟩
  subst hy
  rw [run_slice_h u t A n c ht .i64 j (by omega) (by omega)]
  cases A with
  | none => simp [sizeOf, typeInfo, hti, hsz, sliced, Result.andThen]
  | some ad => simp [sizeOf, typeInfo, hti, hsz, sliced, Result.andThen, Addr.add]
theorem KR.cut1 (h : KR w A n ts) (hc : n ≤ c) (P : Program) (t : TypeId) (ht : P.underlying t = some (.slice (P.elem t))) (hz : (P.info? (P.elem t)).map (·.size) = some 2) {i : Nat} (x : Int) (hx : x = i) (hi : i ≤ n) :
    ∃ A', (∀ u, (Instr.slice t (.slice A n c) (some (.int .i64 x)) none none).run P u = .ok (.slice A' (n - i) (c - i)) u) ∧ KR w A' (n - i) (ts.drop i) := by
  obtain ⟨ti, hti, hsz⟩ := Option.map_eq_some_iff.1 hz
  have hr := h.rd.cut (k := i * 2) (cap := c * 2) (by rw [kvC_length, h.len]; omega)
  have e : (if c * 2 = i * 2 then A else A.map (·.add (i * 2))) = if c = i then A else A.map (·.add (i * 2)) := by
    by_cases hci : c = i
    · rw [if_pos hci, if_pos (by rw [hci])]
    · rw [if_neg hci, if_neg (by omega)]
  rw [e] at hr
  refine ⟨_, fun u => ?_, ⟨by rw [List.length_drop, h.len], by rw [kvC_drop]; exact hr⟩⟩
  subst hx
  rw [run_slice_l u t A n c ht .i64 i (by omega) (by omega)]
  simp [sizeOf, typeInfo, hti, hsz, sliced, Result.andThen]
end

set_option maxHeartbeats 400000 in
theorem growk_nil (n : Nat) (w : World) (hn : n ≤ 1000000) :
    Calls Tryz.prog 57 #[.slice none 0 0, .int .i64 n] w fun e w' => ∃ A' c', e = .returned (.slice A' 0 c') ∧ OK 81 w' w.heap.size A' 0 c' [] ∧ Below w.heap.size w w' := by
  obtain ⟨i0, hi, hz0, hz1, hz2⟩ := info_parts kvinfo
  rcases Nat.eq_zero_or_pos n with rfl | hpos
  · go_enter Tryz.func57, Tryz.ntmps57
    go_wp2_with fail
    go_ret
    exact ⟨none, 0, rfl, OK.nil _ _ _, Below.refl _ _⟩
  · have hrz : ∀ ty, (Builtin.append_ #[32, 3] ty #[.slice none 0 0, .int .i64 (n : Int)]).run Tryz.prog w =
        .ok (.slice (some ⟨w.heap.size, 0, none⟩) n (grownCap w n 0 81)) (w.drew.alloc (.cells (([] : List Value).toArray ++ Builtin.zeroCells (Value.agg #[.string ⟨#[]⟩, .string ⟨#[]⟩]).cells n ++ Builtin.zeroCells (Value.agg #[.string ⟨#[]⟩, .string ⟨#[]⟩]).cells (grownCap w n 0 81 - n)) 81)) := fun ty => by
      have h := Lib.run_append_grow_zeros (P := Tryz.prog) w 32 3 ty 81 i0 (.agg #[.string ⟨#[]⟩, .string ⟨#[]⟩]) .i64 .i64 Tryz.underlying32 Tryz.underlying3 hi hz0 none 0 0 [] (run_firstCells_none w.drew i0.size 0 0 0) n hpos (by omega) (by omega) (by omega) (by rw [hz2]; omega)
        (by rw [hz2]; exact growslice_fits (by omega) (by omega))
      simpa using h
    have hG1 := grownCap_ge w n 0 81
    have hG2 := grownCap_le_maxLen w n 0 81 (by unfold maxLen; omega)
    generalize grownCap w n 0 81 = G at *
    have hg3 : G ≤ 9223372036854775807 := by unfold maxLen at hG2; omega
    go_enter Tryz.func57, Tryz.ntmps57
    go_wp2_with (at_builtin; refine Lib.wpList_append_run _ rfl _ _ _ _ rfl _ _ rfl rfl _ _ (hrz _) ?_)
    all_goals
      go_ret
      refine ⟨_, _, rfl, ⟨⟨by simp [kvC], .inr ⟨w.heap.size, G, _, rfl, Nat.le_refl _, heap_alloc_new w.drew _, by omega, hG2, ?_, by simp [kvC]⟩⟩, by omega⟩, (Below.refl _ _).drew.alloc (Nat.le_refl _) _⟩
      simp only [size_zeroCells, List.size_toArray, Array.size_append]
      simp
      omega

/-- a row of pairs as it lies -/
structure PartK where
  A : Option Addr
  l : Nat
  c : Nat
  ts : List Kv
def flatK (ps : List PartK) : List Kv := ps.flatMap (·.ts)
theorem flatK_next (ps : List PartK) (k : Nat) (h : k < ps.length) : flatK (ps.take (k + 1)) = flatK (ps.take k) ++ ps[k].ts := by
  rw [List.take_succ_eq_append_getElem h]
  simp only [flatK, List.flatMap_append, List.flatMap_cons, List.flatMap_nil, List.append_nil]
theorem sizesK_next (ps : List PartK) (k : Nat) (h : k < ps.length) : (flatK (ps.take (k + 1))).length = (flatK (ps.take k)).length + ps[k].ts.length := by
  rw [flatK_next ps k h, List.length_append]
theorem sizesK_le (ps : List PartK) (k : Nat) : (flatK (ps.take k)).length ≤ (flatK ps).length := by
  have h : flatK ps = flatK (ps.take k) ++ flatK (ps.drop k) := by rw [flatK, flatK, flatK, ← List.flatMap_append, List.take_append_drop]
  rw [h, List.length_append]
  omega

set_option maxHeartbeats 800000 in
theorem concatk_any (ad : Addr) (m c : Nat) (ps : List PartK) (w : World) (hm : ps.length = m) (hm6 : m ≤ 1000) (had : ad.block < w.heap.size)
    (hc : ∀ j (h : j < ps.length), w.cell? (ad.add j) = some (.slice ps[j].A ps[j].l ps[j].c)) (hs : ∀ j (h : j < ps.length), KR w ps[j].A ps[j].l ps[j].ts) (htot : (flatK ps).length ≤ 900000) :
    Calls Tryz.prog 25 #[.slice (some ad) m c] w fun e w' => ∃ A' n' c', e = .returned (.slice A' n' c') ∧ OK 81 w' w.heap.size A' n' c' (flatK ps) ∧ Below w.heap.size w w' := by
  obtain ⟨i0, hi, hz0, hz1, hz2⟩ := info_parts kvinfo
  have Hc := Lib.hid hc
  have Hs := Lib.hid hs
  have HM := Lib.hid hm
  clear hc hs hm
  go_enter Tryz.func25, Tryz.ntmps25
  go_wp2_with fail
  go_loop [3, 11] (fun n i => ∃ k z : Nat, k ≤ m ∧ i = .int .i64 k ∧ n = .int .i64 z ∧ Hid ((flatK (ps.take k)).length = z) ∧ z ≤ 900000) (fun _ i => m - (intOf i).toNat)
  case atStart => exact ⟨0, 0, Nat.zero_le _, rfl, rfl, Lib.hid rfl, by omega⟩
  case round =>
    obtain ⟨k, z, hk, rfl, rfl, hz, hz9⟩ := hrel
    by_cases hlt : k < m
    · have hkl : k < ps.length := by rw [HM.out]; exact hlt
      have hcell := Hc.out k hkl
      have hl := (Hs.out k hkl).len
      have hsn := sizesK_next ps k hkl
      rw [hz.out, hl] at hsn
      have hle := sizesK_le ps (k + 1)
      rw [hsn] at hle
      have hle2 : z + ps[k].l ≤ 900000 := by omega
      generalize ps[k].l = lk at *
      generalize ps[k].A = Ak at *
      generalize ps[k].c = ck at *
      have HSN := Lib.hid hsn
      clear hsn hle hl
      go_wp2_with fail
      go_round
      case rel => exact ⟨k + 1, z + lk, by omega, by go_num, by go_num, HSN, hle2⟩
      case measure => simp [intOf]; omega
    · obtain rfl : k = m := by omega
      go_wp2_with fail
      refine (growk_nil z _ (by omega)).mono ?_
      rintro e w1 ⟨A1, c1, rfl, ho1, hb1⟩
      go_wp2_with fail
      go_loopw [6, 27] (fun v i wr => ∃ (q z' : Nat) (A' : Option Addr) (c' : Nat), q ≤ k ∧ i = .int .i64 q ∧ v = .slice A' z' c' ∧ z' ≤ 900000 ∧ OK 81 wr w.heap.size A' z' c' (flatK (ps.take q)) ∧ Below w.heap.size w wr) (fun _ i _ => k - (intOf i).toNat)
      case atStart => exact ⟨0, 0, A1, c1, Nat.zero_le _, rfl, rfl, by omega, ho1, hb1⟩
      case round =>
        obtain ⟨q, z', A2, c2, hq, rfl, rfl, hz9', ho2, hb2⟩ := hrel
        by_cases hlt2 : q < k
        · have hkl : q < ps.length := by rw [HM.out]; exact hlt2
          have hcell := Hc.out q hkl
          rw [← hb2.cell (by rw [add_block]; exact had)] at hcell
          have hsq := (Hs.out q hkl).next hb2
          have hl := (Hs.out q hkl).len
          have hsn := sizesK_next ps q hkl
          rw [ho2.len, hl] at hsn
          have hle := sizesK_le ps (q + 1)
          rw [hsn] at hle
          have hle2 : z' + ps[q].l ≤ 900000 := by omega
          have HF := Lib.hid (flatK_next ps q hkl)
          have hsz := hb2.size
          generalize ps[q].l = lk at *
          generalize ps[q].A = Ak at *
          generalize ps[q].c = ck at *
          generalize ps[q].ts = bk at *
          have HSN := Lib.hid hsn
          clear hsn hle hl
          go_wp2_with (at_builtin; refine wpList_append_rds rfl _ _ _ rfl w.heap.size 81 i0 _ 2 32 Tryz.underlying32 hi hz0 hz1 hz2 rfl (by decide) _ z' _ rfl ho2.own wr.heap.size _ _ _ (kvC bk) rfl (by rw [kvC_length, hsq.len]) hsq.rd (kvC_one _) (by unfold maxLen; omega) (by omega) hsz ?_; intro v3 w3 hown3 hg3; rw [← kvC_append] at hown3; obtain ⟨A3, c3, rfl, hcap3, _⟩ := own_form_s hown3)
          go_roundw
          case rel => exact ⟨q + 1, z' + lk, A3, c3, by omega, by go_num, rfl, hle2, ⟨by rw [HF.out]; exact hown3, hcap3⟩, hb2.trans (below_own_s ho2.own hg3 hsz)⟩
          case measure => simp [intOf]; omega
        · obtain rfl : q = k := by omega
          go_wp2_with fail
          go_ret
          refine ⟨A2, z', c2, rfl, ?_, hb2⟩
          rw [← List.take_of_length_le (l := ps) (by rw [HM.out]; exact Nat.le_refl _)]
          exact ho2

/-- Concat of a new row of rows -/
theorem concatk_new (w : World) (ps : List PartK) (m : Nat) (hm : ps.length = m) (hm6 : m ≤ 1000) (hs : ∀ p ∈ ps, KR w p.A p.l p.ts) (htot : (flatK ps).length ≤ 900000) :
    Calls Tryz.prog 25 #[.slice (some ⟨w.heap.size, 0, none⟩) m m] (w.alloc (.cells (ps.map fun p => Value.slice p.A p.l p.c).toArray 32)) fun e w' => ∃ A' n' c', e = .returned (.slice A' n' c') ∧ OK 81 w' w.heap.size A' n' c' (flatK ps) ∧ Below w.heap.size w w' := by
  refine (concatk_any ⟨w.heap.size, 0, none⟩ m m ps _ hm hm6 (by simp) (fun j h => ?_) (fun j h => (hs _ (List.getElem_mem h)).next (kp_new _ _)) htot).mono fun e w' ⟨A', n', c', he, ho, hb⟩ => ⟨A', n', c', he, ho.base_ (by simp), kp_trans (kp_new _ _) hb⟩
  rcases Rd.new w 32 (ps.map fun p => Value.slice p.A p.l p.c) with h0 | ⟨ad, e, _, hc⟩
  · have := congrArg List.length h0
    simp at this
    subst this
    simp at h
  · injection e with e
    subst e
    exact hc j _ (by simp [h])

set_option maxHeartbeats 800000 in
theorem clonek_ok (A : Option Addr) (n c : Nat) (ts : List Kv) (w : World) (h : KR w A n ts) (hn : n ≤ 1000000) :
    Calls Tryz.prog 26 #[.slice A n c] w fun e w' => ∃ A' n' c', e = .returned (.slice A' n' c') ∧ OK 81 w' w.heap.size A' n' c' ts ∧ Below w.heap.size w w' := by
  obtain ⟨i0, hi, hz0, hz1, hz2⟩ := info_parts kvinfo
  have hq := fun u => Lib.run_eql_slice_nil (P := Tryz.prog) u 32 81 A n c 0 0 Tryz.underlying32
  cases A with
  | none =>
    obtain rfl : ts = [] := by
      rcases h.rd with h0 | ⟨_, h0, _⟩
      · have := kvC_length ts
        rw [h0] at this
        exact List.eq_nil_of_length_eq_zero (by simp at this; omega)
      · cases h0
    go_enter Tryz.func26, Tryz.ntmps26
    go_wp2_with fail
    go_ret
    exact ⟨none, 0, 0, rfl, OK.nil _ _ _, Below.refl _ _⟩
  | some ad =>
    have ho := own_new_s w w.heap.size 2 81 0 [] rfl (Nat.le_refl _) (Nat.zero_le _)
    have hk := kp_new w (.cells #[] 81)
    have hr := h.next hk
    generalize hw : w.alloc (.cells #[] 81) = w1 at *
    have HW := Lib.hid hw
    have ho' : w1.ownsRow w.heap.size 81 2 (.slice (some ⟨w.heap.size, 0, none⟩) 0 0) 0 [] := ho
    clear hw
    have hb1 := hk.size
    go_enter Tryz.func26, Tryz.ntmps26
    go_wp2_with (at_builtin; rw [HW.out]; refine wpList_append_rds rfl _ _ _ rfl w.heap.size 81 i0 _ 2 32 Tryz.underlying32 hi hz0 hz1 hz2 rfl (by decide) _ 0 _ rfl ho' w1.heap.size _ _ _ (kvC ts) rfl (by rw [kvC_length, hr.len]) hr.rd (kvC_one _) (by unfold maxLen; omega) (by omega) hb1 ?_; intro v3 w3 hown3 hg3; obtain ⟨A3, c3, rfl, hcap3, _⟩ := own_form_s hown3)
    go_ret
    exact ⟨A3, _, c3, rfl, ⟨by simpa using hown3, by omega⟩, hk.trans (below_own_s ho' hg3 hb1)⟩
end

/- What is written to a table, by the call Writes of package plan: contract. -/
section
open Go.RowKit
set_option maxRecDepth 100000

def planV (d : Int) (k v : ByteArray) : Value := .agg #[.int .i64 d, .string k, .string v]
/-- a block of three cells -/
theorem cells3 {w : World} {b : Nat} {x y z : Value} {t : TypeId} (h : w.heap[b]? = some (.cells #[x, y, z] t (0, 0))) : w.cell? ⟨b, 0, none⟩ = some x ∧ w.cell? ⟨b, 1, none⟩ = some y ∧ w.cell? ⟨b, 2, none⟩ = some z := by
  refine ⟨?_, ?_, ?_⟩
  · rw [cell_of_row _ _ 0 #[x, y, z] t (0, 0) h]; rfl
  · rw [cell_of_row _ _ 1 #[x, y, z] t (0, 0) h]; rfl
  · rw [cell_of_row _ _ 2 #[x, y, z] t (0, 0) h]; rfl
theorem box3 {w u : World} {x y z : Value} {t : TypeId} (k : Below (w.alloc (.cells #[x, y, z] t)).heap.size (w.alloc (.cells #[x, y, z] t)) u) : u.cell? ⟨w.heap.size, 0, none⟩ = some x ∧ u.cell? ⟨w.heap.size, 1, none⟩ = some y ∧ u.cell? ⟨w.heap.size, 2, none⟩ = some z :=
  cells3 ((k.block _ (by simp)).trans (heap_alloc_new w _))

theorem concat3 (w : World) (A0 A1 : Option Addr) (l0 c0 l1 c1 : Nat) (xs ys : List Kv) (k v : ByteArray) (hx : KR w A0 l0 xs) (hy : KR w A1 l1 ys) (hn : l0 + l1 ≤ 800000) :
    Calls Tryz.prog 25 #[.slice (some ⟨w.heap.size + 1, 0, none⟩) 3 3] ((w.alloc (.cells #[.string k, .string v] 81)).alloc (.cells #[.slice A0 l0 c0, .slice (some ⟨w.heap.size, 0, none⟩) 1 1, .slice A1 l1 c1] 32))
      fun e w' => ∃ A' n' c', e = .returned (.slice A' n' c') ∧ OK 81 w' w.heap.size A' n' c' (xs ++ ⟨k, v⟩ :: ys) ∧ Below w.heap.size w w' := by
  have k1 := kp_new w (.cells #[.string k, .string v] 81)
  have hm : KR (w.alloc (.cells #[.string k, .string v] 81)) (some ⟨w.heap.size, 0, none⟩) 1 [⟨k, v⟩] := ⟨rfl, (Rd.new w 81 (kvC [⟨k, v⟩])).more (by simp)⟩
  have := concatk_new (w.alloc (.cells #[.string k, .string v] 81)) [⟨A0, l0, c0, xs⟩, ⟨some ⟨w.heap.size, 0, none⟩, 1, 1, [⟨k, v⟩]⟩, ⟨A1, l1, c1, ys⟩] 3 rfl (by decide) (fun p hp => by
    simp only [List.mem_cons, List.not_mem_nil, or_false] at hp
    rcases hp with rfl | rfl | rfl
    · exact hx.next k1
    · exact hm
    · exact hy.next k1) (by
    have h1 := hx.len
    have h2 := hy.len
    simp only [flatK, List.flatMap_cons, List.flatMap_nil, List.length_append, List.length_cons, List.length_nil]
    omega)
  rw [show (w.alloc (.cells #[.string k, .string v] 81)).heap.size = w.heap.size + 1 from by simp] at this
  refine this.mono fun e w' ⟨A', n', c', he, ho, hb⟩ => ⟨A', n', c', he, ?_, k1.trans (hb.mono (by omega))⟩
  have e : flatK [⟨A0, l0, c0, xs⟩, ⟨some ⟨w.heap.size, 0, none⟩, 1, 1, [⟨k, v⟩]⟩, ⟨A1, l1, c1, ys⟩] = xs ++ ⟨k, v⟩ :: ys := by simp [flatK]
  rw [← e]
  exact ho.base_ (by omega)
theorem concat2 (w : World) (A0 A1 : Option Addr) (l0 c0 l1 c1 : Nat) (xs ys : List Kv) (hx : KR w A0 l0 xs) (hy : KR w A1 l1 ys) (hn : l0 + l1 ≤ 800000) :
    Calls Tryz.prog 25 #[.slice (some ⟨w.heap.size, 0, none⟩) 2 2] (w.alloc (.cells #[.slice A0 l0 c0, .slice A1 l1 c1] 32))
      fun e w' => ∃ A' n' c', e = .returned (.slice A' n' c') ∧ OK 81 w' w.heap.size A' n' c' (xs ++ ys) ∧ Below w.heap.size w w' := by
  have := concatk_new w [⟨A0, l0, c0, xs⟩, ⟨A1, l1, c1, ys⟩] 2 rfl (by decide) (fun p hp => by
    simp only [List.mem_cons, List.not_mem_nil, or_false] at hp
    rcases hp with rfl | rfl
    · exact hx
    · exact hy) (by
    have h1 := hx.len
    have h2 := hy.len
    simp only [flatK, List.flatMap_cons, List.flatMap_nil, List.length_append, List.length_nil]
    omega)
  have e : flatK [⟨A0, l0, c0, xs⟩, ⟨A1, l1, c1, ys⟩] = xs ++ ys := by simp [flatK]
  rw [e] at this
  exact this

/-- what the answer of Writes is like -/
def WrTo (d : Int) (k v : ByteArray) (ts : List Kv) (w : World) (e : Ending) (w' : World) : Prop :=
  ∃ A' n' c', e = .returned (.tuple #[.slice A' n' c', .int .i64 (writesF d k v ts).2]) ∧ OK 81 w' w.heap.size A' n' c' (writesF d k v ts).1 ∧ Below w.heap.size w w'

set_option maxHeartbeats 4000000 in
theorem writes_ok (d : Int) (k v : ByteArray) (A : Option Addr) (n c : Nat) (ts : List Kv) (w : World) (h : KR w A n ts) (hc : n ≤ c) (hs : Srt ts) (hn : n ≤ 700000) :
    Calls Tryz.prog 9 #[.agg #[.int .i64 d, .string k, .string v], .slice A n c] w (WrTo d k v ts w) := by
  have kw := kp_new w (.cells #[.int .i64 d, .string k, .string v] 24)
  have HP := Lib.hid (place_ok A n c ts k _ (h.next kw) hs (by omega))
  have hle := posF_le k ts
  have hlt := fun h => (there_lt (k := k) (l := ts) h).1
  have hW : writesF d k v ts = if d = 3 ∨ (d = 4 ∧ thereF k ts = true) then (ts.take (posF k ts) ++ ⟨k, v⟩ :: restF k ts, 1) else if d = 5 ∧ thereF k ts = true then (ts.take (posF k ts) ++ restF k ts, 1) else (ts, 0) := rfl
  have hR : restF k ts = if thereF k ts then ts.drop (posF k ts + 1) else ts.drop (posF k ts) := rfl
  rw [hR] at hW
  clear hR
  have hlen := h.len
  unfold WrTo
  generalize posF k ts = p at *
  generalize thereF k ts = b at *
  generalize writesF d k v ts = W at *
  obtain ⟨A0, s0, r0⟩ := h.cut0 hc Tryz.prog 32 Tryz.underlying32 kvsize (j := p) (p : Int) rfl (by omega)
  obtain ⟨A1, s1, r1⟩ := h.cut1 hc Tryz.prog 32 Tryz.underlying32 kvsize (i := p) (p : Int) rfl (by omega)
  have HW := Lib.hid hW
  have HK := Lib.hid h
  have HR0 := Lib.hid r0
  have HR1 := Lib.hid r1
  have HLN := Lib.hid hlen
  have hpn0 : p ≤ n := by omega
  clear hW hs h r0 r1 hlen hle
  cases b with
  | true =>
    have hpn : p < n := by have := hlt rfl; rw [HLN.out] at this; exact this
    obtain ⟨A2, s2, r2⟩ := HK.out.cut1 hc Tryz.prog 32 Tryz.underlying32 kvsize (i := p + 1) ((p : Int) + 1) (by omega) (by omega)
    have HR2 := Lib.hid r2
    clear r2 hlt
    by_cases h34 : d = 3 ∨ d = 4
    · have hW : W = (ts.take p ++ ⟨k, v⟩ :: ts.drop (p + 1), 1) := by
        rw [HW.out, if_pos (by rcases h34 with h | h <;> simp [h]), if_pos rfl]
      subst hW
      clear HW
      rcases h34 with rfl | rfl
      all_goals
        go_enter Tryz.func9, Tryz.ntmps9
        go_wp2_with fail
        refine HP.out.mono ?_
        rintro e w1 ⟨rfl, k1⟩
        obtain ⟨c0, c1, c2⟩ := box3 k1
        have K1 := kp_trans kw k1
        clear HP
        go_wp2_with fail
        go_quiet (fail)
        have kq : Below w1.heap.size w1 (w1.drewN nq) := kp_drewN w1 nq
        have K2 := K1.trans (kq.mono K1.size)
        generalize w1.drewN nq = w2 at *
        replace c0 := (kq.cell (World.block_lt_of_cell? _ _ c0)).trans c0
        replace c1 := (kq.cell (World.block_lt_of_cell? _ _ c1)).trans c1
        replace c2 := (kq.cell (World.block_lt_of_cell? _ _ c2)).trans c2
        clear k1 kq
        go_wp2_with fail
        refine (concat3 w2 A0 A2 p c (n - (p + 1)) (c - (p + 1)) _ _ k v (HR0.out.next K2) (HR2.out.next K2) (by omega)).mono ?_
        rintro e w3 ⟨A3, n3, c3, rfl, ho, k3⟩
        go_wp2_with fail
        go_ret2
        exact ⟨A3, n3, c3, rfl, ho.base_ K2.size, kp_trans K2 k3⟩
    · have n3 : (d == 3) = false := by simp only [beq_eq_false_iff_ne, ne_eq]; omega
      have n4 : (d == 4) = false := by simp only [beq_eq_false_iff_ne, ne_eq]; omega
      by_cases h5 : d = 5
      · subst h5
        have hW : W = (ts.take p ++ ts.drop (p + 1), 1) := by
          rw [HW.out, if_neg (by omega), if_pos (by simp), if_pos rfl]
        subst hW
        clear HW h34
        go_enter Tryz.func9, Tryz.ntmps9
        go_wp2_with fail
        refine HP.out.mono ?_
        rintro e w1 ⟨rfl, k1⟩
        obtain ⟨c0, c1, c2⟩ := box3 k1
        have K1 := kp_trans kw k1
        clear HP
        go_wp2_with fail
        go_quiet (fail)
        have kq : Below w1.heap.size w1 (w1.drewN nq) := kp_drewN w1 nq
        have K2 := K1.trans (kq.mono K1.size)
        generalize w1.drewN nq = w2 at *
        replace c0 := (kq.cell (World.block_lt_of_cell? _ _ c0)).trans c0
        replace c1 := (kq.cell (World.block_lt_of_cell? _ _ c1)).trans c1
        replace c2 := (kq.cell (World.block_lt_of_cell? _ _ c2)).trans c2
        clear k1 kq
        go_wp2_with fail
        refine (concat2 w2 A0 A2 p c (n - (p + 1)) (c - (p + 1)) _ _ (HR0.out.next K2) (HR2.out.next K2) (by omega)).mono ?_
        rintro e w3 ⟨A3, n3, c3, rfl, ho, k3⟩
        go_wp2_with fail
        go_ret2
        exact ⟨A3, n3, c3, rfl, ho.base_ K2.size, kp_trans K2 k3⟩
      · have n5 : (d == 5) = false := by simp only [beq_eq_false_iff_ne, ne_eq]; omega
        have hW : W = (ts, 0) := by
          rw [HW.out, if_neg (by omega), if_neg (by omega)]
        subst hW
        clear HW h34 h5
        go_enter Tryz.func9, Tryz.ntmps9
        go_wp2_with fail
        refine HP.out.mono ?_
        rintro e w1 ⟨rfl, k1⟩
        obtain ⟨c0, c1, c2⟩ := box3 k1
        have K1 := kp_trans kw k1
        clear HP
        go_wp2_with fail
        go_quiet (fail)
        have kq : Below w1.heap.size w1 (w1.drewN nq) := kp_drewN w1 nq
        have K2 := K1.trans (kq.mono K1.size)
        generalize w1.drewN nq = w2 at *
        replace c0 := (kq.cell (World.block_lt_of_cell? _ _ c0)).trans c0
        replace c1 := (kq.cell (World.block_lt_of_cell? _ _ c1)).trans c1
        replace c2 := (kq.cell (World.block_lt_of_cell? _ _ c2)).trans c2
        clear k1 kq
        go_wp2_with fail
        refine (clonek_ok A n c ts w2 (HK.out.next K2) (by omega)).mono ?_
        rintro e w3 ⟨A3, n3, c3, rfl, ho, k3⟩
        go_wp2_with fail
        go_ret2
        exact ⟨A3, n3, c3, rfl, ho.base_ K2.size, kp_trans K2 k3⟩
  | false =>
    clear hlt
    by_cases h3 : d = 3
    · subst h3
      have hW : W = (ts.take p ++ ⟨k, v⟩ :: ts.drop p, 1) := by
        rw [HW.out, if_pos (by simp), if_neg (by simp)]
      subst hW
      clear HW
      go_enter Tryz.func9, Tryz.ntmps9
      go_wp2_with fail
      refine HP.out.mono ?_
      rintro e w1 ⟨rfl, k1⟩
      obtain ⟨c0, c1, c2⟩ := box3 k1
      have K1 := kp_trans kw k1
      clear HP
      go_wp2_with fail
      go_quiet (fail)
      have kq : Below w1.heap.size w1 (w1.drewN nq) := kp_drewN w1 nq
      have K2 := K1.trans (kq.mono K1.size)
      generalize w1.drewN nq = w2 at *
      replace c0 := (kq.cell (World.block_lt_of_cell? _ _ c0)).trans c0
      replace c1 := (kq.cell (World.block_lt_of_cell? _ _ c1)).trans c1
      replace c2 := (kq.cell (World.block_lt_of_cell? _ _ c2)).trans c2
      clear k1 kq
      go_wp2_with fail
      refine (concat3 w2 A0 A1 p c (n - p) (c - p) _ _ k v (HR0.out.next K2) (HR1.out.next K2) (by omega)).mono ?_
      rintro e w3 ⟨A3, n3, c3, rfl, ho, k3⟩
      go_wp2_with fail
      go_ret2
      exact ⟨A3, n3, c3, rfl, ho.base_ K2.size, kp_trans K2 k3⟩
    · have hW : W = (ts, 0) := by
        rw [HW.out, if_neg (by simp [h3]), if_neg (by simp)]
      subst hW
      clear HW
      have n3 : (d == 3) = false := by simpa using h3
      generalize h4 : (d == 4) = b4
      generalize h5 : (d == 5) = b5
      clear h3
      cases b4
      all_goals
        cases b5
      all_goals
        go_enter Tryz.func9, Tryz.ntmps9
        go_wp2_with fail
        refine HP.out.mono ?_
        rintro e w1 ⟨rfl, k1⟩
        obtain ⟨c0, c1, c2⟩ := box3 k1
        have K1 := kp_trans kw k1
        clear HP
        go_wp2_with fail
        go_quiet (fail)
        have kq : Below w1.heap.size w1 (w1.drewN nq) := kp_drewN w1 nq
        have K2 := K1.trans (kq.mono K1.size)
        generalize w1.drewN nq = w2 at *
        replace c0 := (kq.cell (World.block_lt_of_cell? _ _ c0)).trans c0
        replace c1 := (kq.cell (World.block_lt_of_cell? _ _ c1)).trans c1
        replace c2 := (kq.cell (World.block_lt_of_cell? _ _ c2)).trans c2
        clear k1 kq
        go_wp2_with fail
        refine (clonek_ok A n c ts w2 (HK.out.next K2) (by omega)).mono ?_
        rintro e w3 ⟨A3, n3, c3, rfl, ho, k3⟩
        go_wp2_with fail
        go_ret2
        exact ⟨A3, n3, c3, rfl, ho.base_ K2.size, kp_trans K2 k3⟩
end
end Go.Proofs.YtaimmdhjfccnkaaGreatDoor
