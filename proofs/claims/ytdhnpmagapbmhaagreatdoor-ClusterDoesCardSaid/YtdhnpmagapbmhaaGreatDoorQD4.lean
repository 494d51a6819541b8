/-
  Contracts and plain functions that the law stands on, part 4 of 24.
-/
import Derived.Test.YtdhnpmagapbmhaaGreatDoorQD3
import Derived.Lib.Case
import Derived.Lib.MapLaws
import Derived.BigQuiet
namespace Go.Proofs.YtdhnpmagapbmhaaGreatDoor
/- What tokens are, as a statement: plain functions of lists of tokens (no function of the program is named here). -/
section
abbrev Tok := Int × List UInt8
def stopF (t : Tok) : Bool := decide (t.1 = 6) && decide (t.2 = [59])
def isHintF (t : Tok) : Bool := decide (t.1 = 5)
def wordF (ws : List (List UInt8)) (t : Tok) : Bool := decide (t.1 = 1) && decide (t.2 ∈ ws)
def hasF (l : List Tok) (ws : List (List UInt8)) : Bool := l.any (wordF ws)
def headF (l : List Tok) (ws : List (List UInt8)) : Bool := (l.head?.map (wordF ws)).getD false
def bareF (l : List Tok) (ws : List (List UInt8)) : Bool := decide (l.length = 0) || (decide (l.length = 1) && headF l ws)
def wSHOW : List UInt8 := [83, 72, 79, 87]
def wDESCRIBE : List UInt8 := [68, 69, 83, 67, 82, 73, 66, 69]
def wDESC : List UInt8 := [68, 69, 83, 67]
def wEXPLAIN : List UInt8 := [69, 88, 80, 76, 65, 73, 78]
def wINSERT : List UInt8 := [73, 78, 83, 69, 82, 84]
def wUPDATE : List UInt8 := [85, 80, 68, 65, 84, 69]
def wDELETE : List UInt8 := [68, 69, 76, 69, 84, 69]
def wREPLACE : List UInt8 := [82, 69, 80, 76, 65, 67, 69]
def wCREATE : List UInt8 := [67, 82, 69, 65, 84, 69]
def wDROP : List UInt8 := [68, 82, 79, 80]
def wALTER : List UInt8 := [65, 76, 84, 69, 82]
def wTRUNCATE : List UInt8 := [84, 82, 85, 78, 67, 65, 84, 69]
def wGRANT : List UInt8 := [71, 82, 65, 78, 84]
def wREVOKE : List UInt8 := [82, 69, 86, 79, 75, 69]
def wCALL : List UInt8 := [67, 65, 76, 76]
def wLOCK : List UInt8 := [76, 79, 67, 75]
def wSELECT : List UInt8 := [83, 69, 76, 69, 67, 84]
def wVALUES : List UInt8 := [86, 65, 76, 85, 69, 83]
def wTABLE : List UInt8 := [84, 65, 66, 76, 69]
def wWITH : List UInt8 := [87, 73, 84, 72]
def wBEGIN : List UInt8 := [66, 69, 71, 73, 78]
def wSTART : List UInt8 := [83, 84, 65, 82, 84]
def wCOMMIT : List UInt8 := [67, 79, 77, 77, 73, 84]
def wROLLBACK : List UInt8 := [82, 79, 76, 76, 66, 65, 67, 75]
def wSET : List UInt8 := [83, 69, 84]
def wINTO : List UInt8 := [73, 78, 84, 79]
def wSHARE : List UInt8 := [83, 72, 65, 82, 69]
def wWORK : List UInt8 := [87, 79, 82, 75]
def wTRANSACTION : List UInt8 := [84, 82, 65, 78, 83, 65, 67, 84, 73, 79, 78]
def wANALYZE : List UInt8 := [65, 78, 65, 76, 89, 90, 69]
def wANALYSE : List UInt8 := [65, 78, 65, 76, 89, 83, 69]
def wAUTOCOMMIT : List UInt8 := [65, 85, 84, 79, 67, 79, 77, 77, 73, 84]
def wGLOBAL : List UInt8 := [71, 76, 79, 66, 65, 76]
def wPERSIST : List UInt8 := [80, 69, 82, 83, 73, 83, 84]
def famL : List (List UInt8 × Int) :=
 [(wSHOW, 1), (wDESCRIBE, 1), (wDESC, 1), (wEXPLAIN, 2), (wINSERT, 3), (wUPDATE, 3), (wDELETE, 3), (wREPLACE, 3), (wCREATE, 3), (wDROP, 3), (wALTER, 3), (wTRUNCATE, 3), (wGRANT, 3), (wREVOKE, 3), (wCALL, 3), (wLOCK, 3),
  (wSELECT, 4), (wVALUES, 4), (wTABLE, 4), (wWITH, 5), (wBEGIN, 6), (wSTART, 7), (wCOMMIT, 8), (wROLLBACK, 9), (wSET, 10)]
def famF (x : List UInt8) : Int := ((famL.reverse.find? fun p => decide (p.1 = x)).map Prod.snd).getD 0
def six : List (List UInt8) := [wINSERT, wUPDATE, wDELETE, wREPLACE, wINTO, wSHARE]
def selF (rest : List Tok) (reads : Bool) : Int := if hasF rest six then 2 else if reads then 1 else 7
def ifF (c : Int) (b : Bool) : Int := if b then c else 7
def exF (rest : List Tok) (c : Int) : Int := if headF rest [wANALYZE, wANALYSE] then (if c = 2 then 2 else if c = 7 then 7 else 1) else 1
def famB (v : Int) (rest : List Tok) (ex : Int) : Int :=
 if v = 1 then 1
 else if v = 2 then ex
 else if v = 3 then 2
 else if v = 4 then selF rest true
 else if v = 5 then selF rest (hasF rest [wSELECT])
 else if v = 6 then ifF 3 (bareF rest [wWORK, wTRANSACTION])
 else if v = 7 then ifF 3 (headF rest [wTRANSACTION])
 else if v = 8 then ifF 4 (bareF rest [wWORK])
 else if v = 9 then ifF 5 (bareF rest [wWORK])
 else if v = 10 then ifF 6 (!headF rest [wAUTOCOMMIT, wGLOBAL, wPERSIST])
 else 7
def classF : List Tok → Int
 | [] => 7
 | t :: rest => if decide (t.1 ≠ 1) || (t :: rest).any stopF then 7 else famB (famF t.2) rest (exF rest (classF (rest.drop 1)))
termination_by l => l.length
decreasing_by
 simp only [List.length_drop, List.length_cons]; omega
theorem classF_nil : classF [] = 7 := by rw [classF]
theorem classF_no {t : Tok} {r : List Tok} (h : t.1 ≠ 1 ∨ (t :: r).any stopF = true) : classF (t :: r) = 7 := by
 rw [classF]
 have : (decide (t.1 ≠ 1) || (t :: r).any stopF) = true := by
  rcases h with h | h
  · rw [decide_eq_true h]; rfl
  · rw [h]; simp
 rw [this, if_pos rfl]
theorem classF_word {t : Tok} {r : List Tok} (h : t.1 = 1) (hs : (t :: r).any stopF = false) : classF (t :: r) = famB (famF t.2) r (exF r (classF (r.drop 1))) := by
 rw [classF]
 have : (decide (t.1 ≠ 1) || (t :: r).any stopF) = false := by
  rw [hs, decide_eq_false (by simpa using h)]; rfl
 rw [this]; rfl
def endF (l : List Tok) : List Tok := (l.reverse.dropWhile stopF).reverse
theorem endF_stop {l : List Tok} {t : Tok} (h : stopF t = true) : endF (l ++ [t]) = endF l := by simp [endF, h]
theorem endF_last {l : List Tok} {t : Tok} (h : stopF t = false) : endF (l ++ [t]) = l ++ [t] := by simp [endF, h]
def bodyF (l : List Tok) : List Tok := endF (l.filter fun t => !isHintF t)
end

/- What lexed tokens are like: how long, and words have no blank (no function of the program is named here). -/
section
open Go.RowKit
set_option maxRecDepth 100000
theorem trimF_le (l : List UInt8) : (trimF l).length ≤ l.length := by
 unfold trimF Lib.trimS Lib.trimLeftS Lib.trimRightS; have h1 := (List.dropWhile_sublist (fun x => blanks4.contains x) (l := (l.reverse.dropWhile (fun x => blanks4.contains x)).reverse)).length_le; have h2 := (List.dropWhile_sublist (fun x => blanks4.contains x) (l := l.reverse)).length_le; simp only [List.length_reverse] at h1 h2; omega
def okTok (t : Tok) (n : Nat) : Prop := t.2.length ≤ n ∧ (t.1 = 1 → t.2 ≠ [] ∧ (32 : UInt8) ∉ t.2)
theorem up_blank (c : UInt8) (h : lodF c = true) : upF c ≠ 32 := by
 have := by_all (fun c => !lodF c || decide (upF c ≠ 32)) (by decide +kernel) c; rw [h] at this; simpa using this
theorem firstF_ok {l : List UInt8} {k : Nat} {t : List UInt8} {n : Nat} (h : firstF l = some (k, t, n)) : okTok ((k : Int), t) l.length := by
 cases l with
 | nil => simp [firstF] at h
 | cons c r =>
   have hsz := (firstF_size k t n h).2; simp only [firstF] at h; unfold okTok; split at h
   · rename_i hc
     simp only [Option.some.injEq, Prod.mk.injEq] at h; obtain ⟨rfl, rfl, rfl⟩ := h; have hl : lodF c = true := by simp [lodF, hc]
     refine ⟨by simp [greatF]; omega, fun _ => ⟨?_, ?_⟩⟩
     · rw [runF_some hl]; simp [greatF]
     · unfold greatF; intro hm; obtain ⟨b, hb, e⟩ := List.mem_map.1 hm; exact up_blank b (runF_all lodF _ b hb) e
   split at h
   · simp only [Option.some.injEq, Prod.mk.injEq] at h; obtain ⟨rfl, rfl, rfl⟩ := h; exact ⟨by simp; omega, fun e => by simp at e⟩
   split at h
   · obtain ⟨x, hx, h⟩ := Option.map_eq_some_iff.1 h; have := quotedF_le hx; simp only [Prod.mk.injEq] at h; obtain ⟨rfl, rfl, rfl⟩ := h; exact ⟨by simp; omega, fun e => by simp at e⟩
   split at h
   · obtain ⟨x, hx, h⟩ := Option.map_eq_some_iff.1 h; have := quotedF_le hx; simp only [Prod.mk.injEq] at h; obtain ⟨rfl, rfl, rfl⟩ := h; exact ⟨by simp; omega, fun e => by simp at e⟩
   split at h
   · split at h
     · cases h
     · simp only [Option.some.injEq, Prod.mk.injEq] at h; obtain ⟨rfl, rfl, rfl⟩ := h; refine ⟨?_, fun e => by simp at e⟩; have := trimF_le (((c :: r).take (closedF (c :: r) 3 - 2)).drop 3); simp only [List.length_drop, List.length_take] at this ⊢; omega
   split at h
   · simp only [Option.some.injEq, Prod.mk.injEq] at h; obtain ⟨rfl, rfl, rfl⟩ := h; exact ⟨by simp, fun e => by simp at e⟩
   · cases h
theorem step_tok {l : List UInt8} {k : Nat} {t : List UInt8} {n : Nat} (h : stepF l = .tok k t n) : firstF l = some (k, t, n) := by
 cases l with
 | nil => simp [stepF] at h
 | cons c r =>
   rw [stepF] at h; split at h
   · cases h
   split at h
   · cases h
   split at h
   · split at h <;> cases h
   · split at h
     · cases h
     · rename_i hf
       simp only [Step.tok.injEq] at h; obtain ⟨rfl, rfl, rfl⟩ := h; exact hf
theorem lexF_ok : ∀ (n : Nat) (l : List UInt8) (x : List Tok), l.length ≤ n → lexF l = some x → ∀ t ∈ x, okTok t l.length := by
 intro n
 induction n with
 | zero =>
   intro l x hl h; obtain rfl : l = [] := List.eq_nil_of_length_eq_zero (by omega); rw [lexF_nil] at h; injection h with h; subst h; simp
 | succ n ih =>
   intro l x hl h; by_cases hne : l = []
   · subst hne; rw [lexF_nil] at h; injection h with h; subst h; simp
   cases hst : stepF l with
   | bad => rw [lexF_bad hne hst] at h; cases h
   | skip m =>
     by_cases hm : m = 0
     · rw [lexF, dif_neg hne, hst] at h; simp [hm] at h
     · rw [lexF_skip hne hst hm] at h; have hl0 := List.length_pos_iff.2 hne; intro t ht; have := ih (l.drop m) x (by rw [List.length_drop]; omega) h t ht; rw [List.length_drop] at this; exact ⟨by have := this.1; omega, this.2⟩
   | tok k t m =>
     by_cases hm : m = 0
     · rw [lexF, dif_neg hne, hst] at h; simp [hm] at h
     · rw [lexF_tok hne hst hm] at h; obtain ⟨y, hy, rfl⟩ := Option.map_eq_some_iff.1 h; have hl0 := List.length_pos_iff.2 hne; intro t' ht'; rcases List.mem_cons.1 ht' with rfl | ht'
       · exact firstF_ok (step_tok hst)
       · have := ih (l.drop m) y (by rw [List.length_drop]; omega) hy t' ht'; rw [List.length_drop] at this; exact ⟨by have := this.1; omega, this.2⟩
theorem lexA_ok (l : List UInt8) : ∀ t ∈ (lexA l).1, okTok t 200 := by
 unfold lexA; split
 · simp
 · cases h : lexF l with
   | none => simp
   | some x =>
     intro t ht; have := lexF_ok l.length l x (Nat.le_refl _) h t ht; exact ⟨by have := this.1; omega, this.2⟩
def classA (l : List UInt8) : Int := if (lexA l).2 = 0 then classF (bodyF (lexA l).1) else 0
theorem lexA_err (l : List UInt8) (h : (lexA l).2 ≠ 0) : (lexA l).1 = [] := by
 unfold lexA at h ⊢; by_cases h2 : 200 < l.length
 · rw [if_pos h2]
 · rw [if_neg h2] at h ⊢
   cases hf : lexF l with
   | none => rfl
   | some x => rw [hf] at h; exact absurd rfl h
end

/- Tokens come back from what is written of them, whatever stands between: plain mathematics. -/
section
open Go.RowKit
set_option maxRecDepth 100000
theorem blank_parts (b : UInt8) (h : blankF b = true) : lodF b = false ∧ b ≠ 34 ∧ b ≠ 39 ∧ b ≠ 42 ∧ b ≠ 45 ∧ b ≠ 47 := by
 have := by_all (fun b => !blankF b || (!lodF b && (decide (b ≠ 34) && (decide (b ≠ 39) && (decide (b ≠ 42) && (decide (b ≠ 45) && decide (b ≠ 47))))))) (by decide +kernel) b; rw [h] at this; simp only [Bool.not_true, Bool.false_or, Bool.and_eq_true, Bool.not_eq_true', decide_eq_true_eq] at this; exact this
theorem runF_append {p : UInt8 → Bool} : ∀ (t : List UInt8) (b : UInt8) (r : List UInt8), runF p t = t.length → p b = false → runF p (t ++ b :: r) = t.length
 | [], b, r, _, hb => runF_none hb
 | c :: t, b, r, h, hb => by
   have hc : p c = true := by
    cases hp : p c with
    | true => rfl
    | false => rw [runF_none hp] at h; simp at h
   rw [runF_some hc] at h; rw [List.cons_append, runF_some hc, runF_append t b r (by simpa using h) hb]; rfl
theorem beg_snd {a b c d : UInt8} {r : List UInt8} (h : d ≠ b) : begF [a, b] (c :: d :: r) = false := by
 cases hb : begF [a, b] (c :: d :: r) with
 | false => rfl
 | true =>
   unfold begF Lib.hasPrefix at hb; rw [List.isPrefixOf, List.isPrefixOf] at hb; simp at hb
   exact absurd hb.2.symm h
theorem beg3_snd {a b e c d : UInt8} {r : List UInt8} (h : d ≠ b) : begF [a, b, e] (c :: d :: r) = false := by
 cases hb : begF [a, b, e] (c :: d :: r) with
 | false => rfl
 | true =>
   unfold begF Lib.hasPrefix at hb; rw [List.isPrefixOf, List.isPrefixOf] at hb; simp at hb
   exact absurd hb.2.1.symm h
theorem quoted_back (q : UInt8) : ∀ (t r : List UInt8), r[0]? ≠ some q → quotedF q (twiceF q t ++ q :: r) = some (t, (twiceF q t).length + 1)
 | [], r, h => by
   rw [twiceF, List.nil_append, quotedF_ends h]; rfl
 | b :: t, r, h => by
   have ih := quoted_back q t r h; rw [twiceF]; split
   · rename_i hb
     subst hb; rw [List.cons_append, List.cons_append, quotedF_twice, ih]; simp
   · rename_i hb
     rw [List.cons_append, quotedF_other hb, ih]; simp
theorem index_behind : ∀ (t : List UInt8) (x : UInt8) (r : List UInt8), Lib.index t ends2 = -1 → x ≠ 47 → 0 ≤ Lib.index (x :: r) ends2 → Lib.index (t ++ x :: r) ends2 = (t.length : Int) + Lib.index (x :: r) ends2
 | [], x, r, _, _, _ => by simp
 | b :: t, x, r, h, hx, h0 => by
   have hb : ends2.isPrefixOf (b :: t) = false := by
    cases hp : ends2.isPrefixOf (b :: t) with
    | false => rfl
    | true => rw [Lib.index, hp] at h; simp at h
   have ht : Lib.index t ends2 = -1 := by
    rw [Lib.index, hb] at h; simp only [Bool.false_eq_true, if_false] at h; split at h
    · rename_i h1; simpa using h1
    · have := Lib.index_ge t ends2; omega
   have hb2 : ends2.isPrefixOf (b :: (t ++ x :: r)) = false := by
    cases hp : ends2.isPrefixOf (b :: (t ++ x :: r)) with
    | false => rfl
    | true =>
      exfalso; unfold ends2 at hp hb
      cases t with
      | nil =>
        rw [List.nil_append, List.isPrefixOf, List.isPrefixOf] at hp; simp at hp
        exact hx hp.2.symm
      | cons d t =>
        rw [List.cons_append, List.isPrefixOf, List.isPrefixOf] at hp; rw [List.isPrefixOf, List.isPrefixOf] at hb; simp at hp hb
        exact hb hp.1 hp.2
   have ih := index_behind t x r ht hx h0; rw [List.cons_append, Lib.index, hb2, ih]; simp only [Bool.false_eq_true, if_false]; rw [if_neg (by simp only [beq_iff_eq]; omega)]; simp; omega
theorem index_here (r : List UInt8) : Lib.index (42 :: 47 :: r) ends2 = 0 := by
 rw [Lib.index, if_pos (by simp [ends2, List.isPrefixOf])]
theorem trim_spaces (t : List UInt8) : trimF (32 :: t ++ [32]) = trimF t := by
 rw [trimF_R, trimF_R]
 have e1 : trimR (32 :: t ++ [32]) = rtrim blankF ((t ++ [32]).dropWhile blankF) := by
  unfold trimR rtrim; rw [List.cons_append, dropWhile_front (by decide)]
 have e2 : trimR t = rtrim blankF (t.dropWhile blankF) := rfl; rw [e1, e2, ← trim_sides, ← trim_sides, rtrim_front (by decide)]
theorem no_end (t : List UInt8) (h : Lib.contains t ends2 = false) : Lib.index t ends2 = -1 := by
 unfold Lib.contains at h; have h2 : ¬ 0 ≤ Lib.index t ends2 := by simpa using h
 have := Lib.index_ge t ends2; omega
theorem step_of_first (c : UInt8) (r : List UInt8) (h : skipF (c :: r) = 0) {k : Nat} {t : List UInt8} {n : Nat} (hf : firstF (c :: r) = some (k, t, n)) : stepF (c :: r) = .tok k t n := by
 rw [(step_first c r h).2.2, hf]
theorem step_written (k : Int) (t : List UInt8) (hr : rightF k t = true) (b : UInt8) (hb : blankF b = true) (rest : List UInt8) :
 stepF (writtenF k t ++ b :: rest) = .tok k.toNat t (writtenF k t).length ∧ writtenF k t ≠ [] := by
 obtain ⟨bl, b34, b39, b42, b45, b47⟩ := blank_parts b hb; rcases right_kind hr with rfl | rfl | rfl | rfl | rfl | rfl
 · have hw : writtenF 1 t = t := rfl; rw [hw]; have hF : rightWordF t = true := hr
   cases t with
   | nil => simp [rightWordF] at hF
   | cons c r =>
     simp only [rightWordF, Bool.and_eq_true, decide_eq_true_eq] at hF; obtain ⟨h1, h2, h3⟩ := hF; have hlod : lodF c = true := by simp [lodF, h1]
     have hrun := runF_append (p := lodF) (c :: r) b rest h2 bl; rw [List.cons_append] at hrun ⊢; refine ⟨step_of_first c _ (skip_lod c _ hlod) ?_, by simp⟩; simp only [firstF, h1, if_true]; rw [hrun]
     have e1 : (c :: (r ++ b :: rest)).take (c :: r).length = c :: r := by
      rw [← List.cons_append, List.take_left']; rfl
     rw [e1, h3]; rfl
 · have hw : writtenF 2 t = 34 :: (twiceF 34 t ++ [34]) := rfl; rw [hw]; have hs : skipF (34 :: (twiceF 34 t ++ [34] ++ b :: rest)) = 0 := skip_plain _ _ (by decide) (beg_not (by decide)) (by decide) (beg_not (by decide)); refine ⟨?_, by simp⟩; rw [List.cons_append]; refine step_of_first _ _ hs ?_; simp only [firstF]; rw [if_neg (by decide), if_neg (by decide), if_pos (by decide), List.append_assoc]; have := quoted_back 34 t (b :: rest) (by simpa using b34); rw [List.singleton_append, this]; simp
 · have hw : writtenF 3 t = 39 :: (twiceF 39 t ++ [39]) := rfl; rw [hw]; have hs : skipF (39 :: (twiceF 39 t ++ [39] ++ b :: rest)) = 0 := skip_plain _ _ (by decide) (beg_not (by decide)) (by decide) (beg_not (by decide)); refine ⟨?_, by simp⟩; rw [List.cons_append]; refine step_of_first _ _ hs ?_; simp only [firstF]; rw [if_neg (by decide), if_neg (by decide), if_neg (by decide), if_pos (by decide), List.append_assoc]; have := quoted_back 39 t (b :: rest) (by simpa using b39); rw [List.singleton_append, this]; simp
 · have hw : writtenF 4 t = t := rfl; rw [hw]; have hF : (decide (t ≠ []) && decide (runF digitF t = t.length)) = true := hr; simp only [Bool.and_eq_true, decide_eq_true_eq] at hF
   cases t with
   | nil => exact absurd rfl hF.1
   | cons c r =>
     have h2 := hF.2
     have hd : digitF c = true := by
      cases hp : digitF c with
      | true => rfl
      | false => rw [runF_none hp] at h2; simp at h2
     have hlod : lodF c = true := by simp [lodF, hd]
     have hbd : digitF b = false := by
      cases hp : digitF b with
      | false => rfl
      | true => simp [lodF, hp] at bl
     have hrun := runF_append (p := digitF) (c :: r) b rest h2 hbd; rw [List.cons_append] at hrun ⊢; refine ⟨step_of_first c _ (skip_lod c _ hlod) ?_, by simp⟩; simp only [firstF, digit_no_letter c hd, hd, Bool.false_eq_true, if_false, if_true]; rw [hrun]
     have e1 : (c :: (r ++ b :: rest)).take (c :: r).length = c :: r := by
      rw [← List.cons_append, List.take_left']; rfl
     rw [e1]; rfl
 · have hF : (!Lib.contains t ends2 && decide (trimF t = t)) = true := hr; simp only [Bool.and_eq_true, Bool.not_eq_true', decide_eq_true_eq] at hF; have hw : writtenF 5 t ++ b :: rest = 47 :: (42 :: 43 :: 32 :: (t ++ 32 :: 42 :: 47 :: b :: rest)) := by simp [writtenF]
   have hwl : (writtenF 5 t).length = t.length + 7 := by simp [writtenF]
   have hidx : Lib.index (32 :: (t ++ 32 :: 42 :: 47 :: b :: rest)) ends2 = (t.length : Int) + 2 := by
    have h1 := index_behind t 32 (42 :: 47 :: b :: rest) (no_end t hF.1) (by decide) (by
     have := index_behind [32] 42 (47 :: b :: rest) (by decide) (by decide) (by rw [index_here]; omega); rw [List.singleton_append, index_here] at this
     rw [this]; simp)
    have h2 := index_behind [32] 42 (47 :: b :: rest) (by decide) (by decide) (by rw [index_here]; omega); rw [List.singleton_append, index_here] at h2; rw [h2] at h1; rw [Lib.index, if_neg (by simp [ends2, List.isPrefixOf]), h1, if_neg (by simp only [beq_iff_eq]; simp; omega)]; simp; omega
   have hbeg : begF [47, 42, 43] (47 :: (42 :: 43 :: 32 :: (t ++ 32 :: 42 :: 47 :: b :: rest))) = true := by simp [begF, Lib.hasPrefix, List.isPrefixOf]
   have hcl : closedF (47 :: (42 :: 43 :: 32 :: (t ++ 32 :: 42 :: 47 :: b :: rest))) 3 = t.length + 7 := by
    unfold closedF; simp only [List.drop_succ_cons, List.drop_zero]; rw [hidx, if_neg (by omega)]; omega
   have hs : skipF (47 :: (42 :: 43 :: 32 :: (t ++ 32 :: 42 :: 47 :: b :: rest))) = 0 := by
    have hrm : isRemarkF (47 :: (42 :: 43 :: 32 :: (t ++ 32 :: 42 :: 47 :: b :: rest))) = false := by unfold isRemarkF; rw [hbeg]; simp
    have hln : isLineF (47 :: (42 :: 43 :: 32 :: (t ++ 32 :: 42 :: 47 :: b :: rest))) = false := by
     show (decide ((47 : UInt8).toNat = 35) || begF [45, 45] _) = false; rw [beg_not (by decide)]; decide
    rw [skipF, if_neg (by decide), hrm, hln]; rfl
   refine ⟨?_, by intro e; rw [e] at hwl; simp at hwl⟩; rw [hw, hwl]; refine step_of_first _ _ hs ?_; simp only [firstF]; rw [if_neg (by decide), if_neg (by decide), if_neg (by decide), if_neg (by decide), if_pos hbeg, hcl, if_neg (by omega)]
   have e1 : ((47 :: (42 :: 43 :: 32 :: (t ++ 32 :: 42 :: 47 :: b :: rest))).take (t.length + 7 - 2)).drop 3 = 32 :: t ++ [32] := by
    rw [show t.length + 7 - 2 = (t.length + 1) + 1 + 1 + 1 + 1 from by omega]; simp only [List.take_succ_cons, List.drop_succ_cons, List.drop_zero]; have e2 : t ++ 32 :: 42 :: 47 :: b :: rest = (t ++ [32]) ++ 42 :: 47 :: b :: rest := by simp
    rw [e2, List.take_left' (by simp)]; rfl
   rw [e1, trim_spaces, hF.2]; rfl
 · have hw : writtenF 6 t = t := rfl; rw [hw]
   cases t with
   | nil => exact absurd hr (by decide)
   | cons c r =>
     cases r with
     | cons d r =>
       have hF : false = true := hr; cases hF
     | nil =>
       have hF : signF c = true := hr; obtain ⟨g1, g2, g3, g4, g5, g6, g7, g8⟩ := (sign_parts c).1 hF; have hs : skipF (c :: b :: rest) = 0 := skip_plain _ _ (blank_lt c g1) (beg_snd b42) g8 (beg_snd b45); refine ⟨step_of_first c _ hs ?_, by simp⟩; simp only [firstF, g3, g4, Bool.false_eq_true, if_false]; rw [if_neg (by omega), if_neg g7, if_neg (by rw [beg3_snd b42]; simp), if_pos hF]; rfl
end

/- Letters' greatness changes no token where nothing is quoted: plain mathematics. -/
section
open Go.RowKit
set_option maxRecDepth 100000
end

/- What may stand between two tokens: blanks, remarks of each kind; a remark's line without line ends: plain mathematics. -/
section
open Go.RowKit
set_option maxRecDepth 100000
theorem lexF_blank (b : UInt8) (rest : List UInt8) (h : blankF b = true) : lexF (b :: rest) = lexF rest := by
 have hs : stepF (b :: rest) = .skip 1 := by rw [stepF, if_pos h]
 rw [lexF_skip (by simp) hs (by decide)]; rfl
end

/- Texts that say tokens, one behind the other: what is written of tokens, in small letters, with remarks, blanks and signs ; between and behind (no function of the program is named here). -/
section
open Go.RowKit
set_option maxRecDepth 100000
def Says (p : List UInt8) (ts : List Tok) : Prop := ∀ rest, lexF (p ++ rest) = (lexF rest).map (ts ++ ·)
theorem Says.then_ {p l : List UInt8} {ts us : List Tok} (h : Says p ts) (k : lexF l = some us) : lexF (p ++ l) = some (ts ++ us) := by
 rw [h, k]; rfl
theorem says_tok {x : List UInt8} {k : Int} {t : List UInt8} (hk : 0 ≤ k) (b : UInt8) (hb : blankF b = true) (hs : ∀ rest, stepF (x ++ b :: rest) = .tok k.toNat t x.length) (hx : x ≠ []) : Says (x ++ [b]) [(k, t)] := fun rest => by
 have e : x ++ [b] ++ rest = x ++ b :: rest := by simp
 rw [e, lexF_tok (by simp) (hs rest) (by intro e; exact hx (List.eq_nil_of_length_eq_zero e)), List.drop_left' rfl, lexF_blank b rest hb]; have : ((k.toNat : Nat) : Int) = k := by omega
 rw [this]; cases lexF rest <;> simp
theorem says_written (k : Int) (t : List UInt8) (hr : rightF k t = true) (b : UInt8) (hb : blankF b = true) : Says (writtenF k t ++ [b]) [(k, t)] :=
 says_tok (by have := right_kind hr; omega) b hb (fun rest => (step_written k t hr b hb rest).1) (step_written k t hr b hb []).2
theorem step_end (k : Int) (t : List UInt8) (hr : rightF k t = true) (h5 : k ≠ 5) : stepF (writtenF k t) = .tok k.toNat t (writtenF k t).length ∧ writtenF k t ≠ [] := by
 rcases right_kind hr with rfl | rfl | rfl | rfl | rfl | rfl
 · have hw : writtenF 1 t = t := rfl; rw [hw]; have hF : rightWordF t = true := hr
   cases t with
   | nil => simp [rightWordF] at hF
   | cons c r =>
     simp only [rightWordF, Bool.and_eq_true, decide_eq_true_eq] at hF; obtain ⟨h1, h2, h3⟩ := hF; have hlod : lodF c = true := by simp [lodF, h1]
     refine ⟨step_of_first c _ (skip_lod c _ hlod) ?_, by simp⟩; simp only [firstF, h1, if_true]; rw [h2, List.take_length, h3]; rfl
 · have hw : writtenF 2 t = 34 :: (twiceF 34 t ++ [34]) := rfl; rw [hw]; have hs : skipF (34 :: (twiceF 34 t ++ [34])) = 0 := skip_plain _ _ (by decide) (beg_not (by decide)) (by decide) (beg_not (by decide)); refine ⟨step_of_first _ _ hs ?_, by simp⟩; simp only [firstF]; rw [if_neg (by decide), if_neg (by decide), if_pos (by decide), quoted_back 34 t [] (by simp)]; simp
 · have hw : writtenF 3 t = 39 :: (twiceF 39 t ++ [39]) := rfl; rw [hw]; have hs : skipF (39 :: (twiceF 39 t ++ [39])) = 0 := skip_plain _ _ (by decide) (beg_not (by decide)) (by decide) (beg_not (by decide)); refine ⟨step_of_first _ _ hs ?_, by simp⟩; simp only [firstF]; rw [if_neg (by decide), if_neg (by decide), if_neg (by decide), if_pos (by decide), quoted_back 39 t [] (by simp)]; simp
 · have hw : writtenF 4 t = t := rfl; rw [hw]; have hF : (decide (t ≠ []) && decide (runF digitF t = t.length)) = true := hr; simp only [Bool.and_eq_true, decide_eq_true_eq] at hF
   cases t with
   | nil => exact absurd rfl hF.1
   | cons c r =>
     have h2 := hF.2
     have hd : digitF c = true := by
      cases hp : digitF c with
      | true => rfl
      | false => rw [runF_none hp] at h2; simp at h2
     have hlod : lodF c = true := by simp [lodF, hd]
     refine ⟨step_of_first c _ (skip_lod c _ hlod) ?_, by simp⟩; simp only [firstF, digit_no_letter c hd, hd, Bool.false_eq_true, if_false, if_true]; rw [h2, List.take_length]; rfl
 · exact absurd rfl h5
 · have hw : writtenF 6 t = t := rfl; rw [hw]
   cases t with
   | nil => exact absurd hr (by decide)
   | cons c r =>
     cases r with
     | cons d r =>
       have hF : false = true := hr; cases hF
     | nil =>
       have hF : signF c = true := hr; obtain ⟨g1, g2, g3, g4, g5, g6, g7, g8⟩ := (sign_parts c).1 hF; have n1 : begF [47, 42] [c] = false := by simp [begF, Lib.hasPrefix, List.isPrefixOf]
       have n2 : begF [45, 45] [c] = false := by simp [begF, Lib.hasPrefix, List.isPrefixOf]
       have n3 : begF [47, 42, 43] [c] = false := by simp [begF, Lib.hasPrefix, List.isPrefixOf]
       have hs : skipF [c] = 0 := skip_plain _ _ (blank_lt c g1) n1 g8 n2; refine ⟨step_of_first c _ hs ?_, by simp⟩; simp only [firstF, g3, g4, Bool.false_eq_true, if_false]; rw [if_neg (by omega), if_neg g7, if_neg (by rw [n3]; simp), if_pos hF]; rfl
theorem lex_write : ∀ ts : List Tok, (∀ t ∈ ts, rightF t.1 t.2 = true ∧ t.1 ≠ 5) → lexF (writeF ts) = some ts
 | [], _ => by rw [writeF, lexF_nil]
 | [t], h => by
   obtain ⟨h1, h5⟩ := h t (by simp); obtain ⟨hs, hne⟩ := step_end t.1 t.2 h1 h5; have e : writeF [t] = writtenF t.1 t.2 := by simp [writeF]
   have hk : ((t.1.toNat : Nat) : Int) = t.1 := by have := right_kind h1; omega
   rw [e, lexF_tok hne hs (by intro e; exact hne (List.eq_nil_of_length_eq_zero e)), List.drop_length, lexF_nil, hk]; rfl
 | t :: u :: r, h => by
   have ih := lex_write (u :: r) fun x hx => h x (List.mem_cons_of_mem _ hx); have e : writeF (t :: u :: r) = (writtenF t.1 t.2 ++ [32]) ++ writeF (u :: r) := by simp [writeF]
   rw [e]; exact (says_written t.1 t.2 (h t (by simp)).1 32 (by decide)).then_ ih
theorem classA_lex {l : List UInt8} {ts : List Tok} (h : lexF l = some ts) (hl : l.length ≤ 200) : classA l = classF (bodyF ts) := by
 have e : lexA l = (ts, 0) := by
  unfold lexA; rw [if_neg (by omega), h]
 unfold classA; rw [e]; rfl
end

/- What the small functions of package class do: contracts. -/
section
open Go.RowKit
set_option maxRecDepth 100000
theorem toList_is (s : ByteArray) (l : List UInt8) : (s.toList == l) = decide (s.data.toList = l) := by
 rw [ByteArray.toList_eq, Bool.eq_iff_iff]; simp
def txs (ws : List ByteArray) : List (List UInt8) := ws.map fun x => x.data.toList
theorem mem_txs {s : ByteArray} {ws : List ByteArray} : s.data.toList ∈ txs ws ↔ s ∈ ws := by
 unfold txs; rw [List.mem_map]; constructor
 · rintro ⟨x, hx, e⟩; rw [← text_ext e]; exact hx
 · exact fun h => ⟨s, h, rfl⟩
theorem isStop_ok (t : Tk) (w : World) : Calls Tryz.prog 73 #[.agg #[.int .i64 t.k, .string t.t]] w fun e w' => e = .returned (.bool (stopF t.says)) ∧ Below w.heap.size w w' := by
 obtain ⟨k, s⟩ := t; have kw := kp_new w (.cells #[.int .i64 k, .string s] 142); have hF : stopF (Tk.says ⟨k, s⟩) = (decide (k = 6) && (s.toList == [59])) := by rw [toList_is]; rfl
 have HF := hid hF; clear hF; by_cases h : k = 6
 · subst h; go_enter Tryz.func73, Tryz.ntmps73; go_wp2_with fail; go_ret; exact ⟨ret_bool (by rw [HF.out]; rfl), kw⟩
 · have HD := hid (decide_eq_false h); go_enter Tryz.func73, Tryz.ntmps73; go_wp2_with fail; go_ret; exact ⟨ret_bool (by rw [HF.out, HD.out]; rfl), kw⟩
theorem isHint_ok (t : Tk) (w : World) : Calls Tryz.prog 82 #[.agg #[.int .i64 t.k, .string t.t]] w fun e w' => e = .returned (.bool (isHintF t.says)) ∧ Below w.heap.size w w' := by
 obtain ⟨k, s⟩ := t; have kw := kp_new w (.cells #[.int .i64 k, .string s] 142); go_enter Tryz.func82, Tryz.ntmps82; go_wp2_with fail; go_ret; exact ⟨ret_bool rfl, kw⟩
theorem rsign5_ok (t : Tk) (w : World) : Calls Tryz.prog 110 #[.agg #[.int .i64 t.k, .string t.t]] w fun e w' => e = .returned (.bool (stopF t.says)) ∧ Below w.heap.size w w' := by
 obtain ⟨k, s⟩ := t; have kw := kp_new w (.cells #[.int .i64 k, .string s] 182); have hF : stopF (Tk.says ⟨k, s⟩) = (decide (k = 6) && (s.toList == [59])) := by rw [toList_is]; rfl
 have HF := hid hF; clear hF; by_cases h : k = 6
 · subst h; go_enter Tryz.func110, Tryz.ntmps110; go_wp2_with fail; go_ret; exact ⟨ret_bool (by rw [HF.out]; rfl), kw⟩
 · have HD := hid (decide_eq_false h); go_enter Tryz.func110, Tryz.ntmps110; go_wp2_with fail; go_ret; exact ⟨ret_bool (by rw [HF.out, HD.out]; rfl), kw⟩
structure SR (w : World) (A : Option Addr) (n : Nat) (ws : List ByteArray) : Prop where
 len : ws.length = n
 rd : Rd w w.heap.size A (ws.map .string)
theorem SR.next {w w' : World} {A : Option Addr} {n : Nat} {ws : List ByteArray} (h : SR w A n ws) (hb : Below w.heap.size w w') : SR w' A n ws := ⟨h.len, (h.rd.below hb (Nat.le_refl _)).more hb.size⟩
theorem SR.at_ {w : World} {A : Option Addr} {n : Nat} {ws : List ByteArray} (h : SR w A n ws) {j : Nat} (hj : j < ws.length) : ∃ ad, A = some ad ∧ ad.block < w.heap.size ∧ w.cell? (ad.add j) = some (.string ws[j]) := by
 obtain ⟨ad, hA, hb, hc⟩ := h.rd.at_ (k := j) (by rw [List.length_map]; exact hj); exact ⟨ad, hA, hb, by simpa using hc⟩
theorem SR.new (w : World) (t : TypeId) (ws : List ByteArray) : SR (w.alloc (.cells (ws.map Value.string).toArray t)) (some ⟨w.heap.size, 0, none⟩) ws.length ws :=
 ⟨rfl, by have := Rd.new w t (ws.map Value.string); simpa using this⟩
theorem txt_ne {x y : ByteArray} (h : x ≠ y) : (x.toList == y.toList) = false := by
 rw [Bool.eq_false_iff]; intro hh; have h2 := eq_of_beq hh; rw [ByteArray.toList_eq, ByteArray.toList_eq] at h2; exact h (ByteArray.ext (Array.toList_inj.1 h2))
theorem indexS_ok (A : Option Addr) (n c : Nat) (ws : List ByteArray) (s : ByteArray) (w : World) (h : SR w A n ws) (hn : n ≤ 1000000) (b : Bool) (hb : Hid (decide (s.data.toList ∈ txs ws) = b)) :
 Calls Tryz.prog 153 #[.slice A n c, .string s] w fun e w' => ∃ r : Int, e = .returned (.int .i64 r) ∧ decide (0 ≤ r) = b ∧ w = w' := by
 have hlen := hid h.len; go_enter Tryz.func153, Tryz.ntmps153
 go_wp2
 go_loop [8] (fun i => ∃ k : Nat, k ≤ n ∧ i = .int .i64 k ∧ Hid (s ∉ ws.take k)) (fun i => n - (intOf i).toNat)
 case atStart => exact ⟨0, Nat.zero_le _, rfl, hid (by simp)⟩
 case round =>
  obtain ⟨k, hk, rfl, hno⟩ := hrel; by_cases hlt : k < n
  · have hkl : k < ws.length := by rw [hlen.out]; exact hlt
    obtain ⟨ad, rfl, _, hc⟩ := h.at_ hkl; have hmem : ws[k] ∈ ws := List.getElem_mem hkl
    have hnx : s ≠ ws[k] → s ∉ ws.take (k + 1) := fun hne => by
     rw [List.take_succ_eq_append_getElem hkl]; simp only [List.mem_append, List.mem_singleton]; rintro (h1 | h1)
     · exact hno.out h1
     · exact hne h1
    generalize ws[k] = x at *; by_cases hx : s = x
    · subst hx; have hbt : b = true := by rw [← hb.out]; exact decide_eq_true (mem_txs.2 hmem)
      subst hbt; clear hmem hnx; go_wp2_with fail; go_ret; exact ⟨k, rfl, by simp, rfl⟩
    · have HN := hid (hnx hx); have ht := txt_ne hx; clear hmem hnx hx; go_wp2_with fail
      go_round
      case rel => exact ⟨k + 1, by omega, by go_num, HN⟩
      case measure => simp [intOf]; omega
  · obtain rfl : k = n := by omega
    have h1 := hno.out; rw [List.take_of_length_le (by rw [hlen.out]; exact Nat.le_refl _)] at h1; have hbf : b = false := by rw [← hb.out]; exact decide_eq_false fun h2 => h1 (mem_txs.1 h2)
    subst hbf; clear h1; go_wp2_with fail; go_ret; exact ⟨-1, rfl, by simp, rfl⟩
theorem containsS_ok (A : Option Addr) (n c : Nat) (ws : List ByteArray) (s : ByteArray) (w : World) (h : SR w A n ws) (hn : n ≤ 1000000) (b : Bool) (hb : Hid (decide (s.data.toList ∈ txs ws) = b)) :
 Calls Tryz.prog 125 #[.slice A n c, .string s] w fun e w' => e = .returned (.bool b) ∧ w = w' := by
 have hI := hid (indexS_ok A n c ws s w h hn b hb); go_enter Tryz.func125, Tryz.ntmps125; go_wp2_with fail; refine hI.out.mono ?_; rintro e w1 ⟨r, rfl, hr, rfl⟩; have HR := hid hr; clear hr; go_wp2_with fail; go_ret; exact ⟨ret_bool (by rw [← HR.out]), rfl⟩
theorem isWord_ok (t : Tk) (A : Option Addr) (n c : Nat) (ws : List ByteArray) (w : World) (h : SR w A n ws) (hn : n ≤ 1000000) :
 Calls Tryz.prog 107 #[.agg #[.int .i64 t.k, .string t.t], .slice A n c] w fun e w' => e = .returned (.bool (wordF (txs ws) t.says)) ∧ Below w.heap.size w w' := by
 obtain ⟨k, s⟩ := t; have kw := kp_new w (.cells #[.int .i64 k, .string s] 142); have hF : wordF (txs ws) (Tk.says ⟨k, s⟩) = (decide (k = 1) && decide (s.data.toList ∈ txs ws)) := rfl; have hC := hid (containsS_ok A n c ws s _ (h.next kw) hn _ (hid rfl)); generalize decide (s.data.toList ∈ txs ws) = b at *; have HF := hid hF; clear hF; by_cases hk : k = 1
 · subst hk; go_enter Tryz.func107, Tryz.ntmps107; go_wp2_with fail; refine hC.out.mono ?_; rintro e w1 ⟨rfl, rfl⟩; go_wp2_with fail; go_ret; exact ⟨ret_bool (by rw [HF.out]; rfl), kw⟩
 · have HD := hid (decide_eq_false hk); go_enter Tryz.func107, Tryz.ntmps107; go_wp2_with fail; go_ret; exact ⟨ret_bool (by rw [HF.out, HD.out]; rfl), kw⟩
end

/- The document's layer 5: is a word one of some (in), the word of a place (word), has: contracts. -/
section
open Go.RowKit
set_option maxRecDepth 100000
def inF (w l : List UInt8) : Bool := decide (w ≠ []) && decide (0 ≤ Lib.index l (32 :: (w ++ [32])))
set_option maxHeartbeats 1000000 in
theorem rin_ok (s t : ByteArray) (w : World) (hs : s.size ≤ 1000000) (ht : t.size ≤ 1000000) :
 Calls Tryz.prog 135 #[.string s, .string t] w fun e w' => e = .returned (.bool (inF s.data.toList t.data.toList)) ∧ w = w' := by
 by_cases h0 : s.data.toList = []
 · have HF : Hid (inF s.data.toList t.data.toList = false) := hid (by unfold inF; rw [h0]; rfl); have he : (s.toList == ([] : List UInt8)) = true := by rw [toList_is]; exact decide_eq_true h0
   clear h0; go_enter Tryz.func135, Tryz.ntmps135; go_wp2_with fail; go_ret; exact ⟨by rw [HF.out]; rfl, rfl⟩
 have he : (s.toList == ([] : List UInt8)) = false := by rw [toList_is]; exact decide_eq_false h0
 have hF : inF s.data.toList t.data.toList = decide (0 ≤ Lib.index t.data.toList (32 :: (s.data.toList ++ [32]))) := by
  unfold inF; rw [decide_eq_true h0, Bool.true_and]
 generalize inF s.data.toList t.data.toList = R at *; have hq : ((⟨#[32]⟩ : ByteArray) ++ s ++ ⟨#[32]⟩).data.toList = 32 :: (s.data.toList ++ [32]) := by simp
 have hqs : ((⟨#[32]⟩ : ByteArray) ++ s ++ ⟨#[32]⟩).size = s.size + 2 := by
  rw [← text_len, hq]; simp
 have hne : (32 :: (s.data.toList ++ [32]) : List UInt8) ≠ [] := by simp
 have hhit : ∀ k, k ≤ t.size → Lib.occAt t.data.toList (32 :: (s.data.toList ++ [32])) k = true → (∀ j, j < k → Lib.occAt t.data.toList (32 :: (s.data.toList ++ [32])) j = false) → R = true := fun k hks h1 h2 => by
  have := Lib.index_first (s := t.data.toList) (sub := 32 :: (s.data.toList ++ [32])) (i := k) (by rw [text_len]; exact hks) h1 h2; rw [hF, this]; exact decide_eq_true (by omega)
 have hmiss : (∀ j, j + (s.size + 2) ≤ t.size → Lib.occAt t.data.toList (32 :: (s.data.toList ++ [32])) j = false) → R = false := fun h => by
  have := Lib.index_none (s := t.data.toList) (sub := 32 :: (s.data.toList ++ [32])) (fun j _ => by
   rcases Nat.lt_or_ge t.size (j + (s.size + 2)) with h1 | h1
   · exact occ_none (by rw [text_len]; simp; omega) hne
   · exact h _ h1)
  rw [hF, this]; rfl
 have hcut := fun k (h : k + ((⟨#[32]⟩ : ByteArray) ++ s ++ ⟨#[32]⟩).size ≤ t.size) => occ_cut t ((⟨#[32]⟩ : ByteArray) ++ s ++ ⟨#[32]⟩) k h; rw [hq, hqs] at hcut; generalize Lib.occAt t.data.toList (32 :: (s.data.toList ++ [32])) = oc at *; have HH := hid hhit; have HM := hid hmiss; have HC := hid hcut; have HQ := hid hqs; clear hF h0 hhit hmiss hcut hq hqs hne; go_enter Tryz.func135, Tryz.ntmps135; go_wp2_with fail; generalize ((⟨#[32]⟩ : ByteArray) ++ s ++ ⟨#[32]⟩) = q at *
 go_loop [5] (fun v => ∃ k : Nat, v = .int .i64 k ∧ k ≤ t.size + 1 ∧ Hid (∀ j, j < k → oc j = false)) (fun v => t.size + 1 - (intOf v).toNat)
 case atStart => exact ⟨0, rfl, by omega, hid (fun j h => by omega)⟩
 case round =>
  obtain ⟨k, rfl, hks, hno⟩ := hrel; have hqs := HQ.out; have hqb : q.size ≤ 1000002 := by omega
  by_cases h : k + q.size ≤ t.size
  · have hc := HC.out k (by omega); have h2 : ((k : Int) + (q.size : Int)).toNat = k + q.size := by omega
    have e3 : k + q.size = k + (s.size + 2) := by omega
    rw [← e3] at hc; clear e3 hqs; cases hb : oc k
    · rw [hb] at hc
      have hno2 : Hid (∀ j, j < k + 1 → oc j = false) := hid (fun j h3 => by
       rcases Nat.lt_or_ge j k with h4 | h4
       · exact hno.out j h4
       · obtain rfl : j = k := by omega
         exact hb)
      clear hb; go_wp2_with fail
      go_round
      case rel => exact ⟨k + 1, by go_num, by omega, hno2⟩
      case measure => simp [intOf]; omega
    · rw [hb] at hc; have hR := HH.out k (by omega) hb hno.out; subst hR; clear hb; go_wp2_with fail; go_ret; exact ⟨rfl, rfl⟩
  · have hR := HM.out (fun j h3 => hno.out j (by omega)); subst hR; have hg : ¬ ((k : Int) + (q.size : Int) ≤ (t.size : Int)) := by omega
    clear h hqs; go_wp2_with fail; go_ret; exact ⟨rfl, rfl⟩
end

/- The document's words of layer 5, as plain functions: what stands between spaces, which family a word has. -/
section
open Go.RowKit
set_option maxRecDepth 100000
def packF : List (List UInt8) → List UInt8
 | [] => [32]
 | a :: ws => 32 :: (a ++ packF ws)
theorem idx_cons {b : UInt8} {l sub : List UInt8} : 0 ≤ Lib.index (b :: l) sub ↔ sub.isPrefixOf (b :: l) = true ∨ 0 ≤ Lib.index l sub := by
 rw [Lib.index]; by_cases h : sub.isPrefixOf (b :: l) = true
 · simp [h]
 · rw [if_neg h]; have hge := Lib.index_ge l sub; by_cases hm : (Lib.index l sub == -1) = true
   · rw [if_pos hm]; have : Lib.index l sub = -1 := by simpa using hm
     simp [h, this]
   · rw [if_neg hm]; have : Lib.index l sub ≠ -1 := by simpa using hm
     simp [h]; omega
theorem idx_nil {sub : List UInt8} (hs : sub ≠ []) : ¬ 0 ≤ Lib.index [] sub := by
 cases sub with
 | nil => exact absurd rfl hs
 | cons a t => simp [Lib.index]
theorem idx_free {a l w : List UInt8} (h : (32 : UInt8) ∉ a) : 0 ≤ Lib.index (a ++ l) (32 :: w) ↔ 0 ≤ Lib.index l (32 :: w) := by
 induction a with
 | nil => rfl
 | cons b r ih =>
   rw [List.cons_append, idx_cons, ih (fun hm => h (List.mem_cons_of_mem _ hm))]; have hb : b ≠ 32 := fun e => h (by rw [e]; simp); have : (32 :: w : List UInt8).isPrefixOf (b :: (r ++ l)) = false := by simp [List.isPrefixOf, hb.symm]
   rw [this]; simp
theorem pre_word {w a r : List UInt8} (hw : (32 : UInt8) ∉ w) (ha : (32 : UInt8) ∉ a) : (w ++ [32]).isPrefixOf (a ++ 32 :: r) = decide (w = a) := by
 induction w generalizing a with
 | nil =>
   cases a with
   | nil => simp [List.isPrefixOf]
   | cons b a =>
     have hb : (32 : UInt8) ≠ b := fun e => ha (by rw [← e]; simp); simp [List.isPrefixOf, hb]
 | cons c w ih =>
   have hc : c ≠ 32 := fun e => hw (by rw [e]; simp)
   cases a with
   | nil => simp [List.isPrefixOf, hc]
   | cons b a =>
     have := ih (a := a) (fun h => hw (List.mem_cons_of_mem _ h)) (fun h => ha (List.mem_cons_of_mem _ h)); simp only [List.cons_append, List.isPrefixOf, this]; by_cases e : c = b <;> simp [e]
theorem packF_head (ws : List (List UInt8)) : ∃ r, packF ws = 32 :: r := by
 cases ws with
 | nil => exact ⟨[], rfl⟩
 | cons a ws => exact ⟨_, rfl⟩
theorem idx_pack {w : List UInt8} (hw : (32 : UInt8) ∉ w) : ∀ ws : List (List UInt8), (∀ a ∈ ws, (32 : UInt8) ∉ a) → (0 ≤ Lib.index (packF ws) (32 :: (w ++ [32])) ↔ w ∈ ws)
 | [], _ => by
   have h1 : (32 :: (w ++ [32]) : List UInt8).isPrefixOf [32] = false := by
    cases w <;> simp [List.isPrefixOf]
   rw [packF, idx_cons, h1]; have := idx_nil (sub := 32 :: (w ++ [32])) (by simp); simp only [this, List.not_mem_nil, or_false]; simp
 | a :: ws, h => by
   have ha := h a (by simp); have ih := idx_pack hw ws (fun x hx => h x (List.mem_cons_of_mem _ hx)); rw [packF, idx_cons, idx_free ha, ih]; obtain ⟨r, hr⟩ := packF_head ws
   have : (32 :: (w ++ [32]) : List UInt8).isPrefixOf (32 :: (a ++ packF ws)) = decide (w = a) := by
    rw [hr]; simp only [List.isPrefixOf, pre_word hw ha]; simp
   rw [this]; simp
theorem inF_pack {w : List UInt8} (hw : w = [] ∨ (w ≠ [] ∧ (32 : UInt8) ∉ w)) (ws : List (List UInt8)) (h : ∀ a ∈ ws, (32 : UInt8) ∉ a ∧ a ≠ []) : inF w (packF ws) = decide (w ∈ ws) := by
 unfold inF; rcases hw with rfl | ⟨h0, h1⟩
 · have : ([] : List UInt8) ∉ ws := fun hm => (h _ hm).2 rfl; simp [this]
 · rw [decide_eq_true h0, Bool.true_and]; exact decide_eq_decide.2 (idx_pack h1 ws fun a ha => (h a ha).1)
def wd (t : Tok) : List UInt8 := if t.1 = 1 then t.2 else []
def wordAt (l : List Tok) (k : Nat) : List UInt8 := (l[k]?.map wd).getD []
theorem wd_ok {t : Tok} {n : Nat} (h : okTok t n) : wd t = [] ∨ (wd t ≠ [] ∧ (32 : UInt8) ∉ wd t) := by
 unfold wd; split
 · rename_i h1
   exact .inr (h.2 h1)
 · exact .inl rfl
theorem wordAt_ok {l : List Tok} {n : Nat} (h : ∀ t ∈ l, okTok t n) (k : Nat) : wordAt l k = [] ∨ (wordAt l k ≠ [] ∧ (32 : UInt8) ∉ wordAt l k) := by
 unfold wordAt
 cases hk : l[k]? with
 | none => exact .inl rfl
 | some t => exact wd_ok (h t (List.mem_of_getElem? hk))
theorem mem_wd {t : Tok} {ws : List (List UInt8)} (h : [] ∉ ws) : decide (wd t ∈ ws) = wordF ws t := by
 unfold wd wordF; by_cases h1 : t.1 = 1
 · rw [if_pos h1, decide_eq_true h1, Bool.true_and]
 · rw [if_neg h1, decide_eq_false h1, decide_eq_false h]; rfl
theorem headF_word {t : Tok} {r : List Tok} {ws : List (List UInt8)} (h : [] ∉ ws) : headF r ws = decide (wordAt (t :: r) 1 ∈ ws) := by
 unfold headF wordAt
 cases r with
 | nil => simp [h]
 | cons u r => exact (mem_wd h).symm
theorem fam_mem {x : List UInt8} {v : Int} (h : famF x = v) (hv : v ≠ 0) : (x, v) ∈ famL := by
 unfold famF at h
 cases hf : famL.reverse.find? fun p => decide (p.1 = x) with
 | none => rw [hf] at h; exact absurd h.symm hv
 | some p =>
   rw [hf] at h; have h1 := List.mem_of_find?_eq_some hf; have h2 := List.find?_some hf; simp only [decide_eq_true_eq] at h2; obtain ⟨a, b⟩ := p; simp at h h1 h2
   rw [← h, ← h2]; exact h1
def wsShow : List (List UInt8) := [wSHOW, wDESCRIBE, wDESC]
def wsWrite : List (List UInt8) := [wINSERT, wUPDATE, wDELETE, wREPLACE, wCREATE, wDROP, wALTER, wTRUNCATE, wGRANT, wREVOKE, wCALL, wLOCK]
def wsSel : List (List UInt8) := [wSELECT, wVALUES, wTABLE, wWITH]
theorem fam_is (x : List UInt8) (v : Int) (ws : List (List UInt8)) (hv : v ≠ 0) (h1 : ∀ p ∈ famL, p.2 = v → p.1 ∈ ws) (h2 : ∀ a ∈ ws, famF a = v) : decide (x ∈ ws) = decide (famF x = v) := by
 refine decide_eq_decide.2 ⟨fun h => h2 x h, fun h => ?_⟩; exact h1 _ (fam_mem h hv) rfl
theorem fam_one (x : List UInt8) (v : Int) (a : List UInt8) (hv : v ≠ 0) (h1 : ∀ p ∈ famL, p.2 = v → p.1 = a) (h2 : famF a = v) : decide (x = a) = decide (famF x = v) := by
 refine decide_eq_decide.2 ⟨fun h => by rw [h]; exact h2, fun h => ?_⟩; exact h1 _ (fam_mem h hv) rfl
theorem famShow (x : List UInt8) : decide (x ∈ wsShow) = decide (famF x = 1) := fam_is x 1 wsShow (by decide) (by decide) (by decide)
theorem famWrite (x : List UInt8) : decide (x ∈ wsWrite) = decide (famF x = 3) := fam_is x 3 wsWrite (by decide) (by decide) (by decide)
theorem famSel (x : List UInt8) : decide (x ∈ wsSel) = decide (famF x = 4 ∨ famF x = 5) := by
 refine decide_eq_decide.2 ⟨fun h => ?_, fun h => ?_⟩
 · revert h
   have : ∀ a ∈ wsSel, famF a = 4 ∨ famF a = 5 := by decide
   exact this x
 · rcases h with h | h
   · exact (by decide : ∀ p ∈ famL, p.2 = 4 → p.1 ∈ wsSel) _ (fam_mem h (by decide)) rfl
   · exact (by decide : ∀ p ∈ famL, p.2 = 5 → p.1 ∈ wsSel) _ (fam_mem h (by decide)) rfl
theorem famExplain (x : List UInt8) : decide (x = wEXPLAIN) = decide (famF x = 2) := fam_one x 2 _ (by decide) (by decide) (by decide)
theorem famWith (x : List UInt8) : decide (x = wWITH) = decide (famF x = 5) := fam_one x 5 _ (by decide) (by decide) (by decide)
theorem famBegin (x : List UInt8) : decide (x = wBEGIN) = decide (famF x = 6) := fam_one x 6 _ (by decide) (by decide) (by decide)
theorem famStart (x : List UInt8) : decide (x = wSTART) = decide (famF x = 7) := fam_one x 7 _ (by decide) (by decide) (by decide)
theorem famCommit (x : List UInt8) : decide (x = wCOMMIT) = decide (famF x = 8) := fam_one x 8 _ (by decide) (by decide) (by decide)
theorem famRollback (x : List UInt8) : decide (x = wROLLBACK) = decide (famF x = 9) := fam_one x 9 _ (by decide) (by decide) (by decide)
theorem famSet (x : List UInt8) : decide (x = wSET) = decide (famF x = 10) := fam_one x 10 _ (by decide) (by decide) (by decide)
theorem fam_out (x : List UInt8) : famF x = 0 ∨ famF x = 1 ∨ famF x = 2 ∨ famF x = 3 ∨ famF x = 4 ∨ famF x = 5 ∨ famF x = 6 ∨ famF x = 7 ∨ famF x = 8 ∨ famF x = 9 ∨ famF x = 10 := by
 by_cases h : famF x = 0
 · exact .inl h
 · have := fam_mem rfl h; have h2 : ∀ p ∈ famL, p.2 = 1 ∨ p.2 = 2 ∨ p.2 = 3 ∨ p.2 = 4 ∨ p.2 = 5 ∨ p.2 = 6 ∨ p.2 = 7 ∨ p.2 = 8 ∨ p.2 = 9 ∨ p.2 = 10 := by decide
   exact .inr (h2 _ this)
theorem six_sel {x : List UInt8} (h : famF x = 4 ∨ famF x = 5) : x ∉ six := by
 have h1 : decide (x ∈ wsSel) = true := by rw [famSel]; exact decide_eq_true h
 have h2 : ∀ a ∈ wsSel, a ∉ six := by decide
 exact h2 x (of_decide_eq_true h1)
end

/- What is a read has no word that writes: plain functions (no function of the program is named here). -/
section
open Go.RowKit
set_option maxRecDepth 100000
theorem endF_split (l : List Tok) : ∃ st, l = endF l ++ st ∧ ∀ x ∈ st, stopF x = true := by
 refine ⟨(l.reverse.takeWhile stopF).reverse, ?_, fun x hx => ?_⟩
 · unfold endF; rw [← List.reverse_append, List.takeWhile_append_dropWhile, List.reverse_reverse]
 · exact List.all_eq_true.1 List.all_takeWhile x (List.mem_reverse.1 hx)
end

/- What a statement does, by its tokens: plain functions of lists of tokens (no function of the program is named here). -/
section
open Go.RowKit
set_option maxRecDepth 100000
def emptyF (t : Tok) : Tok := if t.1 = 3 then (3, []) else t
def isStrF (t : Tok) : Bool := decide (t.1 = 3)
def strsF (l : List Tok) : List (List UInt8) := (l.filter isStrF).map Prod.snd
def keptF (l : List Tok) : List Tok := l.filter fun t => !isHintF t
theorem strsF_append (a b : List Tok) : strsF (a ++ b) = strsF a ++ strsF b := by simp [strsF]
theorem isStr_empty (t : Tok) : isStrF (emptyF t) = isStrF t := by
 unfold emptyF isStrF; split
 · rename_i h; simp [h]
 · rfl
theorem stop_empty (t : Tok) : stopF (emptyF t) = stopF t := by
 unfold emptyF stopF; split
 · rename_i h; simp [h]
 · rfl
theorem strsF_empty_len (l : List Tok) : (strsF (l.map emptyF)).length = (strsF l).length := by
 induction l with
 | nil => rfl
 | cons t r ih =>
   simp only [strsF, List.length_map, List.map_cons] at ih ⊢; rw [List.filter_cons, List.filter_cons, isStr_empty]; cases isStrF t <;> simp [ih]
def cut2 : List UInt8 := [32, 59]
def chopF (l : List UInt8) : List UInt8 := Lib.trimRightS l cut2
theorem chop_cut {l : List UInt8} {c : UInt8} (h : cut2.contains c = true) : chopF (l ++ [c]) = chopF l := by
 have h' : c ∈ cut2 := by simpa using h
 simp [chopF, Lib.trimRightS, h']
theorem chop_stays {l : List UInt8} {c : UInt8} (h : cut2.contains c = false) : chopF (l ++ [c]) = l ++ [c] := by
 have h' : c ∉ cut2 := by simpa using h
 simp [chopF, Lib.trimRightS, h']
theorem lod_stays (c : UInt8) (h : lodF c = true) : cut2.contains c = false := by
 have := by_all (fun c => !lodF c || !cut2.contains c) (by decide +kernel) c; rw [h] at this; simpa using this
theorem sign_stays (c : UInt8) (h : signF c = true) (h2 : c ≠ 59) : cut2.contains c = false := by
 have := by_all (fun c => !signF c || decide (c = 59) || !cut2.contains c) (by decide +kernel) c; rw [h, decide_eq_false h2] at this; simpa using this
theorem last_of {l : List UInt8} (h : l ≠ []) : ∃ x c, l = x ++ [c] ∧ c ∈ l := ⟨l.dropLast, l.getLast h, (List.dropLast_concat_getLast h).symm, List.getLast_mem h⟩
theorem written_ends {k : Int} {t : List UInt8} (hr : rightF k t = true) (h5 : k ≠ 5) (hs : stopF (k, t) = false) : ∃ x c, writtenF k t = x ++ [c] ∧ cut2.contains c = false := by
 rcases right_kind hr with rfl | rfl | rfl | rfl | rfl | rfl
 · have hw : writtenF 1 t = t := rfl; have hF : rightWordF t = true := hr; rw [hw]
   cases t with
   | nil => simp [rightWordF] at hF
   | cons c r =>
     simp only [rightWordF, Bool.and_eq_true, decide_eq_true_eq] at hF; obtain ⟨x, d, e, hd⟩ := last_of (l := c :: r) (by simp); refine ⟨x, d, e, lod_stays d ?_⟩; exact runF_all lodF (c :: r) d (by rw [hF.2.1, List.take_length]; exact hd)
 · exact ⟨34 :: twiceF 34 t, 34, rfl, by decide⟩
 · exact ⟨39 :: twiceF 39 t, 39, rfl, by decide⟩
 · have hw : writtenF 4 t = t := rfl; have hF : (decide (t ≠ []) && decide (runF digitF t = t.length)) = true := hr; simp only [Bool.and_eq_true, decide_eq_true_eq] at hF; rw [hw]; obtain ⟨x, d, e, hd⟩ := last_of hF.1; refine ⟨x, d, e, lod_stays d ?_⟩; have := runF_all digitF t d (by rw [hF.2, List.take_length]; exact hd); simp [lodF, this]
 · exact absurd rfl h5
 · have hw : writtenF 6 t = t := rfl; rw [hw]
   cases t with
   | nil => exact absurd hr (by decide)
   | cons c r =>
     cases r with
     | cons d r =>
       have hF : false = true := hr; cases hF
     | nil =>
       have hF : signF c = true := hr; refine ⟨[], c, rfl, sign_stays c hF ?_⟩; rintro rfl; exact absurd hs (by decide)
theorem stop_is {t : Tok} (h : stopF t = true) : t = (6, [59]) := by
 obtain ⟨k, x⟩ := t; simp only [stopF, Bool.and_eq_true, decide_eq_true_eq] at h; rw [h.1, h.2]
theorem chop_write : ∀ (n : Nat) (ts : List Tok), ts.length ≤ n → (∀ t ∈ ts, rightF t.1 t.2 = true ∧ t.1 ≠ 5) → chopF (writeF ts) = writeF (endF ts) := by
 intro n
 induction n with
 | zero =>
   intro ts hn _; obtain rfl : ts = [] := List.eq_nil_of_length_eq_zero (by omega); rfl
 | succ n ih =>
   intro ts hn h; rcases List.eq_nil_or_concat ts with rfl | ⟨L, b, rfl⟩
   · rfl
   rw [List.concat_eq_append] at h hn ⊢; rw [List.length_append, List.length_singleton] at hn; have hL : ∀ t ∈ L, rightF t.1 t.2 = true ∧ t.1 ≠ 5 := fun t ht => h t (List.mem_append_left _ ht); by_cases hL0 : L = []
   · subst hL0
     cases hs : stopF b with
     | true =>
       obtain rfl := stop_is hs; rw [endF_stop hs]; rfl
     | false =>
       rw [endF_last hs]; obtain ⟨x, c, e, hc⟩ := written_ends (h b (by simp)).1 (h b (by simp)).2 hs; have e2 : writeF ([] ++ [b]) = writtenF b.1 b.2 := by simp [writeF]
       rw [e2, e, chop_stays hc]
   · rw [writeF_next L b hL0]
     cases hs : stopF b with
     | true =>
       obtain rfl := stop_is hs; rw [endF_stop hs]; show chopF (writeF L ++ [32] ++ [59]) = _; rw [chop_cut (by decide), chop_cut (by decide)]; exact ih L (by omega) hL
     | false =>
       rw [endF_last hs, writeF_next L b hL0]; obtain ⟨x, c, e, hc⟩ := written_ends (h b (by simp)).1 (h b (by simp)).2 hs; rw [e, ← List.append_assoc, chop_stays hc]
theorem write_inj {a b : List Tok} (ha : ∀ t ∈ a, rightF t.1 t.2 = true ∧ t.1 ≠ 5) (hb : ∀ t ∈ b, rightF t.1 t.2 = true ∧ t.1 ≠ 5) (h : writeF a = writeF b) : a = b := by
 have h1 := lex_write a ha; have h2 := lex_write b hb; rw [h, h2] at h1; exact (Option.some.inj h1).symm
theorem up_up (c : UInt8) : upF (upF c) = upF c := by
 have := by_all (fun c => decide (upF (upF c) = upF c)) (by decide +kernel) c; simpa using this
theorem up_lod (c : UInt8) (h : lodF c = true) : lodF (upF c) = true := by
 have := by_all (fun c => !lodF c || lodF (upF c)) (by decide +kernel) c; rw [h] at this; simpa using this
theorem up_letter (c : UInt8) (h : letterF c = true) : letterF (upF c) = true := by
 have := by_all (fun c => !letterF c || letterF (upF c)) (by decide +kernel) c; rw [h] at this; simpa using this
theorem run_of_all {p : UInt8 → Bool} : ∀ (l : List UInt8), (∀ c ∈ l, p c = true) → runF p l = l.length
 | [], _ => rfl
 | c :: r, h => by rw [runF_some (h c (by simp)), run_of_all r fun d hd => h d (List.mem_cons_of_mem _ hd)]; rfl
theorem great_great (l : List UInt8) : greatF (greatF l) = greatF l := by
 simp only [greatF, List.map_map]; exact List.map_congr_left fun c _ => up_up c
theorem first_right {l : List UInt8} {k : Nat} {t : List UInt8} {n : Nat} (h : firstF l = some (k, t, n)) (h5 : k ≠ 5) : rightF (k : Int) t = true := by
 cases l with
 | nil => simp [firstF] at h
 | cons c r =>
   simp only [firstF] at h; split at h
   · rename_i hc
     simp only [Option.some.injEq, Prod.mk.injEq] at h; obtain ⟨rfl, rfl, rfl⟩ := h; have hl : lodF c = true := by simp [lodF, hc]
     show rightWordF _ = true; have hall := runF_all lodF (c :: r); rw [runF_some hl, List.take_succ_cons] at hall ⊢
     have hlod : ∀ d ∈ greatF (c :: r.take (runF lodF r)), lodF d = true := fun d hd => by
      obtain ⟨b, hb, rfl⟩ := List.mem_map.1 hd; exact up_lod b (hall b hb)
     have e : greatF (c :: r.take (runF lodF r)) = upF c :: greatF (r.take (runF lodF r)) := rfl; have hg := great_great (c :: r.take (runF lodF r)); rw [e] at hlod hg ⊢; simp only [rightWordF, Bool.and_eq_true, decide_eq_true_eq]; exact ⟨up_letter c hc, run_of_all _ hlod, hg⟩
   split at h
   · rename_i hd
     simp only [Option.some.injEq, Prod.mk.injEq] at h; obtain ⟨rfl, rfl, rfl⟩ := h; show (decide (_ ≠ []) && decide (runF digitF _ = _)) = true; rw [run_of_all _ (runF_all digitF (c :: r)), runF_some hd, List.take_succ_cons]; simp
   split at h
   · obtain ⟨x, _, h⟩ := Option.map_eq_some_iff.1 h; simp only [Prod.mk.injEq] at h; obtain ⟨rfl, rfl, rfl⟩ := h; rfl
   split at h
   · obtain ⟨x, _, h⟩ := Option.map_eq_some_iff.1 h; simp only [Prod.mk.injEq] at h; obtain ⟨rfl, rfl, rfl⟩ := h; rfl
   split at h
   · split at h
     · cases h
     · simp only [Option.some.injEq, Prod.mk.injEq] at h; exact absurd h.1.symm h5
   split at h
   · rename_i hs
     simp only [Option.some.injEq, Prod.mk.injEq] at h; obtain ⟨rfl, rfl, rfl⟩ := h; exact hs
   · cases h
theorem lexF_right : ∀ (n : Nat) (l : List UInt8) (x : List Tok), l.length ≤ n → lexF l = some x → ∀ t ∈ x, t.1 ≠ 5 → rightF t.1 t.2 = true := by
 intro n
 induction n with
 | zero =>
   intro l x hl h; obtain rfl : l = [] := List.eq_nil_of_length_eq_zero (by omega); rw [lexF_nil] at h; injection h with h; subst h; simp
 | succ n ih =>
   intro l x hl h; by_cases hne : l = []
   · subst hne; rw [lexF_nil] at h; injection h with h; subst h; simp
   have hl0 := List.length_pos_iff.2 hne
   cases hst : stepF l with
   | bad => rw [lexF_bad hne hst] at h; cases h
   | skip m =>
     by_cases hm : m = 0
     · rw [lexF, dif_neg hne, hst] at h; simp [hm] at h
     · rw [lexF_skip hne hst hm] at h; exact ih (l.drop m) x (by rw [List.length_drop]; omega) h
   | tok k t m =>
     by_cases hm : m = 0
     · rw [lexF, dif_neg hne, hst] at h; simp [hm] at h
     · rw [lexF_tok hne hst hm] at h; obtain ⟨y, hy, rfl⟩ := Option.map_eq_some_iff.1 h; intro t' ht' h5; rcases List.mem_cons.1 ht' with rfl | ht'
       · exact first_right (step_tok hst) (fun e => h5 (by rw [e]; rfl))
       · exact ih (l.drop m) y (by rw [List.length_drop]; omega) hy t' ht' h5
theorem lexA_right (l : List UInt8) : ∀ t ∈ (lexA l).1, t.1 ≠ 5 → rightF t.1 t.2 = true := by
 unfold lexA; split
 · simp
 · cases h : lexF l with
   | none => simp
   | some x => exact lexF_right l.length l x (Nat.le_refl _) h
theorem kept_right {l : List Tok} (h : ∀ t ∈ l, t.1 ≠ 5 → rightF t.1 t.2 = true) : ∀ t ∈ (keptF l).map emptyF, rightF t.1 t.2 = true ∧ t.1 ≠ 5 := by
 intro t ht; obtain ⟨u, hu, rfl⟩ := List.mem_map.1 ht; obtain ⟨hu, h5⟩ := List.mem_filter.1 hu; have h5' : u.1 ≠ 5 := by simpa [isHintF] using h5
 unfold emptyF; split
 · exact ⟨by decide, by decide⟩
 · exact ⟨h u hu h5', h5'⟩
def wFROM : List UInt8 := [70, 82, 79, 77]
def wKV : List UInt8 := [75, 86]
def wWHERE : List UInt8 := [87, 72, 69, 82, 69]
def wV : List UInt8 := [86]
def wK : List UInt8 := [75]
def fGet : List Tok := [(1, wSELECT), (1, wV), (1, wFROM), (1, wKV), (1, wWHERE), (1, wK), (6, [61]), (3, [])]
def fAll : List Tok := [(1, wSELECT), (6, [42]), (1, wFROM), (1, wKV)]
def fPut : List Tok := [(1, wINSERT), (1, wINTO), (1, wKV), (1, wVALUES), (6, [40]), (3, []), (6, [44]), (3, []), (6, [41])]
def fChg : List Tok := [(1, wUPDATE), (1, wKV), (1, wSET), (1, wV), (6, [61]), (3, []), (1, wWHERE), (1, wK), (6, [61]), (3, [])]
def fDel : List Tok := [(1, wDELETE), (1, wFROM), (1, wKV), (1, wWHERE), (1, wK), (6, [61]), (3, [])]
def tGet : ByteArray := ⟨#[83, 69, 76, 69, 67, 84, 32, 86, 32, 70, 82, 79, 77, 32, 75, 86, 32, 87, 72, 69, 82, 69, 32, 75, 32, 61, 32, 39, 39]⟩
def tAll : ByteArray := ⟨#[83, 69, 76, 69, 67, 84, 32, 42, 32, 70, 82, 79, 77, 32, 75, 86]⟩
def tPut : ByteArray := ⟨#[73, 78, 83, 69, 82, 84, 32, 73, 78, 84, 79, 32, 75, 86, 32, 86, 65, 76, 85, 69, 83, 32, 40, 32, 39, 39, 32, 44, 32, 39, 39, 32, 41]⟩
def tChg : ByteArray := ⟨#[85, 80, 68, 65, 84, 69, 32, 75, 86, 32, 83, 69, 84, 32, 86, 32, 61, 32, 39, 39, 32, 87, 72, 69, 82, 69, 32, 75, 32, 61, 32, 39, 39]⟩
def tDel : ByteArray := ⟨#[68, 69, 76, 69, 84, 69, 32, 70, 82, 79, 77, 32, 75, 86, 32, 87, 72, 69, 82, 69, 32, 75, 32, 61, 32, 39, 39]⟩
theorem tGet_is : writeF fGet = tGet.data.toList := by decide
theorem tAll_is : writeF fAll = tAll.data.toList := by decide
theorem tPut_is : writeF fPut = tPut.data.toList := by decide
theorem tChg_is : writeF fChg = tChg.data.toList := by decide
theorem tDel_is : writeF fDel = tDel.data.toList := by decide
def shapeF (m : List Tok) : List UInt8 := chopF (writeF (m.map emptyF))
theorem end_map (m : List Tok) : endF (m.map emptyF) = (endF m).map emptyF := by
 unfold endF; have hc : stopF ∘ emptyF = stopF := funext stop_empty; rw [List.map_reverse]; congr 1; rw [← List.map_reverse, List.dropWhile_map, hc]
theorem shape_iff {l : List Tok} (h : ∀ t ∈ l, t.1 ≠ 5 → rightF t.1 t.2 = true) (f : List Tok) (hf : ∀ t ∈ f, rightF t.1 t.2 = true ∧ t.1 ≠ 5) : shapeF (keptF l) = writeF f ↔ (bodyF l).map emptyF = f := by
 have hk := kept_right h; unfold shapeF; rw [chop_write _ _ (Nat.le_refl _) hk, end_map]; show writeF ((bodyF l).map emptyF) = _ ↔ _; constructor
 · intro e; refine write_inj (fun t ht => ?_) hf e; have e2 : (bodyF l).map emptyF = endF ((keptF l).map emptyF) := (end_map _).symm; rw [e2] at ht; obtain ⟨st, e3, _⟩ := endF_split ((keptF l).map emptyF); exact hk t (by rw [e3]; exact List.mem_append_left _ ht)
 · rintro rfl; rfl
theorem strs_body (l : List Tok) : strsF (keptF l) = strsF (bodyF l) := by
 obtain ⟨st, e, hs⟩ := endF_split (keptF l)
 have h0 : strsF st = [] := by
  unfold strsF; rw [List.filter_eq_nil_iff.2]
  · rfl
  · intro t ht; obtain rfl := stop_is (hs t ht); decide
 have e2 : bodyF l = endF (keptF l) := rfl; rw [e2]
 conv => lhs; rw [e]
 rw [strsF_append, h0, List.append_nil]
abbrev Doing := Int × List UInt8 × List UInt8
def pickF (m : List Tok) (xs : List (List UInt8)) : Doing :=
 if m = fGet then (1, xs.getD 0 [], [])
 else if m = fAll then (2, [], [])
 else if m = fPut then (3, xs.getD 0 [], xs.getD 1 [])
 else if m = fChg then (4, xs.getD 1 [], xs.getD 0 [])
 else if m = fDel then (5, xs.getD 0 [], [])
 else (0, [], [])
def planF (m : List Tok) : Doing := pickF (m.map emptyF) (strsF m)
def planA (l : List UInt8) : Doing := planF (bodyF (lexA l).1)
theorem strs_len {m f : List Tok} (h : m.map emptyF = f) : (strsF m).length = (strsF f).length := by rw [← h, strsF_empty_len]
end
end Go.Proofs.YtdhnpmagapbmhaaGreatDoor
