/-
  Contracts and plain functions that the law stands on, part 3 of 5.
-/
import Derived.Test.YtaimmdhjfccnkaaDoorQ2
import Derived.Test.YtaimmdhjfccnkaaDoorShelf4
import Derived.Laws.Cover1
import Derived.Lib.AppendZerosOnto
import Derived.Lib.SliceRun
import Derived.BigQuiet
import Derived.OneCell
import Derived.Laws.EntriesVeiled
import Derived.Laws.StructEq
import Derived.KernelRfl
namespace Go.Proofs.YtaimmdhjfccnkaaDoor
/- What a statement does, by its tokens: plain functions of lists of tokens (no function of the program is named here). -/
section
open Go.RowKit
set_option maxRecDepth 100000

/-- a String without its text -/
def emptyF (t : Tok) : Tok := if t.1 = 3 then (3, []) else t
def isStrF (t : Tok) : Bool := decide (t.1 = 3)
/-- the texts of the Strings -/
def strsF (l : List Tok) : List (List UInt8) := (l.filter isStrF).map Prod.snd
def keptF (l : List Tok) : List Tok := l.filter fun t => !isHintF t
theorem strsF_append (a b : List Tok) : strsF (a ++ b) = strsF a ++ strsF b := by simp [strsF]
theorem isStr_empty (t : Tok) : isStrF (emptyF t) = isStrF t := by
  unfold emptyF isStrF
  split
  · rename_i h; simp [h]
  · rfl
theorem stop_empty (t : Tok) : stopF (emptyF t) = stopF t := by
  unfold emptyF stopF
  split
  · rename_i h; simp [h]
  · rfl
theorem strsF_empty_len (l : List Tok) : (strsF (l.map emptyF)).length = (strsF l).length := by
  induction l with
  | nil => rfl
  | cons t r ih =>
    simp only [strsF, List.length_map, List.map_cons] at ih ⊢
    rw [List.filter_cons, List.filter_cons, isStr_empty]
    cases isStrF t <;> simp [ih]

/- what ends a text is chopped off -/
def cut2 : List UInt8 := [32, 59]
def chopF (l : List UInt8) : List UInt8 := Lib.trimRightS l cut2
theorem chop_nil : chopF [] = [] := rfl
theorem chop_cut {l : List UInt8} {c : UInt8} (h : cut2.contains c = true) : chopF (l ++ [c]) = chopF l := by
  have h' : c ∈ cut2 := by simpa using h
  simp [chopF, Lib.trimRightS, h']
theorem chop_stays {l : List UInt8} {c : UInt8} (h : cut2.contains c = false) : chopF (l ++ [c]) = l ++ [c] := by
  have h' : c ∉ cut2 := by simpa using h
  simp [chopF, Lib.trimRightS, h']

theorem lod_stays (c : UInt8) (h : lodF c = true) : cut2.contains c = false := by
  have := by_all (fun c => !lodF c || !cut2.contains c) (by decide +kernel) c
  rw [h] at this
  simpa using this
theorem sign_stays (c : UInt8) (h : signF c = true) (h2 : c ≠ 59) : cut2.contains c = false := by
  have := by_all (fun c => !signF c || decide (c = 59) || !cut2.contains c) (by decide +kernel) c
  rw [h, decide_eq_false h2] at this
  simpa using this
theorem last_of {l : List UInt8} (h : l ≠ []) : ∃ x c, l = x ++ [c] ∧ c ∈ l := ⟨l.dropLast, l.getLast h, (List.dropLast_concat_getLast h).symm, List.getLast_mem h⟩
/-- how what is written of a token ends -/
theorem written_ends {k : Int} {t : List UInt8} (hr : rightF k t = true) (h5 : k ≠ 5) (hs : stopF (k, t) = false) : ∃ x c, writtenF k t = x ++ [c] ∧ cut2.contains c = false := by
  rcases right_kind hr with rfl | rfl | rfl | rfl | rfl | rfl
  · have hw : writtenF 1 t = t := rfl
    have hF : rightWordF t = true := hr
    rw [hw]
    cases t with
    | nil => simp [rightWordF] at hF
    | cons c r =>
      simp only [rightWordF, Bool.and_eq_true, decide_eq_true_eq] at hF
      obtain ⟨x, d, e, hd⟩ := last_of (l := c :: r) (by simp)
      refine ⟨x, d, e, lod_stays d ?_⟩
      exact runF_all lodF (c :: r) d (by rw [hF.2.1, List.take_length]; exact hd)
  · exact ⟨34 :: twiceF 34 t, 34, rfl, by decide⟩
  · exact ⟨39 :: twiceF 39 t, 39, rfl, by decide⟩
  · have hw : writtenF 4 t = t := rfl
    have hF : (decide (t ≠ []) && decide (runF digitF t = t.length)) = true := hr
    simp only [Bool.and_eq_true, decide_eq_true_eq] at hF
    rw [hw]
    obtain ⟨x, d, e, hd⟩ := last_of hF.1
    refine ⟨x, d, e, lod_stays d ?_⟩
    have := runF_all digitF t d (by rw [hF.2, List.take_length]; exact hd)
    simp [lodF, this]
  · exact absurd rfl h5
  · have hw : writtenF 6 t = t := rfl
    rw [hw]
    cases t with
    | nil => exact absurd hr (by decide)
    | cons c r =>
      cases r with
      | cons d r =>
        have hF : false = true := hr
        cases hF
      | nil =>
        have hF : signF c = true := hr
        refine ⟨[], c, rfl, sign_stays c hF ?_⟩
        rintro rfl
        exact absurd hs (by decide)

theorem stop_is {t : Tok} (h : stopF t = true) : t = (6, [59]) := by
  obtain ⟨k, x⟩ := t
  simp only [stopF, Bool.and_eq_true, decide_eq_true_eq] at h
  rw [h.1, h.2]
/-- what is written of tokens, chopped, is written of those ahead of the signs that end them -/
theorem chop_write : ∀ (n : Nat) (ts : List Tok), ts.length ≤ n → (∀ t ∈ ts, rightF t.1 t.2 = true ∧ t.1 ≠ 5) → chopF (writeF ts) = writeF (endF ts) := by
  intro n
  induction n with
  | zero =>
    intro ts hn _
    obtain rfl : ts = [] := List.eq_nil_of_length_eq_zero (by omega)
    rfl
  | succ n ih =>
    intro ts hn h
    rcases List.eq_nil_or_concat ts with rfl | ⟨L, b, rfl⟩
    · rfl
    rw [List.concat_eq_append] at h hn ⊢
    rw [List.length_append, List.length_singleton] at hn
    have hL : ∀ t ∈ L, rightF t.1 t.2 = true ∧ t.1 ≠ 5 := fun t ht => h t (List.mem_append_left _ ht)
    by_cases hL0 : L = []
    · subst hL0
      cases hs : stopF b with
      | true =>
        obtain rfl := stop_is hs
        rw [endF_stop hs]
        rfl
      | false =>
        rw [endF_last hs]
        obtain ⟨x, c, e, hc⟩ := written_ends (h b (by simp)).1 (h b (by simp)).2 hs
        have e2 : writeF ([] ++ [b]) = writtenF b.1 b.2 := by simp [writeF]
        rw [e2, e, chop_stays hc]
    · rw [writeF_next L b hL0]
      cases hs : stopF b with
      | true =>
        obtain rfl := stop_is hs
        rw [endF_stop hs]
        show chopF (writeF L ++ [32] ++ [59]) = _
        rw [chop_cut (by decide), chop_cut (by decide)]
        exact ih L (by omega) hL
      | false =>
        rw [endF_last hs, writeF_next L b hL0]
        obtain ⟨x, c, e, hc⟩ := written_ends (h b (by simp)).1 (h b (by simp)).2 hs
        rw [e, ← List.append_assoc, chop_stays hc]
theorem write_inj {a b : List Tok} (ha : ∀ t ∈ a, rightF t.1 t.2 = true ∧ t.1 ≠ 5) (hb : ∀ t ∈ b, rightF t.1 t.2 = true ∧ t.1 ≠ 5) (h : writeF a = writeF b) : a = b := by
  have h1 := lex_write a ha
  have h2 := lex_write b hb
  rw [h, h2] at h1
  exact (Option.some.inj h1).symm

/- lexed tokens may be, Hints aside -/
theorem up_up (c : UInt8) : upF (upF c) = upF c := by
  have := by_all (fun c => decide (upF (upF c) = upF c)) (by decide +kernel) c
  simpa using this
theorem up_lod (c : UInt8) (h : lodF c = true) : lodF (upF c) = true := by
  have := by_all (fun c => !lodF c || lodF (upF c)) (by decide +kernel) c
  rw [h] at this
  simpa using this
theorem up_letter (c : UInt8) (h : letterF c = true) : letterF (upF c) = true := by
  have := by_all (fun c => !letterF c || letterF (upF c)) (by decide +kernel) c
  rw [h] at this
  simpa using this
theorem run_of_all {p : UInt8 → Bool} : ∀ (l : List UInt8), (∀ c ∈ l, p c = true) → runF p l = l.length
  | [], _ => rfl
  | c :: r, h => by rw [runF_some (h c (by simp)), run_of_all r fun d hd => h d (List.mem_cons_of_mem _ hd)]; rfl
theorem great_great (l : List UInt8) : greatF (greatF l) = greatF l := by
  simp only [greatF, List.map_map]
  exact List.map_congr_left fun c _ => up_up c
theorem first_right {l : List UInt8} {k : Nat} {t : List UInt8} {n : Nat} (h : firstF l = some (k, t, n)) (h5 : k ≠ 5) : rightF (k : Int) t = true := by
  cases l with
  | nil => simp [firstF] at h
  | cons c r =>
    simp only [firstF] at h
    split at h
    · rename_i hc
      simp only [Option.some.injEq, Prod.mk.injEq] at h
      obtain ⟨rfl, rfl, rfl⟩ := h
      have hl : lodF c = true := by simp [lodF, hc]
      show rightWordF _ = true
      have hall := runF_all lodF (c :: r)
      rw [runF_some hl, List.take_succ_cons] at hall ⊢
      have hlod : ∀ d ∈ greatF (c :: r.take (runF lodF r)), lodF d = true := fun d hd => by
        obtain ⟨b, hb, rfl⟩ := List.mem_map.1 hd
        exact up_lod b (hall b hb)
      have e : greatF (c :: r.take (runF lodF r)) = upF c :: greatF (r.take (runF lodF r)) := rfl
      have hg := great_great (c :: r.take (runF lodF r))
      rw [e] at hlod hg ⊢
      simp only [rightWordF, Bool.and_eq_true, decide_eq_true_eq]
      exact ⟨up_letter c hc, run_of_all _ hlod, hg⟩
    split at h
    · rename_i hd
      simp only [Option.some.injEq, Prod.mk.injEq] at h
      obtain ⟨rfl, rfl, rfl⟩ := h
      show (decide (_ ≠ []) && decide (runF digitF _ = _)) = true
      rw [run_of_all _ (runF_all digitF (c :: r)), runF_some hd, List.take_succ_cons]
      simp
    split at h
    · obtain ⟨x, _, h⟩ := Option.map_eq_some_iff.1 h
      simp only [Prod.mk.injEq] at h
      obtain ⟨rfl, rfl, rfl⟩ := h
      rfl
    split at h
    · obtain ⟨x, _, h⟩ := Option.map_eq_some_iff.1 h
      simp only [Prod.mk.injEq] at h
      obtain ⟨rfl, rfl, rfl⟩ := h
      rfl
    split at h
    · split at h
      · cases h
      · simp only [Option.some.injEq, Prod.mk.injEq] at h
        exact absurd h.1.symm h5
    split at h
    · rename_i hs
      simp only [Option.some.injEq, Prod.mk.injEq] at h
      obtain ⟨rfl, rfl, rfl⟩ := h
      exact hs
    · cases h
theorem lexF_right : ∀ (n : Nat) (l : List UInt8) (x : List Tok), l.length ≤ n → lexF l = some x → ∀ t ∈ x, t.1 ≠ 5 → rightF t.1 t.2 = true := by
  intro n
  induction n with
  | zero =>
    intro l x hl h
    obtain rfl : l = [] := List.eq_nil_of_length_eq_zero (by omega)
    rw [lexF_nil] at h
    injection h with h
    subst h
    simp
  | succ n ih =>
    intro l x hl h
    by_cases hne : l = []
    · subst hne
      rw [lexF_nil] at h
      injection h with h
      subst h
      simp
    have hl0 := List.length_pos_iff.2 hne
    cases hst : stepF l with
    | bad => rw [lexF_bad hne hst] at h; cases h
    | skip m =>
      by_cases hm : m = 0
      · rw [lexF, dif_neg hne, hst] at h
        simp [hm] at h
      · rw [lexF_skip hne hst hm] at h
        exact ih (l.drop m) x (by rw [List.length_drop]; omega) h
    | tok k t m =>
      by_cases hm : m = 0
      · rw [lexF, dif_neg hne, hst] at h
        simp [hm] at h
      · rw [lexF_tok hne hst hm] at h
        obtain ⟨y, hy, rfl⟩ := Option.map_eq_some_iff.1 h
        intro t' ht' h5
        rcases List.mem_cons.1 ht' with rfl | ht'
        · exact first_right (step_tok hst) (fun e => h5 (by rw [e]; rfl))
        · exact ih (l.drop m) y (by rw [List.length_drop]; omega) hy t' ht' h5
theorem lexA_right (l : List UInt8) : ∀ t ∈ (lexA l).1, t.1 ≠ 5 → rightF t.1 t.2 = true := by
  unfold lexA
  split
  · simp
  · cases h : lexF l with
    | none => simp
    | some x => exact lexF_right l.length l x (Nat.le_refl _) h
theorem kept_right {l : List Tok} (h : ∀ t ∈ l, t.1 ≠ 5 → rightF t.1 t.2 = true) : ∀ t ∈ (keptF l).map emptyF, rightF t.1 t.2 = true ∧ t.1 ≠ 5 := by
  intro t ht
  obtain ⟨u, hu, rfl⟩ := List.mem_map.1 ht
  obtain ⟨hu, h5⟩ := List.mem_filter.1 hu
  have h5' : u.1 ≠ 5 := by simpa [isHintF] using h5
  unfold emptyF
  split
  · exact ⟨by decide, by decide⟩
  · exact ⟨h u hu h5', h5'⟩

/- the forms -/
def wFROM : List UInt8 := [70, 82, 79, 77]
def wKV : List UInt8 := [75, 86]
def wWHERE : List UInt8 := [87, 72, 69, 82, 69]
def wV : List UInt8 := [86]
def wK : List UInt8 := [75]
def fGet : List Tok := [(1, wSELECT), (1, wV), (1, wFROM), (1, wKV), (1, wWHERE), (1, wK), (6, [61]), (3, [])]
def fAll : List Tok := [(1, wSELECT), (6, [42]), (1, wFROM), (1, wKV)]
def fPut : List Tok := [(1, wINSERT), (1, wINTO), (1, wKV), (1, wVALUES), (6, [40]), (3, []), (6, [44]), (3, []), (6, [41])]
def fChg : List Tok := [(1, wUPDATE), (1, wKV), (1, wSET), (1, wV), (6, [61]), (3, []), (1, wWHERE), (1, wK), (6, [61]), (3, [])]
def fDel : List Tok := [(1, wDELETE), (1, wFROM), (1, wKV), (1, wWHERE), (1, wK), (6, [61]), (3, [])]
def tGet : ByteArray := ⟨#[83, 69, 76, 69, 67, 84, 32, 86, 32, 70, 82, 79, 77, 32, 75, 86, 32, 87, 72, 69, 82, 69, 32, 75, 32, 61, 32, 39, 39]⟩
def tAll : ByteArray := ⟨#[83, 69, 76, 69, 67, 84, 32, 42, 32, 70, 82, 79, 77, 32, 75, 86]⟩
def tPut : ByteArray := ⟨#[73, 78, 83, 69, 82, 84, 32, 73, 78, 84, 79, 32, 75, 86, 32, 86, 65, 76, 85, 69, 83, 32, 40, 32, 39, 39, 32, 44, 32, 39, 39, 32, 41]⟩
def tChg : ByteArray := ⟨#[85, 80, 68, 65, 84, 69, 32, 75, 86, 32, 83, 69, 84, 32, 86, 32, 61, 32, 39, 39, 32, 87, 72, 69, 82, 69, 32, 75, 32, 61, 32, 39, 39]⟩
def tDel : ByteArray := ⟨#[68, 69, 76, 69, 84, 69, 32, 70, 82, 79, 77, 32, 75, 86, 32, 87, 72, 69, 82, 69, 32, 75, 32, 61, 32, 39, 39]⟩
theorem tGet_is : writeF fGet = tGet.data.toList := by decide
theorem tAll_is : writeF fAll = tAll.data.toList := by decide
theorem tPut_is : writeF fPut = tPut.data.toList := by decide
theorem tChg_is : writeF fChg = tChg.data.toList := by decide
theorem tDel_is : writeF fDel = tDel.data.toList := by decide

/-- what a text says, of its tokens without Hints -/
def shapeF (m : List Tok) : List UInt8 := chopF (writeF (m.map emptyF))
theorem end_map (m : List Tok) : endF (m.map emptyF) = (endF m).map emptyF := by
  unfold endF
  have hc : stopF ∘ emptyF = stopF := funext stop_empty
  rw [List.map_reverse]
  congr 1
  rw [← List.map_reverse, List.dropWhile_map, hc]
theorem shape_iff {l : List Tok} (h : ∀ t ∈ l, t.1 ≠ 5 → rightF t.1 t.2 = true) (f : List Tok) (hf : ∀ t ∈ f, rightF t.1 t.2 = true ∧ t.1 ≠ 5) : shapeF (keptF l) = writeF f ↔ (bodyF l).map emptyF = f := by
  have hk := kept_right h
  unfold shapeF
  rw [chop_write _ _ (Nat.le_refl _) hk, end_map]
  show writeF ((bodyF l).map emptyF) = _ ↔ _
  constructor
  · intro e
    refine write_inj (fun t ht => ?_) hf e
    have e2 : (bodyF l).map emptyF = endF ((keptF l).map emptyF) := (end_map _).symm
    rw [e2] at ht
    obtain ⟨st, e3, _⟩ := endF_split ((keptF l).map emptyF)
    exact hk t (by rw [e3]; exact List.mem_append_left _ ht)
  · rintro rfl
    rfl
theorem strs_body (l : List Tok) : strsF (keptF l) = strsF (bodyF l) := by
  obtain ⟨st, e, hs⟩ := endF_split (keptF l)
  have h0 : strsF st = [] := by
    unfold strsF
    rw [List.filter_eq_nil_iff.2]
    · rfl
    · intro t ht
      obtain rfl := stop_is (hs t ht)
      decide
  have e2 : bodyF l = endF (keptF l) := rfl
  rw [e2]
  conv => lhs; rw [e]
  rw [strsF_append, h0, List.append_nil]

/-- what is done: its number, the key, the value -/
abbrev Doing := Int × List UInt8 × List UInt8
def pickF (m : List Tok) (xs : List (List UInt8)) : Doing :=
  if m = fGet then (1, xs.getD 0 [], [])
  else if m = fAll then (2, [], [])
  else if m = fPut then (3, xs.getD 0 [], xs.getD 1 [])
  else if m = fChg then (4, xs.getD 1 [], xs.getD 0 [])
  else if m = fDel then (5, xs.getD 0 [], [])
  else (0, [], [])
def planF (m : List Tok) : Doing := pickF (m.map emptyF) (strsF m)
def planA (l : List UInt8) : Doing := planF (bodyF (lexA l).1)
theorem planA_lex {l : List UInt8} {ts : List Tok} (h : lexF l = some ts) (hl : l.length ≤ 200) : planA l = planF (bodyF ts) := by
  unfold planA
  rw [show lexA l = (ts, 0) from by unfold lexA; rw [if_neg (by omega), h]]
theorem strs_len {m f : List Tok} (h : m.map emptyF = f) : (strsF m).length = (strsF f).length := by rw [← h, strsF_empty_len]

/- what does something is classed -/
theorem empty_word {t : Tok} {x : List UInt8} (h : emptyF t = (1, x)) : t = (1, x) := by
  unfold emptyF at h
  split at h
  · cases h
  · exact h
theorem empty_sign {t : Tok} {x : List UInt8} (h : emptyF t = (6, x)) : t = (6, x) := by
  unfold emptyF at h
  split at h
  · cases h
  · exact h
theorem empty_str {t : Tok} (h : emptyF t = (3, [])) : ∃ x, t = (3, x) := by
  obtain ⟨k, x⟩ := t
  unfold emptyF at h
  split at h
  · rename_i h3
    exact ⟨x, by rw [show k = 3 from h3]⟩
  · exact ⟨x, by rw [Prod.mk.injEq] at h; rw [h.1]⟩
theorem map_cons_is {l : List Tok} {u : Tok} {r : List Tok} (h : l.map emptyF = u :: r) : ∃ t s, l = t :: s ∧ emptyF t = u ∧ s.map emptyF = r := by
  cases l with
  | nil => simp at h
  | cons t s => simp only [List.map_cons, List.cons.injEq] at h; exact ⟨t, s, rfl, h.1, h.2⟩
theorem map_nil_is {l : List Tok} (h : l.map emptyF = []) : l = [] := List.map_eq_nil_iff.1 h
theorem stops_of {m : List Tok} : m.any stopF = (m.map emptyF).any stopF := by
  rw [List.any_map, show stopF ∘ emptyF = stopF from funext stop_empty]
theorem word_empty (ws : List (List UInt8)) (t : Tok) : wordF ws (emptyF t) = wordF ws t := by
  unfold emptyF wordF
  split
  · rename_i h; simp [h]
  · rfl
theorem has_empty (l : List Tok) (ws : List (List UInt8)) : hasF (l.map emptyF) ws = hasF l ws := by
  unfold hasF
  rw [List.any_map, show wordF ws ∘ emptyF = wordF ws from funext (word_empty ws)]
theorem class_of_form {m f : List Tok} (h : m.map emptyF = f) {x : List UInt8} {r : List Tok} (hf : f = (1, x) :: r) (hs : f.any stopF = false) {c : Int}
    (hc : (famF x = 4 ∧ hasF r six = false ∧ c = 1) ∨ (famF x = 3 ∧ c = 2)) : classF m = c := by
  rw [hf] at h
  obtain ⟨t, s, rfl, ht, hr⟩ := map_cons_is h
  obtain rfl := empty_word ht
  rw [classF_word rfl (by rw [stops_of, h, ← hf]; exact hs)]
  rcases hc with ⟨h4, h6, rfl⟩ | ⟨h3, rfl⟩
  · show famB (famF x) s _ = 1
    rw [h4]
    show selF s true = 1
    unfold selF
    rw [← has_empty, hr, h6]
    rfl
  · show famB (famF x) s _ = 2
    rw [h3]
    rfl
theorem plan_class {l : List UInt8} : ((planA l).1 = 1 ∨ (planA l).1 = 2 → classA l = 1) ∧ ((planA l).1 = 3 ∨ (planA l).1 = 4 ∨ (planA l).1 = 5 → classA l = 2) := by
  have herr : (lexA l).2 ≠ 0 → planA l = (0, [], []) := fun h => by
    unfold planA
    rw [lexA_err l h]
    rfl
  by_cases he : (lexA l).2 = 0
  case neg => rw [herr he]; exact ⟨(fun h => by rcases h with h | h <;> cases h), (fun h => by rcases h with h | h | h <;> cases h)⟩
  have hA : classA l = classF (bodyF (lexA l).1) := by unfold classA; rw [if_pos he]
  rw [hA]
  unfold planA
  generalize bodyF (lexA l).1 = m
  unfold planF pickF
  split
  · rename_i h
    exact ⟨fun _ => class_of_form h rfl (by decide) (.inl ⟨by decide, by decide, rfl⟩), (fun h => by rcases h with h | h | h <;> cases h)⟩
  split
  · rename_i h
    exact ⟨fun _ => class_of_form h rfl (by decide) (.inl ⟨by decide, by decide, rfl⟩), (fun h => by rcases h with h | h | h <;> cases h)⟩
  split
  · rename_i h
    exact ⟨(fun h => by rcases h with h | h <;> cases h), fun _ => class_of_form h rfl (by decide) (.inr ⟨by decide, rfl⟩)⟩
  split
  · rename_i h
    exact ⟨(fun h => by rcases h with h | h <;> cases h), fun _ => class_of_form h rfl (by decide) (.inr ⟨by decide, rfl⟩)⟩
  split
  · rename_i h
    exact ⟨(fun h => by rcases h with h | h <;> cases h), fun _ => class_of_form h rfl (by decide) (.inr ⟨by decide, rfl⟩)⟩
  · exact ⟨(fun h => by rcases h with h | h <;> cases h), (fun h => by rcases h with h | h | h <;> cases h)⟩
end

/- strings.TrimRight at the cutset that the shapes use: contract. -/
section
open Go.RowKit
set_option maxRecDepth 100000

theorem chop_s (s : ByteArray) (w : World) (hs : s.size ≤ 1000000000) : Calls Tryd.prog 43 #[.string s, .string ⟨#[32, 59]⟩] w fun e w' => ∃ r : ByteArray, e = .returned (.string r) ∧ r.data.toList = chopF s.data.toList ∧ Below w.heap.size w w' := by
  have h := Any.strings_TrimRight_laid Tryd.lays162 (by kernel_rfl) s ⟨#[32, 59]⟩ w (by omega) (by decide) (ascii_of_all (by decide))
  change Calls Tryd.prog 43 _ _ _ at h
  exact h.mono fun _ _ ⟨he, hb⟩ => ⟨_, he, by simp [chopF, cut2], hb⟩
end

/- Tables: rows of pairs as they lie in memory, their order, what is read of them and written to them: plain functions (no function of the program is named here). -/
section
open Go.RowKit
set_option maxRecDepth 100000

/- texts by their bytes -/
theorem bytes_ext {s t : ByteArray} (h : s.toList = t.toList) : s = t := by
  rw [ByteArray.toList_eq, ByteArray.toList_eq] at h
  cases s; cases t
  simp only [ByteArray.mk.injEq]
  exact Array.toList_inj.1 h
theorem rd_own2 {w : World} {A : Option Addr} {xs : List Value} {base n c : Nat} {e : TypeId} (h : w.ownsRow base e 2 (.slice A n c) n xs) : Rd w w.heap.size A xs := by
  rcases h.2 with ⟨_, hn⟩ | ⟨g, cap, cur, hv, _, hg, _⟩
  · exact .inl (List.eq_nil_of_length_eq_zero (by have := h.1; omega))
  · have hA : A = some ⟨g, 0, none⟩ := by injection hv
    subst hA
    exact .inr ⟨_, rfl, (Array.getElem?_eq_some_iff.1 hg).1, h.cells (g := g) rfl⟩
def ltB (a b : ByteArray) : Bool := Op.bytesLess a.toList b.toList
theorem less_irrefl : ∀ a : List UInt8, Op.bytesLess a a = false
  | [] => rfl
  | x :: r => by
    rw [Op.bytesLess, less_irrefl r]
    simp
theorem less_total : ∀ a b : List UInt8, Op.bytesLess a b = false → Op.bytesLess b a = false → a = b
  | [], [], _, _ => rfl
  | [], _ :: _, h, _ => by simp [Op.bytesLess] at h
  | _ :: _, [], _, h => by simp [Op.bytesLess] at h
  | x :: a, y :: b, h, k => by
    simp only [Op.bytesLess, Bool.or_eq_false_iff, decide_eq_false_iff_not, Bool.and_eq_false_iff, beq_eq_false_iff_ne] at h k
    have e : x = y := by
      have h1 := h.1
      have h2 := k.1
      rw [UInt8.lt_iff_toNat_lt] at h1 h2
      exact UInt8.toNat_inj.1 (by omega)
    subst e
    rcases h.2 with h' | h'
    · exact absurd rfl h'
    rcases k.2 with k' | k'
    · exact absurd rfl k'
    rw [less_total a b h' k']
theorem less_trans : ∀ a b c : List UInt8, Op.bytesLess a b = true → Op.bytesLess b c = true → Op.bytesLess a c = true
  | _, [], _, h, _ => by simp [Op.bytesLess] at h
  | _, _ :: _, [], _, h => by simp [Op.bytesLess] at h
  | [], _ :: _, _ :: _, _, _ => rfl
  | x :: a, y :: b, z :: c, h, k => by
    simp only [Op.bytesLess, Bool.or_eq_true, decide_eq_true_eq, Bool.and_eq_true, beq_iff_eq] at h k ⊢
    rcases h with h | ⟨rfl, h⟩
    · rcases k with k | ⟨rfl, _⟩
      · exact .inl (by rw [UInt8.lt_iff_toNat_lt] at h k ⊢; omega)
      · exact .inl h
    · rcases k with k | ⟨rfl, k⟩
      · exact .inl k
      · exact .inr ⟨rfl, less_trans a b c h k⟩
theorem ltB_irrefl (a : ByteArray) : ltB a a = false := less_irrefl _
theorem ltB_total {a b : ByteArray} (h : ltB a b = false) (k : ltB b a = false) : a = b := bytes_ext (less_total _ _ h k)
theorem ltB_trans {a b c : ByteArray} (h : ltB a b = true) (k : ltB b c = true) : ltB a c = true := less_trans _ _ _ h k
theorem ltB_asymm {a b : ByteArray} (h : ltB a b = true) : ltB b a = false := by
  cases k : ltB b a with
  | false => rfl
  | true => rw [← ltB_irrefl a, ← ltB_trans h k]
theorem ltB_ne {a b : ByteArray} (h : ltB a b = true) : a ≠ b := fun e => by rw [e, ltB_irrefl] at h; cases h

/-- a key, its value -/
structure Kv where
  k : ByteArray
  v : ByteArray
deriving DecidableEq
instance : Inhabited Kv := ⟨⟨⟨#[]⟩, ⟨#[]⟩⟩⟩
def Kv.cells (t : Kv) : List Value := [.string t.k, .string t.v]
def kvC (ts : List Kv) : List Value := ts.flatMap Kv.cells
theorem kvC_length : ∀ ts : List Kv, (kvC ts).length = ts.length * 2
  | [] => rfl
  | r :: rs => by
    have := kvC_length rs
    simp only [kvC, List.flatMap_cons, List.length_append, List.length_cons, Kv.cells, List.length_nil] at this ⊢
    omega
theorem kvC_append (a b : List Kv) : kvC (a ++ b) = kvC a ++ kvC b := by simp [kvC]
theorem kvC_at : ∀ (rs : List Kv) (j : Nat) (h : j < rs.length), (kvC rs)[j * 2]? = some (.string rs[j].k) ∧ (kvC rs)[j * 2 + 1]? = some (.string rs[j].v)
  | [], _, h => by simp at h
  | r :: rs, 0, _ => by simp [kvC, Kv.cells]
  | r :: rs, j + 1, h => by
    have := kvC_at rs j (by simpa using h)
    have e1 : (j + 1) * 2 = j * 2 + 2 := by omega
    simp only [kvC, List.flatMap_cons] at this ⊢
    rw [e1]
    simpa [Kv.cells] using this
theorem kvC_next (rs : List Kv) (k : Nat) (h : k < rs.length) : kvC (rs.take (k + 1)) = kvC (rs.take k) ++ [.string rs[k].k, .string rs[k].v] := by
  rw [List.take_succ_eq_append_getElem h, kvC_append]
  simp [kvC, Kv.cells]
theorem kvC_take : ∀ (rs : List Kv) (k : Nat), kvC (rs.take k) = (kvC rs).take (k * 2)
  | _, 0 => by simp [kvC]
  | [], k + 1 => by simp [kvC]
  | r :: rs, k + 1 => by
    have := kvC_take rs k
    have e1 : (k + 1) * 2 = k * 2 + 2 := by omega
    rw [List.take_succ_cons]
    simp only [kvC, List.flatMap_cons] at this ⊢
    rw [this, e1]
    simp [Kv.cells]
theorem kvC_drop : ∀ (rs : List Kv) (k : Nat), kvC (rs.drop k) = (kvC rs).drop (k * 2)
  | _, 0 => by simp [kvC]
  | [], k + 1 => by simp [kvC]
  | r :: rs, k + 1 => by
    have := kvC_drop rs k
    have e1 : (k + 1) * 2 = k * 2 + 2 := by omega
    rw [List.drop_succ_cons]
    simp only [kvC, List.flatMap_cons] at this ⊢
    rw [this, e1]
    simp [Kv.cells]
theorem kvC_one (rs : List Kv) : ∀ u ∈ kvC rs, u.oneCell' = true := by
  intro u hu
  simp only [kvC, List.mem_flatMap] at hu
  obtain ⟨r, _, h⟩ := hu
  simp only [Kv.cells, List.mem_cons, List.not_mem_nil, or_false] at h
  rcases h with rfl | rfl <;> rfl

/-- a row of pairs that is read -/
structure KR (w : World) (A : Option Addr) (n : Nat) (ts : List Kv) : Prop where
  len : ts.length = n
  rd : Rd w w.heap.size A (kvC ts)
theorem KR.next {w w' : World} {A : Option Addr} {n : Nat} {ts : List Kv} (h : KR w A n ts) (hb : Below w.heap.size w w') : KR w' A n ts := ⟨h.len, (h.rd.below hb (Nat.le_refl _)).more hb.size⟩
theorem KR.nil (w : World) : KR w none 0 [] := ⟨rfl, .inl rfl⟩
theorem KR.at_ {w : World} {A : Option Addr} {n : Nat} {ts : List Kv} (h : KR w A n ts) {j : Nat} (hj : j < ts.length) : ∃ ad, A = some ad ∧ ad.block < w.heap.size ∧ ∀ w', Below w.heap.size w w' → w'.cell? (ad.add (j * 2)) = some (.string ts[j].k) ∧ w'.cell? ⟨(ad.add (j * 2)).block, (ad.add (j * 2)).off + 1, none⟩ = some (.string ts[j].v) := by
  obtain ⟨ad, hA, hb, hc⟩ := h.rd.addr (by rw [kvC_length]; omega)
  refine ⟨ad, hA, hb, fun w' hw => ⟨?_, ?_⟩⟩
  · rw [hw.cell (by rw [add_block]; exact hb)]; exact hc _ _ (kvC_at ts j hj).1
  · have e1 : (⟨(ad.add (j * 2)).block, (ad.add (j * 2)).off + 1, none⟩ : Addr) = ad.add (j * 2 + 1) := by rw [← add_add]; rfl
    rw [e1, hw.cell (by rw [add_block]; exact hb)]; exact hc _ _ (kvC_at ts j hj).2

/-- a row of pairs of the call's own -/
structure OK (e : TypeId) (w : World) (base : Nat) (A : Option Addr) (n c : Nat) (ts : List Kv) : Prop where
  own : w.ownsRow base e 2 (.slice A n c) n (kvC ts)
  cap : n ≤ c
section
variable {e : TypeId} {w : World} {base : Nat} {A : Option Addr} {n c : Nat} {ts : List Kv}
theorem OK.len (h : OK e w base A n c ts) : ts.length = n := by
  have := h.own.1
  rw [kvC_length] at this
  omega
theorem OK.kr (h : OK e w base A n c ts) : KR w A n ts := ⟨h.len, rd_own2 h.own⟩
theorem OK.next {w' : World} (h : OK e w base A n c ts) (hb : Below w.heap.size w w') : OK e w' base A n c ts := ⟨own_below_s h.own hb (Nat.le_refl _), h.cap⟩
theorem OK.nil (e : TypeId) (w : World) (base : Nat) : OK e w base none 0 0 [] := ⟨World.ownsRow_nil _ _ _ _, Nat.le_refl _⟩
theorem OK.base_ {base' : Nat} (h : OK e w base A n c ts) (hb : base' ≤ base) : OK e w base' A n c ts := ⟨own_base_s h.own hb, h.cap⟩
theorem OK.push {v : Value} {k r : ByteArray} (h : w.ownsRow base e 2 v (n + 1) (kvC ts ++ [.string k, .string r])) : ∃ A c, v = .slice A (n + 1) c ∧ OK e w base A (n + 1) c (ts ++ [⟨k, r⟩]) := by
  obtain ⟨A, c, rfl, h1, _⟩ := own_form_s h
  exact ⟨A, c, rfl, by rw [kvC_append]; exact h, h1⟩
end

/- order -/
def Srt (l : List Kv) : Prop := l.Pairwise fun a b => ltB a.k b.k = true
/-- keys rise, each above the one ahead -/
def tabF : List Kv → Bool
  | [] => true
  | a :: r => (match r with | [] => true | b :: _ => ltB a.k b.k) && tabF r
theorem tab_srt : ∀ l : List Kv, tabF l = true ↔ Srt l
  | [] => by simp [tabF, Srt]
  | [a] => by simp [tabF, Srt]
  | a :: b :: r => by
    have ih := tab_srt (b :: r)
    unfold Srt at ih ⊢
    rw [List.pairwise_cons, ← ih]
    constructor
    · intro h
      have h' : ltB a.k b.k = true ∧ tabF (b :: r) = true := by simpa [tabF] using h
      refine ⟨fun x hx => ?_, h'.2⟩
      rcases List.mem_cons.1 hx with rfl | hx
      · exact h'.1
      · exact ltB_trans h'.1 ((List.pairwise_cons.1 (ih.1 h'.2)).1 x hx)
    · intro h
      have h1 := h.1 b (by simp)
      have h2 := h.2
      show (ltB a.k b.k && tabF (b :: r)) = true
      rw [h1, h2]
      rfl
theorem Srt.at_ {l : List Kv} (h : Srt l) {i j : Nat} (hj : j < l.length) (hij : i < j) : ltB (l[i]'(by omega)).k l[j].k = true := List.pairwise_iff_getElem.1 h i j (by omega) hj hij
theorem tab_next {l : List Kv} {i : Nat} (hi : i + 1 < l.length) (h : tabF (l.take (i + 1)) = true) : tabF (l.take (i + 2)) = ltB l[i].k l[i + 1].k := by
  have hs := (tab_srt _).1 h
  cases hb : ltB l[i].k l[i + 1].k with
  | true =>
    refine (tab_srt _).2 ?_
    unfold Srt
    rw [List.pairwise_iff_getElem]
    intro a b ha hb' hab
    rw [List.getElem_take, List.getElem_take]
    have hlen : (l.take (i + 2)).length = i + 2 := by rw [List.length_take]; omega
    by_cases hbi : b = i + 1
    · subst hbi
      by_cases hai : a = i
      · subst hai; exact hb
      · have := hs.at_ (i := a) (j := i) (by rw [List.length_take]; omega) (by omega)
        rw [List.getElem_take, List.getElem_take] at this
        exact ltB_trans this hb
    · have := hs.at_ (i := a) (j := b) (by rw [List.length_take]; omega) hab
      rw [List.getElem_take, List.getElem_take] at this
      exact this
  | false =>
    cases ht : tabF (l.take (i + 2)) with
    | false => rfl
    | true =>
      have := ((tab_srt _).1 ht).at_ (i := i) (j := i + 1) (by rw [List.length_take]; omega) (by omega)
      rw [List.getElem_take, List.getElem_take, hb] at this
      cases this
theorem tab_short {l : List Kv} {i : Nat} (h : tabF (l.take i) = false) : tabF l = false := by
  cases ht : tabF l with
  | false => rfl
  | true =>
    have hs := (tab_srt _).1 ht
    have : Srt (l.take i) := List.Pairwise.sublist (List.take_sublist _ _) hs
    rw [(tab_srt _).2 this] at h
    cases h

/- places -/
/-- how many keys at the beginning are below one -/
def posF (k : ByteArray) (l : List Kv) : Nat := (l.takeWhile fun p => ltB p.k k).length
theorem posF_le (k : ByteArray) (l : List Kv) : posF k l ≤ l.length := (List.takeWhile_sublist _).length_le
theorem posF_of {k : ByteArray} : ∀ {l : List Kv} {i : Nat}, i ≤ l.length → (∀ j (h : j < l.length), j < i → ltB l[j].k k = true) → (∀ (h : i < l.length), ltB l[i].k k = false) → posF k l = i
  | [], i, hi, _, _ => by
    obtain rfl : i = 0 := by simpa using hi
    rfl
  | a :: r, 0, _, _, h => by
    have := h (by simp)
    simp at this
    simp [posF, this]
  | a :: r, i + 1, hi, h1, h2 => by
    have h0 := h1 0 (by simp) (by omega)
    simp at h0
    have := posF_of (k := k) (l := r) (i := i) (by simpa using hi) (fun j hj hji => by have := h1 (j + 1) (by simpa using hj) (by omega); exact this) (fun h => by have := h2 (by simpa using h); exact this)
    unfold posF at this ⊢
    rw [List.takeWhile_cons, h0]
    simpa using this
theorem posF_lt {k : ByteArray} : ∀ {l : List Kv} {j : Nat} (h : j < l.length), j < posF k l → ltB l[j].k k = true
  | [], _, h, _ => by simp at h
  | a :: r, j, h, hj => by
    unfold posF at hj
    rw [List.takeWhile_cons] at hj
    split at hj
    · rename_i ha
      cases j with
      | zero => exact ha
      | succ j => exact posF_lt (l := r) (by simpa using h) (by simpa [posF] using hj)
    · simp at hj
theorem posF_at {k : ByteArray} : ∀ {l : List Kv} (h : posF k l < l.length), ltB l[posF k l].k k = false
  | [], h => by simp at h
  | a :: r, h => by
    cases ha : ltB a.k k with
    | true =>
      have e : posF k (a :: r) = posF k r + 1 := by
        unfold posF
        rw [List.takeWhile_cons, ha]
        rfl
      simp only [e, List.length_cons, List.getElem_cons_succ] at h ⊢
      exact posF_at (l := r) (by omega)
    | false =>
      have e : posF k (a :: r) = 0 := by
        unfold posF
        rw [List.takeWhile_cons, ha]
        rfl
      simp only [e, List.getElem_cons_zero]
      exact ha
/-- is a key there? -/
def thereF (k : ByteArray) (l : List Kv) : Bool := decide ((l[posF k l]?).map Kv.k = some k)
theorem there_lt {k : ByteArray} {l : List Kv} (h : thereF k l = true) : ∃ hp : posF k l < l.length, l[posF k l].k = k := by
  unfold thereF at h
  simp only [decide_eq_true_eq, Option.map_eq_some_iff] at h
  obtain ⟨a, ha, e⟩ := h
  obtain ⟨hp, e2⟩ := List.getElem?_eq_some_iff.1 ha
  exact ⟨hp, by rw [e2]; exact e⟩
theorem there_at {k : ByteArray} {l : List Kv} (h : posF k l < l.length) : thereF k l = decide (l[posF k l].k = k) := by
  unfold thereF
  rw [List.getElem?_eq_getElem h]
  simp
theorem there_end {k : ByteArray} {l : List Kv} (h : ¬ posF k l < l.length) : thereF k l = false := by
  unfold thereF
  rw [List.getElem?_eq_none (by omega)]
  simp
/-- behind the place the keys are above -/
theorem above_pos {k : ByteArray} {l : List Kv} (hs : Srt l) {j : Nat} (hj : j < l.length) (h : posF k l < j) : ltB k l[j].k = true := by
  have hp : posF k l < l.length := by omega
  have h1 := hs.at_ hj h
  have h2 := posF_at hp
  cases h3 : ltB k l[posF k l].k with
  | true => exact ltB_trans h3 h1
  | false => rw [← ltB_total h2 h3]; exact h1
theorem above_at {k : ByteArray} {l : List Kv} (hp : posF k l < l.length) (ht : thereF k l = false) : ltB k l[posF k l].k = true := by
  rw [there_at hp] at ht
  have h2 := posF_at hp
  cases h3 : ltB k l[posF k l].k with
  | true => rfl
  | false => exact absurd (ltB_total h2 h3) (by simpa using ht)
/-- a key that is in a table stands at its place -/
theorem mem_there {k v : ByteArray} {l : List Kv} (hs : Srt l) (h : (⟨k, v⟩ : Kv) ∈ l) : ∃ hp : posF k l < l.length, l[posF k l] = ⟨k, v⟩ := by
  obtain ⟨j, hj, e⟩ := List.getElem_of_mem h
  have hpos : posF k l = j := posF_of (by omega) (fun i hi hij => by have := hs.at_ hj hij; rw [e] at this; exact this) (fun _ => by rw [e]; exact ltB_irrefl k)
  subst hpos
  exact ⟨hj, e⟩
theorem there_mem {k : ByteArray} {l : List Kv} (hs : Srt l) (p : Kv) (hp : p ∈ l) (e : p.k = k) : thereF k l = true := by
  obtain ⟨k', v⟩ := p
  obtain rfl : k' = k := e
  obtain ⟨h1, h2⟩ := mem_there hs hp
  rw [there_at h1, h2]
  simp

/- what is read -/
def firstsF (l : List Kv) : List ByteArray := (l.take 10).flatMap fun p => [p.k, p.v]
def readsF (d : Int) (k : ByteArray) (l : List Kv) : List ByteArray :=
  if d = 1 then (if thereF k l then [(l.getD (posF k l) default).v] else []) else if d = 2 then firstsF l else []
/- what is written -/
def restF (k : ByteArray) (l : List Kv) : List Kv := if thereF k l then l.drop (posF k l + 1) else l.drop (posF k l)
def writesF (d : Int) (k v : ByteArray) (l : List Kv) : List Kv × Int :=
  if d = 3 ∨ (d = 4 ∧ thereF k l = true) then (l.take (posF k l) ++ ⟨k, v⟩ :: restF k l, 1)
  else if d = 5 ∧ thereF k l = true then (l.take (posF k l) ++ restF k l, 1)
  else (l, 0)

theorem rest_above {k : ByteArray} {l : List Kv} (hs : Srt l) : ∀ p ∈ restF k l, ltB k p.k = true := by
  intro p hp
  unfold restF at hp
  split at hp
  · rename_i ht
    obtain ⟨j, hj, e⟩ := List.getElem_of_mem hp
    rw [List.length_drop] at hj
    rw [List.getElem_drop] at e
    have := above_pos (k := k) hs (j := posF k l + 1 + j) (by omega) (by omega)
    rw [e] at this
    exact this
  · rename_i ht
    obtain ⟨j, hj, e⟩ := List.getElem_of_mem hp
    rw [List.length_drop] at hj
    rw [List.getElem_drop] at e
    by_cases h0 : j = 0
    · subst h0
      have := above_at (k := k) (l := l) (by omega) (by simpa using ht)
      simp only [Nat.add_zero] at e
      rw [e] at this
      exact this
    · have := above_pos (k := k) hs (j := posF k l + j) (by omega) (by omega)
      rw [e] at this
      exact this
theorem front_below {k : ByteArray} {l : List Kv} : ∀ p ∈ l.take (posF k l), ltB p.k k = true := by
  intro p hp
  obtain ⟨j, hj, e⟩ := List.getElem_of_mem hp
  rw [List.length_take] at hj
  rw [List.getElem_take] at e
  have := posF_lt (k := k) (l := l) (j := j) (by omega) (by omega)
  rw [e] at this
  exact this
theorem rest_sub (k : ByteArray) (l : List Kv) : (restF k l).Sublist l := by
  unfold restF
  split <;> exact List.drop_sublist _ _
theorem parts_sub (k : ByteArray) (l : List Kv) : (l.take (posF k l) ++ restF k l).Sublist l := by
  have e : l = l.take (posF k l) ++ l.drop (posF k l) := (List.take_append_drop _ _).symm
  conv => rhs; rw [e]
  refine List.Sublist.append (List.Sublist.refl _) ?_
  unfold restF
  split
  · rw [← List.drop_drop]
    exact List.drop_sublist _ _
  · exact List.Sublist.refl _
theorem writes_srt (d : Int) (k v : ByteArray) {l : List Kv} (hs : Srt l) : Srt (writesF d k v l).1 := by
  unfold writesF
  split
  · show Srt (l.take (posF k l) ++ ⟨k, v⟩ :: restF k l)
    unfold Srt
    rw [List.pairwise_append, List.pairwise_cons]
    refine ⟨hs.sublist (List.take_sublist _ _), ⟨rest_above hs, hs.sublist (rest_sub k l)⟩, fun a ha b hb => ?_⟩
    rcases List.mem_cons.1 hb with rfl | hb
    · exact front_below a ha
    · exact ltB_trans (front_below a ha) (rest_above hs b hb)
  split
  · exact hs.sublist (parts_sub k l)
  · exact hs
/-- what stands there that isn't the key's -/
theorem mem_parts {k : ByteArray} {l : List Kv} (p : Kv) (hk : p.k ≠ k) : p ∈ l.take (posF k l) ++ restF k l ↔ p ∈ l := by
  constructor
  · exact fun h => (parts_sub k l).mem h
  · intro h
    have e : l = l.take (posF k l) ++ l.drop (posF k l) := (List.take_append_drop _ _).symm
    rw [e] at h
    rcases List.mem_append.1 h with h | h
    · exact List.mem_append_left _ h
    · refine List.mem_append_right _ ?_
      unfold restF
      split
      · rename_i ht
        obtain ⟨hp, e2⟩ := there_lt ht
        rw [List.drop_eq_getElem_cons hp] at h
        rcases List.mem_cons.1 h with rfl | h
        · exact absurd e2 hk
        · exact h
      · exact h
/-- what stands in the table behind a plan -/
theorem mem_writes (d : Int) (k v : ByteArray) {l : List Kv} (p : Kv) (hk : p.k ≠ k) : p ∈ (writesF d k v l).1 ↔ p ∈ l := by
  unfold writesF
  split
  · show p ∈ l.take (posF k l) ++ ⟨k, v⟩ :: restF k l ↔ _
    refine Iff.trans ?_ (mem_parts p hk)
    rw [List.mem_append, List.mem_append, List.mem_cons]
    constructor
    · rintro (h | rfl | h)
      · exact .inl h
      · exact absurd rfl hk
      · exact .inr h
    · rintro (h | h)
      · exact .inl h
      · exact .inr (.inr h)
  split
  · exact mem_parts p hk
  · exact Iff.rfl
theorem writes_put {d : Int} {k v : ByteArray} {l : List Kv} (h : d = 3 ∨ (d = 4 ∧ thereF k l = true)) : (⟨k, v⟩ : Kv) ∈ (writesF d k v l).1 := by
  unfold writesF
  rw [if_pos h]
  simp
theorem writes_gone {k v : ByteArray} {l : List Kv} (hs : Srt l) (p : Kv) (hp : p ∈ (writesF 5 k v l).1) : p.k ≠ k := by
  unfold writesF at hp
  rw [if_neg (by omega)] at hp
  split at hp
  · rcases List.mem_append.1 hp with h | h
    · exact ltB_ne (front_below p h)
    · exact (ltB_ne (rest_above hs p h)).symm
  · rename_i h
    intro e
    exact h ⟨rfl, there_mem hs p hp e⟩
theorem rest_len (k : ByteArray) (l : List Kv) : (l.take (posF k l)).length + (restF k l).length + (if thereF k l then 1 else 0) = l.length := by
  have := posF_le k l
  unfold restF
  split
  · rename_i h
    obtain ⟨hp, _⟩ := there_lt h
    rw [List.length_take, List.length_drop]
    omega
  · rw [List.length_take, List.length_drop]
    omega
theorem writes_len (d : Int) (k v : ByteArray) (l : List Kv) :
    ((writesF d k v l).2 = 0 ∧ (writesF d k v l).1.length = l.length) ∨ ((writesF d k v l).2 = 1 ∧ (writesF d k v l).1.length ≤ l.length + 1 ∧ l.length ≤ (writesF d k v l).1.length + 1) := by
  have := rest_len k l
  unfold writesF
  split
  · refine .inr ⟨rfl, ?_, ?_⟩
    all_goals
      simp only [List.length_append, List.length_cons]
      split at this <;> omega
  split
  · refine .inr ⟨rfl, ?_, ?_⟩
    all_goals
      simp only [List.length_append]
      split at this <;> omega
  · exact .inl ⟨rfl, rfl⟩
/-- what is read of a key -/
theorem reads_mem {k v : ByteArray} {l : List Kv} (hs : Srt l) (h : (⟨k, v⟩ : Kv) ∈ l) : readsF 1 k l = [v] := by
  obtain ⟨hp, e⟩ := mem_there hs h
  unfold readsF
  rw [if_pos rfl, there_mem hs _ h rfl, if_pos rfl, List.getD_eq_getElem?_getD, List.getElem?_eq_getElem hp, e]
  rfl
theorem reads_none {k : ByteArray} {l : List Kv} (h : ∀ p ∈ l, p.k ≠ k) : readsF 1 k l = [] := by
  unfold readsF
  rw [if_pos rfl]
  cases ht : thereF k l with
  | false => rfl
  | true =>
    obtain ⟨hp, e⟩ := there_lt ht
    exact absurd e (h _ (List.getElem_mem hp))
theorem keys_other (d : Int) {k k' v : ByteArray} (hk : k' ≠ k) {l : List Kv} (h : ∀ p ∈ l, p.k ≠ k') : ∀ p ∈ (writesF d k v l).1, p.k ≠ k' := by
  intro p hp e
  exact h p ((mem_writes d k v p (by rw [e]; exact hk)).1 hp) e
end

/- Where a key stands in a table: place, and the library's binary search, by calls: contracts. -/
section
open Go.RowKit
set_option maxRecDepth 100000

def cmpB (a b : ByteArray) : Int := if ltB a b then -1 else if a = b then 0 else 1
theorem cmpB_lt {a b : ByteArray} : decide (cmpB a b < 0) = ltB a b := by
  unfold cmpB
  cases ltB a b with
  | true => rfl
  | false =>
    by_cases h : a = b
    · rw [if_neg (by simp), if_pos h]; rfl
    · rw [if_neg (by simp), if_neg h]; rfl
theorem cmpB_eq {a b : ByteArray} : (cmpB a b == 0) = decide (a = b) := by
  unfold cmpB
  by_cases h : a = b
  · subst h
    rw [ltB_irrefl]
    simp
  · cases ltB a b with
    | true => simp [h]
    | false => simp [h]

theorem ret_b {a b : Bool} (h : a = b) : Ending.returned (.bool a) = .returned (.bool b) := by rw [h]
theorem isNaN_ok (s : ByteArray) (w : World) : Calls Tryd.prog 50 #[.string s] w fun e w' => e = .returned (.bool false) ∧ w = w' := by
  go_enter Tryd.func50, Tryd.ntmps50
  go_wp2_with fail
  go_ret
  exact ⟨ret_b (by simp), rfl⟩

set_option maxHeartbeats 1000000 in
theorem compare_ok (a b : ByteArray) (w : World) : Calls Tryd.prog 29 #[.string a, .string b] w fun e w' => e = .returned (.int .i64 (cmpB a b)) ∧ w = w' := by
  have H1 := fun u => isNaN_ok a u
  have H2 := fun u => isNaN_ok b u
  have hR : cmpB a b = if ltB a b then -1 else if a = b then 0 else 1 := rfl
  have hT : ∀ x, Hid (ltB a b = x) → Op.bytesLess a.toList b.toList = x := fun x h => h.out
  cases hl : ltB a b with
  | true =>
    rw [hl, if_pos rfl] at hR
    have hb := hT _ (Lib.hid hl)
    have HR := Lib.hid hR
    clear hl hT hR
    go_enter Tryd.func29, Tryd.ntmps29
    go_wp2_with fail
    refine (H1 _).mono ?_
    rintro e w1 ⟨rfl, rfl⟩
    go_wp2_with fail
    refine (H2 _).mono ?_
    rintro e w1 ⟨rfl, rfl⟩
    go_wp2_with fail
    go_ret
    exact ⟨by rw [HR.out]; rfl, rfl⟩
  | false =>
    rw [hl, if_neg (by simp)] at hR
    have hb := hT _ (Lib.hid hl)
    by_cases he : a = b
    · rw [if_pos he] at hR
      have hb2 : (a.toList == b.toList) = true := by rw [he]; simp
      have HR := Lib.hid hR
      clear hl hT hR he
      go_enter Tryd.func29, Tryd.ntmps29
      go_wp2_with fail
      refine (H1 _).mono ?_
      rintro e w1 ⟨rfl, rfl⟩
      go_wp2_with fail
      refine (H2 _).mono ?_
      rintro e w1 ⟨rfl, rfl⟩
      go_wp2_with fail
      go_ret
      exact ⟨by rw [HR.out]; rfl, rfl⟩
    · rw [if_neg he] at hR
      have hb2 : (a.toList == b.toList) = false := by
        simp only [beq_eq_false_iff_ne, ne_eq]
        exact fun h => he (bytes_ext h)
      have HR := Lib.hid hR
      clear hl hT hR he
      go_enter Tryd.func29, Tryd.ntmps29
      go_wp2_with fail
      refine (H1 _).mono ?_
      rintro e w1 ⟨rfl, rfl⟩
      go_wp2_with fail
      refine (H2 _).mono ?_
      rintro e w1 ⟨rfl, rfl⟩
      go_wp2_with fail
      go_ret
      exact ⟨by rw [HR.out]; rfl, rfl⟩

theorem keyOf_ok (k v : ByteArray) (w : World) : Calls Tryd.prog 19 #[.agg #[.string k, .string v]] w fun e w' => e = .returned (.string k) ∧ Below w.heap.size w w' := by
  have kw := kp_new w (.cells #[.string k, .string v] 48)
  go_enter Tryd.func19, Tryd.ntmps19
  go_wp2_with fail
  go_ret
  exact ⟨rfl, kw⟩

set_option maxHeartbeats 1000000 in
/-- the closure that the search is given: a pair's key against a key -/
theorem against_ok (k v key : ByteArray) (b : Nat) (w : World) (hc : w.cell? ⟨b, 0, none⟩ = some (.func (.func 19) #[] #[])) (hlt : b < w.heap.size) :
    Calls Tryd.prog 28 #[.agg #[.string k, .string v], .string key, .pointer (some ⟨b, 0, none⟩)] w fun e w' => e = .returned (.int .i64 (cmpB k key)) ∧ Below w.heap.size w w' := by
  have kw := kp_new w (.cells #[.string k, .string v] 48)
  go_enter Tryd.func28, Tryd.ntmps28
  go_wp2_with fail
  refine (keyOf_ok k v _).mono ?_
  rintro e w1 ⟨rfl, k1⟩
  go_wp2_with fail
  refine (compare_ok k key _).mono ?_
  rintro e w2 ⟨rfl, rfl⟩
  go_wp2_with fail
  go_ret
  exact ⟨rfl, kp_trans kw k1⟩

set_option maxHeartbeats 2000000 in
theorem search_ok (A : Option Addr) (n c : Nat) (ts : List Kv) (key : ByteArray) (b : Nat) (w : World) (h : KR w A n ts) (hs : Srt ts) (hn : n ≤ 1000000) (hc : w.cell? ⟨b, 0, none⟩ = some (.func (.func 19) #[] #[])) (hlt : b < w.heap.size) :
    Calls Tryd.prog 27 #[.slice A n c, .string key, .func (.func 28) #[] #[.pointer (some ⟨b, 0, none⟩)]] w
      fun e w' => e = .returned (.tuple #[.int .i64 (posF key ts : Nat), .bool (thereF key ts)]) ∧ Below w.heap.size w w' := by
  have HL := Lib.hid h.len
  have HS := Lib.hid hs
  have HH := Lib.hid h
  have HC := Lib.hid hc
  have HB := Lib.hid hlt
  clear h hs hc hlt
  go_enter Tryd.func27, Tryd.ntmps27
  go_wp2
  go_loopw [9, 10] (fun i j wr => ∃ lo hi : Nat, i = .int .i64 lo ∧ j = .int .i64 hi ∧ lo ≤ hi ∧ hi ≤ n ∧ Hid (∀ t (ht : t < ts.length), t < lo → ltB ts[t].k key = true) ∧ Hid (∀ t (ht : t < ts.length), hi ≤ t → ltB ts[t].k key = false) ∧ Below w.heap.size w wr) (fun i j _ => (intOf j).toNat - (intOf i).toNat)
  case atStart => exact ⟨0, n, rfl, rfl, Nat.zero_le _, Nat.le_refl _, Lib.hid (fun t _ h => absurd h (Nat.not_lt_zero _)), Lib.hid (fun t ht h => by have := HL.out; omega), Below.refl _ _⟩
  case round =>
    obtain ⟨lo, hi, rfl, rfl, hlh, hin, I1, I2, k0⟩ := hrel
    by_cases hlt : lo < hi
    · have hm : (lo + hi) / 2 < ts.length := by rw [HL.out]; omega
      obtain ⟨ad, rfl, _, hcc⟩ := HH.out.at_ hm
      obtain ⟨c0, c1⟩ := hcc _ k0
      clear hcc
      have HA := Lib.hid (against_ok ts[(lo + hi) / 2].k ts[(lo + hi) / 2].v key b wr ((k0.cell HB.out).trans HC.out) (Nat.lt_of_lt_of_le HB.out k0.size))
      have HE := Lib.hid (cmpB_lt (a := ts[(lo + hi) / 2].k) (b := key))
      cases hl : ltB ts[(lo + hi) / 2].k key with
      | true =>
        have J1 : Hid (∀ t (ht : t < ts.length), t < (lo + hi) / 2 + 1 → ltB ts[t].k key = true) := Lib.hid (fun t ht h => by
          by_cases he : t = (lo + hi) / 2
          · subst he; exact hl
          · exact ltB_trans (HS.out.at_ hm (show t < (lo + hi) / 2 by omega)) hl)
        replace HE : Hid (decide (cmpB ts[(lo + hi) / 2].k key < 0) = true) := Lib.hid (by rw [HE.out, hl])
        clear hl I1
        generalize ts[(lo + hi) / 2].k = x at *
        generalize ts[(lo + hi) / 2].v = y at *
        generalize cmpB x key = z at *
        have hz : z < 0 := by simpa using HE.out
        go_wp2_with fail
        refine HA.out.mono ?_
        rintro e w1 ⟨rfl, k1⟩
        go_wp2_with fail
        go_roundw
        case rel => exact ⟨(lo + hi) / 2 + 1, hi, by go_num, rfl, by omega, hin, J1, I2, kp_trans k0 k1⟩
        case measure => simp [intOf]; omega
      | false =>
        have J2 : Hid (∀ t (ht : t < ts.length), (lo + hi) / 2 ≤ t → ltB ts[t].k key = false) := Lib.hid (fun t ht h => by
          by_cases he : t = (lo + hi) / 2
          · subst he; exact hl
          · cases h2 : ltB ts[t].k key with
            | false => rfl
            | true => rw [← hl]; exact (ltB_trans (HS.out.at_ (i := (lo + hi) / 2) ht (by omega)) h2).symm ▸ rfl)
        replace HE : Hid (decide (cmpB ts[(lo + hi) / 2].k key < 0) = false) := Lib.hid (by rw [HE.out, hl])
        clear hl I2
        generalize ts[(lo + hi) / 2].k = x at *
        generalize ts[(lo + hi) / 2].v = y at *
        generalize cmpB x key = z at *
        have hz : ¬ z < 0 := by simpa using HE.out
        go_wp2_with fail
        refine HA.out.mono ?_
        rintro e w1 ⟨rfl, k1⟩
        go_wp2_with fail
        go_roundw
        case rel => exact ⟨lo, (lo + hi) / 2, rfl, by go_num, by omega, by omega, I1, J2, kp_trans k0 k1⟩
        case measure => simp [intOf]; omega
    · obtain rfl : hi = lo := by omega
      have hpos : posF key ts = hi := posF_of (by rw [HL.out]; exact hin) (fun j hj h => I1.out j hj h) (fun h => I2.out hi h (Nat.le_refl _))
      by_cases hn2 : hi < n
      · have hm : hi < ts.length := by rw [HL.out]; exact hn2
        obtain ⟨ad, rfl, _, hcc⟩ := HH.out.at_ hm
        obtain ⟨c0, c1⟩ := hcc _ k0
        clear hcc
        have HA := Lib.hid (against_ok ts[hi].k ts[hi].v key b wr ((k0.cell HB.out).trans HC.out) (Nat.lt_of_lt_of_le HB.out k0.size))
        have hE := cmpB_eq (a := ts[hi].k) (b := key)
        have hT : thereF key ts = decide (ts[hi].k = key) := by
          subst hpos
          exact there_at hm
        rw [← hE] at hT
        have HT := Lib.hid hT
        have HP := Lib.hid hpos
        clear hE hT hpos
        generalize ts[hi].k = x at *
        generalize ts[hi].v = y at *
        generalize cmpB x key = z at *
        go_wp2_with fail
        refine HA.out.mono ?_
        rintro e w1 ⟨rfl, k1⟩
        go_wp2_with fail
        go_ret2
        exact ⟨by rw [HT.out, HP.out]; rfl, kp_trans k0 k1⟩
      · have hT : thereF key ts = false := there_end (by rw [HL.out, hpos]; exact hn2)
        have HT := Lib.hid hT
        have HP := Lib.hid hpos
        clear hT hpos
        go_wp2_with fail
        go_ret2
        exact ⟨by rw [HT.out, HP.out]; rfl, k0⟩

theorem place_ok (A : Option Addr) (n c : Nat) (ts : List Kv) (key : ByteArray) (w : World) (h : KR w A n ts) (hs : Srt ts) (hn : n ≤ 1000000) :
    Calls Tryd.prog 18 #[.slice A n c, .string key, .func (.func 19) #[] #[]] w
      fun e w' => e = .returned (.tuple #[.int .i64 (posF key ts : Nat), .bool (thereF key ts)]) ∧ Below w.heap.size w w' := by
  have HH := Lib.hid h
  clear h
  go_enter Tryd.func18, Tryd.ntmps18
  go_wp2_with fail
  refine (search_ok A n c ts key w.heap.size _ (HH.out.next (kp_new w _)) hs hn ?_ (by simp)).mono ?_
  · rw [cell_of_row _ _ 0 #[_] _ (0, 0) (heap_alloc_new w _)]; rfl
  rintro e w1 ⟨rfl, k1⟩
  go_wp2_with fail
  go_ret2
  exact ⟨rfl, kp_trans (kp_new w _) k1⟩
end

/- Rows of pairs cut, copied and laid behind one another: slices.Concat, slices.Clone: contracts. -/
section
open Go.RowKit
set_option maxRecDepth 100000

theorem kvinfo : (Tryd.prog.info? 48).map (fun i => (i.zero, i.size, i.bytes)) = some (some (.agg #[.string ⟨#[]⟩, .string ⟨#[]⟩]), 2, 32) := by kernel_rfl
theorem kvsize : (Tryd.prog.info? (Tryd.prog.elem 24)).map (·.size) = some 2 := by kernel_rfl

section
variable {w : World} {A : Option Addr} {n c : Nat} {ts : List Kv}
theorem KR.cut0 (h : KR w A n ts) (hc : n ≤ c) (P : Program) (t : TypeId) (ht : P.underlying t = some (.slice (P.elem t))) (hz : (P.info? (P.elem t)).map (·.size) = some 2) {j : Nat} (y : Int) (hy : y = j) (hj : j ≤ n) :
    ∃ A', (∀ u, (Instr.slice t (.slice A n c) none (some (.int .i64 y)) none).run P u = .ok (.slice A' j c) u) ∧ KR w A' j (ts.take j) := by
  obtain ⟨ti, hti, hsz⟩ := Option.map_eq_some_iff.1 hz
  refine ⟨A, fun u => ?_, ⟨by rw [List.length_take, h.len]; omega, by rw [kvC_take]; exact h.rd.front _⟩⟩
  subst hy
  rw [run_slice_h u t A n c ht .i64 j (by omega) (by omega)]
  cases A with
  | none => simp [sizeOf, typeInfo, hti, hsz, sliced, Result.andThen]
  | some ad => simp [sizeOf, typeInfo, hti, hsz, sliced, Result.andThen, Addr.add]
theorem KR.cut1 (h : KR w A n ts) (hc : n ≤ c) (P : Program) (t : TypeId) (ht : P.underlying t = some (.slice (P.elem t))) (hz : (P.info? (P.elem t)).map (·.size) = some 2) {i : Nat} (x : Int) (hx : x = i) (hi : i ≤ n) :
    ∃ A', (∀ u, (Instr.slice t (.slice A n c) (some (.int .i64 x)) none none).run P u = .ok (.slice A' (n - i) (c - i)) u) ∧ KR w A' (n - i) (ts.drop i) := by
  obtain ⟨ti, hti, hsz⟩ := Option.map_eq_some_iff.1 hz
  have hr := h.rd.cut (k := i * 2) (cap := c * 2) (by rw [kvC_length, h.len]; omega)
  have e : (if c * 2 = i * 2 then A else A.map (·.add (i * 2))) = if c = i then A else A.map (·.add (i * 2)) := by
    by_cases hci : c = i
    · rw [if_pos hci, if_pos (by rw [hci])]
    · rw [if_neg hci, if_neg (by omega)]
  rw [e] at hr
  refine ⟨_, fun u => ?_, ⟨by rw [List.length_drop, h.len], by rw [kvC_drop]; exact hr⟩⟩
  subst hx
  rw [run_slice_l u t A n c ht .i64 i (by omega) (by omega)]
  simp [sizeOf, typeInfo, hti, hsz, sliced, Result.andThen]
end

set_option maxHeartbeats 400000 in
theorem growk_nil (n : Nat) (w : World) (hn : n ≤ 1000000) :
    Calls Tryd.prog 30 #[.slice none 0 0, .int .i64 n] w fun e w' => ∃ A' c', e = .returned (.slice A' 0 c') ∧ OK 48 w' w.heap.size A' 0 c' [] ∧ Below w.heap.size w w' := by
  obtain ⟨i0, hi, hz0, hz1, hz2⟩ := info_parts kvinfo
  rcases Nat.eq_zero_or_pos n with rfl | hpos
  · go_enter Tryd.func30, Tryd.ntmps30
    go_wp2_with fail
    go_ret
    exact ⟨none, 0, rfl, OK.nil _ _ _, Below.refl _ _⟩
  · have hrz : ∀ ty, (Builtin.append_ #[24, 3] ty #[.slice none 0 0, .int .i64 (n : Int)]).run Tryd.prog w =
        .ok (.slice (some ⟨w.heap.size, 0, none⟩) n (grownCap w n 0 48)) (w.drew.alloc (.cells (([] : List Value).toArray ++ Builtin.zeroCells (Value.agg #[.string ⟨#[]⟩, .string ⟨#[]⟩]).cells n ++ Builtin.zeroCells (Value.agg #[.string ⟨#[]⟩, .string ⟨#[]⟩]).cells (grownCap w n 0 48 - n)) 48)) := fun ty => by
      have h := Lib.run_append_grow_zeros (P := Tryd.prog) w 24 3 ty 48 i0 (.agg #[.string ⟨#[]⟩, .string ⟨#[]⟩]) .i64 .i64 Tryd.underlying24 Tryd.underlying3 hi hz0 none 0 0 [] (run_firstCells_none w.drew i0.size 0 0 0) n hpos (by omega) (by omega) (by omega) (by rw [hz2]; omega)
        (by rw [hz2]; exact growslice_fits (by omega) (by omega))
      simpa using h
    have hG1 := grownCap_ge w n 0 48
    have hG2 := grownCap_le_maxLen w n 0 48 (by unfold maxLen; omega)
    generalize grownCap w n 0 48 = G at *
    have hg3 : G ≤ 9223372036854775807 := by unfold maxLen at hG2; omega
    go_enter Tryd.func30, Tryd.ntmps30
    go_wp2_with (at_builtin; refine Lib.wpList_append_run _ rfl _ _ _ _ rfl _ _ rfl rfl _ _ (hrz _) ?_)
    all_goals
      go_ret
      refine ⟨_, _, rfl, ⟨⟨by simp [kvC], .inr ⟨w.heap.size, G, _, rfl, Nat.le_refl _, heap_alloc_new w.drew _, by omega, hG2, ?_, by simp [kvC]⟩⟩, by omega⟩, (Below.refl _ _).drew.alloc (Nat.le_refl _) _⟩
      simp only [size_zeroCells, List.size_toArray, Array.size_append]
      simp
      omega

/-- a row of pairs as it lies -/
structure PartK where
  A : Option Addr
  l : Nat
  c : Nat
  ts : List Kv
def flatK (ps : List PartK) : List Kv := ps.flatMap (·.ts)
theorem flatK_next (ps : List PartK) (k : Nat) (h : k < ps.length) : flatK (ps.take (k + 1)) = flatK (ps.take k) ++ ps[k].ts := by
  rw [List.take_succ_eq_append_getElem h]
  simp only [flatK, List.flatMap_append, List.flatMap_cons, List.flatMap_nil, List.append_nil]
theorem sizesK_next (ps : List PartK) (k : Nat) (h : k < ps.length) : (flatK (ps.take (k + 1))).length = (flatK (ps.take k)).length + ps[k].ts.length := by
  rw [flatK_next ps k h, List.length_append]
theorem sizesK_le (ps : List PartK) (k : Nat) : (flatK (ps.take k)).length ≤ (flatK ps).length := by
  have h : flatK ps = flatK (ps.take k) ++ flatK (ps.drop k) := by rw [flatK, flatK, flatK, ← List.flatMap_append, List.take_append_drop]
  rw [h, List.length_append]
  omega

set_option maxHeartbeats 800000 in
theorem concatk_any (ad : Addr) (m c : Nat) (ps : List PartK) (w : World) (hm : ps.length = m) (hm6 : m ≤ 1000) (had : ad.block < w.heap.size)
    (hc : ∀ j (h : j < ps.length), w.cell? (ad.add j) = some (.slice ps[j].A ps[j].l ps[j].c)) (hs : ∀ j (h : j < ps.length), KR w ps[j].A ps[j].l ps[j].ts) (htot : (flatK ps).length ≤ 900000) :
    Calls Tryd.prog 20 #[.slice (some ad) m c] w fun e w' => ∃ A' n' c', e = .returned (.slice A' n' c') ∧ OK 48 w' w.heap.size A' n' c' (flatK ps) ∧ Below w.heap.size w w' := by
  obtain ⟨i0, hi, hz0, hz1, hz2⟩ := info_parts kvinfo
  have Hc := Lib.hid hc
  have Hs := Lib.hid hs
  have HM := Lib.hid hm
  clear hc hs hm
  go_enter Tryd.func20, Tryd.ntmps20
  go_wp2_with fail
  go_loop [3, 11] (fun n i => ∃ k z : Nat, k ≤ m ∧ i = .int .i64 k ∧ n = .int .i64 z ∧ Hid ((flatK (ps.take k)).length = z) ∧ z ≤ 900000) (fun _ i => m - (intOf i).toNat)
  case atStart => exact ⟨0, 0, Nat.zero_le _, rfl, rfl, Lib.hid rfl, by omega⟩
  case round =>
    obtain ⟨k, z, hk, rfl, rfl, hz, hz9⟩ := hrel
    by_cases hlt : k < m
    · have hkl : k < ps.length := by rw [HM.out]; exact hlt
      have hcell := Hc.out k hkl
      have hl := (Hs.out k hkl).len
      have hsn := sizesK_next ps k hkl
      rw [hz.out, hl] at hsn
      have hle := sizesK_le ps (k + 1)
      rw [hsn] at hle
      have hle2 : z + ps[k].l ≤ 900000 := by omega
      generalize ps[k].l = lk at *
      generalize ps[k].A = Ak at *
      generalize ps[k].c = ck at *
      have HSN := Lib.hid hsn
      clear hsn hle hl
      go_wp2_with fail
      go_round
      case rel => exact ⟨k + 1, z + lk, by omega, by go_num, by go_num, HSN, hle2⟩
      case measure => simp [intOf]; omega
    · obtain rfl : k = m := by omega
      go_wp2_with fail
      refine (growk_nil z _ (by omega)).mono ?_
      rintro e w1 ⟨A1, c1, rfl, ho1, hb1⟩
      go_wp2_with fail
      go_loopw [6, 27] (fun v i wr => ∃ (q z' : Nat) (A' : Option Addr) (c' : Nat), q ≤ k ∧ i = .int .i64 q ∧ v = .slice A' z' c' ∧ z' ≤ 900000 ∧ OK 48 wr w.heap.size A' z' c' (flatK (ps.take q)) ∧ Below w.heap.size w wr) (fun _ i _ => k - (intOf i).toNat)
      case atStart => exact ⟨0, 0, A1, c1, Nat.zero_le _, rfl, rfl, by omega, ho1, hb1⟩
      case round =>
        obtain ⟨q, z', A2, c2, hq, rfl, rfl, hz9', ho2, hb2⟩ := hrel
        by_cases hlt2 : q < k
        · have hkl : q < ps.length := by rw [HM.out]; exact hlt2
          have hcell := Hc.out q hkl
          rw [← hb2.cell (by rw [add_block]; exact had)] at hcell
          have hsq := (Hs.out q hkl).next hb2
          have hl := (Hs.out q hkl).len
          have hsn := sizesK_next ps q hkl
          rw [ho2.len, hl] at hsn
          have hle := sizesK_le ps (q + 1)
          rw [hsn] at hle
          have hle2 : z' + ps[q].l ≤ 900000 := by omega
          have HF := Lib.hid (flatK_next ps q hkl)
          have hsz := hb2.size
          generalize ps[q].l = lk at *
          generalize ps[q].A = Ak at *
          generalize ps[q].c = ck at *
          generalize ps[q].ts = bk at *
          have HSN := Lib.hid hsn
          clear hsn hle hl
          go_wp2_with (at_builtin; refine wpList_append_rds rfl _ _ _ rfl w.heap.size 48 i0 _ 2 32 Tryd.underlying24 hi hz0 hz1 hz2 rfl (by decide) _ z' _ rfl ho2.own wr.heap.size _ _ _ (kvC bk) rfl (by rw [kvC_length, hsq.len]) hsq.rd (kvC_one _) (by unfold maxLen; omega) (by omega) hsz ?_; intro v3 w3 hown3 hg3; rw [← kvC_append] at hown3; obtain ⟨A3, c3, rfl, hcap3, _⟩ := own_form_s hown3)
          go_roundw
          case rel => exact ⟨q + 1, z' + lk, A3, c3, by omega, by go_num, rfl, hle2, ⟨by rw [HF.out]; exact hown3, hcap3⟩, hb2.trans (below_own_s ho2.own hg3 hsz)⟩
          case measure => simp [intOf]; omega
        · obtain rfl : q = k := by omega
          go_wp2_with fail
          go_ret
          refine ⟨A2, z', c2, rfl, ?_, hb2⟩
          rw [← List.take_of_length_le (l := ps) (by rw [HM.out]; exact Nat.le_refl _)]
          exact ho2

/-- Concat of a new row of rows -/
theorem concatk_new (w : World) (ps : List PartK) (m : Nat) (hm : ps.length = m) (hm6 : m ≤ 1000) (hs : ∀ p ∈ ps, KR w p.A p.l p.ts) (htot : (flatK ps).length ≤ 900000) :
    Calls Tryd.prog 20 #[.slice (some ⟨w.heap.size, 0, none⟩) m m] (w.alloc (.cells (ps.map fun p => Value.slice p.A p.l p.c).toArray 24)) fun e w' => ∃ A' n' c', e = .returned (.slice A' n' c') ∧ OK 48 w' w.heap.size A' n' c' (flatK ps) ∧ Below w.heap.size w w' := by
  refine (concatk_any ⟨w.heap.size, 0, none⟩ m m ps _ hm hm6 (by simp) (fun j h => ?_) (fun j h => (hs _ (List.getElem_mem h)).next (kp_new _ _)) htot).mono fun e w' ⟨A', n', c', he, ho, hb⟩ => ⟨A', n', c', he, ho.base_ (by simp), kp_trans (kp_new _ _) hb⟩
  rcases Rd.new w 24 (ps.map fun p => Value.slice p.A p.l p.c) with h0 | ⟨ad, e, _, hc⟩
  · have := congrArg List.length h0
    simp at this
    subst this
    simp at h
  · injection e with e
    subst e
    exact hc j _ (by simp [h])

set_option maxHeartbeats 800000 in
theorem clonek_ok (A : Option Addr) (n c : Nat) (ts : List Kv) (w : World) (h : KR w A n ts) (hn : n ≤ 1000000) :
    Calls Tryd.prog 21 #[.slice A n c] w fun e w' => ∃ A' n' c', e = .returned (.slice A' n' c') ∧ OK 48 w' w.heap.size A' n' c' ts ∧ Below w.heap.size w w' := by
  obtain ⟨i0, hi, hz0, hz1, hz2⟩ := info_parts kvinfo
  have hq := fun u => Lib.run_eql_slice_nil (P := Tryd.prog) u 24 48 A n c 0 0 Tryd.underlying24
  cases A with
  | none =>
    obtain rfl : ts = [] := by
      rcases h.rd with h0 | ⟨_, h0, _⟩
      · have := kvC_length ts
        rw [h0] at this
        exact List.eq_nil_of_length_eq_zero (by simp at this; omega)
      · cases h0
    go_enter Tryd.func21, Tryd.ntmps21
    go_wp2_with fail
    go_ret
    exact ⟨none, 0, 0, rfl, OK.nil _ _ _, Below.refl _ _⟩
  | some ad =>
    have ho := own_new_s w w.heap.size 2 48 0 [] rfl (Nat.le_refl _) (Nat.zero_le _)
    have hk := kp_new w (.cells #[] 48)
    have hr := h.next hk
    generalize hw : w.alloc (.cells #[] 48) = w1 at *
    have HW := Lib.hid hw
    have ho' : w1.ownsRow w.heap.size 48 2 (.slice (some ⟨w.heap.size, 0, none⟩) 0 0) 0 [] := ho
    clear hw
    have hb1 := hk.size
    go_enter Tryd.func21, Tryd.ntmps21
    go_wp2_with (at_builtin; rw [HW.out]; refine wpList_append_rds rfl _ _ _ rfl w.heap.size 48 i0 _ 2 32 Tryd.underlying24 hi hz0 hz1 hz2 rfl (by decide) _ 0 _ rfl ho' w1.heap.size _ _ _ (kvC ts) rfl (by rw [kvC_length, hr.len]) hr.rd (kvC_one _) (by unfold maxLen; omega) (by omega) hb1 ?_; intro v3 w3 hown3 hg3; obtain ⟨A3, c3, rfl, hcap3, _⟩ := own_form_s hown3)
    go_ret
    exact ⟨A3, _, c3, rfl, ⟨by simpa using hown3, by omega⟩, hk.trans (below_own_s ho' hg3 hb1)⟩
end

/- What is written to a table, by the call Writes of package plan: contract. -/
section
open Go.RowKit
set_option maxRecDepth 100000

def planV (d : Int) (k v : ByteArray) : Value := .agg #[.int .i64 d, .string k, .string v]
/-- a block of three cells -/
theorem cells3 {w : World} {b : Nat} {x y z : Value} {t : TypeId} (h : w.heap[b]? = some (.cells #[x, y, z] t (0, 0))) : w.cell? ⟨b, 0, none⟩ = some x ∧ w.cell? ⟨b, 1, none⟩ = some y ∧ w.cell? ⟨b, 2, none⟩ = some z := by
  refine ⟨?_, ?_, ?_⟩
  · rw [cell_of_row _ _ 0 #[x, y, z] t (0, 0) h]; rfl
  · rw [cell_of_row _ _ 1 #[x, y, z] t (0, 0) h]; rfl
  · rw [cell_of_row _ _ 2 #[x, y, z] t (0, 0) h]; rfl
theorem box3 {w u : World} {x y z : Value} {t : TypeId} (k : Below (w.alloc (.cells #[x, y, z] t)).heap.size (w.alloc (.cells #[x, y, z] t)) u) : u.cell? ⟨w.heap.size, 0, none⟩ = some x ∧ u.cell? ⟨w.heap.size, 1, none⟩ = some y ∧ u.cell? ⟨w.heap.size, 2, none⟩ = some z :=
  cells3 ((k.block _ (by simp)).trans (heap_alloc_new w _))

theorem concat3 (w : World) (A0 A1 : Option Addr) (l0 c0 l1 c1 : Nat) (xs ys : List Kv) (k v : ByteArray) (hx : KR w A0 l0 xs) (hy : KR w A1 l1 ys) (hn : l0 + l1 ≤ 800000) :
    Calls Tryd.prog 20 #[.slice (some ⟨w.heap.size + 1, 0, none⟩) 3 3] ((w.alloc (.cells #[.string k, .string v] 48)).alloc (.cells #[.slice A0 l0 c0, .slice (some ⟨w.heap.size, 0, none⟩) 1 1, .slice A1 l1 c1] 24))
      fun e w' => ∃ A' n' c', e = .returned (.slice A' n' c') ∧ OK 48 w' w.heap.size A' n' c' (xs ++ ⟨k, v⟩ :: ys) ∧ Below w.heap.size w w' := by
  have k1 := kp_new w (.cells #[.string k, .string v] 48)
  have hm : KR (w.alloc (.cells #[.string k, .string v] 48)) (some ⟨w.heap.size, 0, none⟩) 1 [⟨k, v⟩] := ⟨rfl, (Rd.new w 48 (kvC [⟨k, v⟩])).more (by simp)⟩
  have := concatk_new (w.alloc (.cells #[.string k, .string v] 48)) [⟨A0, l0, c0, xs⟩, ⟨some ⟨w.heap.size, 0, none⟩, 1, 1, [⟨k, v⟩]⟩, ⟨A1, l1, c1, ys⟩] 3 rfl (by decide) (fun p hp => by
    simp only [List.mem_cons, List.not_mem_nil, or_false] at hp
    rcases hp with rfl | rfl | rfl
    · exact hx.next k1
    · exact hm
    · exact hy.next k1) (by
    have h1 := hx.len
    have h2 := hy.len
    simp only [flatK, List.flatMap_cons, List.flatMap_nil, List.length_append, List.length_cons, List.length_nil]
    omega)
  rw [show (w.alloc (.cells #[.string k, .string v] 48)).heap.size = w.heap.size + 1 from by simp] at this
  refine this.mono fun e w' ⟨A', n', c', he, ho, hb⟩ => ⟨A', n', c', he, ?_, k1.trans (hb.mono (by omega))⟩
  have e : flatK [⟨A0, l0, c0, xs⟩, ⟨some ⟨w.heap.size, 0, none⟩, 1, 1, [⟨k, v⟩]⟩, ⟨A1, l1, c1, ys⟩] = xs ++ ⟨k, v⟩ :: ys := by simp [flatK]
  rw [← e]
  exact ho.base_ (by omega)
theorem concat2 (w : World) (A0 A1 : Option Addr) (l0 c0 l1 c1 : Nat) (xs ys : List Kv) (hx : KR w A0 l0 xs) (hy : KR w A1 l1 ys) (hn : l0 + l1 ≤ 800000) :
    Calls Tryd.prog 20 #[.slice (some ⟨w.heap.size, 0, none⟩) 2 2] (w.alloc (.cells #[.slice A0 l0 c0, .slice A1 l1 c1] 24))
      fun e w' => ∃ A' n' c', e = .returned (.slice A' n' c') ∧ OK 48 w' w.heap.size A' n' c' (xs ++ ys) ∧ Below w.heap.size w w' := by
  have := concatk_new w [⟨A0, l0, c0, xs⟩, ⟨A1, l1, c1, ys⟩] 2 rfl (by decide) (fun p hp => by
    simp only [List.mem_cons, List.not_mem_nil, or_false] at hp
    rcases hp with rfl | rfl
    · exact hx
    · exact hy) (by
    have h1 := hx.len
    have h2 := hy.len
    simp only [flatK, List.flatMap_cons, List.flatMap_nil, List.length_append, List.length_nil]
    omega)
  have e : flatK [⟨A0, l0, c0, xs⟩, ⟨A1, l1, c1, ys⟩] = xs ++ ys := by simp [flatK]
  rw [e] at this
  exact this

/-- what the answer of Writes is like -/
def WrTo (d : Int) (k v : ByteArray) (ts : List Kv) (w : World) (e : Ending) (w' : World) : Prop :=
  ∃ A' n' c', e = .returned (.tuple #[.slice A' n' c', .int .i64 (writesF d k v ts).2]) ∧ OK 48 w' w.heap.size A' n' c' (writesF d k v ts).1 ∧ Below w.heap.size w w'

set_option maxHeartbeats 4000000 in
theorem writes_ok (d : Int) (k v : ByteArray) (A : Option Addr) (n c : Nat) (ts : List Kv) (w : World) (h : KR w A n ts) (hc : n ≤ c) (hs : Srt ts) (hn : n ≤ 700000) :
    Calls Tryd.prog 8 #[.agg #[.int .i64 d, .string k, .string v], .slice A n c] w (WrTo d k v ts w) := by
  have kw := kp_new w (.cells #[.int .i64 d, .string k, .string v] 23)
  have HP := Lib.hid (place_ok A n c ts k _ (h.next kw) hs (by omega))
  have hle := posF_le k ts
  have hlt := fun h => (there_lt (k := k) (l := ts) h).1
  have hW : writesF d k v ts = if d = 3 ∨ (d = 4 ∧ thereF k ts = true) then (ts.take (posF k ts) ++ ⟨k, v⟩ :: restF k ts, 1) else if d = 5 ∧ thereF k ts = true then (ts.take (posF k ts) ++ restF k ts, 1) else (ts, 0) := rfl
  have hR : restF k ts = if thereF k ts then ts.drop (posF k ts + 1) else ts.drop (posF k ts) := rfl
  rw [hR] at hW
  clear hR
  have hlen := h.len
  unfold WrTo
  generalize posF k ts = p at *
  generalize thereF k ts = b at *
  generalize writesF d k v ts = W at *
  obtain ⟨A0, s0, r0⟩ := h.cut0 hc Tryd.prog 24 Tryd.underlying24 kvsize (j := p) (p : Int) rfl (by omega)
  obtain ⟨A1, s1, r1⟩ := h.cut1 hc Tryd.prog 24 Tryd.underlying24 kvsize (i := p) (p : Int) rfl (by omega)
  have HW := Lib.hid hW
  have HK := Lib.hid h
  have HR0 := Lib.hid r0
  have HR1 := Lib.hid r1
  have HLN := Lib.hid hlen
  have hpn0 : p ≤ n := by omega
  clear hW hs h r0 r1 hlen hle
  cases b with
  | true =>
    have hpn : p < n := by have := hlt rfl; rw [HLN.out] at this; exact this
    obtain ⟨A2, s2, r2⟩ := HK.out.cut1 hc Tryd.prog 24 Tryd.underlying24 kvsize (i := p + 1) ((p : Int) + 1) (by omega) (by omega)
    have HR2 := Lib.hid r2
    clear r2 hlt
    by_cases h34 : d = 3 ∨ d = 4
    · have hW : W = (ts.take p ++ ⟨k, v⟩ :: ts.drop (p + 1), 1) := by
        rw [HW.out, if_pos (by rcases h34 with h | h <;> simp [h]), if_pos rfl]
      subst hW
      clear HW
      rcases h34 with rfl | rfl
      all_goals
        go_enter Tryd.func8, Tryd.ntmps8
        go_wp2_with fail
        refine HP.out.mono ?_
        rintro e w1 ⟨rfl, k1⟩
        obtain ⟨c0, c1, c2⟩ := box3 k1
        have K1 := kp_trans kw k1
        clear HP
        go_wp2_with fail
        go_quiet (fail)
        have kq : Below w1.heap.size w1 (w1.drewN nq) := kp_drewN w1 nq
        have K2 := K1.trans (kq.mono K1.size)
        generalize w1.drewN nq = w2 at *
        replace c0 := (kq.cell (World.block_lt_of_cell? _ _ c0)).trans c0
        replace c1 := (kq.cell (World.block_lt_of_cell? _ _ c1)).trans c1
        replace c2 := (kq.cell (World.block_lt_of_cell? _ _ c2)).trans c2
        clear k1 kq
        go_wp2_with fail
        refine (concat3 w2 A0 A2 p c (n - (p + 1)) (c - (p + 1)) _ _ k v (HR0.out.next K2) (HR2.out.next K2) (by omega)).mono ?_
        rintro e w3 ⟨A3, n3, c3, rfl, ho, k3⟩
        go_wp2_with fail
        go_ret2
        exact ⟨A3, n3, c3, rfl, ho.base_ K2.size, kp_trans K2 k3⟩
    · have n3 : (d == 3) = false := by simp only [beq_eq_false_iff_ne, ne_eq]; omega
      have n4 : (d == 4) = false := by simp only [beq_eq_false_iff_ne, ne_eq]; omega
      by_cases h5 : d = 5
      · subst h5
        have hW : W = (ts.take p ++ ts.drop (p + 1), 1) := by
          rw [HW.out, if_neg (by omega), if_pos (by simp), if_pos rfl]
        subst hW
        clear HW h34
        go_enter Tryd.func8, Tryd.ntmps8
        go_wp2_with fail
        refine HP.out.mono ?_
        rintro e w1 ⟨rfl, k1⟩
        obtain ⟨c0, c1, c2⟩ := box3 k1
        have K1 := kp_trans kw k1
        clear HP
        go_wp2_with fail
        go_quiet (fail)
        have kq : Below w1.heap.size w1 (w1.drewN nq) := kp_drewN w1 nq
        have K2 := K1.trans (kq.mono K1.size)
        generalize w1.drewN nq = w2 at *
        replace c0 := (kq.cell (World.block_lt_of_cell? _ _ c0)).trans c0
        replace c1 := (kq.cell (World.block_lt_of_cell? _ _ c1)).trans c1
        replace c2 := (kq.cell (World.block_lt_of_cell? _ _ c2)).trans c2
        clear k1 kq
        go_wp2_with fail
        refine (concat2 w2 A0 A2 p c (n - (p + 1)) (c - (p + 1)) _ _ (HR0.out.next K2) (HR2.out.next K2) (by omega)).mono ?_
        rintro e w3 ⟨A3, n3, c3, rfl, ho, k3⟩
        go_wp2_with fail
        go_ret2
        exact ⟨A3, n3, c3, rfl, ho.base_ K2.size, kp_trans K2 k3⟩
      · have n5 : (d == 5) = false := by simp only [beq_eq_false_iff_ne, ne_eq]; omega
        have hW : W = (ts, 0) := by
          rw [HW.out, if_neg (by omega), if_neg (by omega)]
        subst hW
        clear HW h34 h5
        go_enter Tryd.func8, Tryd.ntmps8
        go_wp2_with fail
        refine HP.out.mono ?_
        rintro e w1 ⟨rfl, k1⟩
        obtain ⟨c0, c1, c2⟩ := box3 k1
        have K1 := kp_trans kw k1
        clear HP
        go_wp2_with fail
        go_quiet (fail)
        have kq : Below w1.heap.size w1 (w1.drewN nq) := kp_drewN w1 nq
        have K2 := K1.trans (kq.mono K1.size)
        generalize w1.drewN nq = w2 at *
        replace c0 := (kq.cell (World.block_lt_of_cell? _ _ c0)).trans c0
        replace c1 := (kq.cell (World.block_lt_of_cell? _ _ c1)).trans c1
        replace c2 := (kq.cell (World.block_lt_of_cell? _ _ c2)).trans c2
        clear k1 kq
        go_wp2_with fail
        refine (clonek_ok A n c ts w2 (HK.out.next K2) (by omega)).mono ?_
        rintro e w3 ⟨A3, n3, c3, rfl, ho, k3⟩
        go_wp2_with fail
        go_ret2
        exact ⟨A3, n3, c3, rfl, ho.base_ K2.size, kp_trans K2 k3⟩
  | false =>
    clear hlt
    by_cases h3 : d = 3
    · subst h3
      have hW : W = (ts.take p ++ ⟨k, v⟩ :: ts.drop p, 1) := by
        rw [HW.out, if_pos (by simp), if_neg (by simp)]
      subst hW
      clear HW
      go_enter Tryd.func8, Tryd.ntmps8
      go_wp2_with fail
      refine HP.out.mono ?_
      rintro e w1 ⟨rfl, k1⟩
      obtain ⟨c0, c1, c2⟩ := box3 k1
      have K1 := kp_trans kw k1
      clear HP
      go_wp2_with fail
      go_quiet (fail)
      have kq : Below w1.heap.size w1 (w1.drewN nq) := kp_drewN w1 nq
      have K2 := K1.trans (kq.mono K1.size)
      generalize w1.drewN nq = w2 at *
      replace c0 := (kq.cell (World.block_lt_of_cell? _ _ c0)).trans c0
      replace c1 := (kq.cell (World.block_lt_of_cell? _ _ c1)).trans c1
      replace c2 := (kq.cell (World.block_lt_of_cell? _ _ c2)).trans c2
      clear k1 kq
      go_wp2_with fail
      refine (concat3 w2 A0 A1 p c (n - p) (c - p) _ _ k v (HR0.out.next K2) (HR1.out.next K2) (by omega)).mono ?_
      rintro e w3 ⟨A3, n3, c3, rfl, ho, k3⟩
      go_wp2_with fail
      go_ret2
      exact ⟨A3, n3, c3, rfl, ho.base_ K2.size, kp_trans K2 k3⟩
    · have hW : W = (ts, 0) := by
        rw [HW.out, if_neg (by simp [h3]), if_neg (by simp)]
      subst hW
      clear HW
      have n3 : (d == 3) = false := by simpa using h3
      generalize h4 : (d == 4) = b4
      generalize h5 : (d == 5) = b5
      clear h3
      cases b4
      all_goals
        cases b5
      all_goals
        go_enter Tryd.func8, Tryd.ntmps8
        go_wp2_with fail
        refine HP.out.mono ?_
        rintro e w1 ⟨rfl, k1⟩
        obtain ⟨c0, c1, c2⟩ := box3 k1
        have K1 := kp_trans kw k1
        clear HP
        go_wp2_with fail
        go_quiet (fail)
        have kq : Below w1.heap.size w1 (w1.drewN nq) := kp_drewN w1 nq
        have K2 := K1.trans (kq.mono K1.size)
        generalize w1.drewN nq = w2 at *
        replace c0 := (kq.cell (World.block_lt_of_cell? _ _ c0)).trans c0
        replace c1 := (kq.cell (World.block_lt_of_cell? _ _ c1)).trans c1
        replace c2 := (kq.cell (World.block_lt_of_cell? _ _ c2)).trans c2
        clear k1 kq
        go_wp2_with fail
        refine (clonek_ok A n c ts w2 (HK.out.next K2) (by omega)).mono ?_
        rintro e w3 ⟨A3, n3, c3, rfl, ho, k3⟩
        go_wp2_with fail
        go_ret2
        exact ⟨A3, n3, c3, rfl, ho.base_ K2.size, kp_trans K2 k3⟩
end

/- What is read of a table, by the call Reads of package plan: contract. Rows of texts. -/
section
open Go.RowKit
set_option maxRecDepth 100000

def tvs (l : List ByteArray) : List Value := l.map .string
theorem tvs_length (l : List ByteArray) : (tvs l).length = l.length := by simp [tvs]
theorem tvs_append (a b : List ByteArray) : tvs (a ++ b) = tvs a ++ tvs b := by simp [tvs]
theorem tvs_one (l : List ByteArray) : ∀ u ∈ tvs l, u.oneCell' = true := by
  intro u hu
  obtain ⟨b, _, rfl⟩ := List.mem_map.1 hu
  rfl
theorem strinfo6 : (Tryd.prog.info? 9).map (fun i => (i.zero, i.size, i.bytes)) = some (some (.string ⟨#[]⟩), 1, 16) := by kernel_rfl
/-- a row of texts that is read -/
structure XR (w : World) (A : Option Addr) (n : Nat) (ss : List ByteArray) : Prop where
  len : ss.length = n
  rd : Rd w w.heap.size A (tvs ss)
theorem XR.next {w w' : World} {A : Option Addr} {n : Nat} {ss : List ByteArray} (h : XR w A n ss) (hb : Below w.heap.size w w') : XR w' A n ss := ⟨h.len, (h.rd.below hb (Nat.le_refl _)).more hb.size⟩
theorem XR.nil (w : World) : XR w none 0 [] := ⟨rfl, .inl rfl⟩
theorem XR.at_ {w : World} {A : Option Addr} {n : Nat} {ss : List ByteArray} (h : XR w A n ss) {j : Nat} (hj : j < ss.length) : ∃ ad, A = some ad ∧ ad.block < w.heap.size ∧ w.cell? (ad.add j) = some (.string ss[j]) := by
  obtain ⟨ad, hA, hb, hc⟩ := h.rd.at_ (k := j) (by rw [tvs_length]; exact hj)
  exact ⟨ad, hA, hb, by simpa [tvs] using hc⟩
theorem XR.new (w : World) (t : TypeId) (ss : List ByteArray) : XR (w.alloc (.cells (tvs ss).toArray t)) (some ⟨w.heap.size, 0, none⟩) ss.length ss := ⟨rfl, (Rd.new w t (tvs ss)).more (by simp)⟩
theorem XR.of_own {w : World} {base n c : Nat} {e : TypeId} {A : Option Addr} {ss : List ByteArray} (h : w.ownsRow base e 1 (.slice A n c) n (tvs ss)) : XR w A n ss := ⟨by have := h.1; rw [tvs_length] at this; omega, Rd.of_own h⟩

theorem firsts_next (l : List Kv) (k : Nat) (h : k < l.length) : ((l.take (k + 1)).flatMap fun p => [p.k, p.v]) = ((l.take k).flatMap fun p => [p.k, p.v]) ++ [l[k].k, l[k].v] := by
  rw [List.take_succ_eq_append_getElem h, List.flatMap_append]
  rfl
theorem firsts_len : ∀ l : List Kv, (l.flatMap fun p => [p.k, p.v]).length = 2 * l.length
  | [] => rfl
  | a :: r => by
    have := firsts_len r
    simp only [List.flatMap_cons, List.length_append, List.length_cons, List.length_nil]
    omega

set_option maxHeartbeats 2000000 in
theorem first6_ok (A : Option Addr) (n c : Nat) (ts : List Kv) (w : World) (h : KR w A n ts) (hc : n ≤ c) (hn : n ≤ 700000) :
    Calls Tryd.prog 22 #[.slice A n c, .int .i64 10] w fun e w' => ∃ A' n' c', e = .returned (.slice A' n' c') ∧ XR w' A' n' (firstsF ts) ∧ Below w.heap.size w w' := by
  obtain ⟨i0, hi, hz0, hz1, hz2⟩ := info_parts strinfo6
  obtain ⟨m, hm, hm10, hmn⟩ : ∃ m : Nat, ts.take m = ts.take 10 ∧ m ≤ 10 ∧ m ≤ n ∧ (m : Int) = (if (10 : Int) < (n : Int) then 10 else (n : Int)) := by
    by_cases h10 : 10 < n
    · exact ⟨10, rfl, Nat.le_refl _, by omega, by rw [if_pos (by omega)]; rfl⟩
    · exact ⟨n, by rw [List.take_of_length_le (by rw [h.len]; exact Nat.le_refl _), List.take_of_length_le (by rw [h.len]; omega)], by omega, Nat.le_refl _, by rw [if_neg (by omega)]⟩
  obtain ⟨hmn, hme⟩ := hmn
  have hrun : ∀ (u : World) (ts : Array TypeId) (ty : TypeId), (Builtin.min_ ts ty #[.int .i64 (n : Int), .int .i64 10]).run Tryd.prog u = .ok (.int .i64 (m : Int)) u := fun u ts ty => by
    rw [run_min_int2 (P := Tryd.prog) (w := u) ts ty .i64 .i64 (n : Int) 10, ← hme]
  have hF : firstsF ts = (ts.take m).flatMap fun p => [p.k, p.v] := by rw [hm]; rfl
  rw [hF]
  obtain ⟨A0, s0, r0⟩ := h.cut0 hc Tryd.prog 24 Tryd.underlying24 kvsize (j := m) (m : Int) rfl hmn
  clear hm hme h hF hmn
  generalize ts.take m = us at *
  have HR := Lib.hid r0
  have HL := Lib.hid r0.len
  clear r0
  go_enter Tryd.func22, Tryd.ntmps22
  go_wp2_with fail
  go_loopw [5, 15] (fun v i wr => ∃ (k z : Nat) (A' : Option Addr) (c' : Nat), k ≤ m ∧ Hid (z = 2 * k) ∧ i = .int .i64 k ∧ v = .slice A' z c' ∧ wr.ownsRow w.heap.size 9 1 (.slice A' z c') z (tvs ((us.take k).flatMap fun p => [p.k, p.v])) ∧ Below w.heap.size w wr) (fun _ i _ => m - (intOf i).toNat)
  case atStart => exact ⟨0, 0, none, 0, Nat.zero_le _, Lib.hid rfl, rfl, rfl, World.ownsRow_nil _ _ _ _, Below.refl _ _⟩
  case round =>
    obtain ⟨k, z, A1, c1, hk, hz, rfl, rfl, ho, k0⟩ := hrel
    have hsz := k0.size
    by_cases hlt : k < m
    · have hkl : k < us.length := by rw [HL.out]; exact hlt
      obtain ⟨ad, rfl, had, hcc⟩ := HR.out.at_ hkl
      obtain ⟨x0, x1⟩ := hcc _ k0
      have HN := Lib.hid (firsts_next us k hkl)
      clear hcc
      generalize us[k].k = x at *
      generalize us[k].v = y at *
      have ho' : ((wr.alloc (.cells #[.string x, .string y] 48)).alloc (.cells #[.string x, .string y] 9)).ownsRow w.heap.size 9 1 (.slice A1 z c1) z (tvs ((us.take k).flatMap fun p => [p.k, p.v])) := (ho.alloc _).alloc _
      have HSRC : Hid (∀ B, Rd ((wr.alloc (.cells #[.string x, .string y] 48)).alloc (.cells #[.string x, .string y] 9)) (wr.heap.size + 1 + 1 + B) (some ⟨wr.heap.size + 1, 0, none⟩) [.string x, .string y]) := Lib.hid (fun B => by
        have := Rd.new (wr.alloc (.cells #[.string x, .string y] 48)) 9 [.string x, .string y]
        rw [show (wr.alloc (.cells #[.string x, .string y] 48)).heap.size = wr.heap.size + 1 from by simp] at this
        exact this.more (by omega))
      have kk : Below w.heap.size w ((wr.alloc (.cells #[.string x, .string y] 48)).alloc (.cells #[.string x, .string y] 9)) := kp_alloc (kp_alloc k0 _) _
      have hz20 : z ≤ 20 := by rw [hz.out]; omega
      have HO := Lib.hid ho'
      clear ho ho'
      go_wp2_with (at_builtin; refine wpList_append_rd rfl _ _ _ rfl w.heap.size 9 i0 _ 16 Tryd.underlying35 hi hz0 hz1 hz2 rfl _ z _ rfl HO.out _ _ _ _ [.string x, .string y] rfl rfl (HSRC.out 0) (by simp [Value.oneCell']) (by unfold maxLen; omega) (by omega) (by simp; omega) ?_; intro v3 w3 hown3 hg3; obtain ⟨A3, c3, rfl, _, _⟩ := own_form hown3)
      go_roundw
      case rel =>
        refine ⟨k + 1, z + 2, A3, c3, by omega, Lib.hid (by rw [hz.out]; omega), by go_num, rfl, ?_, kk.trans (below_own HO.out hg3 (by simp; omega))⟩
        rw [HN.out, tvs_append]
        exact hown3
      case measure => simp [intOf]; omega
    · obtain rfl : k = m := by omega
      rw [List.take_of_length_le (by rw [HL.out]; exact Nat.le_refl _)] at ho
      go_wp2_with fail
      go_ret
      exact ⟨A1, z, c1, rfl, XR.of_own ho, k0⟩

set_option maxHeartbeats 2000000 in
theorem reads_ok (d : Int) (k v : ByteArray) (A : Option Addr) (n c : Nat) (ts : List Kv) (w : World) (h : KR w A n ts) (hc : n ≤ c) (hs : Srt ts) (hn : n ≤ 700000) :
    Calls Tryd.prog 12 #[.agg #[.int .i64 d, .string k, .string v], .slice A n c] w fun e w' => ∃ A' n' c', e = .returned (.slice A' n' c') ∧ XR w' A' n' (readsF d k ts) ∧ Below w.heap.size w w' := by
  have kw := kp_new w (.cells #[.int .i64 d, .string k, .string v] 23)
  have HK := Lib.hid h
  have hR : readsF d k ts = if d = 1 then (if thereF k ts then [(ts.getD (posF k ts) default).v] else []) else if d = 2 then firstsF ts else [] := rfl
  by_cases h1 : d = 1
  · subst h1
    rw [if_pos rfl] at hR
    have HP := Lib.hid (place_ok A n c ts k _ (h.next kw) hs (by omega))
    have hlt := fun h => (there_lt (k := k) (l := ts) h).1
    generalize posF k ts = p at *
    generalize thereF k ts = b at *
    rw [hR]
    clear hR
    cases b with
    | true =>
      have hpl := hlt rfl
      obtain ⟨ad, rfl, had, hcc⟩ := h.at_ hpl
      have hpn : (p : Int) < (n : Int) := by have := h.len; omega
      rw [if_pos rfl, show ts.getD p default = ts[p] from by rw [List.getD_eq_getElem?_getD, List.getElem?_eq_getElem hpl]; rfl]
      have HC := Lib.hid hcc
      clear hcc h hs hlt
      generalize ts[p].k = x at *
      generalize ts[p].v = y at *
      go_enter Tryd.func12, Tryd.ntmps12
      go_wp2_with fail
      refine HP.out.mono ?_
      rintro e w1 ⟨rfl, k1⟩
      have K1 := kp_trans kw k1
      obtain ⟨_, c1⟩ := HC.out _ K1
      clear HP k1
      go_wp2_with fail
      go_ret
      exact ⟨_, 1, 1, rfl, XR.new w1 9 [y], kp_alloc K1 _⟩
    | false =>
      rw [if_neg (by simp)]
      clear hlt
      go_enter Tryd.func12, Tryd.ntmps12
      go_wp2_with fail
      refine HP.out.mono ?_
      rintro e w1 ⟨rfl, k1⟩
      have K1 := kp_trans kw k1
      clear HP k1
      go_wp2_with fail
      go_ret
      exact ⟨none, 0, 0, rfl, XR.nil _, K1⟩
  · rw [if_neg h1] at hR
    have n1 : (d == 1) = false := by simpa using h1
    by_cases h2 : d = 2
    · subst h2
      rw [hR, if_pos rfl]
      clear hR h1 n1
      go_enter Tryd.func12, Tryd.ntmps12
      go_wp2_with fail
      refine (first6_ok A n c ts _ (HK.out.next kw) hc hn).mono ?_
      rintro e w1 ⟨A1, n1, c1, rfl, hx, k1⟩
      go_wp2_with fail
      go_ret
      exact ⟨A1, n1, c1, rfl, hx, kp_trans kw k1⟩
    · rw [hR, if_neg h2]
      have n2 : (d == 2) = false := by simpa using h2
      clear hR h1 h2
      go_enter Tryd.func12, Tryd.ntmps12
      go_wp2_with fail
      go_ret
      exact ⟨none, 0, 0, rfl, XR.nil _, kw⟩
end

/- What is written of tokens whose Strings are emptied, and the texts of these, by the call shaped of package plan: contract. -/
section
open Go.RowKit
set_option maxRecDepth 100000

def bts (ss : List ByteArray) : List (List UInt8) := ss.map fun x => x.data.toList
theorem bts_append (a b : List ByteArray) : bts (a ++ b) = bts a ++ bts b := by simp [bts]
theorem bts_inj : ∀ {a b : List ByteArray}, bts a = bts b → a = b
  | [], [], _ => rfl
  | [], _ :: _, h => by simp [bts] at h
  | _ :: _, [], h => by simp [bts] at h
  | x :: a, y :: b, h => by
    simp only [bts, List.map_cons, List.cons.injEq] at h
    rw [text_ext h.1, bts_inj (a := a) (b := b) h.2]
theorem says_next (us : List Tk) (k : Nat) (h : k < us.length) : saysT (us.take (k + 1)) = saysT (us.take k) ++ [us[k].says] := by
  rw [List.take_succ_eq_append_getElem h, saysT_append]
  rfl
/-- the tokens that stay, their Strings emptied -/
def stayF (l : List Tok) : List Tok := (keptF l).map emptyF
theorem stay_hint (l : List Tok) (t : List UInt8) : stayF (l ++ [(5, t)]) = stayF l := by simp [stayF, keptF, isHintF]
theorem stay_str (l : List Tok) (t : List UInt8) : stayF (l ++ [(3, t)]) = stayF l ++ [(3, [])] := by simp [stayF, keptF, isHintF, emptyF]
theorem stay_other (l : List Tok) (k : Int) (t : List UInt8) (h5 : k ≠ 5) (h3 : k ≠ 3) : stayF (l ++ [(k, t)]) = stayF l ++ [(k, t)] := by simp [stayF, keptF, isHintF, emptyF, h5, h3]
theorem strs_hint (l : List Tok) (t : List UInt8) : strsF (keptF (l ++ [(5, t)])) = strsF (keptF l) := by simp [strsF, keptF, isHintF]
theorem strs_str (l : List Tok) (t : List UInt8) : strsF (keptF (l ++ [(3, t)])) = strsF (keptF l) ++ [t] := by simp [strsF, keptF, isHintF, isStrF]
theorem strs_other (l : List Tok) (k : Int) (t : List UInt8) (h5 : k ≠ 5) (h3 : k ≠ 3) : strsF (keptF (l ++ [(k, t)])) = strsF (keptF l) := by simp [strsF, keptF, isHintF, isStrF, h5, h3]

theorem own_ne_type {w : World} {base n size : Nat} {e t : TypeId} {v : Value} {xs : List Value} (h : w.ownsRow base e size v n xs) {b : Nat} {cs : Array Value} {fz : Nat × Nat} (hb : w.heap[b]? = some (.cells cs t fz)) (ht : t ≠ e) : v.ownBlock ≠ some b := by
  rcases h.2 with ⟨rfl, _⟩ | ⟨g, cap, cur, rfl, _, hg, _⟩
  · simp [Value.ownBlock]
  · simp only [Value.ownBlock, ne_eq, Option.some.injEq]
    rintro rfl
    rw [hg] at hb
    simp only [Option.some.injEq, Obj.cells.injEq] at hb
    exact ht hb.2.1.symm

set_option maxHeartbeats 4000000 in
theorem shaped_ok (A : Option Addr) (n c : Nat) (us : List Tk) (w : World) (h : TR w A n us) (hn : n ≤ 400) (hsz : ∀ t ∈ us, t.t.size ≤ 400) (hL : Lw w) :
    Calls Tryd.prog 25 #[.slice A n c] w fun e w' => ∃ (r : ByteArray) (A2 : Option Addr) (n2 c2 : Nat) (ss : List ByteArray), e = .returned (.tuple #[.string r, .slice A2 n2 c2]) ∧ r.data.toList = shapeF (keptF (saysT us)) ∧ XR w' A2 n2 ss ∧ bts ss = strsF (keptF (saysT us)) ∧ Below w.heap.size w w' := by
  obtain ⟨i0, hi, hz0, hz1, hz2⟩ := info_parts strinfo6
  obtain ⟨j0, gi, gz0, gz1, gz2⟩ := info_parts tkinfo
  have HL := Lib.hid h.len
  have HH := Lib.hid h
  have HZ := Lib.hid hsz
  have HLw := Lib.hid hL
  clear h hsz hL
  go_enter Tryd.func25, Tryd.ntmps25
  go_wp2_with fail
  go_loopw [4, 5, 10] (fun v u i wr => ∃ (k z1 z2 : Nat) (A1 A2 : Option Addr) (c1 c2 : Nat) (ks : List Tk) (ss : List ByteArray), k ≤ n ∧ z1 ≤ k ∧ z2 ≤ k ∧ v = .slice A1 z1 c1 ∧ u = .slice A2 z2 c2 ∧ i = .int .i64 k ∧
    Hid (OT 89 wr w.heap.size A1 z1 c1 ks) ∧ Hid (wr.ownsRow w.heap.size 9 1 (.slice A2 z2 c2) z2 (tvs ss)) ∧ Hid (saysT ks = stayF (saysT (us.take k))) ∧ Hid (bts ss = strsF (keptF (saysT (us.take k)))) ∧ Hid (sumT ks ≤ k * 401) ∧ Below w.heap.size w wr) (fun _ _ i _ => n - (intOf i).toNat)
  case atStart => exact ⟨0, 0, 0, none, none, 0, 0, [], [], Nat.zero_le _, Nat.le_refl _, Nat.le_refl _, rfl, rfl, rfl, Lib.hid (OT.nil _ _ _), Lib.hid (World.ownsRow_nil _ _ _ _), Lib.hid rfl, Lib.hid rfl, Lib.hid (Nat.zero_le _), Below.refl _ _⟩
  case round =>
    obtain ⟨k, z1, z2, A1, A2, c1, c2, ks, ss, hk, q1, q2, rfl, rfl, rfl, ho, hx, hs, hb, hm, k0⟩ := hrel
    have hsz0 := k0.size
    by_cases hlt : k < n
    · have hkl : k < us.length := by rw [HL.out]; exact hlt
      obtain ⟨ad, rfl, had, hcc⟩ := HH.out.at_ hkl
      obtain ⟨x0, x1⟩ := hcc _ k0
      have hsn := says_next us k hkl
      have hte : us[k].says = (us[k].k, us[k].t.data.toList) := rfl
      rw [hte] at hsn
      have htz := HZ.out us[k] (List.getElem_mem hkl)
      clear hcc hte
      generalize us[k].k = x at *
      generalize us[k].t = y at *
      have kb : Below w.heap.size w (wr.alloc (.cells #[.int .i64 x, .string y] 89)) := kp_alloc k0 _
      by_cases h5 : x = 5
      · subst h5
        have hs2 : Hid (saysT ks = stayF (saysT (us.take (k + 1)))) := Lib.hid (by rw [hsn, stay_hint]; exact hs.out)
        have hb2 : Hid (bts ss = strsF (keptF (saysT (us.take (k + 1))))) := Lib.hid (by rw [hsn, strs_hint]; exact hb.out)
        have hm2 : Hid (sumT ks ≤ (k + 1) * 401) := Lib.hid (by have := hm.out; omega)
        clear hsn hs hb hm
        go_wp2_with fail
        go_roundw
        case rel => exact ⟨k + 1, z1, z2, A1, A2, c1, c2, ks, ss, by omega, by omega, by omega, rfl, rfl, by go_num, Lib.hid (ho.out.next (kp_new wr _)), Lib.hid (hx.out.alloc _), hs2, hb2, hm2, kb⟩
        case measure => simp [intOf]; omega
      have n5 : (x == 5) = false := by simpa using h5
      by_cases h3 : x = 3
      · subst h3
        have hs2 : Hid (saysT (ks ++ [⟨3, ⟨#[]⟩⟩]) = stayF (saysT (us.take (k + 1)))) := Lib.hid (by rw [hsn, stay_str, saysT_append, hs.out]; rfl)
        have hb2 : Hid (bts (ss ++ [y]) = strsF (keptF (saysT (us.take (k + 1))))) := Lib.hid (by rw [hsn, strs_str, bts_append, hb.out]; rfl)
        have hm2 : Hid (sumT (ks ++ [⟨3, ⟨#[]⟩⟩]) ≤ (k + 1) * 401) := Lib.hid (by
          have := hm.out
          rw [sumT_append, show sumT [(⟨3, ⟨#[]⟩⟩ : Tk)] = 1 from rfl]
          omega)
        have hap : ∀ w', ((wr.alloc (.cells #[.int .i64 3, .string y] 89)).alloc (.cells #[.string y] 9)).grownBy w' (Value.slice A2 z2 c2).ownBlock → OT 89 w' w.heap.size A1 z1 c1 ks := fun w' hg =>
          ⟨own_apart ((ho.out.own.alloc _).alloc _) ((hx.out.alloc _).alloc _) (by decide) hg, ho.out.cap⟩
        have hbx : ((wr.alloc (.cells #[.int .i64 3, .string y] 89)).alloc (.cells #[.string y] 9)).heap[wr.heap.size]? = some (.cells #[.int .i64 3, .string y] 89 (0, 0)) := by
          exact (World.grownBy_alloc _ _ none).block wr.heap.size (by simp) (by simp) |>.trans (heap_alloc_new wr _)
        have hne2 : some wr.heap.size ≠ (Value.slice A2 z2 c2).ownBlock := fun e => by have := (hx.out.lt _ e.symm).2; omega
        have hne1 : (Value.slice A1 z1 c1).ownBlock ≠ some wr.heap.size := fun e => by have := (ho.out.own.lt _ e).2; omega
        have HX2 := Lib.hid ((hx.out.alloc (.cells #[.int .i64 3, .string y] 89)).alloc (.cells #[.string y] 9))
        have HSRC : Hid (Rd ((wr.alloc (.cells #[.int .i64 3, .string y] 89)).alloc (.cells #[.string y] 9)) (wr.heap.size + 1 + 1) (some ⟨wr.heap.size + 1, 0, none⟩) [.string y]) := Lib.hid (by
          have := Rd.new (wr.alloc (.cells #[.int .i64 3, .string y] 89)) 9 [.string y]
          simpa using this)
        have kb2 : Below w.heap.size w ((wr.alloc (.cells #[.int .i64 3, .string y] 89)).alloc (.cells #[.string y] 9)) := kp_alloc kb _
        have HAP := Lib.hid hap
        have HBX := Lib.hid hbx
        have HN2 := Lib.hid hne2
        have HN1 := Lib.hid hne1
        have HS2 := Lib.hid (show w.heap.size ≤ ((wr.alloc (.cells #[.int .i64 3, .string y] 89)).alloc (.cells #[.string y] 9)).heap.size by simp; omega)
        clear hsn hs hb hm hap hbx hne2 hne1
        go_wp2_with (first
          | (at_builtin; refine wpList_append_rd rfl _ _ _ rfl w.heap.size 9 i0 _ 16 Tryd.underlying35 hi hz0 hz1 hz2 rfl _ z2 _ rfl HX2.out _ _ _ _ [.string y] rfl rfl HSRC.out (by simp [Value.oneCell']) (by unfold maxLen; omega) (by omega) HS2.out ?_; intro v3 w3 hown3 hg3; obtain ⟨A3, c3, rfl, hcap3, _⟩ := own_form hown3; have hb3 := Lib.hid ((hg3.block _ (by simp; omega) HN2.out).trans HBX.out); obtain ⟨d0, d1, f0, f1⟩ := cells2 hb3.out;
             have HOT := Lib.hid ((ownsRow_setCell_other (HAP.out w3 hg3).own (a := ⟨wr.heap.size, 1, none⟩) HN1.out (.string ⟨#[]⟩)).alloc (.cells #[.int .i64 3, .string ⟨#[]⟩] 89));
             have HXT := Lib.hid (ownsRow_setCell_other (a := ⟨wr.heap.size, 1, none⟩) hown3 (own_ne_type hown3 hb3.out (by decide)) (.string ⟨#[]⟩));
             have HSR3 : Hid (Rd ((w3.setCell ⟨wr.heap.size, 1, none⟩ (.string ⟨#[]⟩)).alloc (.cells #[.int .i64 3, .string ⟨#[]⟩] 89)) (w3.heap.size + 1) (some ⟨w3.heap.size, 0, none⟩) [.int .i64 3, .string ⟨#[]⟩]) := Lib.hid (by have := Rd.new (w3.setCell ⟨wr.heap.size, 1, none⟩ (.string ⟨#[]⟩)) 89 [.int .i64 3, .string ⟨#[]⟩]; simpa using this))
          | (at_builtin; refine wpList_append_rds rfl _ _ _ rfl w.heap.size 89 j0 _ 2 24 Tryd.underlying56 gi gz0 gz1 gz2 rfl (by omega) _ z1 _ rfl HOT.out _ _ _ _ [.int .i64 3, .string ⟨#[]⟩] rfl rfl HSR3.out (by simp [Value.oneCell']) (by unfold maxLen; omega) (by omega) (by simp; have := hg3.size; have := HS2.out; omega) ?_; intro v4 w4 hown4 hg4; obtain ⟨A4, c4, rfl, ho4⟩ := OT.push hown4))
        go_roundw
        case rel =>
          have k3 : Below w.heap.size w w3 := kb2.trans (below_own HX2.out hg3 HS2.out)
          have k3b : Below w.heap.size w ((w3.setCell ⟨wr.heap.size, 1, none⟩ (.string ⟨#[]⟩)).alloc (.cells #[.int .i64 3, .string ⟨#[]⟩] 89)) := kp_alloc (k3.setCell hsz0 _) _
          have hx4 := own_apart (HXT.out.alloc (.cells #[.int .i64 3, .string ⟨#[]⟩] 89)) HOT.out (by decide) hg4
          refine ⟨k + 1, z1 + 1, z2 + 1, A4, A3, c4, c3, ks ++ [⟨3, ⟨#[]⟩⟩], ss ++ [y], by omega, by omega, by omega, rfl, rfl, by go_num, Lib.hid ho4, Lib.hid ?_, hs2, hb2, hm2, k3b.trans (below_own_s HOT.out hg4 k3b.size)⟩
          rw [tvs_append]
          exact hx4
        case measure => simp [intOf]; omega
      · have n3 : (x == 3) = false := by simpa using h3
        have hs2 : Hid (saysT (ks ++ [⟨x, y⟩]) = stayF (saysT (us.take (k + 1)))) := Lib.hid (by rw [hsn, stay_other _ _ _ h5 h3, saysT_append, hs.out]; rfl)
        have hb2 : Hid (bts ss = strsF (keptF (saysT (us.take (k + 1))))) := Lib.hid (by rw [hsn, strs_other _ _ _ h5 h3, hb.out])
        have hm2 : Hid (sumT (ks ++ [⟨x, y⟩]) ≤ (k + 1) * 401) := Lib.hid (by
          have := hm.out
          rw [sumT_append, show sumT [(⟨x, y⟩ : Tk)] = y.size + 1 from by simp [sumT]]
          omega)
        have HOT := Lib.hid ((ho.out.own.alloc (.cells #[.int .i64 x, .string y] 89)).alloc (.cells #[.int .i64 x, .string y] 89))
        have HX2 := Lib.hid ((hx.out.alloc (.cells #[.int .i64 x, .string y] 89)).alloc (.cells #[.int .i64 x, .string y] 89))
        have HSRC : Hid (Rd ((wr.alloc (.cells #[.int .i64 x, .string y] 89)).alloc (.cells #[.int .i64 x, .string y] 89)) (wr.heap.size + 1 + 1) (some ⟨wr.heap.size + 1, 0, none⟩) [.int .i64 x, .string y]) := Lib.hid (by
          have := Rd.new (wr.alloc (.cells #[.int .i64 x, .string y] 89)) 89 [.int .i64 x, .string y]
          simpa using this)
        have kb2 : Below w.heap.size w ((wr.alloc (.cells #[.int .i64 x, .string y] 89)).alloc (.cells #[.int .i64 x, .string y] 89)) := kp_alloc kb _
        clear hsn hs hb hm ho hx h5 h3
        go_wp2_with (at_builtin; refine wpList_append_rds rfl _ _ _ rfl w.heap.size 89 j0 _ 2 24 Tryd.underlying56 gi gz0 gz1 gz2 rfl (by omega) _ z1 _ rfl HOT.out _ _ _ _ [.int .i64 x, .string y] rfl rfl HSRC.out (by simp [Value.oneCell']) (by unfold maxLen; omega) (by omega) kb2.size ?_; intro v4 w4 hown4 hg4; obtain ⟨A4, c4, rfl, ho4⟩ := OT.push hown4)
        go_roundw
        case rel => exact ⟨k + 1, z1 + 1, z2, A4, A2, c4, c2, ks ++ [⟨x, y⟩], ss, by omega, by omega, by omega, rfl, rfl, by go_num, Lib.hid ho4, Lib.hid (own_apart HX2.out HOT.out (by decide) hg4), hs2, hb2, hm2, kb2.trans (below_own_s HOT.out hg4 kb2.size)⟩
        case measure => simp [intOf]; omega
    · obtain rfl : k = n := by omega
      rw [List.take_of_length_le (by rw [HL.out]; exact Nat.le_refl _)] at hs hb
      have HL2 := Lib.hid (HLw.out.below k0 (by obtain ⟨m, hm⟩ := HLw.out; exact World.block_lt_of_cell? _ _ hm))
      have hmm : sumT ks ≤ 1000000 := by have := hm.out; omega
      have hwl := writeF_len ks
      go_wp2_with fail
      refine (write_ok A1 z1 c1 ks wr ho.out.tr hmm HL2.out).mono ?_
      rintro e w1 ⟨r, rfl, hr, k1⟩
      have hrs : r.size ≤ 1000000000 := by
        have := text_len r
        rw [hr] at this
        omega
      go_wp2_with fail
      refine (chop_s r w1 hrs).mono ?_
      rintro e w2 ⟨r2, rfl, hr2, k2⟩
      go_wp2_with fail
      go_ret2
      have kk := kp_trans k1 k2
      refine ⟨r2, A2, z2, c2, ss, rfl, ?_, (XR.of_own hx.out).next kk, hb.out, kp_trans k0 kk⟩
      rw [hr2, hr, hs.out]
      rfl
end

/- The forms, what each does, and Of, by calls of package plan: contracts. -/
section
open Go.RowKit
set_option maxRecDepth 100000

theorem results_cell1 {fn : Func} {p : Tmp} {ty : TypeId} (h : fn.results = #[.cell p ty]) (tmps : Array Value) (P : Program) (w : World) :
    (results fn tmps).run P w = ((asAddr (tmps.getD p undef)).run P w).andThen fun a w₁ => (loadVar ty a).run P w₁ := by
  simp only [results, h]
  simp [Sem.run_bind]

def formC : List Value := [.string tGet, .func (.func 45) #[] #[], .string tAll, .func (.func 46) #[] #[], .string tPut, .func (.func 47) #[] #[], .string tChg, .func (.func 48) #[] #[], .string tDel, .func (.func 49) #[] #[]]

theorem forms_ok (w : World) : Calls Tryd.prog 26 #[] w fun e w' => e = .returned (.slice (some ⟨w.heap.size, 0, none⟩) 5 5) ∧ w' = w.alloc (.cells formC.toArray 66) := by
  go_enter Tryd.func26, Tryd.ntmps26
  go_wp2_with fail
  go_ret
  exact ⟨rfl, rfl⟩

set_option maxHeartbeats 1000000 in
theorem do1_ok (A : Option Addr) (n c : Nat) (x : ByteArray) (ss : List ByteArray) (w : World) (h : XR w A n (x :: ss)) :
    Calls Tryd.prog 45 #[.slice A n c] w fun e w' => e = .returned (planV 1 x ⟨#[]⟩) ∧ Below w.heap.size w w' := by
  obtain ⟨ad, rfl, had, hc⟩ := h.at_ (j := 0) (by simp)
  have hlen := h.len
  rw [List.length_cons] at hlen
  have h0 : (0 : Int) < (n : Int) := by omega
  rw [show ad.add 0 = ad from rfl, List.getElem_cons_zero] at hc
  clear h hlen
  go_enter Tryd.func45, Tryd.ntmps45
  go_wp2_with fail
  refine bodyPost_ret (v := planV 1 x ⟨#[]⟩) ?_ rfl ⟨rfl, kp_new _ _⟩
  rw [results_cell1 rfl]
  unfold planV
  go_simp
set_option maxHeartbeats 1000000 in
theorem do5_ok (A : Option Addr) (n c : Nat) (x : ByteArray) (ss : List ByteArray) (w : World) (h : XR w A n (x :: ss)) :
    Calls Tryd.prog 49 #[.slice A n c] w fun e w' => e = .returned (planV 5 x ⟨#[]⟩) ∧ Below w.heap.size w w' := by
  obtain ⟨ad, rfl, had, hc⟩ := h.at_ (j := 0) (by simp)
  have hlen := h.len
  rw [List.length_cons] at hlen
  have h0 : (0 : Int) < (n : Int) := by omega
  rw [show ad.add 0 = ad from rfl, List.getElem_cons_zero] at hc
  clear h hlen
  go_enter Tryd.func49, Tryd.ntmps49
  go_wp2_with fail
  refine bodyPost_ret (v := planV 5 x ⟨#[]⟩) ?_ rfl ⟨rfl, kp_new _ _⟩
  rw [results_cell1 rfl]
  unfold planV
  go_simp

theorem do2_ok (A : Option Addr) (n c : Nat) (w : World) :
    Calls Tryd.prog 46 #[.slice A n c] w fun e w' => e = .returned (planV 2 ⟨#[]⟩ ⟨#[]⟩) ∧ Below w.heap.size w w' := by
  go_enter Tryd.func46, Tryd.ntmps46
  go_wp2_with fail
  refine bodyPost_ret (v := planV 2 ⟨#[]⟩ ⟨#[]⟩) ?_ rfl ⟨rfl, kp_new _ _⟩
  rw [results_cell1 rfl]
  unfold planV
  go_simp
set_option maxHeartbeats 1000000 in
theorem do3_ok (A : Option Addr) (n c : Nat) (x y : ByteArray) (ss : List ByteArray) (w : World) (h : XR w A n (x :: y :: ss)) :
    Calls Tryd.prog 47 #[.slice A n c] w fun e w' => e = .returned (planV 3 x y) ∧ Below w.heap.size w w' := by
  obtain ⟨ad, rfl, had, hc⟩ := h.at_ (j := 0) (by simp)
  obtain ⟨ad', e', _, hc'⟩ := h.at_ (j := 1) (by simp)
  injection e' with e'
  subst e'
  have hlen := h.len
  rw [List.length_cons, List.length_cons] at hlen
  have h0 : (0 : Int) < (n : Int) := by omega
  have h1 : (1 : Int) < (n : Int) := by omega
  rw [show ad.add 0 = ad from rfl, List.getElem_cons_zero] at hc
  rw [show ad.add 1 = ⟨ad.block, ad.off + 1, none⟩ from rfl, List.getElem_cons_succ, List.getElem_cons_zero] at hc'
  have kw := kp_new w (.cells #[.int .i64 0, .string ⟨#[]⟩, .string ⟨#[]⟩] 23)
  rw [← kw.cell had] at hc
  rw [← kw.cell (show (⟨ad.block, ad.off + 1, none⟩ : Addr).block < w.heap.size from had)] at hc'
  clear h hlen
  go_enter Tryd.func47, Tryd.ntmps47
  go_wp2_with fail
  go_region
  all_goals
    go_wp2_with fail
    refine bodyPost_ret (v := planV 3 x y) ?_ rfl ⟨rfl, ?_⟩
    · rw [results_cell1 rfl]
      unfold planV
      go_simp
    · exact (kp_new _ _).drew
set_option maxHeartbeats 1000000 in
theorem do4_ok (A : Option Addr) (n c : Nat) (x y : ByteArray) (ss : List ByteArray) (w : World) (h : XR w A n (x :: y :: ss)) :
    Calls Tryd.prog 48 #[.slice A n c] w fun e w' => e = .returned (planV 4 y x) ∧ Below w.heap.size w w' := by
  obtain ⟨ad, rfl, had, hc⟩ := h.at_ (j := 0) (by simp)
  obtain ⟨ad', e', _, hc'⟩ := h.at_ (j := 1) (by simp)
  injection e' with e'
  subst e'
  have hlen := h.len
  rw [List.length_cons, List.length_cons] at hlen
  have h0 : (0 : Int) < (n : Int) := by omega
  have h1 : (1 : Int) < (n : Int) := by omega
  rw [show ad.add 0 = ad from rfl, List.getElem_cons_zero] at hc
  rw [show ad.add 1 = ⟨ad.block, ad.off + 1, none⟩ from rfl, List.getElem_cons_succ, List.getElem_cons_zero] at hc'
  have kw := kp_new w (.cells #[.int .i64 0, .string ⟨#[]⟩, .string ⟨#[]⟩] 23)
  rw [← kw.cell had] at hc
  rw [← kw.cell (show (⟨ad.block, ad.off + 1, none⟩ : Addr).block < w.heap.size from had)] at hc'
  clear h hlen
  go_enter Tryd.func48, Tryd.ntmps48
  go_wp2_with fail
  go_region
  all_goals
    go_wp2_with fail
    refine bodyPost_ret (v := planV 4 y x) ?_ rfl ⟨rfl, ?_⟩
    · rw [results_cell1 rfl]
      unfold planV
      go_simp
    · exact (kp_new _ _).drew
end

/- What a statement does, by the call Of of package plan: contract. -/
section
open Go.RowKit
set_option maxRecDepth 100000

/-- a plan's number and texts -/
def doing (d : Int) (k v : ByteArray) : Doing := (d, k.data.toList, v.data.toList)
/-- the answer of Of -/
def OfTo (f : FuncId) (s : ByteArray) (w : World) : Prop :=
  Calls Tryd.prog f #[.string s] w fun e w' => ∃ d k v, e = .returned (planV d k v) ∧ doing d k v = planA s.data.toList ∧ Below w.heap.size w w'

theorem text_iff {r t : ByteArray} : r = t ↔ r.data.toList = t.data.toList := ⟨fun h => by rw [h], text_ext⟩
/-- what the shape and the texts tell -/
theorem pick_by {L : List Tok} {r : ByteArray} {ss : List ByteArray} (hL : ∀ t ∈ L, t.1 ≠ 5 → rightF t.1 t.2 = true) (hr : r.data.toList = shapeF (keptF L)) (hs : bts ss = strsF (keptF L)) :
    (r = tGet → ∃ x rest, ss = x :: rest ∧ planF (bodyF L) = doing 1 x ⟨#[]⟩) ∧
    (r = tAll → planF (bodyF L) = doing 2 ⟨#[]⟩ ⟨#[]⟩) ∧
    (r = tPut → ∃ x y rest, ss = x :: y :: rest ∧ planF (bodyF L) = doing 3 x y) ∧
    (r = tChg → ∃ x y rest, ss = x :: y :: rest ∧ planF (bodyF L) = doing 4 y x) ∧
    (r = tDel → ∃ x rest, ss = x :: rest ∧ planF (bodyF L) = doing 5 x ⟨#[]⟩) ∧
    (r ≠ tGet → r ≠ tAll → r ≠ tPut → r ≠ tChg → r ≠ tDel → planF (bodyF L) = doing 0 ⟨#[]⟩ ⟨#[]⟩) := by
  have key : ∀ (f : List Tok) (t : ByteArray), (∀ t ∈ f, rightF t.1 t.2 = true ∧ t.1 ≠ 5) → writeF f = t.data.toList → (r = t ↔ (bodyF L).map emptyF = f) := fun f t hf ht => by
    rw [text_iff, hr, ← ht]
    exact shape_iff hL f hf
  have k1 := key fGet tGet (by decide) tGet_is
  have k2 := key fAll tAll (by decide) tAll_is
  have k3 := key fPut tPut (by decide) tPut_is
  have k4 := key fChg tChg (by decide) tChg_is
  have k5 := key fDel tDel (by decide) tDel_is
  rw [strs_body] at hs
  have hlen : ∀ f, (bodyF L).map emptyF = f → ss.length = (strsF f).length := fun f h => by
    rw [← strs_len h, ← hs]
    simp [bts]
  have one : ∀ n, ss.length = n + 1 → ∃ x rest, ss = x :: rest := fun n h => by
    cases ss with
    | nil => cases h
    | cons x rest => exact ⟨x, rest, rfl⟩
  have two : ∀ n, ss.length = n + 2 → ∃ x y rest, ss = x :: y :: rest := fun n h => by
    cases ss with
    | nil => cases h
    | cons x rest =>
      cases rest with
      | nil => simp at h
      | cons y rest => exact ⟨x, y, rest, rfl⟩
  unfold planF
  rw [← hs]
  refine ⟨fun h => ?_, fun h => ?_, fun h => ?_, fun h => ?_, fun h => ?_, fun h1 h2 h3 h4 h5 => ?_⟩
  · have e := k1.1 h
    obtain ⟨x, rest, rfl⟩ := one 0 (hlen _ e)
    exact ⟨x, rest, rfl, by rw [e]; rfl⟩
  · have e := k2.1 h
    rw [e]
    rfl
  · have e := k3.1 h
    obtain ⟨x, y, rest, rfl⟩ := two 0 (hlen _ e)
    exact ⟨x, y, rest, rfl, by rw [e]; rfl⟩
  · have e := k4.1 h
    obtain ⟨x, y, rest, rfl⟩ := two 0 (hlen _ e)
    exact ⟨x, y, rest, rfl, by rw [e]; rfl⟩
  · have e := k5.1 h
    obtain ⟨x, rest, rfl⟩ := one 0 (hlen _ e)
    exact ⟨x, rest, rfl, by rw [e]; rfl⟩
  · unfold pickF
    rw [if_neg (fun e => h1 (k1.2 e)), if_neg (fun e => h2 (k2.2 e)), if_neg (fun e => h3 (k3.2 e)), if_neg (fun e => h4 (k4.2 e)), if_neg (fun e => h5 (k5.2 e))]
    rfl

theorem txt_eq (r t : ByteArray) : (t.toList == r.toList) = decide (r = t) := by
  rw [Bool.eq_iff_iff]
  simp only [beq_iff_eq, decide_eq_true_eq]
  exact ⟨fun h => (bytes_ext h).symm, fun h => by rw [h]⟩

theorem says_short {ts : List Tk} {m : Nat} (h : ∀ t ∈ saysT ts, t.2.length ≤ m) : ∀ t ∈ ts, t.t.size ≤ m := fun t ht => by
  have := h t.says (List.mem_map.2 ⟨t, ht, rfl⟩)
  simpa [Tk.says, text_len] using this
theorem cells3f {w : World} {b : Nat} {x y z : Value} {t : TypeId} (h : w.heap[b]? = some (.cells #[x, y, z] t (0, 0))) : w.cell? ⟨b, 0, none⟩ = some x ∧ w.cell? ⟨b, 1, none⟩ = some y ∧ w.cell? ⟨b, 2, none⟩ = some z ∧ w.frozen? ⟨b, 0, none⟩ = false ∧ w.frozen? ⟨b, 1, none⟩ = false ∧ w.frozen? ⟨b, 2, none⟩ = false := by
  obtain ⟨a1, a2, a3⟩ := cells3 h
  refine ⟨a1, a2, a3, ?_, ?_, ?_⟩ <;> simp [World.frozen?, h]

set_option maxHeartbeats 8000000 in
theorem of_ok (s : ByteArray) (w : World) (hm : s.size ≤ maxLen) (hL : Lw w) : OfTo 17 s w := by
  have kw := kp_new w (.cells #[.int .i64 0, .string ⟨#[]⟩, .string ⟨#[]⟩] 23)
  have hlx := lex_ok s _ hm (hL.next kw)
  unfold LexTo at hlx
  have hlen := lexA_len s.data.toList
  have hok := lexA_ok s.data.toList
  have hright := lexA_right s.data.toList
  have hP : planA s.data.toList = planF (bodyF (lexA s.data.toList).1) := rfl
  unfold OfTo
  generalize planA s.data.toList = R at *
  have HP := Lib.hid hP
  have HX := Lib.hid hlx
  have HLN := Lib.hid hlen
  have HOK := Lib.hid hok
  have HRT := Lib.hid hright
  have HLw := Lib.hid hL
  clear hP hlx hlen hok hright hL
  go_enter Tryd.func17, Tryd.ntmps17
  go_wp2_with fail
  refine HX.out.mono ?_
  rintro e w1 ⟨A, n, c, er, ts, rfl, ho, hla, k1⟩
  rw [← hla] at HLN HOK HRT HP
  have HLA := Lib.hid hla
  have K1 := kp_trans kw k1
  have hn : n ≤ 200 := by rw [← ho.len, ← saysT_length]; exact HLN.out
  have hb1 : Hid (w1.heap[w.heap.size]? = some (.cells #[.int .i64 0, .string ⟨#[]⟩, .string ⟨#[]⟩] 23 (0, 0))) := Lib.hid ((k1.block _ (by simp)).trans (heap_alloc_new w _))
  have HS := Lib.hid (shaped_ok A n c ts w1 ho.tr (by omega) (fun t ht => Nat.le_trans (says_short (m := 200) (fun t ht => (HOK.out t ht).1) t ht) (by decide)) (HLw.out.next K1))
  clear hla HX k1
  go_wp2_with fail
  refine HS.out.mono ?_
  rintro e w2 ⟨r, A2, n2, c2, ss, rfl, hr, hx, hs, k2⟩
  have HPK := Lib.hid (pick_by HRT.out hr hs)
  have HXR := Lib.hid hx
  have K2 := kp_trans K1 k2
  have hlt1 : w.heap.size < w1.heap.size := (Array.getElem?_eq_some_iff.1 hb1.out).1
  have hb2 : Hid (w2.heap[w.heap.size]? = some (.cells #[.int .i64 0, .string ⟨#[]⟩, .string ⟨#[]⟩] 23 (0, 0))) := Lib.hid ((k2.block _ hlt1).trans hb1.out)
  clear HS hr hs hx k2
  go_wp2_with fail
  refine (forms_ok w2).mono ?_
  rintro e w3 ⟨rfl, hw3⟩
  have hlt2 : w.heap.size < w2.heap.size := (Array.getElem?_eq_some_iff.1 hb2.out).1
  have k3 : Below w2.heap.size w2 w3 := by rw [hw3]; exact kp_new _ _
  have hF : w3.heap[w2.heap.size]? = some (.cells formC.toArray 66 (0, 0)) := by rw [hw3]; exact heap_alloc_new w2 _
  have hb3 : Hid (w3.heap[w.heap.size]? = some (.cells #[.int .i64 0, .string ⟨#[]⟩, .string ⟨#[]⟩] 23 (0, 0))) := Lib.hid ((k3.block _ hlt2).trans hb2.out)
  have hlt3 : w2.heap.size < w3.heap.size := (Array.getElem?_eq_some_iff.1 hF).1
  have K3 := kp_trans K2 k3
  have HX3 := Lib.hid (HXR.out.next k3)
  have HF := Lib.hid hF
  have HK3 := Lib.hid K3
  clear hw3 hF hb1 hb2 HXR
  generalize w2.heap.size = F at *
  go_wp2_with fail
  go_loopw [21] (fun i wr => ∃ k : Nat, k ≤ 5 ∧ i = .int .i64 k ∧ Hid ((0 < k → r ≠ tGet) ∧ (1 < k → r ≠ tAll) ∧ (2 < k → r ≠ tPut) ∧ (3 < k → r ≠ tChg) ∧ (4 < k → r ≠ tDel)) ∧ Below w3.heap.size w3 wr) (fun i _ => 5 - (intOf i).toNat)
  case atStart => exact ⟨0, by omega, rfl, Lib.hid ⟨by omega, by omega, by omega, by omega, by omega⟩, Below.refl _ _⟩
  case round =>
    obtain ⟨k, hk, rfl, hne, k4⟩ := hrel
    have hFr : wr.heap[F]? = some (.cells formC.toArray 66 (0, 0)) := (k4.block _ hlt3).trans HF.out
    have hbr : wr.heap[w.heap.size]? = some (.cells #[.int .i64 0, .string ⟨#[]⟩, .string ⟨#[]⟩] 23 (0, 0)) := (k4.block _ (by omega)).trans hb3.out
    have hc : ∀ j u, formC[j]? = some u → wr.cell? ⟨F, j, none⟩ = some u := fun j u hu => by
      rw [cell_of_row _ _ j formC.toArray _ (0, 0) hFr]
      simpa using hu
    rcases (by omega : k = 0 ∨ k = 1 ∨ k = 2 ∨ k = 3 ∨ k = 4 ∨ k = 5) with rfl | rfl | rfl | rfl | rfl | rfl
    · have c0 := hc 0 _ rfl
      have c1 := hc 1 _ rfl
      clear hc hFr
      by_cases he : r = tGet
      · have hq : (tGet.toList == r.toList) = true := by rw [txt_eq, decide_eq_true he]
        obtain ⟨x, rest, hss, hpl⟩ := HPK.out.1 he
        subst hss
        have HPL := Lib.hid (hpl.symm.trans HP.out.symm)
        have HB := Lib.hid hbr
        clear he hpl hne hbr
        generalize tGet = g at *
        go_wp2_with fail
        refine (do1_ok A2 n2 c2 x rest _ ((HX3.out.next k4).next (kp_new wr _))).mono ?_
        rintro e w5 ⟨rfl, k5⟩
        have K4 := kp_new wr (.cells #[.string g, .func (.func 45) #[] #[]] 66)
        have K5 : Below wr.heap.size wr w5 := kp_trans K4 k5
        obtain ⟨d0, d1, d2, f0, f1, f2⟩ := cells3f ((K5.block _ ((Array.getElem?_eq_some_iff.1 HB.out).1)).trans HB.out)
        have KW : Below w.heap.size w w5 := kp_trans (kp_trans HK3.out k4) K5
        clear k5 K4 K5
        unfold planV
        go_wp2_with fail
        refine bodyPost_ret (v := planV 1 x ⟨#[]⟩) ?_ rfl ⟨1, x, ⟨#[]⟩, rfl, HPL.out, ((KW.setCell (Nat.le_refl _) _).setCell (Nat.le_refl _) _).setCell (Nat.le_refl _) _⟩
        rw [results_cell1 rfl]
        unfold planV
        go_simp
      · have hq : (tGet.toList == r.toList) = false := by rw [txt_eq, decide_eq_false he]
        have hne2 : Hid ((0 < 1 → r ≠ tGet) ∧ (1 < 1 → r ≠ tAll) ∧ (2 < 1 → r ≠ tPut) ∧ (3 < 1 → r ≠ tChg) ∧ (4 < 1 → r ≠ tDel)) := Lib.hid ⟨fun _ => he, (by omega), (by omega), (by omega), (by omega)⟩
        clear he hne hbr
        obtain ⟨g, hg⟩ : ∃ g, g = tGet := ⟨_, rfl⟩
        rw [← hg] at c0 hq
        clear hg
        go_wp2_with fail
        go_roundw
        case rel => exact ⟨1, by omega, by go_num, hne2, kp_alloc k4 _⟩
        case measure => simp [intOf]
    · have c0 := hc 2 _ rfl
      have c1 := hc 3 _ rfl
      clear hc hFr
      by_cases he : r = tAll
      · have hq : (tAll.toList == r.toList) = true := by rw [txt_eq, decide_eq_true he]
        have hpl := HPK.out.2.1 he
        have hss := True.intro
        have HPL := Lib.hid (hpl.symm.trans HP.out.symm)
        have HB := Lib.hid hbr
        clear he hpl hne hbr
        generalize tAll = g at *
        go_wp2_with fail
        refine (do2_ok A2 n2 c2 _).mono ?_
        rintro e w5 ⟨rfl, k5⟩
        have K4 := kp_new wr (.cells #[.string g, .func (.func 46) #[] #[]] 66)
        have K5 : Below wr.heap.size wr w5 := kp_trans K4 k5
        obtain ⟨d0, d1, d2, f0, f1, f2⟩ := cells3f ((K5.block _ ((Array.getElem?_eq_some_iff.1 HB.out).1)).trans HB.out)
        have KW : Below w.heap.size w w5 := kp_trans (kp_trans HK3.out k4) K5
        clear k5 K4 K5
        unfold planV
        go_wp2_with fail
        refine bodyPost_ret (v := planV 2 ⟨#[]⟩ ⟨#[]⟩) ?_ rfl ⟨2, ⟨#[]⟩, ⟨#[]⟩, rfl, HPL.out, ((KW.setCell (Nat.le_refl _) _).setCell (Nat.le_refl _) _).setCell (Nat.le_refl _) _⟩
        rw [results_cell1 rfl]
        unfold planV
        go_simp
      · have hq : (tAll.toList == r.toList) = false := by rw [txt_eq, decide_eq_false he]
        have hne2 : Hid ((0 < 2 → r ≠ tGet) ∧ (1 < 2 → r ≠ tAll) ∧ (2 < 2 → r ≠ tPut) ∧ (3 < 2 → r ≠ tChg) ∧ (4 < 2 → r ≠ tDel)) := Lib.hid ⟨fun _ => hne.out.1 (by omega), fun _ => he, (by omega), (by omega), (by omega)⟩
        clear he hne hbr
        obtain ⟨g, hg⟩ : ∃ g, g = tAll := ⟨_, rfl⟩
        rw [← hg] at c0 hq
        clear hg
        go_wp2_with fail
        go_roundw
        case rel => exact ⟨2, by omega, by go_num, hne2, kp_alloc k4 _⟩
        case measure => simp [intOf]
    · have c0 := hc 4 _ rfl
      have c1 := hc 5 _ rfl
      clear hc hFr
      by_cases he : r = tPut
      · have hq : (tPut.toList == r.toList) = true := by rw [txt_eq, decide_eq_true he]
        obtain ⟨x, y, rest, hss, hpl⟩ := HPK.out.2.2.1 he
        subst hss
        have HPL := Lib.hid (hpl.symm.trans HP.out.symm)
        have HB := Lib.hid hbr
        clear he hpl hne hbr
        generalize tPut = g at *
        go_wp2_with fail
        refine (do3_ok A2 n2 c2 x y rest _ ((HX3.out.next k4).next (kp_new wr _))).mono ?_
        rintro e w5 ⟨rfl, k5⟩
        have K4 := kp_new wr (.cells #[.string g, .func (.func 47) #[] #[]] 66)
        have K5 : Below wr.heap.size wr w5 := kp_trans K4 k5
        obtain ⟨d0, d1, d2, f0, f1, f2⟩ := cells3f ((K5.block _ ((Array.getElem?_eq_some_iff.1 HB.out).1)).trans HB.out)
        have KW : Below w.heap.size w w5 := kp_trans (kp_trans HK3.out k4) K5
        clear k5 K4 K5
        unfold planV
        go_wp2_with fail
        refine bodyPost_ret (v := planV 3 x y) ?_ rfl ⟨3, x, y, rfl, HPL.out, ((KW.setCell (Nat.le_refl _) _).setCell (Nat.le_refl _) _).setCell (Nat.le_refl _) _⟩
        rw [results_cell1 rfl]
        unfold planV
        go_simp
      · have hq : (tPut.toList == r.toList) = false := by rw [txt_eq, decide_eq_false he]
        have hne2 : Hid ((0 < 3 → r ≠ tGet) ∧ (1 < 3 → r ≠ tAll) ∧ (2 < 3 → r ≠ tPut) ∧ (3 < 3 → r ≠ tChg) ∧ (4 < 3 → r ≠ tDel)) := Lib.hid ⟨fun _ => hne.out.1 (by omega), fun _ => hne.out.2.1 (by omega), fun _ => he, (by omega), (by omega)⟩
        clear he hne hbr
        obtain ⟨g, hg⟩ : ∃ g, g = tPut := ⟨_, rfl⟩
        rw [← hg] at c0 hq
        clear hg
        go_wp2_with fail
        go_roundw
        case rel => exact ⟨3, by omega, by go_num, hne2, kp_alloc k4 _⟩
        case measure => simp [intOf]
    · have c0 := hc 6 _ rfl
      have c1 := hc 7 _ rfl
      clear hc hFr
      by_cases he : r = tChg
      · have hq : (tChg.toList == r.toList) = true := by rw [txt_eq, decide_eq_true he]
        obtain ⟨x, y, rest, hss, hpl⟩ := HPK.out.2.2.2.1 he
        subst hss
        have HPL := Lib.hid (hpl.symm.trans HP.out.symm)
        have HB := Lib.hid hbr
        clear he hpl hne hbr
        generalize tChg = g at *
        go_wp2_with fail
        refine (do4_ok A2 n2 c2 x y rest _ ((HX3.out.next k4).next (kp_new wr _))).mono ?_
        rintro e w5 ⟨rfl, k5⟩
        have K4 := kp_new wr (.cells #[.string g, .func (.func 48) #[] #[]] 66)
        have K5 : Below wr.heap.size wr w5 := kp_trans K4 k5
        obtain ⟨d0, d1, d2, f0, f1, f2⟩ := cells3f ((K5.block _ ((Array.getElem?_eq_some_iff.1 HB.out).1)).trans HB.out)
        have KW : Below w.heap.size w w5 := kp_trans (kp_trans HK3.out k4) K5
        clear k5 K4 K5
        unfold planV
        go_wp2_with fail
        refine bodyPost_ret (v := planV 4 y x) ?_ rfl ⟨4, y, x, rfl, HPL.out, ((KW.setCell (Nat.le_refl _) _).setCell (Nat.le_refl _) _).setCell (Nat.le_refl _) _⟩
        rw [results_cell1 rfl]
        unfold planV
        go_simp
      · have hq : (tChg.toList == r.toList) = false := by rw [txt_eq, decide_eq_false he]
        have hne2 : Hid ((0 < 4 → r ≠ tGet) ∧ (1 < 4 → r ≠ tAll) ∧ (2 < 4 → r ≠ tPut) ∧ (3 < 4 → r ≠ tChg) ∧ (4 < 4 → r ≠ tDel)) := Lib.hid ⟨fun _ => hne.out.1 (by omega), fun _ => hne.out.2.1 (by omega), fun _ => hne.out.2.2.1 (by omega), fun _ => he, (by omega)⟩
        clear he hne hbr
        obtain ⟨g, hg⟩ : ∃ g, g = tChg := ⟨_, rfl⟩
        rw [← hg] at c0 hq
        clear hg
        go_wp2_with fail
        go_roundw
        case rel => exact ⟨4, by omega, by go_num, hne2, kp_alloc k4 _⟩
        case measure => simp [intOf]
    · have c0 := hc 8 _ rfl
      have c1 := hc 9 _ rfl
      clear hc hFr
      by_cases he : r = tDel
      · have hq : (tDel.toList == r.toList) = true := by rw [txt_eq, decide_eq_true he]
        obtain ⟨x, rest, hss, hpl⟩ := HPK.out.2.2.2.2.1 he
        subst hss
        have HPL := Lib.hid (hpl.symm.trans HP.out.symm)
        have HB := Lib.hid hbr
        clear he hpl hne hbr
        generalize tDel = g at *
        go_wp2_with fail
        refine (do5_ok A2 n2 c2 x rest _ ((HX3.out.next k4).next (kp_new wr _))).mono ?_
        rintro e w5 ⟨rfl, k5⟩
        have K4 := kp_new wr (.cells #[.string g, .func (.func 49) #[] #[]] 66)
        have K5 : Below wr.heap.size wr w5 := kp_trans K4 k5
        obtain ⟨d0, d1, d2, f0, f1, f2⟩ := cells3f ((K5.block _ ((Array.getElem?_eq_some_iff.1 HB.out).1)).trans HB.out)
        have KW : Below w.heap.size w w5 := kp_trans (kp_trans HK3.out k4) K5
        clear k5 K4 K5
        unfold planV
        go_wp2_with fail
        refine bodyPost_ret (v := planV 5 x ⟨#[]⟩) ?_ rfl ⟨5, x, ⟨#[]⟩, rfl, HPL.out, ((KW.setCell (Nat.le_refl _) _).setCell (Nat.le_refl _) _).setCell (Nat.le_refl _) _⟩
        rw [results_cell1 rfl]
        unfold planV
        go_simp
      · have hq : (tDel.toList == r.toList) = false := by rw [txt_eq, decide_eq_false he]
        have hne2 : Hid ((0 < 5 → r ≠ tGet) ∧ (1 < 5 → r ≠ tAll) ∧ (2 < 5 → r ≠ tPut) ∧ (3 < 5 → r ≠ tChg) ∧ (4 < 5 → r ≠ tDel)) := Lib.hid ⟨fun _ => hne.out.1 (by omega), fun _ => hne.out.2.1 (by omega), fun _ => hne.out.2.2.1 (by omega), fun _ => hne.out.2.2.2.1 (by omega), fun _ => he⟩
        clear he hne hbr
        obtain ⟨g, hg⟩ : ∃ g, g = tDel := ⟨_, rfl⟩
        rw [← hg] at c0 hq
        clear hg
        go_wp2_with fail
        go_roundw
        case rel => exact ⟨5, by omega, by go_num, hne2, kp_alloc k4 _⟩
        case measure => simp [intOf]
    · obtain ⟨d0, d1, d2, f0, f1, f2⟩ := cells3f hbr
      have HPL := Lib.hid ((HPK.out.2.2.2.2.2 (hne.out.1 (by omega)) (hne.out.2.1 (by omega)) (hne.out.2.2.1 (by omega)) (hne.out.2.2.2.1 (by omega)) (hne.out.2.2.2.2 (by omega))).symm.trans HP.out.symm)
      have KW : Below w.heap.size w wr := kp_trans HK3.out k4
      clear hne hc hFr hbr
      go_wp2_with fail
      refine bodyPost_ret (v := planV 0 ⟨#[]⟩ ⟨#[]⟩) ?_ rfl ⟨0, ⟨#[]⟩, ⟨#[]⟩, rfl, HPL.out, ((KW.setCell (Nat.le_refl _) _).setCell (Nat.le_refl _) _).setCell (Nat.le_refl _) _⟩
      rw [results_cell1 rfl]
      unfold planV
      go_simp
end

/- The document's layer 6, and the law's own helpers: pairs, Table, Same, Texts, large: contracts. -/
section
open Go.RowKit
set_option maxRecDepth 100000

theorem kvinfoR : (Tryd.prog.info? 46).map (fun i => (i.zero, i.size, i.bytes)) = some (some (.agg #[.string ⟨#[]⟩, .string ⟨#[]⟩]), 2, 32) := by kernel_rfl
theorem OK.empty (e : TypeId) (w : World) : OK e (w.alloc (.cells #[] e)) w.heap.size (some ⟨w.heap.size, 0, none⟩) 0 0 [] :=
  ⟨own_new_s w w.heap.size 2 e 0 [] rfl (Nat.le_refl _) (by simp [maxLen]), Nat.le_refl _⟩

theorem take_same6 {α : Type} [DecidableEq α] {xs ys : List α} {k : Nat} (hx : k < xs.length) (hy : k < ys.length) (h : xs.take k = ys.take k) (he : xs[k] = ys[k]) : xs.take (k + 1) = ys.take (k + 1) := by
  rw [List.take_succ_eq_append_getElem hx, List.take_succ_eq_append_getElem hy, h, he]

set_option maxHeartbeats 2000000 in
theorem pairs_ok (A : Option Addr) (n c : Nat) (ts : List Kv) (w : World) (h : KR w A n ts) (hn : n * 32 ≤ 140737488351232) :
    Calls Tryd.prog 10 #[.slice A n c] w fun e w' => ∃ A' c', e = .returned (.slice A' n c') ∧ KR w' A' n ts ∧ Below w.heap.size w w' := by
  obtain ⟨i0, hi, hz0, hz1, hz2⟩ := info_parts kvinfoR
  have hlen := Lib.hid h.len
  go_enter Tryd.func10, Tryd.ntmps10
  go_wp2
  go_loopw [3, 9] (fun o i wr => ∃ (k : Nat) (B : Option Addr) (d : Nat), k ≤ n ∧ i = .int .i64 k ∧ o = .slice B k d ∧ OK 46 wr w.heap.size B k d (ts.take k) ∧ Below w.heap.size w wr) (fun _ i _ => n - (intOf i).toNat)
  case atStart => exact ⟨0, _, _, Nat.zero_le _, rfl, rfl, OK.empty _ w, kp_new _ _⟩
  case round =>
    obtain ⟨k, B, d, hk, rfl, rfl, ho, kw⟩ := hrel
    by_cases hlt : k < n
    · have hkl : k < ts.length := by rw [hlen.out]; exact hlt
      obtain ⟨ad, rfl, _, hc⟩ := h.at_ hkl
      obtain ⟨c0, c1⟩ := hc _ kw
      have hnx : Hid (kvC (ts.take (k + 1)) = kvC (ts.take k) ++ [.string ts[k].k, .string ts[k].v]) := Lib.hid (kvC_next ts k hkl)
      have hsw := kw.size
      clear hc
      generalize ts[k].k = x at *
      generalize ts[k].v = s at *
      have hsrc : ∀ X, Rd ((wr.alloc X).alloc (.cells #[.string x, .string s] 46)) (wr.heap.size + 1 + 1) (some ⟨wr.heap.size + 1, 0, none⟩) [.string x, .string s] := fun X => by
        have := Rd.new (wr.alloc X) 46 [.string x, .string s]
        simpa using this
      have HSRC := Lib.hid hsrc
      clear hsrc
      go_wp2_with (at_builtin; refine wpList_append_rds rfl _ _ _ rfl w.heap.size 46 i0 _ 2 32 Tryd.underlying29 hi hz0 hz1 hz2 rfl (by omega) _ k _ rfl ((ho.own.alloc _).alloc _) _ _ _ _ [.string x, .string s] rfl rfl (HSRC.out _) (by simp [Value.oneCell']) (by unfold maxLen; omega) (by omega) (by simp; omega) ?_; intro v3 w3 hown3 hg3)
      rw [← hnx.out] at hown3
      obtain ⟨A3, c3, rfl, h3, _⟩ := own_form_s hown3
      go_roundw
      case rel => exact ⟨k + 1, A3, c3, by omega, by go_num, rfl, ⟨hown3, h3⟩, (kp_alloc (kp_alloc kw _) _).trans (below_own_s ((ho.own.alloc _).alloc _) hg3 (by simp; omega))⟩
      case measure => simp [intOf]; omega
    · obtain rfl : k = n := by omega
      rw [List.take_of_length_le (by rw [hlen.out]; exact Nat.le_refl _)] at ho
      go_wp2_with fail
      go_ret
      exact ⟨B, d, rfl, ho.kr, kw⟩

theorem neq_pairs (T : TypeId) (hT : T = 46) (k k' t t' : ByteArray) (w : World) : (binOp .neq T (.agg #[.string k, .string t]) (.agg #[.string k', .string t'])).run Tryd.prog w = .ok (.bool (!decide ((⟨k, t⟩ : Kv) = ⟨k', t'⟩))) w := by
  subst hT
  have hf : (Tryd.prog.fieldsOf 46) = (match Tryd.prog.underlying 46 with | some (.struct fs) => fs | _ => #[]) := rfl
  have hu := Tryd.underlying46
  rw [hu] at hf
  rw [run_neq_struct, run_equalIn_agg (P := Tryd.prog) w 9999 _ _ _ (by rw [hf]; exact hu) (by kernel_rfl), hf]
  have h9 := Tryd.underlying9
  have hz9 := Tryd.sizeOf9
  have ha9 := Tryd.isAgg9
  have p1 : ∀ (x u : ByteArray) (w : World), (part 9 #[.string x, .string u] 0).run Tryd.prog w = .ok (.string x) w := fun x u w => by simp [part, hz9, ha9]
  have p2 : ∀ (x u : ByteArray) (w : World), (part 9 #[.string x, .string u] 1).run Tryd.prog w = .ok (.string u) w := fun x u w => by simp [part, hz9, ha9]
  have e2 : ∀ (x y : ByteArray) (w : World), (Op.equalIn 9999 9 (.string x) (.string y)).run Tryd.prog w = .ok (x.toList == y.toList) w := fun x y w => run_equalIn_string w 9998 9 x y h9
  have hk : k.toList = k'.toList ↔ k = k' := ⟨bytes_ext, fun h => by rw [h]⟩
  have ht : t.toList = t'.toList ↔ t = t' := ⟨bytes_ext, fun h => by rw [h]⟩
  by_cases h1 : k = k'
  · by_cases h2 : t = t'
    · simp [Op.eqFields, p1, p2, e2, h1, h2]
    · simp [Op.eqFields, p1, p2, e2, ht, h1, h2]
  · simp [Op.eqFields, p1, p2, e2, hk, h1]

set_option maxHeartbeats 2000000 in
theorem psame_ok (A A' : Option Addr) (n n' c c' : Nat) (xs ys : List Kv) (w : World) (hx : KR w A n xs) (hy : KR w A' n' ys) (hn : n ≤ 1000000) (hn' : n' ≤ 1000000) (b : Bool) (hb : Hid (decide (xs = ys) = b)) :
    Calls Tryd.prog 14 #[.slice A n c, .slice A' n' c'] w fun e w' => e = .returned (.bool b) ∧ ∃ m, w' = w.drewN m := by
  by_cases hll : n = n'
  · subst hll
    have hlx := Lib.hid hx.len
    have hly := Lib.hid hy.len
    go_enter Tryd.func14, Tryd.ntmps14
    go_wp2
    go_loopw [5] (fun i wr => ∃ k m : Nat, k ≤ n ∧ i = .int .i64 k ∧ Hid (xs.take k = ys.take k) ∧ wr = w.drewN m) (fun i _ => n - (intOf i).toNat)
    case atStart => exact ⟨0, 0, Nat.zero_le _, rfl, Lib.hid (by simp), rfl⟩
    case round =>
      obtain ⟨k, m, hk, rfl, he, hw⟩ := hrel
      have hx' : KR wr A n xs := by subst hw; exact hx.next (kp_drewN _ _)
      have hy' : KR wr A' n ys := by subst hw; exact hy.next (kp_drewN _ _)
      have HW := Lib.hid hw
      clear hw hx hy
      by_cases hlt : k < n
      · have hkx : k < xs.length := by rw [hlx.out]; omega
        have hky : k < ys.length := by rw [hly.out]; omega
        obtain ⟨ad, rfl, _, hc⟩ := hx'.at_ hkx
        obtain ⟨ad', rfl, _, hc'⟩ := hy'.at_ hky
        obtain ⟨c0, c1⟩ := hc _ (Below.refl _ _)
        obtain ⟨d0, d1⟩ := hc' _ (Below.refl _ _)
        clear hc hc' hx' hy'
        have hE := fun u => neq_pairs 46 rfl xs[k].k ys[k].k xs[k].v ys[k].v u
        by_cases hee : xs[k] = ys[k]
        · have hsn : Hid (xs.take (k + 1) = ys.take (k + 1)) := Lib.hid (take_same6 hkx hky he.out hee)
          have hd : (!decide ((⟨xs[k].k, xs[k].v⟩ : Kv) = ⟨ys[k].k, ys[k].v⟩)) = false := by
            rw [decide_eq_true (by exact hee)]; rfl
          rw [hd] at hE
          clear hee hd
          generalize xs[k].k = x at *
          generalize ys[k].k = y at *
          generalize xs[k].v = s at *
          generalize ys[k].v = t at *
          go_wp2
          go_quiet (fail)
          go_wp2
          go_roundw
          case rel => exact ⟨k + 1, m + nq, by omega, by go_num, hsn, by rw [HW.out, World.drewN_drewN]⟩
          case measure => simp [intOf]; omega
        · have hf : b = false := by
            rw [← hb.out]
            simp only [decide_eq_false_iff_not]
            rintro rfl
            exact hee rfl
          subst hf
          have hd : (!decide ((⟨xs[k].k, xs[k].v⟩ : Kv) = ⟨ys[k].k, ys[k].v⟩)) = true := by
            rw [decide_eq_false (by exact hee)]; rfl
          rw [hd] at hE
          clear hee hd
          generalize xs[k].k = x at *
          generalize ys[k].k = y at *
          generalize xs[k].v = s at *
          generalize ys[k].v = t at *
          go_wp2
          go_quiet (fail)
          go_wp2
          go_ret
          exact ⟨rfl, m + nq, by rw [HW.out, World.drewN_drewN]⟩
      · have hf : b = true := by
          rw [← hb.out]
          have h1 := he.out
          rw [List.take_of_length_le (by rw [hlx.out]; omega), List.take_of_length_le (by rw [hly.out]; omega)] at h1
          simp [h1]
        subst hf
        go_wp2
        go_ret
        exact ⟨rfl, m, HW.out⟩
  · have hf : b = false := by
      rw [← hb.out]
      simp only [decide_eq_false_iff_not]
      rintro rfl
      have := hx.len
      have := hy.len
      omega
    subst hf
    have ht : ((n : Int) != (n' : Int)) = true := by rw [bne_iff_ne]; omega
    go_enter Tryd.func14, Tryd.ntmps14
    go_wp2
    go_ret
    exact ⟨rfl, 0, rfl⟩

set_option maxHeartbeats 2000000 in
theorem texts6_ok (A A' : Option Addr) (n n' c c' : Nat) (xs ys : List ByteArray) (w : World) (hx : XR w A n xs) (hy : XR w A' n' ys) (hn : n ≤ 1000000) (hn' : n' ≤ 1000000) (b : Bool) (hb : Hid (decide (xs = ys) = b)) :
    Calls Tryd.prog 11 #[.slice A n c, .slice A' n' c'] w fun e w' => e = .returned (.bool b) ∧ ∃ m, w' = w.drewN m := by
  by_cases hll : n = n'
  · subst hll
    have hlx := Lib.hid hx.len
    have hly := Lib.hid hy.len
    go_enter Tryd.func11, Tryd.ntmps11
    go_wp2
    go_loopw [5] (fun i wr => ∃ k m : Nat, k ≤ n ∧ i = .int .i64 k ∧ Hid (xs.take k = ys.take k) ∧ wr = w.drewN m) (fun i _ => n - (intOf i).toNat)
    case atStart => exact ⟨0, 0, Nat.zero_le _, rfl, Lib.hid (by simp), rfl⟩
    case round =>
      obtain ⟨k, m, hk, rfl, he, hw⟩ := hrel
      have hx' : XR wr A n xs := by subst hw; exact hx.next (kp_drewN _ _)
      have hy' : XR wr A' n ys := by subst hw; exact hy.next (kp_drewN _ _)
      have HW := Lib.hid hw
      clear hw hx hy
      by_cases hlt : k < n
      · have hkx : k < xs.length := by rw [hlx.out]; omega
        have hky : k < ys.length := by rw [hly.out]; omega
        obtain ⟨ad, rfl, _, c0⟩ := hx'.at_ hkx
        obtain ⟨ad', rfl, _, d0⟩ := hy'.at_ hky
        clear hx' hy'
        by_cases hee : xs[k] = ys[k]
        · have hsn : Hid (xs.take (k + 1) = ys.take (k + 1)) := Lib.hid (take_same6 hkx hky he.out hee)
          rw [hee] at c0
          clear hee
          generalize ys[k] = y at *
          have hq : (y.toList == y.toList) = true := by simp
          go_wp2
          go_quiet (fail)
          go_wp2
          go_roundw
          case rel => exact ⟨k + 1, m + nq, by omega, by go_num, hsn, by rw [HW.out, World.drewN_drewN]⟩
          case measure => simp [intOf]; omega
        · have hf : b = false := by
            rw [← hb.out]
            simp only [decide_eq_false_iff_not]
            rintro rfl
            exact hee rfl
          subst hf
          have hq : (xs[k].toList == ys[k].toList) = false := by
            simp only [beq_eq_false_iff_ne, ne_eq]
            exact fun h => hee (bytes_ext h)
          clear hee
          generalize xs[k] = x at *
          generalize ys[k] = y at *
          go_wp2
          go_quiet (fail)
          go_wp2
          go_ret
          exact ⟨rfl, m + nq, by rw [HW.out, World.drewN_drewN]⟩
      · have hf : b = true := by
          rw [← hb.out]
          have h1 := he.out
          rw [List.take_of_length_le (by rw [hlx.out]; omega), List.take_of_length_le (by rw [hly.out]; omega)] at h1
          simp [h1]
        subst hf
        go_wp2
        go_ret
        exact ⟨rfl, m, HW.out⟩
  · have hf : b = false := by
      rw [← hb.out]
      simp only [decide_eq_false_iff_not]
      rintro rfl
      have := hx.len
      have := hy.len
      omega
    subst hf
    have ht : ((n : Int) != (n' : Int)) = true := by rw [bne_iff_ne]; omega
    go_enter Tryd.func11, Tryd.ntmps11
    go_wp2
    go_ret
    exact ⟨rfl, 0, rfl⟩

set_option maxHeartbeats 2000000 in
theorem table_ok (A : Option Addr) (n c : Nat) (ts : List Kv) (w : World) (h : KR w A n ts) (hn : n ≤ 140737488351232) (b : Bool) (hb : Hid (tabF ts = b)) :
    Calls Tryd.prog 15 #[.slice A n c] w fun e w' => e = .returned (.bool b) ∧ ∃ m, w' = w.drewN m := by
  have hl := Lib.hid h.len
  have HH := Lib.hid h
  clear h
  go_enter Tryd.func15, Tryd.ntmps15
  go_wp2
  go_loopw [3] (fun i wr => ∃ k m : Nat, k ≤ n ∧ i = .int .i64 ((k : Int) + 1) ∧ Hid (tabF (ts.take (k + 1)) = true) ∧ wr = w.drewN m) (fun i _ => n - ((intOf i).toNat - 1))
  case atStart => exact ⟨0, 0, Nat.zero_le _, rfl, Lib.hid ((tab_srt _).2 (by cases ts <;> simp [Srt])), rfl⟩
  case round =>
    obtain ⟨k, m, hk, rfl, he, hw⟩ := hrel
    by_cases hlt : k + 1 < n
    · have hx' : KR wr A n ts := by subst hw; exact HH.out.next (kp_drewN _ _)
      have HW := Lib.hid hw
      clear hw
      have hk1 : k + 1 < ts.length := by rw [hl.out]; exact hlt
      obtain ⟨ad, rfl, _, hc⟩ := hx'.at_ hk1
      obtain ⟨ad', e', _, hc'⟩ := hx'.at_ (j := k) (by omega)
      injection e' with e'
      subst e'
      obtain ⟨c0, _⟩ := hc _ (Below.refl _ _)
      obtain ⟨d0, _⟩ := hc' _ (Below.refl _ _)
      have hn := tab_next hk1 he.out
      clear hc hc' hx'
      cases hlt2 : ltB ts[k].k ts[k + 1].k with
      | true =>
        rw [hlt2] at hn
        have HN := Lib.hid hn
        have hq : Op.bytesLess ts[k].k.toList ts[k + 1].k.toList = true := hlt2
        clear hn hlt2
        generalize ts[k].k = x at *
        generalize ts[k + 1].k = y at *
        go_wp2
        go_quiet (fail)
        go_wp2
        go_roundw
        case rel => exact ⟨k + 1, m + nq, by omega, by go_num, HN, by rw [HW.out, World.drewN_drewN]⟩
        case measure => simp [intOf]; omega
      | false =>
        rw [hlt2] at hn
        have hbf : b = false := by rw [← hb.out]; exact tab_short hn
        subst hbf
        have hq : Op.bytesLess ts[k].k.toList ts[k + 1].k.toList = false := hlt2
        clear hn hlt2
        generalize ts[k].k = x at *
        generalize ts[k + 1].k = y at *
        go_wp2
        go_quiet (fail)
        go_wp2
        go_ret
        exact ⟨rfl, m + nq, by rw [HW.out, World.drewN_drewN]⟩
    · have hbt : b = true := by
        rw [← hb.out]
        have h1 := he.out
        rwa [List.take_of_length_le (by rw [hl.out]; omega)] at h1
      subst hbt
      go_wp2
      go_ret
      exact ⟨rfl, m, rfl⟩
end

/- The calls whose answers the document fixes, at layer 6: they answer so. -/
section
open Go.RowKit
set_option maxRecDepth 100000

theorem lex6_1 : lexF [105, 110, 115, 101, 114, 116, 32, 105, 110, 116, 111, 32, 107, 118, 32, 118, 97, 108, 117, 101, 115, 32, 40, 39, 97, 39, 44, 32, 39, 98, 39, 41] = some [(1, [73, 78, 83, 69, 82, 84]), (1, [73, 78, 84, 79]), (1, [75, 86]), (1, [86, 65, 76, 85, 69, 83]), (6, [40]), (3, [97]), (6, [44]), (3, [98]), (6, [41])] := by
  rw [lexF_tok (k := 1) (t := [73, 78, 83, 69, 82, 84]) (n := 6) (by simp) (by kernel_rfl) (by decide)]
  simp only [List.drop_succ_cons, List.drop_zero]
  rw [lexF_skip (n := 1) (by simp) (by kernel_rfl) (by decide)]
  simp only [List.drop_succ_cons, List.drop_zero]
  rw [lexF_tok (k := 1) (t := [73, 78, 84, 79]) (n := 4) (by simp) (by kernel_rfl) (by decide)]
  simp only [List.drop_succ_cons, List.drop_zero]
  rw [lexF_skip (n := 1) (by simp) (by kernel_rfl) (by decide)]
  simp only [List.drop_succ_cons, List.drop_zero]
  rw [lexF_tok (k := 1) (t := [75, 86]) (n := 2) (by simp) (by kernel_rfl) (by decide)]
  simp only [List.drop_succ_cons, List.drop_zero]
  rw [lexF_skip (n := 1) (by simp) (by kernel_rfl) (by decide)]
  simp only [List.drop_succ_cons, List.drop_zero]
  rw [lexF_tok (k := 1) (t := [86, 65, 76, 85, 69, 83]) (n := 6) (by simp) (by kernel_rfl) (by decide)]
  simp only [List.drop_succ_cons, List.drop_zero]
  rw [lexF_skip (n := 1) (by simp) (by kernel_rfl) (by decide)]
  simp only [List.drop_succ_cons, List.drop_zero]
  rw [lexF_tok (k := 6) (t := [40]) (n := 1) (by simp) (by kernel_rfl) (by decide)]
  simp only [List.drop_succ_cons, List.drop_zero]
  rw [lexF_tok (k := 3) (t := [97]) (n := 3) (by simp) (by kernel_rfl) (by decide)]
  simp only [List.drop_succ_cons, List.drop_zero]
  rw [lexF_tok (k := 6) (t := [44]) (n := 1) (by simp) (by kernel_rfl) (by decide)]
  simp only [List.drop_succ_cons, List.drop_zero]
  rw [lexF_skip (n := 1) (by simp) (by kernel_rfl) (by decide)]
  simp only [List.drop_succ_cons, List.drop_zero]
  rw [lexF_tok (k := 3) (t := [98]) (n := 3) (by simp) (by kernel_rfl) (by decide)]
  simp only [List.drop_succ_cons, List.drop_zero]
  rw [lexF_tok (k := 6) (t := [41]) (n := 1) (by simp) (by kernel_rfl) (by decide)]
  simp only [List.drop_succ_cons, List.drop_zero]
  rw [lexF_nil]
  rfl
theorem lex6_2 : lexF [115, 101, 108, 101, 99, 116, 32, 118, 32, 102, 114, 111, 109, 32, 107, 118, 32, 119, 104, 101, 114, 101, 32, 107, 32, 61, 32, 39, 97, 39, 59] = some [(1, [83, 69, 76, 69, 67, 84]), (1, [86]), (1, [70, 82, 79, 77]), (1, [75, 86]), (1, [87, 72, 69, 82, 69]), (1, [75]), (6, [61]), (3, [97]), (6, [59])] := by
  rw [lexF_tok (k := 1) (t := [83, 69, 76, 69, 67, 84]) (n := 6) (by simp) (by kernel_rfl) (by decide)]
  simp only [List.drop_succ_cons, List.drop_zero]
  rw [lexF_skip (n := 1) (by simp) (by kernel_rfl) (by decide)]
  simp only [List.drop_succ_cons, List.drop_zero]
  rw [lexF_tok (k := 1) (t := [86]) (n := 1) (by simp) (by kernel_rfl) (by decide)]
  simp only [List.drop_succ_cons, List.drop_zero]
  rw [lexF_skip (n := 1) (by simp) (by kernel_rfl) (by decide)]
  simp only [List.drop_succ_cons, List.drop_zero]
  rw [lexF_tok (k := 1) (t := [70, 82, 79, 77]) (n := 4) (by simp) (by kernel_rfl) (by decide)]
  simp only [List.drop_succ_cons, List.drop_zero]
  rw [lexF_skip (n := 1) (by simp) (by kernel_rfl) (by decide)]
  simp only [List.drop_succ_cons, List.drop_zero]
  rw [lexF_tok (k := 1) (t := [75, 86]) (n := 2) (by simp) (by kernel_rfl) (by decide)]
  simp only [List.drop_succ_cons, List.drop_zero]
  rw [lexF_skip (n := 1) (by simp) (by kernel_rfl) (by decide)]
  simp only [List.drop_succ_cons, List.drop_zero]
  rw [lexF_tok (k := 1) (t := [87, 72, 69, 82, 69]) (n := 5) (by simp) (by kernel_rfl) (by decide)]
  simp only [List.drop_succ_cons, List.drop_zero]
  rw [lexF_skip (n := 1) (by simp) (by kernel_rfl) (by decide)]
  simp only [List.drop_succ_cons, List.drop_zero]
  rw [lexF_tok (k := 1) (t := [75]) (n := 1) (by simp) (by kernel_rfl) (by decide)]
  simp only [List.drop_succ_cons, List.drop_zero]
  rw [lexF_skip (n := 1) (by simp) (by kernel_rfl) (by decide)]
  simp only [List.drop_succ_cons, List.drop_zero]
  rw [lexF_tok (k := 6) (t := [61]) (n := 1) (by simp) (by kernel_rfl) (by decide)]
  simp only [List.drop_succ_cons, List.drop_zero]
  rw [lexF_skip (n := 1) (by simp) (by kernel_rfl) (by decide)]
  simp only [List.drop_succ_cons, List.drop_zero]
  rw [lexF_tok (k := 3) (t := [97]) (n := 3) (by simp) (by kernel_rfl) (by decide)]
  simp only [List.drop_succ_cons, List.drop_zero]
  rw [lexF_tok (k := 6) (t := [59]) (n := 1) (by simp) (by kernel_rfl) (by decide)]
  simp only [List.drop_succ_cons, List.drop_zero]
  rw [lexF_nil]
  rfl
theorem lex6_3 : lexF [120] = some [(1, [88])] := by
  rw [lexF_tok (k := 1) (t := [88]) (n := 1) (by simp) (by kernel_rfl) (by decide)]
  simp only [List.drop_succ_cons, List.drop_zero]
  rw [lexF_nil]
  rfl
theorem plan6_1 : planA [105, 110, 115, 101, 114, 116, 32, 105, 110, 116, 111, 32, 107, 118, 32, 118, 97, 108, 117, 101, 115, 32, 40, 39, 97, 39, 44, 32, 39, 98, 39, 41] = (3, [97], [98]) := by
  rw [planA_lex lex6_1 (by decide)]
  kernel_rfl
theorem plan6_2 : planA [115, 101, 108, 101, 99, 116, 32, 118, 32, 102, 114, 111, 109, 32, 107, 118, 32, 119, 104, 101, 114, 101, 32, 107, 32, 61, 32, 39, 97, 39, 59] = (1, [97], []) := by
  rw [planA_lex lex6_2 (by decide)]
  kernel_rfl
theorem plan6_3 : planA [120] = (0, [], []) := by
  rw [planA_lex lex6_3 (by decide)]
  kernel_rfl

theorem doing_inj {d d' : Int} {k k' v v' : ByteArray} (h : doing d k v = doing d' k' v') : d = d' ∧ k = k' ∧ v = v' := by
  simp only [doing, Prod.mk.injEq] at h
  exact ⟨h.1, text_ext h.2.1, text_ext h.2.2⟩
/-- Of a text whose plan is known -/
theorem of_lit (s : ByteArray) (d : Int) (k v : ByteArray) (hp : planA s.data.toList = doing d k v) (w : World) (hm : s.size ≤ maxLen) (hL : Lw w) :
    Calls Tryd.prog 17 #[.string s] w fun e w' => e = .returned (planV d k v) ∧ Below w.heap.size w w' :=
  (of_ok s w hm hL).mono fun e w' ⟨d', k', v', he, h, hb⟩ => by
    rw [hp] at h
    obtain ⟨rfl, rfl, rfl⟩ := doing_inj h
    exact ⟨he, hb⟩

theorem eq_plans (T : TypeId) (hT : T = 23) (d d' : Int) (k k' v v' : ByteArray) (w : World) : (binOp .eql T (.agg #[.int .i64 d, .string k, .string v]) (.agg #[.int .i64 d', .string k', .string v'])).run Tryd.prog w = .ok (.bool (decide (d = d' ∧ k = k' ∧ v = v'))) w := by
  subst hT
  have hf : (Tryd.prog.fieldsOf 23) = (match Tryd.prog.underlying 23 with | some (.struct fs) => fs | _ => #[]) := rfl
  have hu := Tryd.underlying23
  rw [hu] at hf
  rw [run_eql_struct, run_equalIn_agg (P := Tryd.prog) w 9999 _ _ _ (by rw [hf]; exact hu) (by kernel_rfl), hf]
  have h3 := Tryd.underlying3
  have hz3 := Tryd.sizeOf3
  have ha3 := Tryd.isAgg3
  have h9 := Tryd.underlying9
  have hz9 := Tryd.sizeOf9
  have ha9 := Tryd.isAgg9
  have p0 : ∀ (x : Int) (u t : ByteArray) (w : World), (part 3 #[.int .i64 x, .string u, .string t] 0).run Tryd.prog w = .ok (.int .i64 x) w := fun x u t w => by simp [part, hz3, ha3]
  have p1 : ∀ (x : Int) (u t : ByteArray) (w : World), (part 9 #[.int .i64 x, .string u, .string t] 1).run Tryd.prog w = .ok (.string u) w := fun x u t w => by simp [part, hz9, ha9]
  have p2 : ∀ (x : Int) (u t : ByteArray) (w : World), (part 9 #[.int .i64 x, .string u, .string t] 2).run Tryd.prog w = .ok (.string t) w := fun x u t w => by simp [part, hz9, ha9]
  have e1 : ∀ (x y : Int) (w : World), (Op.equalIn 9999 3 (.int .i64 x) (.int .i64 y)).run Tryd.prog w = .ok (x == y) w := fun x y w => run_equalIn_int w 9998 3 .i64 .i64 x y h3
  have e2 : ∀ (x y : ByteArray) (w : World), (Op.equalIn 9999 9 (.string x) (.string y)).run Tryd.prog w = .ok (x.toList == y.toList) w := fun x y w => run_equalIn_string w 9998 9 x y h9
  have hk : k.toList = k'.toList ↔ k = k' := ⟨bytes_ext, fun h => by rw [h]⟩
  have hv : v.toList = v'.toList ↔ v = v' := ⟨bytes_ext, fun h => by rw [h]⟩
  by_cases h0 : d = d'
  · by_cases h1 : k = k'
    · by_cases h2 : v = v'
      · simp [Op.eqFields, p0, p1, p2, e1, e2, h0, h1, h2]
      · simp [Op.eqFields, p0, p1, p2, e1, e2, hv, h0, h1, h2]
    · simp [Op.eqFields, p0, p1, e1, e2, hk, h0, h1]
  · simp [Op.eqFields, p0, e1, h0]

theorem writes6 : writesF 3 ⟨#[97]⟩ ⟨#[98]⟩ [] = ([⟨⟨#[97]⟩, ⟨#[98]⟩⟩], 1) := by decide
theorem reads6 : readsF 1 ⟨#[97]⟩ [⟨⟨#[97]⟩, ⟨#[98]⟩⟩] = [⟨#[98]⟩] := by kernel_rfl

set_option maxHeartbeats 4000000 in
theorem awake6 (w : World) (hL : Lw w) : Calls Tryd.prog 6 #[] w fun e w' => e = .returned (.bool true) ∧ Below w.heap.size w w' := by
  have H1 := Lib.hid (of_lit ⟨#[105, 110, 115, 101, 114, 116, 32, 105, 110, 116, 111, 32, 107, 118, 32, 118, 97, 108, 117, 101, 115, 32, 40, 39, 97, 39, 44, 32, 39, 98, 39, 41]⟩ 3 ⟨#[97]⟩ ⟨#[98]⟩ (by rw [show (⟨#[105, 110, 115, 101, 114, 116, 32, 105, 110, 116, 111, 32, 107, 118, 32, 118, 97, 108, 117, 101, 115, 32, 40, 39, 97, 39, 44, 32, 39, 98, 39, 41]⟩ : ByteArray).data.toList = [105, 110, 115, 101, 114, 116, 32, 105, 110, 116, 111, 32, 107, 118, 32, 118, 97, 108, 117, 101, 115, 32, 40, 39, 97, 39, 44, 32, 39, 98, 39, 41] from rfl, plan6_1]; rfl))
  have H2 := Lib.hid (of_lit ⟨#[115, 101, 108, 101, 99, 116, 32, 118, 32, 102, 114, 111, 109, 32, 107, 118, 32, 119, 104, 101, 114, 101, 32, 107, 32, 61, 32, 39, 97, 39, 59]⟩ 1 ⟨#[97]⟩ ⟨#[]⟩ (by rw [show (⟨#[115, 101, 108, 101, 99, 116, 32, 118, 32, 102, 114, 111, 109, 32, 107, 118, 32, 119, 104, 101, 114, 101, 32, 107, 32, 61, 32, 39, 97, 39, 59]⟩ : ByteArray).data.toList = [115, 101, 108, 101, 99, 116, 32, 118, 32, 102, 114, 111, 109, 32, 107, 118, 32, 119, 104, 101, 114, 101, 32, 107, 32, 61, 32, 39, 97, 39, 59] from rfl, plan6_2]; rfl))
  have H3 := Lib.hid (of_lit ⟨#[120]⟩ 0 ⟨#[]⟩ ⟨#[]⟩ (by rw [show (⟨#[120]⟩ : ByteArray).data.toList = [120] from rfl, plan6_3]; rfl))
  have e1 := fun u => eq_plans 23 rfl 3 3 ⟨#[97]⟩ ⟨#[97]⟩ ⟨#[98]⟩ ⟨#[98]⟩ u
  have e2 := fun u => eq_plans 23 rfl 0 0 ⟨#[]⟩ ⟨#[]⟩ ⟨#[]⟩ ⟨#[]⟩ u
  simp only [and_self, decide_true] at e1 e2
  go_enter Tryd.func6, Tryd.ntmps6
  go_wp2_with fail
  refine (H1.out w (by decide) hL).mono ?_
  rintro e w1 ⟨rfl, k1⟩
  have L1 := hL.next k1
  have K1 := kp_alloc k1 (.cells #[.int .i64 3, .string ⟨#[97]⟩, .string ⟨#[98]⟩] 23)
  have kb := kp_new w1 (.cells #[.int .i64 3, .string ⟨#[97]⟩, .string ⟨#[98]⟩] 23)
  unfold planV
  go_wp2_with fail
  refine (writes_ok 3 ⟨#[97]⟩ ⟨#[98]⟩ none 0 0 [] _ (KR.nil _) (Nat.le_refl _) (by simp [Srt]) (by omega)).mono ?_
  rintro e w2 ⟨A2, n2, c2, rfl, ho2, k2⟩
  rw [writes6] at ho2 ⊢
  obtain ⟨b0, b1, b2⟩ := box3 k2
  have K2 := kp_trans K1 k2
  have KB := kp_trans kb k2
  have hn2 := ho2.len
  obtain rfl : n2 = 1 := hn2.symm
  go_wp2_with fail
  refine (H2.out w2 (by decide) (hL.next K2)).mono ?_
  rintro e w3 ⟨rfl, k3⟩
  have K3 := kp_trans K2 k3
  unfold planV
  go_wp2_with fail
  refine (reads_ok 1 ⟨#[97]⟩ ⟨#[]⟩ A2 1 c2 _ w3 (ho2.kr.next k3) ho2.cap (by simp [Srt]) (by omega)).mono ?_
  rintro e w4 ⟨A4, n4, c4, rfl, h4, k4⟩
  rw [reads6] at h4
  obtain rfl : n4 = 1 := h4.len.symm
  have K4 := kp_trans K3 k4
  have k24 := kp_trans k3 k4
  replace b0 := (k24.cell (World.block_lt_of_cell? _ _ b0)).trans b0
  replace b1 := (k24.cell (World.block_lt_of_cell? _ _ b1)).trans b1
  replace b2 := (k24.cell (World.block_lt_of_cell? _ _ b2)).trans b2
  have h2 := ho2.kr.next k24
  go_wp2_with fail
  refine (pairs_ok A2 1 c2 _ w4 h2 (by omega)).mono ?_
  rintro e w5 ⟨A5, c5, rfl, h5, k5⟩
  have K5 := kp_trans K4 k5
  have k6 := kp_new w5 (.cells #[.string ⟨#[97]⟩, .string ⟨#[98]⟩] 46)
  have hq : KR (w5.alloc (.cells #[.string ⟨#[97]⟩, .string ⟨#[98]⟩] 46)) (some ⟨w5.heap.size, 0, none⟩) 1 [⟨⟨#[97]⟩, ⟨#[98]⟩⟩] := ⟨rfl, (Rd.new w5 46 (kvC [⟨⟨#[97]⟩, ⟨#[98]⟩⟩])).more (by simp)⟩
  go_wp2_with fail
  refine (psame_ok A5 _ 1 1 c5 1 _ _ _ (h5.next k6) hq (by omega) (by omega) true (Lib.hid (by decide))).mono ?_
  rintro e w6 ⟨rfl, m6, hw6⟩
  have k7 : Below w5.heap.size w5 w6 := by rw [hw6]; exact k6.trans ((kp_drewN _ m6).mono k6.size)
  clear hw6
  have K7 := kp_trans K5 k7
  have h7 := (h4.next k5).next k7
  have k8 := kp_new w6 (.cells #[.string ⟨#[98]⟩] 9)
  go_wp2_with fail
  refine (texts6_ok A4 _ 1 1 c4 1 _ _ _ (h7.next k8) (XR.new w6 9 [⟨#[98]⟩]) (by omega) (by omega) true (Lib.hid (by decide))).mono ?_
  rintro e w9 ⟨rfl, m9, hw9⟩
  have k9 : Below w6.heap.size w6 w9 := by rw [hw9]; exact k8.trans ((kp_drewN _ m9).mono k8.size)
  clear hw9
  have K9 := kp_trans K7 k9
  go_wp2_with fail
  refine (H3.out w9 (by decide) (hL.next K9)).mono ?_
  rintro e w10 ⟨rfl, k10⟩
  unfold planV
  go_wp2_with fail
  go_ret
  exact ⟨rfl, kp_trans K9 k10⟩
end
end Go.Proofs.YtaimmdhjfccnkaaDoor
