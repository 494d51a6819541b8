/-
  Contracts and plain functions that the law stands on, part 5 of 24.
-/
import Derived.Test.YtaoegiohnebnhaaGreatDoorQD4
namespace Go.Proofs.YtaoegiohnebnhaaGreatDoor
/- The document's layer 5: is a word one of some (in), the word of a place (word), has: contracts. -/
section
open Go.RowKit
set_option maxRecDepth 100000

/-- is a word one of some, each between two spaces? -/
def inF (w l : List UInt8) : Bool := decide (w ≠ []) && decide (0 ≤ Lib.index l (32 :: (w ++ [32])))

set_option maxHeartbeats 1000000 in
theorem rin_ok (s t : ByteArray) (w : World) (hs : s.size ≤ 1000000) (ht : t.size ≤ 1000000) :
    Calls Tryz.prog 109 #[.string s, .string t] w fun e w' => e = .returned (.bool (inF s.data.toList t.data.toList)) ∧ w = w' := by
  by_cases h0 : s.data.toList = []
  · have HF : Hid (inF s.data.toList t.data.toList = false) := Lib.hid (by unfold inF; rw [h0]; rfl)
    have he : (s.toList == ([] : List UInt8)) = true := by rw [toList_is]; exact decide_eq_true h0
    clear h0
    go_enter Tryz.func109, Tryz.ntmps109
    go_wp2_with fail
    go_ret
    exact ⟨by rw [HF.out]; rfl, rfl⟩
  have he : (s.toList == ([] : List UInt8)) = false := by rw [toList_is]; exact decide_eq_false h0
  have hF : inF s.data.toList t.data.toList = decide (0 ≤ Lib.index t.data.toList (32 :: (s.data.toList ++ [32]))) := by
    unfold inF
    rw [decide_eq_true h0, Bool.true_and]
  generalize inF s.data.toList t.data.toList = R at *
  have hq : ((⟨#[32]⟩ : ByteArray) ++ s ++ ⟨#[32]⟩).data.toList = 32 :: (s.data.toList ++ [32]) := by simp
  have hqs : ((⟨#[32]⟩ : ByteArray) ++ s ++ ⟨#[32]⟩).size = s.size + 2 := by
    rw [← text_len, hq]
    simp
  have hne : (32 :: (s.data.toList ++ [32]) : List UInt8) ≠ [] := by simp
  have hhit : ∀ k, k ≤ t.size → Lib.occAt t.data.toList (32 :: (s.data.toList ++ [32])) k = true → (∀ j, j < k → Lib.occAt t.data.toList (32 :: (s.data.toList ++ [32])) j = false) → R = true := fun k hks h1 h2 => by
    have := Lib.index_first (s := t.data.toList) (sub := 32 :: (s.data.toList ++ [32])) (i := k) (by rw [text_len]; exact hks) h1 h2
    rw [hF, this]
    exact decide_eq_true (by omega)
  have hmiss : (∀ j, j + (s.size + 2) ≤ t.size → Lib.occAt t.data.toList (32 :: (s.data.toList ++ [32])) j = false) → R = false := fun h => by
    have := Lib.index_none (s := t.data.toList) (sub := 32 :: (s.data.toList ++ [32])) (fun j _ => by
      rcases Nat.lt_or_ge t.size (j + (s.size + 2)) with h1 | h1
      · exact occ_none (by rw [text_len]; simp; omega) hne
      · exact h _ h1)
    rw [hF, this]
    rfl
  have hcut := fun k (h : k + ((⟨#[32]⟩ : ByteArray) ++ s ++ ⟨#[32]⟩).size ≤ t.size) => occ_cut t ((⟨#[32]⟩ : ByteArray) ++ s ++ ⟨#[32]⟩) k h
  rw [hq, hqs] at hcut
  generalize Lib.occAt t.data.toList (32 :: (s.data.toList ++ [32])) = oc at *
  have HH := Lib.hid hhit
  have HM := Lib.hid hmiss
  have HC := Lib.hid hcut
  have HQ := Lib.hid hqs
  clear hF h0 hhit hmiss hcut hq hqs hne
  go_enter Tryz.func109, Tryz.ntmps109
  go_wp2_with fail
  generalize ((⟨#[32]⟩ : ByteArray) ++ s ++ ⟨#[32]⟩) = q at *
  go_loop [5] (fun v => ∃ k : Nat, v = .int .i64 k ∧ k ≤ t.size + 1 ∧ Hid (∀ j, j < k → oc j = false)) (fun v => t.size + 1 - (intOf v).toNat)
  case atStart => exact ⟨0, rfl, by omega, Lib.hid (fun j h => by omega)⟩
  case round =>
    obtain ⟨k, rfl, hks, hno⟩ := hrel
    have hqs := HQ.out
    have hqb : q.size ≤ 1000002 := by omega
    by_cases h : k + q.size ≤ t.size
    · have hc := HC.out k (by omega)
      have h2 : ((k : Int) + (q.size : Int)).toNat = k + q.size := by omega
      have e3 : k + q.size = k + (s.size + 2) := by omega
      rw [← e3] at hc
      clear e3 hqs
      cases hb : oc k
      · rw [hb] at hc
        have hno2 : Hid (∀ j, j < k + 1 → oc j = false) := Lib.hid (fun j h3 => by
          rcases Nat.lt_or_ge j k with h4 | h4
          · exact hno.out j h4
          · obtain rfl : j = k := by omega
            exact hb)
        clear hb
        go_wp2_with fail
        go_round
        case rel => exact ⟨k + 1, by go_num, by omega, hno2⟩
        case measure => simp [intOf]; omega
      · rw [hb] at hc
        have hR := HH.out k (by omega) hb hno.out
        subst hR
        clear hb
        go_wp2_with fail
        go_ret
        exact ⟨rfl, rfl⟩
    · have hR := HM.out (fun j h3 => hno.out j (by omega))
      subst hR
      have hg : ¬ ((k : Int) + (q.size : Int) ≤ (t.size : Int)) := by omega
      clear h hqs
      go_wp2_with fail
      go_ret
      exact ⟨rfl, rfl⟩
end

/- The document's words of layer 5, as plain functions: what stands between spaces, which family a word has. -/
section
open Go.RowKit
set_option maxRecDepth 100000

/-- words, each between two spaces -/
def packF : List (List UInt8) → List UInt8
  | [] => [32]
  | a :: ws => 32 :: (a ++ packF ws)

theorem idx_cons {b : UInt8} {l sub : List UInt8} : 0 ≤ Lib.index (b :: l) sub ↔ sub.isPrefixOf (b :: l) = true ∨ 0 ≤ Lib.index l sub := by
  rw [Lib.index]
  by_cases h : sub.isPrefixOf (b :: l) = true
  · simp [h]
  · rw [if_neg h]
    have hge := Lib.index_ge l sub
    by_cases hm : (Lib.index l sub == -1) = true
    · rw [if_pos hm]
      have : Lib.index l sub = -1 := by simpa using hm
      simp [h, this]
    · rw [if_neg hm]
      have : Lib.index l sub ≠ -1 := by simpa using hm
      simp [h]
      omega
theorem idx_nil {sub : List UInt8} (hs : sub ≠ []) : ¬ 0 ≤ Lib.index [] sub := by
  cases sub with
  | nil => exact absurd rfl hs
  | cons a t => simp [Lib.index]
theorem idx_free {a l w : List UInt8} (h : (32 : UInt8) ∉ a) : 0 ≤ Lib.index (a ++ l) (32 :: w) ↔ 0 ≤ Lib.index l (32 :: w) := by
  induction a with
  | nil => rfl
  | cons b r ih =>
    rw [List.cons_append, idx_cons, ih (fun hm => h (List.mem_cons_of_mem _ hm))]
    have hb : b ≠ 32 := fun e => h (by rw [e]; simp)
    have : (32 :: w : List UInt8).isPrefixOf (b :: (r ++ l)) = false := by simp [List.isPrefixOf, hb.symm]
    rw [this]
    simp
theorem pre_word {w a r : List UInt8} (hw : (32 : UInt8) ∉ w) (ha : (32 : UInt8) ∉ a) : (w ++ [32]).isPrefixOf (a ++ 32 :: r) = decide (w = a) := by
  induction w generalizing a with
  | nil =>
    cases a with
    | nil => simp [List.isPrefixOf]
    | cons b a =>
      have hb : (32 : UInt8) ≠ b := fun e => ha (by rw [← e]; simp)
      simp [List.isPrefixOf, hb]
  | cons c w ih =>
    have hc : c ≠ 32 := fun e => hw (by rw [e]; simp)
    cases a with
    | nil => simp [List.isPrefixOf, hc]
    | cons b a =>
      have := ih (a := a) (fun h => hw (List.mem_cons_of_mem _ h)) (fun h => ha (List.mem_cons_of_mem _ h))
      simp only [List.cons_append, List.isPrefixOf, this]
      by_cases e : c = b <;> simp [e]
theorem packF_head (ws : List (List UInt8)) : ∃ r, packF ws = 32 :: r := by
  cases ws with
  | nil => exact ⟨[], rfl⟩
  | cons a ws => exact ⟨_, rfl⟩
theorem idx_pack {w : List UInt8} (hw : (32 : UInt8) ∉ w) : ∀ ws : List (List UInt8), (∀ a ∈ ws, (32 : UInt8) ∉ a) → (0 ≤ Lib.index (packF ws) (32 :: (w ++ [32])) ↔ w ∈ ws)
  | [], _ => by
    have h1 : (32 :: (w ++ [32]) : List UInt8).isPrefixOf [32] = false := by
      cases w <;> simp [List.isPrefixOf]
    rw [packF, idx_cons, h1]
    have := idx_nil (sub := 32 :: (w ++ [32])) (by simp)
    simp only [this, List.not_mem_nil, or_false]
    simp
  | a :: ws, h => by
    have ha := h a (by simp)
    have ih := idx_pack hw ws (fun x hx => h x (List.mem_cons_of_mem _ hx))
    rw [packF, idx_cons, idx_free ha, ih]
    obtain ⟨r, hr⟩ := packF_head ws
    have : (32 :: (w ++ [32]) : List UInt8).isPrefixOf (32 :: (a ++ packF ws)) = decide (w = a) := by
      rw [hr]
      simp only [List.isPrefixOf, pre_word hw ha]
      simp
    rw [this]
    simp
theorem inF_pack {w : List UInt8} (hw : w = [] ∨ (w ≠ [] ∧ (32 : UInt8) ∉ w)) (ws : List (List UInt8)) (h : ∀ a ∈ ws, (32 : UInt8) ∉ a ∧ a ≠ []) : inF w (packF ws) = decide (w ∈ ws) := by
  unfold inF
  rcases hw with rfl | ⟨h0, h1⟩
  · have : ([] : List UInt8) ∉ ws := fun hm => (h _ hm).2 rfl
    simp [this]
  · rw [decide_eq_true h0, Bool.true_and]
    exact decide_eq_decide.2 (idx_pack h1 ws fun a ha => (h a ha).1)

/-- the word of a token, or none -/
def wd (t : Tok) : List UInt8 := if t.1 = 1 then t.2 else []
def wordAt (l : List Tok) (k : Nat) : List UInt8 := (l[k]?.map wd).getD []
theorem wd_ok {t : Tok} {n : Nat} (h : okTok t n) : wd t = [] ∨ (wd t ≠ [] ∧ (32 : UInt8) ∉ wd t) := by
  unfold wd
  split
  · rename_i h1
    exact .inr (h.2 h1)
  · exact .inl rfl
theorem wordAt_ok {l : List Tok} {n : Nat} (h : ∀ t ∈ l, okTok t n) (k : Nat) : wordAt l k = [] ∨ (wordAt l k ≠ [] ∧ (32 : UInt8) ∉ wordAt l k) := by
  unfold wordAt
  cases hk : l[k]? with
  | none => exact .inl rfl
  | some t => exact wd_ok (h t (List.mem_of_getElem? hk))
theorem mem_wd {t : Tok} {ws : List (List UInt8)} (h : [] ∉ ws) : decide (wd t ∈ ws) = wordF ws t := by
  unfold wd wordF
  by_cases h1 : t.1 = 1
  · rw [if_pos h1, decide_eq_true h1, Bool.true_and]
  · rw [if_neg h1, decide_eq_false h1, decide_eq_false h]
    rfl
theorem headF_word {t : Tok} {r : List Tok} {ws : List (List UInt8)} (h : [] ∉ ws) : headF r ws = decide (wordAt (t :: r) 1 ∈ ws) := by
  unfold headF wordAt
  cases r with
  | nil => simp [h]
  | cons u r => exact (mem_wd h).symm
/- families -/
theorem fam_mem {x : List UInt8} {v : Int} (h : famF x = v) (hv : v ≠ 0) : (x, v) ∈ famL := by
  unfold famF at h
  cases hf : famL.reverse.find? fun p => decide (p.1 = x) with
  | none => rw [hf] at h; exact absurd h.symm hv
  | some p =>
    rw [hf] at h
    have h1 := List.mem_of_find?_eq_some hf
    have h2 := List.find?_some hf
    simp only [decide_eq_true_eq] at h2
    obtain ⟨a, b⟩ := p
    simp at h h1 h2
    rw [← h, ← h2]
    exact h1
def wsShow : List (List UInt8) := [wSHOW, wDESCRIBE, wDESC]
def wsWrite : List (List UInt8) := [wINSERT, wUPDATE, wDELETE, wREPLACE, wCREATE, wDROP, wALTER, wTRUNCATE, wGRANT, wREVOKE, wCALL, wLOCK]
def wsSel : List (List UInt8) := [wSELECT, wVALUES, wTABLE, wWITH]
theorem fam_is (x : List UInt8) (v : Int) (ws : List (List UInt8)) (hv : v ≠ 0) (h1 : ∀ p ∈ famL, p.2 = v → p.1 ∈ ws) (h2 : ∀ a ∈ ws, famF a = v) : decide (x ∈ ws) = decide (famF x = v) := by
  refine decide_eq_decide.2 ⟨fun h => h2 x h, fun h => ?_⟩
  exact h1 _ (fam_mem h hv) rfl
theorem fam_one (x : List UInt8) (v : Int) (a : List UInt8) (hv : v ≠ 0) (h1 : ∀ p ∈ famL, p.2 = v → p.1 = a) (h2 : famF a = v) : decide (x = a) = decide (famF x = v) := by
  refine decide_eq_decide.2 ⟨fun h => by rw [h]; exact h2, fun h => ?_⟩
  exact h1 _ (fam_mem h hv) rfl
theorem famShow (x : List UInt8) : decide (x ∈ wsShow) = decide (famF x = 1) := fam_is x 1 wsShow (by decide) (by decide) (by decide)
theorem famWrite (x : List UInt8) : decide (x ∈ wsWrite) = decide (famF x = 3) := fam_is x 3 wsWrite (by decide) (by decide) (by decide)
theorem famSel (x : List UInt8) : decide (x ∈ wsSel) = decide (famF x = 4 ∨ famF x = 5) := by
  refine decide_eq_decide.2 ⟨fun h => ?_, fun h => ?_⟩
  · revert h
    have : ∀ a ∈ wsSel, famF a = 4 ∨ famF a = 5 := by decide
    exact this x
  · rcases h with h | h
    · exact (by decide : ∀ p ∈ famL, p.2 = 4 → p.1 ∈ wsSel) _ (fam_mem h (by decide)) rfl
    · exact (by decide : ∀ p ∈ famL, p.2 = 5 → p.1 ∈ wsSel) _ (fam_mem h (by decide)) rfl
theorem famExplain (x : List UInt8) : decide (x = wEXPLAIN) = decide (famF x = 2) := fam_one x 2 _ (by decide) (by decide) (by decide)
theorem famWith (x : List UInt8) : decide (x = wWITH) = decide (famF x = 5) := fam_one x 5 _ (by decide) (by decide) (by decide)
theorem famBegin (x : List UInt8) : decide (x = wBEGIN) = decide (famF x = 6) := fam_one x 6 _ (by decide) (by decide) (by decide)
theorem famStart (x : List UInt8) : decide (x = wSTART) = decide (famF x = 7) := fam_one x 7 _ (by decide) (by decide) (by decide)
theorem famCommit (x : List UInt8) : decide (x = wCOMMIT) = decide (famF x = 8) := fam_one x 8 _ (by decide) (by decide) (by decide)
theorem famRollback (x : List UInt8) : decide (x = wROLLBACK) = decide (famF x = 9) := fam_one x 9 _ (by decide) (by decide) (by decide)
theorem famSet (x : List UInt8) : decide (x = wSET) = decide (famF x = 10) := fam_one x 10 _ (by decide) (by decide) (by decide)
theorem fam_out (x : List UInt8) : famF x = 0 ∨ famF x = 1 ∨ famF x = 2 ∨ famF x = 3 ∨ famF x = 4 ∨ famF x = 5 ∨ famF x = 6 ∨ famF x = 7 ∨ famF x = 8 ∨ famF x = 9 ∨ famF x = 10 := by
  by_cases h : famF x = 0
  · exact .inl h
  · have := fam_mem rfl h
    have h2 : ∀ p ∈ famL, p.2 = 1 ∨ p.2 = 2 ∨ p.2 = 3 ∨ p.2 = 4 ∨ p.2 = 5 ∨ p.2 = 6 ∨ p.2 = 7 ∨ p.2 = 8 ∨ p.2 = 9 ∨ p.2 = 10 := by decide
    exact .inr (h2 _ this)
theorem six_sel {x : List UInt8} (h : famF x = 4 ∨ famF x = 5) : x ∉ six := by
  have h1 : decide (x ∈ wsSel) = true := by rw [famSel]; exact decide_eq_true h
  have h2 : ∀ a ∈ wsSel, a ∉ six := by decide
  exact h2 x (of_decide_eq_true h1)
end

/- What is a read has no word that writes: plain functions (no function of the program is named here). -/
section
open Go.RowKit
set_option maxRecDepth 100000

theorem endF_split (l : List Tok) : ∃ st, l = endF l ++ st ∧ ∀ x ∈ st, stopF x = true := by
  refine ⟨(l.reverse.takeWhile stopF).reverse, ?_, fun x hx => ?_⟩
  · unfold endF
    rw [← List.reverse_append, List.takeWhile_append_dropWhile, List.reverse_reverse]
  · exact List.all_eq_true.1 List.all_takeWhile x (List.mem_reverse.1 hx)
end

/- What a statement does, by its tokens: plain functions of lists of tokens (no function of the program is named here). -/
section
open Go.RowKit
set_option maxRecDepth 100000

/-- a String without its text -/
def emptyF (t : Tok) : Tok := if t.1 = 3 then (3, []) else t
def isStrF (t : Tok) : Bool := decide (t.1 = 3)
/-- the texts of the Strings -/
def strsF (l : List Tok) : List (List UInt8) := (l.filter isStrF).map Prod.snd
def keptF (l : List Tok) : List Tok := l.filter fun t => !isHintF t
theorem strsF_append (a b : List Tok) : strsF (a ++ b) = strsF a ++ strsF b := by simp [strsF]
theorem isStr_empty (t : Tok) : isStrF (emptyF t) = isStrF t := by
  unfold emptyF isStrF
  split
  · rename_i h; simp [h]
  · rfl
theorem stop_empty (t : Tok) : stopF (emptyF t) = stopF t := by
  unfold emptyF stopF
  split
  · rename_i h; simp [h]
  · rfl
theorem strsF_empty_len (l : List Tok) : (strsF (l.map emptyF)).length = (strsF l).length := by
  induction l with
  | nil => rfl
  | cons t r ih =>
    simp only [strsF, List.length_map, List.map_cons] at ih ⊢
    rw [List.filter_cons, List.filter_cons, isStr_empty]
    cases isStrF t <;> simp [ih]

/- what ends a text is chopped off -/
def cut2 : List UInt8 := [32, 59]
def chopF (l : List UInt8) : List UInt8 := Lib.trimRightS l cut2
theorem chop_cut {l : List UInt8} {c : UInt8} (h : cut2.contains c = true) : chopF (l ++ [c]) = chopF l := by
  have h' : c ∈ cut2 := by simpa using h
  simp [chopF, Lib.trimRightS, h']
theorem chop_stays {l : List UInt8} {c : UInt8} (h : cut2.contains c = false) : chopF (l ++ [c]) = l ++ [c] := by
  have h' : c ∉ cut2 := by simpa using h
  simp [chopF, Lib.trimRightS, h']

theorem lod_stays (c : UInt8) (h : lodF c = true) : cut2.contains c = false := by
  have := by_all (fun c => !lodF c || !cut2.contains c) (by decide +kernel) c
  rw [h] at this
  simpa using this
theorem sign_stays (c : UInt8) (h : signF c = true) (h2 : c ≠ 59) : cut2.contains c = false := by
  have := by_all (fun c => !signF c || decide (c = 59) || !cut2.contains c) (by decide +kernel) c
  rw [h, decide_eq_false h2] at this
  simpa using this
theorem last_of {l : List UInt8} (h : l ≠ []) : ∃ x c, l = x ++ [c] ∧ c ∈ l := ⟨l.dropLast, l.getLast h, (List.dropLast_concat_getLast h).symm, List.getLast_mem h⟩
/-- how what is written of a token ends -/
theorem written_ends {k : Int} {t : List UInt8} (hr : rightF k t = true) (h5 : k ≠ 5) (hs : stopF (k, t) = false) : ∃ x c, writtenF k t = x ++ [c] ∧ cut2.contains c = false := by
  rcases right_kind hr with rfl | rfl | rfl | rfl | rfl | rfl
  · have hw : writtenF 1 t = t := rfl
    have hF : rightWordF t = true := hr
    rw [hw]
    cases t with
    | nil => simp [rightWordF] at hF
    | cons c r =>
      simp only [rightWordF, Bool.and_eq_true, decide_eq_true_eq] at hF
      obtain ⟨x, d, e, hd⟩ := last_of (l := c :: r) (by simp)
      refine ⟨x, d, e, lod_stays d ?_⟩
      exact runF_all lodF (c :: r) d (by rw [hF.2.1, List.take_length]; exact hd)
  · exact ⟨34 :: twiceF 34 t, 34, rfl, by decide⟩
  · exact ⟨39 :: twiceF 39 t, 39, rfl, by decide⟩
  · have hw : writtenF 4 t = t := rfl
    have hF : (decide (t ≠ []) && decide (runF digitF t = t.length)) = true := hr
    simp only [Bool.and_eq_true, decide_eq_true_eq] at hF
    rw [hw]
    obtain ⟨x, d, e, hd⟩ := last_of hF.1
    refine ⟨x, d, e, lod_stays d ?_⟩
    have := runF_all digitF t d (by rw [hF.2, List.take_length]; exact hd)
    simp [lodF, this]
  · exact absurd rfl h5
  · have hw : writtenF 6 t = t := rfl
    rw [hw]
    cases t with
    | nil => exact absurd hr (by decide)
    | cons c r =>
      cases r with
      | cons d r =>
        have hF : false = true := hr
        cases hF
      | nil =>
        have hF : signF c = true := hr
        refine ⟨[], c, rfl, sign_stays c hF ?_⟩
        rintro rfl
        exact absurd hs (by decide)

theorem stop_is {t : Tok} (h : stopF t = true) : t = (6, [59]) := by
  obtain ⟨k, x⟩ := t
  simp only [stopF, Bool.and_eq_true, decide_eq_true_eq] at h
  rw [h.1, h.2]
/-- what is written of tokens, chopped, is written of those ahead of the signs that end them -/
theorem chop_write : ∀ (n : Nat) (ts : List Tok), ts.length ≤ n → (∀ t ∈ ts, rightF t.1 t.2 = true ∧ t.1 ≠ 5) → chopF (writeF ts) = writeF (endF ts) := by
  intro n
  induction n with
  | zero =>
    intro ts hn _
    obtain rfl : ts = [] := List.eq_nil_of_length_eq_zero (by omega)
    rfl
  | succ n ih =>
    intro ts hn h
    rcases List.eq_nil_or_concat ts with rfl | ⟨L, b, rfl⟩
    · rfl
    rw [List.concat_eq_append] at h hn ⊢
    rw [List.length_append, List.length_singleton] at hn
    have hL : ∀ t ∈ L, rightF t.1 t.2 = true ∧ t.1 ≠ 5 := fun t ht => h t (List.mem_append_left _ ht)
    by_cases hL0 : L = []
    · subst hL0
      cases hs : stopF b with
      | true =>
        obtain rfl := stop_is hs
        rw [endF_stop hs]
        rfl
      | false =>
        rw [endF_last hs]
        obtain ⟨x, c, e, hc⟩ := written_ends (h b (by simp)).1 (h b (by simp)).2 hs
        have e2 : writeF ([] ++ [b]) = writtenF b.1 b.2 := by simp [writeF]
        rw [e2, e, chop_stays hc]
    · rw [writeF_next L b hL0]
      cases hs : stopF b with
      | true =>
        obtain rfl := stop_is hs
        rw [endF_stop hs]
        show chopF (writeF L ++ [32] ++ [59]) = _
        rw [chop_cut (by decide), chop_cut (by decide)]
        exact ih L (by omega) hL
      | false =>
        rw [endF_last hs, writeF_next L b hL0]
        obtain ⟨x, c, e, hc⟩ := written_ends (h b (by simp)).1 (h b (by simp)).2 hs
        rw [e, ← List.append_assoc, chop_stays hc]
theorem write_inj {a b : List Tok} (ha : ∀ t ∈ a, rightF t.1 t.2 = true ∧ t.1 ≠ 5) (hb : ∀ t ∈ b, rightF t.1 t.2 = true ∧ t.1 ≠ 5) (h : writeF a = writeF b) : a = b := by
  have h1 := lex_write a ha
  have h2 := lex_write b hb
  rw [h, h2] at h1
  exact (Option.some.inj h1).symm

/- lexed tokens may be, Hints aside -/
theorem up_up (c : UInt8) : upF (upF c) = upF c := by
  have := by_all (fun c => decide (upF (upF c) = upF c)) (by decide +kernel) c
  simpa using this
theorem up_lod (c : UInt8) (h : lodF c = true) : lodF (upF c) = true := by
  have := by_all (fun c => !lodF c || lodF (upF c)) (by decide +kernel) c
  rw [h] at this
  simpa using this
theorem up_letter (c : UInt8) (h : letterF c = true) : letterF (upF c) = true := by
  have := by_all (fun c => !letterF c || letterF (upF c)) (by decide +kernel) c
  rw [h] at this
  simpa using this
theorem run_of_all {p : UInt8 → Bool} : ∀ (l : List UInt8), (∀ c ∈ l, p c = true) → runF p l = l.length
  | [], _ => rfl
  | c :: r, h => by rw [runF_some (h c (by simp)), run_of_all r fun d hd => h d (List.mem_cons_of_mem _ hd)]; rfl
theorem great_great (l : List UInt8) : greatF (greatF l) = greatF l := by
  simp only [greatF, List.map_map]
  exact List.map_congr_left fun c _ => up_up c
theorem first_right {l : List UInt8} {k : Nat} {t : List UInt8} {n : Nat} (h : firstF l = some (k, t, n)) (h5 : k ≠ 5) : rightF (k : Int) t = true := by
  cases l with
  | nil => simp [firstF] at h
  | cons c r =>
    simp only [firstF] at h
    split at h
    · rename_i hc
      simp only [Option.some.injEq, Prod.mk.injEq] at h
      obtain ⟨rfl, rfl, rfl⟩ := h
      have hl : lodF c = true := by simp [lodF, hc]
      show rightWordF _ = true
      have hall := runF_all lodF (c :: r)
      rw [runF_some hl, List.take_succ_cons] at hall ⊢
      have hlod : ∀ d ∈ greatF (c :: r.take (runF lodF r)), lodF d = true := fun d hd => by
        obtain ⟨b, hb, rfl⟩ := List.mem_map.1 hd
        exact up_lod b (hall b hb)
      have e : greatF (c :: r.take (runF lodF r)) = upF c :: greatF (r.take (runF lodF r)) := rfl
      have hg := great_great (c :: r.take (runF lodF r))
      rw [e] at hlod hg ⊢
      simp only [rightWordF, Bool.and_eq_true, decide_eq_true_eq]
      exact ⟨up_letter c hc, run_of_all _ hlod, hg⟩
    split at h
    · rename_i hd
      simp only [Option.some.injEq, Prod.mk.injEq] at h
      obtain ⟨rfl, rfl, rfl⟩ := h
      show (decide (_ ≠ []) && decide (runF digitF _ = _)) = true
      rw [run_of_all _ (runF_all digitF (c :: r)), runF_some hd, List.take_succ_cons]
      simp
    split at h
    · obtain ⟨x, _, h⟩ := Option.map_eq_some_iff.1 h
      simp only [Prod.mk.injEq] at h
      obtain ⟨rfl, rfl, rfl⟩ := h
      rfl
    split at h
    · obtain ⟨x, _, h⟩ := Option.map_eq_some_iff.1 h
      simp only [Prod.mk.injEq] at h
      obtain ⟨rfl, rfl, rfl⟩ := h
      rfl
    split at h
    · split at h
      · cases h
      · simp only [Option.some.injEq, Prod.mk.injEq] at h
        exact absurd h.1.symm h5
    split at h
    · rename_i hs
      simp only [Option.some.injEq, Prod.mk.injEq] at h
      obtain ⟨rfl, rfl, rfl⟩ := h
      exact hs
    · cases h
theorem lexF_right : ∀ (n : Nat) (l : List UInt8) (x : List Tok), l.length ≤ n → lexF l = some x → ∀ t ∈ x, t.1 ≠ 5 → rightF t.1 t.2 = true := by
  intro n
  induction n with
  | zero =>
    intro l x hl h
    obtain rfl : l = [] := List.eq_nil_of_length_eq_zero (by omega)
    rw [lexF_nil] at h
    injection h with h
    subst h
    simp
  | succ n ih =>
    intro l x hl h
    by_cases hne : l = []
    · subst hne
      rw [lexF_nil] at h
      injection h with h
      subst h
      simp
    have hl0 := List.length_pos_iff.2 hne
    cases hst : stepF l with
    | bad => rw [lexF_bad hne hst] at h; cases h
    | skip m =>
      by_cases hm : m = 0
      · rw [lexF, dif_neg hne, hst] at h
        simp [hm] at h
      · rw [lexF_skip hne hst hm] at h
        exact ih (l.drop m) x (by rw [List.length_drop]; omega) h
    | tok k t m =>
      by_cases hm : m = 0
      · rw [lexF, dif_neg hne, hst] at h
        simp [hm] at h
      · rw [lexF_tok hne hst hm] at h
        obtain ⟨y, hy, rfl⟩ := Option.map_eq_some_iff.1 h
        intro t' ht' h5
        rcases List.mem_cons.1 ht' with rfl | ht'
        · exact first_right (step_tok hst) (fun e => h5 (by rw [e]; rfl))
        · exact ih (l.drop m) y (by rw [List.length_drop]; omega) hy t' ht' h5
theorem lexA_right (l : List UInt8) : ∀ t ∈ (lexA l).1, t.1 ≠ 5 → rightF t.1 t.2 = true := by
  unfold lexA
  split
  · simp
  · cases h : lexF l with
    | none => simp
    | some x => exact lexF_right l.length l x (Nat.le_refl _) h
theorem kept_right {l : List Tok} (h : ∀ t ∈ l, t.1 ≠ 5 → rightF t.1 t.2 = true) : ∀ t ∈ (keptF l).map emptyF, rightF t.1 t.2 = true ∧ t.1 ≠ 5 := by
  intro t ht
  obtain ⟨u, hu, rfl⟩ := List.mem_map.1 ht
  obtain ⟨hu, h5⟩ := List.mem_filter.1 hu
  have h5' : u.1 ≠ 5 := by simpa [isHintF] using h5
  unfold emptyF
  split
  · exact ⟨by decide, by decide⟩
  · exact ⟨h u hu h5', h5'⟩

/- the forms -/
def wFROM : List UInt8 := [70, 82, 79, 77]
def wKV : List UInt8 := [75, 86]
def wWHERE : List UInt8 := [87, 72, 69, 82, 69]
def wV : List UInt8 := [86]
def wK : List UInt8 := [75]
def fGet : List Tok := [(1, wSELECT), (1, wV), (1, wFROM), (1, wKV), (1, wWHERE), (1, wK), (6, [61]), (3, [])]
def fAll : List Tok := [(1, wSELECT), (6, [42]), (1, wFROM), (1, wKV)]
def fPut : List Tok := [(1, wINSERT), (1, wINTO), (1, wKV), (1, wVALUES), (6, [40]), (3, []), (6, [44]), (3, []), (6, [41])]
def fChg : List Tok := [(1, wUPDATE), (1, wKV), (1, wSET), (1, wV), (6, [61]), (3, []), (1, wWHERE), (1, wK), (6, [61]), (3, [])]
def fDel : List Tok := [(1, wDELETE), (1, wFROM), (1, wKV), (1, wWHERE), (1, wK), (6, [61]), (3, [])]
def tGet : ByteArray := ⟨#[83, 69, 76, 69, 67, 84, 32, 86, 32, 70, 82, 79, 77, 32, 75, 86, 32, 87, 72, 69, 82, 69, 32, 75, 32, 61, 32, 39, 39]⟩
def tAll : ByteArray := ⟨#[83, 69, 76, 69, 67, 84, 32, 42, 32, 70, 82, 79, 77, 32, 75, 86]⟩
def tPut : ByteArray := ⟨#[73, 78, 83, 69, 82, 84, 32, 73, 78, 84, 79, 32, 75, 86, 32, 86, 65, 76, 85, 69, 83, 32, 40, 32, 39, 39, 32, 44, 32, 39, 39, 32, 41]⟩
def tChg : ByteArray := ⟨#[85, 80, 68, 65, 84, 69, 32, 75, 86, 32, 83, 69, 84, 32, 86, 32, 61, 32, 39, 39, 32, 87, 72, 69, 82, 69, 32, 75, 32, 61, 32, 39, 39]⟩
def tDel : ByteArray := ⟨#[68, 69, 76, 69, 84, 69, 32, 70, 82, 79, 77, 32, 75, 86, 32, 87, 72, 69, 82, 69, 32, 75, 32, 61, 32, 39, 39]⟩
theorem tGet_is : writeF fGet = tGet.data.toList := by decide
theorem tAll_is : writeF fAll = tAll.data.toList := by decide
theorem tPut_is : writeF fPut = tPut.data.toList := by decide
theorem tChg_is : writeF fChg = tChg.data.toList := by decide
theorem tDel_is : writeF fDel = tDel.data.toList := by decide

/-- what a text says, of its tokens without Hints -/
def shapeF (m : List Tok) : List UInt8 := chopF (writeF (m.map emptyF))
theorem end_map (m : List Tok) : endF (m.map emptyF) = (endF m).map emptyF := by
  unfold endF
  have hc : stopF ∘ emptyF = stopF := funext stop_empty
  rw [List.map_reverse]
  congr 1
  rw [← List.map_reverse, List.dropWhile_map, hc]
theorem shape_iff {l : List Tok} (h : ∀ t ∈ l, t.1 ≠ 5 → rightF t.1 t.2 = true) (f : List Tok) (hf : ∀ t ∈ f, rightF t.1 t.2 = true ∧ t.1 ≠ 5) : shapeF (keptF l) = writeF f ↔ (bodyF l).map emptyF = f := by
  have hk := kept_right h
  unfold shapeF
  rw [chop_write _ _ (Nat.le_refl _) hk, end_map]
  show writeF ((bodyF l).map emptyF) = _ ↔ _
  constructor
  · intro e
    refine write_inj (fun t ht => ?_) hf e
    have e2 : (bodyF l).map emptyF = endF ((keptF l).map emptyF) := (end_map _).symm
    rw [e2] at ht
    obtain ⟨st, e3, _⟩ := endF_split ((keptF l).map emptyF)
    exact hk t (by rw [e3]; exact List.mem_append_left _ ht)
  · rintro rfl
    rfl
theorem strs_body (l : List Tok) : strsF (keptF l) = strsF (bodyF l) := by
  obtain ⟨st, e, hs⟩ := endF_split (keptF l)
  have h0 : strsF st = [] := by
    unfold strsF
    rw [List.filter_eq_nil_iff.2]
    · rfl
    · intro t ht
      obtain rfl := stop_is (hs t ht)
      decide
  have e2 : bodyF l = endF (keptF l) := rfl
  rw [e2]
  conv => lhs; rw [e]
  rw [strsF_append, h0, List.append_nil]

/-- what is done: its number, the key, the value -/
abbrev Doing := Int × List UInt8 × List UInt8
def pickF (m : List Tok) (xs : List (List UInt8)) : Doing :=
  if m = fGet then (1, xs.getD 0 [], [])
  else if m = fAll then (2, [], [])
  else if m = fPut then (3, xs.getD 0 [], xs.getD 1 [])
  else if m = fChg then (4, xs.getD 1 [], xs.getD 0 [])
  else if m = fDel then (5, xs.getD 0 [], [])
  else (0, [], [])
def planF (m : List Tok) : Doing := pickF (m.map emptyF) (strsF m)
def planA (l : List UInt8) : Doing := planF (bodyF (lexA l).1)
theorem planA_lex {l : List UInt8} {ts : List Tok} (h : lexF l = some ts) (hl : l.length ≤ 200) : planA l = planF (bodyF ts) := by
  unfold planA
  rw [show lexA l = (ts, 0) from by unfold lexA; rw [if_neg (by omega), h]]
theorem strs_len {m f : List Tok} (h : m.map emptyF = f) : (strsF m).length = (strsF f).length := by rw [← h, strsF_empty_len]

/- what does something is classed -/
end

/- Tables: rows of pairs as they lie in memory, their order, what is read of them and written to them: plain functions (no function of the program is named here). -/
section
open Go.RowKit
set_option maxRecDepth 100000

/- texts by their bytes -/
theorem bytes_ext {s t : ByteArray} (h : s.toList = t.toList) : s = t := by
  rw [ByteArray.toList_eq, ByteArray.toList_eq] at h
  cases s; cases t
  simp only [ByteArray.mk.injEq]
  exact Array.toList_inj.1 h
theorem rd_own2 {w : World} {A : Option Addr} {xs : List Value} {base n c : Nat} {e : TypeId} (h : w.ownsRow base e 2 (.slice A n c) n xs) : Rd w w.heap.size A xs := by
  rcases h.2 with ⟨_, hn⟩ | ⟨g, cap, cur, hv, _, hg, _⟩
  · exact .inl (List.eq_nil_of_length_eq_zero (by have := h.1; omega))
  · have hA : A = some ⟨g, 0, none⟩ := by injection hv
    subst hA
    exact .inr ⟨_, rfl, (Array.getElem?_eq_some_iff.1 hg).1, h.cells (g := g) rfl⟩
def ltB (a b : ByteArray) : Bool := Op.bytesLess a.toList b.toList
theorem less_irrefl : ∀ a : List UInt8, Op.bytesLess a a = false
  | [] => rfl
  | x :: r => by
    rw [Op.bytesLess, less_irrefl r]
    simp
theorem less_total : ∀ a b : List UInt8, Op.bytesLess a b = false → Op.bytesLess b a = false → a = b
  | [], [], _, _ => rfl
  | [], _ :: _, h, _ => by simp [Op.bytesLess] at h
  | _ :: _, [], _, h => by simp [Op.bytesLess] at h
  | x :: a, y :: b, h, k => by
    simp only [Op.bytesLess, Bool.or_eq_false_iff, decide_eq_false_iff_not, Bool.and_eq_false_iff, beq_eq_false_iff_ne] at h k
    have e : x = y := by
      have h1 := h.1
      have h2 := k.1
      rw [UInt8.lt_iff_toNat_lt] at h1 h2
      exact UInt8.toNat_inj.1 (by omega)
    subst e
    rcases h.2 with h' | h'
    · exact absurd rfl h'
    rcases k.2 with k' | k'
    · exact absurd rfl k'
    rw [less_total a b h' k']
theorem less_trans : ∀ a b c : List UInt8, Op.bytesLess a b = true → Op.bytesLess b c = true → Op.bytesLess a c = true
  | _, [], _, h, _ => by simp [Op.bytesLess] at h
  | _, _ :: _, [], _, h => by simp [Op.bytesLess] at h
  | [], _ :: _, _ :: _, _, _ => rfl
  | x :: a, y :: b, z :: c, h, k => by
    simp only [Op.bytesLess, Bool.or_eq_true, decide_eq_true_eq, Bool.and_eq_true, beq_iff_eq] at h k ⊢
    rcases h with h | ⟨rfl, h⟩
    · rcases k with k | ⟨rfl, _⟩
      · exact .inl (by rw [UInt8.lt_iff_toNat_lt] at h k ⊢; omega)
      · exact .inl h
    · rcases k with k | ⟨rfl, k⟩
      · exact .inl k
      · exact .inr ⟨rfl, less_trans a b c h k⟩
theorem ltB_irrefl (a : ByteArray) : ltB a a = false := less_irrefl _
theorem ltB_total {a b : ByteArray} (h : ltB a b = false) (k : ltB b a = false) : a = b := bytes_ext (less_total _ _ h k)
theorem ltB_trans {a b c : ByteArray} (h : ltB a b = true) (k : ltB b c = true) : ltB a c = true := less_trans _ _ _ h k
theorem ltB_asymm {a b : ByteArray} (h : ltB a b = true) : ltB b a = false := by
  cases k : ltB b a with
  | false => rfl
  | true => rw [← ltB_irrefl a, ← ltB_trans h k]
theorem ltB_ne {a b : ByteArray} (h : ltB a b = true) : a ≠ b := fun e => by rw [e, ltB_irrefl] at h; cases h

/-- a key, its value -/
structure Kv where
  k : ByteArray
  v : ByteArray
deriving DecidableEq
instance : Inhabited Kv := ⟨⟨⟨#[]⟩, ⟨#[]⟩⟩⟩
def Kv.cells (t : Kv) : List Value := [.string t.k, .string t.v]
def kvC (ts : List Kv) : List Value := ts.flatMap Kv.cells
theorem kvC_length : ∀ ts : List Kv, (kvC ts).length = ts.length * 2
  | [] => rfl
  | r :: rs => by
    have := kvC_length rs
    simp only [kvC, List.flatMap_cons, List.length_append, List.length_cons, Kv.cells, List.length_nil] at this ⊢
    omega
theorem kvC_append (a b : List Kv) : kvC (a ++ b) = kvC a ++ kvC b := by simp [kvC]
theorem kvC_at : ∀ (rs : List Kv) (j : Nat) (h : j < rs.length), (kvC rs)[j * 2]? = some (.string rs[j].k) ∧ (kvC rs)[j * 2 + 1]? = some (.string rs[j].v)
  | [], _, h => by simp at h
  | r :: rs, 0, _ => by simp [kvC, Kv.cells]
  | r :: rs, j + 1, h => by
    have := kvC_at rs j (by simpa using h)
    have e1 : (j + 1) * 2 = j * 2 + 2 := by omega
    simp only [kvC, List.flatMap_cons] at this ⊢
    rw [e1]
    simpa [Kv.cells] using this
theorem kvC_next (rs : List Kv) (k : Nat) (h : k < rs.length) : kvC (rs.take (k + 1)) = kvC (rs.take k) ++ [.string rs[k].k, .string rs[k].v] := by
  rw [List.take_succ_eq_append_getElem h, kvC_append]
  simp [kvC, Kv.cells]
theorem kvC_take : ∀ (rs : List Kv) (k : Nat), kvC (rs.take k) = (kvC rs).take (k * 2)
  | _, 0 => by simp [kvC]
  | [], k + 1 => by simp [kvC]
  | r :: rs, k + 1 => by
    have := kvC_take rs k
    have e1 : (k + 1) * 2 = k * 2 + 2 := by omega
    rw [List.take_succ_cons]
    simp only [kvC, List.flatMap_cons] at this ⊢
    rw [this, e1]
    simp [Kv.cells]
theorem kvC_drop : ∀ (rs : List Kv) (k : Nat), kvC (rs.drop k) = (kvC rs).drop (k * 2)
  | _, 0 => by simp [kvC]
  | [], k + 1 => by simp [kvC]
  | r :: rs, k + 1 => by
    have := kvC_drop rs k
    have e1 : (k + 1) * 2 = k * 2 + 2 := by omega
    rw [List.drop_succ_cons]
    simp only [kvC, List.flatMap_cons] at this ⊢
    rw [this, e1]
    simp [Kv.cells]
theorem kvC_one (rs : List Kv) : ∀ u ∈ kvC rs, u.oneCell' = true := by
  intro u hu
  simp only [kvC, List.mem_flatMap] at hu
  obtain ⟨r, _, h⟩ := hu
  simp only [Kv.cells, List.mem_cons, List.not_mem_nil, or_false] at h
  rcases h with rfl | rfl <;> rfl

/-- a row of pairs that is read -/
structure KR (w : World) (A : Option Addr) (n : Nat) (ts : List Kv) : Prop where
  len : ts.length = n
  rd : Rd w w.heap.size A (kvC ts)
theorem KR.next {w w' : World} {A : Option Addr} {n : Nat} {ts : List Kv} (h : KR w A n ts) (hb : Below w.heap.size w w') : KR w' A n ts := ⟨h.len, (h.rd.below hb (Nat.le_refl _)).more hb.size⟩
theorem KR.at_ {w : World} {A : Option Addr} {n : Nat} {ts : List Kv} (h : KR w A n ts) {j : Nat} (hj : j < ts.length) : ∃ ad, A = some ad ∧ ad.block < w.heap.size ∧ ∀ w', Below w.heap.size w w' → w'.cell? (ad.add (j * 2)) = some (.string ts[j].k) ∧ w'.cell? ⟨(ad.add (j * 2)).block, (ad.add (j * 2)).off + 1, none⟩ = some (.string ts[j].v) := by
  obtain ⟨ad, hA, hb, hc⟩ := h.rd.addr (by rw [kvC_length]; omega)
  refine ⟨ad, hA, hb, fun w' hw => ⟨?_, ?_⟩⟩
  · rw [hw.cell (by rw [add_block]; exact hb)]; exact hc _ _ (kvC_at ts j hj).1
  · have e1 : (⟨(ad.add (j * 2)).block, (ad.add (j * 2)).off + 1, none⟩ : Addr) = ad.add (j * 2 + 1) := by rw [← add_add]; rfl
    rw [e1, hw.cell (by rw [add_block]; exact hb)]; exact hc _ _ (kvC_at ts j hj).2

/-- a row of pairs of the call's own -/
structure OK (e : TypeId) (w : World) (base : Nat) (A : Option Addr) (n c : Nat) (ts : List Kv) : Prop where
  own : w.ownsRow base e 2 (.slice A n c) n (kvC ts)
  cap : n ≤ c
section
variable {e : TypeId} {w : World} {base : Nat} {A : Option Addr} {n c : Nat} {ts : List Kv}
theorem OK.len (h : OK e w base A n c ts) : ts.length = n := by
  have := h.own.1
  rw [kvC_length] at this
  omega
theorem OK.kr (h : OK e w base A n c ts) : KR w A n ts := ⟨h.len, rd_own2 h.own⟩
theorem OK.next {w' : World} (h : OK e w base A n c ts) (hb : Below w.heap.size w w') : OK e w' base A n c ts := ⟨own_below_s h.own hb (Nat.le_refl _), h.cap⟩
theorem OK.nil (e : TypeId) (w : World) (base : Nat) : OK e w base none 0 0 [] := ⟨World.ownsRow_nil _ _ _ _, Nat.le_refl _⟩
theorem OK.base_ {base' : Nat} (h : OK e w base A n c ts) (hb : base' ≤ base) : OK e w base' A n c ts := ⟨own_base_s h.own hb, h.cap⟩
theorem OK.push {v : Value} {k r : ByteArray} (h : w.ownsRow base e 2 v (n + 1) (kvC ts ++ [.string k, .string r])) : ∃ A c, v = .slice A (n + 1) c ∧ OK e w base A (n + 1) c (ts ++ [⟨k, r⟩]) := by
  obtain ⟨A, c, rfl, h1, _⟩ := own_form_s h
  exact ⟨A, c, rfl, by rw [kvC_append]; exact h, h1⟩
end

/- order -/
def Srt (l : List Kv) : Prop := l.Pairwise fun a b => ltB a.k b.k = true
theorem Srt.at_ {l : List Kv} (h : Srt l) {i j : Nat} (hj : j < l.length) (hij : i < j) : ltB (l[i]'(by omega)).k l[j].k = true := List.pairwise_iff_getElem.1 h i j (by omega) hj hij
/- places -/
/-- how many keys at the beginning are below one -/
def posF (k : ByteArray) (l : List Kv) : Nat := (l.takeWhile fun p => ltB p.k k).length
theorem posF_le (k : ByteArray) (l : List Kv) : posF k l ≤ l.length := (List.takeWhile_sublist _).length_le
theorem posF_of {k : ByteArray} : ∀ {l : List Kv} {i : Nat}, i ≤ l.length → (∀ j (h : j < l.length), j < i → ltB l[j].k k = true) → (∀ (h : i < l.length), ltB l[i].k k = false) → posF k l = i
  | [], i, hi, _, _ => by
    obtain rfl : i = 0 := by simpa using hi
    rfl
  | a :: r, 0, _, _, h => by
    have := h (by simp)
    simp at this
    simp [posF, this]
  | a :: r, i + 1, hi, h1, h2 => by
    have h0 := h1 0 (by simp) (by omega)
    simp at h0
    have := posF_of (k := k) (l := r) (i := i) (by simpa using hi) (fun j hj hji => by have := h1 (j + 1) (by simpa using hj) (by omega); exact this) (fun h => by have := h2 (by simpa using h); exact this)
    unfold posF at this ⊢
    rw [List.takeWhile_cons, h0]
    simpa using this
theorem posF_lt {k : ByteArray} : ∀ {l : List Kv} {j : Nat} (h : j < l.length), j < posF k l → ltB l[j].k k = true
  | [], _, h, _ => by simp at h
  | a :: r, j, h, hj => by
    unfold posF at hj
    rw [List.takeWhile_cons] at hj
    split at hj
    · rename_i ha
      cases j with
      | zero => exact ha
      | succ j => exact posF_lt (l := r) (by simpa using h) (by simpa [posF] using hj)
    · simp at hj
theorem posF_at {k : ByteArray} : ∀ {l : List Kv} (h : posF k l < l.length), ltB l[posF k l].k k = false
  | [], h => by simp at h
  | a :: r, h => by
    cases ha : ltB a.k k with
    | true =>
      have e : posF k (a :: r) = posF k r + 1 := by
        unfold posF
        rw [List.takeWhile_cons, ha]
        rfl
      simp only [e, List.length_cons, List.getElem_cons_succ] at h ⊢
      exact posF_at (l := r) (by omega)
    | false =>
      have e : posF k (a :: r) = 0 := by
        unfold posF
        rw [List.takeWhile_cons, ha]
        rfl
      simp only [e, List.getElem_cons_zero]
      exact ha
/-- is a key there? -/
def thereF (k : ByteArray) (l : List Kv) : Bool := decide ((l[posF k l]?).map Kv.k = some k)
theorem there_lt {k : ByteArray} {l : List Kv} (h : thereF k l = true) : ∃ hp : posF k l < l.length, l[posF k l].k = k := by
  unfold thereF at h
  simp only [decide_eq_true_eq, Option.map_eq_some_iff] at h
  obtain ⟨a, ha, e⟩ := h
  obtain ⟨hp, e2⟩ := List.getElem?_eq_some_iff.1 ha
  exact ⟨hp, by rw [e2]; exact e⟩
theorem there_at {k : ByteArray} {l : List Kv} (h : posF k l < l.length) : thereF k l = decide (l[posF k l].k = k) := by
  unfold thereF
  rw [List.getElem?_eq_getElem h]
  simp
theorem there_end {k : ByteArray} {l : List Kv} (h : ¬ posF k l < l.length) : thereF k l = false := by
  unfold thereF
  rw [List.getElem?_eq_none (by omega)]
  simp
/-- behind the place the keys are above -/
theorem above_pos {k : ByteArray} {l : List Kv} (hs : Srt l) {j : Nat} (hj : j < l.length) (h : posF k l < j) : ltB k l[j].k = true := by
  have hp : posF k l < l.length := by omega
  have h1 := hs.at_ hj h
  have h2 := posF_at hp
  cases h3 : ltB k l[posF k l].k with
  | true => exact ltB_trans h3 h1
  | false => rw [← ltB_total h2 h3]; exact h1
theorem above_at {k : ByteArray} {l : List Kv} (hp : posF k l < l.length) (ht : thereF k l = false) : ltB k l[posF k l].k = true := by
  rw [there_at hp] at ht
  have h2 := posF_at hp
  cases h3 : ltB k l[posF k l].k with
  | true => rfl
  | false => exact absurd (ltB_total h2 h3) (by simpa using ht)
/- what is read -/
def firstsF (l : List Kv) : List ByteArray := (l.take 10).flatMap fun p => [p.k, p.v]
def readsF (d : Int) (k : ByteArray) (l : List Kv) : List ByteArray :=
  if d = 1 then (if thereF k l then [(l.getD (posF k l) default).v] else []) else if d = 2 then firstsF l else []
/- what is written -/
def restF (k : ByteArray) (l : List Kv) : List Kv := if thereF k l then l.drop (posF k l + 1) else l.drop (posF k l)
def writesF (d : Int) (k v : ByteArray) (l : List Kv) : List Kv × Int :=
  if d = 3 ∨ (d = 4 ∧ thereF k l = true) then (l.take (posF k l) ++ ⟨k, v⟩ :: restF k l, 1)
  else if d = 5 ∧ thereF k l = true then (l.take (posF k l) ++ restF k l, 1)
  else (l, 0)

theorem rest_above {k : ByteArray} {l : List Kv} (hs : Srt l) : ∀ p ∈ restF k l, ltB k p.k = true := by
  intro p hp
  unfold restF at hp
  split at hp
  · rename_i ht
    obtain ⟨j, hj, e⟩ := List.getElem_of_mem hp
    rw [List.length_drop] at hj
    rw [List.getElem_drop] at e
    have := above_pos (k := k) hs (j := posF k l + 1 + j) (by omega) (by omega)
    rw [e] at this
    exact this
  · rename_i ht
    obtain ⟨j, hj, e⟩ := List.getElem_of_mem hp
    rw [List.length_drop] at hj
    rw [List.getElem_drop] at e
    by_cases h0 : j = 0
    · subst h0
      have := above_at (k := k) (l := l) (by omega) (by simpa using ht)
      simp only [Nat.add_zero] at e
      rw [e] at this
      exact this
    · have := above_pos (k := k) hs (j := posF k l + j) (by omega) (by omega)
      rw [e] at this
      exact this
theorem front_below {k : ByteArray} {l : List Kv} : ∀ p ∈ l.take (posF k l), ltB p.k k = true := by
  intro p hp
  obtain ⟨j, hj, e⟩ := List.getElem_of_mem hp
  rw [List.length_take] at hj
  rw [List.getElem_take] at e
  have := posF_lt (k := k) (l := l) (j := j) (by omega) (by omega)
  rw [e] at this
  exact this
theorem rest_sub (k : ByteArray) (l : List Kv) : (restF k l).Sublist l := by
  unfold restF
  split <;> exact List.drop_sublist _ _
theorem parts_sub (k : ByteArray) (l : List Kv) : (l.take (posF k l) ++ restF k l).Sublist l := by
  have e : l = l.take (posF k l) ++ l.drop (posF k l) := (List.take_append_drop _ _).symm
  conv => rhs; rw [e]
  refine List.Sublist.append (List.Sublist.refl _) ?_
  unfold restF
  split
  · rw [← List.drop_drop]
    exact List.drop_sublist _ _
  · exact List.Sublist.refl _
theorem writes_srt (d : Int) (k v : ByteArray) {l : List Kv} (hs : Srt l) : Srt (writesF d k v l).1 := by
  unfold writesF
  split
  · show Srt (l.take (posF k l) ++ ⟨k, v⟩ :: restF k l)
    unfold Srt
    rw [List.pairwise_append, List.pairwise_cons]
    refine ⟨hs.sublist (List.take_sublist _ _), ⟨rest_above hs, hs.sublist (rest_sub k l)⟩, fun a ha b hb => ?_⟩
    rcases List.mem_cons.1 hb with rfl | hb
    · exact front_below a ha
    · exact ltB_trans (front_below a ha) (rest_above hs b hb)
  split
  · exact hs.sublist (parts_sub k l)
  · exact hs
end

/- A node, plain: an epoch, does it lead it, a log, transactions by connections; what each call answers and leaves (no function of the program is named here). -/
section
open Go.RowKit
set_option maxRecDepth 100000

/-- bytes as a text -/
def ba (l : List UInt8) : ByteArray := ⟨l.toArray⟩
theorem ba_text (s : ByteArray) : ba s.data.toList = s := by cases s; rfl
/-- an entry of a log -/
structure Lg where
  e : Int
  t : ByteArray
deriving DecidableEq
instance : Inhabited Lg := ⟨⟨0, ⟨#[]⟩⟩⟩
/-- a connection's transaction -/
structure Op15 where
  c : Int
  ts : List ByteArray
deriving DecidableEq
instance : Inhabited Op15 := ⟨⟨0, []⟩⟩
structure Nd where
  ep : Int
  ld : Bool
  lg : List Lg
  op : List Op15
/-- a reply: the error, the epoch, how many entries, texts -/
structure Rp where
  e : Int
  ep : Int
  pl : Int
  ts : List ByteArray
def newNd : Nd := ⟨1, false, [], []⟩
def opOf (c : Int) : List Op15 → Option (List ByteArray)
  | [] => none
  | o :: r => if o.c = c then some o.ts else opOf c r
def dropOp (c : Int) (l : List Op15) : List Op15 := l.filter fun o => !decide (o.c = c)
def putOp (c : Int) (ts : List ByteArray) : List Op15 → List Op15
  | [] => []
  | o :: r => if o.c = c then ⟨c, ts⟩ :: r else o :: putOp c ts r
/-- what a text does -/
def wrT (l : List Kv) (s : ByteArray) : List Kv := (writesF (planA s.data.toList).1 (ba (planA s.data.toList).2.1) (ba (planA s.data.toList).2.2) l).1
def rdT (s : ByteArray) (l : List Kv) : List ByteArray := readsF (planA s.data.toList).1 (ba (planA s.data.toList).2.1) l
def clsT (s : ByteArray) : Int := classA s.data.toList
/-- a log's table, and texts behind it -/
def tabN (lg : List Lg) (ts : List ByteArray) : List Kv := ts.foldl wrT ((lg.map Lg.t).foldl wrT [])
def leadNd (n : Nd) (e : Int) : Nd := if e < n.ep then n else ⟨e, true, n.lg, []⟩
def closeNd (n : Nd) (c : Int) : Nd := { n with op := dropOp c n.op }
def layNd (n : Nd) (ts : List ByteArray) : Int × Nd := if 200 < n.lg.length + ts.length then (5, n) else (0, { n with lg := n.lg ++ ts.map fun t => ⟨n.ep, t⟩ })
/-- a statement that doesn't read, by its class -/
def doNd (n : Nd) (c is : Int) (s : ByteArray) : Int × Nd :=
  match opOf c n.op with
  | some ts =>
    if is = 3 then (7, n) else if is = 4 then layNd (closeNd n c) ts else if is = 5 then (0, closeNd n c)
    else if is = 2 ∨ is = 7 then (if 200 ≤ ts.length then (5, n) else (0, { n with op := putOp c (ts ++ [s]) n.op })) else (0, n)
  | none =>
    if is = 4 ∨ is = 5 then (7, n) else if is = 3 then (0, { n with op := n.op ++ [⟨c, []⟩] })
    else if is = 2 ∨ is = 7 then layNd n [s] else (0, n)
/-- why nothing is done -/
def whyNd (n : Nd) (e : Int) (rd : Bool) (is : Int) : Int :=
  if e ≠ n.ep then 8 else if is = 0 ∨ (rd = true ∧ is ≠ 1) then 2 else if rd = false ∧ n.ld = false then 7 else 0
def waitsNd (n : Nd) (c : Int) : List ByteArray := (opOf c n.op).getD []
def runNd (n : Nd) (c e : Int) (rd : Bool) (s : ByteArray) : Rp × Nd :=
  if whyNd n e rd (clsT s) ≠ 0 then (⟨whyNd n e rd (clsT s), n.ep, n.lg.length, []⟩, n)
  else if clsT s ≠ 1 then (⟨(doNd n c (clsT s) s).1, (doNd n c (clsT s) s).2.ep, (doNd n c (clsT s) s).2.lg.length, []⟩, (doNd n c (clsT s) s).2)
  else (⟨0, n.ep, n.lg.length, rdT s (tabN n.lg (waitsNd n c))⟩, n)
/-- how many entries both begin with alike -/
def sameLg : List Lg → List Lg → Nat
  | a :: r, b :: q => if a = b then sameLg r q + 1 else 0
  | _, _ => 0
/-- ahead of a copy -/
def turnNd (n f : Nd) : Nd := if n.ep < f.ep then ⟨f.ep, false, n.lg, []⟩ else n
def manyNd (n f : Nd) (m : Int) : Nat := min (f.lg.length - sameLg n.lg f.lg) m.toNat
def copyNd (n f : Nd) (m : Int) : Int × Nd :=
  if f.ep < n.ep ∨ (f.ep = n.ep ∧ n.ld = true) then (0, n)
  else (manyNd n f m, { turnNd n f with lg := f.lg.take (sameLg n.lg f.lg + manyNd n f m) })

theorem sameLg_le : ∀ (a b : List Lg), sameLg a b ≤ a.length ∧ sameLg a b ≤ b.length
  | [], _ => ⟨Nat.zero_le _, Nat.zero_le _⟩
  | _ :: _, [] => ⟨Nat.zero_le _, Nat.zero_le _⟩
  | a :: r, b :: q => by
    unfold sameLg
    have := sameLg_le r q
    split
    · simp only [List.length_cons]; omega
    · exact ⟨Nat.zero_le _, Nat.zero_le _⟩
theorem sameLg_take : ∀ (a b : List Lg), a.take (sameLg a b) = b.take (sameLg a b)
  | [], _ => by simp [sameLg]
  | _ :: _, [] => by simp [sameLg]
  | a :: r, b :: q => by
    unfold sameLg
    split
    · rename_i h
      rw [List.take_succ_cons, List.take_succ_cons, h, sameLg_take r q]
    · rfl
theorem sameLg_at : ∀ (a b : List Lg) (k : Nat) (ha : k < a.length) (hb : k < b.length), k < sameLg a b → a[k] = b[k]
  | a :: r, b :: q, 0, _, _, h => by
    unfold sameLg at h
    split at h
    · assumption
    · omega
  | a :: r, b :: q, k + 1, ha, hb, h => by
    unfold sameLg at h
    split at h
    · exact sameLg_at r q k (by simpa using ha) (by simpa using hb) (by omega)
    · omega
theorem sameLg_ne : ∀ (a b : List Lg) (ha : sameLg a b < a.length) (hb : sameLg a b < b.length), a[sameLg a b] ≠ b[sameLg a b]
  | [], _, ha, _ => by simp at ha
  | _ :: _, [], _, hb => by simp at hb
  | a :: r, b :: q, ha, hb => by
    by_cases h : a = b
    · have e : sameLg (a :: r) (b :: q) = sameLg r q + 1 := by rw [sameLg, if_pos h]
      simp only [e, List.length_cons, List.getElem_cons_succ] at ha hb ⊢
      exact sameLg_ne r q (by omega) (by omega)
    · have e : sameLg (a :: r) (b :: q) = 0 := by rw [sameLg, if_neg h]
      simp only [e, List.getElem_cons_zero]
      exact h
/-- a walk along both: how far they are alike -/
theorem sameLg_of {a b : List Lg} {k : Nat} (h1 : k ≤ a.length) (h2 : k ≤ b.length) (he : a.take k = b.take k) (hn : ∀ (ha : k < a.length) (hb : k < b.length), a[k] ≠ b[k]) : sameLg a b = k := by
  have hlt : ∀ j (ha : j < a.length) (hb : j < b.length), j < k → a[j] = b[j] := fun j ha hb hj => by
    have h3 : (a.take k)[j]? = (b.take k)[j]? := by rw [he]
    rw [List.getElem?_take_of_lt hj, List.getElem?_take_of_lt hj, List.getElem?_eq_getElem ha, List.getElem?_eq_getElem hb] at h3
    exact Option.some.inj h3
  rcases Nat.lt_trichotomy (sameLg a b) k with h | h | h
  · have := sameLg_ne a b (by omega) (by omega)
    exact absurd (hlt _ _ _ h) this
  · exact h
  · have := sameLg_le a b
    exact absurd (sameLg_at a b k (by omega) (by omega) h) (hn (by omega) (by omega))

theorem opOf_none {c : Int} : ∀ {l : List Op15}, opOf c l = none ↔ ∀ o ∈ l, o.c ≠ c
  | [] => by simp [opOf]
  | o :: r => by
    unfold opOf
    by_cases h : o.c = c
    · simp [h]
    · rw [if_neg h, opOf_none]
      simp [h]
/-- where a connection's transaction stands -/
theorem opOf_at {c : Int} : ∀ {l : List Op15} {k : Nat} (hk : k < l.length), (∀ j (hj : j < l.length), j < k → l[j].c ≠ c) → l[k].c = c → opOf c l = some l[k].ts
  | o :: r, 0, _, _, h => if_pos h
  | o :: r, k + 1, hk, h1, h2 => by
    have h0 : o.c ≠ c := h1 0 (by simp) (by omega)
    unfold opOf
    rw [if_neg h0]
    exact opOf_at (l := r) (k := k) (by simpa using hk) (fun j hj hjk => by have := h1 (j + 1) (by simpa using hj) (by omega); exact this) h2
theorem dropOp_at {c : Int} : ∀ {l : List Op15} {k : Nat} (hk : k < l.length), (l.map Op15.c).Nodup → l[k].c = c → dropOp c l = l.take k ++ l.drop (k + 1)
  | o :: r, 0, _, hn, h => by
    obtain rfl : o.c = c := h
    rw [List.map_cons, List.nodup_cons] at hn
    unfold dropOp
    rw [List.filter_cons_of_neg (by simp)]
    simp only [List.take_zero, List.nil_append, List.drop_succ_cons, List.drop_zero]
    exact List.filter_eq_self.2 fun x hx => by
      have : x.c ≠ o.c := fun e => hn.1 (e ▸ List.mem_map.2 ⟨x, hx, rfl⟩)
      simpa using this
  | o :: r, k + 1, hk, hn, h => by
    rw [List.map_cons, List.nodup_cons] at hn
    have hkr : k < r.length := by simpa using hk
    have ho : o.c ≠ c := fun e => hn.1 (by
      rw [e, ← h]
      exact List.mem_map.2 ⟨_, List.getElem_mem hkr, rfl⟩)
    have := dropOp_at (l := r) hkr hn.2 h
    unfold dropOp at this ⊢
    rw [List.filter_cons_of_pos (by simpa using ho), this]
    rfl
theorem dropOp_no {c : Int} {l : List Op15} (h : ∀ o ∈ l, o.c ≠ c) : dropOp c l = l := List.filter_eq_self.2 fun x hx => by simpa using h x hx
theorem putOp_at {c : Int} (ts : List ByteArray) : ∀ {l : List Op15} {k : Nat} (hk : k < l.length), (∀ j (hj : j < l.length), j < k → l[j].c ≠ c) → l[k].c = c → putOp c ts l = l.set k ⟨c, ts⟩
  | o :: r, 0, _, _, h => if_pos h
  | o :: r, k + 1, hk, h1, h2 => by
    have h0 : o.c ≠ c := h1 0 (by simp) (by omega)
    unfold putOp
    rw [if_neg h0, List.set_cons_succ, putOp_at ts (l := r) (k := k) (by simpa using hk) (fun j hj hjk => by have := h1 (j + 1) (by simpa using hj) (by omega); exact this) h2]
theorem dropOp_sub (c : Int) (l : List Op15) : (dropOp c l).Sublist l := List.filter_sublist
theorem dropOp_of (c d : Int) : ∀ l : List Op15, opOf d (dropOp c l) = if d = c then none else opOf d l
  | [] => by simp [dropOp, opOf]
  | o :: r => by
    have ih := dropOp_of c d r
    unfold dropOp at ih ⊢
    by_cases h : o.c = c
    · rw [List.filter_cons_of_neg (by simpa using h), ih]
      by_cases hd : d = c
      · rw [if_pos hd, if_pos hd]
      · rw [if_neg hd, if_neg hd, opOf, if_neg (fun e => hd (e.symm.trans h))]
    · rw [List.filter_cons_of_pos (by simpa using h), opOf, ih]
      by_cases hd : d = c
      · rw [if_pos hd, if_pos hd, if_neg (fun e => h (e.trans hd))]
      · rw [if_neg hd, if_neg hd]
        rfl
theorem putOp_of (c d : Int) (ts : List ByteArray) : ∀ l : List Op15, opOf d (putOp c ts l) = if d = c then (opOf c l).map fun _ => ts else opOf d l
  | [] => by simp [putOp, opOf]
  | o :: r => by
    have ih := putOp_of c d ts r
    unfold putOp
    by_cases h : o.c = c
    · rw [if_pos h]
      by_cases hd : d = c
      · rw [if_pos hd, opOf, if_pos hd.symm, opOf, if_pos h]
        rfl
      · rw [if_neg hd, opOf, if_neg (fun e => hd (Eq.symm e)), opOf, if_neg (fun e => hd (e.symm.trans h))]
    · rw [if_neg h, opOf, ih]
      by_cases hd : d = c
      · rw [if_pos hd, if_pos hd, if_neg (fun e => h (e.trans hd)), opOf, if_neg h]
      · rw [if_neg hd, if_neg hd]
        rfl
theorem putOp_cs (c : Int) (ts : List ByteArray) : ∀ l : List Op15, (putOp c ts l).map Op15.c = l.map Op15.c
  | [] => rfl
  | o :: r => by
    unfold putOp
    split
    · rename_i h; rw [List.map_cons, List.map_cons, h]
    · rw [List.map_cons, List.map_cons, putOp_cs c ts r]

/-- texts that are not too long -/
def Sm (s : ByteArray) : Prop := s.size ≤ 300
/-- a node as it comes to be -/
structure NdI (k : Nat) (n : Nd) : Prop where
  e0 : 0 ≤ n.ep
  eu : n.ep < 18446744073709551616
  lg : n.lg.length ≤ 200
  lt : ∀ x ∈ n.lg, Sm x.t ∧ 0 ≤ x.e ∧ x.e < 18446744073709551616
  nd : (n.op.map Op15.c).Nodup
  ol : n.op.length ≤ k
  oc : ∀ o ∈ n.op, -9223372036854775808 ≤ o.c ∧ o.c ≤ 9223372036854775807 ∧ o.ts.length ≤ 200 ∧ ∀ s ∈ o.ts, Sm s
section
variable {k : Nat} {n f : Nd}
theorem NdI.new : NdI 0 newNd := ⟨by decide, by decide, Nat.zero_le _, (fun _ h => nomatch h), List.nodup_nil, Nat.le_refl _, (fun _ h => nomatch h)⟩
theorem NdI.more {k' : Nat} (h : NdI k n) (hk : k ≤ k') : NdI k' n := { h with ol := Nat.le_trans h.ol hk }
theorem NdI.lead (h : NdI k n) {e : Int} (h0 : 0 ≤ e) (h1 : e < 18446744073709551616) : NdI k (leadNd n e) := by
  unfold leadNd
  split
  · exact h
  · exact ⟨h0, h1, h.lg, h.lt, List.nodup_nil, Nat.zero_le _, (fun _ h => nomatch h)⟩
theorem NdI.close (h : NdI k n) (c : Int) : NdI k (closeNd n c) :=
  { h with
    nd := List.Sublist.nodup (List.Sublist.map _ (dropOp_sub c n.op)) h.nd
    ol := Nat.le_trans (dropOp_sub c n.op).length_le h.ol
    oc := fun o ho => h.oc o ((dropOp_sub c n.op).subset ho) }
theorem NdI.lay (h : NdI k n) {ts : List ByteArray} (ht : ∀ s ∈ ts, Sm s) : NdI k (layNd n ts).2 := by
  unfold layNd
  split
  · exact h
  · rename_i hl
    refine { h with lg := by simpa using by omega, lt := fun x hx => ?_ }
    rcases List.mem_append.1 hx with hx | hx
    · exact h.lt x hx
    · obtain ⟨s, hs, rfl⟩ := List.mem_map.1 hx
      exact ⟨ht s hs, h.e0, h.eu⟩
theorem opOf_mem {c : Int} {ts : List ByteArray} : ∀ {l : List Op15}, opOf c l = some ts → ∃ o ∈ l, o.c = c ∧ o.ts = ts
  | o :: r, h => by
    unfold opOf at h
    split at h
    · rename_i e
      exact ⟨o, by simp, e, Option.some.inj h⟩
    · obtain ⟨q, hq, h2⟩ := opOf_mem h
      exact ⟨q, List.mem_cons_of_mem _ hq, h2⟩
theorem putOp_mem {c : Int} {ts : List ByteArray} : ∀ {l : List Op15} {o : Op15}, o ∈ putOp c ts l → o ∈ l ∨ o = ⟨c, ts⟩
  | q :: r, o, h => by
    unfold putOp at h
    split at h
    · rcases List.mem_cons.1 h with h | h
      · exact .inr h
      · exact .inl (List.mem_cons_of_mem _ h)
    · rcases List.mem_cons.1 h with h | h
      · exact .inl (by rw [h]; simp)
      · exact (putOp_mem h).imp (List.mem_cons_of_mem _) id
theorem putOp_len (c : Int) (ts : List ByteArray) (l : List Op15) : (putOp c ts l).length = l.length := by
  have := congrArg List.length (putOp_cs c ts l)
  simpa using this
theorem NdI.does (h : NdI k n) {c is : Int} {s : ByteArray} (hs : Sm s) (h0 : -9223372036854775808 ≤ c) (h1 : c ≤ 9223372036854775807) : NdI (k + 1) (doNd n c is s).2 := by
  unfold doNd
  cases ho : opOf c n.op with
  | some ts =>
    obtain ⟨o, hm, hc, rfl⟩ := opOf_mem ho
    obtain ⟨_, _, h4, h5⟩ := h.oc o hm
    dsimp only
    split
    · exact h.more (Nat.le_succ k)
    split
    · exact ((h.close c).lay h5).more (Nat.le_succ k)
    split
    · exact (h.close c).more (Nat.le_succ k)
    split
    · split
      · exact h.more (Nat.le_succ k)
      · rename_i hf
        refine { h with nd := by show ((putOp _ _ _).map Op15.c).Nodup; rw [putOp_cs]; exact h.nd, ol := by show (putOp _ _ _).length ≤ k + 1; rw [putOp_len]; exact Nat.le_succ_of_le h.ol, oc := fun q hq => ?_ }
        rcases putOp_mem hq with hq | rfl
        · exact h.oc q hq
        · refine ⟨h0, h1, by simp; omega, fun x hx => ?_⟩
          rcases List.mem_append.1 hx with hx | hx
          · exact h5 x hx
          · rw [List.mem_singleton.1 hx]; exact hs
    · exact h.more (Nat.le_succ k)
  | none =>
    dsimp only
    split
    · exact h.more (Nat.le_succ k)
    split
    · refine { h with nd := ?_, ol := by simpa using h.ol, oc := fun q hq => ?_ }
      · show ((n.op ++ [Op15.mk c []]).map Op15.c).Nodup
        rw [List.map_append, List.nodup_append]
        refine ⟨h.nd, by simp, fun a ha b hb => ?_⟩
        obtain ⟨o, ho', rfl⟩ := List.mem_map.1 ha
        have : b = c := by simpa using hb
        subst this
        exact opOf_none.1 ho o ho'
      · rcases List.mem_append.1 hq with hq | hq
        · exact h.oc q hq
        · rw [List.mem_singleton.1 hq]
          exact ⟨h0, h1, by simp, (fun _ h => nomatch h)⟩
    split
    · exact (h.lay (ts := [s]) fun x hx => by rw [List.mem_singleton.1 hx]; exact hs).more (Nat.le_succ k)
    · exact h.more (Nat.le_succ k)
theorem NdI.run (h : NdI k n) {c e : Int} {rd : Bool} {s : ByteArray} (hs : Sm s) (h0 : -9223372036854775808 ≤ c) (h1 : c ≤ 9223372036854775807) : NdI (k + 1) (runNd n c e rd s).2 := by
  unfold runNd
  split
  · exact h.more (Nat.le_succ k)
  split
  · exact h.does hs h0 h1
  · exact h.more (Nat.le_succ k)
theorem NdI.copy {kf : Nat} (h : NdI k n) (hf : NdI kf f) (m : Int) : NdI k (copyNd n f m).2 := by
  unfold copyNd
  split
  · exact h
  · have hl : (f.lg.take (sameLg n.lg f.lg + manyNd n f m)).length ≤ 200 := Nat.le_trans (by rw [List.length_take]; exact Nat.min_le_right _ _) hf.lg
    have ht : ∀ x ∈ f.lg.take (sameLg n.lg f.lg + manyNd n f m), Sm x.t ∧ 0 ≤ x.e ∧ x.e < 18446744073709551616 := fun x hx => hf.lt x (List.mem_of_mem_take hx)
    unfold turnNd
    split
    · exact ⟨hf.e0, hf.eu, hl, ht, List.nodup_nil, Nat.zero_le _, (fun _ h => nomatch h)⟩
    · exact { h with lg := hl, lt := ht }
end
/-- tables are tables, and not too long -/
theorem wrT_srt {l : List Kv} (s : ByteArray) (h : Srt l) : Srt (wrT l s) := writes_srt _ _ _ h
theorem wrT_len (l : List Kv) (s : ByteArray) : (wrT l s).length ≤ l.length + 1 := by
  unfold wrT writesF
  have hp := posF_le (ba (planA s.data.toList).2.1) l
  split
  · unfold restF
    split <;> simp <;> omega
  · split
    · unfold restF
      split <;> simp <;> omega
    · exact Nat.le_succ _
theorem folds_srt : ∀ (ts : List ByteArray) {l : List Kv}, Srt l → Srt (ts.foldl wrT l)
  | [], _, h => h
  | s :: r, _, h => folds_srt r (wrT_srt s h)
theorem folds_len : ∀ (ts : List ByteArray) (l : List Kv), (ts.foldl wrT l).length ≤ l.length + ts.length
  | [], _ => Nat.le_refl _
  | s :: r, l => by
    have h1 := folds_len r (wrT l s)
    have h2 := wrT_len l s
    simp only [List.foldl_cons, List.length_cons]
    omega
theorem tabN_srt (lg : List Lg) (ts : List ByteArray) : Srt (tabN lg ts) := folds_srt _ (folds_srt _ List.Pairwise.nil)
theorem tabN_len (lg : List Lg) (ts : List ByteArray) : (tabN lg ts).length ≤ lg.length + ts.length := by
  have h1 := folds_len ts ((lg.map Lg.t).foldl wrT [])
  have h2 := folds_len (lg.map Lg.t) []
  simp only [List.length_map, List.length_nil] at h2
  unfold tabN
  omega
/-- where a connection's transaction stands; below 0: it has none -/
def idxOp (c : Int) : List Op15 → Int
  | [] => -1
  | o :: r => if o.c = c then 0 else if idxOp c r < 0 then -1 else idxOp c r + 1
theorem idxOp_ge (c : Int) : ∀ l : List Op15, -1 ≤ idxOp c l
  | [] => Int.le_refl _
  | o :: r => by
    have := idxOp_ge c r
    unfold idxOp
    split
    · omega
    · split <;> omega
theorem idxOp_at {c : Int} : ∀ {l : List Op15} {k : Nat} (hk : k < l.length), (∀ j (hj : j < l.length), j < k → l[j].c ≠ c) → l[k].c = c → idxOp c l = k
  | o :: r, 0, _, _, h => if_pos h
  | o :: r, k + 1, hk, h1, h2 => by
    have h0 : o.c ≠ c := h1 0 (by simp) (by omega)
    have ih := idxOp_at (l := r) (k := k) (by simpa using hk) (fun j hj hjk => by have := h1 (j + 1) (by simpa using hj) (by omega); exact this) h2
    unfold idxOp
    rw [if_neg h0, ih, if_neg (by omega)]
    omega
theorem idxOp_none {c : Int} : ∀ {l : List Op15}, (∀ o ∈ l, o.c ≠ c) → idxOp c l = -1
  | [], _ => rfl
  | o :: r, h => by
    unfold idxOp
    rw [if_neg (h o (by simp)), idxOp_none (fun q hq => h q (List.mem_cons_of_mem _ hq)), if_pos (by omega)]
theorem idxOp_is {c : Int} : ∀ {l : List Op15} {k : Nat}, idxOp c l = k → ∃ hk : k < l.length, l[k].c = c ∧ ∀ j (hj : j < l.length), j < k → l[j].c ≠ c
  | [], k, h => by simp [idxOp] at h
  | o :: r, k, h => by
    unfold idxOp at h
    split at h
    · rename_i e
      obtain rfl : k = 0 := by omega
      exact ⟨by simp, e, fun j _ hj => absurd hj (Nat.not_lt_zero _)⟩
    · rename_i e
      split at h
      · omega
      · obtain ⟨k', rfl⟩ : ∃ k', k = k' + 1 := ⟨k - 1, by have := idxOp_ge c r; omega⟩
        obtain ⟨hk, h1, h2⟩ := idxOp_is (c := c) (l := r) (k := k') (by omega)
        refine ⟨by simpa using hk, h1, fun j hj hjk => ?_⟩
        cases j with
        | zero => exact e
        | succ j => exact h2 j (by simpa using hj) (by omega)
theorem idxOp_no {c : Int} : ∀ {l : List Op15}, idxOp c l < 0 → ∀ o ∈ l, o.c ≠ c
  | [], _, _, h => nomatch h
  | o :: r, h, q, hq => by
    unfold idxOp at h
    split at h
    · omega
    · rename_i e
      split at h
      · rename_i h2
        rcases List.mem_cons.1 hq with rfl | hq
        · exact e
        · exact idxOp_no h2 q hq
      · have := idxOp_ge c r; omega
theorem idxOp_of {c : Int} {l : List Op15} {k : Nat} (h : idxOp c l = k) : ∃ hk : k < l.length, opOf c l = some l[k].ts := by
  obtain ⟨hk, h1, h2⟩ := idxOp_is h
  exact ⟨hk, opOf_at hk h2 h1⟩
/-- entries as cells -/
def lgC (l : List Lg) : List Value := l.flatMap fun x => [.int .u64 x.e, .string x.t]
theorem lgC_append (a b : List Lg) : lgC (a ++ b) = lgC a ++ lgC b := by simp [lgC]
theorem lgC_length : ∀ ts : List Lg, (lgC ts).length = ts.length * 2
  | [] => rfl
  | r :: rs => by
    have := lgC_length rs
    simp only [lgC, List.flatMap_cons, List.length_append, List.length_cons, List.length_nil] at this ⊢
    omega
theorem lgC_at : ∀ (rs : List Lg) (j : Nat) (h : j < rs.length), (lgC rs)[j * 2]? = some (.int .u64 rs[j].e) ∧ (lgC rs)[j * 2 + 1]? = some (.string rs[j].t)
  | [], _, h => by simp at h
  | r :: rs, 0, _ => by simp [lgC]
  | r :: rs, j + 1, h => by
    have := lgC_at rs j (by simpa using h)
    have e1 : (j + 1) * 2 = j * 2 + 2 := by omega
    simp only [lgC, List.flatMap_cons] at this ⊢
    rw [e1]
    simpa using this
theorem lgC_one : ∀ (l : List Lg), ∀ u ∈ lgC l, u.oneCell' = true
  | [], _, h => by simp [lgC] at h
  | c :: cs, u, h => by
    simp only [lgC, List.flatMap_cons, List.mem_append, List.mem_cons, List.not_mem_nil, or_false] at h
    rcases h with (rfl | rfl) | h
    · rfl
    · rfl
    · exact lgC_one cs u h
/-- a row of entries that is read -/
structure LR (w : World) (A : Option Addr) (n : Nat) (ts : List Lg) : Prop where
  len : ts.length = n
  rd : Rd w w.heap.size A (lgC ts)
theorem LR.next {w w' : World} {A : Option Addr} {n : Nat} {ts : List Lg} (h : LR w A n ts) (hb : Below w.heap.size w w') : LR w' A n ts := ⟨h.len, (h.rd.below hb (Nat.le_refl _)).more hb.size⟩
theorem LR.off {w w' : World} {A : Option Addr} {n : Nat} {ts : List Lg} (h : LR w A n ts) (hz : w.heap.size ≤ w'.heap.size) (hk : ∀ ad, A = some ad → w'.heap[ad.block]? = w.heap[ad.block]?) : LR w' A n ts := by
  refine ⟨h.len, ?_⟩
  rcases h.rd with h | ⟨ad, e, hlt, hc⟩
  · exact .inl h
  · exact .inr ⟨ad, e, Nat.lt_of_lt_of_le hlt hz, fun j u hu => (World.cell?_of_block (by rw [add_block]; exact hk ad e)).trans (hc j u hu)⟩
theorem LR.nil (w : World) : LR w none 0 [] := ⟨rfl, .inl rfl⟩
theorem LR.of_own {w : World} {base n c : Nat} {e : TypeId} {A : Option Addr} {ts : List Lg} (h : w.ownsRow base e 2 (.slice A n c) n (lgC ts)) : LR w A n ts := ⟨by have := h.1; rw [lgC_length] at this; omega, rd_own2 h⟩
theorem LR.at_ {w : World} {A : Option Addr} {n : Nat} {ts : List Lg} (h : LR w A n ts) {j : Nat} (hj : j < ts.length) : ∃ ad, A = some ad ∧ ad.block < w.heap.size ∧ ∀ w', Below w.heap.size w w' → w'.cell? (ad.add (j * 2)) = some (.int .u64 ts[j].e) ∧ w'.cell? ⟨(ad.add (j * 2)).block, (ad.add (j * 2)).off + 1, none⟩ = some (.string ts[j].t) := by
  obtain ⟨ad, hA, hb, hc⟩ := h.rd.addr (by rw [lgC_length]; omega)
  have key : ∀ (w' : World) (i : Nat) (v : Value), Below w.heap.size w w' → (lgC ts)[j * 2 + i]? = some v → w'.cell? (ad.add (j * 2 + i)) = some v := fun w' i v hw hv => by
    rw [hw.cell (by rw [add_block]; exact hb)]
    exact hc _ _ hv
  obtain ⟨e0, e1⟩ := lgC_at ts j hj
  have a1 : ∀ i, i ≠ 0 → (⟨(ad.add (j * 2)).block, (ad.add (j * 2)).off + i, none⟩ : Addr) = ad.add (j * 2 + i) := fun i hi => by rw [← add_add]; unfold Addr.add; simp [hi]
  refine ⟨ad, hA, hb, fun w' hw => ⟨key w' 0 _ hw e0, ?_⟩⟩
  rw [a1 1 (by decide)]
  exact key w' 1 _ hw e1
end
end Go.Proofs.YtaoegiohnebnhaaGreatDoor
