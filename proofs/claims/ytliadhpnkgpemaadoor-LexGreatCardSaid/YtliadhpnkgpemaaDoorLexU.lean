/-
  Letters' greatness changes no token where nothing is quoted: plain mathematics.
-/
import Derived.Test.YtliadhpnkgpemaaDoorLexTellsW
import Derived.Test.YtliadhpnkgpemaaDoorLexBk
namespace Go.Proofs.YtliadhpnkgpemaaDoor
open Go.RowKit
set_option maxRecDepth 100000

/-- a change of letters' greatness -/
structure Fold (u : UInt8 → UInt8) : Prop where
  keeps : ∀ c, letterF c = false → u c = c
  letter : ∀ c, letterF c = true → letterF (u c) = true
  up : ∀ c, upF (u c) = upF c
theorem Fold.letterF {u : UInt8 → UInt8} (h : Fold u) (c : UInt8) : Go.Proofs.YtliadhpnkgpemaaDoor.letterF (u c) = Go.Proofs.YtliadhpnkgpemaaDoor.letterF c := by
  cases hl : Go.Proofs.YtliadhpnkgpemaaDoor.letterF c with
  | true => exact h.letter c hl
  | false => rw [h.keeps c hl, hl]
theorem Fold.same {u : UInt8 → UInt8} (h : Fold u) (P : UInt8 → Bool) (hP : ∀ c, Go.Proofs.YtliadhpnkgpemaaDoor.letterF c = true → P c = false) (c : UInt8) : P (u c) = P c := by
  cases hl : Go.Proofs.YtliadhpnkgpemaaDoor.letterF c with
  | true => rw [hP c hl, hP _ (h.letter c hl)]
  | false => rw [h.keeps c hl]
theorem not_letter (P : UInt8 → Bool) (h : ∀ c, (!(letterF c && P c)) = true) : ∀ c, letterF c = true → P c = false := fun c hl => by
  have := h c
  rw [hl] at this
  simpa using this
theorem Fold.lod {u : UInt8 → UInt8} (h : Fold u) (c : UInt8) : lodF (u c) = lodF c := by
  unfold lodF
  rw [h.letterF, h.same digitF (not_letter _ (by_all _ (by decide +kernel)))]
theorem runF_map {u : UInt8 → UInt8} {p : UInt8 → Bool} (h : ∀ c, p (u c) = p c) : ∀ l, runF p (l.map u) = runF p l
  | [] => rfl
  | c :: r => by rw [List.map_cons, runF, runF, h c, runF_map h r]
theorem greatF_map {u : UInt8 → UInt8} (h : Fold u) (l : List UInt8) : greatF (l.map u) = greatF l := by
  unfold greatF
  rw [List.map_map]
  exact List.map_congr_left fun c _ => h.up c
theorem indexByte_map {u : UInt8 → UInt8} (h : ∀ c, (u c == 10) = (c == 10)) : ∀ l, Lib.indexByte (l.map u) 10 = Lib.indexByte l 10
  | [] => rfl
  | c :: r => by rw [List.map_cons, Lib.indexByte, Lib.indexByte, h c, indexByte_map h r]
theorem map_same {u : UInt8 → UInt8} (l : List UInt8) (h : ∀ c ∈ l, u c = c) : l.map u = l := by
  rw [List.map_congr_left h]
  simp

/-- nothing is quoted, and no remark or hint begins -/
def PlainB (l : List UInt8) : Prop := ∀ c ∈ l, c ≠ 34 ∧ c ≠ 39 ∧ c ≠ 96 ∧ c ≠ 42

theorem beg47 (c : UInt8) (r : List UInt8) (h : ∀ d ∈ r, d ≠ 42) : begF [47, 42] (c :: r) = false ∧ begF [47, 42, 43] (c :: r) = false := by
  cases r with
  | nil => simp [begF, Lib.hasPrefix, List.isPrefixOf]
  | cons d r =>
    have hd := h d (by simp)
    exact ⟨beg_snd hd, beg3_snd hd⟩
theorem beg45_map {u : UInt8 → UInt8} (h : Fold u) (c : UInt8) (r : List UInt8) : begF [45, 45] (u c :: r.map u) = begF [45, 45] (c :: r) := by
  have h45 := h.same (fun c => 45 == c) (not_letter _ (by_all _ (by decide +kernel)))
  cases r with
  | nil => simp [begF, Lib.hasPrefix, List.isPrefixOf]
  | cons d r => simp only [begF, Lib.hasPrefix, List.isPrefixOf, List.map_cons, h45]

theorem step_map {u : UInt8 → UInt8} (h : Fold u) (l : List UInt8) (hp : PlainB l) : stepF (l.map u) = stepF l := by
  cases l with
  | nil => rfl
  | cons c r =>
    obtain ⟨c34, c39, c96, c42⟩ := hp c (by simp)
    have hr : ∀ d ∈ r, d ≠ 42 := fun d hd => (hp d (List.mem_cons_of_mem _ hd)).2.2.2
    have h42 := h.same (fun c => c == 42) (not_letter _ (by_all _ (by decide +kernel)))
    have hru : ∀ d ∈ r.map u, d ≠ 42 := fun d hd => by
      obtain ⟨x, hx, rfl⟩ := List.mem_map.1 hd
      have h1 := h42 x
      have h2 : (x == 42) = false := by simpa using hr x hx
      rw [h2] at h1
      simpa using h1
    have hbl := h.same blankF (not_letter _ (by_all _ (by decide +kernel))) c
    have h35 := h.same (fun c => decide (c.toNat = 35)) (not_letter _ (by_all _ (by decide +kernel))) c
    have hln : isLineF (u c :: r.map u) = isLineF (c :: r) := by
      show (decide ((u c).toNat = 35) || begF [45, 45] (u c :: r.map u)) = (decide (c.toNat = 35) || begF [45, 45] (c :: r))
      rw [h35, beg45_map h]
    have hrm : isRemarkF (c :: r) = false := by unfold isRemarkF; rw [(beg47 c r hr).1]; rfl
    have hrmu : isRemarkF (u c :: r.map u) = false := by unfold isRemarkF; rw [(beg47 _ _ hru).1]; rfl
    have hlF : lineF (u c :: r.map u) = lineF (c :: r) := by
      have h10 := h.same (fun c => c == 10) (not_letter _ (by_all _ (by decide +kernel)))
      have := indexByte_map (u := u) h10 (c :: r)
      rw [List.map_cons] at this
      unfold lineF
      rw [this]
      simp
    have hF : firstF (u c :: r.map u) = firstF (c :: r) := by
      have hdg := h.same digitF (not_letter _ (by_all _ (by decide +kernel)))
      have hsg := h.same signF
      have hq1 := h.same (fun c => decide (c.toNat = 34 ∨ c.toNat = 96)) (not_letter _ (by_all _ (by decide +kernel))) c
      have hq2 := h.same (fun c => decide (c.toNat = 39)) (not_letter _ (by_all _ (by decide +kernel))) c
      have n1 : ¬ (c.toNat = 34 ∨ c.toNat = 96) := by
        rintro (e | e)
        · exact c34 (UInt8.toNat_inj.1 e)
        · exact c96 (UInt8.toNat_inj.1 e)
      have n2 : ¬ c.toNat = 39 := fun e => c39 (UInt8.toNat_inj.1 e)
      rw [decide_eq_false n1] at hq1
      rw [decide_eq_false n2] at hq2
      have m1 := of_decide_eq_false hq1
      have m2 := of_decide_eq_false hq2
      have e0 : u c :: r.map u = (c :: r).map u := rfl
      have hrl := runF_map (p := lodF) h.lod (c :: r)
      have hrd := runF_map (p := digitF) hdg (c :: r)
      simp only [firstF]
      rw [h.letterF]
      cases hl : Go.Proofs.YtliadhpnkgpemaaDoor.letterF c with
      | true =>
        simp only [if_true]
        rw [e0, hrl, ← List.map_take, greatF_map h]
      | false =>
        simp only [Bool.false_eq_true, if_false]
        rw [hdg c]
        cases hd : digitF c with
        | true =>
          simp only [if_true]
          rw [e0, hrd, ← List.map_take, map_same]
          intro x hx
          have hxd := runF_all digitF (c :: r) x hx
          exact h.keeps x (digit_no_letter x hxd)
        | false =>
          simp only [Bool.false_eq_true, if_false]
          rw [if_neg n1, if_neg m1, if_neg n2, if_neg m2, (beg47 c r hr).2, (beg47 _ _ hru).2, h.keeps c hl]
          simp only [Bool.false_eq_true, if_false]
    rw [List.map_cons, stepF, stepF, hbl, hln, hrm, hrmu, hlF, hF]
    simp only [Bool.false_eq_true, if_false]

theorem lexF_map {u : UInt8 → UInt8} (h : Fold u) : ∀ (n : Nat) (l : List UInt8), l.length ≤ n → PlainB l → lexF (l.map u) = lexF l
  | 0, l, hn, _ => by
    obtain rfl : l = [] := List.eq_nil_of_length_eq_zero (by omega)
    rfl
  | n + 1, l, hn, hp => by
    by_cases hne : l = []
    · subst hne; rfl
    have hne2 : l.map u ≠ [] := by simpa using hne
    have hl : 0 < l.length := List.length_pos_iff.2 hne
    have hst := step_map h l hp
    have hd : ∀ m, m ≠ 0 → lexF ((l.map u).drop m) = lexF (l.drop m) := fun m hm => by
      rw [← List.map_drop]
      exact lexF_map h n _ (by rw [List.length_drop]; omega) fun c hc => hp c (List.mem_of_mem_drop hc)
    cases hs : stepF l with
    | bad => rw [lexF_bad hne hs, lexF_bad hne2 (hst.trans hs)]
    | skip m =>
      by_cases hm : m = 0
      · rw [lexF, dif_neg hne2, lexF, dif_neg hne, hst, hs]
        simp [hm]
      · rw [lexF_skip hne hs hm, lexF_skip hne2 (hst.trans hs) hm, hd m hm]
    | tok k t m =>
      by_cases hm : m = 0
      · rw [lexF, dif_neg hne2, lexF, dif_neg hne, hst, hs]
        simp [hm]
      · rw [lexF_tok hne hs hm, lexF_tok hne2 (hst.trans hs) hm, hd m hm]
theorem lexA_map {u : UInt8 → UInt8} (h : Fold u) (l : List UInt8) (hp : PlainB l) : lexA (l.map u) = lexA l := by
  unfold lexA
  rw [List.length_map, lexF_map h _ l (Nat.le_refl _) hp]

theorem fold_upper : Fold Lib.upperB := ⟨fun c hl => by
    have := by_all (fun c => letterF c || Lib.upperB c == c) (by decide +kernel) c
    rw [hl] at this
    simpa using this, fun c hl => by
    have := by_all (fun c => !letterF c || letterF (Lib.upperB c)) (by decide +kernel) c
    rw [hl] at this
    simpa using this, fun c => by
    have := by_all (fun c => upF (Lib.upperB c) == upF c) (by decide +kernel) c
    simpa using this⟩
theorem fold_lower : Fold Lib.lowerB := ⟨fun c hl => by
    have := by_all (fun c => letterF c || Lib.lowerB c == c) (by decide +kernel) c
    rw [hl] at this
    simpa using this, fun c hl => by
    have := by_all (fun c => !letterF c || letterF (Lib.lowerB c)) (by decide +kernel) c
    rw [hl] at this
    simpa using this, fun c => by
    have := by_all (fun c => upF (Lib.lowerB c) == upF c) (by decide +kernel) c
    simpa using this⟩
end Go.Proofs.YtliadhpnkgpemaaDoor
