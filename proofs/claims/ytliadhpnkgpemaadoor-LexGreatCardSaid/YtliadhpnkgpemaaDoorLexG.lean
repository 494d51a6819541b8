/-
  Which tokens may be, by package lex: contracts.
-/
import Derived.Test.YtliadhpnkgpemaaDoorLexF
namespace Go.Proofs.YtliadhpnkgpemaaDoor
open Go.RowKit
set_option maxRecDepth 100000

def rightWordF : List UInt8 → Bool
  | [] => false
  | c :: r => letterF c && (decide (runF lodF (c :: r) = (c :: r).length) && decide (greatF (c :: r) = c :: r))

theorem toList_data (s : ByteArray) : s.toList = s.data.toList := ByteArray.toList_eq s
theorem run_all_ascii {l : List UInt8} (h : runF lodF l = l.length) : ∀ c ∈ l, c.toNat < 128 := fun c hc => lod_ascii c (runF_all lodF l c (by rw [h, List.take_length]; exact hc))

set_option maxHeartbeats 1000000 in
theorem rightWord_ok (s : ByteArray) (w : World) (hs : s.size ≤ 1000000) : Calls Tryd.prog 37 #[.string s] w fun e w' => e = .returned (.bool (rightWordF s.data.toList)) ∧ Below w.heap.size w w' := by
  by_cases h0 : s.size = 0
  · have hn : s.data.toList = [] := List.eq_nil_of_length_eq_zero (by rw [text_len]; exact h0)
    have he : (s.toList == ([] : List UInt8)) = true := by rw [toList_data, hn]; rfl
    have hF : rightWordF s.data.toList = false := by rw [hn]; rfl
    have HF := Lib.hid hF
    clear hF hn h0
    go_enter Tryd.func37, Tryd.ntmps37
    go_wp2_with fail
    go_ret
    exact ⟨by rw [HF.out]; rfl, Below.refl _ _⟩
  have hn : 0 < s.size := by omega
  have he : (s.toList == ([] : List UInt8)) = false := by
    rw [toList_data, beq_eq_false_iff_ne]
    intro h
    have := congrArg List.length h
    rw [text_len] at this
    exact h0 this
  obtain ⟨c, r, hl⟩ : ∃ c r, s.data.toList = c :: r := by
    cases h : s.data.toList with
    | nil => have := text_len s; rw [h] at this; simp at this; omega
    | cons c r => exact ⟨c, r, rfl⟩
  have hc0 : s[0] = c := by rw [text_at s 0 hn]; simp [hl]
  have hF : rightWordF s.data.toList = (letterF c && (decide (runF lodF s.data.toList = s.size) && decide (greatF s.data.toList = s.data.toList))) := by
    rw [← text_len, hl]; rfl
  have H1 := fun u => isLetter_ok c u
  clear h0
  by_cases h1 : letterF c = true
  · rw [h1] at H1 hF
    have hr := fun u => run_lod s u hs
    have hall := run_all_ascii (l := s.data.toList)
    rw [text_len] at hall
    by_cases h2 : runF lodF s.data.toList = s.size
    · have hg := fun u => great_ok s u hs (hall h2)
      rw [h2] at hr
      rw [decide_eq_true h2] at hF
      have H1' := Lib.hid H1
      have HR := Lib.hid hr
      have HG := Lib.hid hg
      have HF := Lib.hid hF
      clear H1 hr hg hF hall h2 h1 hl
      go_enter Tryd.func37, Tryd.ntmps37
      go_wp2_with fail
      refine (H1'.out _).mono ?_
      rintro e w1 ⟨rfl, rfl⟩
      go_wp2_with fail
      refine (HR.out _).mono ?_
      rintro e w2 ⟨rfl, k2⟩
      go_wp2_with fail
      refine (HG.out _).mono ?_
      rintro e w3 ⟨r, rfl, hr, k3⟩
      go_wp2_with fail
      go_ret
      refine ⟨ret_bool ?_, kp_trans k2 k3⟩
      rw [HF.out, toList_data, toList_data, hr, Bool.eq_iff_iff]
      simp
    · have h2b : ((runF lodF s.data.toList : Int) == (s.size : Int)) = false := by simp only [beq_eq_false_iff_ne, ne_eq]; omega
      rw [decide_eq_false h2] at hF
      have H1' := Lib.hid H1
      have HR := Lib.hid hr
      have HF := Lib.hid hF
      clear H1 hr hF hall h2 h1 hl
      go_enter Tryd.func37, Tryd.ntmps37
      go_wp2_with fail
      refine (H1'.out _).mono ?_
      rintro e w1 ⟨rfl, rfl⟩
      go_wp2_with fail
      refine (HR.out _).mono ?_
      rintro e w2 ⟨rfl, k2⟩
      go_wp2_with fail
      go_ret
      exact ⟨by rw [HF.out]; rfl, k2⟩
  · have h1f : letterF c = false := by simpa using h1
    rw [h1f] at H1 hF
    have H1' := Lib.hid H1
    have HF := Lib.hid hF
    clear H1 hF h1 h1f hl
    go_enter Tryd.func37, Tryd.ntmps37
    go_wp2_with fail
    refine (H1'.out _).mono ?_
    rintro e w1 ⟨rfl, rfl⟩
    go_wp2_with fail
    go_ret
    exact ⟨by rw [HF.out]; rfl, Below.refl _ _⟩

def rightF (k : Int) (l : List UInt8) : Bool :=
  if k = 1 then rightWordF l
  else if k = 2 ∨ k = 3 then true
  else if k = 4 then decide (l ≠ []) && decide (runF digitF l = l.length)
  else if k = 5 then !Lib.contains l ends2 && decide (trimF l = l)
  else if k = 6 then (match l with | [c] => signF c | _ => false)
  else false

/-- one answer of Right -/
def RightTo (f : FuncId) (k : Int) (s : ByteArray) (w : World) : Prop := Calls Tryd.prog f #[.agg #[.int .i64 k, .string s]] w fun e w' => e = .returned (.bool (rightF k s.data.toList)) ∧ Below w.heap.size w w'

theorem eq_empty (s : ByteArray) : (s.toList == ([] : List UInt8)) = decide (s.size = 0) := by
  rw [toList_data, Bool.eq_iff_iff]
  simp only [beq_iff_eq, decide_eq_true_eq]
  rw [← text_len]
  exact List.length_eq_zero_iff.symm

set_option maxHeartbeats 1000000 in
theorem right_1 (s : ByteArray) (w : World) (hs : s.size ≤ 1000000) : RightTo 12 1 s w := by
  unfold RightTo
  have hF : rightF 1 s.data.toList = rightWordF s.data.toList := rfl
  have H := fun u => rightWord_ok s u hs
  rw [hF]
  generalize rightWordF s.data.toList = b at H
  have H' := Lib.hid H
  clear H hF
  have kw := kp_new w (.cells #[.int .i64 1, .string s] 24)
  go_enter Tryd.func12, Tryd.ntmps12
  go_wp2_with fail
  refine (H'.out _).mono ?_
  rintro e w1 ⟨rfl, k1⟩
  go_wp2_with fail
  go_ret
  exact ⟨rfl, kp_trans kw k1⟩

theorem right_23 (k : Int) (hk : k = 2 ∨ k = 3) (s : ByteArray) (w : World) : RightTo 12 k s w := by
  unfold RightTo
  have hF : rightF k s.data.toList = true := by
    unfold rightF
    rw [if_neg (by omega), if_pos hk]
  have HF := Lib.hid hF
  clear hF
  have kw := kp_new w (.cells #[.int .i64 k, .string s] 24)
  rcases hk with rfl | rfl
  all_goals
    go_enter Tryd.func12, Tryd.ntmps12
    go_wp2_with fail
    go_ret
    exact ⟨by rw [HF.out]; rfl, kw⟩

theorem right_no (k : Int) (hk : k < 1 ∨ 6 < k) (s : ByteArray) (w : World) : RightTo 12 k s w := by
  unfold RightTo
  have hF : rightF k s.data.toList = false := by
    unfold rightF
    rw [if_neg (by omega), if_neg (by omega), if_neg (by omega), if_neg (by omega), if_neg (by omega)]
  have HF := Lib.hid hF
  clear hF
  have kw := kp_new w (.cells #[.int .i64 k, .string s] 24)
  have e1 : (k == 1) = false := by simp only [beq_eq_false_iff_ne, ne_eq]; omega
  have e2 : (k == 2) = false := by simp only [beq_eq_false_iff_ne, ne_eq]; omega
  have e3 : (k == 3) = false := by simp only [beq_eq_false_iff_ne, ne_eq]; omega
  have e4 : (k == 4) = false := by simp only [beq_eq_false_iff_ne, ne_eq]; omega
  have e5 : (k == 5) = false := by simp only [beq_eq_false_iff_ne, ne_eq]; omega
  have e6 : (k == 6) = false := by simp only [beq_eq_false_iff_ne, ne_eq]; omega
  clear hk
  go_enter Tryd.func12, Tryd.ntmps12
  go_wp2_with fail
  go_ret
  exact ⟨by rw [HF.out]; rfl, kw⟩

set_option maxHeartbeats 1000000 in
theorem right_6 (s : ByteArray) (w : World) : RightTo 12 6 s w := by
  unfold RightTo
  have kw := kp_new w (.cells #[.int .i64 6, .string s] 24)
  have hF : rightF 6 s.data.toList = (match s.data.toList with | [c] => signF c | _ => false) := rfl
  by_cases h1 : s.size = 1
  · obtain ⟨c, hl⟩ : ∃ c, s.data.toList = [c] := List.length_eq_one_iff.1 (by rw [text_len]; exact h1)
    have hn : 0 < s.size := by omega
    have hc0 : s[0] = c := by rw [text_at s 0 hn]; simp [hl]
    rw [hl] at hF
    simp only at hF
    have H := fun u => isSign_ok c u
    have h1b : ((s.size : Int) == 1) = true := by simp only [beq_iff_eq]; omega
    rw [hl, hF]
    generalize signF c = b at H
    have H' := Lib.hid H
    clear H hF hl h1
    go_enter Tryd.func12, Tryd.ntmps12
    go_wp2_with fail
    refine (H'.out _).mono ?_
    rintro e w1 ⟨rfl, rfl⟩
    go_wp2_with fail
    go_ret
    exact ⟨rfl, kw⟩
  · have h1b : ((s.size : Int) == 1) = false := by simp only [beq_eq_false_iff_ne, ne_eq]; omega
    have hF2 : rightF 6 s.data.toList = false := by
      rw [hF]
      have := text_len s
      match h : s.data.toList with
      | [] => rfl
      | [c] => rw [h] at this; simp at this; omega
      | _ :: _ :: _ => rfl
    have HF := Lib.hid hF2
    clear hF hF2 h1
    go_enter Tryd.func12, Tryd.ntmps12
    go_wp2_with fail
    go_ret
    exact ⟨by rw [HF.out]; rfl, kw⟩
end Go.Proofs.YtliadhpnkgpemaaDoor
