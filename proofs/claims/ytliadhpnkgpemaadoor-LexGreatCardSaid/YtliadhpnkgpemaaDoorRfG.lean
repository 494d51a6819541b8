/-
  The document's layer 4: the token at a place, quotes and signs; all of it: contracts.
-/
import Derived.Test.YtliadhpnkgpemaaDoorRfF
namespace Go.Proofs.YtliadhpnkgpemaaDoor
open Go.RowKit
set_option maxRecDepth 100000

set_option maxHeartbeats 1000000 in
theorem rname_ok (s : ByteArray) (i : Nat) (c : UInt8) (r : List UInt8) (w : World) (hs : s.size ≤ 1000000) (hl : s.data.toList.drop i = c :: r) (h1 : begF [47, 42, 43] (c :: r) = false) (h2 : letterF c = false) (h3 : digitF c = false) (h4 : c.toNat = 34 ∨ c.toNat = 96) :
    TokTo s i w ((quotedF c r).map fun x => (2, x.1, x.2 + 1)) := by
  unfold TokTo tokV
  obtain ⟨hil, hc0⟩ := place hl
  obtain ⟨hB, hz, kw⟩ := tok_block w
  have hP := fun u => rat_ok s ⟨#[47, 42, 43]⟩ i u (by omega) hs (by decide) (by decide)
  rw [show (⟨#[47, 42, 43]⟩ : ByteArray).data.toList = [47, 42, 43] from rfl, hl, h1] at hP
  have H2 := fun u => rletter_ok c u
  rw [h2] at H2
  have H3 := fun u => rdigit_ok c u
  rw [h3] at H3
  have HB := Lib.hid hB
  have HZ := Lib.hid hz
  have HP := Lib.hid hP
  have H2' := Lib.hid H2
  have H3' := Lib.hid H3
  have HL := Lib.hid hl
  clear hB hz hP H2 H3 h1 h2 h3
  have hQ := fun u => between_ok s i c r u hs HL.out
  have HQ := Lib.hid hQ
  have h4b : (((c.toNat : Int) == 34) = true) ∨ (((c.toNat : Int) == 34) = false ∧ ((c.toNat : Int) == 96) = true) := by
    simp only [beq_iff_eq, beq_eq_false_iff_ne, ne_eq]
    omega
  clear hQ h4 hl
  rcases h4b with h4a | ⟨h4a, h4c⟩
  all_goals
    go_enter Tryd.func36, Tryd.ntmps36
    go_wp2_with fail
    refine (HP.out _).mono ?_
    rintro e w1 ⟨rfl, rfl⟩
    go_wp2_with fail
    refine (H2'.out _).mono ?_
    rintro e w1 ⟨rfl, rfl⟩
    go_wp2_with fail
    refine (H3'.out _).mono ?_
    rintro e w1 ⟨rfl, rfl⟩
    go_wp2_with fail
    refine (HQ.out _).mono ?_
    rintro e w2 ⟨rr, n, rfl, hA, k2⟩
    obtain ⟨x0, x1, f0, f1⟩ := cells2 ((k2.block _ HZ.out).trans HB.out)
    go_wp2_with fail
    refine bodyPost_ret (v := .tuple #[.agg #[.int .i64 2, .string rr], .int .i64 n]) ?_ rfl ⟨2, rr, n, rfl, ?_, ?_⟩
    · rw [results_cell_tmp rfl]
      go_simp
    · cases hq : quotedF c r with
      | none => rw [hq] at hA; exact hA
      | some x => rw [hq] at hA; exact ⟨rfl, hA.1, by rw [hA.2]; congr 1; omega⟩
    · exact (((kp_trans kw k2).setCell (Nat.le_refl _) _).setCell (Nat.le_refl _) _)

set_option maxHeartbeats 1000000 in
theorem rstring_ok (s : ByteArray) (i : Nat) (c : UInt8) (r : List UInt8) (w : World) (hs : s.size ≤ 1000000) (hl : s.data.toList.drop i = c :: r) (h1 : begF [47, 42, 43] (c :: r) = false) (h2 : letterF c = false) (h3 : digitF c = false) (h4 : c.toNat = 39) :
    TokTo s i w ((quotedF c r).map fun x => (3, x.1, x.2 + 1)) := by
  unfold TokTo tokV
  obtain ⟨hil, hc0⟩ := place hl
  obtain ⟨hB, hz, kw⟩ := tok_block w
  have hP := fun u => rat_ok s ⟨#[47, 42, 43]⟩ i u (by omega) hs (by decide) (by decide)
  rw [show (⟨#[47, 42, 43]⟩ : ByteArray).data.toList = [47, 42, 43] from rfl, hl, h1] at hP
  have H2 := fun u => rletter_ok c u
  rw [h2] at H2
  have H3 := fun u => rdigit_ok c u
  rw [h3] at H3
  have HB := Lib.hid hB
  have HZ := Lib.hid hz
  have HP := Lib.hid hP
  have H2' := Lib.hid H2
  have H3' := Lib.hid H3
  have HL := Lib.hid hl
  clear hB hz hP H2 H3 h1 h2 h3
  have hQ := fun u => between_ok s i c r u hs HL.out
  have HQ := Lib.hid hQ
  have h4a : ((c.toNat : Int) == 34) = false := by simp only [beq_eq_false_iff_ne, ne_eq]; omega
  have h4b : ((c.toNat : Int) == 96) = false := by simp only [beq_eq_false_iff_ne, ne_eq]; omega
  have h4c : ((c.toNat : Int) == 39) = true := by simp only [beq_iff_eq]; omega
  clear hQ h4 hl
  go_enter Tryd.func36, Tryd.ntmps36
  go_wp2_with fail
  refine (HP.out _).mono ?_
  rintro e w1 ⟨rfl, rfl⟩
  go_wp2_with fail
  refine (H2'.out _).mono ?_
  rintro e w1 ⟨rfl, rfl⟩
  go_wp2_with fail
  refine (H3'.out _).mono ?_
  rintro e w1 ⟨rfl, rfl⟩
  go_wp2_with fail
  refine (HQ.out _).mono ?_
  rintro e w2 ⟨rr, n, rfl, hA, k2⟩
  obtain ⟨x0, x1, f0, f1⟩ := cells2 ((k2.block _ HZ.out).trans HB.out)
  go_wp2_with fail
  refine bodyPost_ret (v := .tuple #[.agg #[.int .i64 3, .string rr], .int .i64 n]) ?_ rfl ⟨3, rr, n, rfl, ?_, ?_⟩
  · rw [results_cell_tmp rfl]
    go_simp
  · cases hq : quotedF c r with
    | none => rw [hq] at hA; exact hA
    | some x => rw [hq] at hA; exact ⟨rfl, hA.1, by rw [hA.2]; congr 1; omega⟩
  · exact (((kp_trans kw k2).setCell (Nat.le_refl _) _).setCell (Nat.le_refl _) _)

set_option maxHeartbeats 1000000 in
theorem rsign_ok (s : ByteArray) (i : Nat) (c : UInt8) (r : List UInt8) (w : World) (hs : s.size ≤ 1000000) (hl : s.data.toList.drop i = c :: r) (h1 : begF [47, 42, 43] (c :: r) = false) (h2 : letterF c = false) (h3 : digitF c = false) (h4 : ¬ (c.toNat = 34 ∨ c.toNat = 96)) (h5 : ¬ c.toNat = 39) :
    TokTo s i w (if 33 ≤ c.toNat ∧ c.toNat ≤ 126 then some (6, [c], 1) else none) := by
  unfold TokTo tokV
  obtain ⟨hil, hc0⟩ := place hl
  obtain ⟨hB, hz, kw⟩ := tok_block w
  have hP := fun u => rat_ok s ⟨#[47, 42, 43]⟩ i u (by omega) hs (by decide) (by decide)
  rw [show (⟨#[47, 42, 43]⟩ : ByteArray).data.toList = [47, 42, 43] from rfl, hl, h1] at hP
  have H2 := fun u => rletter_ok c u
  rw [h2] at H2
  have H3 := fun u => rdigit_ok c u
  rw [h3] at H3
  have HB := Lib.hid hB
  have HZ := Lib.hid hz
  have HP := Lib.hid hP
  have H2' := Lib.hid H2
  have H3' := Lib.hid H3
  have HL := Lib.hid hl
  clear hB hz hP H2 H3 h1 h2 h3
  have h4a : ((c.toNat : Int) == 34) = false := by simp only [beq_eq_false_iff_ne, ne_eq]; omega
  have h4b : ((c.toNat : Int) == 96) = false := by simp only [beq_eq_false_iff_ne, ne_eq]; omega
  have h4c : ((c.toNat : Int) == 39) = false := by simp only [beq_eq_false_iff_ne, ne_eq]; omega
  have ht : (s.extract i (i + 1)).data.toList = [c] := by rw [text_cut, hl, Nat.add_sub_cancel_left]; rfl
  have HT := Lib.hid ht
  have e1 : ((i : Int) + 1).toNat = i + 1 := by omega
  clear h4 h5 hl ht
  by_cases h6 : 33 ≤ c.toNat ∧ c.toNat ≤ 126
  · rw [if_pos h6]
    obtain ⟨h6, h7⟩ := h6
    go_enter Tryd.func36, Tryd.ntmps36
    go_wp2_with fail
    refine (HP.out _).mono ?_
    rintro e w1 ⟨rfl, rfl⟩
    go_wp2_with fail
    refine (H2'.out _).mono ?_
    rintro e w1 ⟨rfl, rfl⟩
    go_wp2_with fail
    refine (H3'.out _).mono ?_
    rintro e w1 ⟨rfl, rfl⟩
    obtain ⟨x0, x1, f0, f1⟩ := cells2 HB.out
    go_wp2_with fail
    refine bodyPost_ret (v := .tuple #[.agg #[.int .i64 6, .string (s.extract i (i + 1))], .int .i64 ((i + 1 : Nat) : Int)]) ?_ rfl ⟨6, s.extract i (i + 1), _, rfl, ⟨rfl, HT.out, rfl⟩, ?_⟩
    · rw [results_cell_tmp rfl]
      go_simp
    · first | exact kw | exact ((kw.setCell (Nat.le_refl _) _).setCell (Nat.le_refl _) _) | exact kp_new _ _
  · rw [if_neg h6]
    have h7 : (¬ 33 ≤ c.toNat) ∨ (33 ≤ c.toNat ∧ ¬ c.toNat ≤ 126) := by omega
    clear h6
    rcases h7 with h6 | ⟨h6, h7⟩
    all_goals
      go_enter Tryd.func36, Tryd.ntmps36
      go_wp2_with fail
      refine (HP.out _).mono ?_
      rintro e w1 ⟨rfl, rfl⟩
      go_wp2_with fail
      refine (H2'.out _).mono ?_
      rintro e w1 ⟨rfl, rfl⟩
      go_wp2_with fail
      refine (H3'.out _).mono ?_
      rintro e w1 ⟨rfl, rfl⟩
      obtain ⟨x0, x1, f0, f1⟩ := cells2 HB.out
      go_wp2_with fail
      refine bodyPost_ret (v := .tuple #[.agg #[.int .i64 0, .string ⟨#[]⟩], .int .i64 (-1)]) ?_ rfl ⟨0, ⟨#[]⟩, -1, rfl, rfl, ?_⟩
      · rw [results_cell_tmp rfl]
        go_simp
      · first | exact kw | exact ((kw.setCell (Nat.le_refl _) _).setCell (Nat.le_refl _) _) | exact kp_new _ _

theorem token_ok (s : ByteArray) (i : Nat) (w : World) (hs : s.size ≤ 1000000) (hi : i < s.size) : TokTo s i w (rtokF (s.data.toList.drop i)) := by
  obtain ⟨c, r, hl⟩ : ∃ c r, s.data.toList.drop i = c :: r := ⟨_, _, List.drop_eq_getElem_cons (by rw [text_len]; exact hi)⟩
  rw [hl, rtokF]
  by_cases h1 : begF [47, 42, 43] (c :: r) = true
  · rw [if_pos h1]; exact rhint_ok s i c r w hs hl h1
  rw [if_neg h1]
  have h1f : begF [47, 42, 43] (c :: r) = false := by simpa using h1
  by_cases h2 : letterF c = true
  · rw [if_pos h2]; exact rword_ok s i c r w hs hl h1f h2
  rw [if_neg h2]
  have h2f : letterF c = false := by simpa using h2
  by_cases h3 : digitF c = true
  · rw [if_pos h3]; exact rnumber_ok s i c r w hs hl h1f h2f h3
  rw [if_neg h3]
  have h3f : digitF c = false := by simpa using h3
  by_cases h4 : c.toNat = 34 ∨ c.toNat = 96
  · rw [if_pos h4]; exact rname_ok s i c r w hs hl h1f h2f h3f h4
  rw [if_neg h4]
  by_cases h5 : c.toNat = 39
  · rw [if_pos h5]; exact rstring_ok s i c r w hs hl h1f h2f h3f h5
  rw [if_neg h5]
  exact rsign_ok s i c r w hs hl h1f h2f h3f h4 h5
end Go.Proofs.YtliadhpnkgpemaaDoor
