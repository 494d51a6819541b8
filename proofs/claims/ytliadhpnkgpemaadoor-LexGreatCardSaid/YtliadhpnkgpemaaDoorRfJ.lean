/-
  The document's layer 4: which tokens may be, by the call: contract.
-/
import Derived.Test.YtliadhpnkgpemaaDoorRfI
namespace Go.Proofs.YtliadhpnkgpemaaDoor
open Go.RowKit
set_option maxRecDepth 100000

theorem eq_box (s : ByteArray) (k : Int) (w : World) : ∀ u, Below (w.alloc (.cells #[.int .i64 k, .string s] 37)).heap.size (w.alloc (.cells #[.int .i64 k, .string s] 37)) u → u.cell? ⟨w.heap.size, 0, none⟩ = some (.int .i64 k) ∧ u.cell? ⟨w.heap.size, 1, none⟩ = some (.string s) ∧ u.frozen? ⟨w.heap.size, 0, none⟩ = false ∧ u.frozen? ⟨w.heap.size, 1, none⟩ = false := fun u hu => cells2 ((hu.block _ (by simp)).trans (heap_alloc_new w _))

theorem rr_yes {s r2 : ByteArray} {k k2 n2 : Int} {x : Option (Int × List UInt8 × Nat)} (hA : AnsT x 0 k2 r2 n2) (h : k2 = k ∧ r2 = s) : rrOf x k s.data.toList = (n2 == (s.size : Int)) := by
  obtain ⟨rfl, rfl⟩ := h
  have hlen := text_len r2
  cases x with
  | none =>
    obtain rfl : n2 = -1 := hA
    rw [rrOf, eq_comm, beq_eq_false_iff_ne]
    omega
  | some x =>
    obtain ⟨k', t, m⟩ := x
    obtain ⟨rfl, rfl, rfl⟩ := hA
    rw [rrOf, hlen, decide_eq_true rfl, decide_eq_true rfl, Bool.eq_iff_iff]
    simp
    omega
theorem rr_no {s r2 : ByteArray} {k k2 n2 : Int} {x : Option (Int × List UInt8 × Nat)} (hA : AnsT x 0 k2 r2 n2) (h : ¬ (k2 = k ∧ r2 = s)) : rrOf x k s.data.toList = false := by
  cases x with
  | none => rfl
  | some x =>
    obtain ⟨k', t, m⟩ := x
    obtain ⟨rfl, rfl, rfl⟩ := hA
    rw [rrOf]
    by_cases hk : k2 = k
    · rw [decide_eq_false (p := r2.data.toList = s.data.toList) (fun e => h ⟨hk, text_ext e⟩)]
      simp
    · rw [decide_eq_false hk]
      rfl

set_option maxHeartbeats 2000000 in
theorem rright_146 (k : Int) (hk : k = 1 ∨ k = 4 ∨ k = 6) (s : ByteArray) (w : World) (hs : s.size ≤ 1000000) : RightTo 13 k s w := by
  unfold RightTo
  rw [← rright_right]
  have kw := kp_new w (.cells #[.int .i64 k, .string s] 37)
  have hF : rrightF k s.data.toList = if s.data.toList = [] then false else if skipA s.data.toList 0 ≠ 0 then false else rrOf (rtokF s.data.toList) k s.data.toList := by
    unfold rrightF
    rw [if_neg (by omega), if_neg (by omega), if_neg (by omega)]
  have he := eq_empty s
  by_cases h0 : s.size = 0
  · have hn : s.data.toList = [] := List.eq_nil_of_length_eq_zero (by rw [text_len]; exact h0)
    rw [if_pos hn] at hF
    rw [decide_eq_true h0] at he
    have HF := Lib.hid hF
    clear hF hn h0
    rcases hk with rfl | rfl | rfl
    all_goals
      go_enter Tryd.func13, Tryd.ntmps13
      go_wp2_with fail
      go_ret
      exact ⟨by rw [HF.out]; rfl, kw⟩
  have hn : s.data.toList ≠ [] := fun h => h0 (by rw [← text_len, h]; rfl)
  rw [if_neg hn] at hF
  rw [decide_eq_false h0] at he
  obtain ⟨c, r, hl⟩ : ∃ c r, s.data.toList = c :: r := by
    cases h : s.data.toList with
    | nil => exact absurd h hn
    | cons c r => exact ⟨c, r, rfl⟩
  have hS := fun u => skip_ok s 0 c r u hs (by rw [List.drop_zero]; exact hl)
  have e0 : ((0 : Nat) : Int) = 0 := rfl
  rw [e0] at hS
  by_cases h1 : skipA s.data.toList 0 = 0
  · rw [if_neg (by simpa using h1)] at hF
    rw [h1] at hS
    have hT := fun u => token_ok s 0 u hs (by omega)
    unfold TokTo tokV at hT
    rw [List.drop_zero, e0] at hT
    have HF := Lib.hid hF
    have HS := Lib.hid hS
    have HT := Lib.hid hT
    have HC := Lib.hid (eq_box s k w)
    have HL := Lib.hid (text_len s)
    clear hF hS hT hl h0 h1 hn e0
    rcases hk with rfl | rfl | rfl
    all_goals
      go_enter Tryd.func13, Tryd.ntmps13
      go_wp2_with fail
      refine (HS.out _).mono ?_
      rintro e w1 ⟨rfl, k1⟩
      go_wp2_with fail
      refine (HT.out _).mono ?_
      rintro e w2 ⟨k2, r2, n2, rfl, hA, b2⟩
      have K2 := kp_trans k1 b2
      obtain ⟨x0, x1, _, _⟩ := HC.out _ (kp_alloc K2 (.cells #[.int .i64 k2, .string r2] 37))
      have hE := fun kk u => eq_tokens 37 rfl k2 kk r2 s u
      go_wp2_with fail
      all_goals
        go_ret
      · refine ⟨ret_bool ?_, kp_alloc (kp_trans kw K2) _⟩
        rw [HF.out, rr_yes hA (by assumption)]
      · refine ⟨ret_bool ?_, kp_alloc (kp_trans kw K2) _⟩
        rw [HF.out, rr_no hA (by assumption)]
  · rw [if_pos h1] at hF
    have h1b : ((skipA s.data.toList 0) != 0) = true := by simpa using h1
    generalize skipA s.data.toList 0 = x at hS h1b
    have HF := Lib.hid hF
    have HS := Lib.hid hS
    clear hF hS hl h0 h1 hn e0
    rcases hk with rfl | rfl | rfl
    all_goals
      go_enter Tryd.func13, Tryd.ntmps13
      go_wp2_with fail
      refine (HS.out _).mono ?_
      rintro e w1 ⟨rfl, k1⟩
      go_wp2_with fail
      go_ret
      exact ⟨by rw [HF.out]; rfl, kp_trans kw k1⟩

theorem rright_23 (k : Int) (hk : k = 2 ∨ k = 3) (s : ByteArray) (w : World) : RightTo 13 k s w := by
  unfold RightTo
  have hF : rightF k s.data.toList = true := by
    unfold rightF
    rw [if_neg (by omega), if_pos hk]
  have HF := Lib.hid hF
  clear hF
  have kw := kp_new w (.cells #[.int .i64 k, .string s] 37)
  rcases hk with rfl | rfl
  all_goals
    go_enter Tryd.func13, Tryd.ntmps13
    go_wp2_with fail
    go_ret
    exact ⟨by rw [HF.out]; rfl, kw⟩

theorem rright_no (k : Int) (hk : k < 1 ∨ 6 < k) (s : ByteArray) (w : World) : RightTo 13 k s w := by
  unfold RightTo
  have hF : rightF k s.data.toList = false := by
    unfold rightF
    rw [if_neg (by omega), if_neg (by omega), if_neg (by omega), if_neg (by omega), if_neg (by omega)]
  have HF := Lib.hid hF
  clear hF
  have kw := kp_new w (.cells #[.int .i64 k, .string s] 37)
  have e2 : (k == 2) = false := by simp only [beq_eq_false_iff_ne, ne_eq]; omega
  have e3 : (k == 3) = false := by simp only [beq_eq_false_iff_ne, ne_eq]; omega
  have e5 : (k == 5) = false := by simp only [beq_eq_false_iff_ne, ne_eq]; omega
  have n1 : (k != 1) = true := by simp only [bne_iff_ne, ne_eq]; omega
  have n4 : (k != 4) = true := by simp only [bne_iff_ne, ne_eq]; omega
  have n6 : (k != 6) = true := by simp only [bne_iff_ne, ne_eq]; omega
  clear hk
  go_enter Tryd.func13, Tryd.ntmps13
  go_wp2_with fail
  go_ret
  exact ⟨by rw [HF.out]; rfl, kw⟩

set_option maxHeartbeats 1000000 in
theorem rright_5 (s : ByteArray) (w : World) (hs : s.size ≤ 1000000) : RightTo 13 5 s w := by
  unfold RightTo
  rw [← rright_right]
  have kw := kp_new w (.cells #[.int .i64 5, .string s] 37)
  have hF : rrightF 5 s.data.toList = (decide (findF s.data.toList ends2 0 < 0) && decide (trimF s.data.toList = s.data.toList)) := rfl
  have hfi := fun u => rfind_ok s ⟨#[42, 47]⟩ 0 u (Nat.zero_le _) hs (by decide) (by decide)
  rw [show (⟨#[42, 47]⟩ : ByteArray).data.toList = ends2 from rfl, show ((0 : Nat) : Int) = 0 from rfl] at hfi
  have ht := fun u => rtrim_ok s u hs
  generalize findF s.data.toList ends2 0 = x at hF hfi
  have HFi := Lib.hid hfi
  have HT := Lib.hid ht
  clear hfi ht
  by_cases hx : x < 0
  · rw [decide_eq_true hx] at hF
    have HF := Lib.hid hF
    clear hF
    go_enter Tryd.func13, Tryd.ntmps13
    go_wp2_with fail
    refine (HFi.out _).mono ?_
    rintro e w1 ⟨rfl, rfl⟩
    go_wp2_with fail
    refine (HT.out _).mono ?_
    rintro e w1 ⟨r, rfl, hr, rfl⟩
    go_wp2_with fail
    go_ret
    refine ⟨ret_bool ?_, kw⟩
    rw [HF.out, toList_data, toList_data, hr, Bool.eq_iff_iff]
    simp
  · rw [decide_eq_false hx] at hF
    have HF := Lib.hid hF
    clear hF
    go_enter Tryd.func13, Tryd.ntmps13
    go_wp2_with fail
    refine (HFi.out _).mono ?_
    rintro e w1 ⟨rfl, rfl⟩
    go_wp2_with fail
    go_ret
    exact ⟨by rw [HF.out]; rfl, kw⟩

theorem rright_ok (k : Int) (s : ByteArray) (w : World) (hs : s.size ≤ 1000000) : RightTo 13 k s w := by
  by_cases h0 : k < 1 ∨ 6 < k
  · exact rright_no k h0 s w
  by_cases h2 : k = 2 ∨ k = 3
  · exact rright_23 k h2 s w
  by_cases h5 : k = 5
  · subst h5; exact rright_5 s w hs
  exact rright_146 k (by omega) s w hs
end Go.Proofs.YtliadhpnkgpemaaDoor
