/-
  A hint, and the token that a text begins with: contracts.
-/
import Derived.Test.YtliadhpnkgpemaaDoorLexD
namespace Go.Proofs.YtliadhpnkgpemaaDoor
open Go.RowKit
set_option maxRecDepth 100000

def hintF (l : List UInt8) : Option (List UInt8 × Nat) := if closedF l 3 = 0 then none else some (trimF ((l.take (closedF l 3 - 2)).drop 3), closedF l 3)

set_option maxHeartbeats 1000000 in
theorem hint_ok (s : ByteArray) (w : World) (hs : s.size ≤ 1000000) (h3 : 3 ≤ s.size) (hL : Lw w) :
    Calls Tryd.prog 64 #[.string s] w fun e w' => ∃ k r n, e = .returned (.tuple #[tokV k r, .int .i64 (n : Nat)]) ∧ Ans1 ((hintF s.data.toList).map fun x => (5, x.1, x.2)) k r n ∧ Below w.heap.size w w' := by
  unfold tokV
  have hcl := closedF_le s.data.toList 3 (by rw [text_len]; exact h3)
  rw [text_len] at hcl
  have hF : hintF s.data.toList = if closedF s.data.toList 3 = 0 then none else some (trimF ((s.data.toList.take (closedF s.data.toList 3 - 2)).drop 3), closedF s.data.toList 3) := rfl
  have b0 := heap_alloc_new w (.cells #[.int .i64 0, .string ⟨#[]⟩] 24)
  have kw := kp_new w (.cells #[.int .i64 0, .string ⟨#[]⟩] 24)
  have hz : w.heap.size < (w.alloc (.cells #[.int .i64 0, .string ⟨#[]⟩] 24)).heap.size := by simp
  have hC := closedSize_ok s 3 _ hs h3 (hL.next kw)
  generalize hint0 : hintF s.data.toList = R at hF ⊢
  clear hint0
  have HZ := Lib.hid hz
  have HB := Lib.hid b0
  clear b0 hz
  by_cases h0 : closedF s.data.toList 3 = 0
  · rw [if_pos h0] at hF
    rw [h0] at hC
    have HC := Lib.hid hC
    subst hF
    clear hC h0 hcl
    go_enter Tryd.func64, Tryd.ntmps64
    go_wp2_with fail
    refine HC.out.mono ?_
    rintro e w1 ⟨rfl, rfl⟩
    obtain ⟨x0, x1, f0, f1⟩ := cells2 HB.out
    go_wp2_with fail
    refine bodyPost_ret (v := .tuple #[.agg #[.int .i64 0, .string ⟨#[]⟩], .int .i64 ((0 : Nat) : Int)]) ?_ rfl ⟨0, ⟨#[]⟩, 0, rfl, ⟨rfl, rfl, rfl⟩, ?_⟩
    · rw [results_cell_tmp rfl]
      go_simp
    · exact kw
  · rw [if_neg h0] at hF
    have h5 := hcl.2 h0
    have hle := hcl.1
    have hT := trim_s (s.extract 3 (closedF s.data.toList 3 - 2)) (w.alloc (.cells #[.int .i64 0, .string ⟨#[]⟩] 24)) (by rw [ByteArray.size_extract]; omega)
    rw [text_cut, show (s.data.toList.drop 3).take (closedF s.data.toList 3 - 2 - 3) = (s.data.toList.take (closedF s.data.toList 3 - 2)).drop 3 from by rw [List.drop_take]] at hT
    generalize closedF s.data.toList 3 = n at hF hC hT h0 h5 hle
    have HF := Lib.hid hF
    have HC := Lib.hid hC
    have HT := Lib.hid hT
    have hsub : ((n : Int) + -2).toNat = n - 2 := by omega
    clear hF hC hT hcl
    go_enter Tryd.func64, Tryd.ntmps64
    go_wp2_with fail
    refine HC.out.mono ?_
    rintro e w1 ⟨rfl, rfl⟩
    go_wp2_with fail
    refine HT.out.mono ?_
    rintro e w1 ⟨r, rfl, hr, k1⟩
    obtain ⟨x0, x1, f0, f1⟩ := cells2 ((k1.block _ HZ.out).trans HB.out)
    go_wp2_with fail
    refine bodyPost_ret (v := .tuple #[.agg #[.int .i64 5, .string r], .int .i64 (n : Int)]) ?_ rfl ⟨5, r, n, rfl, ?_, ?_⟩
    · rw [results_cell_tmp rfl]
      go_simp
    · rw [HF.out]
      exact ⟨rfl, hr, rfl⟩
    · exact (((kp_trans kw k1).setCell (Nat.le_refl _) _).setCell (Nat.le_refl _) _)

theorem lod_ascii (c : UInt8) (h : lodF c = true) : c.toNat < 128 := by
  have := by_all (fun c => !lodF c || decide (c.toNat < 128)) (by decide +kernel) c
  simp only [h, Bool.not_true, Bool.false_or, decide_eq_true_eq] at this
  exact this

def firstI (l : List UInt8) : Option (Int × List UInt8 × Nat) := (firstF l).map fun x => ((x.1 : Int), x.2.1, x.2.2)

set_option maxHeartbeats 2000000 in
theorem first_ok (s : ByteArray) (c : UInt8) (rest : List UInt8) (w : World) (hs : s.size ≤ 1000000) (hl : s.data.toList = c :: rest) (hL : Lw w) :
    Calls Tryd.prog 34 #[.string s] w fun e w' => ∃ k r n, e = .returned (.tuple #[tokV k r, .int .i64 (n : Nat)]) ∧ Ans1 (firstI s.data.toList) k r n ∧ Below w.heap.size w w' := by
  unfold tokV
  have hn : 0 < s.size := by rw [← text_len, hl]; simp
  have hc0 : s[0] = c := by rw [text_at s 0 hn]; simp [hl]
  have b0 := heap_alloc_new w (.cells #[.int .i64 0, .string ⟨#[]⟩] 24)
  have kw := kp_new w (.cells #[.int .i64 0, .string ⟨#[]⟩] 24)
  have hz : w.heap.size < (w.alloc (.cells #[.int .i64 0, .string ⟨#[]⟩] 24)).heap.size := by simp
  have hL1 := hL.next kw
  have hF : firstI s.data.toList = firstI (c :: rest) := by rw [hl]
  have HZ := Lib.hid hz
  have HB := Lib.hid b0
  have HLen := Lib.hid (text_len s)
  have HL := Lib.hid hl
  generalize hR : firstI s.data.toList = R at hF ⊢
  clear b0 hz hR hl
  have H1 := fun u => isLetter_ok c u
  by_cases h1 : letterF c = true
  · have hFF : firstI (c :: rest) = some (1, greatF ((c :: rest).take (runF lodF (c :: rest))), runF lodF (c :: rest)) := by simp [firstI, firstF, h1]
    rw [hFF, ← HL.out] at hF
    have hr := fun u => run_lod s u hs
    have hle := runF_le lodF s.data.toList
    have hall := runF_all lodF s.data.toList
    rw [text_len] at hle
    generalize runF lodF s.data.toList = n at hF hr hle hall
    have hg := fun u => great_ok (s.extract 0 n) u (by rw [ByteArray.size_extract]; omega) (by
      rw [text_front]
      exact fun x hx => lod_ascii x (hall x hx))
    rw [text_front] at hg
    rw [h1] at H1
    have HF := Lib.hid hF
    have H1' := Lib.hid H1
    have HR := Lib.hid hr
    have HG := Lib.hid hg
    clear H1 hr hg hF hFF hall h1
    go_enter Tryd.func34, Tryd.ntmps34
    go_wp2_with fail
    refine (H1'.out _).mono ?_
    rintro e w1 ⟨rfl, rfl⟩
    go_wp2_with fail
    refine (HR.out _).mono ?_
    rintro e w2 ⟨rfl, k2⟩
    go_wp2_with fail
    refine (HG.out _).mono ?_
    rintro e w3 ⟨r, rfl, hr, k3⟩
    obtain ⟨x0, x1, f0, f1⟩ := cells2 (((kp_trans k2 k3).block _ HZ.out).trans HB.out)
    go_wp2_with fail
    refine bodyPost_ret (v := .tuple #[.agg #[.int .i64 1, .string r], .int .i64 (n : Int)]) ?_ rfl ⟨1, r, n, rfl, ?_, ?_⟩
    · rw [results_cell_tmp rfl]
      go_simp
    · rw [HF.out]
      exact ⟨rfl, hr, rfl⟩
    · exact (((kp_trans kw (kp_trans k2 k3)).setCell (Nat.le_refl _) _).setCell (Nat.le_refl _) _)
  have h1f : letterF c = false := by simpa using h1
  rw [h1f] at H1
  have H1' := Lib.hid H1
  clear H1
  have H2 := fun u => isDigit_ok c u
  by_cases h2 : digitF c = true
  · have hFF : firstI (c :: rest) = some (4, (c :: rest).take (runF digitF (c :: rest)), runF digitF (c :: rest)) := by simp [firstI, firstF, h1, h2]
    rw [hFF, ← HL.out] at hF
    have hr := fun u => run_digit s u hs
    have hle := runF_le digitF s.data.toList
    rw [text_len] at hle
    generalize runF digitF s.data.toList = n at hF hr hle
    have ht := text_front s n
    rw [h2] at H2
    have HF := Lib.hid hF
    have H2' := Lib.hid H2
    have HR := Lib.hid hr
    have HT := Lib.hid ht
    clear H2 hr hF hFF h1 h1f h2 ht
    go_enter Tryd.func34, Tryd.ntmps34
    go_wp2_with fail
    refine (H1'.out _).mono ?_
    rintro e w1 ⟨rfl, rfl⟩
    go_wp2_with fail
    refine (H2'.out _).mono ?_
    rintro e w1 ⟨rfl, rfl⟩
    go_wp2_with fail
    refine (HR.out _).mono ?_
    rintro e w2 ⟨rfl, k2⟩
    obtain ⟨x0, x1, f0, f1⟩ := cells2 ((k2.block _ HZ.out).trans HB.out)
    go_wp2_with fail
    refine bodyPost_ret (v := .tuple #[.agg #[.int .i64 4, .string (s.extract 0 n)], .int .i64 (n : Int)]) ?_ rfl ⟨4, s.extract 0 n, n, rfl, ?_, ?_⟩
    · rw [results_cell_tmp rfl]
      go_simp
    · rw [HF.out]
      exact ⟨rfl, HT.out, rfl⟩
    · exact (((kp_trans kw k2).setCell (Nat.le_refl _) _).setCell (Nat.le_refl _) _)
  have h2f : digitF c = false := by simpa using h2
  rw [h2f] at H2
  have H2' := Lib.hid H2
  clear H2
  by_cases h3 : c.toNat = 34 ∨ c.toNat = 96
  · have hFF : firstI (c :: rest) = (quotedF c rest).map fun x => ((2 : Int), x.1, x.2 + 1) := by
      simp only [firstI, firstF, h1f, h2f, if_pos h3, Bool.false_eq_true, if_false, Option.map_map]
      rfl
    rw [hFF] at hF
    have hQ := fun u => quoted_ok 2 s c rest u hs HL.out
    unfold tokV at hQ
    have HQ := Lib.hid hQ
    have HF := Lib.hid hF
    have h3b : (((c.toNat : Int) == 34) = true) ∨ (((c.toNat : Int) == 34) = false ∧ ((c.toNat : Int) == 96) = true) := by
      simp only [beq_iff_eq, beq_eq_false_iff_ne, ne_eq]
      omega
    clear hQ hF hFF h1 h1f h2 h2f h3
    rcases h3b with h3a | ⟨h3a, h3c⟩
    all_goals
      go_enter Tryd.func34, Tryd.ntmps34
      go_wp2_with fail
      refine (H1'.out _).mono ?_
      rintro e w1 ⟨rfl, rfl⟩
      go_wp2_with fail
      refine (H2'.out _).mono ?_
      rintro e w1 ⟨rfl, rfl⟩
      go_wp2_with fail
      refine (HQ.out _).mono ?_
      rintro e w2 ⟨k, r, n, rfl, hA, k2⟩
      obtain ⟨x0, x1, f0, f1⟩ := cells2 ((k2.block _ HZ.out).trans HB.out)
      go_wp2_with fail
      refine bodyPost_ret (v := .tuple #[.agg #[.int .i64 k, .string r], .int .i64 (n : Int)]) ?_ rfl ⟨k, r, n, rfl, ?_, ?_⟩
      · rw [results_cell_tmp rfl]
        go_simp
      · rw [HF.out]
        exact hA
      · exact (((kp_trans kw k2).setCell (Nat.le_refl _) _).setCell (Nat.le_refl _) _)
  have h3a : ((c.toNat : Int) == 34) = false := by simp only [beq_eq_false_iff_ne, ne_eq]; omega
  have h3c : ((c.toNat : Int) == 96) = false := by simp only [beq_eq_false_iff_ne, ne_eq]; omega
  by_cases h4 : c.toNat = 39
  · have hFF : firstI (c :: rest) = (quotedF c rest).map fun x => ((3 : Int), x.1, x.2 + 1) := by
      simp only [firstI, firstF, h1f, h2f, if_neg h3, if_pos h4, Bool.false_eq_true, if_false, Option.map_map]
      rfl
    rw [hFF] at hF
    have hQ := fun u => quoted_ok 3 s c rest u hs HL.out
    unfold tokV at hQ
    have HQ := Lib.hid hQ
    have HF := Lib.hid hF
    have h4i : ((c.toNat : Int) == 39) = true := by simp only [beq_iff_eq]; omega
    clear hQ hF hFF h1 h1f h2 h2f h3 h4
    go_enter Tryd.func34, Tryd.ntmps34
    go_wp2_with fail
    refine (H1'.out _).mono ?_
    rintro e w1 ⟨rfl, rfl⟩
    go_wp2_with fail
    refine (H2'.out _).mono ?_
    rintro e w1 ⟨rfl, rfl⟩
    go_wp2_with fail
    refine (HQ.out _).mono ?_
    rintro e w2 ⟨k, r, n, rfl, hA, k2⟩
    obtain ⟨x0, x1, f0, f1⟩ := cells2 ((k2.block _ HZ.out).trans HB.out)
    go_wp2_with fail
    refine bodyPost_ret (v := .tuple #[.agg #[.int .i64 k, .string r], .int .i64 (n : Int)]) ?_ rfl ⟨k, r, n, rfl, ?_, ?_⟩
    · rw [results_cell_tmp rfl]
      go_simp
    · rw [HF.out]
      exact hA
    · exact (((kp_trans kw k2).setCell (Nat.le_refl _) _).setCell (Nat.le_refl _) _)
  have h4a : ((c.toNat : Int) == 39) = false := by simp only [beq_eq_false_iff_ne, ne_eq]; omega
  have hP := fun u => hasPrefix_s s ⟨#[47, 42, 43]⟩ u
  rw [show (⟨#[47, 42, 43]⟩ : ByteArray).data.toList = [47, 42, 43] from rfl] at hP
  by_cases h5 : begF [47, 42, 43] s.data.toList = true
  · have hsz : 3 ≤ s.size := by
      rw [← text_len]
      have := (List.isPrefixOf_iff_prefix.1 h5).length_le
      simpa using this
    have hFF : firstI (c :: rest) = (hintF s.data.toList).map fun x => ((5 : Int), x.1, x.2) := by
      rw [HL.out] at h5 ⊢
      simp only [firstI, firstF, h1f, h2f, if_neg h3, if_neg h4, if_pos h5, Bool.false_eq_true, if_false, hintF]
      split <;> rfl
    rw [hFF] at hF
    have hQ := hint_ok s _ hs hsz hL1
    unfold tokV at hQ
    rw [h5] at hP
    have HP := Lib.hid hP
    have HQ := Lib.hid hQ
    have HF := Lib.hid hF
    clear hQ hF hFF h1 h1f h2 h2f h3 h4 hP h5
    go_enter Tryd.func34, Tryd.ntmps34
    go_wp2_with fail
    refine (H1'.out _).mono ?_
    rintro e w1 ⟨rfl, rfl⟩
    go_wp2_with fail
    refine (H2'.out _).mono ?_
    rintro e w1 ⟨rfl, rfl⟩
    go_wp2_with fail
    refine (HP.out _).mono ?_
    rintro e w1 ⟨rfl, rfl⟩
    go_wp2_with fail
    refine HQ.out.mono ?_
    rintro e w2 ⟨k, r, n, rfl, hA, k2⟩
    obtain ⟨x0, x1, f0, f1⟩ := cells2 ((k2.block _ HZ.out).trans HB.out)
    go_wp2_with fail
    refine bodyPost_ret (v := .tuple #[.agg #[.int .i64 k, .string r], .int .i64 (n : Int)]) ?_ rfl ⟨k, r, n, rfl, ?_, ?_⟩
    · rw [results_cell_tmp rfl]
      go_simp
    · rw [HF.out]
      exact hA
    · exact (((kp_trans kw k2).setCell (Nat.le_refl _) _).setCell (Nat.le_refl _) _)
  have h5f : begF [47, 42, 43] s.data.toList = false := by simpa using h5
  have h5c : begF [47, 42, 43] (c :: rest) = false := by rw [← HL.out]; exact h5f
  rw [h5f] at hP
  have HP := Lib.hid hP
  clear hP h5 h5f
  have H6 := fun u => isSign_ok c u
  by_cases h6 : signF c = true
  · have hFF : firstI (c :: rest) = some (6, [c], 1) := by
      simp only [firstI, firstF, h1f, h2f, if_neg h3, if_neg h4, h5c, if_pos h6, Bool.false_eq_true, if_false]
      rfl
    rw [hFF] at hF
    rw [h6] at H6
    have ht : (s.extract 0 1).data.toList = [c] := by rw [text_front, HL.out]; rfl
    have H6' := Lib.hid H6
    have HF := Lib.hid hF
    have HT := Lib.hid ht
    clear H6 hF hFF h1 h1f h2 h2f h3 h4 h5c ht h6
    go_enter Tryd.func34, Tryd.ntmps34
    go_wp2_with fail
    refine (H1'.out _).mono ?_
    rintro e w1 ⟨rfl, rfl⟩
    go_wp2_with fail
    refine (H2'.out _).mono ?_
    rintro e w1 ⟨rfl, rfl⟩
    go_wp2_with fail
    refine (HP.out _).mono ?_
    rintro e w1 ⟨rfl, rfl⟩
    go_wp2_with fail
    refine (H6'.out _).mono ?_
    rintro e w1 ⟨rfl, rfl⟩
    obtain ⟨x0, x1, f0, f1⟩ := cells2 HB.out
    go_wp2_with fail
    refine bodyPost_ret (v := .tuple #[.agg #[.int .i64 6, .string (s.extract 0 1)], .int .i64 ((1 : Nat) : Int)]) ?_ rfl ⟨6, s.extract 0 1, 1, rfl, ?_, ?_⟩
    · rw [results_cell_tmp rfl]
      go_simp
    · rw [HF.out]
      exact ⟨rfl, HT.out, rfl⟩
    · first | exact ((kw.setCell (Nat.le_refl _) _).setCell (Nat.le_refl _) _) | exact kp_new _ _
  · have h6f : signF c = false := by simpa using h6
    have hFF : firstI (c :: rest) = none := by
      simp only [firstI, firstF, h1f, h2f, if_neg h3, if_neg h4, h5c, h6f, Bool.false_eq_true, if_false]
      rfl
    rw [hFF] at hF
    rw [h6f] at H6
    have H6' := Lib.hid H6
    have HF := Lib.hid hF
    clear H6 hF hFF h1 h1f h2 h2f h3 h4 h5c h6 h6f
    go_enter Tryd.func34, Tryd.ntmps34
    go_wp2_with fail
    refine (H1'.out _).mono ?_
    rintro e w1 ⟨rfl, rfl⟩
    go_wp2_with fail
    refine (H2'.out _).mono ?_
    rintro e w1 ⟨rfl, rfl⟩
    go_wp2_with fail
    refine (HP.out _).mono ?_
    rintro e w1 ⟨rfl, rfl⟩
    go_wp2_with fail
    refine (H6'.out _).mono ?_
    rintro e w1 ⟨rfl, rfl⟩
    obtain ⟨x0, x1, f0, f1⟩ := cells2 HB.out
    go_wp2_with fail
    refine bodyPost_ret (v := .tuple #[.agg #[.int .i64 0, .string ⟨#[]⟩], .int .i64 ((0 : Nat) : Int)]) ?_ rfl ⟨0, ⟨#[]⟩, 0, rfl, ?_, ?_⟩
    · rw [results_cell_tmp rfl]
      go_simp
    · rw [HF.out]
      exact ⟨rfl, rfl, rfl⟩
    · first | exact ((kw.setCell (Nat.le_refl _) _).setCell (Nat.le_refl _) _) | exact kp_new _ _
end Go.Proofs.YtliadhpnkgpemaaDoor
