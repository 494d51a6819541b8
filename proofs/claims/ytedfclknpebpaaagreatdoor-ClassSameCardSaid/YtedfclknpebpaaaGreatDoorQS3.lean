/-
  Contracts and plain functions that the law stands on, part 3 of 4.
-/
import Derived.Test.YtedfclknpebpaaaGreatDoorQS2
import Derived.Shelf.Strings.MapGrows
import Derived.BigQuiet
import Derived.KernelRfl
import Derived.Lib.MapLaws
namespace Go.Proofs.YtedfclknpebpaaaGreatDoor
/- The document's layer 4: the token at a place, words and numbers and signs: contracts. -/
section
open Go.RowKit
set_option maxRecDepth 100000

theorem runF_at {p : UInt8 → Bool} {l : List UInt8} {k : Nat} (h : k < l.length) : runF p (l.drop k) = if p l[k] then runF p (l.drop (k + 1)) + 1 else 0 := by
  rw [List.drop_eq_getElem_cons h, runF]

set_option maxHeartbeats 2000000 in
theorem rword_ok (s : ByteArray) (i : Nat) (c : UInt8) (r : List UInt8) (w : World) (hs : s.size ≤ 140737488351232) (hl : s.data.toList.drop i = c :: r) (h1 : begF [47, 42, 43] (c :: r) = false) (h2 : letterF c = true) :
    TokTo s i w (some (1, greatF ((c :: r).take (runF lodF (c :: r))), runF lodF (c :: r))) := by
  unfold TokTo tokV
  obtain ⟨hil, hc0⟩ := place hl
  obtain ⟨hB, hz, kw⟩ := tok_block w
  have hP := fun u => rat_ok s ⟨#[47, 42, 43]⟩ i u (by omega) hs (by decide) (by decide)
  rw [show (⟨#[47, 42, 43]⟩ : ByteArray).data.toList = [47, 42, 43] from rfl, hl, h1] at hP
  have H2 := fun u => rletter_ok c u
  rw [h2] at H2
  have hlen := Lib.hid (text_len s)
  have hle := runF_le lodF (c :: r)
  have hrl : (c :: r).length = s.size - i := by rw [← hl, List.length_drop, text_len]
  rw [hrl] at hle
  have htk : ∀ m, (s.extract i (i + m)).data.toList = (c :: r).take m := fun m => by rw [text_cut, hl, Nat.add_sub_cancel_left]
  have hR : runF lodF (c :: r) = runF lodF (s.data.toList.drop i) := by rw [hl]
  generalize runF lodF (c :: r) = R at hR hle ⊢
  have HR := Lib.hid hR
  have HB := Lib.hid hB
  have HZ := Lib.hid hz
  have HP := Lib.hid hP
  have H2' := Lib.hid H2
  have HTK := Lib.hid htk
  clear hB hz hP H2 h1 h2 hrl htk hR hl
  go_enter Tryz.func31, Tryz.ntmps31
  go_wp2_with fail
  refine (HP.out _).mono ?_
  rintro e w1 ⟨rfl, rfl⟩
  go_wp2_with fail
  refine (H2'.out _).mono ?_
  rintro e w1 ⟨rfl, rfl⟩
  go_wp2_with fail
  go_loop [8] (fun v => ∃ k : Nat, v = .int .i64 k ∧ i ≤ k ∧ k ≤ s.size ∧ Hid (R = (k - i) + runF lodF (s.data.toList.drop k))) (fun v => s.size - (intOf v).toNat)
  case atStart => exact ⟨i, rfl, Nat.le_refl _, by omega, Lib.hid (by rw [HR.out]; omega)⟩
  case round =>
    obtain ⟨k, rfl, hk, hks, hx⟩ := hrel
    clear HR
    have hcase : (k < s.size ∧ R ≠ k - i) ∨ R = k - i := by
      by_cases h : R = k - i
      · exact .inr h
      · refine .inl ⟨?_, h⟩
        rcases Nat.lt_or_ge k s.size with h3 | h3
        · exact h3
        · exfalso
          apply h
          rw [hx.out, List.drop_eq_nil_of_le (by rw [hlen.out]; exact h3)]
          rfl
    by_cases hlt : k < s.size
    · have hb := text_at s k hlt
      have hkl : k < s.data.toList.length := by rw [hlen.out]; exact hlt
      have hstep := runF_at (p := lodF) hkl
      rw [hstep] at hx
      generalize s.data.toList[k] = b at hb hx hstep
      clear hstep
      have hL := fun u => rletter_ok b u
      have hD := fun u => rdigit_ok b u
      cases hlo : letterF b
      · rw [hlo] at hL
        cases hdi : digitF b
        · rw [hdi] at hD
          have hR2 : R = k - i := by
            rw [hx.out, if_neg (by simp [lodF, hlo, hdi])]
            rfl
          subst hR2
          have HL := Lib.hid hL
          have HD := Lib.hid hD
          have ek : i + (k - i) = k := by omega
          have hG := fun u => word_ok (s.extract i k) u (by rw [ByteArray.size_extract]; omega)
          have ht := HTK.out (k - i)
          rw [ek] at ht
          rw [ht] at hG
          have HG := Lib.hid hG
          have HE := Lib.hid ek
          clear hL hD hlo hdi hx hG ht ek hcase
          go_wp2_with fail
          refine (HL.out _).mono ?_
          rintro e w1 ⟨rfl, rfl⟩
          go_wp2_with fail
          refine (HD.out _).mono ?_
          rintro e w1 ⟨rfl, rfl⟩
          go_wp2_with fail
          refine (HG.out _).mono ?_
          rintro e w2 ⟨rr, rfl, hrr, k2⟩
          obtain ⟨x0, x1, f0, f1⟩ := cells2 ((k2.block _ HZ.out).trans HB.out)
          go_wp2_with fail
          refine bodyPost_ret (v := .tuple #[.agg #[.int .i64 1, .string rr], .int .i64 (k : Int)]) ?_ rfl ⟨1, rr, _, rfl, ⟨rfl, hrr, by rw [HE.out]⟩, ?_⟩
          · rw [results_cell_tmp rfl]
            go_simp
          · exact (((kp_trans kw k2).setCell (Nat.le_refl _) _).setCell (Nat.le_refl _) _)
        · rw [hdi] at hD
          have hx2 : Hid (R = (k + 1 - i) + runF lodF (s.data.toList.drop (k + 1))) := Lib.hid (by
            rw [hx.out, if_pos (by simp [lodF, hdi])]
            omega)
          have HL := Lib.hid hL
          have HD := Lib.hid hD
          clear hL hD hlo hdi hx hcase
          go_wp2_with fail
          refine (HL.out _).mono ?_
          rintro e w1 ⟨rfl, rfl⟩
          go_wp2_with fail
          refine (HD.out _).mono ?_
          rintro e w1 ⟨rfl, rfl⟩
          go_wp2_with fail
          go_round
          case rel => exact ⟨k + 1, by go_num, by omega, by omega, hx2⟩
          case measure => simp [intOf]; omega
      · rw [hlo] at hL
        have hx2 : Hid (R = (k + 1 - i) + runF lodF (s.data.toList.drop (k + 1))) := Lib.hid (by
          rw [hx.out, if_pos (by simp [lodF, hlo])]
          omega)
        have HL := Lib.hid hL
        clear hL hlo hx hcase hD
        go_wp2_with fail
        refine (HL.out _).mono ?_
        rintro e w1 ⟨rfl, rfl⟩
        go_wp2_with fail
        go_round
        case rel => exact ⟨k + 1, by go_num, by omega, by omega, hx2⟩
        case measure => simp [intOf]; omega
    · have hR2 : R = k - i := by rcases hcase with h | h <;> omega
      subst hR2
      have ek : i + (k - i) = k := by omega
      have hG := fun u => word_ok (s.extract i k) u (by rw [ByteArray.size_extract]; omega)
      have ht := HTK.out (k - i)
      rw [ek] at ht
      rw [ht] at hG
      have HG := Lib.hid hG
      have HE := Lib.hid ek
      clear hx hG ht ek hcase
      go_wp2_with fail
      refine (HG.out _).mono ?_
      rintro e w2 ⟨rr, rfl, hrr, k2⟩
      obtain ⟨x0, x1, f0, f1⟩ := cells2 ((k2.block _ HZ.out).trans HB.out)
      go_wp2_with fail
      refine bodyPost_ret (v := .tuple #[.agg #[.int .i64 1, .string rr], .int .i64 (k : Int)]) ?_ rfl ⟨1, rr, _, rfl, ⟨rfl, hrr, by rw [HE.out]⟩, ?_⟩
      · rw [results_cell_tmp rfl]
        go_simp
      · exact (((kp_trans kw k2).setCell (Nat.le_refl _) _).setCell (Nat.le_refl _) _)

set_option maxHeartbeats 2000000 in
theorem rnumber_ok (s : ByteArray) (i : Nat) (c : UInt8) (r : List UInt8) (w : World) (hs : s.size ≤ 140737488351232) (hl : s.data.toList.drop i = c :: r) (h1 : begF [47, 42, 43] (c :: r) = false) (h2 : letterF c = false) (h3 : digitF c = true) :
    TokTo s i w (some (4, (c :: r).take (runF digitF (c :: r)), runF digitF (c :: r))) := by
  unfold TokTo tokV
  obtain ⟨hil, hc0⟩ := place hl
  obtain ⟨hB, hz, kw⟩ := tok_block w
  have hP := fun u => rat_ok s ⟨#[47, 42, 43]⟩ i u (by omega) hs (by decide) (by decide)
  rw [show (⟨#[47, 42, 43]⟩ : ByteArray).data.toList = [47, 42, 43] from rfl, hl, h1] at hP
  have H2 := fun u => rletter_ok c u
  rw [h2] at H2
  have H3 := fun u => rdigit_ok c u
  rw [h3] at H3
  have hlen := Lib.hid (text_len s)
  have hle := runF_le digitF (c :: r)
  have hrl : (c :: r).length = s.size - i := by rw [← hl, List.length_drop, text_len]
  rw [hrl] at hle
  have htk : ∀ m, (s.extract i (i + m)).data.toList = (c :: r).take m := fun m => by rw [text_cut, hl, Nat.add_sub_cancel_left]
  have hR : runF digitF (c :: r) = runF digitF (s.data.toList.drop i) := by rw [hl]
  generalize runF digitF (c :: r) = R at hR hle ⊢
  have HR := Lib.hid hR
  have HB := Lib.hid hB
  have HZ := Lib.hid hz
  have HP := Lib.hid hP
  have H2' := Lib.hid H2
  have H3' := Lib.hid H3
  have HTK := Lib.hid htk
  clear hB hz hP H2 H3 h1 h2 h3 hrl htk hR hl
  go_enter Tryz.func31, Tryz.ntmps31
  go_wp2_with fail
  refine (HP.out _).mono ?_
  rintro e w1 ⟨rfl, rfl⟩
  go_wp2_with fail
  refine (H2'.out _).mono ?_
  rintro e w1 ⟨rfl, rfl⟩
  go_wp2_with fail
  refine (H3'.out _).mono ?_
  rintro e w1 ⟨rfl, rfl⟩
  go_wp2_with fail
  go_loop [9] (fun v => ∃ k : Nat, v = .int .i64 k ∧ i ≤ k ∧ k ≤ s.size ∧ Hid (R = (k - i) + runF digitF (s.data.toList.drop k))) (fun v => s.size - (intOf v).toNat)
  case atStart => exact ⟨i, rfl, Nat.le_refl _, by omega, Lib.hid (by rw [HR.out]; omega)⟩
  case round =>
    obtain ⟨k, rfl, hk, hks, hx⟩ := hrel
    clear HR
    by_cases hlt : k < s.size
    · have hb := text_at s k hlt
      have hkl : k < s.data.toList.length := by rw [hlen.out]; exact hlt
      have hstep := runF_at (p := digitF) hkl
      rw [hstep] at hx
      generalize s.data.toList[k] = b at hb hx hstep
      clear hstep
      have hD := fun u => rdigit_ok b u
      cases hdi : digitF b
      · rw [hdi] at hD
        have hR2 : R = k - i := by
          rw [hx.out, if_neg (by simp [hdi])]
          rfl
        subst hR2
        have HD := Lib.hid hD
        have ek : i + (k - i) = k := by omega
        have ht := HTK.out (k - i)
        rw [ek] at ht
        have HT := Lib.hid ht
        have HE := Lib.hid ek
        clear hD hdi hx ht ek
        obtain ⟨x0, x1, f0, f1⟩ := cells2 HB.out
        go_wp2_with fail
        refine (HD.out _).mono ?_
        rintro e w1 ⟨rfl, rfl⟩
        go_wp2_with fail
        refine bodyPost_ret (v := .tuple #[.agg #[.int .i64 4, .string (s.extract i k)], .int .i64 (k : Int)]) ?_ rfl ⟨4, s.extract i k, _, rfl, ⟨rfl, HT.out, by rw [HE.out]⟩, ?_⟩
        · rw [results_cell_tmp rfl]
          go_simp
        · first | exact kw | exact ((kw.setCell (Nat.le_refl _) _).setCell (Nat.le_refl _) _) | exact kp_new _ _
      · rw [hdi] at hD
        have hx2 : Hid (R = (k + 1 - i) + runF digitF (s.data.toList.drop (k + 1))) := Lib.hid (by
          rw [hx.out, if_pos (by simp [hdi])]
          omega)
        have HD := Lib.hid hD
        clear hD hdi hx
        go_wp2_with fail
        refine (HD.out _).mono ?_
        rintro e w1 ⟨rfl, rfl⟩
        go_wp2_with fail
        go_round
        case rel => exact ⟨k + 1, by go_num, by omega, by omega, hx2⟩
        case measure => simp [intOf]; omega
    · have hR2 : R = k - i := by
        rw [hx.out, List.drop_eq_nil_of_le (by rw [hlen.out]; omega)]
        rfl
      subst hR2
      have ek : i + (k - i) = k := by omega
      have ht := HTK.out (k - i)
      rw [ek] at ht
      have HT := Lib.hid ht
      have HE := Lib.hid ek
      clear hx ht ek
      obtain ⟨x0, x1, f0, f1⟩ := cells2 HB.out
      go_wp2_with fail
      refine bodyPost_ret (v := .tuple #[.agg #[.int .i64 4, .string (s.extract i k)], .int .i64 (k : Int)]) ?_ rfl ⟨4, s.extract i k, _, rfl, ⟨rfl, HT.out, by rw [HE.out]⟩, ?_⟩
      · rw [results_cell_tmp rfl]
        go_simp
      · first | exact kw | exact ((kw.setCell (Nat.le_refl _) _).setCell (Nat.le_refl _) _) | exact kp_new _ _
end

/- The document's layer 4: the token at a place, quotes and signs; all of it: contracts. -/
section
open Go.RowKit
set_option maxRecDepth 100000

set_option maxHeartbeats 1000000 in
theorem rname_ok (s : ByteArray) (i : Nat) (c : UInt8) (r : List UInt8) (w : World) (hs : s.size ≤ 140737488351232) (hl : s.data.toList.drop i = c :: r) (h1 : begF [47, 42, 43] (c :: r) = false) (h2 : letterF c = false) (h3 : digitF c = false) (h4 : c.toNat = 34 ∨ c.toNat = 96) :
    TokTo s i w ((quotedF c r).map fun x => (2, x.1, x.2 + 1)) := by
  unfold TokTo tokV
  obtain ⟨hil, hc0⟩ := place hl
  obtain ⟨hB, hz, kw⟩ := tok_block w
  have hP := fun u => rat_ok s ⟨#[47, 42, 43]⟩ i u (by omega) hs (by decide) (by decide)
  rw [show (⟨#[47, 42, 43]⟩ : ByteArray).data.toList = [47, 42, 43] from rfl, hl, h1] at hP
  have H2 := fun u => rletter_ok c u
  rw [h2] at H2
  have H3 := fun u => rdigit_ok c u
  rw [h3] at H3
  have HB := Lib.hid hB
  have HZ := Lib.hid hz
  have HP := Lib.hid hP
  have H2' := Lib.hid H2
  have H3' := Lib.hid H3
  have HL := Lib.hid hl
  clear hB hz hP H2 H3 h1 h2 h3
  have hQ := fun u => between_ok s i c r u hs HL.out
  have HQ := Lib.hid hQ
  have h4b : (((c.toNat : Int) == 34) = true) ∨ (((c.toNat : Int) == 34) = false ∧ ((c.toNat : Int) == 96) = true) := by
    simp only [beq_iff_eq, beq_eq_false_iff_ne, ne_eq]
    omega
  clear hQ h4 hl
  rcases h4b with h4a | ⟨h4a, h4c⟩
  all_goals
    go_enter Tryz.func31, Tryz.ntmps31
    go_wp2_with fail
    refine (HP.out _).mono ?_
    rintro e w1 ⟨rfl, rfl⟩
    go_wp2_with fail
    refine (H2'.out _).mono ?_
    rintro e w1 ⟨rfl, rfl⟩
    go_wp2_with fail
    refine (H3'.out _).mono ?_
    rintro e w1 ⟨rfl, rfl⟩
    go_wp2_with fail
    refine (HQ.out _).mono ?_
    rintro e w2 ⟨rr, n, rfl, hA, k2⟩
    obtain ⟨x0, x1, f0, f1⟩ := cells2 ((k2.block _ HZ.out).trans HB.out)
    go_wp2_with fail
    refine bodyPost_ret (v := .tuple #[.agg #[.int .i64 2, .string rr], .int .i64 n]) ?_ rfl ⟨2, rr, n, rfl, ?_, ?_⟩
    · rw [results_cell_tmp rfl]
      go_simp
    · cases hq : quotedF c r with
      | none => rw [hq] at hA; exact hA
      | some x => rw [hq] at hA; exact ⟨rfl, hA.1, by rw [hA.2]; congr 1; omega⟩
    · exact (((kp_trans kw k2).setCell (Nat.le_refl _) _).setCell (Nat.le_refl _) _)

set_option maxHeartbeats 1000000 in
theorem rstring_ok (s : ByteArray) (i : Nat) (c : UInt8) (r : List UInt8) (w : World) (hs : s.size ≤ 140737488351232) (hl : s.data.toList.drop i = c :: r) (h1 : begF [47, 42, 43] (c :: r) = false) (h2 : letterF c = false) (h3 : digitF c = false) (h4 : c.toNat = 39) :
    TokTo s i w ((quotedF c r).map fun x => (3, x.1, x.2 + 1)) := by
  unfold TokTo tokV
  obtain ⟨hil, hc0⟩ := place hl
  obtain ⟨hB, hz, kw⟩ := tok_block w
  have hP := fun u => rat_ok s ⟨#[47, 42, 43]⟩ i u (by omega) hs (by decide) (by decide)
  rw [show (⟨#[47, 42, 43]⟩ : ByteArray).data.toList = [47, 42, 43] from rfl, hl, h1] at hP
  have H2 := fun u => rletter_ok c u
  rw [h2] at H2
  have H3 := fun u => rdigit_ok c u
  rw [h3] at H3
  have HB := Lib.hid hB
  have HZ := Lib.hid hz
  have HP := Lib.hid hP
  have H2' := Lib.hid H2
  have H3' := Lib.hid H3
  have HL := Lib.hid hl
  clear hB hz hP H2 H3 h1 h2 h3
  have hQ := fun u => between_ok s i c r u hs HL.out
  have HQ := Lib.hid hQ
  have h4a : ((c.toNat : Int) == 34) = false := by simp only [beq_eq_false_iff_ne, ne_eq]; omega
  have h4b : ((c.toNat : Int) == 96) = false := by simp only [beq_eq_false_iff_ne, ne_eq]; omega
  have h4c : ((c.toNat : Int) == 39) = true := by simp only [beq_iff_eq]; omega
  clear hQ h4 hl
  go_enter Tryz.func31, Tryz.ntmps31
  go_wp2_with fail
  refine (HP.out _).mono ?_
  rintro e w1 ⟨rfl, rfl⟩
  go_wp2_with fail
  refine (H2'.out _).mono ?_
  rintro e w1 ⟨rfl, rfl⟩
  go_wp2_with fail
  refine (H3'.out _).mono ?_
  rintro e w1 ⟨rfl, rfl⟩
  go_wp2_with fail
  refine (HQ.out _).mono ?_
  rintro e w2 ⟨rr, n, rfl, hA, k2⟩
  obtain ⟨x0, x1, f0, f1⟩ := cells2 ((k2.block _ HZ.out).trans HB.out)
  go_wp2_with fail
  refine bodyPost_ret (v := .tuple #[.agg #[.int .i64 3, .string rr], .int .i64 n]) ?_ rfl ⟨3, rr, n, rfl, ?_, ?_⟩
  · rw [results_cell_tmp rfl]
    go_simp
  · cases hq : quotedF c r with
    | none => rw [hq] at hA; exact hA
    | some x => rw [hq] at hA; exact ⟨rfl, hA.1, by rw [hA.2]; congr 1; omega⟩
  · exact (((kp_trans kw k2).setCell (Nat.le_refl _) _).setCell (Nat.le_refl _) _)

set_option maxHeartbeats 1000000 in
theorem rsign_ok (s : ByteArray) (i : Nat) (c : UInt8) (r : List UInt8) (w : World) (hs : s.size ≤ 140737488351232) (hl : s.data.toList.drop i = c :: r) (h1 : begF [47, 42, 43] (c :: r) = false) (h2 : letterF c = false) (h3 : digitF c = false) (h4 : ¬ (c.toNat = 34 ∨ c.toNat = 96)) (h5 : ¬ c.toNat = 39) :
    TokTo s i w (if 33 ≤ c.toNat ∧ c.toNat ≤ 126 then some (6, [c], 1) else none) := by
  unfold TokTo tokV
  obtain ⟨hil, hc0⟩ := place hl
  obtain ⟨hB, hz, kw⟩ := tok_block w
  have hP := fun u => rat_ok s ⟨#[47, 42, 43]⟩ i u (by omega) hs (by decide) (by decide)
  rw [show (⟨#[47, 42, 43]⟩ : ByteArray).data.toList = [47, 42, 43] from rfl, hl, h1] at hP
  have H2 := fun u => rletter_ok c u
  rw [h2] at H2
  have H3 := fun u => rdigit_ok c u
  rw [h3] at H3
  have HB := Lib.hid hB
  have HZ := Lib.hid hz
  have HP := Lib.hid hP
  have H2' := Lib.hid H2
  have H3' := Lib.hid H3
  have HL := Lib.hid hl
  clear hB hz hP H2 H3 h1 h2 h3
  have h4a : ((c.toNat : Int) == 34) = false := by simp only [beq_eq_false_iff_ne, ne_eq]; omega
  have h4b : ((c.toNat : Int) == 96) = false := by simp only [beq_eq_false_iff_ne, ne_eq]; omega
  have h4c : ((c.toNat : Int) == 39) = false := by simp only [beq_eq_false_iff_ne, ne_eq]; omega
  have ht : (s.extract i (i + 1)).data.toList = [c] := by rw [text_cut, hl, Nat.add_sub_cancel_left]; rfl
  have HT := Lib.hid ht
  have e1 : ((i : Int) + 1).toNat = i + 1 := by omega
  clear h4 h5 hl ht
  by_cases h6 : 33 ≤ c.toNat ∧ c.toNat ≤ 126
  · rw [if_pos h6]
    obtain ⟨h6, h7⟩ := h6
    go_enter Tryz.func31, Tryz.ntmps31
    go_wp2_with fail
    refine (HP.out _).mono ?_
    rintro e w1 ⟨rfl, rfl⟩
    go_wp2_with fail
    refine (H2'.out _).mono ?_
    rintro e w1 ⟨rfl, rfl⟩
    go_wp2_with fail
    refine (H3'.out _).mono ?_
    rintro e w1 ⟨rfl, rfl⟩
    obtain ⟨x0, x1, f0, f1⟩ := cells2 HB.out
    go_wp2_with fail
    refine bodyPost_ret (v := .tuple #[.agg #[.int .i64 6, .string (s.extract i (i + 1))], .int .i64 ((i + 1 : Nat) : Int)]) ?_ rfl ⟨6, s.extract i (i + 1), _, rfl, ⟨rfl, HT.out, rfl⟩, ?_⟩
    · rw [results_cell_tmp rfl]
      go_simp
    · first | exact kw | exact ((kw.setCell (Nat.le_refl _) _).setCell (Nat.le_refl _) _) | exact kp_new _ _
  · rw [if_neg h6]
    have h7 : (¬ 33 ≤ c.toNat) ∨ (33 ≤ c.toNat ∧ ¬ c.toNat ≤ 126) := by omega
    clear h6
    rcases h7 with h6 | ⟨h6, h7⟩
    all_goals
      go_enter Tryz.func31, Tryz.ntmps31
      go_wp2_with fail
      refine (HP.out _).mono ?_
      rintro e w1 ⟨rfl, rfl⟩
      go_wp2_with fail
      refine (H2'.out _).mono ?_
      rintro e w1 ⟨rfl, rfl⟩
      go_wp2_with fail
      refine (H3'.out _).mono ?_
      rintro e w1 ⟨rfl, rfl⟩
      obtain ⟨x0, x1, f0, f1⟩ := cells2 HB.out
      go_wp2_with fail
      refine bodyPost_ret (v := .tuple #[.agg #[.int .i64 0, .string ⟨#[]⟩], .int .i64 (-1)]) ?_ rfl ⟨0, ⟨#[]⟩, -1, rfl, rfl, ?_⟩
      · rw [results_cell_tmp rfl]
        go_simp
      · first | exact kw | exact ((kw.setCell (Nat.le_refl _) _).setCell (Nat.le_refl _) _) | exact kp_new _ _

theorem token_ok (s : ByteArray) (i : Nat) (w : World) (hs : s.size ≤ 140737488351232) (hi : i < s.size) : TokTo s i w (rtokF (s.data.toList.drop i)) := by
  obtain ⟨c, r, hl⟩ : ∃ c r, s.data.toList.drop i = c :: r := ⟨_, _, List.drop_eq_getElem_cons (by rw [text_len]; exact hi)⟩
  rw [hl, rtokF]
  by_cases h1 : begF [47, 42, 43] (c :: r) = true
  · rw [if_pos h1]; exact rhint_ok s i c r w hs hl h1
  rw [if_neg h1]
  have h1f : begF [47, 42, 43] (c :: r) = false := by simpa using h1
  by_cases h2 : letterF c = true
  · rw [if_pos h2]; exact rword_ok s i c r w hs hl h1f h2
  rw [if_neg h2]
  have h2f : letterF c = false := by simpa using h2
  by_cases h3 : digitF c = true
  · rw [if_pos h3]; exact rnumber_ok s i c r w hs hl h1f h2f h3
  rw [if_neg h3]
  have h3f : digitF c = false := by simpa using h3
  by_cases h4 : c.toNat = 34 ∨ c.toNat = 96
  · rw [if_pos h4]; exact rname_ok s i c r w hs hl h1f h2f h3f h4
  rw [if_neg h4]
  by_cases h5 : c.toNat = 39
  · rw [if_pos h5]; exact rstring_ok s i c r w hs hl h1f h2f h3f h5
  rw [if_neg h5]
  exact rsign_ok s i c r w hs hl h1f h2f h3f h4 h5
end

/- The document's layer 4: a statement's tokens: contract. -/
section
open Go.RowKit
set_option maxRecDepth 100000

theorem beg_two (a b : UInt8) (c : UInt8) (r : List UInt8) (h : begF [a, b] (c :: r) = true) : c = a := by
  unfold begF Lib.hasPrefix at h
  rw [List.isPrefixOf] at h
  simp at h
  exact h.1.symm
theorem beg_three (a b d : UInt8) (c : UInt8) (r : List UInt8) (h : begF [a, b, d] (c :: r) = true) : c = a := by
  unfold begF Lib.hasPrefix at h
  rw [List.isPrefixOf] at h
  simp at h
  exact h.1.symm
theorem remark_no_line (c : UInt8) (r : List UInt8) (h : isRemarkF (c :: r) = true) : isLineF (c :: r) = false := by
  unfold isRemarkF at h
  simp only [Bool.and_eq_true] at h
  have hc := beg_two _ _ _ _ h.1
  subst hc
  unfold isLineF
  cases hb : begF [45, 45] ((47 : UInt8) :: r) with
  | false => rfl
  | true => exact absurd (beg_two _ _ _ _ hb) (by decide)
theorem line_pos (c : UInt8) (r : List UInt8) (h1 : blankF c = false) : 0 < lineF (c :: r) := by
  unfold lineF
  split
  · simp
  · rename_i hx
    have hc : (c == 10) = false := by
      simp only [beq_eq_false_iff_ne, ne_eq]
      rintro rfl
      revert h1
      decide
    rw [Lib.indexByte, hc] at hx ⊢
    simp only [Bool.false_eq_true, if_false] at hx ⊢
    have hge := indexByte_lt.indexByte_ge1 r 10
    split
    · rename_i h; rw [if_pos h] at hx; omega
    · rename_i h
      have : Lib.indexByte r 10 ≠ -1 := by simpa using h
      omega

theorem step_bad (c : UInt8) (r : List UInt8) (h : skipF (c :: r) < 0) : stepF (c :: r) = .bad := by
  rw [skipF] at h
  split at h
  · omega
  rename_i h1
  split at h
  · rename_i h2
    rw [stepF, if_neg h1, if_neg (by rw [remark_no_line c r h2]; simp), if_pos h2]
    split at h
    · rename_i h3; rw [if_pos h3]
    · omega
  split at h
  · omega
  · omega
theorem step_skip (c : UInt8) (r : List UInt8) (m : Nat) (h : skipF (c :: r) = m) (hm : 0 < m) : stepF (c :: r) = .skip m := by
  rw [skipF] at h
  split at h
  · rename_i h1
    rw [stepF, if_pos h1]
    congr 1
    omega
  rename_i h1
  split at h
  · rename_i h2
    rw [stepF, if_neg h1, if_neg (by rw [remark_no_line c r h2]; simp), if_pos h2]
    split at h
    · omega
    · rename_i h3
      rw [if_neg h3]
      congr 1
      omega
  split at h
  · rename_i h3
    rw [stepF, if_neg h1, if_pos h3]
    congr 1
    omega
  · omega
theorem rtok_first (c : UInt8) (r : List UInt8) (h1 : blankF c = false) (h2 : isLineF (c :: r) = false) : rtokF (c :: r) = firstI (c :: r) := by
  have h35 : ¬ c.toNat = 35 := by
    intro h
    change (decide (c.toNat = 35) || begF [45, 45] (c :: r)) = false at h2
    rw [decide_eq_true h] at h2
    simp at h2
  have hsign : signF c = (!(decide (c.toNat ≤ 32) || decide (126 < c.toNat) || lodF c) && (decide (c.toNat ≠ 34) && decide (c.toNat ≠ 96) && decide (c.toNat ≠ 39) && decide (c.toNat ≠ 35))) := rfl
  unfold firstI
  rw [rtokF]
  simp only [firstF]
  by_cases hb : begF [47, 42, 43] (c :: r) = true
  · have hc := beg_three _ _ _ _ _ hb
    subst hc
    rw [if_pos hb, if_neg (by decide), if_neg (by decide), if_neg (by decide), if_neg (by decide), if_pos hb]
    unfold hintF
    split <;> rfl
  rw [if_neg hb]
  split
  · rfl
  split
  · rfl
  split
  · simp only [Option.map_map]; rfl
  split
  · simp only [Option.map_map]; rfl
  rename_i hl hd hq hs
  have hlod : lodF c = false := by simp [lodF, hl, hd]
  rw [hlod] at hsign
  by_cases h6 : 33 ≤ c.toNat ∧ c.toNat ≤ 126
  · have : signF c = true := by
      rw [hsign]
      simp
      omega
    rw [if_pos h6, if_pos this]
    rfl
  · have : signF c = false := by
      rw [hsign]
      simp
      omega
    rw [if_neg h6, this]
    rfl
theorem step_first (c : UInt8) (r : List UInt8) (h : skipF (c :: r) = 0) : blankF c = false ∧ isLineF (c :: r) = false ∧ stepF (c :: r) = match firstF (c :: r) with | none => .bad | some (k, t, n) => .tok k t n := by
  rw [skipF] at h
  split at h
  · omega
  rename_i h1
  have h1f : blankF c = false := by simpa using h1
  split at h
  · rename_i h2
    split at h
    · omega
    · rename_i h3; omega
  rename_i h2
  split at h
  · have := line_pos c r h1f; omega
  rename_i h3
  refine ⟨h1f, by simpa using h3, ?_⟩
  rw [stepF, if_neg h1, if_neg h3, if_neg h2]
  cases firstF (c :: r) <;> rfl

theorem skip_le : ∀ l : List UInt8, skipF l ≤ l.length
  | [] => by simp [skipF]
  | c :: r => by
    rw [skipF]
    split
    · simp; omega
    split
    · rename_i h2
      have h2a : begF [47, 42] (c :: r) = true := by
        unfold isRemarkF at h2
        simp only [Bool.and_eq_true] at h2
        exact h2.1
      have h3 := (List.isPrefixOf_iff_prefix.1 h2a).length_le
      have := (closedF_le (c :: r) 2 (by simpa using h3)).1
      split <;> omega
    split
    · unfold lineF
      split
      · omega
      · have := indexByte_lt (l := c :: r) (c := 10) (by omega)
        omega
    · omega

theorem OT.empty (e : TypeId) (w : World) : OT e (w.alloc (.cells #[] e)) w.heap.size (some ⟨w.heap.size, 0, none⟩) 0 0 [] :=
  ⟨own_new_s w w.heap.size 2 e 0 [] rfl (Nat.le_refl _) (by simp [maxLen]), Nat.le_refl _⟩

set_option maxHeartbeats 2000000 in
theorem rlex_ok (s : ByteArray) (w : World) (hm : s.size ≤ maxLen) : LexTo 14 33 s w := by
  unfold LexTo
  unfold maxLen at hm
  by_cases hlong : 200 < s.size
  · have hA : lexA s.data.toList = ([], 4) := by unfold lexA; rw [text_len, if_pos hlong]
    have HA := Lib.hid hA
    clear hA
    go_enter Tryz.func14, Tryz.ntmps14
    go_wp2_with fail
    go_ret2
    exact ⟨none, 0, 0, 4, [], rfl, OT.nil _ _ _, by rw [HA.out]; rfl, Below.refl _ _⟩
  have hA : ∀ R, lexF s.data.toList = R → lexA s.data.toList = (match R with | none => ([], 2) | some x => (x, 0)) := fun R h => by unfold lexA; rw [text_len, if_neg hlong, h]; cases R <;> rfl
  generalize hR0 : lexF s.data.toList = R at hA
  have hA1 := hA R rfl
  have HA := Lib.hid hA1
  have HR := Lib.hid hR0
  have hlen := Lib.hid (text_len s)
  clear hA hA1 hR0
  obtain ⟨i0, hi, hz0, hz1, hz2⟩ := info_parts tkinfoR
  go_enter Tryz.func14, Tryz.ntmps14
  go_wp2
  go_loopw [4, 5] (fun l4 at_ wr => ∃ (k : Nat) (A : Option Addr) (n c : Nat) (ts : List Tk), at_ = .int .i64 k ∧ k ≤ s.size ∧ l4 = .slice A n c ∧ OT 33 wr w.heap.size A n c ts ∧ n ≤ k ∧ Hid (R = (lexF (s.data.toList.drop k)).map (saysT ts ++ ·)) ∧ Below w.heap.size w wr) (fun _ at_ _ => s.size - (intOf at_).toNat)
  case atStart => exact ⟨0, _, 0, _, [], rfl, Nat.zero_le _, rfl, OT.empty _ w, Nat.le_refl _, Lib.hid (by rw [← HR.out]; simp [saysT]), kp_new _ _⟩
  case round =>
    obtain ⟨k, A, n, c, ts, rfl, hks, rfl, ho, hnk, hx, kw⟩ := hrel
    clear HR
    by_cases hlt : k < s.size
    · have hkl : k < s.data.toList.length := by rw [hlen.out]; exact hlt
      obtain ⟨b, r', hcons⟩ : ∃ b r', s.data.toList.drop k = b :: r' := ⟨_, _, List.drop_eq_getElem_cons hkl⟩
      have hne : s.data.toList.drop k ≠ [] := by rw [hcons]; simp
      have hdd : ∀ j, (s.data.toList.drop k).drop j = s.data.toList.drop (k + j) := fun j => by rw [List.drop_drop]
      have hdl : (s.data.toList.drop k).length = s.size - k := by rw [List.length_drop, hlen.out]
      have hS := skip_ok s k b r' wr (by omega) hcons
      have hT := fun u => token_ok s k u (by omega) hlt
      have hA : skipA s.data.toList k = if skipF (b :: r') < 0 then -1 else (k : Int) + skipF (b :: r') := by unfold skipA; rw [hcons]
      rw [hA] at hS
      rw [hcons] at hT
      by_cases h1 : skipF (b :: r') < 0
      · rw [if_pos h1] at hS
        have hR : R = none := by rw [hx.out, lexF_bad hne (by rw [hcons]; exact step_bad b r' h1)]; rfl
        subst hR
        have HS := Lib.hid hS
        clear hS hT hA hx h1
        go_wp2_with fail
        refine HS.out.mono ?_
        rintro e w1 ⟨rfl, k1⟩
        go_wp2_with fail
        go_ret2
        exact ⟨none, 0, 0, 2, [], rfl, OT.nil _ _ _, by rw [HA.out]; rfl, kp_trans kw k1⟩
      rw [if_neg h1] at hS
      by_cases h2 : skipF (b :: r') = 0
      · rw [h2] at hS
        obtain ⟨hb1, hb2, hst⟩ := step_first b r' h2
        have hrt := rtok_first b r' hb1 hb2
        rw [hrt] at hT
        unfold TokTo tokV at hT
        have hfi : firstI (b :: r') = (firstF (b :: r')).map fun x => ((x.1 : Int), x.2.1, x.2.2) := rfl
        rw [hfi] at hT
        have hsizes := firstF_size (l := b :: r')
        have hbl : (b :: r').length = s.size - k := by rw [← hcons, hdl]
        rw [hbl] at hsizes
        have e0 : (k : Int) + 0 = (k : Int) := by omega
        rw [e0] at hS
        have HS := Lib.hid hS
        cases hff : firstF (b :: r') with
        | none =>
          rw [hff] at hst hT
          have hR : R = none := by rw [hx.out, lexF_bad hne (by rw [hcons]; exact hst)]; rfl
          subst hR
          have HT := Lib.hid hT
          clear hS hT hA hx h1 h2 hst hrt hsizes hbl hfi hff e0
          go_wp2_with fail
          refine HS.out.mono ?_
          rintro e w1 ⟨rfl, k1⟩
          go_wp2_with fail
          refine (HT.out _).mono ?_
          rintro e w2 ⟨kd, rr, nn, rfl, rfl, k2⟩
          go_wp2_with fail
          go_ret2
          exact ⟨none, 0, 0, 2, [], rfl, OT.nil _ _ _, by rw [HA.out]; rfl, kp_alloc (kp_trans kw (kp_trans k1 k2)) _⟩
        | some x =>
          obtain ⟨kd, t, m⟩ := x
          rw [hff] at hst hT
          obtain ⟨hm0, hml⟩ := hsizes kd t m hff
          have hx2 : Hid (R = ((lexF (s.data.toList.drop (k + m))).map (((kd : Int), t) :: ·)).map (saysT ts ++ ·)) := Lib.hid (by rw [hx.out, lexF_tok hne (by rw [hcons]; exact hst) (by omega), hdd])
          have HT := Lib.hid hT
          clear hS hT hA hx h1 h2 hst hrt hsizes hbl hfi hff e0 hcons hne hdd hdl
          go_wp2_with fail
          refine HS.out.mono ?_
          rintro e w1 ⟨rfl, k1⟩
          go_wp2_with fail
          refine (HT.out _).mono ?_
          rintro e w2 ⟨kd2, r1, nn, rfl, ⟨rfl, hr1, rfl⟩, k2⟩
          have k12 := kp_trans k1 k2
          have ho1 := ho.next k12
          have kw1 := kp_trans kw k12
          have hnn : ¬ ((k + m : Nat) : Int) < 0 := by omega
          have hsrc : ∀ X, Rd ((w2.alloc X).alloc (.cells #[.int .i64 (kd : Int), .string r1] 33)) (w2.heap.size + 1 + 1) (some ⟨w2.heap.size + 1, 0, none⟩) [.int .i64 (kd : Int), .string r1] := fun X => by
            have := Rd.new (w2.alloc X) 33 [.int .i64 (kd : Int), .string r1]
            simpa using this
          have HSRC := Lib.hid hsrc
          have hsw := kw1.size
          clear hsrc
          go_wp2_with (at_builtin; refine wpList_append_rds rfl _ _ _ rfl w.heap.size 33 i0 _ 2 24 Tryz.underlying28 hi hz0 hz1 hz2 rfl (by omega) _ n _ rfl ((ho1.own.alloc _).alloc _) _ _ _ _ [.int .i64 (kd : Int), .string r1] rfl rfl (HSRC.out _) (by simp [Value.oneCell']) (by unfold maxLen; omega) (by omega) (by simp; omega) ?_; intro v3 w3 hown3 hg3; obtain ⟨A3, c3, rfl, ho3⟩ := OT.push hown3)
          go_roundw
          case rel => exact ⟨k + m, A3, n + 1, c3, ts ++ [⟨kd, r1⟩], by go_num, by omega, rfl, ho3, by omega, Lib.hid (by rw [hx2.out, saysT_append]; cases lexF (s.data.toList.drop (k + m)) <;> simp [saysT, Tk.says, hr1]), (kp_alloc (kp_alloc kw1 _) _).trans (below_own_s ((ho1.own.alloc _).alloc _) hg3 (by simp; omega))⟩
          case measure => simp [intOf]; omega
      · obtain ⟨m, hm⟩ : ∃ m : Nat, skipF (b :: r') = m := ⟨(skipF (b :: r')).toNat, by omega⟩
        rw [hm] at hS
        have hmb : m ≤ s.size - k := by
          have h3 := skip_le (b :: r')
          rw [hm, ← hcons, hdl] at h3
          omega
        have hx2 : Hid (R = (lexF (s.data.toList.drop (k + m))).map (saysT ts ++ ·)) := Lib.hid (by rw [hx.out, lexF_skip hne (by rw [hcons]; exact step_skip b r' m hm (by omega)) (by omega), hdd])
        have HS := Lib.hid hS
        have hm0 : 0 < m := by omega
        clear hS hT hA hx h1 h2 hm hcons hne hdd hdl
        go_wp2_with fail
        refine HS.out.mono ?_
        rintro e w1 ⟨rfl, k1⟩
        go_wp2_with fail
        go_roundw
        case rel => exact ⟨k + m, A, n, c, ts, by go_num, by omega, rfl, ho.next k1, by omega, hx2, kp_trans kw k1⟩
        case measure => simp [intOf]; omega
    · obtain rfl : k = s.size := by omega
      have hR : R = some (saysT ts) := by rw [hx.out, List.drop_eq_nil_of_le (by rw [hlen.out]; exact Nat.le_refl _), lexF_nil]; simp
      subst hR
      clear hx
      go_wp2_with fail
      go_ret2
      exact ⟨A, n, c, 0, rfl, ts, ho, by rw [HA.out], kw⟩
end

/- The document's layer 4: which tokens may be: contract. -/
section
open Go.RowKit
set_option maxRecDepth 100000

theorem eq_tokens (T : TypeId) (hT : T = 33) (k k' : Int) (t t' : ByteArray) (w : World) : (binOp .eql T (.agg #[.int .i64 k, .string t]) (.agg #[.int .i64 k', .string t'])).run Tryz.prog w = .ok (.bool (decide ((⟨k, t⟩ : Tk) = ⟨k', t'⟩))) w := by
  subst hT
  have hf : (Tryz.prog.fieldsOf 33) = (match Tryz.prog.underlying 33 with | some (.struct fs) => fs | _ => #[]) := rfl
  have hu := Tryz.underlying33
  rw [hu] at hf
  rw [run_eql_struct, run_equalIn_agg (P := Tryz.prog) w 9999 _ _ _ (by rw [hf]; exact hu) (by kernel_rfl), hf]
  have h3 := Tryz.underlying3
  have h9 := Tryz.underlying9
  have hz3 := Tryz.sizeOf3
  have hz9 := Tryz.sizeOf9
  have ha3 := Tryz.isAgg3
  have ha9 := Tryz.isAgg9
  have p1 : ∀ (x : Int) (u : ByteArray) (w : World), (part 3 #[.int .i64 x, .string u] 0).run Tryz.prog w = .ok (.int .i64 x) w := fun x u w => by simp [part, hz3, ha3]
  have p2 : ∀ (x : Int) (u : ByteArray) (w : World), (part 9 #[.int .i64 x, .string u] 1).run Tryz.prog w = .ok (.string u) w := fun x u w => by simp [part, hz9, ha9]
  have e1 : ∀ (x y : Int) (w : World), (Op.equalIn 9999 3 (.int .i64 x) (.int .i64 y)).run Tryz.prog w = .ok (x == y) w := fun x y w => run_equalIn_int w 9998 3 .i64 .i64 x y h3
  have e2 : ∀ (x y : ByteArray) (w : World), (Op.equalIn 9999 9 (.string x) (.string y)).run Tryz.prog w = .ok (x.toList == y.toList) w := fun x y w => run_equalIn_string w 9998 9 x y h9
  have ht : t.toList = t'.toList ↔ t = t' := ⟨fun h => text_ext (by rw [← toList_data, ← toList_data, h]), fun h => by rw [h]⟩
  by_cases hk : k = k'
  · by_cases he : t = t'
    · simp [Op.eqFields, p1, p2, e1, e2, hk, he]
    · simp [Op.eqFields, p1, p2, e1, e2, ht, hk, he]
  · simp [Op.eqFields, p1, p2, e1, e2, hk]

theorem neq_tokens (T : TypeId) (hT : T = 33) (k k' : Int) (t t' : ByteArray) (w : World) : (binOp .neq T (.agg #[.int .i64 k, .string t]) (.agg #[.int .i64 k', .string t'])).run Tryz.prog w = .ok (.bool (!decide ((⟨k, t⟩ : Tk) = ⟨k', t'⟩))) w := by
  subst hT
  have hf : (Tryz.prog.fieldsOf 33) = (match Tryz.prog.underlying 33 with | some (.struct fs) => fs | _ => #[]) := rfl
  have hu := Tryz.underlying33
  rw [hu] at hf
  rw [run_neq_struct, run_equalIn_agg (P := Tryz.prog) w 9999 _ _ _ (by rw [hf]; exact hu) (by kernel_rfl), hf]
  have h3 := Tryz.underlying3
  have h9 := Tryz.underlying9
  have hz3 := Tryz.sizeOf3
  have hz9 := Tryz.sizeOf9
  have ha3 := Tryz.isAgg3
  have ha9 := Tryz.isAgg9
  have p1 : ∀ (x : Int) (u : ByteArray) (w : World), (part 3 #[.int .i64 x, .string u] 0).run Tryz.prog w = .ok (.int .i64 x) w := fun x u w => by simp [part, hz3, ha3]
  have p2 : ∀ (x : Int) (u : ByteArray) (w : World), (part 9 #[.int .i64 x, .string u] 1).run Tryz.prog w = .ok (.string u) w := fun x u w => by simp [part, hz9, ha9]
  have e1 : ∀ (x y : Int) (w : World), (Op.equalIn 9999 3 (.int .i64 x) (.int .i64 y)).run Tryz.prog w = .ok (x == y) w := fun x y w => run_equalIn_int w 9998 3 .i64 .i64 x y h3
  have e2 : ∀ (x y : ByteArray) (w : World), (Op.equalIn 9999 9 (.string x) (.string y)).run Tryz.prog w = .ok (x.toList == y.toList) w := fun x y w => run_equalIn_string w 9998 9 x y h9
  have ht : t.toList = t'.toList ↔ t = t' := ⟨fun h => text_ext (by rw [← toList_data, ← toList_data, h]), fun h => by rw [h]⟩
  by_cases hk : k = k'
  · by_cases he : t = t'
    · simp [Op.eqFields, p1, p2, e1, e2, hk, he]
    · simp [Op.eqFields, p1, p2, e1, e2, ht, hk, he]
  · simp [Op.eqFields, p1, p2, e1, e2, hk]

def rrOf : Option (Int × List UInt8 × Nat) → Int → List UInt8 → Bool
  | none, _, _ => false
  | some (k', t, m), k, l => decide (k' = k) && (decide (t = l) && decide (m = l.length))
/-- which tokens may be, as the document tells it -/
def rrightF (k : Int) (l : List UInt8) : Bool :=
  if k = 2 ∨ k = 3 then true
  else if k = 5 then decide (findF l ends2 0 < 0) && decide (trimF l = l)
  else if k ≠ 1 ∧ k ≠ 4 ∧ k ≠ 6 then false
  else if l = [] then false
  else if skipA l 0 ≠ 0 then false
  else rrOf (rtokF l) k l

theorem contains_find (l : List UInt8) : (!Lib.contains l ends2) = decide (findF l ends2 0 < 0) := by
  unfold Lib.contains findF
  rw [List.drop_zero]
  have := Lib.index_ge l ends2
  split
  · rename_i h
    rw [decide_eq_false (by omega)]
    rfl
  · rename_i h
    rw [decide_eq_true (by omega), decide_eq_false (by omega)]
    rfl

theorem skipA_zero (c : UInt8) (r : List UInt8) : skipA (c :: r) 0 = if skipF (c :: r) < 0 then -1 else skipF (c :: r) := by
  unfold skipA
  simp
theorem skip_zero (c : UInt8) (r : List UInt8) (h : skipF (c :: r) = 0) : blankF c = false ∧ isLineF (c :: r) = false := ⟨(step_first c r h).1, (step_first c r h).2.1⟩
theorem skip_plain (c : UInt8) (r : List UInt8) (h1 : blankF c = false) (h2 : begF [47, 42] (c :: r) = false) (h3 : c.toNat ≠ 35) (h4 : begF [45, 45] (c :: r) = false) : skipF (c :: r) = 0 := by
  have hr : isRemarkF (c :: r) = false := by unfold isRemarkF; rw [h2]; rfl
  have hl : isLineF (c :: r) = false := by
    show (decide (c.toNat = 35) || begF [45, 45] (c :: r)) = false
    rw [decide_eq_false h3, h4]
    rfl
  rw [skipF, h1, hr, hl]
  rfl
theorem beg_not {a b c : UInt8} {r : List UInt8} (h : c ≠ a) : begF [a, b] (c :: r) = false := by
  cases hb : begF [a, b] (c :: r) with
  | false => rfl
  | true => exact absurd (beg_two _ _ _ _ hb) h
theorem lod_plain (c : UInt8) (h : lodF c = true) : blankF c = false ∧ c ≠ 47 ∧ c ≠ 45 ∧ c.toNat ≠ 35 := by
  have := by_all (fun c => !lodF c || (!blankF c && (decide (c ≠ 47) && (decide (c ≠ 45) && decide (c.toNat ≠ 35))))) (by decide +kernel) c
  rw [h] at this
  simp only [Bool.not_true, Bool.false_or, Bool.and_eq_true, Bool.not_eq_true', decide_eq_true_eq] at this
  exact this
theorem skip_lod (c : UInt8) (r : List UInt8) (h : lodF c = true) : skipF (c :: r) = 0 := by
  obtain ⟨h1, h2, h3, h4⟩ := lod_plain c h
  exact skip_plain c r h1 (beg_not h2) h4 (beg_not h3)
theorem no_hint {c : UInt8} {r : List UInt8} (h : c ≠ 47) : begF [47, 42, 43] (c :: r) = false := by
  cases hb : begF [47, 42, 43] (c :: r) with
  | false => rfl
  | true => exact absurd (beg_three _ _ _ _ _ hb) h

theorem rtok_letter (c : UInt8) (r : List UInt8) (h : letterF c = true) : rtokF (c :: r) = some (1, greatF ((c :: r).take (runF lodF (c :: r))), runF lodF (c :: r)) := by
  have h47 := (lod_plain c (by simp [lodF, h])).2.1
  rw [rtokF, if_neg (by rw [no_hint h47]; simp), if_pos h]
theorem rtok_digit (c : UInt8) (r : List UInt8) (h0 : letterF c = false) (h : digitF c = true) : rtokF (c :: r) = some (4, (c :: r).take (runF digitF (c :: r)), runF digitF (c :: r)) := by
  have h47 := (lod_plain c (by simp [lodF, h])).2.1
  rw [rtokF, if_neg (by rw [no_hint h47]; simp), if_neg (by simp [h0]), if_pos h]
theorem rtok_other (c : UInt8) (r : List UInt8) (h0 : letterF c = false) (h : digitF c = false) {k : Int} {t : List UInt8} {m : Nat} (hx : rtokF (c :: r) = some (k, t, m)) :
    k = 5 ∨ k = 2 ∨ k = 3 ∨ (k = 6 ∧ t = [c] ∧ m = 1 ∧ 33 ≤ c.toNat ∧ c.toNat ≤ 126 ∧ c.toNat ≠ 34 ∧ c.toNat ≠ 96 ∧ c.toNat ≠ 39) := by
  rw [rtokF] at hx
  split at hx
  · obtain ⟨y, _, hy⟩ := Option.map_eq_some_iff.1 hx
    simp only [Prod.mk.injEq] at hy
    exact .inl hy.1.symm
  rw [h0, h] at hx
  simp only [Bool.false_eq_true, if_false] at hx
  split at hx
  · obtain ⟨y, _, hy⟩ := Option.map_eq_some_iff.1 hx
    simp only [Prod.mk.injEq] at hy
    exact .inr (.inl hy.1.symm)
  split at hx
  · obtain ⟨y, _, hy⟩ := Option.map_eq_some_iff.1 hx
    simp only [Prod.mk.injEq] at hy
    exact .inr (.inr (.inl hy.1.symm))
  split at hx
  · simp only [Option.some.injEq, Prod.mk.injEq] at hx
    obtain ⟨rfl, rfl, rfl⟩ := hx
    refine .inr (.inr (.inr ⟨rfl, rfl, rfl, ?_⟩))
    omega
  · cases hx
theorem digit_no_letter (c : UInt8) (h : digitF c = true) : letterF c = false := by
  have := by_all (fun c => !digitF c || !letterF c) (by decide +kernel) c
  rw [h] at this
  simpa using this

theorem rright_word (c : UInt8) (r : List UInt8) : rrightF 1 (c :: r) = rightWordF (c :: r) := by
  unfold rrightF
  rw [if_neg (by omega), if_neg (by omega), if_neg (by omega), if_neg (by simp), skipA_zero]
  rw [show rightWordF (c :: r) = (letterF c && (decide (runF lodF (c :: r) = (c :: r).length) && decide (greatF (c :: r) = c :: r))) from rfl]
  cases h : letterF c
  · simp only [Bool.false_and]
    by_cases hs : (if skipF (c :: r) < 0 then -1 else skipF (c :: r)) ≠ 0
    · rw [if_pos hs]
    · rw [if_neg hs]
      cases hx : rtokF (c :: r) with
      | none => rfl
      | some x =>
        obtain ⟨k, t, m⟩ := x
        have hk : k ≠ 1 := by
          cases hd : digitF c
          · have := rtok_other c r h hd hx
            omega
          · rw [rtok_digit c r h hd] at hx
            simp only [Option.some.injEq, Prod.mk.injEq] at hx
            omega
        simp only [rrOf]
        rw [decide_eq_false hk]
        rfl
  · rw [skip_lod c r (by simp [lodF, h]), if_neg (by decide), rtok_letter c r h]
    simp only [rrOf, Bool.true_and, decide_true]
    by_cases hn : runF lodF (c :: r) = (c :: r).length
    · rw [decide_eq_true hn, hn, List.take_length, Bool.and_true, Bool.true_and]
    · rw [decide_eq_false hn, Bool.and_false, Bool.false_and]

theorem rright_number (c : UInt8) (r : List UInt8) : rrightF 4 (c :: r) = decide (runF digitF (c :: r) = (c :: r).length) := by
  unfold rrightF
  rw [if_neg (by omega), if_neg (by omega), if_neg (by omega), if_neg (by simp), skipA_zero]
  cases h : digitF c
  · rw [decide_eq_false (by rw [runF_none h]; simp)]
    by_cases hs : (if skipF (c :: r) < 0 then -1 else skipF (c :: r)) ≠ 0
    · rw [if_pos hs]
    · rw [if_neg hs]
      cases hx : rtokF (c :: r) with
      | none => rfl
      | some x =>
        obtain ⟨k, t, m⟩ := x
        have hk : k ≠ 4 := by
          cases hl : letterF c
          · have := rtok_other c r hl h hx
            omega
          · rw [rtok_letter c r hl] at hx
            simp only [Option.some.injEq, Prod.mk.injEq] at hx
            omega
        simp only [rrOf]
        rw [decide_eq_false hk]
        rfl
  · rw [skip_lod c r (by simp [lodF, h]), if_neg (by decide), rtok_digit c r (digit_no_letter c h) h]
    simp only [rrOf, Bool.true_and, decide_true]
    by_cases hn : runF digitF (c :: r) = (c :: r).length
    · rw [decide_eq_true hn, hn, List.take_length, decide_eq_true rfl]
      rfl
    · rw [decide_eq_false hn, Bool.and_false]

theorem sign_parts (c : UInt8) : signF c = true ↔ (33 ≤ c.toNat ∧ c.toNat ≤ 126 ∧ letterF c = false ∧ digitF c = false ∧ c.toNat ≠ 34 ∧ c.toNat ≠ 96 ∧ c.toNat ≠ 39 ∧ c.toNat ≠ 35) := by
  have hs : signF c = (!(decide (c.toNat ≤ 32) || decide (126 < c.toNat) || lodF c) && (decide (c.toNat ≠ 34) && decide (c.toNat ≠ 96) && decide (c.toNat ≠ 39) && decide (c.toNat ≠ 35))) := rfl
  have hl : lodF c = (letterF c || digitF c) := rfl
  rw [hs, hl]
  cases letterF c <;> cases digitF c <;> simp <;> omega
theorem blank_lt (c : UInt8) (h : 33 ≤ c.toNat) : blankF c = false := by
  have := by_all (fun c => decide (c.toNat < 33) || !blankF c) (by decide +kernel) c
  simp only [Bool.or_eq_true, decide_eq_true_eq, Bool.not_eq_true'] at this
  rcases this with h1 | h1
  · omega
  · exact h1

theorem rright_sign (c : UInt8) (r : List UInt8) : rrightF 6 (c :: r) = (match c :: r with | [c] => signF c | _ => false) := by
  unfold rrightF
  rw [if_neg (by omega), if_neg (by omega), if_neg (by omega), if_neg (by simp), skipA_zero]
  by_cases hg : r = [] ∧ signF c = true
  · obtain ⟨rfl, hg⟩ := hg
    obtain ⟨g1, g2, g3, g4, g5, g6, g7, g8⟩ := (sign_parts c).1 hg
    have e1 : ∀ a b : UInt8, begF [a, b] [c] = false := fun a b => by unfold begF Lib.hasPrefix; simp [List.isPrefixOf]
    have e2 : begF [47, 42, 43] [c] = false := by unfold begF Lib.hasPrefix; simp [List.isPrefixOf]
    have hr : rtokF [c] = some (6, [c], 1) := by
      rw [rtokF, e2, g3, g4]
      simp only [Bool.false_eq_true, if_false]
      rw [if_neg (by omega), if_neg g7, if_pos ⟨g1, g2⟩]
    rw [skip_plain c [] (blank_lt c g1) (e1 _ _) g8 (e1 _ _), if_neg (by decide), hr]
    simp [rrOf, hg]
  · have hrhs : (match c :: r with | [c] => signF c | _ => false) = false := by
      cases r with
      | nil => simpa using hg
      | cons _ _ => rfl
    rw [hrhs]
    by_cases hs : (if skipF (c :: r) < 0 then -1 else skipF (c :: r)) ≠ 0
    · rw [if_pos hs]
    · rw [if_neg hs]
      have hs0 : skipF (c :: r) = 0 := by
        rcases Int.lt_or_le (skipF (c :: r)) 0 with h | h
        · rw [if_pos h] at hs; exact absurd (by decide) hs
        · rw [if_neg (by omega)] at hs; omega
      obtain ⟨hb, hln⟩ := skip_zero c r hs0
      have h35 : c.toNat ≠ 35 := by
        intro h
        change (decide (c.toNat = 35) || begF [45, 45] (c :: r)) = false at hln
        rw [decide_eq_true h] at hln
        simp at hln
      cases hx : rtokF (c :: r) with
      | none => rfl
      | some x =>
        obtain ⟨k, t, m⟩ := x
        simp only [rrOf]
        cases hl : letterF c
        · cases hd : digitF c
          · rcases rtok_other c r hl hd hx with h | h | h | ⟨h, ht, hm, h1, h2, h3, h4, h5⟩
            · rw [decide_eq_false (by omega)]; rfl
            · rw [decide_eq_false (by omega)]; rfl
            · rw [decide_eq_false (by omega)]; rfl
            · subst ht
              cases r with
              | nil => exact absurd ⟨rfl, (sign_parts c).2 ⟨h1, h2, hl, hd, h3, h4, h5, h35⟩⟩ hg
              | cons d r => simp
          · rw [rtok_digit c r hl hd] at hx
            simp only [Option.some.injEq, Prod.mk.injEq] at hx
            rw [decide_eq_false (by omega)]
            rfl
        · rw [rtok_letter c r hl] at hx
          simp only [Option.some.injEq, Prod.mk.injEq] at hx
          rw [decide_eq_false (by omega)]
          rfl

theorem rright_right (k : Int) (l : List UInt8) : rrightF k l = rightF k l := by
  by_cases h23 : k = 2 ∨ k = 3
  · unfold rrightF rightF
    rw [if_pos h23, if_neg (by omega), if_pos h23]
  by_cases h5 : k = 5
  · subst h5
    unfold rrightF rightF
    rw [if_neg (by omega), if_pos rfl, if_neg (by omega), if_neg (by omega), if_neg (by omega), if_pos rfl, contains_find]
  by_cases hno : k ≠ 1 ∧ k ≠ 4 ∧ k ≠ 6
  · unfold rrightF rightF
    rw [if_neg h23, if_neg h5, if_pos hno, if_neg hno.1, if_neg h23, if_neg hno.2.1, if_neg h5, if_neg hno.2.2]
  have hk : k = 1 ∨ k = 4 ∨ k = 6 := by omega
  cases l with
  | nil =>
    unfold rrightF
    rw [if_neg h23, if_neg h5, if_neg hno, if_pos rfl]
    rcases hk with rfl | rfl | rfl <;> rfl
  | cons c r =>
    rcases hk with rfl | rfl | rfl
    · exact rright_word c r
    · rw [rright_number]
      show _ = (decide ((c :: r) ≠ []) && decide (runF digitF (c :: r) = (c :: r).length))
      simp
    · exact rright_sign c r
end

/- The document's layer 4: which tokens may be, by the call: contract. -/
section
open Go.RowKit
set_option maxRecDepth 100000

theorem eq_box (s : ByteArray) (k : Int) (w : World) : ∀ u, Below (w.alloc (.cells #[.int .i64 k, .string s] 33)).heap.size (w.alloc (.cells #[.int .i64 k, .string s] 33)) u → u.cell? ⟨w.heap.size, 0, none⟩ = some (.int .i64 k) ∧ u.cell? ⟨w.heap.size, 1, none⟩ = some (.string s) ∧ u.frozen? ⟨w.heap.size, 0, none⟩ = false ∧ u.frozen? ⟨w.heap.size, 1, none⟩ = false := fun u hu => cells2 ((hu.block _ (by simp)).trans (heap_alloc_new w _))

theorem rr_yes {s r2 : ByteArray} {k k2 n2 : Int} {x : Option (Int × List UInt8 × Nat)} (hA : AnsT x 0 k2 r2 n2) (h : k2 = k ∧ r2 = s) : rrOf x k s.data.toList = (n2 == (s.size : Int)) := by
  obtain ⟨rfl, rfl⟩ := h
  have hlen := text_len r2
  cases x with
  | none =>
    obtain rfl : n2 = -1 := hA
    rw [rrOf, eq_comm, beq_eq_false_iff_ne]
    omega
  | some x =>
    obtain ⟨k', t, m⟩ := x
    obtain ⟨rfl, rfl, rfl⟩ := hA
    rw [rrOf, hlen, decide_eq_true rfl, decide_eq_true rfl, Bool.eq_iff_iff]
    simp
    omega
theorem rr_no {s r2 : ByteArray} {k k2 n2 : Int} {x : Option (Int × List UInt8 × Nat)} (hA : AnsT x 0 k2 r2 n2) (h : ¬ (k2 = k ∧ r2 = s)) : rrOf x k s.data.toList = false := by
  cases x with
  | none => rfl
  | some x =>
    obtain ⟨k', t, m⟩ := x
    obtain ⟨rfl, rfl, rfl⟩ := hA
    rw [rrOf]
    by_cases hk : k2 = k
    · rw [decide_eq_false (p := r2.data.toList = s.data.toList) (fun e => h ⟨hk, text_ext e⟩)]
      simp
    · rw [decide_eq_false hk]
      rfl

set_option maxHeartbeats 2000000 in
theorem rright_146 (k : Int) (hk : k = 1 ∨ k = 4 ∨ k = 6) (s : ByteArray) (w : World) (hs : s.size ≤ 140737488351232) : RightTo 15 k s w := by
  unfold RightTo
  rw [← rright_right]
  have kw := kp_new w (.cells #[.int .i64 k, .string s] 33)
  have hF : rrightF k s.data.toList = if s.data.toList = [] then false else if skipA s.data.toList 0 ≠ 0 then false else rrOf (rtokF s.data.toList) k s.data.toList := by
    unfold rrightF
    rw [if_neg (by omega), if_neg (by omega), if_neg (by omega)]
  have he := eq_empty s
  by_cases h0 : s.size = 0
  · have hn : s.data.toList = [] := List.eq_nil_of_length_eq_zero (by rw [text_len]; exact h0)
    rw [if_pos hn] at hF
    rw [decide_eq_true h0] at he
    have HF := Lib.hid hF
    clear hF hn h0
    rcases hk with rfl | rfl | rfl
    all_goals
      go_enter Tryz.func15, Tryz.ntmps15
      go_wp2_with fail
      go_ret
      exact ⟨by rw [HF.out]; rfl, kw⟩
  have hn : s.data.toList ≠ [] := fun h => h0 (by rw [← text_len, h]; rfl)
  rw [if_neg hn] at hF
  rw [decide_eq_false h0] at he
  obtain ⟨c, r, hl⟩ : ∃ c r, s.data.toList = c :: r := by
    cases h : s.data.toList with
    | nil => exact absurd h hn
    | cons c r => exact ⟨c, r, rfl⟩
  have hS := fun u => skip_ok s 0 c r u hs (by rw [List.drop_zero]; exact hl)
  have e0 : ((0 : Nat) : Int) = 0 := rfl
  rw [e0] at hS
  by_cases h1 : skipA s.data.toList 0 = 0
  · rw [if_neg (by simpa using h1)] at hF
    rw [h1] at hS
    have hT := fun u => token_ok s 0 u hs (by omega)
    unfold TokTo tokV at hT
    rw [List.drop_zero, e0] at hT
    have HF := Lib.hid hF
    have HS := Lib.hid hS
    have HT := Lib.hid hT
    have HC := Lib.hid (eq_box s k w)
    have HL := Lib.hid (text_len s)
    clear hF hS hT hl h0 h1 hn e0
    rcases hk with rfl | rfl | rfl
    all_goals
      go_enter Tryz.func15, Tryz.ntmps15
      go_wp2_with fail
      refine (HS.out _).mono ?_
      rintro e w1 ⟨rfl, k1⟩
      go_wp2_with fail
      refine (HT.out _).mono ?_
      rintro e w2 ⟨k2, r2, n2, rfl, hA, b2⟩
      have K2 := kp_trans k1 b2
      obtain ⟨x0, x1, _, _⟩ := HC.out _ (kp_alloc K2 (.cells #[.int .i64 k2, .string r2] 33))
      have hE := fun kk u => eq_tokens 33 rfl k2 kk r2 s u
      go_wp2_with fail
      all_goals
        go_ret
      · refine ⟨ret_bool ?_, kp_alloc (kp_trans kw K2) _⟩
        rw [HF.out, rr_yes hA (by assumption)]
      · refine ⟨ret_bool ?_, kp_alloc (kp_trans kw K2) _⟩
        rw [HF.out, rr_no hA (by assumption)]
  · rw [if_pos h1] at hF
    have h1b : ((skipA s.data.toList 0) != 0) = true := by simpa using h1
    generalize skipA s.data.toList 0 = x at hS h1b
    have HF := Lib.hid hF
    have HS := Lib.hid hS
    clear hF hS hl h0 h1 hn e0
    rcases hk with rfl | rfl | rfl
    all_goals
      go_enter Tryz.func15, Tryz.ntmps15
      go_wp2_with fail
      refine (HS.out _).mono ?_
      rintro e w1 ⟨rfl, k1⟩
      go_wp2_with fail
      go_ret
      exact ⟨by rw [HF.out]; rfl, kp_trans kw k1⟩

theorem rright_23 (k : Int) (hk : k = 2 ∨ k = 3) (s : ByteArray) (w : World) : RightTo 15 k s w := by
  unfold RightTo
  have hF : rightF k s.data.toList = true := by
    unfold rightF
    rw [if_neg (by omega), if_pos hk]
  have HF := Lib.hid hF
  clear hF
  have kw := kp_new w (.cells #[.int .i64 k, .string s] 33)
  rcases hk with rfl | rfl
  all_goals
    go_enter Tryz.func15, Tryz.ntmps15
    go_wp2_with fail
    go_ret
    exact ⟨by rw [HF.out]; rfl, kw⟩

theorem rright_no (k : Int) (hk : k < 1 ∨ 6 < k) (s : ByteArray) (w : World) : RightTo 15 k s w := by
  unfold RightTo
  have hF : rightF k s.data.toList = false := by
    unfold rightF
    rw [if_neg (by omega), if_neg (by omega), if_neg (by omega), if_neg (by omega), if_neg (by omega)]
  have HF := Lib.hid hF
  clear hF
  have kw := kp_new w (.cells #[.int .i64 k, .string s] 33)
  have e2 : (k == 2) = false := by simp only [beq_eq_false_iff_ne, ne_eq]; omega
  have e3 : (k == 3) = false := by simp only [beq_eq_false_iff_ne, ne_eq]; omega
  have e5 : (k == 5) = false := by simp only [beq_eq_false_iff_ne, ne_eq]; omega
  have n1 : (k != 1) = true := by simp only [bne_iff_ne, ne_eq]; omega
  have n4 : (k != 4) = true := by simp only [bne_iff_ne, ne_eq]; omega
  have n6 : (k != 6) = true := by simp only [bne_iff_ne, ne_eq]; omega
  clear hk
  go_enter Tryz.func15, Tryz.ntmps15
  go_wp2_with fail
  go_ret
  exact ⟨by rw [HF.out]; rfl, kw⟩

set_option maxHeartbeats 1000000 in
theorem rright_5 (s : ByteArray) (w : World) (hs : s.size ≤ 140737488351232) : RightTo 15 5 s w := by
  unfold RightTo
  rw [← rright_right]
  have kw := kp_new w (.cells #[.int .i64 5, .string s] 33)
  have hF : rrightF 5 s.data.toList = (decide (findF s.data.toList ends2 0 < 0) && decide (trimF s.data.toList = s.data.toList)) := rfl
  have hfi := fun u => rfind_ok s ⟨#[42, 47]⟩ 0 u (Nat.zero_le _) hs (by decide) (by decide)
  rw [show (⟨#[42, 47]⟩ : ByteArray).data.toList = ends2 from rfl, show ((0 : Nat) : Int) = 0 from rfl] at hfi
  have ht := fun u => rtrim_ok s u hs
  generalize findF s.data.toList ends2 0 = x at hF hfi
  have HFi := Lib.hid hfi
  have HT := Lib.hid ht
  clear hfi ht
  by_cases hx : x < 0
  · rw [decide_eq_true hx] at hF
    have HF := Lib.hid hF
    clear hF
    go_enter Tryz.func15, Tryz.ntmps15
    go_wp2_with fail
    refine (HFi.out _).mono ?_
    rintro e w1 ⟨rfl, rfl⟩
    go_wp2_with fail
    refine (HT.out _).mono ?_
    rintro e w1 ⟨r, rfl, hr, rfl⟩
    go_wp2_with fail
    go_ret
    refine ⟨ret_bool ?_, kw⟩
    rw [HF.out, toList_data, toList_data, hr, Bool.eq_iff_iff]
    simp
  · rw [decide_eq_false hx] at hF
    have HF := Lib.hid hF
    clear hF
    go_enter Tryz.func15, Tryz.ntmps15
    go_wp2_with fail
    refine (HFi.out _).mono ?_
    rintro e w1 ⟨rfl, rfl⟩
    go_wp2_with fail
    go_ret
    exact ⟨by rw [HF.out]; rfl, kw⟩

theorem rright_ok (k : Int) (s : ByteArray) (w : World) (hs : s.size ≤ 140737488351232) : RightTo 15 k s w := by
  by_cases h0 : k < 1 ∨ 6 < k
  · exact rright_no k h0 s w
  by_cases h2 : k = 2 ∨ k = 3
  · exact rright_23 k h2 s w
  by_cases h5 : k = 5
  · subst h5; exact rright_5 s w hs
  exact rright_146 k (by omega) s w hs
end

/- What is written of rows of tokens, by package lex: contract. -/
section
open Go.RowKit
set_option maxRecDepth 100000

theorem Bd.next {B b : Nat} {l : List UInt8} {w w' : World} (h : Bd B b l w) (hb : Below w.heap.size w w') : Bd B b l w' :=
  Or.elim h (fun x => .inl (Lib.BuilderAtF.below x hb)) (fun x => .inr (Lib.BuilderAtF.below x hb))
theorem Bd.lt {B b : Nat} {l : List UInt8} {w : World} (h : Bd B b l w) : b < w.heap.size := by
  rcases h with ⟨_, v, hb, _⟩ | ⟨_, v, hb, _⟩
  · exact (Array.getElem?_eq_some_iff.1 hb).1
  · exact (Array.getElem?_eq_some_iff.1 hb).1
theorem Kept.cells {b k : Nat} {w w' : World} {cs : Array Value} {t : TypeId} {fz : Nat × Nat} (h : Kept b w w') (hk : w.heap[k]? = some (.cells cs t fz)) (hkb : k ≠ b) (ht : t ≠ 5) : w'.heap[k]? = some (.cells cs t fz) :=
  h k _ hk (fun e => hkb (Option.some.inj e)) (fun c fz' e => by
    simp only [Obj.cells.injEq] at e
    exact ht e.2.1)

/-- tokens' texts, each with one more byte, are so many bytes -/
def sumT (ts : List Tk) : Nat := (ts.map fun t => t.t.size + 1).sum
theorem sumT_append (a b : List Tk) : sumT (a ++ b) = sumT a + sumT b := by simp [sumT]
theorem sumT_at {ts : List Tk} {k : Nat} (h : k < ts.length) : sumT (ts.take k) + ts[k].t.size + 1 ≤ sumT ts := by
  have e : sumT ts = sumT (ts.take k) + sumT (ts.drop k) := by rw [← sumT_append, List.take_append_drop]
  rw [e, List.drop_eq_getElem_cons h]
  simp only [sumT, List.map_cons, List.sum_cons]
  omega

theorem sumT_len : ∀ ts : List Tk, ts.length ≤ sumT ts
  | [] => Nat.zero_le _
  | t :: r => by
    have := sumT_len r
    simp only [sumT, List.map_cons, List.sum_cons, List.length_cons] at this ⊢
    omega

def writeF : List (Int × List UInt8) → List UInt8
  | [] => []
  | t :: r => writtenF t.1 t.2 ++ r.flatMap fun t => 32 :: writtenF t.1 t.2
theorem writeF_next (l : List (Int × List UInt8)) (x : Int × List UInt8) (h : l ≠ []) : writeF (l ++ [x]) = writeF l ++ [32] ++ writtenF x.1 x.2 := by
  cases l with
  | nil => exact absurd rfl h
  | cons t r => simp [writeF]
theorem writeF_len : ∀ ts : List Tk, (writeF (saysT ts)).length ≤ 8 * sumT ts := by
  have key : ∀ ts : List Tk, ((saysT ts).flatMap fun t => 32 :: writtenF t.1 t.2).length ≤ 8 * sumT ts := by
    intro ts
    induction ts with
    | nil => simp [saysT, sumT]
    | cons t r ih =>
      have h1 := writtenF_length t.k t.t.data.toList
      have h2 := text_len t.t
      simp only [saysT, List.map_cons, List.flatMap_cons, List.length_append, List.length_cons, sumT, List.sum_cons, Tk.says] at ih ⊢
      omega
  intro ts
  cases ts with
  | nil => simp [saysT, writeF, sumT]
  | cons t r =>
    have h1 := writtenF_length t.k t.t.data.toList
    have h2 := text_len t.t
    have h3 := key r
    simp only [saysT, List.map_cons, writeF, List.length_append, sumT, List.sum_cons, Tk.says] at h3 ⊢
    omega
end

/- Rows of tokens: are they the same, are they large, may they be; the statements' own copies of them: contracts. -/
section
open Go.RowKit
set_option maxRecDepth 100000

theorem take_same {α : Type} [DecidableEq α] {xs ys : List α} {k : Nat} (hx : k < xs.length) (hy : k < ys.length) (h : xs.take k = ys.take k) (he : xs[k] = ys[k]) : xs.take (k + 1) = ys.take (k + 1) := by
  rw [List.take_succ_eq_append_getElem hx, List.take_succ_eq_append_getElem hy, h, he]

set_option maxHeartbeats 1000000 in
theorem tlarge_ok (A : Option Addr) (n c : Nat) (ts : List Tk) (w : World) (h : TR w A n ts) (hn : n ≤ 140737488351232) (ht : ∀ t ∈ ts, t.t.size ≤ 140737488351232) :
    Calls Tryz.prog 16 #[.slice A n c] w fun e w' => e = .returned (.bool (decide (2000 < sumT ts))) ∧ w = w' := by
  have hlen := Lib.hid h.len
  have HT := Lib.hid ht
  clear ht
  go_enter Tryz.func16, Tryz.ntmps16
  go_wp2
  go_loop [3, 4] (fun v i => ∃ k m : Nat, k ≤ n ∧ i = .int .i64 k ∧ v = .int .i64 m ∧ Hid (m = sumT (ts.take k)) ∧ m ≤ 140737488353234) (fun _ i => n - (intOf i).toNat)
  case atStart => exact ⟨0, 0, Nat.zero_le _, rfl, rfl, Lib.hid rfl, by omega⟩
  case round =>
    obtain ⟨k, m, hk, rfl, rfl, hm, hmb⟩ := hrel
    by_cases hlt : k < n
    · have hkl : k < ts.length := by rw [hlen.out]; exact hlt
      by_cases hm2 : m ≤ 2000
      · obtain ⟨ad, rfl, _, hc⟩ := h.at_ hkl
        obtain ⟨c0, c1⟩ := hc _ (Below.refl _ _)
        have hts := HT.out _ (List.getElem_mem hkl)
        have hnx : Hid (m + ts[k].t.size + 1 = sumT (ts.take (k + 1))) := Lib.hid (by
          rw [List.take_succ_eq_append_getElem hkl, sumT_append, ← hm.out]
          simp [sumT]
          omega)
        clear hc
        generalize ts[k].k = x at *
        generalize ts[k].t = s at *
        go_wp2
        go_round
        case rel => exact ⟨k + 1, m + s.size + 1, by omega, by go_num, by go_num, hnx, by omega⟩
        case measure => simp [intOf]; omega
      · have hle : sumT (ts.take k) ≤ sumT ts := by
          have e : sumT ts = sumT (ts.take k) + sumT (ts.drop k) := by rw [← sumT_append, List.take_append_drop]
          omega
        have hd : decide (2000 < sumT ts) = true := decide_eq_true (by have := hm.out; omega)
        have HD := Lib.hid hd
        have hm3 : ¬ (m : Int) ≤ 2000 := by omega
        clear hd hle
        go_wp2
        go_ret
        refine ⟨ret_bool ?_, rfl⟩
        rw [HD.out]
    · obtain rfl : k = n := by omega
      have hd : decide (2000 < sumT ts) = decide ((2000 : Int) < (m : Int)) := by
        have := hm.out
        rw [List.take_of_length_le (by rw [hlen.out]; exact Nat.le_refl _)] at this
        rw [← this, Bool.eq_iff_iff]
        simp
        omega
      have HD := Lib.hid hd
      clear hd
      go_wp2
      go_ret
      exact ⟨ret_bool (by rw [HD.out]), rfl⟩

def mayF (ts : List Tk) : Bool := ts.all fun t => rightF t.k t.t.data.toList
end

/- The calls whose answers the document fixes, at layer 4: they answer so. -/
section
open Go.RowKit
set_option maxRecDepth 100000

theorem lex_a1 : lexF [115, 101, 108, 101, 99, 116, 32, 39, 97, 39, 39, 98, 39, 45, 45, 120] = some [(1, [83, 69, 76, 69, 67, 84]), (3, [97, 39, 98])] := by
  rw [lexF_tok (k := 1) (t := [83, 69, 76, 69, 67, 84]) (n := 6) (by simp) (by kernel_rfl) (by decide)]
  simp only [List.drop_succ_cons, List.drop_zero]
  rw [lexF_skip (n := 1) (by simp) (by kernel_rfl) (by decide)]
  simp only [List.drop_succ_cons, List.drop_zero]
  rw [lexF_tok (k := 3) (t := [97, 39, 98]) (n := 6) (by simp) (by kernel_rfl) (by decide)]
  simp only [List.drop_succ_cons, List.drop_zero]
  rw [lexF_skip (n := 3) (by simp) (by kernel_rfl) (by decide)]
  simp only [List.drop_succ_cons, List.drop_zero]
  rw [lexF_nil]
  rfl
theorem lex_a2 : lexF [39] = none := lexF_bad (by simp) (by kernel_rfl)
theorem lex_a3 : lexF [47, 42, 43, 32, 112, 114, 105, 109, 97, 114, 121, 32, 42, 47, 32, 55] = some [(5, [112, 114, 105, 109, 97, 114, 121]), (4, [55])] := by
  rw [lexF_tok (k := 5) (t := [112, 114, 105, 109, 97, 114, 121]) (n := 14) (by simp) (by kernel_rfl) (by decide)]
  simp only [List.drop_succ_cons, List.drop_zero]
  rw [lexF_skip (n := 1) (by simp) (by kernel_rfl) (by decide)]
  simp only [List.drop_succ_cons, List.drop_zero]
  rw [lexF_tok (k := 4) (t := [55]) (n := 1) (by simp) (by kernel_rfl) (by decide)]
  simp only [List.drop_succ_cons, List.drop_zero]
  rw [lexF_nil]
  rfl
theorem lexA_some {l : List UInt8} {y : List (Int × List UInt8)} (h : lexF l = some y) (hl : l.length ≤ 200) : lexA l = (y, 0) := by
  unfold lexA
  rw [if_neg (by omega), h]
theorem lexA_none {l : List UInt8} (h : lexF l = none) (hl : l.length ≤ 200) : lexA l = ([], 2) := by
  unfold lexA
  rw [if_neg (by omega), h]

theorem row2 (w : World) (e : TypeId) (a b : Tk) : TR (w.alloc (.cells #[.int .i64 a.k, .string a.t, .int .i64 b.k, .string b.t] e)) (some ⟨w.heap.size, 0, none⟩) 2 [a, b] :=
  ⟨rfl, by
    have := Rd.new w e (tkC [a, b])
    simpa [tkC, Tk.cells] using this⟩
end

/- The document's layer 4: what is written of tokens that may be: contract. -/
section
open Go.RowKit
set_option maxRecDepth 100000

theorem right_kind {k : Int} {l : List UInt8} (h : rightF k l = true) : k = 1 ∨ k = 2 ∨ k = 3 ∨ k = 4 ∨ k = 5 ∨ k = 6 := by
  unfold rightF at h
  by_cases h0 : k = 1 ∨ k = 2 ∨ k = 3 ∨ k = 4 ∨ k = 5 ∨ k = 6
  · exact h0
  · rw [if_neg (by omega), if_neg (by omega), if_neg (by omega), if_neg (by omega), if_neg (by omega)] at h
    cases h

set_option maxHeartbeats 4000000 in
theorem rwrite_ok (A : Option Addr) (n c : Nat) (ts : List Tk) (w : World) (h : TR w A n ts) (hm : sumT ts ≤ 500000) (hmay : mayF ts = true) :
    Calls Tryz.prog 17 #[.slice A n c] w fun e w' => ∃ r : ByteArray, e = .returned (.string r) ∧ r.data.toList = writeF (saysT ts) ∧ Below w.heap.size w w' := by
  have hlen := Lib.hid h.len
  have hn : n ≤ 500000 := by
    have := sumT_len ts
    have := h.len
    omega
  have HM := Lib.hid hmay
  clear hmay
  go_enter Tryz.func17, Tryz.ntmps17
  go_wp2
  go_loopw [3, 4] (fun o v wr => ∃ (k : Nat) (q : ByteArray), v = .int .i64 k ∧ k ≤ n ∧ o = .string q ∧ Hid (q.data.toList = writeF (saysT (ts.take k))) ∧ Below w.heap.size w wr) (fun _ v _ => n - (intOf v).toNat)
  case atStart => exact ⟨0, ⟨#[]⟩, rfl, Nat.zero_le _, rfl, Lib.hid rfl, Below.refl _ _⟩
  case round =>
    obtain ⟨k, q, rfl, hk, rfl, hq, kw⟩ := hrel
    by_cases hlt : k < n
    · have hkl : k < ts.length := by rw [hlen.out]; exact hlt
      obtain ⟨ad, rfl, hbl, hcells⟩ := h.at_ hkl
      obtain ⟨c0, c1⟩ := hcells wr kw
      have hsum := sumT_at hkl
      have hwl := writeF_len (ts.take k)
      have hqs : q.size ≤ 4000000 := by
        rw [← text_len, hq.out]
        omega
      have hkind := right_kind (List.all_eq_true.1 HM.out _ (List.getElem_mem hkl))
      have hnext : saysT (ts.take (k + 1)) = saysT (ts.take k) ++ [(ts[k].k, ts[k].t.data.toList)] := by
        rw [List.take_succ_eq_append_getElem hkl, saysT_append]; rfl
      have hts : ts[k].t.size ≤ 500000 := by omega
      generalize ts[k].k = kd at *
      generalize ts[k].t = tx at *
      have H0 : k = 0 → writeF (saysT (ts.take (k + 1))) = q.data.toList ++ writtenF kd tx.data.toList := fun h0 => by
        rw [hnext, hq.out]
        subst h0
        simp [saysT, writeF]
      have H1 : 0 < k → writeF (saysT (ts.take (k + 1))) = q.data.toList ++ [32] ++ writtenF kd tx.data.toList := fun h0 => by
        rw [hnext, writeF_next _ _ (by
          intro e
          have := congrArg List.length e
          rw [saysT_length, List.length_take, Nat.min_eq_left (by omega)] at this
          simp at this
          omega), hq.out]
      have W2 : (kd == 2) = true → writtenF kd tx.data.toList = quoteF 34 tx.data.toList := fun e => by
        have : kd = 2 := by simpa using e
        subst this; rfl
      have W3 : (kd == 3) = true → writtenF kd tx.data.toList = quoteF 39 tx.data.toList := fun e => by
        have : kd = 3 := by simpa using e
        subst this; rfl
      have W5 : (kd == 5) = true → writtenF kd tx.data.toList = [47, 42, 43, 32] ++ tx.data.toList ++ [32, 42, 47] := fun e => by
        have : kd = 5 := by simpa using e
        subst this
        simp [writtenF]
      have W0 : (kd == 2) = false → (kd == 3) = false → (kd == 5) = false → writtenF kd tx.data.toList = tx.data.toList := fun e2 e3 e5 => by
        have n2 : kd ≠ 2 := by simpa using e2
        have n3 : kd ≠ 3 := by simpa using e3
        have n5 : kd ≠ 5 := by simpa using e5
        unfold writtenF
        rw [if_pos (by omega)]
      have z32 : (⟨#[32]⟩ : ByteArray).size = 1 := rfl
      have zh : (⟨#[47, 42, 43, 32]⟩ : ByteArray).size = 4 := rfl
      have ze : (⟨#[32, 42, 47]⟩ : ByteArray).size = 3 := rfl
      have q1 : (q ++ ⟨#[32]⟩ : ByteArray).size ≤ 4000001 := by rw [ByteArray.size_append, z32]; omega
      have q2 : (q ++ ⟨#[47, 42, 43, 32]⟩ : ByteArray).size ≤ 4000004 := by rw [ByteArray.size_append, zh]; omega
      have q3 : (q ++ ⟨#[32]⟩ ++ ⟨#[47, 42, 43, 32]⟩ : ByteArray).size ≤ 4000005 := by rw [ByteArray.size_append, ByteArray.size_append, zh, z32]; omega
      have q4 : (q ++ ⟨#[47, 42, 43, 32]⟩ ++ tx : ByteArray).size ≤ 5000004 := by rw [ByteArray.size_append, ByteArray.size_append, zh]; omega
      have q5 : (q ++ ⟨#[32]⟩ ++ ⟨#[47, 42, 43, 32]⟩ ++ tx : ByteArray).size ≤ 5000005 := by rw [ByteArray.size_append, ByteArray.size_append, ByteArray.size_append, zh, z32]; omega
      have hD34 : ∀ u, Calls Tryz.prog 34 #[.string tx, .int .u8 34] u fun e w' => ∃ r : ByteArray, e = .returned (.string r) ∧ r.data.toList = quoteF 34 tx.data.toList ∧ Below u.heap.size u w' := fun u => doubled_ok tx 34 u (by omega)
      have hD39 : ∀ u, Calls Tryz.prog 34 #[.string tx, .int .u8 39] u fun e w' => ∃ r : ByteArray, e = .returned (.string r) ∧ r.data.toList = quoteF 39 tx.data.toList ∧ Below u.heap.size u w' := fun u => doubled_ok tx 39 u (by omega)
      have hrs : ∀ (r : ByteArray) (y : UInt8), r.data.toList = quoteF y tx.data.toList → r.size ≤ 1000002 := fun r y e => by
        have h1 := twiceF_length y tx.data.toList
        have h2 := text_len tx
        have h3 := text_len r
        rw [e] at h3
        unfold quoteF at h3
        simp at h3
        omega
      have H0 := Lib.hid H0
      have H1 := Lib.hid H1
      have W0 := Lib.hid W0
      have W2 := Lib.hid W2
      have W3 := Lib.hid W3
      have W5 := Lib.hid W5
      have HD34 := Lib.hid hD34
      have HD39 := Lib.hid hD39
      have HRS := Lib.hid hrs
      clear hcells hnext hwl hsum hq hD34 hD39 hrs hkind
      have hk4 : (kd == 2) = true ∨ ((kd == 2) = false ∧ (kd == 3) = true) ∨ ((kd == 2) = false ∧ (kd == 3) = false ∧ (kd == 5) = true) ∨ ((kd == 2) = false ∧ (kd == 3) = false ∧ (kd == 5) = false) := by
        cases (kd == 2) <;> cases (kd == 3) <;> cases (kd == 5) <;> simp
      rcases hk4 with e2 | ⟨e2, e3⟩ | ⟨e2, e3, e5⟩ | ⟨e2, e3, e5⟩
      · clear HD39
        go_wp2_with (go_at_call 34; refine (HD34.out _).mono ?_; rintro e w2 ⟨r, rfl, hr, k2⟩; have hrs := HRS.out r _ hr)
        all_goals
          go_roundw
          case rel =>
            refine ⟨k + 1, _, by go_num, by omega, rfl, Lib.hid ?_, kp_trans kw k2⟩
            first
              | rw [H1.out (by omega)]
              | rw [H0.out (by omega)]
            rw [W2.out e2]; simp only [text_add, hr, List.append_assoc]; try rfl
          case measure => simp [intOf]; omega
      · clear HD34
        go_wp2_with (go_at_call 34; refine (HD39.out _).mono ?_; rintro e w2 ⟨r, rfl, hr, k2⟩; have hrs := HRS.out r _ hr)
        all_goals
          go_roundw
          case rel =>
            refine ⟨k + 1, _, by go_num, by omega, rfl, Lib.hid ?_, kp_trans kw k2⟩
            first
              | rw [H1.out (by omega)]
              | rw [H0.out (by omega)]
            rw [W3.out e3]; simp only [text_add, hr, List.append_assoc]; try rfl
          case measure => simp [intOf]; omega
      · clear HD34 HD39
        go_wp2_with (fail)
        all_goals
          go_roundw
          case rel =>
            refine ⟨k + 1, _, by go_num, by omega, rfl, Lib.hid ?_, kw⟩
            first
              | rw [H1.out (by omega)]
              | rw [H0.out (by omega)]
            rw [W5.out e5]; simp only [text_add, List.append_assoc]; try rfl
          case measure => simp [intOf]; omega
      · clear HD34 HD39
        go_wp2_with (fail)
        all_goals
          go_roundw
          case rel =>
            refine ⟨k + 1, _, by go_num, by omega, rfl, Lib.hid ?_, kw⟩
            first
              | rw [H1.out (by omega)]
              | rw [H0.out (by omega)]
            rw [W0.out e2 e3 e5]; simp only [text_add]; try rfl
          case measure => simp [intOf]; omega
    · obtain rfl : k = n := by omega
      rw [List.take_of_length_le (by rw [hlen.out]; exact Nat.le_refl _)] at hq
      go_wp2_with fail
      go_ret
      exact ⟨q, rfl, hq.out, kw⟩
end

/- A region that draws its order, gone through once an operation; operations whose guard is known to fail are left out. -/
section
open Go.RowKit

def WantsNot (ops : Array Oper) (a : Act) (o : Oper) : Prop :=
  match o.guard with
  | none => False
  | some (j, b) => ∃ t, dstOf ops j = some t ∧ a.tmps.getD t undef = .bool (!b)

theorem wants_not {ops : Array Oper} {a : Act} {o : Oper} (h : WantsNot ops a o) : Region.wanted o (yielded ops a.tmps) = false := by
  unfold WantsNot at h
  unfold Region.wanted
  split at h
  · cases h
  · rename_i j b hg
    obtain ⟨t, ht, hv⟩ := h
    rw [hg]
    have hlt : t < a.tmps.size := by
      rcases Nat.lt_or_ge t a.tmps.size with h | h
      · exact h
      · rw [Array.getD_eq_getD_getElem?, Array.getElem?_eq_none h] at hv
        simp [undef] at hv
    rw [Array.getD_eq_getD_getElem?, Array.getElem?_eq_getElem hlt] at hv
    simp only [Option.getD_some] at hv
    unfold dstOf at ht
    simp [yielded, ht, Array.getElem?_eq_getElem hlt, hv]

section
variable {P : Program} {ops : Array Oper} {Q : Exit → Act → World → Prop}

/-- what is asked of one operation: that it goes, or that its guard fails -/
def OkOp2 (P : Program) (ops : Array Oper) (Q : Exit → Act → World → Prop) (S : World → Prop) (Sp : Nat → Stb) (a0 : Act) (i : Nat) (o : Oper) : Prop :=
  ∀ a w, StandI ops i a0 a → S w → (∀ t, (waitsFor ops o).contains t = true → (Sp t).p (a.tmps.getD t undef) w) →
    (Wants ops a o ∧ o.wp P a w (Goes S Sp a o.dst w) Q) ∨ (WantsNot ops a o ∧ S w ∧ ∀ t, o.dst = some t → (Sp t).p undef w)

theorem wpAny_specs2 (S : World → Prop) (Sp : Nat → Stb) (a0 : Act) (hok : regOk ops a0.tmps.size = true)
    (each : EachOp (OkOp2 P ops Q S Sp a0) 0 ops.toList)
    (fin : ∀ a w, Stand ops a0 a → S w → (∀ t, (dstsOf ops).contains t = true → (Sp t).p (a.tmps.getD t undef) w) → Q .normal a w) :
    ∀ (fuel : Nat) (listed : Array Bool) (a : Act) (w : World), listed.size = ops.size → ((List.range ops.size).filter fun i => !listed.getD i true).length ≤ fuel →
      Stand ops a0 a → S w → (∀ i d, listed.getD i false = true → dstOf ops i = some d → (Sp d).p (a.tmps.getD d undef) w) →
      (∀ j d, j < ops.size → listed.getD j false = false → dstOf ops j = some d → a.tmps.getD d undef = a0.tmps.getD d undef) →
      (∀ j o, listed.getD j false = true → ops[j]? = some o → ∀ e ∈ o.after, Region.binds .any e = true → listed.getD e.on false = true) → wpAny P .any ops Q fuel listed a w := by
  simp only [regOk, Bool.and_eq_true, List.all_eq_true, decide_eq_true_eq] at hok
  obtain ⟨⟨⟨hdst, hlen⟩, hnd⟩, hlow⟩ := hok
  have hdst' : ∀ o ∈ ops.toList, ∃ d, o.dst = some d ∧ d < a0.tmps.size := fun o ho => by
    have := hdst o ho
    split at this
    · rename_i d hd; exact ⟨d, hd, by simpa using this⟩
    · cases this
  have hget := dsts_getElem (ops := ops) (fun o ho => (hdst' o ho).imp fun d h => h.1)
  have hinj : ∀ i j d, dstOf ops i = some d → dstOf ops j = some d → i = j := fun i j d hi hj => by
    rw [← hget] at hi hj
    obtain ⟨hi1, hi2⟩ := List.getElem?_eq_some_iff.1 hi
    obtain ⟨hj1, hj2⟩ := List.getElem?_eq_some_iff.1 hj
    have hp := List.pairwise_iff_getElem.1 hnd
    rcases Nat.lt_trichotomy i j with h | h | h
    · exact absurd (hi2.trans hj2.symm) (hp i j hi1 hj1 h)
    · exact h
    · exact absurd (hj2.trans hi2.symm) (hp j i hj1 hi1 h)
  have hready0 : ∀ listed : Array Bool, listed.size = ops.size → Region.ready .any ops listed = [] → ∀ i, i < ops.size → listed.getD i false = true := by
    intro listed hsz hr i
    induction i using Nat.strongRecOn with
    | _ i ih =>
      intro hi
      cases hl : listed.getD i false with
      | true => rfl
      | false =>
        exfalso
        have hl2 : listed.getD i true = false := by
          rw [Array.getD_eq_getD_getElem?, Array.getElem?_eq_getElem (by omega)] at hl ⊢; simpa using hl
        have hm : i ∈ Region.ready .any ops listed := by
          unfold Region.ready
          rw [List.mem_filter]
          refine ⟨List.mem_range.2 hi, ?_⟩
          rw [hl2, Array.getElem?_eq_getElem hi]
          simp only [Bool.not_false, Bool.true_and, Option.map_some, Option.getD_some, Array.all_eq_true_iff_forall_mem]
          intro e he
          have h1 := hlow (ops[i], i) (by rw [List.mem_zipIdx_iff_getElem?]; simp [hi])
          simp only [Array.all_eq_true_iff_forall_mem] at h1
          have h2 := h1 e he
          cases hb : Region.binds .any e with
          | false => simp
          | true =>
            rw [hb] at h2
            have h3 : e.on < i := by simpa using h2
            simp [ih e.on h3 (by omega)]
        rw [hr] at hm
        cases hm
  have hfin : ∀ listed a w, listed.size = ops.size → Stand ops a0 a → S w → (∀ i d, listed.getD i false = true → dstOf ops i = some d → (Sp d).p (a.tmps.getD d undef) w) → Region.ready .any ops listed = [] → Q .normal a w := by
    intro listed a w hsz hst hS hsp hr
    refine fin a w hst hS fun t ht => ?_
    obtain ⟨i, hi, he⟩ := List.mem_iff_getElem.1 (List.contains_iff_mem.1 ht)
    have hd : dstOf ops i = some t := by rw [← hget, List.getElem?_eq_getElem hi, he]
    exact hsp i t (hready0 listed hsz hr i (by omega)) hd
  intro fuel
  induction fuel with
  | zero =>
    intro listed a w hsz hc hst hS hsp _ _
    have hr : Region.ready .any ops listed = [] := by
      have h0 : ((List.range ops.size).filter fun i => !listed.getD i true) = [] := List.eq_nil_of_length_eq_zero (by omega)
      unfold Region.ready
      rw [List.filter_eq_nil_iff] at h0 ⊢
      intro i hi
      have := h0 i hi
      simp only [Bool.not_eq_true] at this ⊢
      rw [this, Bool.false_and]
    exact ⟨hr, hfin listed a w hsz hst hS hsp hr⟩
  | succ fuel ih =>
    intro listed a w hsz hc hst hS hsp hun0 hcl
    refine ⟨hfin listed a w hsz hst hS hsp, fun i hi => ?_⟩
    unfold Region.ready at hi
    rw [List.mem_filter, List.mem_range] at hi
    obtain ⟨hilt, hi2⟩ := hi
    rw [Array.getElem?_eq_getElem hilt] at hi2
    simp only [Bool.and_eq_true, Option.map_some, Option.getD_some, Array.all_eq_true_iff_forall_mem] at hi2
    obtain ⟨hun, hdeps⟩ := hi2
    obtain ⟨d, hd, hdl⟩ := hdst' ops[i] (by simp)
    have hdi : dstOf ops i = some d := by unfold dstOf; rw [Array.getElem?_eq_getElem hilt]; exact hd
    have hthis := each.at_ i ops[i] (by simp [hilt])
    rw [Nat.zero_add] at hthis
    have hni : listed.getD i false = false := by
      have hl : listed.getD i true = false := by simpa using hun
      rw [Array.getD_eq_getD_getElem?, Array.getElem?_eq_getElem (by omega)] at hl ⊢
      simpa using hl
    have hold : ∀ t, (laterOf ops i).contains t = true → a.tmps.getD t undef = a0.tmps.getD t undef := fun t ht => by
      unfold laterOf at ht
      obtain ⟨o, ho, hot⟩ := List.mem_filterMap.1 (List.contains_iff_mem.1 ht)
      rw [List.mem_filter] at ho
      obtain ⟨j, hj, hje⟩ := List.mem_iff_getElem.1 ho.1
      have hj' : j < ops.size := by simpa using hj
      have hjo : ops[j]? = some o := by rw [Array.getElem?_eq_getElem hj', ← hje]; simp
      have hdj : dstOf ops j = some t := by unfold dstOf; rw [hjo]; exact hot
      refine hun0 j t hj' ?_ hdj
      rw [Bool.eq_false_iff]
      intro hlj
      obtain ⟨e, he, h2⟩ := Array.any_eq_true'.1 ho.2
      simp only [Bool.and_eq_true, beq_iff_eq] at h2
      have := hcl j o hlj hjo e he h2.1
      rw [h2.2, hni] at this
      cases this
    have hor := hthis a w ⟨hst, hold⟩ hS (fun t ht => by
      unfold waitsFor at ht
      obtain ⟨e, he, het⟩ := List.mem_filterMap.1 (List.contains_iff_mem.1 ht)
      rw [List.mem_filter] at he
      have := hdeps e (by simpa using he.1)
      rw [he.2] at this
      exact hsp e.on t (by simpa using this) het)
    have key : ∀ a' w', Goes S Sp a (ops[i]).dst w a' w' → wpAny P .any ops Q fuel (listed.setIfInBounds i true) a' w' := by
      rintro a' w' ⟨v, rfl, hS', hb, hsp'⟩
      have hval : ((a.put (ops[i]).dst v).tmps.getD d undef) = v := by
        rw [hd]
        simp only [Act.put]
        rw [Array.getD_eq_getD_getElem?, Array.getElem?_setIfInBounds_self_of_lt (by rw [hst.size]; exact hdl)]
        rfl
      have hoth : ∀ t, t ≠ d → (a.put (ops[i]).dst v).tmps.getD t undef = a.tmps.getD t undef := fun t ht => by
        rw [hd]
        simp only [Act.put]
        rw [Array.getD_eq_getD_getElem?, Array.getD_eq_getD_getElem?, Array.getElem?_setIfInBounds_ne (fun h => ht h.symm)]
      have hset : ∀ j, j ≠ i → (listed.setIfInBounds i true).getD j false = listed.getD j false := fun j hji => by
        rw [Array.getD_eq_getD_getElem?, Array.getElem?_setIfInBounds_ne (fun h => hji h.symm), ← Array.getD_eq_getD_getElem?]
      have hseti : (listed.setIfInBounds i true).getD i false = true := by
        rw [Array.getD_eq_getD_getElem?, Array.getElem?_setIfInBounds_self_of_lt (by omega)]; rfl
      refine ih _ _ _ (by simp [hsz]) ?_ ⟨by rw [hd]; simp [Act.put, hst.size], by rw [hd]; simp [Act.put, hst.defers], fun t ht => ?_⟩ hS' (fun j dj hj hdj => ?_) (fun j dj hj hlj hdj => ?_) (fun j o hlj hjo e he hb2 => ?_)
      · have hl : listed.getD i true = false := by simpa using hun
        have := filter_lt (l := List.range ops.size) (p := fun j => !listed.getD j true) (q := fun j => !(listed.setIfInBounds i true).getD j true) (fun x hx => by
          by_cases hxi : i = x
          · subst hxi
            rw [Array.getD_eq_getD_getElem?, Array.getElem?_setIfInBounds_self_of_lt (by omega)] at hx
            simp at hx
          · rw [Array.getD_eq_getD_getElem?, Array.getElem?_setIfInBounds_ne hxi, ← Array.getD_eq_getD_getElem?] at hx
            exact hx) (i := i) (List.mem_range.2 hilt) (by simp [hl]) (by
            rw [Array.getD_eq_getD_getElem?, Array.getElem?_setIfInBounds_self_of_lt (by omega)]; simp)
        omega
      · rw [hoth t, hst.out t ht]
        rintro rfl
        have : (dstsOf ops).contains t = true := List.contains_iff_mem.2 (List.mem_of_getElem? (by rw [hget, hdi]))
        rw [this] at ht
        cases ht
      · by_cases hji : j = i
        · subst hji
          rw [hdi] at hdj
          injection hdj with hdj
          subst hdj
          rw [hval]
          exact hsp' d hd
        · have hne : dj ≠ d := fun e => hji (hinj j i d (e ▸ hdj) hdi)
          rw [hoth dj hne]
          refine (Sp dj).st _ _ _ (hsp j dj ?_ hdj) hb
          rw [Array.getD_eq_getD_getElem?, Array.getElem?_setIfInBounds_ne (fun h => hji h.symm), ← Array.getD_eq_getD_getElem?] at hj
          exact hj
      · have hji : j ≠ i := fun h => by rw [h, hseti] at hlj; cases hlj
        rw [hset j hji] at hlj
        rw [hoth dj (fun e => hji (hinj j i d (e ▸ hdj) hdi))]
        exact hun0 j dj hj hlj hdj
      · have hon : listed.getD e.on false = true := by
          by_cases hji : j = i
          · subst hji
            rw [Array.getElem?_eq_getElem hilt] at hjo
            injection hjo with hjo
            subst hjo
            have := hdeps e he
            rw [hb2] at this
            simpa using this
          · rw [hset j hji] at hlj
            exact hcl j o hlj hjo e he hb2
        by_cases hei : e.on = i
        · rw [hei]; exact hseti
        · rw [hset _ hei]; exact hon
    unfold wpOp
    simp only [Array.getElem?_eq_getElem hilt]
    rcases hor with ⟨hw, hwp⟩ | ⟨hw, hS', hsp'⟩
    · simp only [wants hw, if_true]
      exact .inl (Oper.wp_mono (fun a' w' h => key a' w' h) hwp)
    · rw [wants_not hw]
      simp only [Bool.false_eq_true, if_false]
      exact key _ _ ⟨undef, rfl, hS', Below.refl _ _, hsp'⟩

theorem wp_region_specs2 {id : Nat} {a0 : Act} {w0 : World} (S : World → Prop) (Sp : List (Nat × Stb)) (hm : P.follows .mixedOrders = true) (hok : regOk ops a0.tmps.size = true) (hS : S w0.drew)
    (each : EachOp (OkOp2 P ops Q S (Stb.find Sp) a0) 0 ops.toList)
    (fin : ∀ a w, Stand ops a0 a → S w → (∀ t, (dstsOf ops).contains t = true → (Stb.find Sp t).p (a.tmps.getD t undef) w) → Q .normal a w) :
    (Code.region id ops true).wp P Q a0 w0 :=
  wp_region_any hm (wpAny_specs2 S (Stb.find Sp) a0 hok each fin _ _ _ _ (by simp) (by
    refine Nat.le_trans (List.length_filter_le _ _) (by simp)) ⟨rfl, rfl, fun _ _ => rfl⟩ hS (fun i d h => by
    exfalso
    rw [Array.getD_eq_getD_getElem?, Array.getElem?_replicate] at h
    split at h <;> simp at h) (fun _ _ _ _ _ => rfl) (fun j o h => by
    exfalso
    rw [Array.getD_eq_getD_getElem?, Array.getElem?_replicate] at h
    split at h <;> simp at h))
end
end

/- LexTells: the tokens of any statement, whether any token may be, and what is written of tokens are as the document says: the walk. -/
section
open Go.RowKit
set_option maxRecDepth 100000

theorem step_size {l : List UInt8} (h : l ≠ []) : (∀ m, stepF l = .skip m → m ≤ l.length) ∧ ∀ k t m, stepF l = .tok k t m → m ≤ l.length := by
  cases l with
  | nil => exact absurd rfl h
  | cons c r =>
    rw [stepF]
    by_cases h1 : blankF c = true
    · rw [if_pos h1]
      exact ⟨fun m e => by injection e with e; simp; omega, fun k t m e => by cases e⟩
    rw [if_neg h1]
    by_cases h2 : isLineF (c :: r) = true
    · rw [if_pos h2]
      refine ⟨fun m e => ?_, fun k t m e => by cases e⟩
      injection e with e
      subst e
      unfold lineF
      split
      · exact Nat.le_refl _
      · have := indexByte_lt (l := c :: r) (c := 10) (by omega)
        omega
    rw [if_neg h2]
    by_cases h3 : isRemarkF (c :: r) = true
    · rw [if_pos h3]
      have h2a : begF [47, 42] (c :: r) = true := by
        unfold isRemarkF at h3
        simp only [Bool.and_eq_true] at h3
        exact h3.1
      have h5 := (List.isPrefixOf_iff_prefix.1 h2a).length_le
      have := (closedF_le (c :: r) 2 (by simpa using h5)).1
      split
      · exact ⟨fun m e => (by cases e), fun k t m e => by cases e⟩
      · exact ⟨fun m e => (by injection e with e; omega), fun k t m e => by cases e⟩
    rw [if_neg h3]
    cases hf : firstF (c :: r) with
    | none => exact ⟨fun m e => (by cases e), fun k t m e => by cases e⟩
    | some x =>
      obtain ⟨k, t, n⟩ := x
      have := (firstF_size k t n hf).2
      refine ⟨fun m e => (by cases e), fun k' t' m e => ?_⟩
      simp only [Step.tok.injEq] at e
      omega
theorem lexF_len : ∀ (n : Nat) (l : List UInt8) (x : List (Int × List UInt8)), l.length ≤ n → lexF l = some x → x.length ≤ l.length := by
  intro n
  induction n with
  | zero =>
    intro l x hl h
    obtain rfl : l = [] := List.eq_nil_of_length_eq_zero (by omega)
    rw [lexF_nil] at h
    injection h with h
    subst h
    exact Nat.le_refl _
  | succ n ih =>
    intro l x hl h
    by_cases hne : l = []
    · subst hne
      rw [lexF_nil] at h
      injection h with h
      subst h
      exact Nat.le_refl _
    obtain ⟨hs1, hs2⟩ := step_size hne
    cases hst : stepF l with
    | bad => rw [lexF_bad hne hst] at h; cases h
    | skip m =>
      by_cases hm : m = 0
      · rw [lexF, dif_neg hne, hst] at h
        simp [hm] at h
      · rw [lexF_skip hne hst hm] at h
        have := ih (l.drop m) x (by rw [List.length_drop]; omega) h
        rw [List.length_drop] at this
        omega
    | tok k t m =>
      have hml := hs2 k t m hst
      by_cases hm : m = 0
      · rw [lexF, dif_neg hne, hst] at h
        simp [hm] at h
      · rw [lexF_tok hne hst hm] at h
        obtain ⟨y, hy, rfl⟩ := Option.map_eq_some_iff.1 h
        have := ih (l.drop m) y (by rw [List.length_drop]; omega) hy
        rw [List.length_drop] at this
        simp
        omega
theorem lexA_len (l : List UInt8) : (lexA l).1.length ≤ 200 := by
  unfold lexA
  split
  · simp
  · cases h : lexF l with
    | none => simp
    | some x =>
      have := lexF_len l.length l x (Nat.le_refl _) h
      simp
      omega

/-- a row of tokens, as a fact of a value -/
def trStb (n : Nat) (ts : List Tk) : Stb := ⟨fun v u => ∃ B d, v = .slice B n d ∧ TR u B n ts, fun _ _ _ ⟨B, d, h, r⟩ hb => ⟨B, d, h, r.next hb⟩⟩

theorem sumT_mem {ts : List Tk} {t : Tk} (h : t ∈ ts) : t.t.size ≤ sumT ts := by
  obtain ⟨k, hk, rfl⟩ := List.mem_iff_getElem.1 h
  have := sumT_at hk
  omega
end

/- What lexed tokens are like: how long, and words have no blank (no function of the program is named here). -/
section
open Go.RowKit
set_option maxRecDepth 100000

theorem trimF_le (l : List UInt8) : (trimF l).length ≤ l.length := by
  unfold trimF Lib.trimS Lib.trimLeftS Lib.trimRightS
  have h1 := (List.dropWhile_sublist (fun x => blanks4.contains x) (l := (l.reverse.dropWhile (fun x => blanks4.contains x)).reverse)).length_le
  have h2 := (List.dropWhile_sublist (fun x => blanks4.contains x) (l := l.reverse)).length_le
  simp only [List.length_reverse] at h1 h2
  omega

/-- what the first token is like -/
def okTok (t : Tok) (n : Nat) : Prop := t.2.length ≤ n ∧ (t.1 = 1 → t.2 ≠ [] ∧ (32 : UInt8) ∉ t.2)

theorem up_blank (c : UInt8) (h : lodF c = true) : upF c ≠ 32 := by
  have := by_all (fun c => !lodF c || decide (upF c ≠ 32)) (by decide +kernel) c
  rw [h] at this
  simpa using this

theorem firstF_ok {l : List UInt8} {k : Nat} {t : List UInt8} {n : Nat} (h : firstF l = some (k, t, n)) : okTok ((k : Int), t) l.length := by
  cases l with
  | nil => simp [firstF] at h
  | cons c r =>
    have hsz := (firstF_size k t n h).2
    simp only [firstF] at h
    unfold okTok
    split at h
    · rename_i hc
      simp only [Option.some.injEq, Prod.mk.injEq] at h
      obtain ⟨rfl, rfl, rfl⟩ := h
      have hl : lodF c = true := by simp [lodF, hc]
      refine ⟨by simp [greatF]; omega, fun _ => ⟨?_, ?_⟩⟩
      · rw [runF_some hl]
        simp [greatF]
      · unfold greatF
        intro hm
        obtain ⟨b, hb, e⟩ := List.mem_map.1 hm
        exact up_blank b (runF_all lodF _ b hb) e
    split at h
    · simp only [Option.some.injEq, Prod.mk.injEq] at h
      obtain ⟨rfl, rfl, rfl⟩ := h
      exact ⟨by simp; omega, fun e => by simp at e⟩
    split at h
    · obtain ⟨x, hx, h⟩ := Option.map_eq_some_iff.1 h
      have := quotedF_le hx
      simp only [Prod.mk.injEq] at h
      obtain ⟨rfl, rfl, rfl⟩ := h
      exact ⟨by simp; omega, fun e => by simp at e⟩
    split at h
    · obtain ⟨x, hx, h⟩ := Option.map_eq_some_iff.1 h
      have := quotedF_le hx
      simp only [Prod.mk.injEq] at h
      obtain ⟨rfl, rfl, rfl⟩ := h
      exact ⟨by simp; omega, fun e => by simp at e⟩
    split at h
    · split at h
      · cases h
      · simp only [Option.some.injEq, Prod.mk.injEq] at h
        obtain ⟨rfl, rfl, rfl⟩ := h
        refine ⟨?_, fun e => by simp at e⟩
        have := trimF_le (((c :: r).take (closedF (c :: r) 3 - 2)).drop 3)
        simp only [List.length_drop, List.length_take] at this ⊢
        omega
    split at h
    · simp only [Option.some.injEq, Prod.mk.injEq] at h
      obtain ⟨rfl, rfl, rfl⟩ := h
      exact ⟨by simp, fun e => by simp at e⟩
    · cases h

theorem step_tok {l : List UInt8} {k : Nat} {t : List UInt8} {n : Nat} (h : stepF l = .tok k t n) : firstF l = some (k, t, n) := by
  cases l with
  | nil => simp [stepF] at h
  | cons c r =>
    rw [stepF] at h
    split at h
    · cases h
    split at h
    · cases h
    split at h
    · split at h <;> cases h
    · split at h
      · cases h
      · rename_i hf
        simp only [Step.tok.injEq] at h
        obtain ⟨rfl, rfl, rfl⟩ := h
        exact hf

theorem lexF_ok : ∀ (n : Nat) (l : List UInt8) (x : List Tok), l.length ≤ n → lexF l = some x → ∀ t ∈ x, okTok t l.length := by
  intro n
  induction n with
  | zero =>
    intro l x hl h
    obtain rfl : l = [] := List.eq_nil_of_length_eq_zero (by omega)
    rw [lexF_nil] at h
    injection h with h
    subst h
    simp
  | succ n ih =>
    intro l x hl h
    by_cases hne : l = []
    · subst hne
      rw [lexF_nil] at h
      injection h with h
      subst h
      simp
    cases hst : stepF l with
    | bad => rw [lexF_bad hne hst] at h; cases h
    | skip m =>
      by_cases hm : m = 0
      · rw [lexF, dif_neg hne, hst] at h
        simp [hm] at h
      · rw [lexF_skip hne hst hm] at h
        have hl0 := List.length_pos_iff.2 hne
        intro t ht
        have := ih (l.drop m) x (by rw [List.length_drop]; omega) h t ht
        rw [List.length_drop] at this
        exact ⟨by have := this.1; omega, this.2⟩
    | tok k t m =>
      by_cases hm : m = 0
      · rw [lexF, dif_neg hne, hst] at h
        simp [hm] at h
      · rw [lexF_tok hne hst hm] at h
        obtain ⟨y, hy, rfl⟩ := Option.map_eq_some_iff.1 h
        have hl0 := List.length_pos_iff.2 hne
        intro t' ht'
        rcases List.mem_cons.1 ht' with rfl | ht'
        · exact firstF_ok (step_tok hst)
        · have := ih (l.drop m) y (by rw [List.length_drop]; omega) hy t' ht'
          rw [List.length_drop] at this
          exact ⟨by have := this.1; omega, this.2⟩
theorem lexA_ok (l : List UInt8) : ∀ t ∈ (lexA l).1, okTok t 200 := by
  unfold lexA
  split
  · simp
  · cases h : lexF l with
    | none => simp
    | some x =>
      intro t ht
      have := lexF_ok l.length l x (Nat.le_refl _) h t ht
      exact ⟨by have := this.1; omega, this.2⟩

/-- a statement's class, and where it asks to go -/
def classA (l : List UInt8) : Int := if (lexA l).2 = 0 then classF (bodyF (lexA l).1) else 0
def asksA (l : List UInt8) : Int := asksF (lexA l).1
theorem lexA_err (l : List UInt8) (h : (lexA l).2 ≠ 0) : (lexA l).1 = [] := by
  unfold lexA at h ⊢
  by_cases h2 : 200 < l.length
  · rw [if_pos h2]
  · rw [if_neg h2] at h ⊢
    cases hf : lexF l with
    | none => rfl
    | some x => rw [hf] at h; exact absurd rfl h
end

/- Class, Asks of package class: contracts. -/
section
open Go.RowKit Go.Maps
set_option maxRecDepth 100000

theorem Lw.bel {w w' : World} {b : Nat} (h : Lw w) (hc : CL w b) (hb : Bel b w w') : Lw w' := by
  obtain ⟨m, hm⟩ := h
  refine ⟨m, (World.cell?_of_block (hb.block _ (World.block_lt_of_cell? _ _ hm) fun e => ?_)).trans hm⟩
  have e : 1 = b := e
  subst e
  obtain ⟨x, h | ⟨bm, h, _⟩⟩ := hc
  · rw [h.cells.1] at hm; cases hm
  · rw [h.cells.1] at hm; cases hm

theorem saysT_short {ts : List Tk} {m : Nat} (h : ∀ t ∈ saysT ts, t.2.length ≤ m) : ∀ t ∈ ts, t.t.size ≤ m := fun t ht => by
  have := h t.says (List.mem_map.2 ⟨t, ht, rfl⟩)
  simpa [Tk.says, text_len] using this

theorem OT.fresh {e : TypeId} {w : World} {base : Nat} {A : Option Addr} {n c : Nat} {ts : List Tk} (h : OT e w base A n c ts) : Fresh base A := own_fresh h.own

set_option maxHeartbeats 2000000 in
theorem class_ok (s : ByteArray) (b : Nat) (w : World) (hs : s.size ≤ maxLen) (hL : Lw w) (hc : CL w b) :
    Calls Tryz.prog 9 #[.pointer (some ⟨b, 0, none⟩), .string s] w fun e w' => e = .returned (.int .i64 (classA s.data.toList)) ∧ CL w' b ∧ Bel b w w' := by
  have hlex := lex_ok s w hs hL
  unfold LexTo at hlex
  have hlen := lexA_len s.data.toList
  have hok := lexA_ok s.data.toList
  have HX := Lib.hid hlex
  have hA : classA s.data.toList = if (lexA s.data.toList).2 = 0 then classF (bodyF (lexA s.data.toList).1) else 0 := rfl
  generalize lexA s.data.toList = LA at *
  have HA := Lib.hid hA
  have HLen := Lib.hid hlen
  have HOk := Lib.hid hok
  have HCL := Lib.hid hc
  clear hlex hA hlen hok hc
  go_enter Tryz.func9, Tryz.ntmps9
  go_wp2_with fail
  refine HX.out.mono ?_
  rintro e w1 ⟨A, n, c, er, ts, rfl, ho, rfl, k1⟩
  clear HX
  by_cases he : er = 0
  · subst he
    have HG : Hid (classA s.data.toList = classF (bodyF (saysT ts))) := Lib.hid HA.out
    have hn : n ≤ 200 := by rw [← ho.len, ← saysT_length]; exact HLen.out
    have hcap := ho.cap
    have hW := Lib.hid (withoutHints_ok A n c ts w1 w.heap.size ho k1.size (by omega))
    have HO := Lib.hid ho
    have HLT := Lib.hid HCL.out.lt
    have HFr := Lib.hid ho.fresh
    have HS := Lib.hid HOk.out
    have HC1 := Lib.hid (HCL.out.next k1)
    clear HA HLen HOk ho
    go_wp2_with fail
    refine hW.out.mono ?_
    rintro e w2 ⟨us, k, rfl, hr, hk, hus, k2⟩
    have hE := Lib.hid (withoutEnd_ok A k c us w2 hr (by omega) (by omega))
    clear hW
    go_wp2_with fail
    refine hE.out.mono ?_
    rintro e w3 ⟨j, rfl, hj, hend, k3⟩
    have kk : Below w.heap.size w w3 := (k1.trans k2).trans (k3.mono (k1.trans k2).size)
    have hq : TQ b w3 A j c (us.take j) := by
      refine ⟨(hr.next k3).front hj, fun ad e => ?_, by omega, by omega, ?_⟩
      · have h1 := HFr.out ad e
        have h2 := HLT.out
        omega
      · have hsub : ∀ t ∈ saysT us, t.2.length ≤ 200 := fun t ht => by
          rw [hus.out] at ht
          exact (HS.out t (List.mem_filter.1 ht).1).1
        intro t ht
        have := saysT_short hsub t (List.mem_of_mem_take ht)
        omega
    have hcl3 : CL w3 b := HCL.out.next kk
    have hbody : classF (bodyF (saysT ts)) = classF (saysT (us.take j)) := by
      unfold bodyF
      rw [← hus.out, hend]
    have HB := Lib.hid hbody
    have HCc := Lib.hid (classOf_ok b _ (us.take j) (Nat.le_refl _) A j c w3 hq hcl3)
    clear hE hq hcl3 hbody hend
    go_wp2_with fail
    refine HCc.out.mono ?_
    rintro e w4 ⟨rfl, hc4, hb4⟩
    go_wp2_with fail
    go_ret
    exact ⟨by rw [HG.out, HB.out]; rfl, hc4, (Bel.of b kk).trans hb4⟩
  · have HG : Hid (classA s.data.toList = 0) := Lib.hid (by rw [HA.out, if_neg he])
    clear HA
    go_wp2_with fail
    go_ret
    exact ⟨by rw [HG.out]; rfl, HCL.out.next k1, Bel.of b k1⟩
end

/- Asks of package class: contract. -/
section
open Go.RowKit Go.Maps
set_option maxRecDepth 100000

def wPrimary : List UInt8 := [112, 114, 105, 109, 97, 114, 121]
def wReplica : List UInt8 := [114, 101, 112, 108, 105, 99, 97]
theorem asksF_cons (t : Tok) (r : List Tok) : asksF (t :: r) = if t.1 = 5 ∧ t.2 = wPrimary then 1 else if t.1 = 5 ∧ t.2 = wReplica then 2 else asksF r := rfl

set_option maxHeartbeats 2000000 in
theorem asks_ok (s : ByteArray) (b : Nat) (w : World) (hs : s.size ≤ maxLen) (hL : Lw w) :
    Calls Tryz.prog 11 #[.pointer (some ⟨b, 0, none⟩), .string s] w fun e w' => e = .returned (.int .i64 (asksA s.data.toList)) ∧ Below w.heap.size w w' := by
  have hlex := lex_ok s w hs hL
  unfold LexTo at hlex
  have HX := Lib.hid hlex
  have HLen := Lib.hid (lexA_len s.data.toList)
  have hA : asksA s.data.toList = asksF (lexA s.data.toList).1 := rfl
  generalize asksA s.data.toList = R at *
  generalize lexA s.data.toList = LA at *
  have HA := Lib.hid hA
  clear hlex hA
  go_enter Tryz.func11, Tryz.ntmps11
  go_wp2_with fail
  refine HX.out.mono ?_
  rintro e w1 ⟨A, n, c, er, ts, rfl, ho, rfl, k1⟩
  have hr := ho.tr
  have hlen := Lib.hid hr.len
  have HG : Hid (R = asksF (saysT ts)) := Lib.hid HA.out
  have hn : n ≤ 200 := by rw [← ho.len, ← saysT_length]; exact HLen.out
  clear HX HA HLen ho
  go_wp2_with fail
  go_loopw [16] (fun i wr => ∃ k : Nat, k ≤ n ∧ i = .int .i64 k ∧ Hid (R = asksF (saysT (ts.drop k))) ∧ Below w1.heap.size w1 wr) (fun i _ => n - (intOf i).toNat)
  case atStart => exact ⟨0, Nat.zero_le _, rfl, HG, Below.refl _ _⟩
  case round =>
    obtain ⟨k, hk, rfl, hx, kw⟩ := hrel
    have kz := k1.trans (kw.mono k1.size)
    by_cases hlt : k < n
    · have hkl : k < ts.length := by rw [hlen.out]; exact hlt
      obtain ⟨ad, rfl, _, hc⟩ := hr.at_ hkl
      obtain ⟨c0, c1⟩ := hc _ kw
      have hst : asksF (saysT (ts.drop k)) = if ts[k].k = 5 ∧ ts[k].t.data.toList = wPrimary then 1 else if ts[k].k = 5 ∧ ts[k].t.data.toList = wReplica then 2 else asksF (saysT (ts.drop (k + 1))) := by
        rw [List.drop_eq_getElem_cons hkl]
        exact asksF_cons _ _
      rw [hst] at hx
      clear hc hst HG
      generalize ts[k].k = x at *
      generalize ts[k].t = q at *
      by_cases h5 : x = 5
      · subst h5
        by_cases hp : q.data.toList = wPrimary
        · have HF : Hid (R = 1) := Lib.hid (by rw [hx.out, if_pos ⟨rfl, hp⟩])
          have e1 : (q.toList == [112, 114, 105, 109, 97, 114, 121]) = true := by rw [toList_is]; exact decide_eq_true hp
          clear hx hp
          go_wp2_with fail
          go_ret
          exact ⟨by rw [HF.out]; rfl, kz.trans ((kp_new wr _).mono kz.size)⟩
        have e1 : (q.toList == [112, 114, 105, 109, 97, 114, 121]) = false := by rw [toList_is]; exact decide_eq_false hp
        by_cases hq : q.data.toList = wReplica
        · have HF : Hid (R = 2) := Lib.hid (by rw [hx.out, if_neg (fun h => hp h.2), if_pos ⟨rfl, hq⟩])
          have e2 : (q.toList == [114, 101, 112, 108, 105, 99, 97]) = true := by rw [toList_is]; exact decide_eq_true hq
          clear hx hp hq
          go_wp2_with fail
          go_ret
          exact ⟨by rw [HF.out]; rfl, kz.trans ((kp_new wr _).mono kz.size)⟩
        · have HF : Hid (R = asksF (saysT (ts.drop (k + 1)))) := Lib.hid (by rw [hx.out, if_neg (fun h => hp h.2), if_neg (fun h => hq h.2)])
          have e2 : (q.toList == [114, 101, 112, 108, 105, 99, 97]) = false := by rw [toList_is]; exact decide_eq_false hq
          clear hx hp hq
          go_wp2_with fail
          go_roundw
          case rel => exact ⟨k + 1, by omega, by go_num, HF, kp_alloc' kw _⟩
          case measure => simp [intOf]; omega
      · have HF : Hid (R = asksF (saysT (ts.drop (k + 1)))) := Lib.hid (by rw [hx.out, if_neg (fun h => h5 h.1), if_neg (fun h => h5 h.1)])
        clear hx
        go_wp2_with fail
        go_roundw
        case rel => exact ⟨k + 1, by omega, by go_num, HF, kp_alloc' kw _⟩
        case measure => simp [intOf]; omega
    · obtain rfl : k = n := by omega
      have HF : Hid (R = 0) := Lib.hid (by rw [hx.out, List.drop_eq_nil_of_le (by rw [hlen.out]; exact Nat.le_refl _)]; rfl)
      clear hx HG
      go_wp2_with fail
      go_ret
      exact ⟨by rw [HF.out]; rfl, kz⟩
where
  kp_alloc' {a b : World} (h : Below a.heap.size a b) (o : Obj) : Below a.heap.size a (b.alloc o) := kp_alloc h o
end

/- The calls whose answers the document fixes, at layer 5: they answer so. -/
section
open Go.RowKit
set_option maxRecDepth 100000

theorem lex_c1 : lexF [115, 101, 108, 101, 99, 116, 32, 49, 32, 102, 111, 114, 32, 117, 112, 100, 97, 116, 101] = some [(1, [83, 69, 76, 69, 67, 84]), (4, [49]), (1, [70, 79, 82]), (1, [85, 80, 68, 65, 84, 69])] := by
  rw [lexF_tok (k := 1) (t := [83, 69, 76, 69, 67, 84]) (n := 6) (by simp) (by kernel_rfl) (by decide)]
  simp only [List.drop_succ_cons, List.drop_zero]
  rw [lexF_skip (n := 1) (by simp) (by kernel_rfl) (by decide)]
  simp only [List.drop_succ_cons, List.drop_zero]
  rw [lexF_tok (k := 4) (t := [49]) (n := 1) (by simp) (by kernel_rfl) (by decide)]
  simp only [List.drop_succ_cons, List.drop_zero]
  rw [lexF_skip (n := 1) (by simp) (by kernel_rfl) (by decide)]
  simp only [List.drop_succ_cons, List.drop_zero]
  rw [lexF_tok (k := 1) (t := [70, 79, 82]) (n := 3) (by simp) (by kernel_rfl) (by decide)]
  simp only [List.drop_succ_cons, List.drop_zero]
  rw [lexF_skip (n := 1) (by simp) (by kernel_rfl) (by decide)]
  simp only [List.drop_succ_cons, List.drop_zero]
  rw [lexF_tok (k := 1) (t := [85, 80, 68, 65, 84, 69]) (n := 6) (by simp) (by kernel_rfl) (by decide)]
  simp only [List.drop_succ_cons, List.drop_zero]
  rw [lexF_nil]
  rfl
theorem lex_c2 : lexF [83, 101, 108, 101, 99, 116, 32, 49, 59] = some [(1, [83, 69, 76, 69, 67, 84]), (4, [49]), (6, [59])] := by
  rw [lexF_tok (k := 1) (t := [83, 69, 76, 69, 67, 84]) (n := 6) (by simp) (by kernel_rfl) (by decide)]
  simp only [List.drop_succ_cons, List.drop_zero]
  rw [lexF_skip (n := 1) (by simp) (by kernel_rfl) (by decide)]
  simp only [List.drop_succ_cons, List.drop_zero]
  rw [lexF_tok (k := 4) (t := [49]) (n := 1) (by simp) (by kernel_rfl) (by decide)]
  simp only [List.drop_succ_cons, List.drop_zero]
  rw [lexF_tok (k := 6) (t := [59]) (n := 1) (by simp) (by kernel_rfl) (by decide)]
  simp only [List.drop_succ_cons, List.drop_zero]
  rw [lexF_nil]
  rfl
theorem lex_c4 : lexF [98, 101, 103, 105, 110] = some [(1, [66, 69, 71, 73, 78])] := by
  rw [lexF_tok (k := 1) (t := [66, 69, 71, 73, 78]) (n := 5) (by simp) (by kernel_rfl) (by decide)]
  simp only [List.drop_succ_cons, List.drop_zero]
  rw [lexF_nil]
  rfl
theorem lex_c5 : lexF [47, 42, 43, 32, 112, 114, 105, 109, 97, 114, 121, 32, 42, 47, 32, 115, 101, 108, 101, 99, 116, 32, 49] = some [(5, [112, 114, 105, 109, 97, 114, 121]), (1, [83, 69, 76, 69, 67, 84]), (4, [49])] := by
  rw [lexF_tok (k := 5) (t := [112, 114, 105, 109, 97, 114, 121]) (n := 14) (by simp) (by kernel_rfl) (by decide)]
  simp only [List.drop_succ_cons, List.drop_zero]
  rw [lexF_skip (n := 1) (by simp) (by kernel_rfl) (by decide)]
  simp only [List.drop_succ_cons, List.drop_zero]
  rw [lexF_tok (k := 1) (t := [83, 69, 76, 69, 67, 84]) (n := 6) (by simp) (by kernel_rfl) (by decide)]
  simp only [List.drop_succ_cons, List.drop_zero]
  rw [lexF_skip (n := 1) (by simp) (by kernel_rfl) (by decide)]
  simp only [List.drop_succ_cons, List.drop_zero]
  rw [lexF_tok (k := 4) (t := [49]) (n := 1) (by simp) (by kernel_rfl) (by decide)]
  simp only [List.drop_succ_cons, List.drop_zero]
  rw [lexF_nil]
  rfl
theorem class_c1 : classA [115, 101, 108, 101, 99, 116, 32, 49, 32, 102, 111, 114, 32, 117, 112, 100, 97, 116, 101] = 2 := by
  unfold classA
  rw [lexA_some lex_c1 (by decide)]
  show classF (bodyF [(1, [83, 69, 76, 69, 67, 84]), (4, [49]), (1, [70, 79, 82]), (1, [85, 80, 68, 65, 84, 69])]) = 2
  rw [show bodyF [(1, [83, 69, 76, 69, 67, 84]), (4, [49]), (1, [70, 79, 82]), (1, [85, 80, 68, 65, 84, 69])] = [(1, [83, 69, 76, 69, 67, 84]), (4, [49]), (1, [70, 79, 82]), (1, [85, 80, 68, 65, 84, 69])] from by decide]
  rw [classF_word (by decide) (by decide)]
  rfl
theorem class_c2 : classA [83, 101, 108, 101, 99, 116, 32, 49, 59] = 1 := by
  unfold classA
  rw [lexA_some lex_c2 (by decide)]
  show classF (bodyF [(1, [83, 69, 76, 69, 67, 84]), (4, [49]), (6, [59])]) = 1
  rw [show bodyF [(1, [83, 69, 76, 69, 67, 84]), (4, [49]), (6, [59])] = [(1, [83, 69, 76, 69, 67, 84]), (4, [49])] from by decide]
  rw [classF_word (by decide) (by decide)]
  rfl
theorem class_c4 : classA [98, 101, 103, 105, 110] = 3 := by
  unfold classA
  rw [lexA_some lex_c4 (by decide)]
  show classF (bodyF [(1, [66, 69, 71, 73, 78])]) = 3
  rw [show bodyF [(1, [66, 69, 71, 73, 78])] = [(1, [66, 69, 71, 73, 78])] from by decide]
  rw [classF_word (by decide) (by decide)]
  rfl
theorem class_c3 : classA [39] = 0 := by
  unfold classA
  rw [lexA_none (lexF_bad (by simp) (by kernel_rfl)) (by decide)]
  rfl
theorem class_c6 : classA [] = 7 := by
  unfold classA
  rw [lexA_some lexF_nil (by decide)]
  exact classF_nil
theorem asks_c5 : asksA [47, 42, 43, 32, 112, 114, 105, 109, 97, 114, 121, 32, 42, 47, 32, 115, 101, 108, 101, 99, 116, 32, 49] = 1 := by
  unfold asksA
  rw [lexA_some lex_c5 (by decide)]
  rfl

set_option maxHeartbeats 4000000 in
theorem awake5 (w : World) (hL : Lw w) : Calls Tryz.prog 7 #[] w fun e w' => e = .returned (.bool true) ∧ Below w.heap.size w w' := by
  have H0 := Lib.hid (newClasser_ok w)
  go_enter Tryz.func7, Tryz.ntmps7
  go_wp2_with fail
  refine H0.out.mono ?_
  rintro e w1 ⟨rfl, c1, k1⟩
  have L1 := hL.next k1
  clear H0
  go_wp2_with fail
  refine (class_ok ⟨#[115, 101, 108, 101, 99, 116, 32, 49, 32, 102, 111, 114, 32, 117, 112, 100, 97, 116, 101]⟩ _ _ (by decide) L1 c1).mono ?_
  rintro e w2 ⟨rfl, c2, b2⟩
  have L2 := L1.bel c1 b2
  rw [show classA (⟨#[115, 101, 108, 101, 99, 116, 32, 49, 32, 102, 111, 114, 32, 117, 112, 100, 97, 116, 101]⟩ : ByteArray).data.toList = 2 from class_c1]
  go_wp2_with fail
  refine (class_ok ⟨#[83, 101, 108, 101, 99, 116, 32, 49, 59]⟩ _ _ (by decide) L2 c2).mono ?_
  rintro e w3 ⟨rfl, c3, b3⟩
  have L3 := L2.bel c2 b3
  rw [show classA (⟨#[83, 101, 108, 101, 99, 116, 32, 49, 59]⟩ : ByteArray).data.toList = 1 from class_c2]
  go_wp2_with fail
  refine (class_ok ⟨#[39]⟩ _ _ (by decide) L3 c3).mono ?_
  rintro e w4 ⟨rfl, c4, b4⟩
  have L4 := L3.bel c3 b4
  rw [show classA (⟨#[39]⟩ : ByteArray).data.toList = 0 from class_c3]
  go_wp2_with fail
  refine (class_ok ⟨#[98, 101, 103, 105, 110]⟩ _ _ (by decide) L4 c4).mono ?_
  rintro e w5 ⟨rfl, c5, b5⟩
  have L5 := L4.bel c4 b5
  rw [show classA (⟨#[98, 101, 103, 105, 110]⟩ : ByteArray).data.toList = 3 from class_c4]
  go_wp2_with fail
  refine (asks_ok ⟨#[47, 42, 43, 32, 112, 114, 105, 109, 97, 114, 121, 32, 42, 47, 32, 115, 101, 108, 101, 99, 116, 32, 49]⟩ w.heap.size _ (by decide) L5).mono ?_
  rintro e w6 ⟨rfl, k6⟩
  have c6 := c5.next k6
  have L6 := L5.next k6
  rw [show asksA (⟨#[47, 42, 43, 32, 112, 114, 105, 109, 97, 114, 121, 32, 42, 47, 32, 115, 101, 108, 101, 99, 116, 32, 49]⟩ : ByteArray).data.toList = 1 from asks_c5]
  go_wp2_with fail
  refine (class_ok ⟨#[]⟩ _ _ (by decide) L6 c6).mono ?_
  rintro e w7 ⟨rfl, c7, b7⟩
  rw [show classA (⟨#[]⟩ : ByteArray).data.toList = 7 from class_c6]
  go_wp2_with fail
  refine (known_ok _ _ c7).mono ?_
  rintro e w8 ⟨rfl, c8, b8⟩
  go_wp2_with fail
  go_ret
  have hb := (((((b2.trans b3).trans b4).trans b5).trans (Bel.of _ k6)).trans b7).trans b8
  exact ⟨rfl, k1.trans (hb.below (Nat.le_refl _) k1.size)⟩
end

/- Tokens come back from what is written of them, whatever stands between: plain mathematics. -/
section
open Go.RowKit
set_option maxRecDepth 100000

theorem blank_parts (b : UInt8) (h : blankF b = true) : lodF b = false ∧ b ≠ 34 ∧ b ≠ 39 ∧ b ≠ 42 ∧ b ≠ 45 ∧ b ≠ 47 := by
  have := by_all (fun b => !blankF b || (!lodF b && (decide (b ≠ 34) && (decide (b ≠ 39) && (decide (b ≠ 42) && (decide (b ≠ 45) && decide (b ≠ 47))))))) (by decide +kernel) b
  rw [h] at this
  simp only [Bool.not_true, Bool.false_or, Bool.and_eq_true, Bool.not_eq_true', decide_eq_true_eq] at this
  exact this
theorem runF_append {p : UInt8 → Bool} : ∀ (t : List UInt8) (b : UInt8) (r : List UInt8), runF p t = t.length → p b = false → runF p (t ++ b :: r) = t.length
  | [], b, r, _, hb => runF_none hb
  | c :: t, b, r, h, hb => by
    have hc : p c = true := by
      cases hp : p c with
      | true => rfl
      | false => rw [runF_none hp] at h; simp at h
    rw [runF_some hc] at h
    rw [List.cons_append, runF_some hc, runF_append t b r (by simpa using h) hb]
    rfl
theorem beg_snd {a b c d : UInt8} {r : List UInt8} (h : d ≠ b) : begF [a, b] (c :: d :: r) = false := by
  cases hb : begF [a, b] (c :: d :: r) with
  | false => rfl
  | true =>
    unfold begF Lib.hasPrefix at hb
    rw [List.isPrefixOf, List.isPrefixOf] at hb
    simp at hb
    exact absurd hb.2.symm h
theorem beg3_snd {a b e c d : UInt8} {r : List UInt8} (h : d ≠ b) : begF [a, b, e] (c :: d :: r) = false := by
  cases hb : begF [a, b, e] (c :: d :: r) with
  | false => rfl
  | true =>
    unfold begF Lib.hasPrefix at hb
    rw [List.isPrefixOf, List.isPrefixOf] at hb
    simp at hb
    exact absurd hb.2.1.symm h

theorem quoted_back (q : UInt8) : ∀ (t r : List UInt8), r[0]? ≠ some q → quotedF q (twiceF q t ++ q :: r) = some (t, (twiceF q t).length + 1)
  | [], r, h => by
    rw [twiceF, List.nil_append, quotedF_ends h]
    rfl
  | b :: t, r, h => by
    have ih := quoted_back q t r h
    rw [twiceF]
    split
    · rename_i hb
      subst hb
      rw [List.cons_append, List.cons_append, quotedF_twice, ih]
      simp
    · rename_i hb
      rw [List.cons_append, quotedF_other hb, ih]
      simp

theorem index_behind : ∀ (t : List UInt8) (x : UInt8) (r : List UInt8), Lib.index t ends2 = -1 → x ≠ 47 → 0 ≤ Lib.index (x :: r) ends2 → Lib.index (t ++ x :: r) ends2 = (t.length : Int) + Lib.index (x :: r) ends2
  | [], x, r, _, _, _ => by simp
  | b :: t, x, r, h, hx, h0 => by
    have hb : ends2.isPrefixOf (b :: t) = false := by
      cases hp : ends2.isPrefixOf (b :: t) with
      | false => rfl
      | true => rw [Lib.index, hp] at h; simp at h
    have ht : Lib.index t ends2 = -1 := by
      rw [Lib.index, hb] at h
      simp only [Bool.false_eq_true, if_false] at h
      split at h
      · rename_i h1; simpa using h1
      · have := Lib.index_ge t ends2
        omega
    have hb2 : ends2.isPrefixOf (b :: (t ++ x :: r)) = false := by
      cases hp : ends2.isPrefixOf (b :: (t ++ x :: r)) with
      | false => rfl
      | true =>
        exfalso
        unfold ends2 at hp hb
        cases t with
        | nil =>
          rw [List.nil_append, List.isPrefixOf, List.isPrefixOf] at hp
          simp at hp
          exact hx hp.2.symm
        | cons d t =>
          rw [List.cons_append, List.isPrefixOf, List.isPrefixOf] at hp
          rw [List.isPrefixOf, List.isPrefixOf] at hb
          simp at hp hb
          exact hb hp.1 hp.2
    have ih := index_behind t x r ht hx h0
    rw [List.cons_append, Lib.index, hb2, ih]
    simp only [Bool.false_eq_true, if_false]
    rw [if_neg (by simp only [beq_iff_eq]; omega)]
    simp
    omega
theorem index_here (r : List UInt8) : Lib.index (42 :: 47 :: r) ends2 = 0 := by
  rw [Lib.index, if_pos (by simp [ends2, List.isPrefixOf])]

theorem trim_spaces (t : List UInt8) : trimF (32 :: t ++ [32]) = trimF t := by
  rw [trimF_R, trimF_R]
  have e1 : trimR (32 :: t ++ [32]) = rtrim blankF ((t ++ [32]).dropWhile blankF) := by
    unfold trimR rtrim
    rw [List.cons_append, dropWhile_front (by decide)]
  have e2 : trimR t = rtrim blankF (t.dropWhile blankF) := rfl
  rw [e1, e2, ← trim_sides, ← trim_sides, rtrim_front (by decide)]

theorem no_end (t : List UInt8) (h : Lib.contains t ends2 = false) : Lib.index t ends2 = -1 := by
  unfold Lib.contains at h
  have h2 : ¬ 0 ≤ Lib.index t ends2 := by simpa using h
  have := Lib.index_ge t ends2
  omega

theorem step_of_first (c : UInt8) (r : List UInt8) (h : skipF (c :: r) = 0) {k : Nat} {t : List UInt8} {n : Nat} (hf : firstF (c :: r) = some (k, t, n)) : stepF (c :: r) = .tok k t n := by
  rw [(step_first c r h).2.2, hf]

/-- what is written of a token, and a blank behind: that token comes first -/
theorem step_written (k : Int) (t : List UInt8) (hr : rightF k t = true) (b : UInt8) (hb : blankF b = true) (rest : List UInt8) :
    stepF (writtenF k t ++ b :: rest) = .tok k.toNat t (writtenF k t).length ∧ writtenF k t ≠ [] := by
  obtain ⟨bl, b34, b39, b42, b45, b47⟩ := blank_parts b hb
  rcases right_kind hr with rfl | rfl | rfl | rfl | rfl | rfl
  · have hw : writtenF 1 t = t := rfl
    rw [hw]
    have hF : rightWordF t = true := hr
    cases t with
    | nil => simp [rightWordF] at hF
    | cons c r =>
      simp only [rightWordF, Bool.and_eq_true, decide_eq_true_eq] at hF
      obtain ⟨h1, h2, h3⟩ := hF
      have hlod : lodF c = true := by simp [lodF, h1]
      have hrun := runF_append (p := lodF) (c :: r) b rest h2 bl
      rw [List.cons_append] at hrun ⊢
      refine ⟨step_of_first c _ (skip_lod c _ hlod) ?_, by simp⟩
      simp only [firstF, h1, if_true]
      rw [hrun]
      have e1 : (c :: (r ++ b :: rest)).take (c :: r).length = c :: r := by
        rw [← List.cons_append, List.take_left']
        rfl
      rw [e1, h3]
      rfl
  · have hw : writtenF 2 t = 34 :: (twiceF 34 t ++ [34]) := rfl
    rw [hw]
    have hs : skipF (34 :: (twiceF 34 t ++ [34] ++ b :: rest)) = 0 := skip_plain _ _ (by decide) (beg_not (by decide)) (by decide) (beg_not (by decide))
    refine ⟨?_, by simp⟩
    rw [List.cons_append]
    refine step_of_first _ _ hs ?_
    simp only [firstF]
    rw [if_neg (by decide), if_neg (by decide), if_pos (by decide), List.append_assoc]
    have := quoted_back 34 t (b :: rest) (by simpa using b34)
    rw [List.singleton_append, this]
    simp
  · have hw : writtenF 3 t = 39 :: (twiceF 39 t ++ [39]) := rfl
    rw [hw]
    have hs : skipF (39 :: (twiceF 39 t ++ [39] ++ b :: rest)) = 0 := skip_plain _ _ (by decide) (beg_not (by decide)) (by decide) (beg_not (by decide))
    refine ⟨?_, by simp⟩
    rw [List.cons_append]
    refine step_of_first _ _ hs ?_
    simp only [firstF]
    rw [if_neg (by decide), if_neg (by decide), if_neg (by decide), if_pos (by decide), List.append_assoc]
    have := quoted_back 39 t (b :: rest) (by simpa using b39)
    rw [List.singleton_append, this]
    simp
  · have hw : writtenF 4 t = t := rfl
    rw [hw]
    have hF : (decide (t ≠ []) && decide (runF digitF t = t.length)) = true := hr
    simp only [Bool.and_eq_true, decide_eq_true_eq] at hF
    cases t with
    | nil => exact absurd rfl hF.1
    | cons c r =>
      have h2 := hF.2
      have hd : digitF c = true := by
        cases hp : digitF c with
        | true => rfl
        | false => rw [runF_none hp] at h2; simp at h2
      have hlod : lodF c = true := by simp [lodF, hd]
      have hbd : digitF b = false := by
        cases hp : digitF b with
        | false => rfl
        | true => simp [lodF, hp] at bl
      have hrun := runF_append (p := digitF) (c :: r) b rest h2 hbd
      rw [List.cons_append] at hrun ⊢
      refine ⟨step_of_first c _ (skip_lod c _ hlod) ?_, by simp⟩
      simp only [firstF, digit_no_letter c hd, hd, Bool.false_eq_true, if_false, if_true]
      rw [hrun]
      have e1 : (c :: (r ++ b :: rest)).take (c :: r).length = c :: r := by
        rw [← List.cons_append, List.take_left']
        rfl
      rw [e1]
      rfl
  · have hF : (!Lib.contains t ends2 && decide (trimF t = t)) = true := hr
    simp only [Bool.and_eq_true, Bool.not_eq_true', decide_eq_true_eq] at hF
    have hw : writtenF 5 t ++ b :: rest = 47 :: (42 :: 43 :: 32 :: (t ++ 32 :: 42 :: 47 :: b :: rest)) := by simp [writtenF]
    have hwl : (writtenF 5 t).length = t.length + 7 := by simp [writtenF]
    have hidx : Lib.index (32 :: (t ++ 32 :: 42 :: 47 :: b :: rest)) ends2 = (t.length : Int) + 2 := by
      have h1 := index_behind t 32 (42 :: 47 :: b :: rest) (no_end t hF.1) (by decide) (by
        have := index_behind [32] 42 (47 :: b :: rest) (by decide) (by decide) (by rw [index_here]; omega)
        rw [List.singleton_append, index_here] at this
        rw [this]; simp)
      have h2 := index_behind [32] 42 (47 :: b :: rest) (by decide) (by decide) (by rw [index_here]; omega)
      rw [List.singleton_append, index_here] at h2
      rw [h2] at h1
      rw [Lib.index, if_neg (by simp [ends2, List.isPrefixOf]), h1, if_neg (by simp only [beq_iff_eq]; simp; omega)]
      simp
      omega
    have hbeg : begF [47, 42, 43] (47 :: (42 :: 43 :: 32 :: (t ++ 32 :: 42 :: 47 :: b :: rest))) = true := by simp [begF, Lib.hasPrefix, List.isPrefixOf]
    have hcl : closedF (47 :: (42 :: 43 :: 32 :: (t ++ 32 :: 42 :: 47 :: b :: rest))) 3 = t.length + 7 := by
      unfold closedF
      simp only [List.drop_succ_cons, List.drop_zero]
      rw [hidx, if_neg (by omega)]
      omega
    have hs : skipF (47 :: (42 :: 43 :: 32 :: (t ++ 32 :: 42 :: 47 :: b :: rest))) = 0 := by
      have hrm : isRemarkF (47 :: (42 :: 43 :: 32 :: (t ++ 32 :: 42 :: 47 :: b :: rest))) = false := by unfold isRemarkF; rw [hbeg]; simp
      have hln : isLineF (47 :: (42 :: 43 :: 32 :: (t ++ 32 :: 42 :: 47 :: b :: rest))) = false := by
        show (decide ((47 : UInt8).toNat = 35) || begF [45, 45] _) = false
        rw [beg_not (by decide)]
        decide
      rw [skipF, if_neg (by decide), hrm, hln]
      rfl
    refine ⟨?_, by intro e; rw [e] at hwl; simp at hwl⟩
    rw [hw, hwl]
    refine step_of_first _ _ hs ?_
    simp only [firstF]
    rw [if_neg (by decide), if_neg (by decide), if_neg (by decide), if_neg (by decide), if_pos hbeg, hcl, if_neg (by omega)]
    have e1 : ((47 :: (42 :: 43 :: 32 :: (t ++ 32 :: 42 :: 47 :: b :: rest))).take (t.length + 7 - 2)).drop 3 = 32 :: t ++ [32] := by
      rw [show t.length + 7 - 2 = (t.length + 1) + 1 + 1 + 1 + 1 from by omega]
      simp only [List.take_succ_cons, List.drop_succ_cons, List.drop_zero]
      have e2 : t ++ 32 :: 42 :: 47 :: b :: rest = (t ++ [32]) ++ 42 :: 47 :: b :: rest := by simp
      rw [e2, List.take_left' (by simp)]
      rfl
    rw [e1, trim_spaces, hF.2]
    rfl
  · have hw : writtenF 6 t = t := rfl
    rw [hw]
    cases t with
    | nil => exact absurd hr (by decide)
    | cons c r =>
      cases r with
      | cons d r =>
        have hF : false = true := hr
        cases hF
      | nil =>
        have hF : signF c = true := hr
        obtain ⟨g1, g2, g3, g4, g5, g6, g7, g8⟩ := (sign_parts c).1 hF
        have hs : skipF (c :: b :: rest) = 0 := skip_plain _ _ (blank_lt c g1) (beg_snd b42) g8 (beg_snd b45)
        refine ⟨step_of_first c _ hs ?_, by simp⟩
        simp only [firstF, g3, g4, Bool.false_eq_true, if_false]
        rw [if_neg (by omega), if_neg g7, if_neg (by rw [beg3_snd b42]; simp), if_pos hF]
        rfl

/-- a gap: a blank first, and nothing is told of it -/
structure Gap (g : List UInt8) : Prop where
  head : ∃ b g', g = b :: g' ∧ blankF b = true
  none_ : ∀ rest, lexF (g ++ rest) = lexF rest

theorem lex_back {g : List UInt8} (hg : Gap g) : ∀ ts : List (Int × List UInt8), (∀ t ∈ ts, rightF t.1 t.2 = true) → lexF (ts.flatMap fun t => writtenF t.1 t.2 ++ g) = some ts
  | [], _ => by rw [List.flatMap_nil, lexF_nil]
  | t :: ts, h => by
    have ih := lex_back hg ts (fun x hx => h x (List.mem_cons_of_mem _ hx))
    have ht := h t (by simp)
    obtain ⟨b, g', rfl, hb⟩ := hg.head
    obtain ⟨hs, hne⟩ := step_written t.1 t.2 ht b hb (g' ++ ts.flatMap fun t => writtenF t.1 t.2 ++ b :: g')
    have hk : ((t.1.toNat : Nat) : Int) = t.1 := by have := right_kind ht; omega
    have e1 : ((t :: ts).flatMap fun t => writtenF t.1 t.2 ++ b :: g') = writtenF t.1 t.2 ++ b :: (g' ++ ts.flatMap fun t => writtenF t.1 t.2 ++ b :: g') := by simp
    rw [e1, lexF_tok (by simp) hs (by intro e; exact hne (List.eq_nil_of_length_eq_zero e)), List.drop_left', ← List.cons_append, hg.none_, ih, hk]
    · rfl
    · rfl
end

/- Letters' greatness changes no token where nothing is quoted: plain mathematics. -/
section
open Go.RowKit
set_option maxRecDepth 100000

/-- a change of letters' greatness -/
structure Fold (u : UInt8 → UInt8) : Prop where
  keeps : ∀ c, letterF c = false → u c = c
  letter : ∀ c, letterF c = true → letterF (u c) = true
  up : ∀ c, upF (u c) = upF c
theorem Fold.letterF {u : UInt8 → UInt8} (h : Fold u) (c : UInt8) : Go.Proofs.YtedfclknpebpaaaGreatDoor.letterF (u c) = Go.Proofs.YtedfclknpebpaaaGreatDoor.letterF c := by
  cases hl : Go.Proofs.YtedfclknpebpaaaGreatDoor.letterF c with
  | true => exact h.letter c hl
  | false => rw [h.keeps c hl, hl]
theorem Fold.same {u : UInt8 → UInt8} (h : Fold u) (P : UInt8 → Bool) (hP : ∀ c, Go.Proofs.YtedfclknpebpaaaGreatDoor.letterF c = true → P c = false) (c : UInt8) : P (u c) = P c := by
  cases hl : Go.Proofs.YtedfclknpebpaaaGreatDoor.letterF c with
  | true => rw [hP c hl, hP _ (h.letter c hl)]
  | false => rw [h.keeps c hl]
theorem not_letter (P : UInt8 → Bool) (h : ∀ c, (!(letterF c && P c)) = true) : ∀ c, letterF c = true → P c = false := fun c hl => by
  have := h c
  rw [hl] at this
  simpa using this
theorem Fold.lod {u : UInt8 → UInt8} (h : Fold u) (c : UInt8) : lodF (u c) = lodF c := by
  unfold lodF
  rw [h.letterF, h.same digitF (not_letter _ (by_all _ (by decide +kernel)))]
theorem runF_map {u : UInt8 → UInt8} {p : UInt8 → Bool} (h : ∀ c, p (u c) = p c) : ∀ l, runF p (l.map u) = runF p l
  | [] => rfl
  | c :: r => by rw [List.map_cons, runF, runF, h c, runF_map h r]
theorem greatF_map {u : UInt8 → UInt8} (h : Fold u) (l : List UInt8) : greatF (l.map u) = greatF l := by
  unfold greatF
  rw [List.map_map]
  exact List.map_congr_left fun c _ => h.up c
theorem indexByte_map {u : UInt8 → UInt8} (h : ∀ c, (u c == 10) = (c == 10)) : ∀ l, Lib.indexByte (l.map u) 10 = Lib.indexByte l 10
  | [] => rfl
  | c :: r => by rw [List.map_cons, Lib.indexByte, Lib.indexByte, h c, indexByte_map h r]
theorem map_same {u : UInt8 → UInt8} (l : List UInt8) (h : ∀ c ∈ l, u c = c) : l.map u = l := by
  rw [List.map_congr_left h]
  simp

/-- nothing is quoted, and no remark or hint begins -/
def PlainB (l : List UInt8) : Prop := ∀ c ∈ l, c ≠ 34 ∧ c ≠ 39 ∧ c ≠ 96 ∧ c ≠ 42

theorem beg47 (c : UInt8) (r : List UInt8) (h : ∀ d ∈ r, d ≠ 42) : begF [47, 42] (c :: r) = false ∧ begF [47, 42, 43] (c :: r) = false := by
  cases r with
  | nil => simp [begF, Lib.hasPrefix, List.isPrefixOf]
  | cons d r =>
    have hd := h d (by simp)
    exact ⟨beg_snd hd, beg3_snd hd⟩
theorem beg45_map {u : UInt8 → UInt8} (h : Fold u) (c : UInt8) (r : List UInt8) : begF [45, 45] (u c :: r.map u) = begF [45, 45] (c :: r) := by
  have h45 := h.same (fun c => 45 == c) (not_letter _ (by_all _ (by decide +kernel)))
  cases r with
  | nil => simp [begF, Lib.hasPrefix, List.isPrefixOf]
  | cons d r => simp only [begF, Lib.hasPrefix, List.isPrefixOf, List.map_cons, h45]

theorem step_map {u : UInt8 → UInt8} (h : Fold u) (l : List UInt8) (hp : PlainB l) : stepF (l.map u) = stepF l := by
  cases l with
  | nil => rfl
  | cons c r =>
    obtain ⟨c34, c39, c96, c42⟩ := hp c (by simp)
    have hr : ∀ d ∈ r, d ≠ 42 := fun d hd => (hp d (List.mem_cons_of_mem _ hd)).2.2.2
    have h42 := h.same (fun c => c == 42) (not_letter _ (by_all _ (by decide +kernel)))
    have hru : ∀ d ∈ r.map u, d ≠ 42 := fun d hd => by
      obtain ⟨x, hx, rfl⟩ := List.mem_map.1 hd
      have h1 := h42 x
      have h2 : (x == 42) = false := by simpa using hr x hx
      rw [h2] at h1
      simpa using h1
    have hbl := h.same blankF (not_letter _ (by_all _ (by decide +kernel))) c
    have h35 := h.same (fun c => decide (c.toNat = 35)) (not_letter _ (by_all _ (by decide +kernel))) c
    have hln : isLineF (u c :: r.map u) = isLineF (c :: r) := by
      show (decide ((u c).toNat = 35) || begF [45, 45] (u c :: r.map u)) = (decide (c.toNat = 35) || begF [45, 45] (c :: r))
      rw [h35, beg45_map h]
    have hrm : isRemarkF (c :: r) = false := by unfold isRemarkF; rw [(beg47 c r hr).1]; rfl
    have hrmu : isRemarkF (u c :: r.map u) = false := by unfold isRemarkF; rw [(beg47 _ _ hru).1]; rfl
    have hlF : lineF (u c :: r.map u) = lineF (c :: r) := by
      have h10 := h.same (fun c => c == 10) (not_letter _ (by_all _ (by decide +kernel)))
      have := indexByte_map (u := u) h10 (c :: r)
      rw [List.map_cons] at this
      unfold lineF
      rw [this]
      simp
    have hF : firstF (u c :: r.map u) = firstF (c :: r) := by
      have hdg := h.same digitF (not_letter _ (by_all _ (by decide +kernel)))
      have hsg := h.same signF
      have hq1 := h.same (fun c => decide (c.toNat = 34 ∨ c.toNat = 96)) (not_letter _ (by_all _ (by decide +kernel))) c
      have hq2 := h.same (fun c => decide (c.toNat = 39)) (not_letter _ (by_all _ (by decide +kernel))) c
      have n1 : ¬ (c.toNat = 34 ∨ c.toNat = 96) := by
        rintro (e | e)
        · exact c34 (UInt8.toNat_inj.1 e)
        · exact c96 (UInt8.toNat_inj.1 e)
      have n2 : ¬ c.toNat = 39 := fun e => c39 (UInt8.toNat_inj.1 e)
      rw [decide_eq_false n1] at hq1
      rw [decide_eq_false n2] at hq2
      have m1 := of_decide_eq_false hq1
      have m2 := of_decide_eq_false hq2
      have e0 : u c :: r.map u = (c :: r).map u := rfl
      have hrl := runF_map (p := lodF) h.lod (c :: r)
      have hrd := runF_map (p := digitF) hdg (c :: r)
      simp only [firstF]
      rw [h.letterF]
      cases hl : Go.Proofs.YtedfclknpebpaaaGreatDoor.letterF c with
      | true =>
        simp only [if_true]
        rw [e0, hrl, ← List.map_take, greatF_map h]
      | false =>
        simp only [Bool.false_eq_true, if_false]
        rw [hdg c]
        cases hd : digitF c with
        | true =>
          simp only [if_true]
          rw [e0, hrd, ← List.map_take, map_same]
          intro x hx
          have hxd := runF_all digitF (c :: r) x hx
          exact h.keeps x (digit_no_letter x hxd)
        | false =>
          simp only [Bool.false_eq_true, if_false]
          rw [if_neg n1, if_neg m1, if_neg n2, if_neg m2, (beg47 c r hr).2, (beg47 _ _ hru).2, h.keeps c hl]
          simp only [Bool.false_eq_true, if_false]
    rw [List.map_cons, stepF, stepF, hbl, hln, hrm, hrmu, hlF, hF]
    simp only [Bool.false_eq_true, if_false]

theorem lexF_map {u : UInt8 → UInt8} (h : Fold u) : ∀ (n : Nat) (l : List UInt8), l.length ≤ n → PlainB l → lexF (l.map u) = lexF l
  | 0, l, hn, _ => by
    obtain rfl : l = [] := List.eq_nil_of_length_eq_zero (by omega)
    rfl
  | n + 1, l, hn, hp => by
    by_cases hne : l = []
    · subst hne; rfl
    have hne2 : l.map u ≠ [] := by simpa using hne
    have hl : 0 < l.length := List.length_pos_iff.2 hne
    have hst := step_map h l hp
    have hd : ∀ m, m ≠ 0 → lexF ((l.map u).drop m) = lexF (l.drop m) := fun m hm => by
      rw [← List.map_drop]
      exact lexF_map h n _ (by rw [List.length_drop]; omega) fun c hc => hp c (List.mem_of_mem_drop hc)
    cases hs : stepF l with
    | bad => rw [lexF_bad hne hs, lexF_bad hne2 (hst.trans hs)]
    | skip m =>
      by_cases hm : m = 0
      · rw [lexF, dif_neg hne2, lexF, dif_neg hne, hst, hs]
        simp [hm]
      · rw [lexF_skip hne hs hm, lexF_skip hne2 (hst.trans hs) hm, hd m hm]
    | tok k t m =>
      by_cases hm : m = 0
      · rw [lexF, dif_neg hne2, lexF, dif_neg hne, hst, hs]
        simp [hm]
      · rw [lexF_tok hne hs hm, lexF_tok hne2 (hst.trans hs) hm, hd m hm]
theorem lexA_map {u : UInt8 → UInt8} (h : Fold u) (l : List UInt8) (hp : PlainB l) : lexA (l.map u) = lexA l := by
  unfold lexA
  rw [List.length_map, lexF_map h _ l (Nat.le_refl _) hp]

theorem fold_upper : Fold Lib.upperB := ⟨fun c hl => by
    have := by_all (fun c => letterF c || Lib.upperB c == c) (by decide +kernel) c
    rw [hl] at this
    simpa using this, fun c hl => by
    have := by_all (fun c => !letterF c || letterF (Lib.upperB c)) (by decide +kernel) c
    rw [hl] at this
    simpa using this, fun c => by
    have := by_all (fun c => upF (Lib.upperB c) == upF c) (by decide +kernel) c
    simpa using this⟩
theorem fold_lower : Fold Lib.lowerB := ⟨fun c hl => by
    have := by_all (fun c => letterF c || Lib.lowerB c == c) (by decide +kernel) c
    rw [hl] at this
    simpa using this, fun c hl => by
    have := by_all (fun c => !letterF c || letterF (Lib.lowerB c)) (by decide +kernel) c
    rw [hl] at this
    simpa using this, fun c => by
    have := by_all (fun c => upF (Lib.lowerB c) == upF c) (by decide +kernel) c
    simpa using this⟩
end

/- What may stand between two tokens: blanks, remarks of each kind; a remark's line without line ends: plain mathematics. -/
section
open Go.RowKit
set_option maxRecDepth 100000

theorem lexF_blank (b : UInt8) (rest : List UInt8) (h : blankF b = true) : lexF (b :: rest) = lexF rest := by
  have hs : stepF (b :: rest) = .skip 1 := by rw [stepF, if_pos h]
  rw [lexF_skip (by simp) hs (by decide)]
  rfl
theorem indexByte_front : ∀ (t r : List UInt8), (10 : UInt8) ∉ t → Lib.indexByte (t ++ 10 :: r) 10 = (t.length : Int)
  | [], r, _ => by simp [Lib.indexByte]
  | b :: t, r, h => by
    have hb : b ≠ 10 := fun e => h (by rw [e]; simp)
    have ht : (10 : UInt8) ∉ t := fun e => h (List.mem_cons_of_mem _ e)
    have ih := indexByte_front t r ht
    rw [List.cons_append, Lib.indexByte, if_neg (by simpa using hb), ih, if_neg (by simp only [beq_iff_eq]; omega)]
    simp
theorem lexF_line (l rest : List UInt8) (t : List UInt8) (hl : l = t ++ 10 :: rest) (h : (10 : UInt8) ∉ t) (ht : t ≠ []) (hb : isLineF l = true) (hk : ∀ b, l[0]? = some b → blankF b = false) : lexF l = lexF rest := by
  have hne : l ≠ [] := by rw [hl]; simp
  have hs : stepF l = .skip t.length := by
    obtain ⟨c, r, hcr⟩ : ∃ c r, l = c :: r := by cases l with | nil => exact absurd rfl hne | cons c r => exact ⟨c, r, rfl⟩
    have hc := hk c (by rw [hcr]; rfl)
    rw [hcr] at hb ⊢
    rw [stepF, if_neg (by rw [hc]; simp), if_pos hb, ← hcr]
    unfold lineF
    rw [hl, indexByte_front t rest h, if_neg (by omega)]
    rfl
  rw [lexF_skip hne hs (by intro e; exact ht (List.eq_nil_of_length_eq_zero e)), hl, List.drop_left' rfl, lexF_blank 10 rest (by decide)]

theorem gap_blanks : Gap [9, 13, 10, 32] := ⟨⟨9, _, rfl, by decide⟩, fun rest => by
  rw [List.cons_append, List.cons_append, List.cons_append, List.cons_append, List.nil_append, lexF_blank _ _ (by decide), lexF_blank _ _ (by decide), lexF_blank _ _ (by decide), lexF_blank _ _ (by decide)]⟩
theorem gap_dashes (t : List UInt8) (h : (10 : UInt8) ∉ t) : Gap (32 :: 45 :: 45 :: (t ++ [10])) := ⟨⟨32, _, rfl, by decide⟩, fun rest => by
  rw [List.cons_append, lexF_blank _ _ (by decide)]
  refine lexF_line _ rest (45 :: 45 :: t) (by simp) (by simpa using h) (by simp) ?_ (by
    intro b hb
    simp at hb
    subst hb
    decide)
  rw [List.cons_append, List.cons_append]
  show (decide ((45 : UInt8).toNat = 35) || begF [45, 45] _) = true
  simp [begF, Lib.hasPrefix, List.isPrefixOf]⟩
theorem gap_hash (t : List UInt8) (h : (10 : UInt8) ∉ t) : Gap (32 :: 35 :: (t ++ [10])) := ⟨⟨32, _, rfl, by decide⟩, fun rest => by
  rw [List.cons_append, lexF_blank _ _ (by decide)]
  refine lexF_line _ rest (35 :: t) (by simp) (by simpa using h) (by simp) ?_ (by
    intro b hb
    simp at hb
    subst hb
    decide)
  rw [List.cons_append]
  show (decide ((35 : UInt8).toNat = 35) || begF [45, 45] (35 :: (t ++ [10] ++ rest))) = true
  simp⟩
theorem gap_remark (t : List UInt8) (h : Lib.contains t ends2 = false) (h43 : t[0]? ≠ some 43) : Gap (32 :: 47 :: 42 :: (t ++ [42, 47, 32])) := ⟨⟨32, _, rfl, by decide⟩, fun rest => by
  rw [List.cons_append, lexF_blank _ _ (by decide)]
  have e1 : 47 :: 42 :: (t ++ [42, 47, 32]) ++ rest = 47 :: 42 :: (t ++ 42 :: 47 :: 32 :: rest) := by simp
  rw [e1]
  have hidx : Lib.index (t ++ 42 :: 47 :: 32 :: rest) ends2 = (t.length : Int) := by
    rw [index_behind t 42 (47 :: 32 :: rest) (no_end t h) (by decide) (by rw [index_here]; omega), index_here]
    omega
  have hcl : closedF (47 :: 42 :: (t ++ 42 :: 47 :: 32 :: rest)) 2 = t.length + 4 := by
    unfold closedF
    simp only [List.drop_succ_cons, List.drop_zero]
    rw [hidx, if_neg (by omega)]
    omega
  have hln : isLineF (47 :: 42 :: (t ++ 42 :: 47 :: 32 :: rest)) = false := by
    show (decide ((47 : UInt8).toNat = 35) || begF [45, 45] _) = false
    rw [beg_not (by decide)]
    decide
  have hrm : isRemarkF (47 :: 42 :: (t ++ 42 :: 47 :: 32 :: rest)) = true := by
    have h3 : begF [47, 42, 43] (47 :: 42 :: (t ++ 42 :: 47 :: 32 :: rest)) = false := by
      cases t with
      | nil => simp [begF, Lib.hasPrefix, List.isPrefixOf]
      | cons c r =>
        have hc : c ≠ 43 := by simpa using h43
        have hc2 : ¬ 43 = c := fun e => hc e.symm
        simp [begF, Lib.hasPrefix, List.isPrefixOf, hc2]
    unfold isRemarkF
    rw [h3]
    simp [begF, Lib.hasPrefix, List.isPrefixOf]
  have hs : stepF (47 :: 42 :: (t ++ 42 :: 47 :: 32 :: rest)) = .skip (t.length + 4) := by
    rw [stepF, if_neg (by decide), if_neg (by rw [hln]; simp), if_pos hrm, hcl, if_neg (by omega)]
  rw [lexF_skip (by simp) hs (by omega)]
  have e2 : 47 :: 42 :: (t ++ 42 :: 47 :: 32 :: rest) = (47 :: 42 :: (t ++ [42, 47])) ++ 32 :: rest := by simp
  rw [e2, List.drop_left' (by simp), lexF_blank _ _ (by decide)]⟩

/-- what a line end becomes in a remark's line -/
def lnF (r : Int) : Int := if r = 10 then 32 else r
theorem byteZ_ne (x : Int) (h0 : 0 ≤ x) (h1 : x < 256) (h : x ≠ 10) : (10 : UInt8) ≠ x.toNat.toUInt8 := by
  intro e
  have := congrArg UInt8.toNat e
  simp at this
  omega
theorem encode_free (r : Int) (h0 : 0 ≤ r) (h : r ≠ 10) : (10 : UInt8) ∉ Lib.encodeRune r ∧ (Lib.encodeRune r).length ≤ 4 := by
  unfold Lib.encodeRune
  by_cases h1 : r ≤ 127
  · rw [Lib.encodeRuneZ_one h0 h1]
    simp only [List.map_cons, List.map_nil, List.mem_singleton, List.length_cons, List.length_nil]
    exact ⟨byteZ_ne r h0 (by omega) h, by omega⟩
  by_cases h2 : r ≤ 2047
  · rw [Lib.encodeRuneZ_two (by omega) h2]
    simp only [List.map_cons, List.map_nil, List.mem_cons, List.not_mem_nil, or_false, not_or, List.length_cons, List.length_nil]
    exact ⟨⟨byteZ_ne _ (by omega) (by omega) (by omega), byteZ_ne _ (by omega) (by omega) (by omega)⟩, by omega⟩
  by_cases h3 : (2048 ≤ r ∧ r < 55296) ∨ (57343 < r ∧ r ≤ 65535)
  · rw [Lib.encodeRuneZ_three h3]
    simp only [List.map_cons, List.map_nil, List.mem_cons, List.not_mem_nil, or_false, not_or, List.length_cons, List.length_nil]
    exact ⟨⟨byteZ_ne _ (by omega) (by omega) (by omega), byteZ_ne _ (by omega) (by omega) (by omega), byteZ_ne _ (by omega) (by omega) (by omega)⟩, by omega⟩
  by_cases h4 : 65536 ≤ r ∧ r ≤ 1114111
  · rw [Lib.encodeRuneZ_four h4.1 h4.2]
    simp only [List.map_cons, List.map_nil, List.mem_cons, List.not_mem_nil, or_false, not_or, List.length_cons, List.length_nil]
    exact ⟨⟨byteZ_ne _ (by omega) (by omega) (by omega), byteZ_ne _ (by omega) (by omega) (by omega), byteZ_ne _ (by omega) (by omega) (by omega), byteZ_ne _ (by omega) (by omega) (by omega)⟩, by omega⟩
  rw [Lib.encodeRuneZ_bad (by omega)]
  exact ⟨by decide, by decide⟩
theorem line_free : ∀ (n : Nat) (l : List UInt8), l.length ≤ n → (10 : UInt8) ∉ Lib.mapD lnF l ∧ (Lib.mapD lnF l).length ≤ 4 * l.length
  | 0, l, hn => by
    obtain rfl : l = [] := List.eq_nil_of_length_eq_zero (by omega)
    rw [Lib.mapD_nil]
    exact ⟨by simp, by simp⟩
  | n + 1, l, hn => by
    by_cases hne : l = []
    · subst hne
      rw [Lib.mapD_nil]
      exact ⟨by simp, by simp⟩
    have hw := Lib.decodeL_width l
    have hle := Lib.decodeL_le l hne
    have hl : 0 < l.length := List.length_pos_iff.2 hne
    obtain ⟨i1, i2⟩ := line_free n (l.drop (Lib.decodeL l).2) (by rw [List.length_drop]; omega)
    rw [List.length_drop] at i2
    have hf0 : 0 ≤ lnF (Lib.decodeL l).1 := by unfold lnF; split <;> omega
    have hf1 : lnF (Lib.decodeL l).1 ≠ 10 := by unfold lnF; split <;> omega
    obtain ⟨e1, e2⟩ := encode_free _ hf0 hf1
    rw [Lib.mapD_step lnF l hne, if_pos hf0]
    refine ⟨fun h => ?_, ?_⟩
    · rcases List.mem_append.1 h with h | h
      · exact e1 h
      · exact i1 h
    · rw [List.length_append]
      omega
end
end Go.Proofs.YtedfclknpebpaaaGreatDoor
