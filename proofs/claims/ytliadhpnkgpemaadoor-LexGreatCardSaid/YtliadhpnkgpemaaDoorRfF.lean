/-
  The document's layer 4: the token at a place, words and numbers and signs: contracts.
-/
import Derived.Test.YtliadhpnkgpemaaDoorRfE
namespace Go.Proofs.YtliadhpnkgpemaaDoor
open Go.RowKit
set_option maxRecDepth 100000

theorem runF_at {p : UInt8 → Bool} {l : List UInt8} {k : Nat} (h : k < l.length) : runF p (l.drop k) = if p l[k] then runF p (l.drop (k + 1)) + 1 else 0 := by
  rw [List.drop_eq_getElem_cons h, runF]

set_option maxHeartbeats 2000000 in
theorem rword_ok (s : ByteArray) (i : Nat) (c : UInt8) (r : List UInt8) (w : World) (hs : s.size ≤ 1000000) (hl : s.data.toList.drop i = c :: r) (h1 : begF [47, 42, 43] (c :: r) = false) (h2 : letterF c = true) :
    TokTo s i w (some (1, greatF ((c :: r).take (runF lodF (c :: r))), runF lodF (c :: r))) := by
  unfold TokTo tokV
  obtain ⟨hil, hc0⟩ := place hl
  obtain ⟨hB, hz, kw⟩ := tok_block w
  have hP := fun u => rat_ok s ⟨#[47, 42, 43]⟩ i u (by omega) hs (by decide) (by decide)
  rw [show (⟨#[47, 42, 43]⟩ : ByteArray).data.toList = [47, 42, 43] from rfl, hl, h1] at hP
  have H2 := fun u => rletter_ok c u
  rw [h2] at H2
  have hlen := Lib.hid (text_len s)
  have hle := runF_le lodF (c :: r)
  have hrl : (c :: r).length = s.size - i := by rw [← hl, List.length_drop, text_len]
  rw [hrl] at hle
  have htk : ∀ m, (s.extract i (i + m)).data.toList = (c :: r).take m := fun m => by rw [text_cut, hl, Nat.add_sub_cancel_left]
  have hR : runF lodF (c :: r) = runF lodF (s.data.toList.drop i) := by rw [hl]
  generalize runF lodF (c :: r) = R at hR hle ⊢
  have HR := Lib.hid hR
  have HB := Lib.hid hB
  have HZ := Lib.hid hz
  have HP := Lib.hid hP
  have H2' := Lib.hid H2
  have HTK := Lib.hid htk
  clear hB hz hP H2 h1 h2 hrl htk hR hl
  go_enter Tryd.func36, Tryd.ntmps36
  go_wp2_with fail
  refine (HP.out _).mono ?_
  rintro e w1 ⟨rfl, rfl⟩
  go_wp2_with fail
  refine (H2'.out _).mono ?_
  rintro e w1 ⟨rfl, rfl⟩
  go_wp2_with fail
  go_loop [8] (fun v => ∃ k : Nat, v = .int .i64 k ∧ i ≤ k ∧ k ≤ s.size ∧ Hid (R = (k - i) + runF lodF (s.data.toList.drop k))) (fun v => s.size - (intOf v).toNat)
  case atStart => exact ⟨i, rfl, Nat.le_refl _, by omega, Lib.hid (by rw [HR.out]; omega)⟩
  case round =>
    obtain ⟨k, rfl, hk, hks, hx⟩ := hrel
    clear HR
    have hcase : (k < s.size ∧ R ≠ k - i) ∨ R = k - i := by
      by_cases h : R = k - i
      · exact .inr h
      · refine .inl ⟨?_, h⟩
        rcases Nat.lt_or_ge k s.size with h3 | h3
        · exact h3
        · exfalso
          apply h
          rw [hx.out, List.drop_eq_nil_of_le (by rw [hlen.out]; exact h3)]
          rfl
    by_cases hlt : k < s.size
    · have hb := text_at s k hlt
      have hkl : k < s.data.toList.length := by rw [hlen.out]; exact hlt
      have hstep := runF_at (p := lodF) hkl
      rw [hstep] at hx
      generalize s.data.toList[k] = b at hb hx hstep
      clear hstep
      have hL := fun u => rletter_ok b u
      have hD := fun u => rdigit_ok b u
      cases hlo : letterF b
      · rw [hlo] at hL
        cases hdi : digitF b
        · rw [hdi] at hD
          have hR2 : R = k - i := by
            rw [hx.out, if_neg (by simp [lodF, hlo, hdi])]
            rfl
          subst hR2
          have HL := Lib.hid hL
          have HD := Lib.hid hD
          have ek : i + (k - i) = k := by omega
          have hG := fun u => word_ok (s.extract i k) u (by rw [ByteArray.size_extract]; omega)
          have ht := HTK.out (k - i)
          rw [ek] at ht
          rw [ht] at hG
          have HG := Lib.hid hG
          have HE := Lib.hid ek
          clear hL hD hlo hdi hx hG ht ek hcase
          go_wp2_with fail
          refine (HL.out _).mono ?_
          rintro e w1 ⟨rfl, rfl⟩
          go_wp2_with fail
          refine (HD.out _).mono ?_
          rintro e w1 ⟨rfl, rfl⟩
          go_wp2_with fail
          refine (HG.out _).mono ?_
          rintro e w2 ⟨rr, rfl, hrr, k2⟩
          obtain ⟨x0, x1, f0, f1⟩ := cells2 ((k2.block _ HZ.out).trans HB.out)
          go_wp2_with fail
          refine bodyPost_ret (v := .tuple #[.agg #[.int .i64 1, .string rr], .int .i64 (k : Int)]) ?_ rfl ⟨1, rr, _, rfl, ⟨rfl, hrr, by rw [HE.out]⟩, ?_⟩
          · rw [results_cell_tmp rfl]
            go_simp
          · exact (((kp_trans kw k2).setCell (Nat.le_refl _) _).setCell (Nat.le_refl _) _)
        · rw [hdi] at hD
          have hx2 : Hid (R = (k + 1 - i) + runF lodF (s.data.toList.drop (k + 1))) := Lib.hid (by
            rw [hx.out, if_pos (by simp [lodF, hdi])]
            omega)
          have HL := Lib.hid hL
          have HD := Lib.hid hD
          clear hL hD hlo hdi hx hcase
          go_wp2_with fail
          refine (HL.out _).mono ?_
          rintro e w1 ⟨rfl, rfl⟩
          go_wp2_with fail
          refine (HD.out _).mono ?_
          rintro e w1 ⟨rfl, rfl⟩
          go_wp2_with fail
          go_round
          case rel => exact ⟨k + 1, by go_num, by omega, by omega, hx2⟩
          case measure => simp [intOf]; omega
      · rw [hlo] at hL
        have hx2 : Hid (R = (k + 1 - i) + runF lodF (s.data.toList.drop (k + 1))) := Lib.hid (by
          rw [hx.out, if_pos (by simp [lodF, hlo])]
          omega)
        have HL := Lib.hid hL
        clear hL hlo hx hcase hD
        go_wp2_with fail
        refine (HL.out _).mono ?_
        rintro e w1 ⟨rfl, rfl⟩
        go_wp2_with fail
        go_round
        case rel => exact ⟨k + 1, by go_num, by omega, by omega, hx2⟩
        case measure => simp [intOf]; omega
    · have hR2 : R = k - i := by rcases hcase with h | h <;> omega
      subst hR2
      have ek : i + (k - i) = k := by omega
      have hG := fun u => word_ok (s.extract i k) u (by rw [ByteArray.size_extract]; omega)
      have ht := HTK.out (k - i)
      rw [ek] at ht
      rw [ht] at hG
      have HG := Lib.hid hG
      have HE := Lib.hid ek
      clear hx hG ht ek hcase
      go_wp2_with fail
      refine (HG.out _).mono ?_
      rintro e w2 ⟨rr, rfl, hrr, k2⟩
      obtain ⟨x0, x1, f0, f1⟩ := cells2 ((k2.block _ HZ.out).trans HB.out)
      go_wp2_with fail
      refine bodyPost_ret (v := .tuple #[.agg #[.int .i64 1, .string rr], .int .i64 (k : Int)]) ?_ rfl ⟨1, rr, _, rfl, ⟨rfl, hrr, by rw [HE.out]⟩, ?_⟩
      · rw [results_cell_tmp rfl]
        go_simp
      · exact (((kp_trans kw k2).setCell (Nat.le_refl _) _).setCell (Nat.le_refl _) _)

set_option maxHeartbeats 2000000 in
theorem rnumber_ok (s : ByteArray) (i : Nat) (c : UInt8) (r : List UInt8) (w : World) (hs : s.size ≤ 1000000) (hl : s.data.toList.drop i = c :: r) (h1 : begF [47, 42, 43] (c :: r) = false) (h2 : letterF c = false) (h3 : digitF c = true) :
    TokTo s i w (some (4, (c :: r).take (runF digitF (c :: r)), runF digitF (c :: r))) := by
  unfold TokTo tokV
  obtain ⟨hil, hc0⟩ := place hl
  obtain ⟨hB, hz, kw⟩ := tok_block w
  have hP := fun u => rat_ok s ⟨#[47, 42, 43]⟩ i u (by omega) hs (by decide) (by decide)
  rw [show (⟨#[47, 42, 43]⟩ : ByteArray).data.toList = [47, 42, 43] from rfl, hl, h1] at hP
  have H2 := fun u => rletter_ok c u
  rw [h2] at H2
  have H3 := fun u => rdigit_ok c u
  rw [h3] at H3
  have hlen := Lib.hid (text_len s)
  have hle := runF_le digitF (c :: r)
  have hrl : (c :: r).length = s.size - i := by rw [← hl, List.length_drop, text_len]
  rw [hrl] at hle
  have htk : ∀ m, (s.extract i (i + m)).data.toList = (c :: r).take m := fun m => by rw [text_cut, hl, Nat.add_sub_cancel_left]
  have hR : runF digitF (c :: r) = runF digitF (s.data.toList.drop i) := by rw [hl]
  generalize runF digitF (c :: r) = R at hR hle ⊢
  have HR := Lib.hid hR
  have HB := Lib.hid hB
  have HZ := Lib.hid hz
  have HP := Lib.hid hP
  have H2' := Lib.hid H2
  have H3' := Lib.hid H3
  have HTK := Lib.hid htk
  clear hB hz hP H2 H3 h1 h2 h3 hrl htk hR hl
  go_enter Tryd.func36, Tryd.ntmps36
  go_wp2_with fail
  refine (HP.out _).mono ?_
  rintro e w1 ⟨rfl, rfl⟩
  go_wp2_with fail
  refine (H2'.out _).mono ?_
  rintro e w1 ⟨rfl, rfl⟩
  go_wp2_with fail
  refine (H3'.out _).mono ?_
  rintro e w1 ⟨rfl, rfl⟩
  go_wp2_with fail
  go_loop [9] (fun v => ∃ k : Nat, v = .int .i64 k ∧ i ≤ k ∧ k ≤ s.size ∧ Hid (R = (k - i) + runF digitF (s.data.toList.drop k))) (fun v => s.size - (intOf v).toNat)
  case atStart => exact ⟨i, rfl, Nat.le_refl _, by omega, Lib.hid (by rw [HR.out]; omega)⟩
  case round =>
    obtain ⟨k, rfl, hk, hks, hx⟩ := hrel
    clear HR
    by_cases hlt : k < s.size
    · have hb := text_at s k hlt
      have hkl : k < s.data.toList.length := by rw [hlen.out]; exact hlt
      have hstep := runF_at (p := digitF) hkl
      rw [hstep] at hx
      generalize s.data.toList[k] = b at hb hx hstep
      clear hstep
      have hD := fun u => rdigit_ok b u
      cases hdi : digitF b
      · rw [hdi] at hD
        have hR2 : R = k - i := by
          rw [hx.out, if_neg (by simp [hdi])]
          rfl
        subst hR2
        have HD := Lib.hid hD
        have ek : i + (k - i) = k := by omega
        have ht := HTK.out (k - i)
        rw [ek] at ht
        have HT := Lib.hid ht
        have HE := Lib.hid ek
        clear hD hdi hx ht ek
        obtain ⟨x0, x1, f0, f1⟩ := cells2 HB.out
        go_wp2_with fail
        refine (HD.out _).mono ?_
        rintro e w1 ⟨rfl, rfl⟩
        go_wp2_with fail
        refine bodyPost_ret (v := .tuple #[.agg #[.int .i64 4, .string (s.extract i k)], .int .i64 (k : Int)]) ?_ rfl ⟨4, s.extract i k, _, rfl, ⟨rfl, HT.out, by rw [HE.out]⟩, ?_⟩
        · rw [results_cell_tmp rfl]
          go_simp
        · first | exact kw | exact ((kw.setCell (Nat.le_refl _) _).setCell (Nat.le_refl _) _) | exact kp_new _ _
      · rw [hdi] at hD
        have hx2 : Hid (R = (k + 1 - i) + runF digitF (s.data.toList.drop (k + 1))) := Lib.hid (by
          rw [hx.out, if_pos (by simp [hdi])]
          omega)
        have HD := Lib.hid hD
        clear hD hdi hx
        go_wp2_with fail
        refine (HD.out _).mono ?_
        rintro e w1 ⟨rfl, rfl⟩
        go_wp2_with fail
        go_round
        case rel => exact ⟨k + 1, by go_num, by omega, by omega, hx2⟩
        case measure => simp [intOf]; omega
    · have hR2 : R = k - i := by
        rw [hx.out, List.drop_eq_nil_of_le (by rw [hlen.out]; omega)]
        rfl
      subst hR2
      have ek : i + (k - i) = k := by omega
      have ht := HTK.out (k - i)
      rw [ek] at ht
      have HT := Lib.hid ht
      have HE := Lib.hid ek
      clear hx ht ek
      obtain ⟨x0, x1, f0, f1⟩ := cells2 HB.out
      go_wp2_with fail
      refine bodyPost_ret (v := .tuple #[.agg #[.int .i64 4, .string (s.extract i k)], .int .i64 (k : Int)]) ?_ rfl ⟨4, s.extract i k, _, rfl, ⟨rfl, HT.out, by rw [HE.out]⟩, ?_⟩
      · rw [results_cell_tmp rfl]
        go_simp
      · first | exact kw | exact ((kw.setCell (Nat.le_refl _) _).setCell (Nat.le_refl _) _) | exact kp_new _ _
end Go.Proofs.YtliadhpnkgpemaaDoor
