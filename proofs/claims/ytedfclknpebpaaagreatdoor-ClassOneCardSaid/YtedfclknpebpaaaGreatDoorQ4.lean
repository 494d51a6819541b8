/-
  Contracts and plain functions that the law stands on, part 4 of 5.
-/
import Derived.Test.YtedfclknpebpaaaGreatDoorQ3
import Derived.ProofKit
import Derived.OpenShut
import Derived.JoinedCond
import Derived.Deep.Slices
import Derived.Lib.SmallJoins
import Derived.SizedLaws
import Derived.Test.YtedfclknpebpaaaGreatDoorCards
import Derived.Test.YtedfclknpebpaaaGreatDoorTie
import Derived.Shelf.Vars
import Derived.SevenTiedAt
import Derived.Stop.Joined
import Derived.LaidMore
import Derived.Lay
import Derived.Handed
import Derived.Lib.MapLaws
namespace Go.Proofs.YtedfclknpebpaaaGreatDoor
/- The document's layer 5: the class of tokens: contract. -/
section
open Go.RowKit
set_option maxRecDepth 100000

theorem TR.rest2' {w : World} {A : Option Addr} {n : Nat} {ts : List Tk} (h : TR w A n ts) (hn : 2 ≤ n) : ∃ ad, A = some ad ∧ TR w (some ⟨ad.block, ad.off + 4, none⟩) (n - 2) (ts.drop 2) := by
  obtain ⟨ad, rfl, _⟩ := h.at_ (j := 0) (by have := h.len; omega)
  exact ⟨ad, rfl, h.rest2 hn⟩

set_option maxHeartbeats 16000000 in
theorem rtokens_step (ts : List Tk) (ih : ∀ us : List Tk, us.length + 2 ≤ ts.length → RTo us) : RTo ts := by
  intro A n c w h hcap hn hl
  have hlen := Lib.hid h.len
  have hno : (saysT ts).any stopF = false → classF (saysT ts) = famB (famF (wordAt (saysT ts) 0)) ((saysT ts).drop 1) (exF ((saysT ts).drop 1) (classF ((saysT ts).drop 2))) := classF_all
  have hst : (saysT ts).any stopF = true → classF (saysT ts) = 7 := fun hs => by
    cases ts with
    | nil => cases hs
    | cons t r => exact classF_no (.inr hs)
  generalize classF (saysT ts) = R at *
  have HNO := Lib.hid hno
  have HST := Lib.hid hst
  have hW := Lib.hid (rword5_ok A n c ts 0 w h hl hn (by omega))
  have hW1 := Lib.hid fun u hu => rword5_ok A n c ts 1 u hu hl hn (by omega)
  have hWO := Lib.hid fun k => wordAt_ok hl.ok k
  clear hno hst
  go_enter Tryz.func28, Tryz.ntmps28
  go_wp2_with fail
  refine hW.out.mono ?_
  rintro e w1 ⟨q0, rfl, hq0, hz0, rfl⟩
  have HQ0 := Lib.hid hq0
  clear hW hq0
  go_wp2_with fail
  go_loopw [4] (fun i wr => ∃ k : Nat, k ≤ n ∧ i = .int .i64 k ∧ Hid (∀ x ∈ (saysT ts).take k, stopF x = false) ∧ Below w.heap.size w wr) (fun i _ => n - (intOf i).toNat)
  case atStart => exact ⟨0, Nat.zero_le _, rfl, Lib.hid (by simp), Below.refl _ _⟩
  case round =>
    obtain ⟨k, hk, rfl, hns, kw⟩ := hrel
    by_cases hlt : k < n
    · have hkl : k < ts.length := by rw [hlen.out]; exact hlt
      obtain ⟨ad, rfl, _, hcc⟩ := h.at_ hkl
      obtain ⟨c0, c1⟩ := hcc _ kw
      have hS := Lib.hid (rsign5_ok ts[k] wr)
      have hks : k < (saysT ts).length := by rw [saysT_length]; exact hkl
      have hsa : (saysT ts)[k] = ts[k].says := by simp [saysT]
      clear hcc hW1
      cases hs : stopF ts[k].says with
      | false =>
        have hns2 : Hid (∀ x ∈ (saysT ts).take (k + 1), stopF x = false) := Lib.hid (by
          rw [List.take_succ_eq_append_getElem hks]
          intro x hx
          rcases List.mem_append.1 hx with h1 | h1
          · exact hns.out x h1
          · rw [List.mem_singleton.1 h1, hsa]; exact hs)
        rw [hs] at hS
        clear hs hsa hns
        generalize ts[k].k = x at *
        generalize ts[k].t = s at *
        go_wp2_with fail
        refine hS.out.mono ?_
        rintro e w2 ⟨rfl, k2⟩
        go_wp2_with fail
        go_roundw
        case rel => exact ⟨k + 1, by omega, by go_num, hns2, kp_trans kw k2⟩
        case measure => simp [intOf]; omega
      | true =>
        have hF : R = 7 := HST.out (List.any_eq_true.2 ⟨_, List.getElem_mem hks, by rw [hsa]; exact hs⟩)
        have HF := Lib.hid hF
        rw [hs] at hS
        clear hs hsa hns hF
        generalize ts[k].k = x at *
        generalize ts[k].t = s at *
        go_wp2_with fail
        refine hS.out.mono ?_
        rintro e w2 ⟨rfl, k2⟩
        go_wp2_with fail
        go_ret
        exact ⟨by rw [HF.out]; rfl, kp_trans kw k2⟩
    · obtain rfl : n = k := by omega
      have hany : (saysT ts).any stopF = false := by
        rw [List.any_eq_false]
        intro x hx
        have h1 := hns.out x (by rw [List.take_of_length_le (by rw [saysT_length, hlen.out]; exact Nat.le_refl _)]; exact hx)
        rw [h1]
        simp
      have hRR := HNO.out hany
      obtain ⟨v, hv⟩ : ∃ v, famF (wordAt (saysT ts) 0) = v := ⟨_, rfl⟩
      rw [hv] at hRR
      have HR := Lib.hid hRR
      have hw0 := Lib.hid hv
      have K : Knows q0 v := ⟨by rw [HQ0.out]; exact hv, by rw [HQ0.out]; exact hWO.out 0, hz0⟩
      have HW1 := hW1.out wr (h.next kw)
      clear hany hRR hv hns HNO HST
      go_wp2_with fail
      refine HW1.mono ?_
      rintro e wx ⟨q1, rfl, hq1, hz1, rfl⟩
      have hp1 : q1.data.toList = [] ∨ (q1.data.toList ≠ [] ∧ (32 : UInt8) ∉ q1.data.toList) := by rw [hq1]; exact hWO.out 1
      replace h := h.next kw
      clear HW1 hW1 HQ0 hz0
      by_cases h1 : v = 1
      · subst h1
        have HG : Hid (R = 1) := Lib.hid (HR.out)
        have eEXPLAIN : (q0.toList == [69, 88, 80, 76, 65, 73, 78]) = false := K.isEXPLAIN.trans (by decide)
        have eWITH : (q0.toList == [87, 73, 84, 72]) = false := K.isWITH.trans (by decide)
        have eBEGIN : (q0.toList == [66, 69, 71, 73, 78]) = false := K.isBEGIN.trans (by decide)
        have eSTART : (q0.toList == [83, 84, 65, 82, 84]) = false := K.isSTART.trans (by decide)
        have eCOMMIT : (q0.toList == [67, 79, 77, 77, 73, 84]) = false := K.isCOMMIT.trans (by decide)
        have eROLLBACK : (q0.toList == [82, 79, 76, 76, 66, 65, 67, 75]) = false := K.isROLLBACK.trans (by decide)
        have eSET : (q0.toList == [83, 69, 84]) = false := K.isSET.trans (by decide)
        go_wp2_with fail
        refine (K.inShow _ (by rfl) (by decide) _).mono ?_
        rintro e _ ⟨rfl, rfl⟩
        go_wp2_with fail
        go_ret
        exact ⟨by rw [HG.out]; rfl, kw⟩
      by_cases h2 : v = 2
      · subst h2
        have hxx : decide (q1.data.toList ∈ [wANALYZE, wANALYSE]) = headF ((saysT ts).drop 1) [wANALYZE, wANALYSE] := by rw [head_word (by decide), hq1]
        have HG : Hid (R = exF ((saysT ts).drop 1) (classF ((saysT ts).drop 2))) := Lib.hid HR.out
        cases hx : headF ((saysT ts).drop 1) [wANALYZE, wANALYSE] with
        | false =>
          rw [hx] at hxx
          have HG2 : Hid (R = 1) := Lib.hid (by rw [HG.out]; unfold exF; rw [hx]; rfl)
          have hI := Lib.hid fun t ht hz => rin_is q1 t [wANALYZE, wANALYSE] false ht (by decide) hp1 hz1 hz hxx
          clear hxx hx
          have eEXPLAIN : (q0.toList == [69, 88, 80, 76, 65, 73, 78]) = true := K.isEXPLAIN.trans (by decide)
          have eWITH : (q0.toList == [87, 73, 84, 72]) = false := K.isWITH.trans (by decide)
          have eBEGIN : (q0.toList == [66, 69, 71, 73, 78]) = false := K.isBEGIN.trans (by decide)
          have eSTART : (q0.toList == [83, 84, 65, 82, 84]) = false := K.isSTART.trans (by decide)
          have eCOMMIT : (q0.toList == [67, 79, 77, 77, 73, 84]) = false := K.isCOMMIT.trans (by decide)
          have eROLLBACK : (q0.toList == [82, 79, 76, 76, 66, 65, 67, 75]) = false := K.isROLLBACK.trans (by decide)
          have eSET : (q0.toList == [83, 69, 84]) = false := K.isSET.trans (by decide)
          go_wp2_with fail
          refine (K.inShow _ (by rfl) (by decide) _).mono ?_
          rintro e _ ⟨rfl, rfl⟩
          go_wp2_with fail
          refine (hI.out _ (by rfl) (by decide) _).mono ?_
          rintro e _ ⟨rfl, rfl⟩
          go_wp2_with fail
          go_ret
          exact ⟨by rw [HG2.out]; rfl, kw⟩
        | true =>
          rw [hx] at hxx
          have hn2 : 2 ≤ n := by
            have := hlen.out
            rcases ts with _ | ⟨t0, _ | ⟨t1, ts⟩⟩
            · cases hx
            · cases hx
            · simp at this; omega
          have hrec := ih (ts.drop 2) (by rw [List.length_drop]; have := hlen.out; omega)
          have hd2 : (saysT ts).drop 2 = saysT (ts.drop 2) := by simp [saysT]
          have HG2 : Hid (R = if classF (saysT (ts.drop 2)) = 2 then 2 else if classF (saysT (ts.drop 2)) = 7 then 7 else 1) := Lib.hid (by rw [HG.out, hd2]; unfold exF; rw [hx]; rfl)
          unfold RTo at hrec
          generalize classF (saysT (ts.drop 2)) = x at *
          have hI := Lib.hid fun t ht hz => rin_is q1 t [wANALYZE, wANALYSE] true ht (by decide) hp1 hz1 hz hxx
          have hr2 := h.rest2' hn2
          obtain ⟨ad, rfl, hr3⟩ := hr2
          have HREC := Lib.hid hrec
          have HL2 := Lib.hid (hl.drop 2)
          clear hxx hx hrec hd2
          by_cases hc2 : c = 2
          · subst hc2
            obtain rfl : n = 2 := by omega
            have HR3 : Hid (TR wr (some ad) 0 (ts.drop 2)) := Lib.hid (by have h0 : ts.drop 2 = [] := List.drop_eq_nil_of_le (by rw [hlen.out]; exact Nat.le_refl _); rw [h0]; exact ⟨rfl, .inl rfl⟩)
            have eEXPLAIN : (q0.toList == [69, 88, 80, 76, 65, 73, 78]) = true := K.isEXPLAIN.trans (by decide)
            have eWITH : (q0.toList == [87, 73, 84, 72]) = false := K.isWITH.trans (by decide)
            have eBEGIN : (q0.toList == [66, 69, 71, 73, 78]) = false := K.isBEGIN.trans (by decide)
            have eSTART : (q0.toList == [83, 84, 65, 82, 84]) = false := K.isSTART.trans (by decide)
            have eCOMMIT : (q0.toList == [67, 79, 77, 77, 73, 84]) = false := K.isCOMMIT.trans (by decide)
            have eROLLBACK : (q0.toList == [82, 79, 76, 76, 66, 65, 67, 75]) = false := K.isROLLBACK.trans (by decide)
            have eSET : (q0.toList == [83, 69, 84]) = false := K.isSET.trans (by decide)
            go_wp2_with fail
            refine (K.inShow _ (by rfl) (by decide) _).mono ?_
            rintro e _ ⟨rfl, rfl⟩
            go_wp2_with fail
            refine (hI.out _ (by rfl) (by decide) _).mono ?_
            rintro e _ ⟨rfl, rfl⟩
            go_wp2_with fail
            refine (HREC.out _ _ _ _ HR3.out (by omega) (by omega) HL2.out).mono ?_
            rintro e w5 ⟨rfl, k5⟩
            have kw5 := kp_trans kw k5
            by_cases hx2 : x = 2
            · subst hx2
              have HG3 : Hid (R = 2) := Lib.hid HG2.out
              go_wp2_with fail
              go_ret
              exact ⟨by rw [HG3.out]; rfl, kw5⟩
            by_cases hx7 : x = 7
            · subst hx7
              have HG3 : Hid (R = 7) := Lib.hid HG2.out
              go_wp2_with fail
              go_ret
              exact ⟨by rw [HG3.out]; rfl, kw5⟩
            have HG3 : Hid (R = 1) := Lib.hid (by rw [HG2.out, if_neg hx2, if_neg hx7])
            have f2 : (x == 2) = false := by simpa using hx2
            have f7 : (x == 7) = false := by simpa using hx7
            go_wp2_with fail
            go_ret
            exact ⟨by rw [HG3.out]; rfl, kw5⟩
          · have HR3 := Lib.hid hr3
            have eEXPLAIN : (q0.toList == [69, 88, 80, 76, 65, 73, 78]) = true := K.isEXPLAIN.trans (by decide)
            have eWITH : (q0.toList == [87, 73, 84, 72]) = false := K.isWITH.trans (by decide)
            have eBEGIN : (q0.toList == [66, 69, 71, 73, 78]) = false := K.isBEGIN.trans (by decide)
            have eSTART : (q0.toList == [83, 84, 65, 82, 84]) = false := K.isSTART.trans (by decide)
            have eCOMMIT : (q0.toList == [67, 79, 77, 77, 73, 84]) = false := K.isCOMMIT.trans (by decide)
            have eROLLBACK : (q0.toList == [82, 79, 76, 76, 66, 65, 67, 75]) = false := K.isROLLBACK.trans (by decide)
            have eSET : (q0.toList == [83, 69, 84]) = false := K.isSET.trans (by decide)
            go_wp2_with fail
            refine (K.inShow _ (by rfl) (by decide) _).mono ?_
            rintro e _ ⟨rfl, rfl⟩
            go_wp2_with fail
            refine (hI.out _ (by rfl) (by decide) _).mono ?_
            rintro e _ ⟨rfl, rfl⟩
            go_wp2_with fail
            refine (HREC.out _ _ _ _ HR3.out (by omega) (by omega) HL2.out).mono ?_
            rintro e w5 ⟨rfl, k5⟩
            have kw5 := kp_trans kw k5
            by_cases hx2 : x = 2
            · subst hx2
              have HG3 : Hid (R = 2) := Lib.hid HG2.out
              go_wp2_with fail
              go_ret
              exact ⟨by rw [HG3.out]; rfl, kw5⟩
            by_cases hx7 : x = 7
            · subst hx7
              have HG3 : Hid (R = 7) := Lib.hid HG2.out
              go_wp2_with fail
              go_ret
              exact ⟨by rw [HG3.out]; rfl, kw5⟩
            have HG3 : Hid (R = 1) := Lib.hid (by rw [HG2.out, if_neg hx2, if_neg hx7])
            have f2 : (x == 2) = false := by simpa using hx2
            have f7 : (x == 7) = false := by simpa using hx7
            go_wp2_with fail
            go_ret
            exact ⟨by rw [HG3.out]; rfl, kw5⟩
      by_cases h3 : v = 3
      · subst h3
        have HG : Hid (R = 2) := Lib.hid (HR.out)
        have eEXPLAIN : (q0.toList == [69, 88, 80, 76, 65, 73, 78]) = false := K.isEXPLAIN.trans (by decide)
        have eWITH : (q0.toList == [87, 73, 84, 72]) = false := K.isWITH.trans (by decide)
        have eBEGIN : (q0.toList == [66, 69, 71, 73, 78]) = false := K.isBEGIN.trans (by decide)
        have eSTART : (q0.toList == [83, 84, 65, 82, 84]) = false := K.isSTART.trans (by decide)
        have eCOMMIT : (q0.toList == [67, 79, 77, 77, 73, 84]) = false := K.isCOMMIT.trans (by decide)
        have eROLLBACK : (q0.toList == [82, 79, 76, 76, 66, 65, 67, 75]) = false := K.isROLLBACK.trans (by decide)
        have eSET : (q0.toList == [83, 69, 84]) = false := K.isSET.trans (by decide)
        go_wp2_with fail
        refine (K.inShow _ (by rfl) (by decide) _).mono ?_
        rintro e _ ⟨rfl, rfl⟩
        go_wp2_with fail
        refine (K.inWrite _ (by rfl) (by decide) _).mono ?_
        rintro e _ ⟨rfl, rfl⟩
        go_wp2_with fail
        go_ret
        exact ⟨by rw [HG.out]; rfl, kw⟩
      by_cases h4 : v = 4
      · subst h4
        have hno : wordAt (saysT ts) 0 ∉ six := six_sel (by rw [hw0.out]; decide)
        have hH := fun t ht hz => rhas_ok A n c ts t six wr h hl hn ht (by decide) hz
        have HG : Hid (R = selF ((saysT ts).drop 1) true) := Lib.hid HR.out
        have hrr := has_rest (L := saysT ts) (ws := six) (by decide) hno
        unfold selF at HG
        rw [hrr] at HG
        clear hrr hno
        generalize hasF (saysT ts) six = x at *
        cases x with
        | true =>
          have HG2 : Hid (R = 2) := Lib.hid HG.out
          have eEXPLAIN : (q0.toList == [69, 88, 80, 76, 65, 73, 78]) = false := K.isEXPLAIN.trans (by decide)
          have eWITH : (q0.toList == [87, 73, 84, 72]) = false := K.isWITH.trans (by decide)
          have eBEGIN : (q0.toList == [66, 69, 71, 73, 78]) = false := K.isBEGIN.trans (by decide)
          have eSTART : (q0.toList == [83, 84, 65, 82, 84]) = false := K.isSTART.trans (by decide)
          have eCOMMIT : (q0.toList == [67, 79, 77, 77, 73, 84]) = false := K.isCOMMIT.trans (by decide)
          have eROLLBACK : (q0.toList == [82, 79, 76, 76, 66, 65, 67, 75]) = false := K.isROLLBACK.trans (by decide)
          have eSET : (q0.toList == [83, 69, 84]) = false := K.isSET.trans (by decide)
          go_wp2_with fail
          refine (K.inShow _ (by rfl) (by decide) _).mono ?_
          rintro e _ ⟨rfl, rfl⟩
          go_wp2_with fail
          refine (K.inWrite _ (by rfl) (by decide) _).mono ?_
          rintro e _ ⟨rfl, rfl⟩
          go_wp2_with fail
          refine (K.inSel _ (by rfl) (by decide) _).mono ?_
          rintro e _ ⟨rfl, rfl⟩
          go_wp2_with fail
          refine (hH _ (by rfl) (by decide)).mono ?_
          rintro e _ ⟨rfl, rfl⟩
          go_wp2_with fail
          go_ret
          exact ⟨by rw [HG2.out]; rfl, kw⟩
        | false =>
          have HG2 : Hid (R = 1) := Lib.hid HG.out
          have eEXPLAIN : (q0.toList == [69, 88, 80, 76, 65, 73, 78]) = false := K.isEXPLAIN.trans (by decide)
          have eWITH : (q0.toList == [87, 73, 84, 72]) = false := K.isWITH.trans (by decide)
          have eBEGIN : (q0.toList == [66, 69, 71, 73, 78]) = false := K.isBEGIN.trans (by decide)
          have eSTART : (q0.toList == [83, 84, 65, 82, 84]) = false := K.isSTART.trans (by decide)
          have eCOMMIT : (q0.toList == [67, 79, 77, 77, 73, 84]) = false := K.isCOMMIT.trans (by decide)
          have eROLLBACK : (q0.toList == [82, 79, 76, 76, 66, 65, 67, 75]) = false := K.isROLLBACK.trans (by decide)
          have eSET : (q0.toList == [83, 69, 84]) = false := K.isSET.trans (by decide)
          go_wp2_with fail
          refine (K.inShow _ (by rfl) (by decide) _).mono ?_
          rintro e _ ⟨rfl, rfl⟩
          go_wp2_with fail
          refine (K.inWrite _ (by rfl) (by decide) _).mono ?_
          rintro e _ ⟨rfl, rfl⟩
          go_wp2_with fail
          refine (K.inSel _ (by rfl) (by decide) _).mono ?_
          rintro e _ ⟨rfl, rfl⟩
          go_wp2_with fail
          refine (hH _ (by rfl) (by decide)).mono ?_
          rintro e _ ⟨rfl, rfl⟩
          go_wp2_with fail
          go_ret
          exact ⟨by rw [HG2.out]; rfl, kw⟩
      by_cases h5 : v = 5
      · subst h5
        have hno : wordAt (saysT ts) 0 ∉ six := six_sel (by rw [hw0.out]; decide)
        have hH := fun t ht hz => rhas_ok A n c ts t six wr h hl hn ht (by decide) hz
        have HG : Hid (R = selF ((saysT ts).drop 1) (hasF ((saysT ts).drop 1) [wSELECT])) := Lib.hid HR.out
        have hno2 : wordAt (saysT ts) 0 ∉ [wSELECT] := fun hm => by
          have h1 := List.mem_singleton.1 hm
          have h2 := hw0.out
          rw [h1] at h2
          revert h2
          decide
        have hH2 := fun t ht hz => rhas_ok A n c ts t [wSELECT] wr h hl hn ht (by decide) hz
        have hrr := has_rest (L := saysT ts) (ws := six) (by decide) hno
        unfold selF at HG
        rw [hrr] at HG
        rw [has_rest (L := saysT ts) (ws := [wSELECT]) (by decide) hno2] at HG
        clear hno2
        generalize hasF (saysT ts) [wSELECT] = y at *
        clear hrr hno
        generalize hasF (saysT ts) six = x at *
        cases x with
        | true =>
          have HG2 : Hid (R = 2) := Lib.hid HG.out
          have eEXPLAIN : (q0.toList == [69, 88, 80, 76, 65, 73, 78]) = false := K.isEXPLAIN.trans (by decide)
          have eWITH : (q0.toList == [87, 73, 84, 72]) = true := K.isWITH.trans (by decide)
          have eBEGIN : (q0.toList == [66, 69, 71, 73, 78]) = false := K.isBEGIN.trans (by decide)
          have eSTART : (q0.toList == [83, 84, 65, 82, 84]) = false := K.isSTART.trans (by decide)
          have eCOMMIT : (q0.toList == [67, 79, 77, 77, 73, 84]) = false := K.isCOMMIT.trans (by decide)
          have eROLLBACK : (q0.toList == [82, 79, 76, 76, 66, 65, 67, 75]) = false := K.isROLLBACK.trans (by decide)
          have eSET : (q0.toList == [83, 69, 84]) = false := K.isSET.trans (by decide)
          go_wp2_with fail
          refine (K.inShow _ (by rfl) (by decide) _).mono ?_
          rintro e _ ⟨rfl, rfl⟩
          go_wp2_with fail
          refine (K.inWrite _ (by rfl) (by decide) _).mono ?_
          rintro e _ ⟨rfl, rfl⟩
          go_wp2_with fail
          refine (K.inSel _ (by rfl) (by decide) _).mono ?_
          rintro e _ ⟨rfl, rfl⟩
          go_wp2_with fail
          refine (hH _ (by rfl) (by decide)).mono ?_
          rintro e _ ⟨rfl, rfl⟩
          go_wp2_with fail
          go_ret
          exact ⟨by rw [HG2.out]; rfl, kw⟩
        | false =>
          cases y with
          | true =>
            have HG2 : Hid (R = 1) := Lib.hid HG.out
            have eEXPLAIN : (q0.toList == [69, 88, 80, 76, 65, 73, 78]) = false := K.isEXPLAIN.trans (by decide)
            have eWITH : (q0.toList == [87, 73, 84, 72]) = true := K.isWITH.trans (by decide)
            have eBEGIN : (q0.toList == [66, 69, 71, 73, 78]) = false := K.isBEGIN.trans (by decide)
            have eSTART : (q0.toList == [83, 84, 65, 82, 84]) = false := K.isSTART.trans (by decide)
            have eCOMMIT : (q0.toList == [67, 79, 77, 77, 73, 84]) = false := K.isCOMMIT.trans (by decide)
            have eROLLBACK : (q0.toList == [82, 79, 76, 76, 66, 65, 67, 75]) = false := K.isROLLBACK.trans (by decide)
            have eSET : (q0.toList == [83, 69, 84]) = false := K.isSET.trans (by decide)
            go_wp2_with fail
            refine (K.inShow _ (by rfl) (by decide) _).mono ?_
            rintro e _ ⟨rfl, rfl⟩
            go_wp2_with fail
            refine (K.inWrite _ (by rfl) (by decide) _).mono ?_
            rintro e _ ⟨rfl, rfl⟩
            go_wp2_with fail
            refine (K.inSel _ (by rfl) (by decide) _).mono ?_
            rintro e _ ⟨rfl, rfl⟩
            go_wp2_with fail
            refine (hH _ (by rfl) (by decide)).mono ?_
            rintro e _ ⟨rfl, rfl⟩
            go_wp2_with fail
            refine (hH2 _ (by rfl) (by decide)).mono ?_
            rintro e _ ⟨rfl, rfl⟩
            go_wp2_with fail
            go_ret
            exact ⟨by rw [HG2.out]; rfl, kw⟩
          | false =>
            have HG2 : Hid (R = 7) := Lib.hid HG.out
            have eEXPLAIN : (q0.toList == [69, 88, 80, 76, 65, 73, 78]) = false := K.isEXPLAIN.trans (by decide)
            have eWITH : (q0.toList == [87, 73, 84, 72]) = true := K.isWITH.trans (by decide)
            have eBEGIN : (q0.toList == [66, 69, 71, 73, 78]) = false := K.isBEGIN.trans (by decide)
            have eSTART : (q0.toList == [83, 84, 65, 82, 84]) = false := K.isSTART.trans (by decide)
            have eCOMMIT : (q0.toList == [67, 79, 77, 77, 73, 84]) = false := K.isCOMMIT.trans (by decide)
            have eROLLBACK : (q0.toList == [82, 79, 76, 76, 66, 65, 67, 75]) = false := K.isROLLBACK.trans (by decide)
            have eSET : (q0.toList == [83, 69, 84]) = false := K.isSET.trans (by decide)
            go_wp2_with fail
            refine (K.inShow _ (by rfl) (by decide) _).mono ?_
            rintro e _ ⟨rfl, rfl⟩
            go_wp2_with fail
            refine (K.inWrite _ (by rfl) (by decide) _).mono ?_
            rintro e _ ⟨rfl, rfl⟩
            go_wp2_with fail
            refine (K.inSel _ (by rfl) (by decide) _).mono ?_
            rintro e _ ⟨rfl, rfl⟩
            go_wp2_with fail
            refine (hH _ (by rfl) (by decide)).mono ?_
            rintro e _ ⟨rfl, rfl⟩
            go_wp2_with fail
            refine (hH2 _ (by rfl) (by decide)).mono ?_
            rintro e _ ⟨rfl, rfl⟩
            go_wp2_with fail
            go_ret
            exact ⟨by rw [HG2.out]; rfl, kw⟩
      by_cases h6 : v = 6
      · subst h6
        have h0L : saysT ts ≠ [] := fun e => by
          have h2 := hw0.out
          rw [e] at h2
          revert h2
          decide
        have HG : Hid (R = ifF 3 (decide (n = 1) || (decide (n = 2) && decide (wordAt (saysT ts) 1 ∈ [wWORK, wTRANSACTION])))) := Lib.hid (by rw [← hlen.out, ← saysT_length, ← bare_rest (by decide) h0L]; exact HR.out)
        have hn0 : n ≠ 0 := fun e => h0L (List.eq_nil_of_length_eq_zero (by rw [saysT_length, hlen.out, e]))
        clear h0L
        by_cases h1n : n = 1
        · subst h1n
          have HG2 : Hid (R = 3) := Lib.hid (by rw [HG.out]; rfl)
          have eEXPLAIN : (q0.toList == [69, 88, 80, 76, 65, 73, 78]) = false := K.isEXPLAIN.trans (by decide)
          have eWITH : (q0.toList == [87, 73, 84, 72]) = false := K.isWITH.trans (by decide)
          have eBEGIN : (q0.toList == [66, 69, 71, 73, 78]) = true := K.isBEGIN.trans (by decide)
          have eSTART : (q0.toList == [83, 84, 65, 82, 84]) = false := K.isSTART.trans (by decide)
          have eCOMMIT : (q0.toList == [67, 79, 77, 77, 73, 84]) = false := K.isCOMMIT.trans (by decide)
          have eROLLBACK : (q0.toList == [82, 79, 76, 76, 66, 65, 67, 75]) = false := K.isROLLBACK.trans (by decide)
          have eSET : (q0.toList == [83, 69, 84]) = false := K.isSET.trans (by decide)
          go_wp2_with fail
          refine (K.inShow _ (by rfl) (by decide) _).mono ?_
          rintro e _ ⟨rfl, rfl⟩
          go_wp2_with fail
          refine (K.inWrite _ (by rfl) (by decide) _).mono ?_
          rintro e _ ⟨rfl, rfl⟩
          go_wp2_with fail
          refine (K.inSel _ (by rfl) (by decide) _).mono ?_
          rintro e _ ⟨rfl, rfl⟩
          go_wp2_with fail
          go_ret
          exact ⟨by rw [HG2.out]; rfl, kw⟩
        by_cases h2n : n = 2
        · subst h2n
          have hxx : decide (q1.data.toList ∈ [wWORK, wTRANSACTION]) = decide (wordAt (saysT ts) 1 ∈ [wWORK, wTRANSACTION]) := by rw [hq1]
          generalize decide (wordAt (saysT ts) 1 ∈ [wWORK, wTRANSACTION]) = x at *
          have hI := Lib.hid fun t ht hz => rin_is q1 t [wWORK, wTRANSACTION] x ht (by decide) hp1 hz1 hz hxx
          clear hxx
          cases x with
          | true =>
            have HG2 : Hid (R = 3) := Lib.hid (by rw [HG.out]; rfl)
            have eEXPLAIN : (q0.toList == [69, 88, 80, 76, 65, 73, 78]) = false := K.isEXPLAIN.trans (by decide)
            have eWITH : (q0.toList == [87, 73, 84, 72]) = false := K.isWITH.trans (by decide)
            have eBEGIN : (q0.toList == [66, 69, 71, 73, 78]) = true := K.isBEGIN.trans (by decide)
            have eSTART : (q0.toList == [83, 84, 65, 82, 84]) = false := K.isSTART.trans (by decide)
            have eCOMMIT : (q0.toList == [67, 79, 77, 77, 73, 84]) = false := K.isCOMMIT.trans (by decide)
            have eROLLBACK : (q0.toList == [82, 79, 76, 76, 66, 65, 67, 75]) = false := K.isROLLBACK.trans (by decide)
            have eSET : (q0.toList == [83, 69, 84]) = false := K.isSET.trans (by decide)
            go_wp2_with fail
            refine (K.inShow _ (by rfl) (by decide) _).mono ?_
            rintro e _ ⟨rfl, rfl⟩
            go_wp2_with fail
            refine (K.inWrite _ (by rfl) (by decide) _).mono ?_
            rintro e _ ⟨rfl, rfl⟩
            go_wp2_with fail
            refine (K.inSel _ (by rfl) (by decide) _).mono ?_
            rintro e _ ⟨rfl, rfl⟩
            go_wp2_with fail
            refine (hI.out _ (by rfl) (by decide) _).mono ?_
            rintro e _ ⟨rfl, rfl⟩
            go_wp2_with fail
            go_ret
            exact ⟨by rw [HG2.out]; rfl, kw⟩
          | false =>
            have HG2 : Hid (R = 7) := Lib.hid (by rw [HG.out]; rfl)
            have eEXPLAIN : (q0.toList == [69, 88, 80, 76, 65, 73, 78]) = false := K.isEXPLAIN.trans (by decide)
            have eWITH : (q0.toList == [87, 73, 84, 72]) = false := K.isWITH.trans (by decide)
            have eBEGIN : (q0.toList == [66, 69, 71, 73, 78]) = true := K.isBEGIN.trans (by decide)
            have eSTART : (q0.toList == [83, 84, 65, 82, 84]) = false := K.isSTART.trans (by decide)
            have eCOMMIT : (q0.toList == [67, 79, 77, 77, 73, 84]) = false := K.isCOMMIT.trans (by decide)
            have eROLLBACK : (q0.toList == [82, 79, 76, 76, 66, 65, 67, 75]) = false := K.isROLLBACK.trans (by decide)
            have eSET : (q0.toList == [83, 69, 84]) = false := K.isSET.trans (by decide)
            go_wp2_with fail
            refine (K.inShow _ (by rfl) (by decide) _).mono ?_
            rintro e _ ⟨rfl, rfl⟩
            go_wp2_with fail
            refine (K.inWrite _ (by rfl) (by decide) _).mono ?_
            rintro e _ ⟨rfl, rfl⟩
            go_wp2_with fail
            refine (K.inSel _ (by rfl) (by decide) _).mono ?_
            rintro e _ ⟨rfl, rfl⟩
            go_wp2_with fail
            refine (hI.out _ (by rfl) (by decide) _).mono ?_
            rintro e _ ⟨rfl, rfl⟩
            go_wp2_with fail
            go_ret
            exact ⟨by rw [HG2.out]; rfl, kw⟩
        · have HG2 : Hid (R = 7) := Lib.hid (by rw [HG.out, decide_eq_false h1n, decide_eq_false h2n]; rfl)
          have f1 : ((n : Int) == 1) = false := by rw [beq_eq_false_iff_ne]; omega
          have f2 : ((n : Int) == 2) = false := by rw [beq_eq_false_iff_ne]; omega
          have eEXPLAIN : (q0.toList == [69, 88, 80, 76, 65, 73, 78]) = false := K.isEXPLAIN.trans (by decide)
          have eWITH : (q0.toList == [87, 73, 84, 72]) = false := K.isWITH.trans (by decide)
          have eBEGIN : (q0.toList == [66, 69, 71, 73, 78]) = true := K.isBEGIN.trans (by decide)
          have eSTART : (q0.toList == [83, 84, 65, 82, 84]) = false := K.isSTART.trans (by decide)
          have eCOMMIT : (q0.toList == [67, 79, 77, 77, 73, 84]) = false := K.isCOMMIT.trans (by decide)
          have eROLLBACK : (q0.toList == [82, 79, 76, 76, 66, 65, 67, 75]) = false := K.isROLLBACK.trans (by decide)
          have eSET : (q0.toList == [83, 69, 84]) = false := K.isSET.trans (by decide)
          go_wp2_with fail
          refine (K.inShow _ (by rfl) (by decide) _).mono ?_
          rintro e _ ⟨rfl, rfl⟩
          go_wp2_with fail
          refine (K.inWrite _ (by rfl) (by decide) _).mono ?_
          rintro e _ ⟨rfl, rfl⟩
          go_wp2_with fail
          refine (K.inSel _ (by rfl) (by decide) _).mono ?_
          rintro e _ ⟨rfl, rfl⟩
          go_wp2_with fail
          go_ret
          exact ⟨by rw [HG2.out]; rfl, kw⟩
      by_cases h7 : v = 7
      · subst h7
        have hxx : (q1.toList == [84, 82, 65, 78, 83, 65, 67, 84, 73, 79, 78]) = headF ((saysT ts).drop 1) [wTRANSACTION] := by rw [toList_is, head_word (by decide), hq1]; exact decide_eq_decide.2 List.mem_singleton.symm
        have HG : Hid (R = ifF 3 (headF ((saysT ts).drop 1) [wTRANSACTION])) := Lib.hid HR.out
        generalize headF ((saysT ts).drop 1) [wTRANSACTION] = x at *
        cases x with
        | true =>
          have HG2 : Hid (R = 3) := Lib.hid HG.out
          have eEXPLAIN : (q0.toList == [69, 88, 80, 76, 65, 73, 78]) = false := K.isEXPLAIN.trans (by decide)
          have eWITH : (q0.toList == [87, 73, 84, 72]) = false := K.isWITH.trans (by decide)
          have eBEGIN : (q0.toList == [66, 69, 71, 73, 78]) = false := K.isBEGIN.trans (by decide)
          have eSTART : (q0.toList == [83, 84, 65, 82, 84]) = true := K.isSTART.trans (by decide)
          have eCOMMIT : (q0.toList == [67, 79, 77, 77, 73, 84]) = false := K.isCOMMIT.trans (by decide)
          have eROLLBACK : (q0.toList == [82, 79, 76, 76, 66, 65, 67, 75]) = false := K.isROLLBACK.trans (by decide)
          have eSET : (q0.toList == [83, 69, 84]) = false := K.isSET.trans (by decide)
          go_wp2_with fail
          refine (K.inShow _ (by rfl) (by decide) _).mono ?_
          rintro e _ ⟨rfl, rfl⟩
          go_wp2_with fail
          refine (K.inWrite _ (by rfl) (by decide) _).mono ?_
          rintro e _ ⟨rfl, rfl⟩
          go_wp2_with fail
          refine (K.inSel _ (by rfl) (by decide) _).mono ?_
          rintro e _ ⟨rfl, rfl⟩
          go_wp2_with fail
          go_ret
          exact ⟨by rw [HG2.out]; rfl, kw⟩
        | false =>
          have HG2 : Hid (R = 7) := Lib.hid HG.out
          have eEXPLAIN : (q0.toList == [69, 88, 80, 76, 65, 73, 78]) = false := K.isEXPLAIN.trans (by decide)
          have eWITH : (q0.toList == [87, 73, 84, 72]) = false := K.isWITH.trans (by decide)
          have eBEGIN : (q0.toList == [66, 69, 71, 73, 78]) = false := K.isBEGIN.trans (by decide)
          have eSTART : (q0.toList == [83, 84, 65, 82, 84]) = true := K.isSTART.trans (by decide)
          have eCOMMIT : (q0.toList == [67, 79, 77, 77, 73, 84]) = false := K.isCOMMIT.trans (by decide)
          have eROLLBACK : (q0.toList == [82, 79, 76, 76, 66, 65, 67, 75]) = false := K.isROLLBACK.trans (by decide)
          have eSET : (q0.toList == [83, 69, 84]) = false := K.isSET.trans (by decide)
          go_wp2_with fail
          refine (K.inShow _ (by rfl) (by decide) _).mono ?_
          rintro e _ ⟨rfl, rfl⟩
          go_wp2_with fail
          refine (K.inWrite _ (by rfl) (by decide) _).mono ?_
          rintro e _ ⟨rfl, rfl⟩
          go_wp2_with fail
          refine (K.inSel _ (by rfl) (by decide) _).mono ?_
          rintro e _ ⟨rfl, rfl⟩
          go_wp2_with fail
          go_ret
          exact ⟨by rw [HG2.out]; rfl, kw⟩
      by_cases h8 : v = 8
      · subst h8
        have h0L : saysT ts ≠ [] := fun e => by
          have h2 := hw0.out
          rw [e] at h2
          revert h2
          decide
        have HG : Hid (R = ifF 4 (decide (n = 1) || (decide (n = 2) && decide (wordAt (saysT ts) 1 ∈ [wWORK])))) := Lib.hid (by rw [← hlen.out, ← saysT_length, ← bare_rest (by decide) h0L]; exact HR.out)
        have hn0 : n ≠ 0 := fun e => h0L (List.eq_nil_of_length_eq_zero (by rw [saysT_length, hlen.out, e]))
        clear h0L
        by_cases h1n : n = 1
        · subst h1n
          have HG2 : Hid (R = 4) := Lib.hid (by rw [HG.out]; rfl)
          have eEXPLAIN : (q0.toList == [69, 88, 80, 76, 65, 73, 78]) = false := K.isEXPLAIN.trans (by decide)
          have eWITH : (q0.toList == [87, 73, 84, 72]) = false := K.isWITH.trans (by decide)
          have eBEGIN : (q0.toList == [66, 69, 71, 73, 78]) = false := K.isBEGIN.trans (by decide)
          have eSTART : (q0.toList == [83, 84, 65, 82, 84]) = false := K.isSTART.trans (by decide)
          have eCOMMIT : (q0.toList == [67, 79, 77, 77, 73, 84]) = true := K.isCOMMIT.trans (by decide)
          have eROLLBACK : (q0.toList == [82, 79, 76, 76, 66, 65, 67, 75]) = false := K.isROLLBACK.trans (by decide)
          have eSET : (q0.toList == [83, 69, 84]) = false := K.isSET.trans (by decide)
          go_wp2_with fail
          refine (K.inShow _ (by rfl) (by decide) _).mono ?_
          rintro e _ ⟨rfl, rfl⟩
          go_wp2_with fail
          refine (K.inWrite _ (by rfl) (by decide) _).mono ?_
          rintro e _ ⟨rfl, rfl⟩
          go_wp2_with fail
          refine (K.inSel _ (by rfl) (by decide) _).mono ?_
          rintro e _ ⟨rfl, rfl⟩
          go_wp2_with fail
          go_ret
          exact ⟨by rw [HG2.out]; rfl, kw⟩
        by_cases h2n : n = 2
        · subst h2n
          have hxx : (q1.toList == [87, 79, 82, 75]) = decide (wordAt (saysT ts) 1 ∈ [wWORK]) := by rw [toList_is, hq1]; exact decide_eq_decide.2 List.mem_singleton.symm
          generalize decide (wordAt (saysT ts) 1 ∈ [wWORK]) = x at *
          have hI : True := trivial
          cases x with
          | true =>
            have HG2 : Hid (R = 4) := Lib.hid (by rw [HG.out]; rfl)
            have eEXPLAIN : (q0.toList == [69, 88, 80, 76, 65, 73, 78]) = false := K.isEXPLAIN.trans (by decide)
            have eWITH : (q0.toList == [87, 73, 84, 72]) = false := K.isWITH.trans (by decide)
            have eBEGIN : (q0.toList == [66, 69, 71, 73, 78]) = false := K.isBEGIN.trans (by decide)
            have eSTART : (q0.toList == [83, 84, 65, 82, 84]) = false := K.isSTART.trans (by decide)
            have eCOMMIT : (q0.toList == [67, 79, 77, 77, 73, 84]) = true := K.isCOMMIT.trans (by decide)
            have eROLLBACK : (q0.toList == [82, 79, 76, 76, 66, 65, 67, 75]) = false := K.isROLLBACK.trans (by decide)
            have eSET : (q0.toList == [83, 69, 84]) = false := K.isSET.trans (by decide)
            go_wp2_with fail
            refine (K.inShow _ (by rfl) (by decide) _).mono ?_
            rintro e _ ⟨rfl, rfl⟩
            go_wp2_with fail
            refine (K.inWrite _ (by rfl) (by decide) _).mono ?_
            rintro e _ ⟨rfl, rfl⟩
            go_wp2_with fail
            refine (K.inSel _ (by rfl) (by decide) _).mono ?_
            rintro e _ ⟨rfl, rfl⟩
            go_wp2_with fail
            go_ret
            exact ⟨by rw [HG2.out]; rfl, kw⟩
          | false =>
            have HG2 : Hid (R = 7) := Lib.hid (by rw [HG.out]; rfl)
            have eEXPLAIN : (q0.toList == [69, 88, 80, 76, 65, 73, 78]) = false := K.isEXPLAIN.trans (by decide)
            have eWITH : (q0.toList == [87, 73, 84, 72]) = false := K.isWITH.trans (by decide)
            have eBEGIN : (q0.toList == [66, 69, 71, 73, 78]) = false := K.isBEGIN.trans (by decide)
            have eSTART : (q0.toList == [83, 84, 65, 82, 84]) = false := K.isSTART.trans (by decide)
            have eCOMMIT : (q0.toList == [67, 79, 77, 77, 73, 84]) = true := K.isCOMMIT.trans (by decide)
            have eROLLBACK : (q0.toList == [82, 79, 76, 76, 66, 65, 67, 75]) = false := K.isROLLBACK.trans (by decide)
            have eSET : (q0.toList == [83, 69, 84]) = false := K.isSET.trans (by decide)
            go_wp2_with fail
            refine (K.inShow _ (by rfl) (by decide) _).mono ?_
            rintro e _ ⟨rfl, rfl⟩
            go_wp2_with fail
            refine (K.inWrite _ (by rfl) (by decide) _).mono ?_
            rintro e _ ⟨rfl, rfl⟩
            go_wp2_with fail
            refine (K.inSel _ (by rfl) (by decide) _).mono ?_
            rintro e _ ⟨rfl, rfl⟩
            go_wp2_with fail
            go_ret
            exact ⟨by rw [HG2.out]; rfl, kw⟩
        · have HG2 : Hid (R = 7) := Lib.hid (by rw [HG.out, decide_eq_false h1n, decide_eq_false h2n]; rfl)
          have f1 : ((n : Int) == 1) = false := by rw [beq_eq_false_iff_ne]; omega
          have f2 : ((n : Int) == 2) = false := by rw [beq_eq_false_iff_ne]; omega
          have eEXPLAIN : (q0.toList == [69, 88, 80, 76, 65, 73, 78]) = false := K.isEXPLAIN.trans (by decide)
          have eWITH : (q0.toList == [87, 73, 84, 72]) = false := K.isWITH.trans (by decide)
          have eBEGIN : (q0.toList == [66, 69, 71, 73, 78]) = false := K.isBEGIN.trans (by decide)
          have eSTART : (q0.toList == [83, 84, 65, 82, 84]) = false := K.isSTART.trans (by decide)
          have eCOMMIT : (q0.toList == [67, 79, 77, 77, 73, 84]) = true := K.isCOMMIT.trans (by decide)
          have eROLLBACK : (q0.toList == [82, 79, 76, 76, 66, 65, 67, 75]) = false := K.isROLLBACK.trans (by decide)
          have eSET : (q0.toList == [83, 69, 84]) = false := K.isSET.trans (by decide)
          go_wp2_with fail
          refine (K.inShow _ (by rfl) (by decide) _).mono ?_
          rintro e _ ⟨rfl, rfl⟩
          go_wp2_with fail
          refine (K.inWrite _ (by rfl) (by decide) _).mono ?_
          rintro e _ ⟨rfl, rfl⟩
          go_wp2_with fail
          refine (K.inSel _ (by rfl) (by decide) _).mono ?_
          rintro e _ ⟨rfl, rfl⟩
          go_wp2_with fail
          go_ret
          exact ⟨by rw [HG2.out]; rfl, kw⟩
      by_cases h9 : v = 9
      · subst h9
        have h0L : saysT ts ≠ [] := fun e => by
          have h2 := hw0.out
          rw [e] at h2
          revert h2
          decide
        have HG : Hid (R = ifF 5 (decide (n = 1) || (decide (n = 2) && decide (wordAt (saysT ts) 1 ∈ [wWORK])))) := Lib.hid (by rw [← hlen.out, ← saysT_length, ← bare_rest (by decide) h0L]; exact HR.out)
        have hn0 : n ≠ 0 := fun e => h0L (List.eq_nil_of_length_eq_zero (by rw [saysT_length, hlen.out, e]))
        clear h0L
        by_cases h1n : n = 1
        · subst h1n
          have HG2 : Hid (R = 5) := Lib.hid (by rw [HG.out]; rfl)
          have eEXPLAIN : (q0.toList == [69, 88, 80, 76, 65, 73, 78]) = false := K.isEXPLAIN.trans (by decide)
          have eWITH : (q0.toList == [87, 73, 84, 72]) = false := K.isWITH.trans (by decide)
          have eBEGIN : (q0.toList == [66, 69, 71, 73, 78]) = false := K.isBEGIN.trans (by decide)
          have eSTART : (q0.toList == [83, 84, 65, 82, 84]) = false := K.isSTART.trans (by decide)
          have eCOMMIT : (q0.toList == [67, 79, 77, 77, 73, 84]) = false := K.isCOMMIT.trans (by decide)
          have eROLLBACK : (q0.toList == [82, 79, 76, 76, 66, 65, 67, 75]) = true := K.isROLLBACK.trans (by decide)
          have eSET : (q0.toList == [83, 69, 84]) = false := K.isSET.trans (by decide)
          go_wp2_with fail
          refine (K.inShow _ (by rfl) (by decide) _).mono ?_
          rintro e _ ⟨rfl, rfl⟩
          go_wp2_with fail
          refine (K.inWrite _ (by rfl) (by decide) _).mono ?_
          rintro e _ ⟨rfl, rfl⟩
          go_wp2_with fail
          refine (K.inSel _ (by rfl) (by decide) _).mono ?_
          rintro e _ ⟨rfl, rfl⟩
          go_wp2_with fail
          go_ret
          exact ⟨by rw [HG2.out]; rfl, kw⟩
        by_cases h2n : n = 2
        · subst h2n
          have hxx : (q1.toList == [87, 79, 82, 75]) = decide (wordAt (saysT ts) 1 ∈ [wWORK]) := by rw [toList_is, hq1]; exact decide_eq_decide.2 List.mem_singleton.symm
          generalize decide (wordAt (saysT ts) 1 ∈ [wWORK]) = x at *
          have hI : True := trivial
          cases x with
          | true =>
            have HG2 : Hid (R = 5) := Lib.hid (by rw [HG.out]; rfl)
            have eEXPLAIN : (q0.toList == [69, 88, 80, 76, 65, 73, 78]) = false := K.isEXPLAIN.trans (by decide)
            have eWITH : (q0.toList == [87, 73, 84, 72]) = false := K.isWITH.trans (by decide)
            have eBEGIN : (q0.toList == [66, 69, 71, 73, 78]) = false := K.isBEGIN.trans (by decide)
            have eSTART : (q0.toList == [83, 84, 65, 82, 84]) = false := K.isSTART.trans (by decide)
            have eCOMMIT : (q0.toList == [67, 79, 77, 77, 73, 84]) = false := K.isCOMMIT.trans (by decide)
            have eROLLBACK : (q0.toList == [82, 79, 76, 76, 66, 65, 67, 75]) = true := K.isROLLBACK.trans (by decide)
            have eSET : (q0.toList == [83, 69, 84]) = false := K.isSET.trans (by decide)
            go_wp2_with fail
            refine (K.inShow _ (by rfl) (by decide) _).mono ?_
            rintro e _ ⟨rfl, rfl⟩
            go_wp2_with fail
            refine (K.inWrite _ (by rfl) (by decide) _).mono ?_
            rintro e _ ⟨rfl, rfl⟩
            go_wp2_with fail
            refine (K.inSel _ (by rfl) (by decide) _).mono ?_
            rintro e _ ⟨rfl, rfl⟩
            go_wp2_with fail
            go_ret
            exact ⟨by rw [HG2.out]; rfl, kw⟩
          | false =>
            have HG2 : Hid (R = 7) := Lib.hid (by rw [HG.out]; rfl)
            have eEXPLAIN : (q0.toList == [69, 88, 80, 76, 65, 73, 78]) = false := K.isEXPLAIN.trans (by decide)
            have eWITH : (q0.toList == [87, 73, 84, 72]) = false := K.isWITH.trans (by decide)
            have eBEGIN : (q0.toList == [66, 69, 71, 73, 78]) = false := K.isBEGIN.trans (by decide)
            have eSTART : (q0.toList == [83, 84, 65, 82, 84]) = false := K.isSTART.trans (by decide)
            have eCOMMIT : (q0.toList == [67, 79, 77, 77, 73, 84]) = false := K.isCOMMIT.trans (by decide)
            have eROLLBACK : (q0.toList == [82, 79, 76, 76, 66, 65, 67, 75]) = true := K.isROLLBACK.trans (by decide)
            have eSET : (q0.toList == [83, 69, 84]) = false := K.isSET.trans (by decide)
            go_wp2_with fail
            refine (K.inShow _ (by rfl) (by decide) _).mono ?_
            rintro e _ ⟨rfl, rfl⟩
            go_wp2_with fail
            refine (K.inWrite _ (by rfl) (by decide) _).mono ?_
            rintro e _ ⟨rfl, rfl⟩
            go_wp2_with fail
            refine (K.inSel _ (by rfl) (by decide) _).mono ?_
            rintro e _ ⟨rfl, rfl⟩
            go_wp2_with fail
            go_ret
            exact ⟨by rw [HG2.out]; rfl, kw⟩
        · have HG2 : Hid (R = 7) := Lib.hid (by rw [HG.out, decide_eq_false h1n, decide_eq_false h2n]; rfl)
          have f1 : ((n : Int) == 1) = false := by rw [beq_eq_false_iff_ne]; omega
          have f2 : ((n : Int) == 2) = false := by rw [beq_eq_false_iff_ne]; omega
          have eEXPLAIN : (q0.toList == [69, 88, 80, 76, 65, 73, 78]) = false := K.isEXPLAIN.trans (by decide)
          have eWITH : (q0.toList == [87, 73, 84, 72]) = false := K.isWITH.trans (by decide)
          have eBEGIN : (q0.toList == [66, 69, 71, 73, 78]) = false := K.isBEGIN.trans (by decide)
          have eSTART : (q0.toList == [83, 84, 65, 82, 84]) = false := K.isSTART.trans (by decide)
          have eCOMMIT : (q0.toList == [67, 79, 77, 77, 73, 84]) = false := K.isCOMMIT.trans (by decide)
          have eROLLBACK : (q0.toList == [82, 79, 76, 76, 66, 65, 67, 75]) = true := K.isROLLBACK.trans (by decide)
          have eSET : (q0.toList == [83, 69, 84]) = false := K.isSET.trans (by decide)
          go_wp2_with fail
          refine (K.inShow _ (by rfl) (by decide) _).mono ?_
          rintro e _ ⟨rfl, rfl⟩
          go_wp2_with fail
          refine (K.inWrite _ (by rfl) (by decide) _).mono ?_
          rintro e _ ⟨rfl, rfl⟩
          go_wp2_with fail
          refine (K.inSel _ (by rfl) (by decide) _).mono ?_
          rintro e _ ⟨rfl, rfl⟩
          go_wp2_with fail
          go_ret
          exact ⟨by rw [HG2.out]; rfl, kw⟩
      by_cases h10 : v = 10
      · subst h10
        have hxx : decide (q1.data.toList ∈ [wAUTOCOMMIT, wGLOBAL, wPERSIST]) = headF ((saysT ts).drop 1) [wAUTOCOMMIT, wGLOBAL, wPERSIST] := by rw [head_word (by decide), hq1]
        have HG : Hid (R = ifF 6 (!headF ((saysT ts).drop 1) [wAUTOCOMMIT, wGLOBAL, wPERSIST])) := Lib.hid HR.out
        generalize headF ((saysT ts).drop 1) [wAUTOCOMMIT, wGLOBAL, wPERSIST] = x at *
        have hI := Lib.hid fun t ht hz => rin_is q1 t [wAUTOCOMMIT, wGLOBAL, wPERSIST] x ht (by decide) hp1 hz1 hz hxx
        clear hxx
        cases x with
        | true =>
          have HG2 : Hid (R = 7) := Lib.hid HG.out
          have eEXPLAIN : (q0.toList == [69, 88, 80, 76, 65, 73, 78]) = false := K.isEXPLAIN.trans (by decide)
          have eWITH : (q0.toList == [87, 73, 84, 72]) = false := K.isWITH.trans (by decide)
          have eBEGIN : (q0.toList == [66, 69, 71, 73, 78]) = false := K.isBEGIN.trans (by decide)
          have eSTART : (q0.toList == [83, 84, 65, 82, 84]) = false := K.isSTART.trans (by decide)
          have eCOMMIT : (q0.toList == [67, 79, 77, 77, 73, 84]) = false := K.isCOMMIT.trans (by decide)
          have eROLLBACK : (q0.toList == [82, 79, 76, 76, 66, 65, 67, 75]) = false := K.isROLLBACK.trans (by decide)
          have eSET : (q0.toList == [83, 69, 84]) = true := K.isSET.trans (by decide)
          go_wp2_with fail
          refine (K.inShow _ (by rfl) (by decide) _).mono ?_
          rintro e _ ⟨rfl, rfl⟩
          go_wp2_with fail
          refine (K.inWrite _ (by rfl) (by decide) _).mono ?_
          rintro e _ ⟨rfl, rfl⟩
          go_wp2_with fail
          refine (K.inSel _ (by rfl) (by decide) _).mono ?_
          rintro e _ ⟨rfl, rfl⟩
          go_wp2_with fail
          refine (hI.out _ (by rfl) (by decide) _).mono ?_
          rintro e _ ⟨rfl, rfl⟩
          go_wp2_with fail
          go_ret
          exact ⟨by rw [HG2.out]; rfl, kw⟩
        | false =>
          have HG2 : Hid (R = 6) := Lib.hid HG.out
          have eEXPLAIN : (q0.toList == [69, 88, 80, 76, 65, 73, 78]) = false := K.isEXPLAIN.trans (by decide)
          have eWITH : (q0.toList == [87, 73, 84, 72]) = false := K.isWITH.trans (by decide)
          have eBEGIN : (q0.toList == [66, 69, 71, 73, 78]) = false := K.isBEGIN.trans (by decide)
          have eSTART : (q0.toList == [83, 84, 65, 82, 84]) = false := K.isSTART.trans (by decide)
          have eCOMMIT : (q0.toList == [67, 79, 77, 77, 73, 84]) = false := K.isCOMMIT.trans (by decide)
          have eROLLBACK : (q0.toList == [82, 79, 76, 76, 66, 65, 67, 75]) = false := K.isROLLBACK.trans (by decide)
          have eSET : (q0.toList == [83, 69, 84]) = true := K.isSET.trans (by decide)
          go_wp2_with fail
          refine (K.inShow _ (by rfl) (by decide) _).mono ?_
          rintro e _ ⟨rfl, rfl⟩
          go_wp2_with fail
          refine (K.inWrite _ (by rfl) (by decide) _).mono ?_
          rintro e _ ⟨rfl, rfl⟩
          go_wp2_with fail
          refine (K.inSel _ (by rfl) (by decide) _).mono ?_
          rintro e _ ⟨rfl, rfl⟩
          go_wp2_with fail
          refine (hI.out _ (by rfl) (by decide) _).mono ?_
          rintro e _ ⟨rfl, rfl⟩
          go_wp2_with fail
          go_ret
          exact ⟨by rw [HG2.out]; rfl, kw⟩
      obtain rfl : v = 0 := by
        have := fam_out q0.data.toList
        rw [K.fam] at this
        omega
      have HG : Hid (R = 7) := Lib.hid HR.out
      have eEXPLAIN : (q0.toList == [69, 88, 80, 76, 65, 73, 78]) = false := K.isEXPLAIN.trans (by decide)
      have eWITH : (q0.toList == [87, 73, 84, 72]) = false := K.isWITH.trans (by decide)
      have eBEGIN : (q0.toList == [66, 69, 71, 73, 78]) = false := K.isBEGIN.trans (by decide)
      have eSTART : (q0.toList == [83, 84, 65, 82, 84]) = false := K.isSTART.trans (by decide)
      have eCOMMIT : (q0.toList == [67, 79, 77, 77, 73, 84]) = false := K.isCOMMIT.trans (by decide)
      have eROLLBACK : (q0.toList == [82, 79, 76, 76, 66, 65, 67, 75]) = false := K.isROLLBACK.trans (by decide)
      have eSET : (q0.toList == [83, 69, 84]) = false := K.isSET.trans (by decide)
      go_wp2_with fail
      refine (K.inShow _ (by rfl) (by decide) _).mono ?_
      rintro e _ ⟨rfl, rfl⟩
      go_wp2_with fail
      refine (K.inWrite _ (by rfl) (by decide) _).mono ?_
      rintro e _ ⟨rfl, rfl⟩
      go_wp2_with fail
      refine (K.inSel _ (by rfl) (by decide) _).mono ?_
      rintro e _ ⟨rfl, rfl⟩
      go_wp2_with fail
      go_ret
      exact ⟨by rw [HG.out]; rfl, kw⟩

theorem rtokens_ok : ∀ (N : Nat) (ts : List Tk), ts.length ≤ N → RTo ts := by
  intro N
  induction N with
  | zero => exact fun ts hl => rtokens_step ts fun us h => by omega
  | succ N ih => exact fun ts hl => rtokens_step ts fun us h => ih us (by omega)
end

/- The document's layer 5: Asks, Class: contracts. -/
section
open Go.RowKit
set_option maxRecDepth 100000

def wPrimaryR : List UInt8 := [112, 114, 105, 109, 97, 114, 121]
def wReplicaR : List UInt8 := [114, 101, 112, 108, 105, 99, 97]
theorem asksF_consR (t : Tok) (r : List Tok) : asksF (t :: r) = if t.1 = 5 ∧ t.2 = wPrimaryR then 1 else if t.1 = 5 ∧ t.2 = wReplicaR then 2 else asksF r := rfl

set_option maxHeartbeats 2000000 in
theorem rasks_ok (s : ByteArray) (w : World) (hs : s.size ≤ maxLen) :
    Calls Tryz.prog 12 #[.string s] w fun e w' => e = .returned (.int .i64 (asksA s.data.toList)) ∧ Below w.heap.size w w' := by
  have hlex := rlex_ok s w hs
  unfold LexTo at hlex
  have HX := Lib.hid hlex
  have HLen := Lib.hid (lexA_len s.data.toList)
  have hA : asksA s.data.toList = asksF (lexA s.data.toList).1 := rfl
  generalize asksA s.data.toList = R at *
  generalize lexA s.data.toList = LA at *
  have HA := Lib.hid hA
  clear hlex hA
  go_enter Tryz.func12, Tryz.ntmps12
  go_wp2_with fail
  refine HX.out.mono ?_
  rintro e w1 ⟨A, n, c, er, ts, rfl, ho, rfl, k1⟩
  have hr := ho.tr
  have hlen := Lib.hid hr.len
  have HG : Hid (R = asksF (saysT ts)) := Lib.hid HA.out
  have hn : n ≤ 200 := by rw [← ho.len, ← saysT_length]; exact HLen.out
  clear HX HA HLen ho
  go_wp2_with fail
  go_loopw [5] (fun i wr => ∃ k : Nat, k ≤ n ∧ i = .int .i64 k ∧ Hid (R = asksF (saysT (ts.drop k))) ∧ wr = w1) (fun i _ => n - (intOf i).toNat)
  case atStart => exact ⟨0, Nat.zero_le _, rfl, HG, rfl⟩
  case round =>
    obtain ⟨k, hk, rfl, hx, rfl⟩ := hrel
    by_cases hlt : k < n
    · have hkl : k < ts.length := by rw [hlen.out]; exact hlt
      obtain ⟨ad, rfl, _, hc⟩ := hr.at_ hkl
      obtain ⟨c0, c1⟩ := hc _ (Below.refl _ _)
      have hst : asksF (saysT (ts.drop k)) = if ts[k].k = 5 ∧ ts[k].t.data.toList = wPrimaryR then 1 else if ts[k].k = 5 ∧ ts[k].t.data.toList = wReplicaR then 2 else asksF (saysT (ts.drop (k + 1))) := by
        rw [List.drop_eq_getElem_cons hkl]
        exact asksF_consR _ _
      rw [hst] at hx
      clear hc hst HG
      generalize ts[k].k = x at *
      generalize ts[k].t = q at *
      by_cases h5 : x = 5
      · subst h5
        by_cases hp : q.data.toList = wPrimaryR
        · have HF : Hid (R = 1) := Lib.hid (by rw [hx.out, if_pos ⟨rfl, hp⟩])
          have e1 : (q.toList == [112, 114, 105, 109, 97, 114, 121]) = true := by rw [toList_is]; exact decide_eq_true hp
          clear hx hp
          go_wp2_with fail
          go_ret
          exact ⟨by rw [HF.out]; rfl, k1⟩
        have e1 : (q.toList == [112, 114, 105, 109, 97, 114, 121]) = false := by rw [toList_is]; exact decide_eq_false hp
        by_cases hq : q.data.toList = wReplicaR
        · have HF : Hid (R = 2) := Lib.hid (by rw [hx.out, if_neg (fun h => hp h.2), if_pos ⟨rfl, hq⟩])
          have e2 : (q.toList == [114, 101, 112, 108, 105, 99, 97]) = true := by rw [toList_is]; exact decide_eq_true hq
          clear hx hp hq
          go_wp2_with fail
          go_ret
          exact ⟨by rw [HF.out]; rfl, k1⟩
        · have HF : Hid (R = asksF (saysT (ts.drop (k + 1)))) := Lib.hid (by rw [hx.out, if_neg (fun h => hp h.2), if_neg (fun h => hq h.2)])
          have e2 : (q.toList == [114, 101, 112, 108, 105, 99, 97]) = false := by rw [toList_is]; exact decide_eq_false hq
          clear hx hp hq
          go_wp2_with fail
          go_roundw
          case rel => exact ⟨k + 1, by omega, by go_num, HF, trivial⟩
          case measure => simp [intOf]; omega
      · have HF : Hid (R = asksF (saysT (ts.drop (k + 1)))) := Lib.hid (by rw [hx.out, if_neg (fun h => h5 h.1), if_neg (fun h => h5 h.1)])
        have f5 : (x == 5) = false := by simpa using h5
        clear hx
        go_wp2_with fail
        go_roundw
        case rel => exact ⟨k + 1, by omega, by go_num, HF, trivial⟩
        case measure => simp [intOf]; omega
    · obtain rfl : k = n := by omega
      have HF : Hid (R = 0) := Lib.hid (by rw [hx.out, List.drop_eq_nil_of_le (by rw [hlen.out]; exact Nat.le_refl _)]; rfl)
      clear hx HG
      go_wp2_with fail
      go_ret
      exact ⟨by rw [HF.out]; rfl, k1⟩

set_option maxHeartbeats 4000000 in
theorem rclass_ok (s : ByteArray) (w : World) (hs : s.size ≤ maxLen) :
    Calls Tryz.prog 10 #[.string s] w fun e w' => e = .returned (.int .i64 (classA s.data.toList)) ∧ Below w.heap.size w w' := by
  obtain ⟨i0, hi, hz0, hz1, hz2⟩ := info_parts tkinfoR
  have hlex := rlex_ok s w hs
  unfold LexTo at hlex
  have HX := Lib.hid hlex
  have HLen := Lib.hid (lexA_len s.data.toList)
  have HOk := Lib.hid (lexA_ok s.data.toList)
  have hA : classA s.data.toList = if (lexA s.data.toList).2 = 0 then classF (bodyF (lexA s.data.toList).1) else 0 := rfl
  generalize classA s.data.toList = R at *
  generalize lexA s.data.toList = LA at *
  have HA := Lib.hid hA
  clear hlex hA
  go_enter Tryz.func10, Tryz.ntmps10
  go_wp2_with fail
  refine HX.out.mono ?_
  rintro e w1 ⟨A, n, c, er, ts, rfl, ho, rfl, k1⟩
  by_cases he : er = 0
  case neg =>
    have HG : Hid (R = 0) := Lib.hid (by rw [HA.out, if_neg he])
    clear HA HX
    go_wp2_with fail
    go_ret
    exact ⟨by rw [HG.out]; rfl, k1⟩
  subst he
  have HG : Hid (R = classF (endF ((saysT ts).filter fun t => !isHintF t))) := Lib.hid HA.out
  have hr := ho.tr
  have hlen := Lib.hid hr.len
  have hn : n ≤ 200 := by rw [← ho.len, ← saysT_length]; exact HLen.out
  clear HX HA HLen ho
  go_wp2_with fail
  go_loopw [5, 6] (fun o i wr => ∃ (k : Nat) (B : Option Addr) (m d : Nat) (us : List Tk), k ≤ n ∧ m ≤ k ∧ i = .int .i64 k ∧ o = .slice B m d ∧ OT 33 wr w1.heap.size B m d us ∧ Hid (saysT us = (saysT (ts.take k)).filter fun t => !isHintF t) ∧ Below w1.heap.size w1 wr) (fun _ i _ => n - (intOf i).toNat)
  case atStart => exact ⟨0, _, _, _, [], Nat.zero_le _, Nat.le_refl _, rfl, rfl, OT.empty _ w1, Lib.hid rfl, kp_new _ _⟩
  case round =>
    obtain ⟨k, B, m, d, us, hk, hmk, rfl, rfl, hu, hx, kw⟩ := hrel
    by_cases hlt : k < n
    · have hkl : k < ts.length := by rw [hlen.out]; exact hlt
      obtain ⟨ad, rfl, _, hc⟩ := hr.at_ hkl
      obtain ⟨c0, c1⟩ := hc _ kw
      have htk : (saysT (ts.take (k + 1))).filter (fun t => !isHintF t) = saysT us ++ (if isHintF ts[k].says then [] else [ts[k].says]) := by
        rw [List.take_succ_eq_append_getElem hkl, saysT_append, List.filter_append, hx.out]
        cases hq : isHintF ts[k].says <;> simp [saysT, hq]
      have hih : isHintF ts[k].says = decide (ts[k].k = 5) := rfl
      have hnx : ∀ (us : List Tk) (t : Tk), tkC (us ++ [t]) = tkC us ++ [.int .i64 t.k, .string t.t] := fun us t => by rw [tkC_append]; simp [tkC, Tk.cells]
      have hsw := kw.size
      by_cases h5 : ts[k].k = 5
      · rw [hih, decide_eq_true h5] at htk
        have hx2 : Hid (saysT us = (saysT (ts.take (k + 1))).filter fun t => !isHintF t) := Lib.hid (by rw [htk]; simp)
        clear hc htk hih hx HG
        generalize ts[k].k = x at *
        generalize ts[k].t = q at *
        subst h5
        go_wp2_with fail
        go_roundw
        case rel => exact ⟨k + 1, B, m, d, us, by omega, by omega, by go_num, rfl, hu, hx2, kw⟩
        case measure => simp [intOf]; omega
      · rw [hih, decide_eq_false h5] at htk
        have hx2 : Hid (saysT (us ++ [ts[k]]) = (saysT (ts.take (k + 1))).filter fun t => !isHintF t) := Lib.hid (by rw [htk, saysT_append]; rfl)
        have hcc := hnx us ts[k]
        have HCC : Hid (tkC us ++ [.int .i64 ts[k].k, .string ts[k].t] = tkC (us ++ [ts[k]])) := Lib.hid hcc.symm
        have f5 : (ts[k].k != 5) = true := by simpa using h5
        clear hc htk hih hx HG hnx hcc h5
        generalize us ++ [ts[k]] = us2 at *
        generalize ts[k].k = x at *
        generalize ts[k].t = q at *
        have hsrc : Rd (wr.alloc (.cells #[.int .i64 x, .string q] 33)) (wr.heap.size + 1) (some ⟨wr.heap.size, 0, none⟩) [.int .i64 x, .string q] := Rd.new wr 33 [.int .i64 x, .string q]
        have HSRC := Lib.hid hsrc
        clear hsrc
        go_wp2_with (at_builtin; refine wpList_append_rds rfl _ _ _ rfl w1.heap.size 33 i0 _ 2 24 Tryz.underlying28 hi hz0 hz1 hz2 rfl (by omega) _ m _ rfl (hu.own.alloc _) _ _ _ _ [.int .i64 x, .string q] rfl rfl HSRC.out (by simp [Value.oneCell']) (by unfold maxLen; omega) (by omega) (by simp; omega) ?_; intro v3 w3 hown3 hg3)
        rw [HCC.out] at hown3
        obtain ⟨A3, c3, rfl, h3, _⟩ := own_form_s hown3
        go_roundw
        case rel => exact ⟨k + 1, A3, m + 1, c3, us2, by omega, by omega, by go_num, rfl, ⟨hown3, h3⟩, hx2, (kp_alloc kw _).trans (below_own_s (hu.own.alloc _) hg3 (by simp; omega))⟩
        case measure => simp [intOf]; omega
    · obtain rfl : n = k := by omega
      have hfin : Hid (saysT us = (saysT ts).filter fun t => !isHintF t) := Lib.hid (by rw [hx.out, List.take_of_length_le (by rw [hlen.out]; exact Nat.le_refl _)])
      have HG2 : Hid (R = classF (endF (saysT us))) := Lib.hid (by rw [HG.out, hfin.out])
      have hut := hu.tr
      have hucap := hu.cap
      have hul := Lib.hid hu.len
      have hTL : Hid (TL us) := Lib.hid ⟨fun t ht => by
        rw [hfin.out] at ht
        have := HOk.out t (List.mem_filter.1 ht).1
        exact ⟨by have := this.1; omega, this.2⟩⟩
      clear hx hfin HG hu
      go_wp2_with fail
      obtain ⟨wo, hwo⟩ : ∃ x, x = wr := ⟨wr, rfl⟩
      subst hwo
      go_loopw [5] (fun v wr => ∃ j : Nat, j ≤ m ∧ v = .slice B j d ∧ Hid (R = classF (endF (saysT (us.take j)))) ∧ Below wo.heap.size wo wr) (fun v _ => match v with | .slice _ j _ => j | _ => 0)
      case atStart => exact ⟨m, Nat.le_refl _, rfl, Lib.hid (by rw [HG2.out, List.take_of_length_le (by rw [hul.out]; exact Nat.le_refl _)]), Below.refl _ _⟩
      case round =>
        obtain ⟨j, hj, rfl, hx, kw2⟩ := hrel
        have kz := kw.trans (kw2.mono kw.size)
        have kz := k1.trans (kz.mono k1.size)
        have hstop : ∀ (j : Nat), j ≤ m → (j = 0 ∨ ∃ h : j - 1 < us.length, stopF (us[j - 1]'h).says = false) → Hid (R = classF (saysT (us.take j))) → Calls Tryz.prog 28 #[.slice B j d] wr fun e w' => e = .returned (.int .i64 R) ∧ Below wr.heap.size wr w' := fun j hj _ hR => by
          rw [hR.out]
          exact rtokens_ok _ (us.take j) (Nat.le_refl _) B j d wr ((hut.next kw2).front hj) (by omega) (by omega) ⟨fun t ht => hTL.out.ok t (by unfold saysT at ht ⊢; rw [List.map_take] at ht; exact List.mem_of_mem_take ht)⟩
        have HSTOP := Lib.hid hstop
        clear hstop HG2
        cases j with
        | zero =>
          have hR : Hid (R = classF (saysT (us.take 0))) := Lib.hid (by rw [hx.out]; rfl)
          have hT := Lib.hid (HSTOP.out 0 (by omega) (.inl rfl) hR)
          clear HSTOP hx
          go_wp2_with fail
          refine hT.out.mono ?_
          rintro e w5 ⟨rfl, k5⟩
          go_wp2_with fail
          go_ret
          exact ⟨rfl, kz.trans (k5.mono kz.size)⟩
        | succ j =>
          have hjl : j < us.length := by rw [hul.out]; omega
          obtain ⟨ad, rfl, _, hcc⟩ := hut.at_ hjl
          obtain ⟨c0, c1⟩ := hcc _ kw2
          have hS := Lib.hid (rsign5_ok us[j] wr)
          have hst : saysT (us.take (j + 1)) = saysT (us.take j) ++ [us[j].says] := by
            rw [List.take_succ_eq_append_getElem hjl, saysT_append]
            rfl
          have e1 : ((j + 1 : Nat) : Int) - 1 = (j : Int) := by omega
          clear hcc
          cases hs : stopF us[j].says with
          | false =>
            have hR : Hid (R = classF (saysT (us.take (j + 1)))) := Lib.hid (by rw [hx.out, hst, endF_last hs])
            have hT := Lib.hid fun u (ku : Below wr.heap.size wr u) => (show Calls Tryz.prog 28 #[.slice (some ad) (j + 1) d] u fun e w' => e = .returned (.int .i64 R) ∧ Below u.heap.size u w' by
              rw [hR.out]
              exact rtokens_ok _ (us.take (j + 1)) (Nat.le_refl _) (some ad) (j + 1) d u (((hut.next kw2).next ku).front hj) (by omega) (by omega) ⟨fun t ht => hTL.out.ok t (by unfold saysT at ht ⊢; rw [List.map_take] at ht; exact List.mem_of_mem_take ht)⟩)
            rw [hs] at hS
            clear hx hs hst HSTOP
            generalize us[j].k = x at *
            generalize us[j].t = q at *
            go_wp2_with fail
            refine hS.out.mono ?_
            rintro e w4 ⟨rfl, k4⟩
            go_wp2_with fail
            refine (hT.out w4 k4).mono ?_
            rintro e w5 ⟨rfl, k5⟩
            go_wp2_with fail
            go_ret
            have kk := kp_trans k4 k5
            exact ⟨rfl, kz.trans (kk.mono kz.size)⟩
          | true =>
            have hx2 : Hid (R = classF (endF (saysT (us.take j)))) := Lib.hid (by rw [hx.out, hst, endF_stop hs])
            rw [hs] at hS
            clear hx hs hst HSTOP
            generalize us[j].k = x at *
            generalize us[j].t = q at *
            go_wp2_with fail
            refine hS.out.mono ?_
            rintro e w4 ⟨rfl, k4⟩
            go_wp2_with fail
            go_roundw
            case rel => exact ⟨j, by omega, rfl, hx2, kp_trans kw2 k4⟩
            case measure => simp
end

/- ClassTells: the class of any statement, and where it asks to go, are as the document says: the walk. -/
section
open Go.RowKit
set_option maxRecDepth 100000

set_option maxHeartbeats 4000000 in
theorem classTells_walk (s : ByteArray) (w : World) (hs : s.size ≤ maxLen) (hL : Lw w) :
    Calls Tryz.prog 3 #[.string s] w fun e w' => e = .returned (.bool true) ∧ Below w.heap.size w w' := by
  have HA := Lib.hid (awake5 w hL)
  go_enter Tryz.func3, Tryz.ntmps3
  go_wp2_with fail
  refine HA.out.mono ?_
  rintro e w0 ⟨rfl, k0⟩
  clear HA
  by_cases hb : 2000 < s.size
  · go_wp2_with fail
    go_ret
    exact ⟨rfl, k0⟩
  have H0 := Lib.hid (newClasser_ok w0)
  go_wp2_with fail
  refine H0.out.mono ?_
  rintro e w1 ⟨rfl, c1, k1⟩
  clear H0
  have kw1 := kp_trans k0 k1
  have L1 := hL.next kw1
  go_wp2_with fail
  refine (class_ok s _ _ hs L1 c1).mono ?_
  rintro e w2 ⟨rfl, c2, b2⟩
  have L2 := L1.bel c1 b2
  have HR := Lib.hid fun u => rclass_ok s u hs
  have HRA := Lib.hid fun u => rasks_ok s u hs
  have HCA := Lib.hid fun u hu => asks_ok s w0.heap.size u hs hu
  have HCC := Lib.hid fun u hu hc => class_ok s w0.heap.size u hs hu hc
  generalize classA s.data.toList = x at *
  generalize asksA s.data.toList = y at *
  go_wp2_with fail
  refine (HR.out _).mono ?_
  rintro e w3 ⟨rfl, k3⟩
  go_wp2_with fail
  refine (HCA.out _ (L2.next k3)).mono ?_
  rintro e w4 ⟨rfl, k4⟩
  go_wp2_with fail
  refine (HRA.out _).mono ?_
  rintro e w5 ⟨rfl, k5⟩
  have k35 := kp_trans (kp_trans k3 k4) k5
  go_wp2_with fail
  have c5 := c2.next k35
  have L5 := L2.next k35
  refine (HCC.out _ L5 c5).mono ?_
  rintro e w6 ⟨rfl, c6, b6⟩
  go_wp2_with fail
  refine (HR.out _).mono ?_
  rintro e w7 ⟨rfl, k7⟩
  go_wp2_with fail
  refine (known_ok _ _ (c6.next k7)).mono ?_
  rintro e w8 ⟨rfl, c8, b8⟩
  go_wp2_with fail
  go_ret
  have hb := (((b2.trans (Bel.of _ k35)).trans b6).trans (Bel.of _ k7)).trans b8
  exact ⟨rfl, kw1.trans (hb.below k0.size kw1.size)⟩
end

/- From a walk to a law's row: arguments opened, and shut behind a call that left alone what was there before it. -/
section
open Go.RowKit Go.ChangeShapes Go.WideShapes Go.ChangeAt

theorem own0 : ownKnob Tryz.prog.godebug = none := by kernel_rfl
theorem laid0 : laidOutB Tryz.prog = true := by kernel_rfl

section
variable {H : Type} {enc : TypeId × Value → H} {P : Program}
theorem trodAll_later {W W' : World} (hl : laidOutB P = true) (hb : Below W.heap.size W W') : ∀ (ts : List TypeId) (vs : List Value) (ds : List (DataW H)) (ps : List MemPlace),
    (∀ t ∈ ts, P.readableRec t = true ∧ t < P.types.size) → DataW.TrodAll enc P W 0 (fun _ => true) true ts vs ds ps → (∀ x ∈ ps, x.block < W.heap.size) →
    DataW.TrodAll enc P W' 0 (fun b => decide (b < W.heap.size)) true ts vs ds ps
  | [], vs, ds, ps, _, h, _ => by
    cases vs <;> cases ds <;> simp [DataW.TrodAll] at h ⊢
    exact h
  | t :: ts, vs, ds, ps, ht, h, hlt => by
    obtain ⟨v, vs', d, ds', p, q, rfl, rfl, rfl, h1, h2⟩ := trodAll_cons h
    have h3 := Below.trod hl (ht t (by simp)).1 (ht t (by simp)).2 h1 hb (fun x hx => hlt x (by simp [hx]))
    have h4 := trodAll_later hl hb ts vs' ds' q (fun u hu => ht u (by simp [hu])) h2 (fun x hx => hlt x (by simp [hx]))
    exact trodAll_cons_mk h3 h4

/-- a law that answers true, and leaves alone what was there -/
theorem law_post {f : Func} {s : ChangeSpec} {tb : TypeId} {W W' : World} {args : Array Value} {ds gs : List (DataW H)} {before : List MemPlace}
    (hl : laidOutB P = true) (hts : ∀ t ∈ f.params.toList, P.readableRec t = true ∧ t < P.types.size) (hv : s.vars = []) (hrt : f.resultTypes = #[tb]) (htb : P.underlying tb = some .bool)
    (hW : DataW.Whole enc P f.params.toList s.vars false W args.toList ds gs before) (hfn : s.fn H (ds ++ gs) = { results := [.lit (.bool true)], args := ds })
    (hb : Below W.heap.size W W') : s.post enc P f false true false false W args (.bool true) W' := by
  have hlt : ∀ p ∈ before, p.block < W.heap.size := fun p hp => hW.lt p hp
  have hW' := hW
  obtain ⟨p, q, hA, hV, rfl, _, _⟩ := hW
  rw [hv] at hV
  obtain ⟨rfl, rfl⟩ := trodVars_none hV
  refine ⟨ds, [], p ++ [], [], p, [], hW', ?_, ?_, ?_, World.keptBut_mono (fun x hx => ⟨hx, .inr (.inl (by simpa using hx))⟩) (hb.frame (· ∈ p ++ [])), fun h => by cases h⟩
  · rw [hfn, hrt]
    exact trodAll_mk1 (shut_bool htb true)
  · rw [hfn]
    exact trodAll_later hl hb _ _ _ _ hts hA (fun x hx => hlt x (by simp [hx]))
  · rw [hfn, hv]
    simp [DataW.TrodVars]

theorem mapM_getD (zs : List Int) (h : ∀ n ∈ zs, (Lit.int .u8 n).wf = true) : (zs.map fun n => bv (UInt8.ofNat n.toNat)) = zs.map (Value.int .u8) := by
  apply List.map_congr_left
  intro n hn
  have hw := h n hn
  simp [Lit.wf, IntKind.min, IntKind.max, IntKind.signed, IntKind.bits] at hw
  simp only [bv, UInt8.toNat_ofNat']
  congr 1
  omega

/-- an argument that is a slice of bytes -/
theorem open_bytes {r : Reach} {b0 : Nat} {W : World} {t e : TypeId} {v : Value} {d : DataW H} {ps : List MemPlace} (ht : P.underlying t = some (.slice e)) (he : P.underlying e = some (.int .u8)) (hc : P.cellsOf e = 1)
    (hval : Value.okWide P W r b0 t v) (h : DataW.Trod enc P W 0 (fun _ => true) true t v d ps) :
    ∃ A l c bs, v = .slice A l c ∧ Sl W W.heap.size A l c bs ∧ c ≤ 9223372036854775807 := by
  obtain ⟨a, l, c, rfl⟩ := okWide_slice ht hval
  obtain ⟨fuel, hf⟩ := h
  rcases open_ints ht he hc hf with ⟨hcs, _⟩ | ⟨ad, len, cap, zs, hcs, _, hle, hmax, hzl, _, hcell, hwf⟩
  · simp [Value.cells] at hcs
    obtain ⟨rfl, rfl, rfl⟩ := hcs
    exact ⟨none, 0, 0, [], rfl, Sl.nil _ _, by omega⟩
  · simp [Value.cells] at hcs
    obtain ⟨rfl, rfl, rfl⟩ := hcs
    simp only [if_true] at hzl
    refine ⟨some ad, l, c, (zs.take l).map fun n => UInt8.ofNat n.toNat, rfl, ⟨?_, by simp; omega, hle⟩, by unfold maxLen at hmax; omega⟩
    have e1 : bvs ((zs.take l).map fun n => UInt8.ofNat n.toNat) = (zs.take l).map (Value.int .u8) := by
      rw [bvs, List.map_map]
      exact mapM_getD (zs.take l) (fun n hn => hwf n (List.mem_of_mem_take hn))
    rw [e1]
    rcases Nat.eq_zero_or_pos l with rfl | hpos
    · exact .inl (by simp)
    · have hc0 : ∀ i, i < zs.length → W.cell? (ad.add i) = some (.int .u8 (zs.getD i 0)) := hcell
      refine .inr ⟨ad, rfl, ?_, fun j u hu => ?_⟩
      · have := World.block_lt_of_cell? W _ (hc0 0 (by omega))
        rwa [add_block] at this
      · have hj : j < l := by
          have := (List.getElem?_eq_some_iff.1 hu).1
          simp at this
          omega
        rw [hc0 j (by omega)]
        rw [List.getElem?_map, List.getElem?_take_of_lt hj, List.getElem?_eq_getElem (by omega)] at hu
        simp at hu
        rw [← hu]
        simp [List.getD, List.getElem?_eq_getElem (show j < zs.length by omega)]
end
theorem wf64 {a : Int} (h : (Lit.int .i64 a).wf = true) : -9223372036854775808 ≤ a ∧ a ≤ 9223372036854775807 := by
  simpa [Lit.wf, IntKind.min, IntKind.max, IntKind.signed, IntKind.bits] using h
theorem wfu64 {a : Int} (h : (Lit.int .u64 a).wf = true) : ∃ n : Nat, a = n ∧ n < 18446744073709551616 := by
  have h2 : 0 ≤ a ∧ a ≤ 18446744073709551615 := by simpa [Lit.wf, IntKind.min, IntKind.max, IntKind.signed, IntKind.bits] using h
  exact ⟨a.toNat, by omega, by omega⟩
end

/- Arguments that are slices of plain data, or structs of them, opened: rows of any elements, and how much they weigh. -/
section
open Go.RowKit Go.ChangeShapes Go.WideShapes Go.ChangeAt
set_option maxRecDepth 100000

section
variable {H : Type} {enc : TypeId × Value → H} {P : Program} {W : World}

/-- what a datum weighs is within reach -/
def Light (P : Program) (t : TypeId) (d : DataW H) : Prop := ∀ n ∈ d.weights P t, n ≤ 140737488351232
theorem light_of {ts : List TypeId} {ds : List (DataW H)} (h : (DataW.weightsEach P ts ds).all (· ≤ reachBytes) = true) {j : Nat} {t : TypeId} {d : DataW H} (ht : ts[j]? = some t) (hd : ds[j]? = some d) : Light P t d := fun n hn => by
  have := List.all_eq_true.1 h _ (DataW.weights_mem_each ht hd n hn)
  have h2 : n ≤ reachBytes := by simpa using this
  exact h2
theorem weightsAll_mem {e : TypeId} {ds : List (DataW H)} {d : DataW H} (h : d ∈ ds) {n : Nat} (hn : n ∈ d.weights P e) : n ∈ DataW.weightsAll P e ds := by
  induction ds with
  | nil => simp at h
  | cons x r ih =>
    simp only [DataW.weightsAll, List.mem_append]
    rcases List.mem_cons.1 h with rfl | h
    · exact .inl hn
    · exact .inr (ih h)
theorem Light.slice {t e : TypeId} {elems spare : List (DataW H)} (ht : P.underlying t = some (.slice e)) (h : Light P t (.slice elems spare)) : (elems.length + spare.length) * P.bytesOf e ≤ 140737488351232 ∧ (∀ d ∈ elems, Light P e d) ∧ ∀ d ∈ spare, Light P e d := by
  unfold Light at *
  simp only [DataW.weights, ht] at h
  refine ⟨h _ (by simp), fun d hd n hn => h n ?_, fun d hd n hn => h n ?_⟩
  · exact List.mem_cons_of_mem _ (List.mem_append_left _ (weightsAll_mem hd hn))
  · exact List.mem_cons_of_mem _ (List.mem_append_right _ (weightsAll_mem hd hn))
theorem Light.field {t : TypeId} {fs : Array Field} {parts : List (DataW H)} (ht : P.underlying t = some (.struct fs)) (h : Light P t (.agg parts)) {j : Nat} {f : Field} {d : DataW H} (hf : fs[j]? = some f) (hd : parts[j]? = some d) : Light P f.type d := by
  unfold Light at *
  simp only [DataW.weights, ht] at h
  exact fun n hn => h n (DataW.weights_mem_each (t := f.type) (by simp [hf]) hd n hn)
theorem Light.string {t : TypeId} {s : List UInt8} (h : Light P t (.lit (.string s) : DataW H)) : s.length ≤ 140737488351232 := h _ (by simp [DataW.weights])

/-- cells behind cells are read -/
theorem reads_append {ad : Addr} {xs ys : List Value} (h1 : ∀ j u, xs[j]? = some u → W.cell? (ad.add j) = some u) (h2 : ∀ j u, ys[j]? = some u → W.cell? ((ad.add xs.length).add j) = some u) :
    ∀ j u, (xs ++ ys)[j]? = some u → W.cell? (ad.add j) = some u := by
  intro j u hu
  rcases Nat.lt_or_ge j xs.length with h | h
  · rw [List.getElem?_append_left h] at hu
    exact h1 j u hu
  · rw [List.getElem?_append_right h] at hu
    have := h2 _ u hu
    rwa [add_add, show xs.length + (j - xs.length) = j by omega] at this

/-- a row of elements of any kind, of 'size' cells each -/
theorem open_rows {R : Type} [Inhabited R] {t e : TypeId} {size bytes fuel : Nat} {cs : List Value} {x : DataW H × List MemPlace} {cells : R → List Value} {OK : R → Prop}
    (ht : P.underlying t = some (.slice e)) (hsz : P.cellsOf e = size) (hby : P.bytesOf e = bytes) (hpos : 0 < size)
    (he : ∀ n cs' x', DataW.trod enc P W 0 (fun _ => true) true n e cs' = some x' → Light P e x'.1 → ∃ r, cs' = cells r ∧ OK r)
    (h : DataW.trod enc P W 0 (fun _ => true) true fuel t cs = some x) (hw : Light P t x.1) :
    ∃ A l c, ∃ rs : List R, cs = [.slice A l c] ∧ rs.length = l ∧ Rd W W.heap.size A (rs.flatMap cells) ∧ (∀ r ∈ rs, OK r) ∧ l ≤ c ∧ c * bytes ≤ 140737488351232 := by
  rcases Go.Deep.open_slice ht h with ⟨rfl, _⟩ | ⟨a, len, cap, m, n, D, Pl, rfl, hb, hl, hm, hmm, rfl, hx⟩
  · exact ⟨none, 0, 0, [], rfl, rfl, .inl rfl, fun r hr => by simp at hr, Nat.le_refl _, by omega⟩
  simp only [if_true] at hmm
  subst hmm
  rw [hsz] at hx
  obtain ⟨w1, w2, w3⟩ := Light.slice ht hw
  simp only [List.length_map, List.length_range] at w1
  rw [show len + (m - len) = m by omega, hby] at w1
  have hlight : ∀ i, i < m → Light P e (D i) := fun i hi => by
    rcases Nat.lt_or_ge i len with h | h
    · exact w2 _ (List.mem_map.2 ⟨i, List.mem_range.2 h, rfl⟩)
    · refine w3 _ (List.mem_map.2 ⟨i - len, List.mem_range.2 (by omega), ?_⟩)
      show D (len + (i - len)) = D i
      rw [show len + (i - len) = i by omega]
  obtain ⟨r, hr⟩ := Go.Deep.choose_lt (α := R) (p := fun i r => W.cells? 0 (a.add (i * size)) size = some (cells r) ∧ OK r) (fun i hi => by
    obtain ⟨cs', h1, h2⟩ := hx i hi
    obtain ⟨r, rfl, hok⟩ := he _ _ _ h2 (hlight i hi)
    exact ⟨r, h1, hok⟩)
  have key : ∀ k, k ≤ m → (((List.range k).map r).flatMap cells).length = k * size ∧ ∀ j u, (((List.range k).map r).flatMap cells)[j]? = some u → W.cell? (a.add j) = some u := by
    intro k
    induction k with
    | zero => intro _; exact ⟨by simp, fun j u hu => by simp at hu⟩
    | succ k ih =>
      intro hk
      obtain ⟨i1, i2⟩ := ih (by omega)
      obtain ⟨h1, _⟩ := hr k (by omega)
      obtain ⟨_, hlen, hcell⟩ := World.cells?_some h1
      rw [List.range_succ, List.map_append, List.flatMap_append]
      simp only [List.map_cons, List.map_nil, List.flatMap_cons, List.flatMap_nil, List.append_nil]
      refine ⟨by rw [List.length_append, i1, hlen]; rw [Nat.succ_mul], reads_append i2 fun j u hu => ?_⟩
      rw [i1]
      have hj : j < size := by rw [← hlen]; exact (List.getElem?_eq_some_iff.1 hu).1
      rw [hcell j hj]
      exact hu
  refine ⟨some a, len, m, (List.range len).map r, rfl, by simp, ?_, ?_, hl, w1⟩
  · rcases Nat.eq_zero_or_pos len with rfl | h0
    · exact .inl (by simp)
    · refine .inr ⟨a, rfl, ?_, (key len hl).2⟩
      have hne : 0 < (((List.range len).map r).flatMap cells).length := by rw [(key len hl).1]; exact Nat.mul_pos h0 hpos
      have := World.block_lt_of_cell? W _ ((key len hl).2 0 _ (List.getElem?_eq_getElem hne))
      rwa [add_block] at this
  · intro q hq
    obtain ⟨i, hi, rfl⟩ := List.mem_map.1 hq
    exact (hr i (by have := List.mem_range.1 hi; omega)).2

theorem flat_bytes : ∀ bs : List UInt8, bs.flatMap (fun b => [bv b]) = bvs bs
  | [] => rfl
  | b :: r => congrArg (bv b :: ·) (flat_bytes r)

/-- bytes, by their cells -/
theorem open_bytes_cells {fuel : Nat} {cs : List Value} {t e : TypeId} {x : DataW H × List MemPlace} (ht : P.underlying t = some (.slice e)) (he : P.underlying e = some (.int .u8)) (hc : P.cellsOf e = 1) (hby : P.bytesOf e = 1)
    (h : DataW.trod enc P W 0 (fun _ => true) true fuel t cs = some x) (hw : Light P t x.1) :
    ∃ A l c bs, cs = [.slice A l c] ∧ Sl W W.heap.size A l c bs ∧ c ≤ 140737488351232 := by
  obtain ⟨A, l, c, bs, rfl, hl, hr, _, hlc, hm⟩ := open_rows (R := UInt8) (cells := fun b => [bv b]) (OK := fun _ => True) ht hc hby (by omega) (fun n cs' x' h' _ => by
    obtain ⟨n, rfl, _, hw⟩ := DataW.trod_int he h'
    have hw2 : 0 ≤ n ∧ n ≤ 255 := by simpa [Lit.wf, IntKind.min, IntKind.max, IntKind.signed, IntKind.bits] using hw
    refine ⟨UInt8.ofNat n.toNat, ?_, trivial⟩
    simp only [bv, UInt8.toNat_ofNat']
    congr 2
    omega) h hw
  rw [flat_bytes] at hr
  exact ⟨A, l, c, bs, rfl, ⟨hr, hl, hlc⟩, by omega⟩

/-- an argument that is a slice of bytes -/
theorem open_bytes_w {r : Reach} {b0 : Nat} {t e : TypeId} {v : Value} {d : DataW H} {ps : List MemPlace} (ht : P.underlying t = some (.slice e)) (he : P.underlying e = some (.int .u8)) (hc : P.cellsOf e = 1) (hby : P.bytesOf e = 1)
    (hval : Value.okWide P W r b0 t v) (h : DataW.Trod enc P W 0 (fun _ => true) true t v d ps) (hw : Light P t d) :
    ∃ A l c bs, v = .slice A l c ∧ Sl W W.heap.size A l c bs ∧ c ≤ 140737488351232 := by
  obtain ⟨a, l, c, rfl⟩ := okWide_slice ht hval
  obtain ⟨fuel, hf⟩ := h
  obtain ⟨A, l', c', bs, hcs, hs, hm⟩ := open_bytes_cells ht he hc hby hf hw
  have hcs' : [Value.slice a l c] = [Value.slice A l' c'] := hcs
  simp only [List.cons.injEq, and_true] at hcs'
  exact ⟨A, l', c', bs, hcs', hs, hm⟩

/-- an argument that is a slice of whole numbers -/
theorem flat_ints : ∀ zs : List Int, zs.flatMap (fun z => [Value.int .i64 z]) = zs.map (Value.int .i64)
  | [] => rfl
  | z :: r => congrArg (Value.int .i64 z :: ·) (flat_ints r)
theorem open_ints_w {r : Reach} {b0 : Nat} {t e : TypeId} {v : Value} {d : DataW H} {ps : List MemPlace} (ht : P.underlying t = some (.slice e)) (he : P.underlying e = some (.int .i64)) (hc : P.cellsOf e = 1) (hby : P.bytesOf e = 8)
    (hval : Value.okWide P W r b0 t v) (h : DataW.Trod enc P W 0 (fun _ => true) true t v d ps) (hw : Light P t d) :
    ∃ A l c, ∃ zs : List Int, v = .slice A l c ∧ zs.length = l ∧ Rd W W.heap.size A (zs.map (Value.int .i64)) ∧ (∀ z ∈ zs, -9223372036854775808 ≤ z ∧ z ≤ 9223372036854775807) ∧ l ≤ c ∧ c * 8 ≤ 140737488351232 := by
  obtain ⟨a, l, c, rfl⟩ := okWide_slice ht hval
  obtain ⟨fuel, hf⟩ := h
  obtain ⟨A, l', c', zs, hcs, hl, hr, hok, hlc, hm⟩ := open_rows (R := Int) (cells := fun z => [Value.int .i64 z]) (OK := fun z => -9223372036854775808 ≤ z ∧ z ≤ 9223372036854775807) ht hc hby (by omega) (fun n cs' x' h' _ => by
    obtain ⟨n, rfl, _, hw⟩ := DataW.trod_int he h'
    exact ⟨n, rfl, wf64 hw⟩) hf hw
  have hcs' : [Value.slice a l c] = [Value.slice A l' c'] := hcs
  simp only [List.cons.injEq, and_true] at hcs'
  rw [flat_ints] at hr
  exact ⟨A, l', c', zs, hcs', hl, hr, hok, hlc, hm⟩
end
end

/- Arguments that are tokens, and rows of tokens, opened; a row's world: what the library's variables hold; the closing rule for rows that list variables and lean on the world's shape. -/
section
open Go.RowKit Go.ChangeShapes Go.WideShapes Go.ChangeAt
set_option maxRecDepth 100000

section
variable {H : Type} {enc : TypeId × Value → H} {W : World}
theorem open_tok_cells {fuel : Nat} {cs : List Value} {x : DataW H × List MemPlace} (h : DataW.trod enc Tryz.prog W 0 (fun _ => true) true fuel 35 cs = some x) (hw : Light Tryz.prog 35 x.1) :
    ∃ t : Tk, cs = t.cells ∧ t.t.size ≤ 140737488351232 := by
  obtain ⟨xs, n, _, rfl, hl, hlen, hf⟩ := DataW.trod_struct Tryz.underlying35 h
  have h2 : Tryz.prog.cellsOf 35 = 2 := by kernel_rfl
  rw [h2] at hl
  match cs, hl with
  | [v0, v1], _ =>
    simp only [Array.size] at hlen
    match xs, hlen with
    | [y0, y1], _ =>
      have c1 : Tryz.prog.cellsOf 3 = 1 := by kernel_rfl
      have c2 : Tryz.prog.cellsOf 9 = 1 := by kernel_rfl
      have e0 : DataW.trod enc Tryz.prog W 0 (fun _ => true) true n 3 (([v0, v1].drop 0).take (Tryz.prog.cellsOf 3)) = some y0 := hf 0 _ rfl
      have e1 : DataW.trod enc Tryz.prog W 0 (fun _ => true) true n 9 (([v0, v1].drop 1).take (Tryz.prog.cellsOf 9)) = some y1 := hf 1 _ rfl
      have hw1 : Light Tryz.prog 9 y1.1 := hw.field (j := 1) Tryz.underlying35 rfl rfl
      rw [c1] at e0
      rw [c2] at e1
      obtain ⟨k, hk, _, _⟩ := DataW.trod_int (k := .i64) Tryz.underlying3 (show DataW.trod enc Tryz.prog W 0 (fun _ => true) true n 3 [v0] = some y0 from e0)
      obtain ⟨s, hs, hy, _⟩ := DataW.trod_string Tryz.underlying9 (show DataW.trod enc Tryz.prog W 0 (fun _ => true) true n 9 [v1] = some y1 from e1)
      subst hy
      have hb := hw1.string
      simp only [List.cons.injEq, and_true] at hk hs
      subst hk hs
      exact ⟨⟨k, s⟩, rfl, by rw [text_len] at hb; exact hb⟩

theorem open_tok {r : Reach} {b0 : Nat} {v : Value} {d : DataW H} {ps : List MemPlace} (hval : Value.okWide Tryz.prog W r b0 35 v) (h : DataW.Trod enc Tryz.prog W 0 (fun _ => true) true 35 v d ps) (hw : Light Tryz.prog 35 d) :
    ∃ t : Tk, v = tokV t.k t.t ∧ t.t.size ≤ 140737488351232 := by
  obtain ⟨cs, rfl, hsz⟩ := okWide_struct Tryz.underlying35 hval
  obtain ⟨fuel, hf⟩ := h
  obtain ⟨t, hq, hs⟩ := open_tok_cells hf hw
  refine ⟨t, ?_, hs⟩
  have : cs = t.cells.toArray := by
    have h2 : cs.toList = t.cells := hq
    rw [← h2]
  rw [this]
  rfl

theorem open_toks {r : Reach} {b0 : Nat} {v : Value} {d : DataW H} {ps : List MemPlace} (hval : Value.okWide Tryz.prog W r b0 34 v) (h : DataW.Trod enc Tryz.prog W 0 (fun _ => true) true 34 v d ps) (hw : Light Tryz.prog 34 d) :
    ∃ A l c ts, v = .slice A l c ∧ TR W A l ts ∧ (∀ t ∈ ts, t.t.size ≤ 140737488351232) ∧ l ≤ c ∧ c * 24 ≤ 140737488351232 := by
  obtain ⟨a, l, c, rfl⟩ := okWide_slice Tryz.underlying34 hval
  obtain ⟨fuel, hf⟩ := h
  obtain ⟨A, l', c', ts, hcs, hl, hr, hok, hlc, hm⟩ := open_rows (R := Tk) (cells := Tk.cells) (size := 2) (OK := fun t => t.t.size ≤ 140737488351232) Tryz.underlying34 (by kernel_rfl) (by kernel_rfl) (by omega)
    (fun n cs' x' h' hw' => open_tok_cells h' hw') hf hw
  have hcs' : [Value.slice a l c] = [Value.slice A l' c'] := hcs
  simp only [List.cons.injEq, Value.slice.injEq, and_true] at hcs'
  obtain ⟨rfl, rfl, rfl⟩ := hcs'
  exact ⟨a, l, c, ts, rfl, ⟨hl, hr⟩, hok, hlc, hm⟩
end

theorem lw_of_shaped {W : World} (h : W.ShapedOpen Tryz.prog) : Lw W :=
  Go.Proofs.cell_of_shapedOpen_int (zero := #[.int .i64 0]) (t := 3) h (of_decide_eq_true (by kernel_rfl)) (by kernel_rfl) rfl (by kernel_rfl) (by kernel_rfl) Tryz.underlying3

/-- as the library's closing rule for rows with a condition on the world, the world's shape handed on -/
theorem returns_shaped_and {H : Type} {enc : TypeId × Value → H} {a : Assume} {C : Checked} {os : Os} {f : FuncId} {fn : Func} {s : ChangeSpec} {conds : List PathCond} {apart fresh handsOn again : Bool} {X : World → Array Value → Prop}
    (hX : ∀ (w w' : World) (args : Array Value), w.heap = w'.heap → X w args → X w' args)
    (own : ownKnob C.prog.godebug = none) (started : os.Started) (noInit : C.prog.inits.idxOf? f = none) (hfn : C.prog.funcs[f]? = some fn)
    (witness : ∃ (w : World) (tape : Tape) (i : Input), w.os = os ∧ (w.forCall tape i).Shaped C.prog ∧ i.vars = [] ∧ Input.okWide C.prog (w.forCall tape i) .any w.heap.size f i ∧
      ((s.pre enc C.prog fn conds apart (w.forCall tape i).memory i.args ∧ X (w.forCall tape i).memory i.args) ∧ sizedMet enc C.prog fn (OpenSpec.ofChange s) apart (w.forCall tape i).memory i.args) ∧ a.holds C.prog (lone (Frame.enter C.prog f i.args .normal) [] (w.forCall tape i)))
    (contract : ∀ (W : World) (base : Nat) (args : Array Value) (ds gs : List (DataW H)) (before : List MemPlace),
      (∀ (j : Nat) t v, fn.params[j]? = some t → args[j]? = some v → Value.okWide C.prog W .any base t v) →
      DataW.Whole enc C.prog fn.params.toList s.vars apart W args.toList ds gs before →
      (DataW.weightsEach C.prog (fn.params.toList ++ s.plain.varTypes C.prog) (ds ++ gs)).all (· ≤ reachBytes) = true → X W args → W.ShapedOpen C.prog →
      Calls C.prog f args W fun e W' => ∃ v, e = .returned v ∧ s.post enc C.prog fn apart fresh handsOn again W args v W') :
    ReturnsInHanded a C os f .any (fun w args => (s.pre enc C.prog fn conds apart w args ∧ X w args) ∧ sizedMet enc C.prog fn (OpenSpec.ofChange s) apart w args) (s.post enc C.prog fn apart fresh handsOn again) := by
  refine returnsInHanded_of_calls own started noInit witness ?_
  intro w tape i _ hsh _ hok hpre _
  obtain ⟨_, _, _, fn', hfn', _, _, _, _, hval⟩ := hok
  have e : fn' = fn := Option.some.inj (hfn'.symm.trans hfn)
  subst e
  obtain ⟨⟨⟨ds, gs, before, hw, _⟩, hx⟩, hz⟩ := hpre
  have hw' := DataW.Whole.of_heap (w' := w.forCall tape i) (by rfl) hw
  refine (contract (w.forCall tape i) w.heap.size i.args ds gs before hval hw' (hz.weights hw) (hX _ _ _ (by rfl) hx) hsh).mono fun e W' ⟨v, he, hp⟩ => ?_
  subst he
  exact ChangeSpec.post_blind hp
end

/- What is a read has no word that writes: plain functions (no function of the program is named here). -/
section
open Go.RowKit
set_option maxRecDepth 100000

theorem endF_split (l : List Tok) : ∃ st, l = endF l ++ st ∧ ∀ x ∈ st, stopF x = true := by
  refine ⟨(l.reverse.takeWhile stopF).reverse, ?_, fun x hx => ?_⟩
  · unfold endF
    rw [← List.reverse_append, List.takeWhile_append_dropWhile, List.reverse_reverse]
  · exact List.all_eq_true.1 List.all_takeWhile x (List.mem_reverse.1 hx)

def eight : List (List UInt8) := [wSELECT, wWITH, wTABLE, wVALUES, wSHOW, wDESCRIBE, wDESC, wEXPLAIN]

theorem one_facts {m : List Tok} (h : classF m = 1) : ∃ t r, m = t :: r ∧ t.1 = 1 ∧ m.any stopF = false ∧ t.2 ∈ eight ∧ (t.2 ∈ wsSel → hasF m six = false) := by
  cases m with
  | nil => rw [classF_nil] at h; cases h
  | cons t r =>
    by_cases h1 : t.1 = 1
    · cases hs : (t :: r).any stopF with
      | true => rw [classF_no (.inr hs)] at h; cases h
      | false =>
        rw [classF_word h1 hs] at h
        refine ⟨t, r, rfl, h1, rfl, ?_⟩
        have hb : ∀ (c : Int) (b : Bool), c ≠ 1 → ifF c b ≠ 1 := fun c b hc => by cases b <;> simp [ifF, hc]
        have hse : ∀ b, selF r b = 1 → hasF r six = false := fun b hh => by
          unfold selF at hh
          cases hx : hasF r six with
          | false => rfl
          | true => rw [hx] at hh; cases hh
        have hno : ∀ v : Int, famF t.2 = v → (v ≠ 4 ∧ v ≠ 5) → t.2 ∉ wsSel := fun v hv hvv hm => by
          have h2 : decide (t.2 ∈ wsSel) = true := decide_eq_true hm
          rw [famSel, hv] at h2
          have := of_decide_eq_true h2
          omega
        have hcons : (famF t.2 = 4 ∨ famF t.2 = 5) → hasF r six = false → hasF (t :: r) six = false := fun hf hr => by
          have e : hasF (t :: r) six = (wordF six t || hasF r six) := rfl
          have hw : wordF six t = false := by
            unfold wordF
            rw [decide_eq_false (six_sel hf)]
            simp
          rw [e, hw, hr]
          rfl
        have hmem : ∀ (v : Int) (ws : List (List UInt8)), famF t.2 = v → v ≠ 0 → (∀ p ∈ famL, p.2 = v → p.1 ∈ ws) → t.2 ∈ ws := fun v ws hv h0 hp => hp _ (fam_mem hv h0) rfl
        rcases fam_out t.2 with hv | hv | hv | hv | hv | hv | hv | hv | hv | hv | hv
        · rw [hv] at h; cases h
        · exact ⟨hmem 1 eight hv (by decide) (by decide), fun hm => absurd hm (hno 1 hv (by decide))⟩
        · exact ⟨hmem 2 eight hv (by decide) (by decide), fun hm => absurd hm (hno 2 hv (by decide))⟩
        · rw [hv] at h; cases h
        · rw [hv] at h; exact ⟨hmem 4 eight hv (by decide) (by decide), fun _ => hcons (.inl hv) (hse _ h)⟩
        · rw [hv] at h; exact ⟨hmem 5 eight hv (by decide) (by decide), fun _ => hcons (.inr hv) (hse _ h)⟩
        · rw [hv] at h; exact absurd h (hb _ _ (by decide))
        · rw [hv] at h; exact absurd h (hb _ _ (by decide))
        · rw [hv] at h; exact absurd h (hb _ _ (by decide))
        · rw [hv] at h; exact absurd h (hb _ _ (by decide))
        · rw [hv] at h; exact absurd h (hb _ _ (by decide))
    · rw [classF_no (.inl h1)] at h; cases h

/-- what is no hint, of so many tokens -/
def preF (L : List Tok) (k : Nat) : List Tok := (L.take k).filter fun t => !isHintF t
theorem preF_hint {L : List Tok} {k : Nat} (hk : k < L.length) (h : isHintF L[k] = true) : preF L (k + 1) = preF L k := by
  unfold preF
  rw [List.take_succ_eq_append_getElem hk, List.filter_append]
  simp [h]
theorem preF_push {L : List Tok} {k : Nat} (hk : k < L.length) (h : isHintF L[k] = false) : preF L (k + 1) = preF L k ++ [L[k]] := by
  unfold preF
  rw [List.take_succ_eq_append_getElem hk, List.filter_append]
  simp [h]
theorem preF_all (L : List Tok) {k : Nat} (hk : L.length ≤ k) : preF L k = L.filter fun t => !isHintF t := by
  unfold preF
  rw [List.take_of_length_le hk]

/-- the first one's text -/
def hdF (P : List Tok) : List UInt8 := (P.head?.map Prod.snd).getD []

theorem safe_next {L m st : List Tok} {t : Tok} {r : List Tok} (hH : L.filter (fun t => !isHintF t) = m ++ st) (hst : ∀ x ∈ st, stopF x = true) (hm : m = t :: r) (hns : m.any stopF = false) {k : Nat} (hk : k < L.length) (hx : isHintF L[k] = false) :
    (stopF L[k] = true → m.length ≤ (preF L k).length ∧ hdF (preF L (k + 1)) = hdF (preF L k)) ∧
    (stopF L[k] = false → (preF L k).length < m.length ∧ L[k] ∈ m ∧ ((preF L k = [] ∧ L[k] = t ∧ hdF (preF L k) = [] ∧ hdF (preF L (k + 1)) = t.2) ∨ (hdF (preF L k) = t.2 ∧ hdF (preF L (k + 1)) = t.2))) := by
  have hpush := preF_push hk hx
  have hsplit : m ++ st = (preF L k ++ [L[k]]) ++ (L.drop (k + 1)).filter (fun t => !isHintF t) := by
    rw [← hpush, ← hH]
    unfold preF
    rw [← List.filter_append, List.take_append_drop]
  have hget : (m ++ st)[(preF L k).length]? = some L[k] := by
    rw [hsplit, List.append_assoc, List.getElem?_append_right (Nat.le_refl _)]
    simp
  have hpre : preF L k = (m ++ st).take (preF L k).length := by
    rw [hsplit, List.append_assoc, List.take_append_of_le_length (Nat.le_refl _), List.take_of_length_le (Nat.le_refl _)]
  have hhd : ∀ j, 0 < j → hdF ((m ++ st).take j) = t.2 := fun j hj => by
    obtain ⟨j, rfl⟩ : ∃ i, j = i + 1 := ⟨j - 1, by omega⟩
    rw [hm]
    rfl
  have hm0 : 0 < m.length := by rw [hm]; simp
  rw [hpush]
  have happ : preF L k ++ [L[k]] = (m ++ st).take ((preF L k).length + 1) := by
    have h1 : ((preF L k).length + 1) = (preF L k ++ [L[k]]).length := by simp
    rw [hsplit, h1, List.take_append_of_le_length (Nat.le_refl _), List.take_of_length_le (Nat.le_refl _)]
  have hhd1 : hdF (preF L k ++ [L[k]]) = t.2 := by rw [happ]; exact hhd _ (by omega)
  refine ⟨fun hs => ?_, fun hs => ?_⟩
  · have hge : m.length ≤ (preF L k).length := by
      rcases Nat.lt_or_ge (preF L k).length m.length with hlt | hge
      · rw [List.getElem?_append_left hlt] at hget
        have hmem := List.mem_of_getElem? hget
        rw [List.any_eq_false] at hns
        exact absurd hs (hns _ hmem)
      · exact hge
    refine ⟨hge, ?_⟩
    rw [hhd1, hpre]
    exact (hhd _ (by omega)).symm
  · have hlt : (preF L k).length < m.length := by
      rcases Nat.lt_or_ge (preF L k).length m.length with hlt | hge
      · exact hlt
      · rw [List.getElem?_append_right hge] at hget
        have := hst _ (List.mem_of_getElem? hget)
        rw [hs] at this
        cases this
    rw [List.getElem?_append_left hlt] at hget
    refine ⟨hlt, List.mem_of_getElem? hget, ?_⟩
    rcases Nat.eq_zero_or_pos (preF L k).length with h0 | h0
    · have hnil : preF L k = [] := List.eq_nil_of_length_eq_zero h0
      refine .inl ⟨hnil, ?_, by rw [hnil]; rfl, hhd1⟩
      rw [h0, hm] at hget
      simpa using hget.symm
    · refine .inr ⟨?_, hhd1⟩
      rw [hpre]
      exact hhd _ (by omega)
theorem six_word {m : List Tok} {x : Tok} (h : hasF m six = false) (hx : x ∈ m) (h1 : x.1 = 1) : x.2 ∉ six := fun h6 => by
  unfold hasF at h
  rw [List.any_eq_false] at h
  refine h x hx ?_
  unfold wordF
  rw [decide_eq_true h1, decide_eq_true h6]
  rfl
end

/- ClassSafe: what is classed as a read writes nothing: the walk. -/
section
open Go.RowKit
set_option maxRecDepth 100000

def endB (j m : Nat) : ByteArray := if j ≤ m then ⟨#[]⟩ else ⟨#[59]⟩

set_option maxHeartbeats 16000000 in
theorem classSafe_walk (s : ByteArray) (w : World) (hs : s.size ≤ maxLen) (hL : Lw w) :
    Calls Tryz.prog 4 #[.string s] w fun e w' => e = .returned (.bool true) ∧ Below w.heap.size w w' := by
  have HA := Lib.hid (awake5 w hL)
  go_enter Tryz.func4, Tryz.ntmps4
  go_wp2_with fail
  refine HA.out.mono ?_
  rintro e w0 ⟨rfl, k0⟩
  clear HA
  by_cases hb : 2000 < s.size
  · go_wp2_with fail
    go_ret
    exact ⟨rfl, k0⟩
  have H0 := Lib.hid (newClasser_ok w0)
  go_wp2_with fail
  refine H0.out.mono ?_
  rintro e w1 ⟨rfl, c1, k1⟩
  clear H0
  have kw1 := kp_trans k0 k1
  have L1 := hL.next kw1
  go_wp2_with fail
  refine (class_ok s _ _ hs L1 c1).mono ?_
  rintro e w2 ⟨rfl, c2, b2⟩
  have kw2 : Below w.heap.size w w2 := kw1.trans (b2.below k0.size kw1.size)
  have hAc : classA s.data.toList = if (lexA s.data.toList).2 = 0 then classF (bodyF (lexA s.data.toList).1) else 0 := rfl
  by_cases hone : classA s.data.toList = 1
  case neg =>
    have HN := Lib.hid hone
    have hne : (classA s.data.toList != 1) = true := by simpa using hone
    clear hone hAc
    generalize classA s.data.toList = x at *
    go_wp2_with fail
    go_ret
    exact ⟨rfl, kw2⟩
  have hlex := rlex_ok s w2 hs
  unfold LexTo at hlex
  rw [hone] at hAc ⊢
  have he0 : (lexA s.data.toList).2 = 0 := by
    by_cases h : (lexA s.data.toList).2 = 0
    · exact h
    · rw [if_neg h] at hAc; cases hAc
  rw [if_pos he0] at hAc
  obtain ⟨t, r, hm, ht1, hns, ht8, htsel⟩ := one_facts hAc.symm
  obtain ⟨st, hH, hst⟩ := endF_split ((lexA s.data.toList).1.filter fun t => !isHintF t)
  have hlen200 := lexA_len s.data.toList
  have hok := lexA_ok s.data.toList
  unfold bodyF at hm hns htsel
  generalize endF ((lexA s.data.toList).1.filter fun t => !isHintF t) = m at *
  clear hone hAc
  have HX := Lib.hid hlex
  have HH := Lib.hid hH
  have HST := Lib.hid hst
  have HM := Lib.hid hm
  have HNS := Lib.hid hns
  have HT8 := Lib.hid ht8
  have HTS := Lib.hid htsel
  have HT1 := Lib.hid ht1
  have HOK := Lib.hid hok
  have HLN := Lib.hid hlen200
  have HE := Lib.hid he0
  clear hlex hH hst hm hns ht8 htsel ht1 hok hlen200 he0 hb
  generalize lexA s.data.toList = LA at *
  go_wp2_with fail
  refine HX.out.mono ?_
  rintro e w3 ⟨A, n, c, er, ts, rfl, ho, rfl, k3⟩
  obtain rfl : er = 0 := HE.out
  replace HH : Hid ((saysT ts).filter (fun t => !isHintF t) = m ++ st) := Lib.hid HH.out
  replace HOK : Hid (∀ x ∈ saysT ts, okTok x 200) := Lib.hid HOK.out
  replace HLN : Hid ((saysT ts).length ≤ 200) := Lib.hid HLN.out
  have hr := ho.tr
  have hlen := Lib.hid hr.len
  have hn : n ≤ 200 := by have := HLN.out; rw [saysT_length, hlen.out] at this; exact this
  have kw3 := kw2.trans (k3.mono kw2.size)
  clear HX HLN HE ho
  go_wp2_with fail
  go_loopw [5, 6, 27] (fun h5 b6 i wr => ∃ (k : Nat) (h : ByteArray), k ≤ n ∧ i = .int .i64 k ∧ h5 = .string h ∧ b6 = .string (endB (preF (saysT ts) k).length m.length) ∧ Hid (h.data.toList = hdF (preF (saysT ts) k)) ∧ Below w3.heap.size w3 wr) (fun _ _ i _ => n - (intOf i).toNat)
  case atStart => exact ⟨0, ⟨#[]⟩, Nat.zero_le _, rfl, rfl, rfl, Lib.hid rfl, Below.refl _ _⟩
  case round =>
    obtain ⟨k, h, hk, rfl, rfl, rfl, hh, kw⟩ := hrel
    have kz := kw3.trans (kw.mono kw3.size)
    by_cases hlt : k < n
    · have hkl : k < ts.length := by rw [hlen.out]; exact hlt
      obtain ⟨ad, rfl, _, hcc⟩ := hr.at_ hkl
      obtain ⟨q0, q1⟩ := hcc _ kw
      have hks : k < (saysT ts).length := by rw [saysT_length]; exact hkl
      have hsa : (saysT ts)[k] = ts[k].says := by simp [saysT]
      have hih : isHintF ts[k].says = decide (ts[k].k = 5) := rfl
      have hsf : stopF ts[k].says = (decide (ts[k].k = 6) && decide (ts[k].t.data.toList = [59])) := rfl
      have hokk := HOK.out _ (List.getElem_mem hks)
      have kn := kp_alloc kw (.cells #[.int .i64 ts[k].k, .string ts[k].t] 33)
      rw [hsa] at hokk
      clear hcc
      by_cases h5 : ts[k].k = 5
      · -- a hint
        have hp := preF_hint hks (by rw [hsa, hih]; exact decide_eq_true h5)
        have hh2 : Hid (h.data.toList = hdF (preF (saysT ts) (k + 1))) := Lib.hid (by rw [hp]; exact hh.out)
        have hb2 : Hid (endB (preF (saysT ts) k).length m.length = endB (preF (saysT ts) (k + 1)).length m.length) := Lib.hid (by rw [hp])
        generalize endB (preF (saysT ts) k).length m.length = B at *
        clear hp hsa hih hsf hokk hh
        generalize ts[k].k = x at *
        generalize ts[k].t = q at *
        subst h5
        go_wp2_with fail
        go_roundw
        case rel => exact ⟨k + 1, h, by omega, by go_num, rfl, by rw [hb2.out], hh2, kn⟩
        case measure => simp [intOf]; omega
      have hnx := safe_next HH.out HST.out HM.out HNS.out hks (by rw [hsa, hih]; exact decide_eq_false h5)
      have hpush := preF_push hks (by rw [hsa, hih]; exact decide_eq_false h5)
      have hpl : (preF (saysT ts) (k + 1)).length = (preF (saysT ts) k).length + 1 := by rw [hpush]; simp
      rw [hsa] at hnx
      have f5 : (ts[k].k == 5) = false := by simpa using h5
      cases hs9 : stopF ts[k].says with
      | true =>
        -- the end
        obtain ⟨hge, hhd⟩ := hnx.1 hs9
        rw [hsf, Bool.and_eq_true] at hs9
        have h6 : ts[k].k = 6 := of_decide_eq_true hs9.1
        have e59 : (ts[k].t.toList == [59]) = true := by rw [toList_is]; exact hs9.2
        have hh2 : Hid (h.data.toList = hdF (preF (saysT ts) (k + 1))) := Lib.hid (by rw [hhd]; exact hh.out)
        have hb2 : Hid (endB (preF (saysT ts) (k + 1)).length m.length = ⟨#[59]⟩) := Lib.hid (by unfold endB; rw [if_neg (by omega)])
        have hne : h.data.toList ≠ [] := by
          rw [hh2.out, hpush]
          have hm0 : 0 < m.length := by rw [HM.out]; simp
          have hpos : preF (saysT ts) k ≠ [] := fun e => by
            rw [e] at hge
            have h0 : m.length = 0 := Nat.le_zero.1 hge
            omega
          have hall := (hOKne HOK.out HH.out HM.out HT1.out)
          rw [hpush] at hhd
          rw [hhd]
          exact hall k hpos
        have ehd : (h.toList == ([] : List UInt8)) = false := by rw [toList_is]; exact decide_eq_false hne
        have hbb : endB (preF (saysT ts) k).length m.length = ⟨#[]⟩ ∨ endB (preF (saysT ts) k).length m.length = ⟨#[59]⟩ := by unfold endB; split <;> simp
        generalize endB (preF (saysT ts) k).length m.length = B at *
        clear hnx hpush hpl hsa hih hsf hokk hh hs9 hhd hne
        generalize ts[k].k = x at *
        generalize ts[k].t = q at *
        subst h6
        rcases hbb with rfl | rfl
        · go_wp2_with fail
          go_roundw
          case rel => exact ⟨k + 1, h, by omega, by go_num, rfl, by rw [hb2.out], hh2, kn⟩
          case measure => simp [intOf]; omega
        · go_wp2_with fail
          go_roundw
          case rel => exact ⟨k + 1, h, by omega, by go_num, rfl, by rw [hb2.out], hh2, kn⟩
          case measure => simp [intOf]; omega
      | false =>
        obtain ⟨hlm, hmem, hcase⟩ := hnx.2 hs9
        have hB : endB (preF (saysT ts) k).length m.length = ⟨#[]⟩ := by unfold endB; rw [if_pos (by omega)]
        have hb2 : Hid (endB (preF (saysT ts) (k + 1)).length m.length = ⟨#[]⟩) := Lib.hid (by unfold endB; rw [if_pos (by omega)])
        rw [hB]
        have hsix : t.2 ∈ wsSel → ts[k].k = 1 → ts[k].t.data.toList ∉ six := fun hm1 h1 => six_word (HTS.out hm1) hmem h1
        have hns6 : ts[k].k = 6 → (ts[k].t.toList == [59]) = false := fun h6 => by
          rw [hsf, decide_eq_true h6, Bool.true_and] at hs9
          rw [toList_is]
          exact hs9
        rcases hcase with ⟨hnil, hxt, hh0, hh1⟩ | ⟨hh0, hh1⟩
        · -- the first one
          have h1 : ts[k].k = 1 := by have := HT1.out; rw [← hxt] at this; exact this
          have htx : ts[k].t.data.toList = t.2 := by rw [← hxt]; rfl
          have ehd : (h.toList == ([] : List UInt8)) = true := by rw [toList_is, hh.out, hh0]; rfl
          have hh2 : Hid (ts[k].t.data.toList = hdF (preF (saysT ts) (k + 1))) := Lib.hid (by rw [hh1, htx])
          have hx8 : ts[k].t.data.toList ∈ eight := by rw [htx]; exact HT8.out
          clear hnx hpush hpl hsa hih hsf hokk hh hs9 hmem hsix hns6 hnil hxt hh0 hh1 htx hB f5
          generalize ts[k].k = x at *
          generalize ts[k].t = q at *
          subst h1
          by_cases gSELECT : q.data.toList = wSELECT
          · have dmy := gSELECT
            have sSELECT : (q.toList == [83, 69, 76, 69, 67, 84]) = true := by rw [toList_is, gSELECT]; decide
            have sWITH : (q.toList == [87, 73, 84, 72]) = false := by rw [toList_is, gSELECT]; decide
            have sTABLE : (q.toList == [84, 65, 66, 76, 69]) = false := by rw [toList_is, gSELECT]; decide
            have sVALUES : (q.toList == [86, 65, 76, 85, 69, 83]) = false := by rw [toList_is, gSELECT]; decide
            have xINSERT : (q.toList == [73, 78, 83, 69, 82, 84]) = false := by rw [toList_is, gSELECT]; decide
            have xUPDATE : (q.toList == [85, 80, 68, 65, 84, 69]) = false := by rw [toList_is, gSELECT]; decide
            have xDELETE : (q.toList == [68, 69, 76, 69, 84, 69]) = false := by rw [toList_is, gSELECT]; decide
            have xREPLACE : (q.toList == [82, 69, 80, 76, 65, 67, 69]) = false := by rw [toList_is, gSELECT]; decide
            have xINTO : (q.toList == [73, 78, 84, 79]) = false := by rw [toList_is, gSELECT]; decide
            have xSHARE : (q.toList == [83, 72, 65, 82, 69]) = false := by rw [toList_is, gSELECT]; decide
            clear dmy gSELECT hx8
            go_wp2_with fail
            go_roundw
            case rel => exact ⟨k + 1, q, by omega, by go_num, rfl, by rw [hb2.out], hh2, kn⟩
            case measure => simp [intOf]; omega
          by_cases gWITH : q.data.toList = wWITH
          · have dmy := gWITH
            have sSELECT : (q.toList == [83, 69, 76, 69, 67, 84]) = false := by rw [toList_is, gWITH]; decide
            have sWITH : (q.toList == [87, 73, 84, 72]) = true := by rw [toList_is, gWITH]; decide
            have sTABLE : (q.toList == [84, 65, 66, 76, 69]) = false := by rw [toList_is, gWITH]; decide
            have sVALUES : (q.toList == [86, 65, 76, 85, 69, 83]) = false := by rw [toList_is, gWITH]; decide
            have xINSERT : (q.toList == [73, 78, 83, 69, 82, 84]) = false := by rw [toList_is, gWITH]; decide
            have xUPDATE : (q.toList == [85, 80, 68, 65, 84, 69]) = false := by rw [toList_is, gWITH]; decide
            have xDELETE : (q.toList == [68, 69, 76, 69, 84, 69]) = false := by rw [toList_is, gWITH]; decide
            have xREPLACE : (q.toList == [82, 69, 80, 76, 65, 67, 69]) = false := by rw [toList_is, gWITH]; decide
            have xINTO : (q.toList == [73, 78, 84, 79]) = false := by rw [toList_is, gWITH]; decide
            have xSHARE : (q.toList == [83, 72, 65, 82, 69]) = false := by rw [toList_is, gWITH]; decide
            clear dmy gWITH hx8
            go_wp2_with fail
            go_roundw
            case rel => exact ⟨k + 1, q, by omega, by go_num, rfl, by rw [hb2.out], hh2, kn⟩
            case measure => simp [intOf]; omega
          by_cases gTABLE : q.data.toList = wTABLE
          · have dmy := gTABLE
            have sSELECT : (q.toList == [83, 69, 76, 69, 67, 84]) = false := by rw [toList_is, gTABLE]; decide
            have sWITH : (q.toList == [87, 73, 84, 72]) = false := by rw [toList_is, gTABLE]; decide
            have sTABLE : (q.toList == [84, 65, 66, 76, 69]) = true := by rw [toList_is, gTABLE]; decide
            have sVALUES : (q.toList == [86, 65, 76, 85, 69, 83]) = false := by rw [toList_is, gTABLE]; decide
            have xINSERT : (q.toList == [73, 78, 83, 69, 82, 84]) = false := by rw [toList_is, gTABLE]; decide
            have xUPDATE : (q.toList == [85, 80, 68, 65, 84, 69]) = false := by rw [toList_is, gTABLE]; decide
            have xDELETE : (q.toList == [68, 69, 76, 69, 84, 69]) = false := by rw [toList_is, gTABLE]; decide
            have xREPLACE : (q.toList == [82, 69, 80, 76, 65, 67, 69]) = false := by rw [toList_is, gTABLE]; decide
            have xINTO : (q.toList == [73, 78, 84, 79]) = false := by rw [toList_is, gTABLE]; decide
            have xSHARE : (q.toList == [83, 72, 65, 82, 69]) = false := by rw [toList_is, gTABLE]; decide
            clear dmy gTABLE hx8
            go_wp2_with fail
            go_roundw
            case rel => exact ⟨k + 1, q, by omega, by go_num, rfl, by rw [hb2.out], hh2, kn⟩
            case measure => simp [intOf]; omega
          by_cases gVALUES : q.data.toList = wVALUES
          · have dmy := gVALUES
            have sSELECT : (q.toList == [83, 69, 76, 69, 67, 84]) = false := by rw [toList_is, gVALUES]; decide
            have sWITH : (q.toList == [87, 73, 84, 72]) = false := by rw [toList_is, gVALUES]; decide
            have sTABLE : (q.toList == [84, 65, 66, 76, 69]) = false := by rw [toList_is, gVALUES]; decide
            have sVALUES : (q.toList == [86, 65, 76, 85, 69, 83]) = true := by rw [toList_is, gVALUES]; decide
            have xINSERT : (q.toList == [73, 78, 83, 69, 82, 84]) = false := by rw [toList_is, gVALUES]; decide
            have xUPDATE : (q.toList == [85, 80, 68, 65, 84, 69]) = false := by rw [toList_is, gVALUES]; decide
            have xDELETE : (q.toList == [68, 69, 76, 69, 84, 69]) = false := by rw [toList_is, gVALUES]; decide
            have xREPLACE : (q.toList == [82, 69, 80, 76, 65, 67, 69]) = false := by rw [toList_is, gVALUES]; decide
            have xINTO : (q.toList == [73, 78, 84, 79]) = false := by rw [toList_is, gVALUES]; decide
            have xSHARE : (q.toList == [83, 72, 65, 82, 69]) = false := by rw [toList_is, gVALUES]; decide
            clear dmy gVALUES hx8
            go_wp2_with fail
            go_roundw
            case rel => exact ⟨k + 1, q, by omega, by go_num, rfl, by rw [hb2.out], hh2, kn⟩
            case measure => simp [intOf]; omega
          have sSELECT : (q.toList == [83, 69, 76, 69, 67, 84]) = false := by rw [toList_is]; exact decide_eq_false gSELECT
          have sWITH : (q.toList == [87, 73, 84, 72]) = false := by rw [toList_is]; exact decide_eq_false gWITH
          have sTABLE : (q.toList == [84, 65, 66, 76, 69]) = false := by rw [toList_is]; exact decide_eq_false gTABLE
          have sVALUES : (q.toList == [86, 65, 76, 85, 69, 83]) = false := by rw [toList_is]; exact decide_eq_false gVALUES
          clear hx8 gSELECT gWITH gTABLE gVALUES
          go_wp2_with fail
          go_roundw
          case rel => exact ⟨k + 1, q, by omega, by go_num, rfl, by rw [hb2.out], hh2, kn⟩
          case measure => simp [intOf]; omega
        · -- a later one
          have hht : h.data.toList = t.2 := by rw [hh.out, hh0]
          have hh2 : Hid (h.data.toList = hdF (preF (saysT ts) (k + 1))) := Lib.hid (by rw [hh1, hht])
          have h8 : h.data.toList ∈ eight := by rw [hht]; exact HT8.out
          have hne : h.data.toList ≠ [] := fun e => by rw [e] at h8; revert h8; decide
          have ehd : (h.toList == ([] : List UInt8)) = false := by rw [toList_is]; exact decide_eq_false hne
          rw [← hht] at hsix
          clear hnx hpush hpl hsa hih hsf hokk hh hs9 hmem hh0 hh1 hht hB hne h8 f5
          generalize ts[k].k = x at *
          generalize ts[k].t = q at *
          by_cases h1 : x = 1
          · subst h1
            clear hns6 h5
            by_cases gSELECT : h.data.toList = wSELECT
            · have h6 := hsix (by rw [gSELECT]; decide) rfl
              have sSELECT : (h.toList == [83, 69, 76, 69, 67, 84]) = true := by rw [toList_is, gSELECT]; decide
              have sWITH : (h.toList == [87, 73, 84, 72]) = false := by rw [toList_is, gSELECT]; decide
              have sTABLE : (h.toList == [84, 65, 66, 76, 69]) = false := by rw [toList_is, gSELECT]; decide
              have sVALUES : (h.toList == [86, 65, 76, 85, 69, 83]) = false := by rw [toList_is, gSELECT]; decide
              have xINSERT : (q.toList == [73, 78, 83, 69, 82, 84]) = false := by rw [toList_is]; exact decide_eq_false fun h => h6 (by rw [h]; decide)
              have xUPDATE : (q.toList == [85, 80, 68, 65, 84, 69]) = false := by rw [toList_is]; exact decide_eq_false fun h => h6 (by rw [h]; decide)
              have xDELETE : (q.toList == [68, 69, 76, 69, 84, 69]) = false := by rw [toList_is]; exact decide_eq_false fun h => h6 (by rw [h]; decide)
              have xREPLACE : (q.toList == [82, 69, 80, 76, 65, 67, 69]) = false := by rw [toList_is]; exact decide_eq_false fun h => h6 (by rw [h]; decide)
              have xINTO : (q.toList == [73, 78, 84, 79]) = false := by rw [toList_is]; exact decide_eq_false fun h => h6 (by rw [h]; decide)
              have xSHARE : (q.toList == [83, 72, 65, 82, 69]) = false := by rw [toList_is]; exact decide_eq_false fun h => h6 (by rw [h]; decide)
              clear gSELECT h6 hsix
              go_wp2_with fail
              go_roundw
              case rel => exact ⟨k + 1, h, by omega, by go_num, rfl, by rw [hb2.out], hh2, kn⟩
              case measure => simp [intOf]; omega
            by_cases gWITH : h.data.toList = wWITH
            · have h6 := hsix (by rw [gWITH]; decide) rfl
              have sSELECT : (h.toList == [83, 69, 76, 69, 67, 84]) = false := by rw [toList_is, gWITH]; decide
              have sWITH : (h.toList == [87, 73, 84, 72]) = true := by rw [toList_is, gWITH]; decide
              have sTABLE : (h.toList == [84, 65, 66, 76, 69]) = false := by rw [toList_is, gWITH]; decide
              have sVALUES : (h.toList == [86, 65, 76, 85, 69, 83]) = false := by rw [toList_is, gWITH]; decide
              have xINSERT : (q.toList == [73, 78, 83, 69, 82, 84]) = false := by rw [toList_is]; exact decide_eq_false fun h => h6 (by rw [h]; decide)
              have xUPDATE : (q.toList == [85, 80, 68, 65, 84, 69]) = false := by rw [toList_is]; exact decide_eq_false fun h => h6 (by rw [h]; decide)
              have xDELETE : (q.toList == [68, 69, 76, 69, 84, 69]) = false := by rw [toList_is]; exact decide_eq_false fun h => h6 (by rw [h]; decide)
              have xREPLACE : (q.toList == [82, 69, 80, 76, 65, 67, 69]) = false := by rw [toList_is]; exact decide_eq_false fun h => h6 (by rw [h]; decide)
              have xINTO : (q.toList == [73, 78, 84, 79]) = false := by rw [toList_is]; exact decide_eq_false fun h => h6 (by rw [h]; decide)
              have xSHARE : (q.toList == [83, 72, 65, 82, 69]) = false := by rw [toList_is]; exact decide_eq_false fun h => h6 (by rw [h]; decide)
              clear gWITH h6 hsix
              go_wp2_with fail
              go_roundw
              case rel => exact ⟨k + 1, h, by omega, by go_num, rfl, by rw [hb2.out], hh2, kn⟩
              case measure => simp [intOf]; omega
            by_cases gTABLE : h.data.toList = wTABLE
            · have h6 := hsix (by rw [gTABLE]; decide) rfl
              have sSELECT : (h.toList == [83, 69, 76, 69, 67, 84]) = false := by rw [toList_is, gTABLE]; decide
              have sWITH : (h.toList == [87, 73, 84, 72]) = false := by rw [toList_is, gTABLE]; decide
              have sTABLE : (h.toList == [84, 65, 66, 76, 69]) = true := by rw [toList_is, gTABLE]; decide
              have sVALUES : (h.toList == [86, 65, 76, 85, 69, 83]) = false := by rw [toList_is, gTABLE]; decide
              have xINSERT : (q.toList == [73, 78, 83, 69, 82, 84]) = false := by rw [toList_is]; exact decide_eq_false fun h => h6 (by rw [h]; decide)
              have xUPDATE : (q.toList == [85, 80, 68, 65, 84, 69]) = false := by rw [toList_is]; exact decide_eq_false fun h => h6 (by rw [h]; decide)
              have xDELETE : (q.toList == [68, 69, 76, 69, 84, 69]) = false := by rw [toList_is]; exact decide_eq_false fun h => h6 (by rw [h]; decide)
              have xREPLACE : (q.toList == [82, 69, 80, 76, 65, 67, 69]) = false := by rw [toList_is]; exact decide_eq_false fun h => h6 (by rw [h]; decide)
              have xINTO : (q.toList == [73, 78, 84, 79]) = false := by rw [toList_is]; exact decide_eq_false fun h => h6 (by rw [h]; decide)
              have xSHARE : (q.toList == [83, 72, 65, 82, 69]) = false := by rw [toList_is]; exact decide_eq_false fun h => h6 (by rw [h]; decide)
              clear gTABLE h6 hsix
              go_wp2_with fail
              go_roundw
              case rel => exact ⟨k + 1, h, by omega, by go_num, rfl, by rw [hb2.out], hh2, kn⟩
              case measure => simp [intOf]; omega
            by_cases gVALUES : h.data.toList = wVALUES
            · have h6 := hsix (by rw [gVALUES]; decide) rfl
              have sSELECT : (h.toList == [83, 69, 76, 69, 67, 84]) = false := by rw [toList_is, gVALUES]; decide
              have sWITH : (h.toList == [87, 73, 84, 72]) = false := by rw [toList_is, gVALUES]; decide
              have sTABLE : (h.toList == [84, 65, 66, 76, 69]) = false := by rw [toList_is, gVALUES]; decide
              have sVALUES : (h.toList == [86, 65, 76, 85, 69, 83]) = true := by rw [toList_is, gVALUES]; decide
              have xINSERT : (q.toList == [73, 78, 83, 69, 82, 84]) = false := by rw [toList_is]; exact decide_eq_false fun h => h6 (by rw [h]; decide)
              have xUPDATE : (q.toList == [85, 80, 68, 65, 84, 69]) = false := by rw [toList_is]; exact decide_eq_false fun h => h6 (by rw [h]; decide)
              have xDELETE : (q.toList == [68, 69, 76, 69, 84, 69]) = false := by rw [toList_is]; exact decide_eq_false fun h => h6 (by rw [h]; decide)
              have xREPLACE : (q.toList == [82, 69, 80, 76, 65, 67, 69]) = false := by rw [toList_is]; exact decide_eq_false fun h => h6 (by rw [h]; decide)
              have xINTO : (q.toList == [73, 78, 84, 79]) = false := by rw [toList_is]; exact decide_eq_false fun h => h6 (by rw [h]; decide)
              have xSHARE : (q.toList == [83, 72, 65, 82, 69]) = false := by rw [toList_is]; exact decide_eq_false fun h => h6 (by rw [h]; decide)
              clear gVALUES h6 hsix
              go_wp2_with fail
              go_roundw
              case rel => exact ⟨k + 1, h, by omega, by go_num, rfl, by rw [hb2.out], hh2, kn⟩
              case measure => simp [intOf]; omega
            have sSELECT : (h.toList == [83, 69, 76, 69, 67, 84]) = false := by rw [toList_is]; exact decide_eq_false gSELECT
            have sWITH : (h.toList == [87, 73, 84, 72]) = false := by rw [toList_is]; exact decide_eq_false gWITH
            have sTABLE : (h.toList == [84, 65, 66, 76, 69]) = false := by rw [toList_is]; exact decide_eq_false gTABLE
            have sVALUES : (h.toList == [86, 65, 76, 85, 69, 83]) = false := by rw [toList_is]; exact decide_eq_false gVALUES
            clear hsix gSELECT gWITH gTABLE gVALUES
            go_wp2_with fail
            go_roundw
            case rel => exact ⟨k + 1, h, by omega, by go_num, rfl, by rw [hb2.out], hh2, kn⟩
            case measure => simp [intOf]; omega
          by_cases h6 : x = 6
          · subst h6
            have e59 := hns6 rfl
            clear hns6 hsix
            go_wp2_with fail
            go_roundw
            case rel => exact ⟨k + 1, h, by omega, by go_num, rfl, by rw [hb2.out], hh2, kn⟩
            case measure => simp [intOf]; omega
          clear hns6 hsix
          have f5 : (x == 5) = false := by simpa using h5
          have f6 : (x == 6) = false := by simpa using h6
          have f1 : (x == 1) = false := by simpa using h1
          go_wp2_with fail
          go_roundw
          case rel => exact ⟨k + 1, h, by omega, by go_num, rfl, by rw [hb2.out], hh2, kn⟩
          case measure => simp [intOf]; omega
    · obtain rfl : n = k := by omega
      have hht : h.data.toList = t.2 := by
        rw [hh.out, preF_all _ (by rw [saysT_length, hlen.out]; exact Nat.le_refl _), HH.out, HM.out]
        rfl
      have h8 : h.data.toList ∈ eight := by rw [hht]; exact HT8.out
      clear hh hht
      generalize endB (preF (saysT ts) n).length m.length = B at *
      unfold eight at h8
      simp only [List.mem_cons, List.not_mem_nil, or_false] at h8
      rcases h8 with g | g | g | g | g | g | g | g
      · have hgg := g
        have sSELECT : (h.toList == [83, 69, 76, 69, 67, 84]) = true := by rw [toList_is, hgg]; decide
        have sWITH : (h.toList == [87, 73, 84, 72]) = false := by rw [toList_is, hgg]; decide
        have sTABLE : (h.toList == [84, 65, 66, 76, 69]) = false := by rw [toList_is, hgg]; decide
        have sVALUES : (h.toList == [86, 65, 76, 85, 69, 83]) = false := by rw [toList_is, hgg]; decide
        have sSHOW : (h.toList == [83, 72, 79, 87]) = false := by rw [toList_is, hgg]; decide
        have sDESCRIBE : (h.toList == [68, 69, 83, 67, 82, 73, 66, 69]) = false := by rw [toList_is, hgg]; decide
        have sDESC : (h.toList == [68, 69, 83, 67]) = false := by rw [toList_is, hgg]; decide
        have sEXPLAIN : (h.toList == [69, 88, 80, 76, 65, 73, 78]) = false := by rw [toList_is, hgg]; decide
        clear g hgg
        go_wp2_with fail
        go_ret
        exact ⟨rfl, kz⟩
      · have hgg := g
        have sSELECT : (h.toList == [83, 69, 76, 69, 67, 84]) = false := by rw [toList_is, hgg]; decide
        have sWITH : (h.toList == [87, 73, 84, 72]) = true := by rw [toList_is, hgg]; decide
        have sTABLE : (h.toList == [84, 65, 66, 76, 69]) = false := by rw [toList_is, hgg]; decide
        have sVALUES : (h.toList == [86, 65, 76, 85, 69, 83]) = false := by rw [toList_is, hgg]; decide
        have sSHOW : (h.toList == [83, 72, 79, 87]) = false := by rw [toList_is, hgg]; decide
        have sDESCRIBE : (h.toList == [68, 69, 83, 67, 82, 73, 66, 69]) = false := by rw [toList_is, hgg]; decide
        have sDESC : (h.toList == [68, 69, 83, 67]) = false := by rw [toList_is, hgg]; decide
        have sEXPLAIN : (h.toList == [69, 88, 80, 76, 65, 73, 78]) = false := by rw [toList_is, hgg]; decide
        clear g hgg
        go_wp2_with fail
        go_ret
        exact ⟨rfl, kz⟩
      · have hgg := g
        have sSELECT : (h.toList == [83, 69, 76, 69, 67, 84]) = false := by rw [toList_is, hgg]; decide
        have sWITH : (h.toList == [87, 73, 84, 72]) = false := by rw [toList_is, hgg]; decide
        have sTABLE : (h.toList == [84, 65, 66, 76, 69]) = true := by rw [toList_is, hgg]; decide
        have sVALUES : (h.toList == [86, 65, 76, 85, 69, 83]) = false := by rw [toList_is, hgg]; decide
        have sSHOW : (h.toList == [83, 72, 79, 87]) = false := by rw [toList_is, hgg]; decide
        have sDESCRIBE : (h.toList == [68, 69, 83, 67, 82, 73, 66, 69]) = false := by rw [toList_is, hgg]; decide
        have sDESC : (h.toList == [68, 69, 83, 67]) = false := by rw [toList_is, hgg]; decide
        have sEXPLAIN : (h.toList == [69, 88, 80, 76, 65, 73, 78]) = false := by rw [toList_is, hgg]; decide
        clear g hgg
        go_wp2_with fail
        go_ret
        exact ⟨rfl, kz⟩
      · have hgg := g
        have sSELECT : (h.toList == [83, 69, 76, 69, 67, 84]) = false := by rw [toList_is, hgg]; decide
        have sWITH : (h.toList == [87, 73, 84, 72]) = false := by rw [toList_is, hgg]; decide
        have sTABLE : (h.toList == [84, 65, 66, 76, 69]) = false := by rw [toList_is, hgg]; decide
        have sVALUES : (h.toList == [86, 65, 76, 85, 69, 83]) = true := by rw [toList_is, hgg]; decide
        have sSHOW : (h.toList == [83, 72, 79, 87]) = false := by rw [toList_is, hgg]; decide
        have sDESCRIBE : (h.toList == [68, 69, 83, 67, 82, 73, 66, 69]) = false := by rw [toList_is, hgg]; decide
        have sDESC : (h.toList == [68, 69, 83, 67]) = false := by rw [toList_is, hgg]; decide
        have sEXPLAIN : (h.toList == [69, 88, 80, 76, 65, 73, 78]) = false := by rw [toList_is, hgg]; decide
        clear g hgg
        go_wp2_with fail
        go_ret
        exact ⟨rfl, kz⟩
      · have hgg := g
        have sSELECT : (h.toList == [83, 69, 76, 69, 67, 84]) = false := by rw [toList_is, hgg]; decide
        have sWITH : (h.toList == [87, 73, 84, 72]) = false := by rw [toList_is, hgg]; decide
        have sTABLE : (h.toList == [84, 65, 66, 76, 69]) = false := by rw [toList_is, hgg]; decide
        have sVALUES : (h.toList == [86, 65, 76, 85, 69, 83]) = false := by rw [toList_is, hgg]; decide
        have sSHOW : (h.toList == [83, 72, 79, 87]) = true := by rw [toList_is, hgg]; decide
        have sDESCRIBE : (h.toList == [68, 69, 83, 67, 82, 73, 66, 69]) = false := by rw [toList_is, hgg]; decide
        have sDESC : (h.toList == [68, 69, 83, 67]) = false := by rw [toList_is, hgg]; decide
        have sEXPLAIN : (h.toList == [69, 88, 80, 76, 65, 73, 78]) = false := by rw [toList_is, hgg]; decide
        clear g hgg
        go_wp2_with fail
        go_ret
        exact ⟨rfl, kz⟩
      · have hgg := g
        have sSELECT : (h.toList == [83, 69, 76, 69, 67, 84]) = false := by rw [toList_is, hgg]; decide
        have sWITH : (h.toList == [87, 73, 84, 72]) = false := by rw [toList_is, hgg]; decide
        have sTABLE : (h.toList == [84, 65, 66, 76, 69]) = false := by rw [toList_is, hgg]; decide
        have sVALUES : (h.toList == [86, 65, 76, 85, 69, 83]) = false := by rw [toList_is, hgg]; decide
        have sSHOW : (h.toList == [83, 72, 79, 87]) = false := by rw [toList_is, hgg]; decide
        have sDESCRIBE : (h.toList == [68, 69, 83, 67, 82, 73, 66, 69]) = true := by rw [toList_is, hgg]; decide
        have sDESC : (h.toList == [68, 69, 83, 67]) = false := by rw [toList_is, hgg]; decide
        have sEXPLAIN : (h.toList == [69, 88, 80, 76, 65, 73, 78]) = false := by rw [toList_is, hgg]; decide
        clear g hgg
        go_wp2_with fail
        go_ret
        exact ⟨rfl, kz⟩
      · have hgg := g
        have sSELECT : (h.toList == [83, 69, 76, 69, 67, 84]) = false := by rw [toList_is, hgg]; decide
        have sWITH : (h.toList == [87, 73, 84, 72]) = false := by rw [toList_is, hgg]; decide
        have sTABLE : (h.toList == [84, 65, 66, 76, 69]) = false := by rw [toList_is, hgg]; decide
        have sVALUES : (h.toList == [86, 65, 76, 85, 69, 83]) = false := by rw [toList_is, hgg]; decide
        have sSHOW : (h.toList == [83, 72, 79, 87]) = false := by rw [toList_is, hgg]; decide
        have sDESCRIBE : (h.toList == [68, 69, 83, 67, 82, 73, 66, 69]) = false := by rw [toList_is, hgg]; decide
        have sDESC : (h.toList == [68, 69, 83, 67]) = true := by rw [toList_is, hgg]; decide
        have sEXPLAIN : (h.toList == [69, 88, 80, 76, 65, 73, 78]) = false := by rw [toList_is, hgg]; decide
        clear g hgg
        go_wp2_with fail
        go_ret
        exact ⟨rfl, kz⟩
      · have hgg := g
        have sSELECT : (h.toList == [83, 69, 76, 69, 67, 84]) = false := by rw [toList_is, hgg]; decide
        have sWITH : (h.toList == [87, 73, 84, 72]) = false := by rw [toList_is, hgg]; decide
        have sTABLE : (h.toList == [84, 65, 66, 76, 69]) = false := by rw [toList_is, hgg]; decide
        have sVALUES : (h.toList == [86, 65, 76, 85, 69, 83]) = false := by rw [toList_is, hgg]; decide
        have sSHOW : (h.toList == [83, 72, 79, 87]) = false := by rw [toList_is, hgg]; decide
        have sDESCRIBE : (h.toList == [68, 69, 83, 67, 82, 73, 66, 69]) = false := by rw [toList_is, hgg]; decide
        have sDESC : (h.toList == [68, 69, 83, 67]) = false := by rw [toList_is, hgg]; decide
        have sEXPLAIN : (h.toList == [69, 88, 80, 76, 65, 73, 78]) = true := by rw [toList_is, hgg]; decide
        clear g hgg
        go_wp2_with fail
        go_ret
        exact ⟨rfl, kz⟩
where
  hOKne {L m st : List Tok} {t : Tok} {r : List Tok} (hok : ∀ x ∈ L, okTok x 200) (hH : L.filter (fun t => !isHintF t) = m ++ st) (hm : m = t :: r) (h1 : t.1 = 1) : ∀ k, preF L k ≠ [] → hdF (preF L k) ≠ [] := fun k hp => by
    have hpre : preF L k = (m ++ st).take (preF L k).length := by
      have hsplit : m ++ st = preF L k ++ (L.drop k).filter (fun t => !isHintF t) := by
        rw [← hH]
        unfold preF
        rw [← List.filter_append, List.take_append_drop]
      rw [hsplit, List.take_append_of_le_length (Nat.le_refl _), List.take_of_length_le (Nat.le_refl _)]
    have hpos := List.length_pos_iff.2 hp
    have hh : hdF (preF L k) = t.2 := by
      rw [hpre]
      obtain ⟨j, hj⟩ : ∃ i, (preF L k).length = i + 1 := ⟨(preF L k).length - 1, by omega⟩
      rw [hj, hm]
      rfl
    rw [hh]
    have htm : t ∈ L.filter (fun t => !isHintF t) := by rw [hH, hm]; simp
    exact ((hok t (List.mem_filter.1 htm).1).2 h1).1
end

/- Tokens come back from what is written of them, whatever stands between: plain mathematics. -/
section
open Go.RowKit
set_option maxRecDepth 100000

theorem blank_parts (b : UInt8) (h : blankF b = true) : lodF b = false ∧ b ≠ 34 ∧ b ≠ 39 ∧ b ≠ 42 ∧ b ≠ 45 ∧ b ≠ 47 := by
  have := by_all (fun b => !blankF b || (!lodF b && (decide (b ≠ 34) && (decide (b ≠ 39) && (decide (b ≠ 42) && (decide (b ≠ 45) && decide (b ≠ 47))))))) (by decide +kernel) b
  rw [h] at this
  simp only [Bool.not_true, Bool.false_or, Bool.and_eq_true, Bool.not_eq_true', decide_eq_true_eq] at this
  exact this
theorem runF_append {p : UInt8 → Bool} : ∀ (t : List UInt8) (b : UInt8) (r : List UInt8), runF p t = t.length → p b = false → runF p (t ++ b :: r) = t.length
  | [], b, r, _, hb => runF_none hb
  | c :: t, b, r, h, hb => by
    have hc : p c = true := by
      cases hp : p c with
      | true => rfl
      | false => rw [runF_none hp] at h; simp at h
    rw [runF_some hc] at h
    rw [List.cons_append, runF_some hc, runF_append t b r (by simpa using h) hb]
    rfl
theorem beg_snd {a b c d : UInt8} {r : List UInt8} (h : d ≠ b) : begF [a, b] (c :: d :: r) = false := by
  cases hb : begF [a, b] (c :: d :: r) with
  | false => rfl
  | true =>
    unfold begF Lib.hasPrefix at hb
    rw [List.isPrefixOf, List.isPrefixOf] at hb
    simp at hb
    exact absurd hb.2.symm h
theorem beg3_snd {a b e c d : UInt8} {r : List UInt8} (h : d ≠ b) : begF [a, b, e] (c :: d :: r) = false := by
  cases hb : begF [a, b, e] (c :: d :: r) with
  | false => rfl
  | true =>
    unfold begF Lib.hasPrefix at hb
    rw [List.isPrefixOf, List.isPrefixOf] at hb
    simp at hb
    exact absurd hb.2.1.symm h

theorem quoted_back (q : UInt8) : ∀ (t r : List UInt8), r[0]? ≠ some q → quotedF q (twiceF q t ++ q :: r) = some (t, (twiceF q t).length + 1)
  | [], r, h => by
    rw [twiceF, List.nil_append, quotedF_ends h]
    rfl
  | b :: t, r, h => by
    have ih := quoted_back q t r h
    rw [twiceF]
    split
    · rename_i hb
      subst hb
      rw [List.cons_append, List.cons_append, quotedF_twice, ih]
      simp
    · rename_i hb
      rw [List.cons_append, quotedF_other hb, ih]
      simp

theorem index_behind : ∀ (t : List UInt8) (x : UInt8) (r : List UInt8), Lib.index t ends2 = -1 → x ≠ 47 → 0 ≤ Lib.index (x :: r) ends2 → Lib.index (t ++ x :: r) ends2 = (t.length : Int) + Lib.index (x :: r) ends2
  | [], x, r, _, _, _ => by simp
  | b :: t, x, r, h, hx, h0 => by
    have hb : ends2.isPrefixOf (b :: t) = false := by
      cases hp : ends2.isPrefixOf (b :: t) with
      | false => rfl
      | true => rw [Lib.index, hp] at h; simp at h
    have ht : Lib.index t ends2 = -1 := by
      rw [Lib.index, hb] at h
      simp only [Bool.false_eq_true, if_false] at h
      split at h
      · rename_i h1; simpa using h1
      · have := Lib.index_ge t ends2
        omega
    have hb2 : ends2.isPrefixOf (b :: (t ++ x :: r)) = false := by
      cases hp : ends2.isPrefixOf (b :: (t ++ x :: r)) with
      | false => rfl
      | true =>
        exfalso
        unfold ends2 at hp hb
        cases t with
        | nil =>
          rw [List.nil_append, List.isPrefixOf, List.isPrefixOf] at hp
          simp at hp
          exact hx hp.2.symm
        | cons d t =>
          rw [List.cons_append, List.isPrefixOf, List.isPrefixOf] at hp
          rw [List.isPrefixOf, List.isPrefixOf] at hb
          simp at hp hb
          exact hb hp.1 hp.2
    have ih := index_behind t x r ht hx h0
    rw [List.cons_append, Lib.index, hb2, ih]
    simp only [Bool.false_eq_true, if_false]
    rw [if_neg (by simp only [beq_iff_eq]; omega)]
    simp
    omega
theorem index_here (r : List UInt8) : Lib.index (42 :: 47 :: r) ends2 = 0 := by
  rw [Lib.index, if_pos (by simp [ends2, List.isPrefixOf])]

theorem trim_spaces (t : List UInt8) : trimF (32 :: t ++ [32]) = trimF t := by
  rw [trimF_R, trimF_R]
  have e1 : trimR (32 :: t ++ [32]) = rtrim blankF ((t ++ [32]).dropWhile blankF) := by
    unfold trimR rtrim
    rw [List.cons_append, dropWhile_front (by decide)]
  have e2 : trimR t = rtrim blankF (t.dropWhile blankF) := rfl
  rw [e1, e2, ← trim_sides, ← trim_sides, rtrim_front (by decide)]

theorem no_end (t : List UInt8) (h : Lib.contains t ends2 = false) : Lib.index t ends2 = -1 := by
  unfold Lib.contains at h
  have h2 : ¬ 0 ≤ Lib.index t ends2 := by simpa using h
  have := Lib.index_ge t ends2
  omega

theorem step_of_first (c : UInt8) (r : List UInt8) (h : skipF (c :: r) = 0) {k : Nat} {t : List UInt8} {n : Nat} (hf : firstF (c :: r) = some (k, t, n)) : stepF (c :: r) = .tok k t n := by
  rw [(step_first c r h).2.2, hf]

/-- what is written of a token, and a blank behind: that token comes first -/
theorem step_written (k : Int) (t : List UInt8) (hr : rightF k t = true) (b : UInt8) (hb : blankF b = true) (rest : List UInt8) :
    stepF (writtenF k t ++ b :: rest) = .tok k.toNat t (writtenF k t).length ∧ writtenF k t ≠ [] := by
  obtain ⟨bl, b34, b39, b42, b45, b47⟩ := blank_parts b hb
  rcases right_kind hr with rfl | rfl | rfl | rfl | rfl | rfl
  · have hw : writtenF 1 t = t := rfl
    rw [hw]
    have hF : rightWordF t = true := hr
    cases t with
    | nil => simp [rightWordF] at hF
    | cons c r =>
      simp only [rightWordF, Bool.and_eq_true, decide_eq_true_eq] at hF
      obtain ⟨h1, h2, h3⟩ := hF
      have hlod : lodF c = true := by simp [lodF, h1]
      have hrun := runF_append (p := lodF) (c :: r) b rest h2 bl
      rw [List.cons_append] at hrun ⊢
      refine ⟨step_of_first c _ (skip_lod c _ hlod) ?_, by simp⟩
      simp only [firstF, h1, if_true]
      rw [hrun]
      have e1 : (c :: (r ++ b :: rest)).take (c :: r).length = c :: r := by
        rw [← List.cons_append, List.take_left']
        rfl
      rw [e1, h3]
      rfl
  · have hw : writtenF 2 t = 34 :: (twiceF 34 t ++ [34]) := rfl
    rw [hw]
    have hs : skipF (34 :: (twiceF 34 t ++ [34] ++ b :: rest)) = 0 := skip_plain _ _ (by decide) (beg_not (by decide)) (by decide) (beg_not (by decide))
    refine ⟨?_, by simp⟩
    rw [List.cons_append]
    refine step_of_first _ _ hs ?_
    simp only [firstF]
    rw [if_neg (by decide), if_neg (by decide), if_pos (by decide), List.append_assoc]
    have := quoted_back 34 t (b :: rest) (by simpa using b34)
    rw [List.singleton_append, this]
    simp
  · have hw : writtenF 3 t = 39 :: (twiceF 39 t ++ [39]) := rfl
    rw [hw]
    have hs : skipF (39 :: (twiceF 39 t ++ [39] ++ b :: rest)) = 0 := skip_plain _ _ (by decide) (beg_not (by decide)) (by decide) (beg_not (by decide))
    refine ⟨?_, by simp⟩
    rw [List.cons_append]
    refine step_of_first _ _ hs ?_
    simp only [firstF]
    rw [if_neg (by decide), if_neg (by decide), if_neg (by decide), if_pos (by decide), List.append_assoc]
    have := quoted_back 39 t (b :: rest) (by simpa using b39)
    rw [List.singleton_append, this]
    simp
  · have hw : writtenF 4 t = t := rfl
    rw [hw]
    have hF : (decide (t ≠ []) && decide (runF digitF t = t.length)) = true := hr
    simp only [Bool.and_eq_true, decide_eq_true_eq] at hF
    cases t with
    | nil => exact absurd rfl hF.1
    | cons c r =>
      have h2 := hF.2
      have hd : digitF c = true := by
        cases hp : digitF c with
        | true => rfl
        | false => rw [runF_none hp] at h2; simp at h2
      have hlod : lodF c = true := by simp [lodF, hd]
      have hbd : digitF b = false := by
        cases hp : digitF b with
        | false => rfl
        | true => simp [lodF, hp] at bl
      have hrun := runF_append (p := digitF) (c :: r) b rest h2 hbd
      rw [List.cons_append] at hrun ⊢
      refine ⟨step_of_first c _ (skip_lod c _ hlod) ?_, by simp⟩
      simp only [firstF, digit_no_letter c hd, hd, Bool.false_eq_true, if_false, if_true]
      rw [hrun]
      have e1 : (c :: (r ++ b :: rest)).take (c :: r).length = c :: r := by
        rw [← List.cons_append, List.take_left']
        rfl
      rw [e1]
      rfl
  · have hF : (!Lib.contains t ends2 && decide (trimF t = t)) = true := hr
    simp only [Bool.and_eq_true, Bool.not_eq_true', decide_eq_true_eq] at hF
    have hw : writtenF 5 t ++ b :: rest = 47 :: (42 :: 43 :: 32 :: (t ++ 32 :: 42 :: 47 :: b :: rest)) := by simp [writtenF]
    have hwl : (writtenF 5 t).length = t.length + 7 := by simp [writtenF]
    have hidx : Lib.index (32 :: (t ++ 32 :: 42 :: 47 :: b :: rest)) ends2 = (t.length : Int) + 2 := by
      have h1 := index_behind t 32 (42 :: 47 :: b :: rest) (no_end t hF.1) (by decide) (by
        have := index_behind [32] 42 (47 :: b :: rest) (by decide) (by decide) (by rw [index_here]; omega)
        rw [List.singleton_append, index_here] at this
        rw [this]; simp)
      have h2 := index_behind [32] 42 (47 :: b :: rest) (by decide) (by decide) (by rw [index_here]; omega)
      rw [List.singleton_append, index_here] at h2
      rw [h2] at h1
      rw [Lib.index, if_neg (by simp [ends2, List.isPrefixOf]), h1, if_neg (by simp only [beq_iff_eq]; simp; omega)]
      simp
      omega
    have hbeg : begF [47, 42, 43] (47 :: (42 :: 43 :: 32 :: (t ++ 32 :: 42 :: 47 :: b :: rest))) = true := by simp [begF, Lib.hasPrefix, List.isPrefixOf]
    have hcl : closedF (47 :: (42 :: 43 :: 32 :: (t ++ 32 :: 42 :: 47 :: b :: rest))) 3 = t.length + 7 := by
      unfold closedF
      simp only [List.drop_succ_cons, List.drop_zero]
      rw [hidx, if_neg (by omega)]
      omega
    have hs : skipF (47 :: (42 :: 43 :: 32 :: (t ++ 32 :: 42 :: 47 :: b :: rest))) = 0 := by
      have hrm : isRemarkF (47 :: (42 :: 43 :: 32 :: (t ++ 32 :: 42 :: 47 :: b :: rest))) = false := by unfold isRemarkF; rw [hbeg]; simp
      have hln : isLineF (47 :: (42 :: 43 :: 32 :: (t ++ 32 :: 42 :: 47 :: b :: rest))) = false := by
        show (decide ((47 : UInt8).toNat = 35) || begF [45, 45] _) = false
        rw [beg_not (by decide)]
        decide
      rw [skipF, if_neg (by decide), hrm, hln]
      rfl
    refine ⟨?_, by intro e; rw [e] at hwl; simp at hwl⟩
    rw [hw, hwl]
    refine step_of_first _ _ hs ?_
    simp only [firstF]
    rw [if_neg (by decide), if_neg (by decide), if_neg (by decide), if_neg (by decide), if_pos hbeg, hcl, if_neg (by omega)]
    have e1 : ((47 :: (42 :: 43 :: 32 :: (t ++ 32 :: 42 :: 47 :: b :: rest))).take (t.length + 7 - 2)).drop 3 = 32 :: t ++ [32] := by
      rw [show t.length + 7 - 2 = (t.length + 1) + 1 + 1 + 1 + 1 from by omega]
      simp only [List.take_succ_cons, List.drop_succ_cons, List.drop_zero]
      have e2 : t ++ 32 :: 42 :: 47 :: b :: rest = (t ++ [32]) ++ 42 :: 47 :: b :: rest := by simp
      rw [e2, List.take_left' (by simp)]
      rfl
    rw [e1, trim_spaces, hF.2]
    rfl
  · have hw : writtenF 6 t = t := rfl
    rw [hw]
    cases t with
    | nil => exact absurd hr (by decide)
    | cons c r =>
      cases r with
      | cons d r =>
        have hF : false = true := hr
        cases hF
      | nil =>
        have hF : signF c = true := hr
        obtain ⟨g1, g2, g3, g4, g5, g6, g7, g8⟩ := (sign_parts c).1 hF
        have hs : skipF (c :: b :: rest) = 0 := skip_plain _ _ (blank_lt c g1) (beg_snd b42) g8 (beg_snd b45)
        refine ⟨step_of_first c _ hs ?_, by simp⟩
        simp only [firstF, g3, g4, Bool.false_eq_true, if_false]
        rw [if_neg (by omega), if_neg g7, if_neg (by rw [beg3_snd b42]; simp), if_pos hF]
        rfl

/-- a gap: a blank first, and nothing is told of it -/
structure Gap (g : List UInt8) : Prop where
  head : ∃ b g', g = b :: g' ∧ blankF b = true
  none_ : ∀ rest, lexF (g ++ rest) = lexF rest

theorem lex_back {g : List UInt8} (hg : Gap g) : ∀ ts : List (Int × List UInt8), (∀ t ∈ ts, rightF t.1 t.2 = true) → lexF (ts.flatMap fun t => writtenF t.1 t.2 ++ g) = some ts
  | [], _ => by rw [List.flatMap_nil, lexF_nil]
  | t :: ts, h => by
    have ih := lex_back hg ts (fun x hx => h x (List.mem_cons_of_mem _ hx))
    have ht := h t (by simp)
    obtain ⟨b, g', rfl, hb⟩ := hg.head
    obtain ⟨hs, hne⟩ := step_written t.1 t.2 ht b hb (g' ++ ts.flatMap fun t => writtenF t.1 t.2 ++ b :: g')
    have hk : ((t.1.toNat : Nat) : Int) = t.1 := by have := right_kind ht; omega
    have e1 : ((t :: ts).flatMap fun t => writtenF t.1 t.2 ++ b :: g') = writtenF t.1 t.2 ++ b :: (g' ++ ts.flatMap fun t => writtenF t.1 t.2 ++ b :: g') := by simp
    rw [e1, lexF_tok (by simp) hs (by intro e; exact hne (List.eq_nil_of_length_eq_zero e)), List.drop_left', ← List.cons_append, hg.none_, ih, hk]
    · rfl
    · rfl
end

/- What may stand between two tokens: blanks, remarks of each kind; a remark's line without line ends: plain mathematics. -/
section
open Go.RowKit
set_option maxRecDepth 100000

theorem lexF_blank (b : UInt8) (rest : List UInt8) (h : blankF b = true) : lexF (b :: rest) = lexF rest := by
  have hs : stepF (b :: rest) = .skip 1 := by rw [stepF, if_pos h]
  rw [lexF_skip (by simp) hs (by decide)]
  rfl
theorem indexByte_front : ∀ (t r : List UInt8), (10 : UInt8) ∉ t → Lib.indexByte (t ++ 10 :: r) 10 = (t.length : Int)
  | [], r, _ => by simp [Lib.indexByte]
  | b :: t, r, h => by
    have hb : b ≠ 10 := fun e => h (by rw [e]; simp)
    have ht : (10 : UInt8) ∉ t := fun e => h (List.mem_cons_of_mem _ e)
    have ih := indexByte_front t r ht
    rw [List.cons_append, Lib.indexByte, if_neg (by simpa using hb), ih, if_neg (by simp only [beq_iff_eq]; omega)]
    simp
theorem lexF_line (l rest : List UInt8) (t : List UInt8) (hl : l = t ++ 10 :: rest) (h : (10 : UInt8) ∉ t) (ht : t ≠ []) (hb : isLineF l = true) (hk : ∀ b, l[0]? = some b → blankF b = false) : lexF l = lexF rest := by
  have hne : l ≠ [] := by rw [hl]; simp
  have hs : stepF l = .skip t.length := by
    obtain ⟨c, r, hcr⟩ : ∃ c r, l = c :: r := by cases l with | nil => exact absurd rfl hne | cons c r => exact ⟨c, r, rfl⟩
    have hc := hk c (by rw [hcr]; rfl)
    rw [hcr] at hb ⊢
    rw [stepF, if_neg (by rw [hc]; simp), if_pos hb, ← hcr]
    unfold lineF
    rw [hl, indexByte_front t rest h, if_neg (by omega)]
    rfl
  rw [lexF_skip hne hs (by intro e; exact ht (List.eq_nil_of_length_eq_zero e)), hl, List.drop_left' rfl, lexF_blank 10 rest (by decide)]

theorem gap_blanks : Gap [9, 13, 10, 32] := ⟨⟨9, _, rfl, by decide⟩, fun rest => by
  rw [List.cons_append, List.cons_append, List.cons_append, List.cons_append, List.nil_append, lexF_blank _ _ (by decide), lexF_blank _ _ (by decide), lexF_blank _ _ (by decide), lexF_blank _ _ (by decide)]⟩
theorem gap_dashes (t : List UInt8) (h : (10 : UInt8) ∉ t) : Gap (32 :: 45 :: 45 :: (t ++ [10])) := ⟨⟨32, _, rfl, by decide⟩, fun rest => by
  rw [List.cons_append, lexF_blank _ _ (by decide)]
  refine lexF_line _ rest (45 :: 45 :: t) (by simp) (by simpa using h) (by simp) ?_ (by
    intro b hb
    simp at hb
    subst hb
    decide)
  rw [List.cons_append, List.cons_append]
  show (decide ((45 : UInt8).toNat = 35) || begF [45, 45] _) = true
  simp [begF, Lib.hasPrefix, List.isPrefixOf]⟩
theorem gap_hash (t : List UInt8) (h : (10 : UInt8) ∉ t) : Gap (32 :: 35 :: (t ++ [10])) := ⟨⟨32, _, rfl, by decide⟩, fun rest => by
  rw [List.cons_append, lexF_blank _ _ (by decide)]
  refine lexF_line _ rest (35 :: t) (by simp) (by simpa using h) (by simp) ?_ (by
    intro b hb
    simp at hb
    subst hb
    decide)
  rw [List.cons_append]
  show (decide ((35 : UInt8).toNat = 35) || begF [45, 45] (35 :: (t ++ [10] ++ rest))) = true
  simp⟩
theorem gap_remark (t : List UInt8) (h : Lib.contains t ends2 = false) (h43 : t[0]? ≠ some 43) : Gap (32 :: 47 :: 42 :: (t ++ [42, 47, 32])) := ⟨⟨32, _, rfl, by decide⟩, fun rest => by
  rw [List.cons_append, lexF_blank _ _ (by decide)]
  have e1 : 47 :: 42 :: (t ++ [42, 47, 32]) ++ rest = 47 :: 42 :: (t ++ 42 :: 47 :: 32 :: rest) := by simp
  rw [e1]
  have hidx : Lib.index (t ++ 42 :: 47 :: 32 :: rest) ends2 = (t.length : Int) := by
    rw [index_behind t 42 (47 :: 32 :: rest) (no_end t h) (by decide) (by rw [index_here]; omega), index_here]
    omega
  have hcl : closedF (47 :: 42 :: (t ++ 42 :: 47 :: 32 :: rest)) 2 = t.length + 4 := by
    unfold closedF
    simp only [List.drop_succ_cons, List.drop_zero]
    rw [hidx, if_neg (by omega)]
    omega
  have hln : isLineF (47 :: 42 :: (t ++ 42 :: 47 :: 32 :: rest)) = false := by
    show (decide ((47 : UInt8).toNat = 35) || begF [45, 45] _) = false
    rw [beg_not (by decide)]
    decide
  have hrm : isRemarkF (47 :: 42 :: (t ++ 42 :: 47 :: 32 :: rest)) = true := by
    have h3 : begF [47, 42, 43] (47 :: 42 :: (t ++ 42 :: 47 :: 32 :: rest)) = false := by
      cases t with
      | nil => simp [begF, Lib.hasPrefix, List.isPrefixOf]
      | cons c r =>
        have hc : c ≠ 43 := by simpa using h43
        have hc2 : ¬ 43 = c := fun e => hc e.symm
        simp [begF, Lib.hasPrefix, List.isPrefixOf, hc2]
    unfold isRemarkF
    rw [h3]
    simp [begF, Lib.hasPrefix, List.isPrefixOf]
  have hs : stepF (47 :: 42 :: (t ++ 42 :: 47 :: 32 :: rest)) = .skip (t.length + 4) := by
    rw [stepF, if_neg (by decide), if_neg (by rw [hln]; simp), if_pos hrm, hcl, if_neg (by omega)]
  rw [lexF_skip (by simp) hs (by omega)]
  have e2 : 47 :: 42 :: (t ++ 42 :: 47 :: 32 :: rest) = (47 :: 42 :: (t ++ [42, 47])) ++ 32 :: rest := by simp
  rw [e2, List.drop_left' (by simp), lexF_blank _ _ (by decide)]⟩

/-- what a line end becomes in a remark's line -/
def lnF (r : Int) : Int := if r = 10 then 32 else r
theorem byteZ_ne (x : Int) (h0 : 0 ≤ x) (h1 : x < 256) (h : x ≠ 10) : (10 : UInt8) ≠ x.toNat.toUInt8 := by
  intro e
  have := congrArg UInt8.toNat e
  simp at this
  omega
theorem encode_free (r : Int) (h0 : 0 ≤ r) (h : r ≠ 10) : (10 : UInt8) ∉ Lib.encodeRune r ∧ (Lib.encodeRune r).length ≤ 4 := by
  unfold Lib.encodeRune
  by_cases h1 : r ≤ 127
  · rw [Lib.encodeRuneZ_one h0 h1]
    simp only [List.map_cons, List.map_nil, List.mem_singleton, List.length_cons, List.length_nil]
    exact ⟨byteZ_ne r h0 (by omega) h, by omega⟩
  by_cases h2 : r ≤ 2047
  · rw [Lib.encodeRuneZ_two (by omega) h2]
    simp only [List.map_cons, List.map_nil, List.mem_cons, List.not_mem_nil, or_false, not_or, List.length_cons, List.length_nil]
    exact ⟨⟨byteZ_ne _ (by omega) (by omega) (by omega), byteZ_ne _ (by omega) (by omega) (by omega)⟩, by omega⟩
  by_cases h3 : (2048 ≤ r ∧ r < 55296) ∨ (57343 < r ∧ r ≤ 65535)
  · rw [Lib.encodeRuneZ_three h3]
    simp only [List.map_cons, List.map_nil, List.mem_cons, List.not_mem_nil, or_false, not_or, List.length_cons, List.length_nil]
    exact ⟨⟨byteZ_ne _ (by omega) (by omega) (by omega), byteZ_ne _ (by omega) (by omega) (by omega), byteZ_ne _ (by omega) (by omega) (by omega)⟩, by omega⟩
  by_cases h4 : 65536 ≤ r ∧ r ≤ 1114111
  · rw [Lib.encodeRuneZ_four h4.1 h4.2]
    simp only [List.map_cons, List.map_nil, List.mem_cons, List.not_mem_nil, or_false, not_or, List.length_cons, List.length_nil]
    exact ⟨⟨byteZ_ne _ (by omega) (by omega) (by omega), byteZ_ne _ (by omega) (by omega) (by omega), byteZ_ne _ (by omega) (by omega) (by omega), byteZ_ne _ (by omega) (by omega) (by omega)⟩, by omega⟩
  rw [Lib.encodeRuneZ_bad (by omega)]
  exact ⟨by decide, by decide⟩
theorem line_free : ∀ (n : Nat) (l : List UInt8), l.length ≤ n → (10 : UInt8) ∉ Lib.mapD lnF l ∧ (Lib.mapD lnF l).length ≤ 4 * l.length
  | 0, l, hn => by
    obtain rfl : l = [] := List.eq_nil_of_length_eq_zero (by omega)
    rw [Lib.mapD_nil]
    exact ⟨by simp, by simp⟩
  | n + 1, l, hn => by
    by_cases hne : l = []
    · subst hne
      rw [Lib.mapD_nil]
      exact ⟨by simp, by simp⟩
    have hw := Lib.decodeL_width l
    have hle := Lib.decodeL_le l hne
    have hl : 0 < l.length := List.length_pos_iff.2 hne
    obtain ⟨i1, i2⟩ := line_free n (l.drop (Lib.decodeL l).2) (by rw [List.length_drop]; omega)
    rw [List.length_drop] at i2
    have hf0 : 0 ≤ lnF (Lib.decodeL l).1 := by unfold lnF; split <;> omega
    have hf1 : lnF (Lib.decodeL l).1 ≠ 10 := by unfold lnF; split <;> omega
    obtain ⟨e1, e2⟩ := encode_free _ hf0 hf1
    rw [Lib.mapD_step lnF l hne, if_pos hf0]
    refine ⟨fun h => ?_, ?_⟩
    · rcases List.mem_append.1 h with h | h
      · exact e1 h
      · exact i1 h
    · rw [List.length_append]
      omega
end
end Go.Proofs.YtedfclknpebpaaaGreatDoor
