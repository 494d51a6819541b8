/-
  Contracts and plain functions that the law stands on, part 10 of 24.
-/
import Derived.Test.YtdhnpmagapbmhaaGreatDoorQD9
namespace Go.Proofs.YtdhnpmagapbmhaaGreatDoor
/- The document's layer 5: word, has, tokens: contracts. -/
section
open Go.RowKit
set_option maxRecDepth 100000
theorem rin_is (s t : ByteArray) (ws : List (List UInt8)) (b : Bool) (ht : t.data.toList = packF ws) (hws : ∀ a ∈ ws, (32 : UInt8) ∉ a ∧ a ≠ []) (hs : s.data.toList = [] ∨ (s.data.toList ≠ [] ∧ (32 : UInt8) ∉ s.data.toList)) (hz : s.size ≤ 1000000) (hz2 : t.size ≤ 1000000) (hb : decide (s.data.toList ∈ ws) = b) (w : World) :
 Calls Tryz.prog 135 #[.string s, .string t] w fun e w' => e = .returned (.bool b) ∧ w = w' := by
 have h := rin_ok s t w hz hz2; rw [ht, inF_pack hs ws hws, hb] at h; exact h
structure TL (ts : List Tk) : Prop where
 ok : ∀ t ∈ saysT ts, okTok t 1000000
theorem TL.size {ts : List Tk} (h : TL ts) {t : Tk} (ht : t ∈ ts) : t.t.size ≤ 1000000 := by
 have := (h.ok t.says (List.mem_map.2 ⟨t, ht, rfl⟩)).1; simpa [Tk.says, text_len] using this
theorem TL.drop {ts : List Tk} (h : TL ts) (k : Nat) : TL (ts.drop k) := ⟨fun t ht => h.ok t (by
 unfold saysT at ht ⊢; rw [List.map_drop] at ht
 exact List.mem_of_mem_drop ht)⟩
set_option maxHeartbeats 1000000 in
theorem rword5_ok (A : Option Addr) (n c : Nat) (ts : List Tk) (k : Nat) (w : World) (h : TR w A n ts) (hl : TL ts) (_ : n ≤ 1000000) (_ : k ≤ 1000000) :
 Calls Tryz.prog 134 #[.slice A n c, .int .i64 (k : Int)] w fun e w' => ∃ q : ByteArray, e = .returned (.string q) ∧ q.data.toList = wordAt (saysT ts) k ∧ q.size ≤ 1000000 ∧ w = w' := by
 by_cases hlt : k < n
 · have hkl : k < ts.length := by rw [h.len]; exact hlt
   obtain ⟨ad, rfl, _, hc⟩ := h.at_ hkl; obtain ⟨c0, c1⟩ := hc _ (Below.refl _ _)
   have hw : wordAt (saysT ts) k = wd ts[k].says := by
    unfold wordAt; rw [List.getElem?_eq_getElem (by rw [saysT_length]; exact hkl), says_at' hkl]; rfl
   have hz := hl.size (List.getElem_mem hkl); rw [hw]; clear hc hw; by_cases h1 : ts[k].k = 1
   · have hF : Hid (wd ts[k].says = ts[k].t.data.toList) := hid (by unfold wd; exact if_pos h1); have hge : ¬ ((n : Int) ≤ (k : Int)) := by omega
     have HZ := hid hz; clear hz; generalize wd ts[k].says = W at *; generalize ts[k].k = x at *; generalize ts[k].t = q at *; subst h1; go_enter Tryz.func134, Tryz.ntmps134; go_wp2_with fail; go_ret; exact ⟨q, rfl, hF.out.symm, HZ.out, rfl⟩
   · have hF : Hid (wd ts[k].says = []) := hid (by unfold wd; exact if_neg h1); have hge : ¬ ((n : Int) ≤ (k : Int)) := by omega
     clear hz; generalize wd ts[k].says = W at *; generalize ts[k].k = x at *; generalize ts[k].t = q at *; have hx : (x != 1) = true := by simpa using h1
     go_enter Tryz.func134, Tryz.ntmps134; go_wp2_with fail; go_ret; exact ⟨⟨#[]⟩, rfl, hF.out.symm, by decide, rfl⟩
 · have hF : Hid (wordAt (saysT ts) k = []) := hid (by
    unfold wordAt; rw [List.getElem?_eq_none (by rw [saysT_length, h.len]; omega)]
    rfl)
   have hge : ((n : Int) ≤ (k : Int)) := by omega
   generalize wordAt (saysT ts) k = W at *; go_enter Tryz.func134, Tryz.ntmps134; go_wp2_with fail; go_ret; exact ⟨⟨#[]⟩, rfl, hF.out.symm, by decide, rfl⟩
where
 says_at' {ts : List Tk} {k : Nat} (h : k < ts.length) : (saysT ts)[k]'(by rw [saysT_length]; exact h) = ts[k].says := by simp [saysT]
theorem wordAt_drop (l : List Tok) (k : Nat) (h : k < l.length) : wordAt l k = wd l[k] := by unfold wordAt; rw [List.getElem?_eq_getElem h]; rfl
set_option maxHeartbeats 1000000 in
theorem rhas_ok (A : Option Addr) (n c : Nat) (ts : List Tk) (t : ByteArray) (ws : List (List UInt8)) (w : World) (h : TR w A n ts) (hl : TL ts) (hn : n ≤ 1000000) (ht : t.data.toList = packF ws) (hws : ∀ a ∈ ws, (32 : UInt8) ∉ a ∧ a ≠ []) (hz : t.size ≤ 1000000) :
 Calls Tryz.prog 136 #[.slice A n c, .string t] w fun e w' => e = .returned (.bool (hasF (saysT ts) ws)) ∧ w = w' := by
 have hlen := hid h.len; have hnil : [] ∉ ws := fun hm => (hws _ hm).2 rfl
 have hst : ∀ k (hk : k < ts.length), hasF (saysT (ts.drop k)) ws = (decide (wordAt (saysT ts) k ∈ ws) || hasF (saysT (ts.drop (k + 1))) ws) := fun k hk => by
  rw [List.drop_eq_getElem_cons hk, wordAt_drop _ _ (by rw [saysT_length]; exact hk)]; have e : (saysT ts)[k]'(by rw [saysT_length]; exact hk) = ts[k].says := by simp [saysT]
  rw [e, mem_wd hnil]; rfl
 have hwo : ∀ k, wordAt (saysT ts) k = [] ∨ (wordAt (saysT ts) k ≠ [] ∧ (32 : UInt8) ∉ wordAt (saysT ts) k) := fun k => wordAt_ok hl.ok k; have HST := hid hst; have HWO := hid hwo; have HT := hid ht; have HWS := hid hws; clear hst hwo ht hws hnil; go_enter Tryz.func136, Tryz.ntmps136; go_wp2_with fail
 go_loopw [5] (fun v wr => ∃ k : Nat, v = .int .i64 k ∧ k ≤ n ∧ Hid (hasF (saysT ts) ws = hasF (saysT (ts.drop k)) ws) ∧ wr = w) (fun v _ => n - (intOf v).toNat)
 case atStart => exact ⟨0, rfl, Nat.zero_le _, hid rfl, rfl⟩
 case round =>
  obtain ⟨k, rfl, hk, hx, rfl⟩ := hrel; by_cases hlt : k < n
  · have hkl : k < ts.length := by rw [hlen.out]; exact hlt
    rw [HST.out k hkl] at hx; have hW := hid (rword5_ok A n c ts k wr h hl hn (by omega)); have HWk := hid (HWO.out k); generalize wordAt (saysT ts) k = W at *
    cases hb : decide (W ∈ ws) with
    | false =>
      rw [hb] at hx; have hx2 : Hid (hasF (saysT ts) ws = hasF (saysT (ts.drop (k + 1))) ws) := hid (by rw [hx.out]; rfl); clear hx; go_wp2_with fail; refine hW.out.mono ?_; rintro e w1 ⟨q, rfl, hq, hqz, rfl⟩; have hI := hid (rin_is q t ws false HT.out HWS.out (by rw [hq]; exact HWk.out) hqz hz (by rw [hq]; exact hb)); clear hb hq; go_wp2_with fail; refine (hI.out _).mono ?_; rintro e w2 ⟨rfl, rfl⟩; go_wp2_with fail; go_roundw
      case rel => exact ⟨k + 1, by go_num, by omega, hx2, trivial⟩
      case measure => simp [intOf]; omega
    | true =>
      rw [hb] at hx; have hF : Hid (hasF (saysT ts) ws = true) := hid (by rw [hx.out]; rfl); clear hx; go_wp2_with fail; refine hW.out.mono ?_; rintro e w1 ⟨q, rfl, hq, hqz, rfl⟩; have hI := hid (rin_is q t ws true HT.out HWS.out (by rw [hq]; exact HWk.out) hqz hz (by rw [hq]; exact hb)); clear hb hq; go_wp2_with fail; refine (hI.out _).mono ?_; rintro e w2 ⟨rfl, rfl⟩; go_wp2_with fail; go_ret; exact ⟨by rw [hF.out]; rfl, rfl⟩
  · obtain rfl : k = n := by omega
    have hF : Hid (hasF (saysT ts) ws = false) := hid (by rw [hx.out, List.drop_eq_nil_of_le (by rw [hlen.out]; exact Nat.le_refl _)]; rfl); clear hx; go_wp2_with fail; go_ret; exact ⟨by rw [hF.out]; rfl, rfl⟩
end

/- The document's layer 5: the class of tokens: contract. -/
section
open Go.RowKit
set_option maxRecDepth 100000
theorem famF_nil : famF [] = 0 := by decide
theorem classF_all {L : List Tok} (h : L.any stopF = false) : classF L = famB (famF (wordAt L 0)) (L.drop 1) (exF (L.drop 1) (classF (L.drop 2))) := by
 cases L with
 | nil =>
   rw [classF_nil, show wordAt [] 0 = [] from rfl, famF_nil]; rfl
 | cons t r =>
   by_cases h1 : t.1 = 1
   · rw [classF_word h1 h]; have : wordAt (t :: r) 0 = t.2 := by unfold wordAt wd; simp [h1]
     rw [this]; rfl
   · rw [classF_no (.inl h1)]; have : wordAt (t :: r) 0 = [] := by unfold wordAt wd; simp [h1]
     rw [this, famF_nil]; rfl
theorem head_word {L : List Tok} {ws : List (List UInt8)} (h : [] ∉ ws) : headF (L.drop 1) ws = decide (wordAt L 1 ∈ ws) := by
 cases L with
 | nil => simp [headF, wordAt, h]
 | cons t r => exact headF_word h
theorem has_rest {L : List Tok} {ws : List (List UInt8)} (h : [] ∉ ws) (h0 : wordAt L 0 ∉ ws) : hasF (L.drop 1) ws = hasF L ws := by
 cases L with
 | nil => rfl
 | cons t r =>
   have e : hasF (t :: r) ws = (wordF ws t || hasF r ws) := rfl
   have : wordF ws t = false := by
    rw [← mem_wd h]; exact decide_eq_false h0
   rw [e, this]; rfl
theorem bare_rest {L : List Tok} {ws : List (List UInt8)} (h : [] ∉ ws) (h0 : L ≠ []) : bareF (L.drop 1) ws = (decide (L.length = 1) || (decide (L.length = 2) && decide (wordAt L 1 ∈ ws))) := by
 unfold bareF; rw [head_word h, List.length_drop]; have := List.length_pos_iff.2 h0; congr 1
 · exact decide_eq_decide.2 (by omega)
 · congr 1; exact decide_eq_decide.2 (by omega)
theorem TR.rest2 {w : World} {ad : Addr} {n : Nat} {ts : List Tk} (h : TR w (some ad) n ts) (hn : 2 ≤ n) : TR w (some ⟨ad.block, ad.off + 4, none⟩) (n - 2) (ts.drop 2) := by
 have hl := h.len; refine ⟨by rw [List.length_drop]; omega, ?_⟩; rcases h.rd with h0 | ⟨ad', e, hb, hcc⟩
 · have := congrArg List.length h0; rw [tkC_length] at this; simp at this
   omega
 · injection e with e; subst e; refine .inr ⟨_, rfl, hb, fun j u hu => ?_⟩
   have e1 : (⟨ad.block, ad.off + 4, none⟩ : Addr).add j = ad.add (4 + j) := by
    rw [← add_add]; congr 1
   rw [e1]; refine hcc _ u ?_; have e2 : tkC ts = tkC (ts.take 2) ++ tkC (ts.drop 2) := by rw [← tkC_append, List.take_append_drop]
   have e3 : (tkC (ts.take 2)).length = 4 := by rw [tkC_length, List.length_take]; omega
   rw [e2, List.getElem?_append_right (by omega), e3]; simpa using hu
def RTo (ts : List Tk) : Prop := ∀ (A : Option Addr) (n c : Nat) (w : World), TR w A n ts → n ≤ c → n ≤ 1000000 → TL ts →
 Calls Tryz.prog 111 #[.slice A n c] w fun e w' => e = .returned (.int .i64 (classF (saysT ts))) ∧ Below w.heap.size w w'
structure Knows (q : ByteArray) (v : Int) : Prop where
 fam : famF q.data.toList = v
 plain : q.data.toList = [] ∨ (q.data.toList ≠ [] ∧ (32 : UInt8) ∉ q.data.toList)
 size : q.size ≤ 1000000
theorem Knows.isEXPLAIN {q : ByteArray} {v : Int} (h : Knows q v) : (q.toList == [69, 88, 80, 76, 65, 73, 78]) = decide (v = 2) := by rw [toList_is, ← h.fam]; exact famExplain _
theorem Knows.isWITH {q : ByteArray} {v : Int} (h : Knows q v) : (q.toList == [87, 73, 84, 72]) = decide (v = 5) := by rw [toList_is, ← h.fam]; exact famWith _
theorem Knows.isBEGIN {q : ByteArray} {v : Int} (h : Knows q v) : (q.toList == [66, 69, 71, 73, 78]) = decide (v = 6) := by rw [toList_is, ← h.fam]; exact famBegin _
theorem Knows.isSTART {q : ByteArray} {v : Int} (h : Knows q v) : (q.toList == [83, 84, 65, 82, 84]) = decide (v = 7) := by rw [toList_is, ← h.fam]; exact famStart _
theorem Knows.isCOMMIT {q : ByteArray} {v : Int} (h : Knows q v) : (q.toList == [67, 79, 77, 77, 73, 84]) = decide (v = 8) := by rw [toList_is, ← h.fam]; exact famCommit _
theorem Knows.isROLLBACK {q : ByteArray} {v : Int} (h : Knows q v) : (q.toList == [82, 79, 76, 76, 66, 65, 67, 75]) = decide (v = 9) := by rw [toList_is, ← h.fam]; exact famRollback _
theorem Knows.isSET {q : ByteArray} {v : Int} (h : Knows q v) : (q.toList == [83, 69, 84]) = decide (v = 10) := by rw [toList_is, ← h.fam]; exact famSet _
theorem Knows.inShow {q : ByteArray} {v : Int} (h : Knows q v) (t : ByteArray) (ht : t.data.toList = packF wsShow) (hz : t.size ≤ 1000000) (w : World) : Calls Tryz.prog 135 #[.string q, .string t] w fun e w' => e = .returned (.bool (decide (v = 1))) ∧ w = w' :=
 rin_is q t wsShow _ ht (by decide) h.plain h.size hz (by rw [famShow, h.fam]) w
theorem Knows.inWrite {q : ByteArray} {v : Int} (h : Knows q v) (t : ByteArray) (ht : t.data.toList = packF wsWrite) (hz : t.size ≤ 1000000) (w : World) : Calls Tryz.prog 135 #[.string q, .string t] w fun e w' => e = .returned (.bool (decide (v = 3))) ∧ w = w' :=
 rin_is q t wsWrite _ ht (by decide) h.plain h.size hz (by rw [famWrite, h.fam]) w
theorem Knows.inSel {q : ByteArray} {v : Int} (h : Knows q v) (t : ByteArray) (ht : t.data.toList = packF wsSel) (hz : t.size ≤ 1000000) (w : World) : Calls Tryz.prog 135 #[.string q, .string t] w fun e w' => e = .returned (.bool (decide (v = 4 ∨ v = 5))) ∧ w = w' :=
 rin_is q t wsSel _ ht (by decide) h.plain h.size hz (by rw [famSel, h.fam]) w
end

/- The document's layer 5: the class of tokens: contract. -/
section
open Go.RowKit
set_option maxRecDepth 100000
theorem TR.rest2' {w : World} {A : Option Addr} {n : Nat} {ts : List Tk} (h : TR w A n ts) (hn : 2 ≤ n) : ∃ ad, A = some ad ∧ TR w (some ⟨ad.block, ad.off + 4, none⟩) (n - 2) (ts.drop 2) := by
 obtain ⟨ad, rfl, _⟩ := h.at_ (j := 0) (by have := h.len; omega); exact ⟨ad, rfl, h.rest2 hn⟩
set_option maxHeartbeats 16000000 in
theorem rtokens_step (ts : List Tk) (ih : ∀ us : List Tk, us.length + 2 ≤ ts.length → RTo us) : RTo ts := by
 intro A n c w h hcap hn hl; have hlen := hid h.len; have hno : (saysT ts).any stopF = false → classF (saysT ts) = famB (famF (wordAt (saysT ts) 0)) ((saysT ts).drop 1) (exF ((saysT ts).drop 1) (classF ((saysT ts).drop 2))) := classF_all
 have hst : (saysT ts).any stopF = true → classF (saysT ts) = 7 := fun hs => by
  cases ts with
  | nil => cases hs
  | cons t r => exact classF_no (.inr hs)
 generalize classF (saysT ts) = R at *; have HNO := hid hno; have HST := hid hst; have hW := hid (rword5_ok A n c ts 0 w h hl hn (by omega)); have hW1 := hid fun u hu => rword5_ok A n c ts 1 u hu hl hn (by omega); have hWO := hid fun k => wordAt_ok hl.ok k; clear hno hst; go_enter Tryz.func111, Tryz.ntmps111; go_wp2_with fail; refine hW.out.mono ?_; rintro e w1 ⟨q0, rfl, hq0, hz0, rfl⟩; have HQ0 := hid hq0; clear hW hq0; go_wp2_with fail
 go_loopw [4] (fun i wr => ∃ k : Nat, k ≤ n ∧ i = .int .i64 k ∧ Hid (∀ x ∈ (saysT ts).take k, stopF x = false) ∧ Below w.heap.size w wr) (fun i _ => n - (intOf i).toNat)
 case atStart => exact ⟨0, Nat.zero_le _, rfl, hid (by simp), Below.refl _ _⟩
 case round =>
  obtain ⟨k, hk, rfl, hns, kw⟩ := hrel; by_cases hlt : k < n
  · have hkl : k < ts.length := by rw [hlen.out]; exact hlt
    obtain ⟨ad, rfl, _, hcc⟩ := h.at_ hkl; obtain ⟨c0, c1⟩ := hcc _ kw; have hS := hid (rsign5_ok ts[k] wr); have hks : k < (saysT ts).length := by rw [saysT_length]; exact hkl
    have hsa : (saysT ts)[k] = ts[k].says := by simp [saysT]
    clear hcc hW1
    cases hs : stopF ts[k].says with
    | false =>
      have hns2 : Hid (∀ x ∈ (saysT ts).take (k + 1), stopF x = false) := hid (by
       rw [List.take_succ_eq_append_getElem hks]; intro x hx; rcases List.mem_append.1 hx with h1 | h1
       · exact hns.out x h1
       · rw [List.mem_singleton.1 h1, hsa]; exact hs)
      rw [hs] at hS; clear hs hsa hns; generalize ts[k].k = x at *; generalize ts[k].t = s at *; go_wp2_with fail; refine hS.out.mono ?_; rintro e w2 ⟨rfl, k2⟩; go_wp2_with fail; go_roundw
      case rel => exact ⟨k + 1, by omega, by go_num, hns2, kp_trans kw k2⟩
      case measure => simp [intOf]; omega
    | true =>
      have hF : R = 7 := HST.out (List.any_eq_true.2 ⟨_, List.getElem_mem hks, by rw [hsa]; exact hs⟩); have HF := hid hF; rw [hs] at hS; clear hs hsa hns hF; generalize ts[k].k = x at *; generalize ts[k].t = s at *; go_wp2_with fail; refine hS.out.mono ?_; rintro e w2 ⟨rfl, k2⟩; go_wp2_with fail; go_ret; exact ⟨by rw [HF.out]; rfl, kp_trans kw k2⟩
  · obtain rfl : n = k := by omega
    have hany : (saysT ts).any stopF = false := by
     rw [List.any_eq_false]; intro x hx; have h1 := hns.out x (by rw [List.take_of_length_le (by rw [saysT_length, hlen.out]; exact Nat.le_refl _)]; exact hx); rw [h1]; simp
    have hRR := HNO.out hany; obtain ⟨v, hv⟩ : ∃ v, famF (wordAt (saysT ts) 0) = v := ⟨_, rfl⟩; rw [hv] at hRR; have HR := hid hRR; have hw0 := hid hv; have K : Knows q0 v := ⟨by rw [HQ0.out]; exact hv, by rw [HQ0.out]; exact hWO.out 0, hz0⟩; have HW1 := hW1.out wr (h.next kw); clear hany hRR hv hns HNO HST; go_wp2_with fail; refine HW1.mono ?_; rintro e wx ⟨q1, rfl, hq1, hz1, rfl⟩; have hp1 : q1.data.toList = [] ∨ (q1.data.toList ≠ [] ∧ (32 : UInt8) ∉ q1.data.toList) := by rw [hq1]; exact hWO.out 1
    replace h := h.next kw
    clear HW1 hW1 HQ0 hz0; by_cases h1 : v = 1
    · subst h1; have HG : Hid (R = 1) := hid (HR.out); have eEXPLAIN : (q0.toList == [69, 88, 80, 76, 65, 73, 78]) = false := K.isEXPLAIN.trans (by decide); have eWITH : (q0.toList == [87, 73, 84, 72]) = false := K.isWITH.trans (by decide); have eBEGIN : (q0.toList == [66, 69, 71, 73, 78]) = false := K.isBEGIN.trans (by decide); have eSTART : (q0.toList == [83, 84, 65, 82, 84]) = false := K.isSTART.trans (by decide); have eCOMMIT : (q0.toList == [67, 79, 77, 77, 73, 84]) = false := K.isCOMMIT.trans (by decide); have eROLLBACK : (q0.toList == [82, 79, 76, 76, 66, 65, 67, 75]) = false := K.isROLLBACK.trans (by decide); have eSET : (q0.toList == [83, 69, 84]) = false := K.isSET.trans (by decide); go_wp2_with fail; refine (K.inShow _ (by rfl) (by decide) _).mono ?_; rintro e _ ⟨rfl, rfl⟩; go_wp2_with fail; go_ret; exact ⟨by rw [HG.out]; rfl, kw⟩
    by_cases h2 : v = 2
    · subst h2; have hxx : decide (q1.data.toList ∈ [wANALYZE, wANALYSE]) = headF ((saysT ts).drop 1) [wANALYZE, wANALYSE] := by rw [head_word (by decide), hq1]
      have HG : Hid (R = exF ((saysT ts).drop 1) (classF ((saysT ts).drop 2))) := hid HR.out
      cases hx : headF ((saysT ts).drop 1) [wANALYZE, wANALYSE] with
      | false =>
        rw [hx] at hxx; have HG2 : Hid (R = 1) := hid (by rw [HG.out]; unfold exF; rw [hx]; rfl); have hI := hid fun t ht hz => rin_is q1 t [wANALYZE, wANALYSE] false ht (by decide) hp1 hz1 hz hxx; clear hxx hx; have eEXPLAIN : (q0.toList == [69, 88, 80, 76, 65, 73, 78]) = true := K.isEXPLAIN.trans (by decide); have eWITH : (q0.toList == [87, 73, 84, 72]) = false := K.isWITH.trans (by decide); have eBEGIN : (q0.toList == [66, 69, 71, 73, 78]) = false := K.isBEGIN.trans (by decide); have eSTART : (q0.toList == [83, 84, 65, 82, 84]) = false := K.isSTART.trans (by decide); have eCOMMIT : (q0.toList == [67, 79, 77, 77, 73, 84]) = false := K.isCOMMIT.trans (by decide); have eROLLBACK : (q0.toList == [82, 79, 76, 76, 66, 65, 67, 75]) = false := K.isROLLBACK.trans (by decide); have eSET : (q0.toList == [83, 69, 84]) = false := K.isSET.trans (by decide); go_wp2_with fail; refine (K.inShow _ (by rfl) (by decide) _).mono ?_; rintro e _ ⟨rfl, rfl⟩; go_wp2_with fail; refine (hI.out _ (by rfl) (by decide) _).mono ?_; rintro e _ ⟨rfl, rfl⟩; go_wp2_with fail; go_ret; exact ⟨by rw [HG2.out]; rfl, kw⟩
      | true =>
        rw [hx] at hxx
        have hn2 : 2 ≤ n := by
         have := hlen.out; rcases ts with _ | ⟨t0, _ | ⟨t1, ts⟩⟩
         · cases hx
         · cases hx
         · simp at this; omega
        have hrec := ih (ts.drop 2) (by rw [List.length_drop]; have := hlen.out; omega); have hd2 : (saysT ts).drop 2 = saysT (ts.drop 2) := by simp [saysT]
        have HG2 : Hid (R = if classF (saysT (ts.drop 2)) = 2 then 2 else if classF (saysT (ts.drop 2)) = 7 then 7 else 1) := hid (by rw [HG.out, hd2]; unfold exF; rw [hx]; rfl); unfold RTo at hrec; generalize classF (saysT (ts.drop 2)) = x at *; have hI := hid fun t ht hz => rin_is q1 t [wANALYZE, wANALYSE] true ht (by decide) hp1 hz1 hz hxx; have hr2 := h.rest2' hn2; obtain ⟨ad, rfl, hr3⟩ := hr2; have HREC := hid hrec; have HL2 := hid (hl.drop 2); clear hxx hx hrec hd2; by_cases hc2 : c = 2
        · subst hc2; obtain rfl : n = 2 := by omega
          have HR3 : Hid (TR wr (some ad) 0 (ts.drop 2)) := hid (by have h0 : ts.drop 2 = [] := List.drop_eq_nil_of_le (by rw [hlen.out]; exact Nat.le_refl _); rw [h0]; exact ⟨rfl, .inl rfl⟩); have eEXPLAIN : (q0.toList == [69, 88, 80, 76, 65, 73, 78]) = true := K.isEXPLAIN.trans (by decide); have eWITH : (q0.toList == [87, 73, 84, 72]) = false := K.isWITH.trans (by decide); have eBEGIN : (q0.toList == [66, 69, 71, 73, 78]) = false := K.isBEGIN.trans (by decide); have eSTART : (q0.toList == [83, 84, 65, 82, 84]) = false := K.isSTART.trans (by decide); have eCOMMIT : (q0.toList == [67, 79, 77, 77, 73, 84]) = false := K.isCOMMIT.trans (by decide); have eROLLBACK : (q0.toList == [82, 79, 76, 76, 66, 65, 67, 75]) = false := K.isROLLBACK.trans (by decide); have eSET : (q0.toList == [83, 69, 84]) = false := K.isSET.trans (by decide); go_wp2_with fail; refine (K.inShow _ (by rfl) (by decide) _).mono ?_; rintro e _ ⟨rfl, rfl⟩; go_wp2_with fail; refine (hI.out _ (by rfl) (by decide) _).mono ?_; rintro e _ ⟨rfl, rfl⟩; go_wp2_with fail; refine (HREC.out _ _ _ _ HR3.out (by omega) (by omega) HL2.out).mono ?_; rintro e w5 ⟨rfl, k5⟩; have kw5 := kp_trans kw k5; by_cases hx2 : x = 2
          · subst hx2; have HG3 : Hid (R = 2) := hid HG2.out; go_wp2_with fail; go_ret; exact ⟨by rw [HG3.out]; rfl, kw5⟩
          by_cases hx7 : x = 7
          · subst hx7; have HG3 : Hid (R = 7) := hid HG2.out; go_wp2_with fail; go_ret; exact ⟨by rw [HG3.out]; rfl, kw5⟩
          have HG3 : Hid (R = 1) := hid (by rw [HG2.out, if_neg hx2, if_neg hx7]); have f2 : (x == 2) = false := by simpa using hx2
          have f7 : (x == 7) = false := by simpa using hx7
          go_wp2_with fail; go_ret; exact ⟨by rw [HG3.out]; rfl, kw5⟩
        · have HR3 := hid hr3; have eEXPLAIN : (q0.toList == [69, 88, 80, 76, 65, 73, 78]) = true := K.isEXPLAIN.trans (by decide); have eWITH : (q0.toList == [87, 73, 84, 72]) = false := K.isWITH.trans (by decide); have eBEGIN : (q0.toList == [66, 69, 71, 73, 78]) = false := K.isBEGIN.trans (by decide); have eSTART : (q0.toList == [83, 84, 65, 82, 84]) = false := K.isSTART.trans (by decide); have eCOMMIT : (q0.toList == [67, 79, 77, 77, 73, 84]) = false := K.isCOMMIT.trans (by decide); have eROLLBACK : (q0.toList == [82, 79, 76, 76, 66, 65, 67, 75]) = false := K.isROLLBACK.trans (by decide); have eSET : (q0.toList == [83, 69, 84]) = false := K.isSET.trans (by decide); go_wp2_with fail; refine (K.inShow _ (by rfl) (by decide) _).mono ?_; rintro e _ ⟨rfl, rfl⟩; go_wp2_with fail; refine (hI.out _ (by rfl) (by decide) _).mono ?_; rintro e _ ⟨rfl, rfl⟩; go_wp2_with fail; refine (HREC.out _ _ _ _ HR3.out (by omega) (by omega) HL2.out).mono ?_; rintro e w5 ⟨rfl, k5⟩; have kw5 := kp_trans kw k5; by_cases hx2 : x = 2
          · subst hx2; have HG3 : Hid (R = 2) := hid HG2.out; go_wp2_with fail; go_ret; exact ⟨by rw [HG3.out]; rfl, kw5⟩
          by_cases hx7 : x = 7
          · subst hx7; have HG3 : Hid (R = 7) := hid HG2.out; go_wp2_with fail; go_ret; exact ⟨by rw [HG3.out]; rfl, kw5⟩
          have HG3 : Hid (R = 1) := hid (by rw [HG2.out, if_neg hx2, if_neg hx7]); have f2 : (x == 2) = false := by simpa using hx2
          have f7 : (x == 7) = false := by simpa using hx7
          go_wp2_with fail; go_ret; exact ⟨by rw [HG3.out]; rfl, kw5⟩
    by_cases h3 : v = 3
    · subst h3; have HG : Hid (R = 2) := hid (HR.out); have eEXPLAIN : (q0.toList == [69, 88, 80, 76, 65, 73, 78]) = false := K.isEXPLAIN.trans (by decide); have eWITH : (q0.toList == [87, 73, 84, 72]) = false := K.isWITH.trans (by decide); have eBEGIN : (q0.toList == [66, 69, 71, 73, 78]) = false := K.isBEGIN.trans (by decide); have eSTART : (q0.toList == [83, 84, 65, 82, 84]) = false := K.isSTART.trans (by decide); have eCOMMIT : (q0.toList == [67, 79, 77, 77, 73, 84]) = false := K.isCOMMIT.trans (by decide); have eROLLBACK : (q0.toList == [82, 79, 76, 76, 66, 65, 67, 75]) = false := K.isROLLBACK.trans (by decide); have eSET : (q0.toList == [83, 69, 84]) = false := K.isSET.trans (by decide); go_wp2_with fail; refine (K.inShow _ (by rfl) (by decide) _).mono ?_; rintro e _ ⟨rfl, rfl⟩; go_wp2_with fail; refine (K.inWrite _ (by rfl) (by decide) _).mono ?_; rintro e _ ⟨rfl, rfl⟩; go_wp2_with fail; go_ret; exact ⟨by rw [HG.out]; rfl, kw⟩
    by_cases h4 : v = 4
    · subst h4; have hno : wordAt (saysT ts) 0 ∉ six := six_sel (by rw [hw0.out]; decide); have hH := fun t ht hz => rhas_ok A n c ts t six wr h hl hn ht (by decide) hz; have HG : Hid (R = selF ((saysT ts).drop 1) true) := hid HR.out; have hrr := has_rest (L := saysT ts) (ws := six) (by decide) hno; unfold selF at HG; rw [hrr] at HG; clear hrr hno; generalize hasF (saysT ts) six = x at *
      cases x with
      | true =>
        have HG2 : Hid (R = 2) := hid HG.out; have eEXPLAIN : (q0.toList == [69, 88, 80, 76, 65, 73, 78]) = false := K.isEXPLAIN.trans (by decide); have eWITH : (q0.toList == [87, 73, 84, 72]) = false := K.isWITH.trans (by decide); have eBEGIN : (q0.toList == [66, 69, 71, 73, 78]) = false := K.isBEGIN.trans (by decide); have eSTART : (q0.toList == [83, 84, 65, 82, 84]) = false := K.isSTART.trans (by decide); have eCOMMIT : (q0.toList == [67, 79, 77, 77, 73, 84]) = false := K.isCOMMIT.trans (by decide); have eROLLBACK : (q0.toList == [82, 79, 76, 76, 66, 65, 67, 75]) = false := K.isROLLBACK.trans (by decide); have eSET : (q0.toList == [83, 69, 84]) = false := K.isSET.trans (by decide); go_wp2_with fail; refine (K.inShow _ (by rfl) (by decide) _).mono ?_; rintro e _ ⟨rfl, rfl⟩; go_wp2_with fail; refine (K.inWrite _ (by rfl) (by decide) _).mono ?_; rintro e _ ⟨rfl, rfl⟩; go_wp2_with fail; refine (K.inSel _ (by rfl) (by decide) _).mono ?_; rintro e _ ⟨rfl, rfl⟩; go_wp2_with fail; refine (hH _ (by rfl) (by decide)).mono ?_; rintro e _ ⟨rfl, rfl⟩; go_wp2_with fail; go_ret; exact ⟨by rw [HG2.out]; rfl, kw⟩
      | false =>
        have HG2 : Hid (R = 1) := hid HG.out; have eEXPLAIN : (q0.toList == [69, 88, 80, 76, 65, 73, 78]) = false := K.isEXPLAIN.trans (by decide); have eWITH : (q0.toList == [87, 73, 84, 72]) = false := K.isWITH.trans (by decide); have eBEGIN : (q0.toList == [66, 69, 71, 73, 78]) = false := K.isBEGIN.trans (by decide); have eSTART : (q0.toList == [83, 84, 65, 82, 84]) = false := K.isSTART.trans (by decide); have eCOMMIT : (q0.toList == [67, 79, 77, 77, 73, 84]) = false := K.isCOMMIT.trans (by decide); have eROLLBACK : (q0.toList == [82, 79, 76, 76, 66, 65, 67, 75]) = false := K.isROLLBACK.trans (by decide); have eSET : (q0.toList == [83, 69, 84]) = false := K.isSET.trans (by decide); go_wp2_with fail; refine (K.inShow _ (by rfl) (by decide) _).mono ?_; rintro e _ ⟨rfl, rfl⟩; go_wp2_with fail; refine (K.inWrite _ (by rfl) (by decide) _).mono ?_; rintro e _ ⟨rfl, rfl⟩; go_wp2_with fail; refine (K.inSel _ (by rfl) (by decide) _).mono ?_; rintro e _ ⟨rfl, rfl⟩; go_wp2_with fail; refine (hH _ (by rfl) (by decide)).mono ?_; rintro e _ ⟨rfl, rfl⟩; go_wp2_with fail; go_ret; exact ⟨by rw [HG2.out]; rfl, kw⟩
    by_cases h5 : v = 5
    · subst h5; have hno : wordAt (saysT ts) 0 ∉ six := six_sel (by rw [hw0.out]; decide); have hH := fun t ht hz => rhas_ok A n c ts t six wr h hl hn ht (by decide) hz; have HG : Hid (R = selF ((saysT ts).drop 1) (hasF ((saysT ts).drop 1) [wSELECT])) := hid HR.out
      have hno2 : wordAt (saysT ts) 0 ∉ [wSELECT] := fun hm => by
       have h1 := List.mem_singleton.1 hm; have h2 := hw0.out; rw [h1] at h2
       revert h2
       decide
      have hH2 := fun t ht hz => rhas_ok A n c ts t [wSELECT] wr h hl hn ht (by decide) hz; have hrr := has_rest (L := saysT ts) (ws := six) (by decide) hno; unfold selF at HG; rw [hrr] at HG; rw [has_rest (L := saysT ts) (ws := [wSELECT]) (by decide) hno2] at HG; clear hno2; generalize hasF (saysT ts) [wSELECT] = y at *; clear hrr hno; generalize hasF (saysT ts) six = x at *
      cases x with
      | true =>
        have HG2 : Hid (R = 2) := hid HG.out; have eEXPLAIN : (q0.toList == [69, 88, 80, 76, 65, 73, 78]) = false := K.isEXPLAIN.trans (by decide); have eWITH : (q0.toList == [87, 73, 84, 72]) = true := K.isWITH.trans (by decide); have eBEGIN : (q0.toList == [66, 69, 71, 73, 78]) = false := K.isBEGIN.trans (by decide); have eSTART : (q0.toList == [83, 84, 65, 82, 84]) = false := K.isSTART.trans (by decide); have eCOMMIT : (q0.toList == [67, 79, 77, 77, 73, 84]) = false := K.isCOMMIT.trans (by decide); have eROLLBACK : (q0.toList == [82, 79, 76, 76, 66, 65, 67, 75]) = false := K.isROLLBACK.trans (by decide); have eSET : (q0.toList == [83, 69, 84]) = false := K.isSET.trans (by decide); go_wp2_with fail; refine (K.inShow _ (by rfl) (by decide) _).mono ?_; rintro e _ ⟨rfl, rfl⟩; go_wp2_with fail; refine (K.inWrite _ (by rfl) (by decide) _).mono ?_; rintro e _ ⟨rfl, rfl⟩; go_wp2_with fail; refine (K.inSel _ (by rfl) (by decide) _).mono ?_; rintro e _ ⟨rfl, rfl⟩; go_wp2_with fail; refine (hH _ (by rfl) (by decide)).mono ?_; rintro e _ ⟨rfl, rfl⟩; go_wp2_with fail; go_ret; exact ⟨by rw [HG2.out]; rfl, kw⟩
      | false =>
        cases y with
        | true =>
          have HG2 : Hid (R = 1) := hid HG.out; have eEXPLAIN : (q0.toList == [69, 88, 80, 76, 65, 73, 78]) = false := K.isEXPLAIN.trans (by decide); have eWITH : (q0.toList == [87, 73, 84, 72]) = true := K.isWITH.trans (by decide); have eBEGIN : (q0.toList == [66, 69, 71, 73, 78]) = false := K.isBEGIN.trans (by decide); have eSTART : (q0.toList == [83, 84, 65, 82, 84]) = false := K.isSTART.trans (by decide); have eCOMMIT : (q0.toList == [67, 79, 77, 77, 73, 84]) = false := K.isCOMMIT.trans (by decide); have eROLLBACK : (q0.toList == [82, 79, 76, 76, 66, 65, 67, 75]) = false := K.isROLLBACK.trans (by decide); have eSET : (q0.toList == [83, 69, 84]) = false := K.isSET.trans (by decide); go_wp2_with fail; refine (K.inShow _ (by rfl) (by decide) _).mono ?_; rintro e _ ⟨rfl, rfl⟩; go_wp2_with fail; refine (K.inWrite _ (by rfl) (by decide) _).mono ?_; rintro e _ ⟨rfl, rfl⟩; go_wp2_with fail; refine (K.inSel _ (by rfl) (by decide) _).mono ?_; rintro e _ ⟨rfl, rfl⟩; go_wp2_with fail; refine (hH _ (by rfl) (by decide)).mono ?_; rintro e _ ⟨rfl, rfl⟩; go_wp2_with fail; refine (hH2 _ (by rfl) (by decide)).mono ?_; rintro e _ ⟨rfl, rfl⟩; go_wp2_with fail; go_ret; exact ⟨by rw [HG2.out]; rfl, kw⟩
        | false =>
          have HG2 : Hid (R = 7) := hid HG.out; have eEXPLAIN : (q0.toList == [69, 88, 80, 76, 65, 73, 78]) = false := K.isEXPLAIN.trans (by decide); have eWITH : (q0.toList == [87, 73, 84, 72]) = true := K.isWITH.trans (by decide); have eBEGIN : (q0.toList == [66, 69, 71, 73, 78]) = false := K.isBEGIN.trans (by decide); have eSTART : (q0.toList == [83, 84, 65, 82, 84]) = false := K.isSTART.trans (by decide); have eCOMMIT : (q0.toList == [67, 79, 77, 77, 73, 84]) = false := K.isCOMMIT.trans (by decide); have eROLLBACK : (q0.toList == [82, 79, 76, 76, 66, 65, 67, 75]) = false := K.isROLLBACK.trans (by decide); have eSET : (q0.toList == [83, 69, 84]) = false := K.isSET.trans (by decide); go_wp2_with fail; refine (K.inShow _ (by rfl) (by decide) _).mono ?_; rintro e _ ⟨rfl, rfl⟩; go_wp2_with fail; refine (K.inWrite _ (by rfl) (by decide) _).mono ?_; rintro e _ ⟨rfl, rfl⟩; go_wp2_with fail; refine (K.inSel _ (by rfl) (by decide) _).mono ?_; rintro e _ ⟨rfl, rfl⟩; go_wp2_with fail; refine (hH _ (by rfl) (by decide)).mono ?_; rintro e _ ⟨rfl, rfl⟩; go_wp2_with fail; refine (hH2 _ (by rfl) (by decide)).mono ?_; rintro e _ ⟨rfl, rfl⟩; go_wp2_with fail; go_ret; exact ⟨by rw [HG2.out]; rfl, kw⟩
    by_cases h6 : v = 6
    · subst h6
      have h0L : saysT ts ≠ [] := fun e => by
       have h2 := hw0.out; rw [e] at h2
       revert h2
       decide
      have HG : Hid (R = ifF 3 (decide (n = 1) || (decide (n = 2) && decide (wordAt (saysT ts) 1 ∈ [wWORK, wTRANSACTION])))) := hid (by rw [← hlen.out, ← saysT_length, ← bare_rest (by decide) h0L]; exact HR.out); have hn0 : n ≠ 0 := fun e => h0L (List.eq_nil_of_length_eq_zero (by rw [saysT_length, hlen.out, e])); clear h0L; by_cases h1n : n = 1
      · subst h1n; have HG2 : Hid (R = 3) := hid (by rw [HG.out]; rfl); have eEXPLAIN : (q0.toList == [69, 88, 80, 76, 65, 73, 78]) = false := K.isEXPLAIN.trans (by decide); have eWITH : (q0.toList == [87, 73, 84, 72]) = false := K.isWITH.trans (by decide); have eBEGIN : (q0.toList == [66, 69, 71, 73, 78]) = true := K.isBEGIN.trans (by decide); have eSTART : (q0.toList == [83, 84, 65, 82, 84]) = false := K.isSTART.trans (by decide); have eCOMMIT : (q0.toList == [67, 79, 77, 77, 73, 84]) = false := K.isCOMMIT.trans (by decide); have eROLLBACK : (q0.toList == [82, 79, 76, 76, 66, 65, 67, 75]) = false := K.isROLLBACK.trans (by decide); have eSET : (q0.toList == [83, 69, 84]) = false := K.isSET.trans (by decide); go_wp2_with fail; refine (K.inShow _ (by rfl) (by decide) _).mono ?_; rintro e _ ⟨rfl, rfl⟩; go_wp2_with fail; refine (K.inWrite _ (by rfl) (by decide) _).mono ?_; rintro e _ ⟨rfl, rfl⟩; go_wp2_with fail; refine (K.inSel _ (by rfl) (by decide) _).mono ?_; rintro e _ ⟨rfl, rfl⟩; go_wp2_with fail; go_ret; exact ⟨by rw [HG2.out]; rfl, kw⟩
      by_cases h2n : n = 2
      · subst h2n; have hxx : decide (q1.data.toList ∈ [wWORK, wTRANSACTION]) = decide (wordAt (saysT ts) 1 ∈ [wWORK, wTRANSACTION]) := by rw [hq1]
        generalize decide (wordAt (saysT ts) 1 ∈ [wWORK, wTRANSACTION]) = x at *; have hI := hid fun t ht hz => rin_is q1 t [wWORK, wTRANSACTION] x ht (by decide) hp1 hz1 hz hxx; clear hxx
        cases x with
        | true =>
          have HG2 : Hid (R = 3) := hid (by rw [HG.out]; rfl); have eEXPLAIN : (q0.toList == [69, 88, 80, 76, 65, 73, 78]) = false := K.isEXPLAIN.trans (by decide); have eWITH : (q0.toList == [87, 73, 84, 72]) = false := K.isWITH.trans (by decide); have eBEGIN : (q0.toList == [66, 69, 71, 73, 78]) = true := K.isBEGIN.trans (by decide); have eSTART : (q0.toList == [83, 84, 65, 82, 84]) = false := K.isSTART.trans (by decide); have eCOMMIT : (q0.toList == [67, 79, 77, 77, 73, 84]) = false := K.isCOMMIT.trans (by decide); have eROLLBACK : (q0.toList == [82, 79, 76, 76, 66, 65, 67, 75]) = false := K.isROLLBACK.trans (by decide); have eSET : (q0.toList == [83, 69, 84]) = false := K.isSET.trans (by decide); go_wp2_with fail; refine (K.inShow _ (by rfl) (by decide) _).mono ?_; rintro e _ ⟨rfl, rfl⟩; go_wp2_with fail; refine (K.inWrite _ (by rfl) (by decide) _).mono ?_; rintro e _ ⟨rfl, rfl⟩; go_wp2_with fail; refine (K.inSel _ (by rfl) (by decide) _).mono ?_; rintro e _ ⟨rfl, rfl⟩; go_wp2_with fail; refine (hI.out _ (by rfl) (by decide) _).mono ?_; rintro e _ ⟨rfl, rfl⟩; go_wp2_with fail; go_ret; exact ⟨by rw [HG2.out]; rfl, kw⟩
        | false =>
          have HG2 : Hid (R = 7) := hid (by rw [HG.out]; rfl); have eEXPLAIN : (q0.toList == [69, 88, 80, 76, 65, 73, 78]) = false := K.isEXPLAIN.trans (by decide); have eWITH : (q0.toList == [87, 73, 84, 72]) = false := K.isWITH.trans (by decide); have eBEGIN : (q0.toList == [66, 69, 71, 73, 78]) = true := K.isBEGIN.trans (by decide); have eSTART : (q0.toList == [83, 84, 65, 82, 84]) = false := K.isSTART.trans (by decide); have eCOMMIT : (q0.toList == [67, 79, 77, 77, 73, 84]) = false := K.isCOMMIT.trans (by decide); have eROLLBACK : (q0.toList == [82, 79, 76, 76, 66, 65, 67, 75]) = false := K.isROLLBACK.trans (by decide); have eSET : (q0.toList == [83, 69, 84]) = false := K.isSET.trans (by decide); go_wp2_with fail; refine (K.inShow _ (by rfl) (by decide) _).mono ?_; rintro e _ ⟨rfl, rfl⟩; go_wp2_with fail; refine (K.inWrite _ (by rfl) (by decide) _).mono ?_; rintro e _ ⟨rfl, rfl⟩; go_wp2_with fail; refine (K.inSel _ (by rfl) (by decide) _).mono ?_; rintro e _ ⟨rfl, rfl⟩; go_wp2_with fail; refine (hI.out _ (by rfl) (by decide) _).mono ?_; rintro e _ ⟨rfl, rfl⟩; go_wp2_with fail; go_ret; exact ⟨by rw [HG2.out]; rfl, kw⟩
      · have HG2 : Hid (R = 7) := hid (by rw [HG.out, decide_eq_false h1n, decide_eq_false h2n]; rfl); have f1 : ((n : Int) == 1) = false := by rw [beq_eq_false_iff_ne]; omega
        have f2 : ((n : Int) == 2) = false := by rw [beq_eq_false_iff_ne]; omega
        have eEXPLAIN : (q0.toList == [69, 88, 80, 76, 65, 73, 78]) = false := K.isEXPLAIN.trans (by decide); have eWITH : (q0.toList == [87, 73, 84, 72]) = false := K.isWITH.trans (by decide); have eBEGIN : (q0.toList == [66, 69, 71, 73, 78]) = true := K.isBEGIN.trans (by decide); have eSTART : (q0.toList == [83, 84, 65, 82, 84]) = false := K.isSTART.trans (by decide); have eCOMMIT : (q0.toList == [67, 79, 77, 77, 73, 84]) = false := K.isCOMMIT.trans (by decide); have eROLLBACK : (q0.toList == [82, 79, 76, 76, 66, 65, 67, 75]) = false := K.isROLLBACK.trans (by decide); have eSET : (q0.toList == [83, 69, 84]) = false := K.isSET.trans (by decide); go_wp2_with fail; refine (K.inShow _ (by rfl) (by decide) _).mono ?_; rintro e _ ⟨rfl, rfl⟩; go_wp2_with fail; refine (K.inWrite _ (by rfl) (by decide) _).mono ?_; rintro e _ ⟨rfl, rfl⟩; go_wp2_with fail; refine (K.inSel _ (by rfl) (by decide) _).mono ?_; rintro e _ ⟨rfl, rfl⟩; go_wp2_with fail; go_ret; exact ⟨by rw [HG2.out]; rfl, kw⟩
    by_cases h7 : v = 7
    · subst h7; have hxx : (q1.toList == [84, 82, 65, 78, 83, 65, 67, 84, 73, 79, 78]) = headF ((saysT ts).drop 1) [wTRANSACTION] := by rw [toList_is, head_word (by decide), hq1]; exact decide_eq_decide.2 List.mem_singleton.symm
      have HG : Hid (R = ifF 3 (headF ((saysT ts).drop 1) [wTRANSACTION])) := hid HR.out; generalize headF ((saysT ts).drop 1) [wTRANSACTION] = x at *
      cases x with
      | true =>
        have HG2 : Hid (R = 3) := hid HG.out; have eEXPLAIN : (q0.toList == [69, 88, 80, 76, 65, 73, 78]) = false := K.isEXPLAIN.trans (by decide); have eWITH : (q0.toList == [87, 73, 84, 72]) = false := K.isWITH.trans (by decide); have eBEGIN : (q0.toList == [66, 69, 71, 73, 78]) = false := K.isBEGIN.trans (by decide); have eSTART : (q0.toList == [83, 84, 65, 82, 84]) = true := K.isSTART.trans (by decide); have eCOMMIT : (q0.toList == [67, 79, 77, 77, 73, 84]) = false := K.isCOMMIT.trans (by decide); have eROLLBACK : (q0.toList == [82, 79, 76, 76, 66, 65, 67, 75]) = false := K.isROLLBACK.trans (by decide); have eSET : (q0.toList == [83, 69, 84]) = false := K.isSET.trans (by decide); go_wp2_with fail; refine (K.inShow _ (by rfl) (by decide) _).mono ?_; rintro e _ ⟨rfl, rfl⟩; go_wp2_with fail; refine (K.inWrite _ (by rfl) (by decide) _).mono ?_; rintro e _ ⟨rfl, rfl⟩; go_wp2_with fail; refine (K.inSel _ (by rfl) (by decide) _).mono ?_; rintro e _ ⟨rfl, rfl⟩; go_wp2_with fail; go_ret; exact ⟨by rw [HG2.out]; rfl, kw⟩
      | false =>
        have HG2 : Hid (R = 7) := hid HG.out; have eEXPLAIN : (q0.toList == [69, 88, 80, 76, 65, 73, 78]) = false := K.isEXPLAIN.trans (by decide); have eWITH : (q0.toList == [87, 73, 84, 72]) = false := K.isWITH.trans (by decide); have eBEGIN : (q0.toList == [66, 69, 71, 73, 78]) = false := K.isBEGIN.trans (by decide); have eSTART : (q0.toList == [83, 84, 65, 82, 84]) = true := K.isSTART.trans (by decide); have eCOMMIT : (q0.toList == [67, 79, 77, 77, 73, 84]) = false := K.isCOMMIT.trans (by decide); have eROLLBACK : (q0.toList == [82, 79, 76, 76, 66, 65, 67, 75]) = false := K.isROLLBACK.trans (by decide); have eSET : (q0.toList == [83, 69, 84]) = false := K.isSET.trans (by decide); go_wp2_with fail; refine (K.inShow _ (by rfl) (by decide) _).mono ?_; rintro e _ ⟨rfl, rfl⟩; go_wp2_with fail; refine (K.inWrite _ (by rfl) (by decide) _).mono ?_; rintro e _ ⟨rfl, rfl⟩; go_wp2_with fail; refine (K.inSel _ (by rfl) (by decide) _).mono ?_; rintro e _ ⟨rfl, rfl⟩; go_wp2_with fail; go_ret; exact ⟨by rw [HG2.out]; rfl, kw⟩
    by_cases h8 : v = 8
    · subst h8
      have h0L : saysT ts ≠ [] := fun e => by
       have h2 := hw0.out; rw [e] at h2
       revert h2
       decide
      have HG : Hid (R = ifF 4 (decide (n = 1) || (decide (n = 2) && decide (wordAt (saysT ts) 1 ∈ [wWORK])))) := hid (by rw [← hlen.out, ← saysT_length, ← bare_rest (by decide) h0L]; exact HR.out); have hn0 : n ≠ 0 := fun e => h0L (List.eq_nil_of_length_eq_zero (by rw [saysT_length, hlen.out, e])); clear h0L; by_cases h1n : n = 1
      · subst h1n; have HG2 : Hid (R = 4) := hid (by rw [HG.out]; rfl); have eEXPLAIN : (q0.toList == [69, 88, 80, 76, 65, 73, 78]) = false := K.isEXPLAIN.trans (by decide); have eWITH : (q0.toList == [87, 73, 84, 72]) = false := K.isWITH.trans (by decide); have eBEGIN : (q0.toList == [66, 69, 71, 73, 78]) = false := K.isBEGIN.trans (by decide); have eSTART : (q0.toList == [83, 84, 65, 82, 84]) = false := K.isSTART.trans (by decide); have eCOMMIT : (q0.toList == [67, 79, 77, 77, 73, 84]) = true := K.isCOMMIT.trans (by decide); have eROLLBACK : (q0.toList == [82, 79, 76, 76, 66, 65, 67, 75]) = false := K.isROLLBACK.trans (by decide); have eSET : (q0.toList == [83, 69, 84]) = false := K.isSET.trans (by decide); go_wp2_with fail; refine (K.inShow _ (by rfl) (by decide) _).mono ?_; rintro e _ ⟨rfl, rfl⟩; go_wp2_with fail; refine (K.inWrite _ (by rfl) (by decide) _).mono ?_; rintro e _ ⟨rfl, rfl⟩; go_wp2_with fail; refine (K.inSel _ (by rfl) (by decide) _).mono ?_; rintro e _ ⟨rfl, rfl⟩; go_wp2_with fail; go_ret; exact ⟨by rw [HG2.out]; rfl, kw⟩
      by_cases h2n : n = 2
      · subst h2n; have hxx : (q1.toList == [87, 79, 82, 75]) = decide (wordAt (saysT ts) 1 ∈ [wWORK]) := by rw [toList_is, hq1]; exact decide_eq_decide.2 List.mem_singleton.symm
        generalize decide (wordAt (saysT ts) 1 ∈ [wWORK]) = x at *; have hI : True := trivial
        cases x with
        | true =>
          have HG2 : Hid (R = 4) := hid (by rw [HG.out]; rfl); have eEXPLAIN : (q0.toList == [69, 88, 80, 76, 65, 73, 78]) = false := K.isEXPLAIN.trans (by decide); have eWITH : (q0.toList == [87, 73, 84, 72]) = false := K.isWITH.trans (by decide); have eBEGIN : (q0.toList == [66, 69, 71, 73, 78]) = false := K.isBEGIN.trans (by decide); have eSTART : (q0.toList == [83, 84, 65, 82, 84]) = false := K.isSTART.trans (by decide); have eCOMMIT : (q0.toList == [67, 79, 77, 77, 73, 84]) = true := K.isCOMMIT.trans (by decide); have eROLLBACK : (q0.toList == [82, 79, 76, 76, 66, 65, 67, 75]) = false := K.isROLLBACK.trans (by decide); have eSET : (q0.toList == [83, 69, 84]) = false := K.isSET.trans (by decide); go_wp2_with fail; refine (K.inShow _ (by rfl) (by decide) _).mono ?_; rintro e _ ⟨rfl, rfl⟩; go_wp2_with fail; refine (K.inWrite _ (by rfl) (by decide) _).mono ?_; rintro e _ ⟨rfl, rfl⟩; go_wp2_with fail; refine (K.inSel _ (by rfl) (by decide) _).mono ?_; rintro e _ ⟨rfl, rfl⟩; go_wp2_with fail; go_ret; exact ⟨by rw [HG2.out]; rfl, kw⟩
        | false =>
          have HG2 : Hid (R = 7) := hid (by rw [HG.out]; rfl); have eEXPLAIN : (q0.toList == [69, 88, 80, 76, 65, 73, 78]) = false := K.isEXPLAIN.trans (by decide); have eWITH : (q0.toList == [87, 73, 84, 72]) = false := K.isWITH.trans (by decide); have eBEGIN : (q0.toList == [66, 69, 71, 73, 78]) = false := K.isBEGIN.trans (by decide); have eSTART : (q0.toList == [83, 84, 65, 82, 84]) = false := K.isSTART.trans (by decide); have eCOMMIT : (q0.toList == [67, 79, 77, 77, 73, 84]) = true := K.isCOMMIT.trans (by decide); have eROLLBACK : (q0.toList == [82, 79, 76, 76, 66, 65, 67, 75]) = false := K.isROLLBACK.trans (by decide); have eSET : (q0.toList == [83, 69, 84]) = false := K.isSET.trans (by decide); go_wp2_with fail; refine (K.inShow _ (by rfl) (by decide) _).mono ?_; rintro e _ ⟨rfl, rfl⟩; go_wp2_with fail; refine (K.inWrite _ (by rfl) (by decide) _).mono ?_; rintro e _ ⟨rfl, rfl⟩; go_wp2_with fail; refine (K.inSel _ (by rfl) (by decide) _).mono ?_; rintro e _ ⟨rfl, rfl⟩; go_wp2_with fail; go_ret; exact ⟨by rw [HG2.out]; rfl, kw⟩
      · have HG2 : Hid (R = 7) := hid (by rw [HG.out, decide_eq_false h1n, decide_eq_false h2n]; rfl); have f1 : ((n : Int) == 1) = false := by rw [beq_eq_false_iff_ne]; omega
        have f2 : ((n : Int) == 2) = false := by rw [beq_eq_false_iff_ne]; omega
        have eEXPLAIN : (q0.toList == [69, 88, 80, 76, 65, 73, 78]) = false := K.isEXPLAIN.trans (by decide); have eWITH : (q0.toList == [87, 73, 84, 72]) = false := K.isWITH.trans (by decide); have eBEGIN : (q0.toList == [66, 69, 71, 73, 78]) = false := K.isBEGIN.trans (by decide); have eSTART : (q0.toList == [83, 84, 65, 82, 84]) = false := K.isSTART.trans (by decide); have eCOMMIT : (q0.toList == [67, 79, 77, 77, 73, 84]) = true := K.isCOMMIT.trans (by decide); have eROLLBACK : (q0.toList == [82, 79, 76, 76, 66, 65, 67, 75]) = false := K.isROLLBACK.trans (by decide); have eSET : (q0.toList == [83, 69, 84]) = false := K.isSET.trans (by decide); go_wp2_with fail; refine (K.inShow _ (by rfl) (by decide) _).mono ?_; rintro e _ ⟨rfl, rfl⟩; go_wp2_with fail; refine (K.inWrite _ (by rfl) (by decide) _).mono ?_; rintro e _ ⟨rfl, rfl⟩; go_wp2_with fail; refine (K.inSel _ (by rfl) (by decide) _).mono ?_; rintro e _ ⟨rfl, rfl⟩; go_wp2_with fail; go_ret; exact ⟨by rw [HG2.out]; rfl, kw⟩
    by_cases h9 : v = 9
    · subst h9
      have h0L : saysT ts ≠ [] := fun e => by
       have h2 := hw0.out; rw [e] at h2
       revert h2
       decide
      have HG : Hid (R = ifF 5 (decide (n = 1) || (decide (n = 2) && decide (wordAt (saysT ts) 1 ∈ [wWORK])))) := hid (by rw [← hlen.out, ← saysT_length, ← bare_rest (by decide) h0L]; exact HR.out); have hn0 : n ≠ 0 := fun e => h0L (List.eq_nil_of_length_eq_zero (by rw [saysT_length, hlen.out, e])); clear h0L; by_cases h1n : n = 1
      · subst h1n; have HG2 : Hid (R = 5) := hid (by rw [HG.out]; rfl); have eEXPLAIN : (q0.toList == [69, 88, 80, 76, 65, 73, 78]) = false := K.isEXPLAIN.trans (by decide); have eWITH : (q0.toList == [87, 73, 84, 72]) = false := K.isWITH.trans (by decide); have eBEGIN : (q0.toList == [66, 69, 71, 73, 78]) = false := K.isBEGIN.trans (by decide); have eSTART : (q0.toList == [83, 84, 65, 82, 84]) = false := K.isSTART.trans (by decide); have eCOMMIT : (q0.toList == [67, 79, 77, 77, 73, 84]) = false := K.isCOMMIT.trans (by decide); have eROLLBACK : (q0.toList == [82, 79, 76, 76, 66, 65, 67, 75]) = true := K.isROLLBACK.trans (by decide); have eSET : (q0.toList == [83, 69, 84]) = false := K.isSET.trans (by decide); go_wp2_with fail; refine (K.inShow _ (by rfl) (by decide) _).mono ?_; rintro e _ ⟨rfl, rfl⟩; go_wp2_with fail; refine (K.inWrite _ (by rfl) (by decide) _).mono ?_; rintro e _ ⟨rfl, rfl⟩; go_wp2_with fail; refine (K.inSel _ (by rfl) (by decide) _).mono ?_; rintro e _ ⟨rfl, rfl⟩; go_wp2_with fail; go_ret; exact ⟨by rw [HG2.out]; rfl, kw⟩
      by_cases h2n : n = 2
      · subst h2n; have hxx : (q1.toList == [87, 79, 82, 75]) = decide (wordAt (saysT ts) 1 ∈ [wWORK]) := by rw [toList_is, hq1]; exact decide_eq_decide.2 List.mem_singleton.symm
        generalize decide (wordAt (saysT ts) 1 ∈ [wWORK]) = x at *; have hI : True := trivial
        cases x with
        | true =>
          have HG2 : Hid (R = 5) := hid (by rw [HG.out]; rfl); have eEXPLAIN : (q0.toList == [69, 88, 80, 76, 65, 73, 78]) = false := K.isEXPLAIN.trans (by decide); have eWITH : (q0.toList == [87, 73, 84, 72]) = false := K.isWITH.trans (by decide); have eBEGIN : (q0.toList == [66, 69, 71, 73, 78]) = false := K.isBEGIN.trans (by decide); have eSTART : (q0.toList == [83, 84, 65, 82, 84]) = false := K.isSTART.trans (by decide); have eCOMMIT : (q0.toList == [67, 79, 77, 77, 73, 84]) = false := K.isCOMMIT.trans (by decide); have eROLLBACK : (q0.toList == [82, 79, 76, 76, 66, 65, 67, 75]) = true := K.isROLLBACK.trans (by decide); have eSET : (q0.toList == [83, 69, 84]) = false := K.isSET.trans (by decide); go_wp2_with fail; refine (K.inShow _ (by rfl) (by decide) _).mono ?_; rintro e _ ⟨rfl, rfl⟩; go_wp2_with fail; refine (K.inWrite _ (by rfl) (by decide) _).mono ?_; rintro e _ ⟨rfl, rfl⟩; go_wp2_with fail; refine (K.inSel _ (by rfl) (by decide) _).mono ?_; rintro e _ ⟨rfl, rfl⟩; go_wp2_with fail; go_ret; exact ⟨by rw [HG2.out]; rfl, kw⟩
        | false =>
          have HG2 : Hid (R = 7) := hid (by rw [HG.out]; rfl); have eEXPLAIN : (q0.toList == [69, 88, 80, 76, 65, 73, 78]) = false := K.isEXPLAIN.trans (by decide); have eWITH : (q0.toList == [87, 73, 84, 72]) = false := K.isWITH.trans (by decide); have eBEGIN : (q0.toList == [66, 69, 71, 73, 78]) = false := K.isBEGIN.trans (by decide); have eSTART : (q0.toList == [83, 84, 65, 82, 84]) = false := K.isSTART.trans (by decide); have eCOMMIT : (q0.toList == [67, 79, 77, 77, 73, 84]) = false := K.isCOMMIT.trans (by decide); have eROLLBACK : (q0.toList == [82, 79, 76, 76, 66, 65, 67, 75]) = true := K.isROLLBACK.trans (by decide); have eSET : (q0.toList == [83, 69, 84]) = false := K.isSET.trans (by decide); go_wp2_with fail; refine (K.inShow _ (by rfl) (by decide) _).mono ?_; rintro e _ ⟨rfl, rfl⟩; go_wp2_with fail; refine (K.inWrite _ (by rfl) (by decide) _).mono ?_; rintro e _ ⟨rfl, rfl⟩; go_wp2_with fail; refine (K.inSel _ (by rfl) (by decide) _).mono ?_; rintro e _ ⟨rfl, rfl⟩; go_wp2_with fail; go_ret; exact ⟨by rw [HG2.out]; rfl, kw⟩
      · have HG2 : Hid (R = 7) := hid (by rw [HG.out, decide_eq_false h1n, decide_eq_false h2n]; rfl); have f1 : ((n : Int) == 1) = false := by rw [beq_eq_false_iff_ne]; omega
        have f2 : ((n : Int) == 2) = false := by rw [beq_eq_false_iff_ne]; omega
        have eEXPLAIN : (q0.toList == [69, 88, 80, 76, 65, 73, 78]) = false := K.isEXPLAIN.trans (by decide); have eWITH : (q0.toList == [87, 73, 84, 72]) = false := K.isWITH.trans (by decide); have eBEGIN : (q0.toList == [66, 69, 71, 73, 78]) = false := K.isBEGIN.trans (by decide); have eSTART : (q0.toList == [83, 84, 65, 82, 84]) = false := K.isSTART.trans (by decide); have eCOMMIT : (q0.toList == [67, 79, 77, 77, 73, 84]) = false := K.isCOMMIT.trans (by decide); have eROLLBACK : (q0.toList == [82, 79, 76, 76, 66, 65, 67, 75]) = true := K.isROLLBACK.trans (by decide); have eSET : (q0.toList == [83, 69, 84]) = false := K.isSET.trans (by decide); go_wp2_with fail; refine (K.inShow _ (by rfl) (by decide) _).mono ?_; rintro e _ ⟨rfl, rfl⟩; go_wp2_with fail; refine (K.inWrite _ (by rfl) (by decide) _).mono ?_; rintro e _ ⟨rfl, rfl⟩; go_wp2_with fail; refine (K.inSel _ (by rfl) (by decide) _).mono ?_; rintro e _ ⟨rfl, rfl⟩; go_wp2_with fail; go_ret; exact ⟨by rw [HG2.out]; rfl, kw⟩
    by_cases h10 : v = 10
    · subst h10; have hxx : decide (q1.data.toList ∈ [wAUTOCOMMIT, wGLOBAL, wPERSIST]) = headF ((saysT ts).drop 1) [wAUTOCOMMIT, wGLOBAL, wPERSIST] := by rw [head_word (by decide), hq1]
      have HG : Hid (R = ifF 6 (!headF ((saysT ts).drop 1) [wAUTOCOMMIT, wGLOBAL, wPERSIST])) := hid HR.out; generalize headF ((saysT ts).drop 1) [wAUTOCOMMIT, wGLOBAL, wPERSIST] = x at *; have hI := hid fun t ht hz => rin_is q1 t [wAUTOCOMMIT, wGLOBAL, wPERSIST] x ht (by decide) hp1 hz1 hz hxx; clear hxx
      cases x with
      | true =>
        have HG2 : Hid (R = 7) := hid HG.out; have eEXPLAIN : (q0.toList == [69, 88, 80, 76, 65, 73, 78]) = false := K.isEXPLAIN.trans (by decide); have eWITH : (q0.toList == [87, 73, 84, 72]) = false := K.isWITH.trans (by decide); have eBEGIN : (q0.toList == [66, 69, 71, 73, 78]) = false := K.isBEGIN.trans (by decide); have eSTART : (q0.toList == [83, 84, 65, 82, 84]) = false := K.isSTART.trans (by decide); have eCOMMIT : (q0.toList == [67, 79, 77, 77, 73, 84]) = false := K.isCOMMIT.trans (by decide); have eROLLBACK : (q0.toList == [82, 79, 76, 76, 66, 65, 67, 75]) = false := K.isROLLBACK.trans (by decide); have eSET : (q0.toList == [83, 69, 84]) = true := K.isSET.trans (by decide); go_wp2_with fail; refine (K.inShow _ (by rfl) (by decide) _).mono ?_; rintro e _ ⟨rfl, rfl⟩; go_wp2_with fail; refine (K.inWrite _ (by rfl) (by decide) _).mono ?_; rintro e _ ⟨rfl, rfl⟩; go_wp2_with fail; refine (K.inSel _ (by rfl) (by decide) _).mono ?_; rintro e _ ⟨rfl, rfl⟩; go_wp2_with fail; refine (hI.out _ (by rfl) (by decide) _).mono ?_; rintro e _ ⟨rfl, rfl⟩; go_wp2_with fail; go_ret; exact ⟨by rw [HG2.out]; rfl, kw⟩
      | false =>
        have HG2 : Hid (R = 6) := hid HG.out; have eEXPLAIN : (q0.toList == [69, 88, 80, 76, 65, 73, 78]) = false := K.isEXPLAIN.trans (by decide); have eWITH : (q0.toList == [87, 73, 84, 72]) = false := K.isWITH.trans (by decide); have eBEGIN : (q0.toList == [66, 69, 71, 73, 78]) = false := K.isBEGIN.trans (by decide); have eSTART : (q0.toList == [83, 84, 65, 82, 84]) = false := K.isSTART.trans (by decide); have eCOMMIT : (q0.toList == [67, 79, 77, 77, 73, 84]) = false := K.isCOMMIT.trans (by decide); have eROLLBACK : (q0.toList == [82, 79, 76, 76, 66, 65, 67, 75]) = false := K.isROLLBACK.trans (by decide); have eSET : (q0.toList == [83, 69, 84]) = true := K.isSET.trans (by decide); go_wp2_with fail; refine (K.inShow _ (by rfl) (by decide) _).mono ?_; rintro e _ ⟨rfl, rfl⟩; go_wp2_with fail; refine (K.inWrite _ (by rfl) (by decide) _).mono ?_; rintro e _ ⟨rfl, rfl⟩; go_wp2_with fail; refine (K.inSel _ (by rfl) (by decide) _).mono ?_; rintro e _ ⟨rfl, rfl⟩; go_wp2_with fail; refine (hI.out _ (by rfl) (by decide) _).mono ?_; rintro e _ ⟨rfl, rfl⟩; go_wp2_with fail; go_ret; exact ⟨by rw [HG2.out]; rfl, kw⟩
    obtain rfl : v = 0 := by
     have := fam_out q0.data.toList; rw [K.fam] at this; omega
    have HG : Hid (R = 7) := hid HR.out; have eEXPLAIN : (q0.toList == [69, 88, 80, 76, 65, 73, 78]) = false := K.isEXPLAIN.trans (by decide); have eWITH : (q0.toList == [87, 73, 84, 72]) = false := K.isWITH.trans (by decide); have eBEGIN : (q0.toList == [66, 69, 71, 73, 78]) = false := K.isBEGIN.trans (by decide); have eSTART : (q0.toList == [83, 84, 65, 82, 84]) = false := K.isSTART.trans (by decide); have eCOMMIT : (q0.toList == [67, 79, 77, 77, 73, 84]) = false := K.isCOMMIT.trans (by decide); have eROLLBACK : (q0.toList == [82, 79, 76, 76, 66, 65, 67, 75]) = false := K.isROLLBACK.trans (by decide); have eSET : (q0.toList == [83, 69, 84]) = false := K.isSET.trans (by decide); go_wp2_with fail; refine (K.inShow _ (by rfl) (by decide) _).mono ?_; rintro e _ ⟨rfl, rfl⟩; go_wp2_with fail; refine (K.inWrite _ (by rfl) (by decide) _).mono ?_; rintro e _ ⟨rfl, rfl⟩; go_wp2_with fail; refine (K.inSel _ (by rfl) (by decide) _).mono ?_; rintro e _ ⟨rfl, rfl⟩; go_wp2_with fail; go_ret; exact ⟨by rw [HG.out]; rfl, kw⟩
theorem rtokens_ok : ∀ (N : Nat) (ts : List Tk), ts.length ≤ N → RTo ts := by
 intro N
 induction N with
 | zero => exact fun ts hl => rtokens_step ts fun us h => by omega
 | succ N ih => exact fun ts hl => rtokens_step ts fun us h => ih us (by omega)
end

/- The document's layer 5: Asks, Class: contracts. -/
section
open Go.RowKit
set_option maxRecDepth 100000
set_option maxHeartbeats 4000000 in
theorem rclass_ok (s : ByteArray) (w : World) (hs : s.size ≤ maxLen) :
 Calls Tryz.prog 86 #[.string s] w fun e w' => e = .returned (.int .i64 (classA s.data.toList)) ∧ Below w.heap.size w w' := by
 obtain ⟨i0, hi, hz0, hz1, hz2⟩ := info_parts tkinfoR; have hlex := rlex_ok s w hs; unfold LexTo at hlex; have HX := hid hlex; have HLen := hid (lexA_len s.data.toList); have HOk := hid (lexA_ok s.data.toList); have hA : classA s.data.toList = if (lexA s.data.toList).2 = 0 then classF (bodyF (lexA s.data.toList).1) else 0 := rfl; generalize classA s.data.toList = R at *; generalize lexA s.data.toList = LA at *; have HA := hid hA; clear hlex hA; go_enter Tryz.func86, Tryz.ntmps86; go_wp2_with fail; refine HX.out.mono ?_; rintro e w1 ⟨A, n, c, er, ts, rfl, ho, rfl, k1⟩; by_cases he : er = 0
 case neg =>
  have HG : Hid (R = 0) := hid (by rw [HA.out, if_neg he]); clear HA HX; go_wp2_with fail; go_ret; exact ⟨by rw [HG.out]; rfl, k1⟩
 subst he; have HG : Hid (R = classF (endF ((saysT ts).filter fun t => !isHintF t))) := hid HA.out; have hr := ho.tr; have hlen := hid hr.len; have hn : n ≤ 200 := by rw [← ho.len, ← saysT_length]; exact HLen.out
 clear HX HA HLen ho; go_wp2_with fail
 go_loopw [5, 6] (fun o i wr => ∃ (k : Nat) (B : Option Addr) (m d : Nat) (us : List Tk), k ≤ n ∧ m ≤ k ∧ i = .int .i64 k ∧ o = .slice B m d ∧ OT 182 wr w1.heap.size B m d us ∧ Hid (saysT us = (saysT (ts.take k)).filter fun t => !isHintF t) ∧ Below w1.heap.size w1 wr) (fun _ i _ => n - (intOf i).toNat)
 case atStart => exact ⟨0, _, _, _, [], Nat.zero_le _, Nat.le_refl _, rfl, rfl, OT.empty _ w1, hid rfl, kp_new _ _⟩
 case round =>
  obtain ⟨k, B, m, d, us, hk, hmk, rfl, rfl, hu, hx, kw⟩ := hrel; by_cases hlt : k < n
  · have hkl : k < ts.length := by rw [hlen.out]; exact hlt
    obtain ⟨ad, rfl, _, hc⟩ := hr.at_ hkl; obtain ⟨c0, c1⟩ := hc _ kw
    have htk : (saysT (ts.take (k + 1))).filter (fun t => !isHintF t) = saysT us ++ (if isHintF ts[k].says then [] else [ts[k].says]) := by
     rw [List.take_succ_eq_append_getElem hkl, saysT_append, List.filter_append, hx.out]; cases hq : isHintF ts[k].says <;> simp [saysT, hq]
    have hih : isHintF ts[k].says = decide (ts[k].k = 5) := rfl; have hnx : ∀ (us : List Tk) (t : Tk), tkC (us ++ [t]) = tkC us ++ [.int .i64 t.k, .string t.t] := fun us t => by rw [tkC_append]; simp [tkC, Tk.cells]
    have hsw := kw.size; by_cases h5 : ts[k].k = 5
    · rw [hih, decide_eq_true h5] at htk; have hx2 : Hid (saysT us = (saysT (ts.take (k + 1))).filter fun t => !isHintF t) := hid (by rw [htk]; simp); clear hc htk hih hx HG; generalize ts[k].k = x at *; generalize ts[k].t = q at *; subst h5; go_wp2_with fail; go_roundw
      case rel => exact ⟨k + 1, B, m, d, us, by omega, by omega, by go_num, rfl, hu, hx2, kw⟩
      case measure => simp [intOf]; omega
    · rw [hih, decide_eq_false h5] at htk; have hx2 : Hid (saysT (us ++ [ts[k]]) = (saysT (ts.take (k + 1))).filter fun t => !isHintF t) := hid (by rw [htk, saysT_append]; rfl); have hcc := hnx us ts[k]; have HCC : Hid (tkC us ++ [.int .i64 ts[k].k, .string ts[k].t] = tkC (us ++ [ts[k]])) := hid hcc.symm; have f5 : (ts[k].k != 5) = true := by simpa using h5
      clear hc htk hih hx HG hnx hcc h5; generalize us ++ [ts[k]] = us2 at *; generalize ts[k].k = x at *; generalize ts[k].t = q at *; have hsrc : Rd (wr.alloc (.cells #[.int .i64 x, .string q] 182)) (wr.heap.size + 1) (some ⟨wr.heap.size, 0, none⟩) [.int .i64 x, .string q] := Rd.new wr 182 [.int .i64 x, .string q]; have HSRC := hid hsrc; clear hsrc; go_wp2_with (at_builtin; refine wpList_append_rds rfl _ _ _ rfl w1.heap.size 182 i0 _ 2 24 Tryz.underlying179 hi hz0 hz1 hz2 rfl (by omega) _ m _ rfl (hu.own.alloc _) _ _ _ _ [.int .i64 x, .string q] rfl rfl HSRC.out (by simp [Value.oneCell']) (by unfold maxLen; omega) (by omega) (by simp; omega) ?_; intro v3 w3 hown3 hg3); rw [HCC.out] at hown3; obtain ⟨A3, c3, rfl, h3, _⟩ := own_form_s hown3; go_roundw
      case rel => exact ⟨k + 1, A3, m + 1, c3, us2, by omega, by omega, by go_num, rfl, ⟨hown3, h3⟩, hx2, (kp_alloc kw _).trans (below_own_s (hu.own.alloc _) hg3 (by simp; omega))⟩
      case measure => simp [intOf]; omega
  · obtain rfl : n = k := by omega
    have hfin : Hid (saysT us = (saysT ts).filter fun t => !isHintF t) := hid (by rw [hx.out, List.take_of_length_le (by rw [hlen.out]; exact Nat.le_refl _)]); have HG2 : Hid (R = classF (endF (saysT us))) := hid (by rw [HG.out, hfin.out]); have hut := hu.tr; have hucap := hu.cap; have hul := hid hu.len
    have hTL : Hid (TL us) := hid ⟨fun t ht => by
     rw [hfin.out] at ht; have := HOk.out t (List.mem_filter.1 ht).1
     exact ⟨by have := this.1; omega, this.2⟩⟩
    clear hx hfin HG hu; go_wp2_with fail; obtain ⟨wo, hwo⟩ : ∃ x, x = wr := ⟨wr, rfl⟩; subst hwo
    go_loopw [5] (fun v wr => ∃ j : Nat, j ≤ m ∧ v = .slice B j d ∧ Hid (R = classF (endF (saysT (us.take j)))) ∧ Below wo.heap.size wo wr) (fun v _ => match v with | .slice _ j _ => j | _ => 0)
    case atStart => exact ⟨m, Nat.le_refl _, rfl, hid (by rw [HG2.out, List.take_of_length_le (by rw [hul.out]; exact Nat.le_refl _)]), Below.refl _ _⟩
    case round =>
     obtain ⟨j, hj, rfl, hx, kw2⟩ := hrel; have kz := kw.trans (kw2.mono kw.size); have kz := k1.trans (kz.mono k1.size)
     have hstop : ∀ (j : Nat), j ≤ m → (j = 0 ∨ ∃ h : j - 1 < us.length, stopF (us[j - 1]'h).says = false) → Hid (R = classF (saysT (us.take j))) → Calls Tryz.prog 111 #[.slice B j d] wr fun e w' => e = .returned (.int .i64 R) ∧ Below wr.heap.size wr w' := fun j hj _ hR => by
      rw [hR.out]; exact rtokens_ok _ (us.take j) (Nat.le_refl _) B j d wr ((hut.next kw2).front hj) (by omega) (by omega) ⟨fun t ht => hTL.out.ok t (by unfold saysT at ht ⊢; rw [List.map_take] at ht; exact List.mem_of_mem_take ht)⟩
     have HSTOP := hid hstop; clear hstop HG2
     cases j with
     | zero =>
       have hR : Hid (R = classF (saysT (us.take 0))) := hid (by rw [hx.out]; rfl); have hT := hid (HSTOP.out 0 (by omega) (.inl rfl) hR); clear HSTOP hx; go_wp2_with fail; refine hT.out.mono ?_; rintro e w5 ⟨rfl, k5⟩; go_wp2_with fail; go_ret; exact ⟨rfl, kz.trans (k5.mono kz.size)⟩
     | succ j =>
       have hjl : j < us.length := by rw [hul.out]; omega
       obtain ⟨ad, rfl, _, hcc⟩ := hut.at_ hjl; obtain ⟨c0, c1⟩ := hcc _ kw2; have hS := hid (rsign5_ok us[j] wr)
       have hst : saysT (us.take (j + 1)) = saysT (us.take j) ++ [us[j].says] := by
        rw [List.take_succ_eq_append_getElem hjl, saysT_append]; rfl
       have e1 : ((j + 1 : Nat) : Int) - 1 = (j : Int) := by omega
       clear hcc
       cases hs : stopF us[j].says with
       | false =>
         have hR : Hid (R = classF (saysT (us.take (j + 1)))) := hid (by rw [hx.out, hst, endF_last hs])
         have hT := hid fun u (ku : Below wr.heap.size wr u) => (show Calls Tryz.prog 111 #[.slice (some ad) (j + 1) d] u fun e w' => e = .returned (.int .i64 R) ∧ Below u.heap.size u w' by
          rw [hR.out]
          exact rtokens_ok _ (us.take (j + 1)) (Nat.le_refl _) (some ad) (j + 1) d u (((hut.next kw2).next ku).front hj) (by omega) (by omega) ⟨fun t ht => hTL.out.ok t (by unfold saysT at ht ⊢; rw [List.map_take] at ht; exact List.mem_of_mem_take ht)⟩)
         rw [hs] at hS; clear hx hs hst HSTOP; generalize us[j].k = x at *; generalize us[j].t = q at *; go_wp2_with fail; refine hS.out.mono ?_; rintro e w4 ⟨rfl, k4⟩; go_wp2_with fail; refine (hT.out w4 k4).mono ?_; rintro e w5 ⟨rfl, k5⟩; go_wp2_with fail; go_ret; have kk := kp_trans k4 k5; exact ⟨rfl, kz.trans (kk.mono kz.size)⟩
       | true =>
         have hx2 : Hid (R = classF (endF (saysT (us.take j)))) := hid (by rw [hx.out, hst, endF_stop hs]); rw [hs] at hS; clear hx hs hst HSTOP; generalize us[j].k = x at *; generalize us[j].t = q at *; go_wp2_with fail; refine hS.out.mono ?_; rintro e w4 ⟨rfl, k4⟩; go_wp2_with fail; go_roundw
         case rel => exact ⟨j, by omega, rfl, hx2, kp_trans kw2 k4⟩
         case measure => simp
end

/- The document's layer 15: Table: contract. -/
section
open Go.RowKit
set_option maxRecDepth 100000
theorem wrT_of {d : Int} {k v s : ByteArray} (h : doing d k v = planA s.data.toList) (l : List Kv) : wrT l s = (writesF d k v l).1 := by
 unfold wrT; rw [← h]; show (writesF d (ba k.data.toList) (ba v.data.toList) l).1 = _; rw [ba_text, ba_text]
theorem rdT_of {d : Int} {k v s : ByteArray} (h : doing d k v = planA s.data.toList) (l : List Kv) : rdT s l = readsF d k l := by
 unfold rdT; rw [← h]; show readsF d (ba k.data.toList) l = _; rw [ba_text]
section
variable {b : Nat} {n : Nd} {S : Nat → Prop} {w : World}
set_option maxHeartbeats 16000000 in
theorem rtable15_ok (A1 : Option Addr) (n1 c1 : Nat) (ws : List ByteArray) (h : (RN b n).p S w) (hl : n.lg.length ≤ 200) (hls : ∀ x ∈ n.lg, Sm x.t) (hx : XR w A1 n1 ws) (hn1 : n1 ≤ 200) (hws : ∀ s ∈ ws, Sm s) :
 Calls Tryz.prog 91 #[.pointer (some ⟨b, 0, none⟩), .slice A1 n1 c1] w fun e w' => ∃ A' n' c', e = .returned (.slice A' n' c') ∧ KR w' A' n' (tabN n.lg ws) ∧ Below w.heap.size w w' := by
 obtain ⟨AL, nl, cl, AO, no, co, os, hx0⟩ := h; have HX := hid hx0; have HXR := hid hx; have HNL := hid hx0.lg.len; have HTL := hid hx.len; have HSL := hid hls; have HSW := hid hws; have hnl : nl ≤ 200 := by rw [← HNL.out]; exact hl
 have kw := hid (kp_new w (.cells #[] 187)); have HK0 : Hid (KR (w.alloc (.cells #[] 187)) (some ⟨w.heap.size, 0, none⟩) 0 (((n.lg.take 0).map Lg.t).foldl wrT [])) := hid ⟨rfl, .inl rfl⟩; clear hx0 hx hls hws hl; go_enter Tryz.func91, Tryz.ntmps91; go_wp2_with fail
 go_loopw [5, 6] (fun l i wr => ∃ (k m c : Nat) (A : Option Addr), k ≤ nl ∧ i = .int .i64 k ∧ l = .slice A m c ∧ Hid (KR wr A m (((n.lg.take k).map Lg.t).foldl wrT [])) ∧ Hid (Below w.heap.size w wr)) (fun _ i _ => nl - (intOf i).toNat)
 case atStart => exact ⟨0, 0, 0, _, Nat.zero_le _, rfl, rfl, HK0, kw⟩
 case round =>
  obtain ⟨k, m, c, A, hk, rfl, rfl, hkr, hw⟩ := hrel; clear HK0 kw; obtain ⟨_, _, y2, _⟩ := (HX.out.keep (fun k e => hw.out.block k (HX.out.lt k e)) hw.out.size).tops; by_cases hlt : k < nl
  · have hkl : k < n.lg.length := by rw [HNL.out]; exact hlt
    obtain ⟨ad, rfl, _, hcc⟩ := HX.out.lg.at_ hkl; obtain ⟨_, x1⟩ := hcc wr hw.out; have hsm := HSL.out n.lg[k] (List.getElem_mem hkl)
    have HNX : Hid (((n.lg.take (k + 1)).map Lg.t).foldl wrT [] = wrT (((n.lg.take k).map Lg.t).foldl wrT []) n.lg[k].t) := hid (by
     rw [List.take_succ_eq_append_getElem hkl, List.map_append, List.foldl_append]
     rfl)
    have HSR : Hid (Srt (((n.lg.take k).map Lg.t).foldl wrT [])) := hid (folds_srt _ List.Pairwise.nil)
    have hml : m ≤ 200 := by
     have h1 := hkr.out.len; have h2 := folds_len ((n.lg.take k).map Lg.t) []; simp only [List.length_map, List.length_take, List.length_nil] at h2; omega
    generalize n.lg[k].t = s at *; obtain ⟨tb, htb⟩ : ∃ x, ((n.lg.take k).map Lg.t).foldl wrT [] = x := ⟨_, rfl⟩; rw [htb] at HNX HSR hkr; have HOF := hid (rof_ok s wr (by unfold Sm at hsm; unfold maxLen; omega)); unfold OfTo at HOF; have hi0 : (0 : Int) ≤ (k : Int) := by omega
    have hi1 : (k : Int) < (nl : Int) := by omega
    clear htb hcc; go_wp2_with fail; refine HOF.out.mono ?_; rintro e w2 ⟨d, kk, vv, rfl, hdo, k2⟩; have HWR := hid (rwrites_ok d kk vv A m c tb w2 (hkr.out.next k2) HSR.out (by omega)); have HW2 := hid (hw.out.trans (k2.mono hw.out.size)); have HTB : Hid (wrT tb s = (writesF d kk vv tb).1) := hid (wrT_of hdo tb); unfold planV; clear HOF hdo k2 hw x1 y2; go_wp2_with fail; refine HWR.out.mono ?_; rintro e w3 ⟨A3, n3, c3, rfl, hk3, _, k3⟩; have HK3 : Hid (KR w3 A3 n3 (((n.lg.take (k + 1)).map Lg.t).foldl wrT [])) := hid (by rw [HNX.out, HTB.out]; exact hk3); have HW3 := hid (HW2.out.trans (k3.mono HW2.out.size)); clear HWR hk3 k3 HW2; go_wp2_with fail; go_roundw
    case rel => exact ⟨k + 1, n3, c3, A3, by omega, by go_num, rfl, HK3, HW3⟩
    case measure => simp [intOf]; omega
  · obtain rfl : k = nl := by omega
    rw [List.take_of_length_le (by rw [HNL.out]; exact Nat.le_refl _)] at hkr
    have hml : m ≤ 200 := by
     have h1 := hkr.out.len; have h2 := folds_len (n.lg.map Lg.t) []; simp only [List.length_map, List.length_nil] at h2; have := HNL.out; omega
    obtain ⟨t0, ht0⟩ : ∃ x, (n.lg.map Lg.t).foldl wrT [] = x := ⟨_, rfl⟩; have HT0 : Hid (tabN n.lg ws = ws.foldl wrT t0) := hid (by rw [← ht0]; rfl); have HS0 : Hid (Srt t0) := hid (by rw [← ht0]; exact folds_srt _ List.Pairwise.nil); have HL0 : Hid (t0.length ≤ 200) := hid (by rw [← ht0, hkr.out.len]; exact hml); rw [ht0] at hkr; have HB0 : Hid (KR wr A m ((ws.take 0).foldl wrT t0)) := hkr; have HWW := hw; clear hkr hw ht0 hlt hk; go_wp2_with fail
    go_loopw [5, 7] (fun l i wr => ∃ (q m c : Nat) (A : Option Addr), q ≤ n1 ∧ i = .int .i64 q ∧ l = .slice A m c ∧ Hid (KR wr A m ((ws.take q).foldl wrT t0)) ∧ Hid (Below w.heap.size w wr)) (fun _ i _ => n1 - (intOf i).toNat)
    case atStart => exact ⟨0, m, c, A, Nat.zero_le _, rfl, rfl, HB0, HWW⟩
    case round =>
     obtain ⟨q, m, c, A, hq, rfl, rfl, hkr, hw⟩ := hrel; clear HB0 HWW; by_cases hlt : q < n1
     · have hqt : q < ws.length := by rw [HTL.out]; exact hlt
       obtain ⟨ad, rfl, _, x1⟩ := (HXR.out.next (hw.out.mono (Nat.le_refl _))).at_ hqt; have hsm := HSW.out ws[q] (List.getElem_mem hqt)
       have HNX : Hid ((ws.take (q + 1)).foldl wrT t0 = wrT ((ws.take q).foldl wrT t0) ws[q]) := hid (by
        rw [List.take_succ_eq_append_getElem hqt, List.foldl_append]
        rfl)
       have HSR : Hid (Srt ((ws.take q).foldl wrT t0)) := hid (folds_srt _ HS0.out)
       have hml : m ≤ 400 := by
        have h1 := hkr.out.len; have h2 := folds_len (ws.take q) t0; simp only [List.length_take] at h2; have := HL0.out; omega
       generalize ws[q] = s at *; obtain ⟨tb, htb⟩ : ∃ x, (ws.take q).foldl wrT t0 = x := ⟨_, rfl⟩; rw [htb] at HNX HSR hkr; have HOF := hid (rof_ok s wr (by unfold Sm at hsm; unfold maxLen; omega)); unfold OfTo at HOF; have hi0 : (0 : Int) ≤ (q : Int) := by omega
       have hi1 : (q : Int) < (n1 : Int) := by omega
       clear htb; go_wp2_with fail; refine HOF.out.mono ?_; rintro e w2 ⟨d, kk, vv, rfl, hdo, k2⟩; have HWR := hid (rwrites_ok d kk vv A m c tb w2 (hkr.out.next k2) HSR.out (by omega)); have HW2 := hid (hw.out.trans (k2.mono hw.out.size)); have HTB : Hid (wrT tb s = (writesF d kk vv tb).1) := hid (wrT_of hdo tb); unfold planV; clear HOF hdo k2 hw x1; go_wp2_with fail; refine HWR.out.mono ?_; rintro e w3 ⟨A3, n3, c3, rfl, hk3, _, k3⟩; have HK3 : Hid (KR w3 A3 n3 ((ws.take (q + 1)).foldl wrT t0)) := hid (by rw [HNX.out, HTB.out]; exact hk3); have HW3 := hid (HW2.out.trans (k3.mono HW2.out.size)); clear HWR hk3 k3 HW2; go_wp2_with fail; go_roundw
       case rel => exact ⟨q + 1, n3, c3, A3, by omega, by go_num, rfl, HK3, HW3⟩
       case measure => simp [intOf]; omega
     · obtain rfl : q = n1 := by omega
       rw [List.take_of_length_le (by rw [HTL.out]; exact Nat.le_refl _)] at hkr; go_wp2_with fail; go_ret; exact ⟨A, m, c, rfl, by rw [HT0.out]; exact hkr.out, hw.out⟩
end
end
end Go.Proofs.YtdhnpmagapbmhaaGreatDoor
