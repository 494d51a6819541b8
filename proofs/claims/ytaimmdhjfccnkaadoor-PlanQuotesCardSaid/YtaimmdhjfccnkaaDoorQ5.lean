/-
  Contracts and plain functions that the law stands on, part 5 of 5.
-/
import Derived.Test.YtaimmdhjfccnkaaDoorQ4
namespace Go.Proofs.YtaimmdhjfccnkaaDoor
/- PlanQuotes: whatever key and value are, a statement puts them, and tells them again: the walk. -/
section
open Go.RowKit
set_option maxRecDepth 100000

theorem pos_nil (k : ByteArray) : posF k [] = 0 := rfl
theorem there_nil (k : ByteArray) : thereF k [] = false := by simp [thereF]
theorem pos_own (k v : ByteArray) : posF k [⟨k, v⟩] = 0 := by simp [posF, ltB_irrefl]
theorem there_own (k v : ByteArray) : thereF k [⟨k, v⟩] = true := by simp [thereF, pos_own]
theorem put_nil (k v : ByteArray) : writesF 3 k v [] = ([⟨k, v⟩], 1) := by simp [writesF, restF, pos_nil, there_nil]
theorem change_own (k v x : ByteArray) : writesF 4 k x [⟨k, v⟩] = ([⟨k, x⟩], 1) := by simp [writesF, restF, pos_own, there_own]
theorem del_own (k v x : ByteArray) : writesF 5 k x [⟨k, v⟩] = ([], 1) := by simp [writesF, restF, pos_own, there_own]
theorem get_own (k v : ByteArray) : readsF 1 k [⟨k, v⟩] = [v] := by simp [readsF, pos_own, there_own]
theorem srt_own (p : Kv) : Srt [p] := by simp [Srt]

theorem quoted_is (s r : ByteArray) (h : r.data.toList = twiceF 39 s.data.toList) : ((⟨#[39]⟩ ++ r) ++ ⟨#[39]⟩ : ByteArray).data.toList = quoteF 39 s.data.toList := by
  rw [text_add, text_add, h]
  rfl
theorem twice_size {s r : ByteArray} (h : r.data.toList = twiceF 39 s.data.toList) : r.size ≤ 2 * s.size := by
  have := twiceF_length 39 s.data.toList
  rw [← h, text_len, text_len] at this
  exact this

set_option maxHeartbeats 16000000 in
theorem planQuotes_walk (k v : ByteArray) (w : World) (hk : k.size ≤ 140737488351232) (hv : v.size ≤ 140737488351232) (hL : Lw w) :
    Calls Tryd.prog 5 #[.string k, .string v] w fun e w' => e = .returned (.bool true) ∧ Below w.heap.size w w' := by
  have HA0 := Lib.hid (awake6 w hL)
  have l0 : (⟨#[39]⟩ : ByteArray).size = 1 := rfl
  have l1 : (⟨#[105, 110, 115, 101, 114, 116, 32, 105, 110, 116, 111, 32, 107, 118, 32, 118, 97, 108, 117, 101, 115, 32, 40]⟩ : ByteArray).size = 23 := rfl
  have l2 : (⟨#[44]⟩ : ByteArray).size = 1 := rfl
  have l3 : (⟨#[41]⟩ : ByteArray).size = 1 := rfl
  have l4 : (⟨#[85, 80, 68, 65, 84, 69, 32, 107, 118, 32, 83, 69, 84, 32, 118, 61]⟩ : ByteArray).size = 16 := rfl
  have l5 : (⟨#[32, 87, 72, 69, 82, 69, 32, 107, 61]⟩ : ByteArray).size = 9 := rfl
  have l6 : (⟨#[32, 45, 45, 32]⟩ : ByteArray).size = 4 := rfl
  have l7 : (⟨#[120]⟩ : ByteArray).size = 1 := rfl
  have l8 : (⟨#[47, 42, 32, 120, 32, 42, 47, 115, 101, 108, 101, 99, 116, 32, 118, 32, 102, 114, 111, 109, 32, 107, 118, 32, 119, 104, 101, 114, 101, 32, 107, 61]⟩ : ByteArray).size = 32 := rfl
  have l9 : (⟨#[100, 101, 108, 101, 116, 101, 32, 102, 114, 111, 109, 32, 107, 118, 32, 119, 104, 101, 114, 101, 32, 107, 32, 61, 32]⟩ : ByteArray).size = 25 := rfl
  have l10 : (⟨#[59, 59]⟩ : ByteArray).size = 2 := rfl
  go_enter Tryd.func5, Tryd.ntmps5
  go_wp2_with fail
  refine HA0.out.mono ?_
  rintro e w1 ⟨rfl, k1⟩
  clear HA0
  by_cases h30 : (30 : Int) < (k.size : Int) + (v.size : Int)
  · go_wp2_with fail
    go_ret
    exact ⟨rfl, k1⟩
  have L1 := hL.next k1
  have hkl : k.data.toList.length + v.data.toList.length ≤ 30 := by rw [text_len, text_len]; omega
  have HKL := Lib.hid hkl
  clear hkl
  go_wp2_with fail
  refine (twice_s 39 k _ _ w1 L1 (by omega) rfl rfl).mono ?_
  rintro e w2 ⟨r, rfl, hr, k2⟩
  have K2 := kp_trans k1 k2
  have L2 := hL.next K2
  have hrs := twice_size hr
  have HQ := Lib.hid (quoted_is k r hr)
  go_wp2_with fail
  refine (twice_s 39 v _ _ w2 L2 (by omega) rfl rfl).mono ?_
  rintro e w3 ⟨s, rfl, hs, k3⟩
  have K3 := kp_trans K2 k3
  have L3 := hL.next K3
  have hss := twice_size hs
  have HQ2 := Lib.hid (quoted_is v s hs)
  clear hr hs k2 k3 L1 L2
  go_wp2_with fail
  refine (of_lit _ 3 k v ?_ w3 ?_ L3).mono ?_
  · rw [text_add, text_add, text_add, text_add, HQ.out, HQ2.out]
    have := plan_ins k.data.toList v.data.toList HKL.out
    simp only [List.append_assoc]
    exact this
  · simp only [ByteArray.size_append]
    unfold maxLen
    omega
  rintro e w4 ⟨rfl, k4⟩
  have K4 := kp_trans K3 k4
  unfold planV
  go_wp2_with fail
  refine (writes_ok 3 k v none 0 0 [] w4 (KR.nil _) (Nat.le_refl _) (by simp [Srt]) (by omega)).mono ?_
  rintro e w5 ⟨A5, n5, c5, rfl, ho5, k5⟩
  rw [put_nil] at ho5 ⊢
  have K5 := kp_trans K4 k5
  obtain rfl : n5 = 1 := ho5.len.symm
  go_wp2_with fail
  refine (pairs_ok A5 1 c5 _ w5 ho5.kr (by omega)).mono ?_
  rintro e w6 ⟨A6, c6, rfl, h6, k6⟩
  have K6 := kp_trans K5 k6
  have k7 := kp_new w6 (.cells #[.string k, .string v] 46)
  have hq : KR (w6.alloc (.cells #[.string k, .string v] 46)) (some ⟨w6.heap.size, 0, none⟩) 1 [⟨k, v⟩] := ⟨rfl, (Rd.new w6 46 (kvC [⟨k, v⟩])).more (by simp)⟩
  go_wp2_with fail
  refine (psame_ok A6 _ 1 1 c6 1 _ _ _ (h6.next k7) hq (by omega) (by omega) true (Lib.hid (by simp))).mono ?_
  rintro e w7 ⟨rfl, m7, hw7⟩
  have k67 : Below w6.heap.size w6 w7 := by rw [hw7]; exact k7.trans ((kp_drewN _ m7).mono k7.size)
  have K7 := kp_trans K6 k67
  have h7 := (ho5.kr.next k6).next k67
  have L7 := hL.next K7
  clear hw7 k7 hq h6 k6 k67
  go_wp2_with fail
  refine (of_lit _ 4 k k ?_ w7 ?_ L7).mono ?_
  · rw [text_add, text_add, text_add, text_add, text_add, HQ.out]
    have := plan_upd k.data.toList k.data.toList (by have := HKL.out; omega)
    simp only [List.append_assoc]
    exact this
  · simp only [ByteArray.size_append]
    unfold maxLen
    omega
  rintro e w8 ⟨rfl, k8⟩
  have K8 := kp_trans K7 k8
  unfold planV
  go_wp2_with fail
  refine (writes_ok 4 k k A5 1 c5 _ w8 (h7.next k8) ho5.cap (srt_own _) (by omega)).mono ?_
  rintro e w9 ⟨A9, n9, c9, rfl, ho9, k9⟩
  rw [change_own] at ho9 ⊢
  have K9 := kp_trans K8 k9
  obtain rfl : n9 = 1 := ho9.len.symm
  go_wp2_with fail
  refine (pairs_ok A9 1 c9 _ w9 ho9.kr (by omega)).mono ?_
  rintro e wa ⟨Aa, ca, rfl, ha, ka⟩
  have Ka := kp_trans K9 ka
  have kb := kp_new wa (.cells #[.string k, .string k] 46)
  have hqb : KR (wa.alloc (.cells #[.string k, .string k] 46)) (some ⟨wa.heap.size, 0, none⟩) 1 [⟨k, k⟩] := ⟨rfl, (Rd.new wa 46 (kvC [⟨k, k⟩])).more (by simp)⟩
  go_wp2_with fail
  refine (psame_ok Aa _ 1 1 ca 1 _ _ _ (ha.next kb) hqb (by omega) (by omega) true (Lib.hid (by simp))).mono ?_
  rintro e wb ⟨rfl, mb, hwb⟩
  have kab : Below wa.heap.size wa wb := by rw [hwb]; exact kb.trans ((kp_drewN _ mb).mono kb.size)
  have Kb := kp_trans Ka kab
  have hb := (ho9.kr.next ka).next kab
  have Lb := hL.next Kb
  clear hwb kb hqb ha ka kab
  go_wp2_with fail
  refine (of_lit _ 1 k ⟨#[]⟩ ?_ wb ?_ Lb).mono ?_
  · rw [text_add, HQ.out]
    have := plan_sel k.data.toList (by have := HKL.out; omega)
    rw [List.append_nil] at this
    exact this
  · simp only [ByteArray.size_append]
    unfold maxLen
    omega
  rintro e wc ⟨rfl, kc⟩
  have Kc := kp_trans Kb kc
  unfold planV
  go_wp2_with fail
  refine (reads_ok 1 k ⟨#[]⟩ A9 1 c9 _ wc (hb.next kc) ho9.cap (srt_own _) (by omega)).mono ?_
  rintro e wd ⟨Ad, nd, cd, rfl, hd, kd⟩
  rw [get_own] at hd
  obtain rfl : nd = 1 := hd.len.symm
  have Kd := kp_trans Kc kd
  have Ld := hL.next Kd
  have hbd := (hb.next kc).next kd
  go_wp2_with fail
  refine (of_lit _ 5 k ⟨#[]⟩ ?_ wd ?_ Ld).mono ?_
  · rw [text_add, text_add, HQ.out]
    have := plan_del k.data.toList (by have := HKL.out; omega)
    simp only [List.append_assoc]
    exact this
  · simp only [ByteArray.size_append]
    unfold maxLen
    omega
  rintro e we ⟨rfl, ke⟩
  have Ke := kp_trans Kd ke
  unfold planV
  go_wp2_with fail
  refine (writes_ok 5 k ⟨#[]⟩ A9 1 c9 _ we (hbd.next ke) ho9.cap (srt_own _) (by omega)).mono ?_
  rintro e wf ⟨Af, nf, cf, rfl, hof, kf⟩
  rw [del_own] at hof ⊢
  have Kf := kp_trans Ke kf
  obtain rfl : nf = 0 := hof.len.symm
  have kg := kp_new wf (.cells #[.string k] 9)
  have hdf := ((hd.next ke).next kf).next kg
  go_wp2_with fail
  refine (texts6_ok Ad _ 1 1 cd 1 _ _ _ hdf (XR.new wf 9 [k]) (by omega) (by omega) true (Lib.hid (by simp))).mono ?_
  rintro e wg ⟨rfl, mg, hwg⟩
  have kfg : Below wf.heap.size wf wg := by rw [hwg]; exact kg.trans ((kp_drewN _ mg).mono kg.size)
  clear hwg
  go_wp2_with fail
  go_ret
  exact ⟨rfl, kp_trans Kf kfg⟩
end
end Go.Proofs.YtaimmdhjfccnkaaDoor
