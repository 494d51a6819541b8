/-
  LexGreat: letters' greatness changes nothing where nothing is quoted: the walk.
-/
import Derived.Test.YtliadhpnkgpemaaDoorLexY
import Derived.Test.YtliadhpnkgpemaaDoorLexTellsW
namespace Go.Proofs.YtliadhpnkgpemaaDoor
open Go.RowKit
set_option maxRecDepth 100000

set_option maxHeartbeats 4000000 in
theorem lexGreat_walk (s : ByteArray) (w : World) (hs : s.size ≤ maxLen) (hL : Lw w) :
    Calls Tryd.prog 5 #[.string s] w fun e w' => e = .returned (.bool true) ∧ Below w.heap.size w w' := by
  have hs0 := hs
  unfold maxLen at hs
  have H1 := Lib.hid (awake4 w hL)
  go_enter Tryd.func5, Tryd.ntmps5
  go_wp2_with fail
  refine H1.out.mono ?_
  rintro e w2 ⟨rfl, kw2⟩
  clear H1
  by_cases hs1 : 2000 < s.size
  · go_wp2_with fail
    go_ret
    exact ⟨rfl, kw2⟩
  have HA := Lib.hid (anyMarks_s s w2 (by omega))
  go_wp2_with fail
  refine HA.out.mono ?_
  rintro e w3 ⟨b, rfl, hp, k3⟩
  have kw3 := kp_trans kw2 k3
  have HP := Lib.hid hp
  clear HA hp k3
  cases b
  case true =>
    go_wp2_with fail
    go_ret
    exact ⟨rfl, kw3⟩
  have hp := HP.out rfl
  have HPl := Lib.hid hp
  have HX := Lib.hid (lex_ok s w3 hs0 (hL.next kw3))
  clear HP hp
  go_wp2_with fail
  refine HX.out.mono ?_
  rintro e w4 ⟨A1, n1, c1, e1, ts1, rfl, ho1, hx1, k4⟩
  have kw4 := kp_trans kw3 k4
  have HC := Lib.hid (ascii_ok s w4 (by omega))
  clear HX k4
  go_wp2_with fail
  refine HC.out.mono ?_
  rintro e w5 ⟨q, rfl, hq, k5⟩
  have kw5 := kp_trans kw4 k5
  have hqs : q.size ≤ 2000 := by
    have h1 := List.length_filter_le lowAscii s.data.toList
    rw [← hq, text_len, text_len] at h1
    omega
  have hqa : ∀ c ∈ q.data.toList, lowAscii c = true := fun c hc => by
    rw [hq] at hc
    exact (List.mem_filter.1 hc).2
  have hrep : ∀ r : ByteArray, r.data.toList = s.data.toList.filter lowAscii → r = q := fun r hr => text_ext (hr.trans hq.symm)
  have HQA := Lib.hid hqa
  have HRep := Lib.hid hrep
  have HU := Lib.hid (upper_s q w5 (by omega) HQA.out)
  clear HC hqa hrep hq
  go_wp2_with fail
  refine HU.out.mono ?_
  rintro e w6 ⟨u, rfl, hu, k6⟩
  have kw6 := kp_trans kw5 k6
  have hus : u.size = q.size := by rw [← text_len, hu, List.length_map, text_len]
  have HX2 := Lib.hid (lex_ok u w6 (by unfold maxLen; omega) (hL.next kw6))
  clear HU
  go_wp2_with fail
  refine HX2.out.mono ?_
  rintro e w7 ⟨A2, n2, c2, e2, ts2, rfl, ho2, hx2, k7⟩
  have kw7 := kp_trans kw6 k7
  have HC2 := Lib.hid (ascii_ok s w7 (by omega))
  rw [hu] at hx2
  clear HX2 hu hus
  go_wp2_with fail
  refine HC2.out.mono ?_
  rintro e w8 ⟨q2, rfl, hq2, k8⟩
  obtain rfl := HRep.out q2 hq2
  have kw8 := kp_trans kw7 k8
  have HW := Lib.hid (lower_s q2 w8 (by omega) HQA.out)
  clear HC2 hq2
  go_wp2_with fail
  refine HW.out.mono ?_
  rintro e w9 ⟨l, rfl, hl, k9⟩
  have kw9 := kp_trans kw8 k9
  have hls : l.size = q2.size := by rw [← text_len, hl, List.length_map, text_len]
  have HX3 := Lib.hid (lex_ok l w9 (by unfold maxLen; omega) (hL.next kw9))
  clear HW
  go_wp2_with fail
  refine HX3.out.mono ?_
  rintro e w10 ⟨A3, n3, c3, e3, ts3, rfl, ho3, hx3, k10⟩
  have kw10 := kp_trans kw9 k10
  have HC3 := Lib.hid (ascii_ok s w10 (by omega))
  rw [hl] at hx3
  clear HX3 hl hls
  go_wp2_with fail
  refine HC3.out.mono ?_
  rintro e w11 ⟨q3, rfl, hq3, k11⟩
  obtain rfl := HRep.out q3 hq3
  have kw11 := kp_trans kw10 k11
  clear HC3 hq3 HRep
  by_cases hqe : q3 = s
  · subst hqe
    have hpl := HPl.out HQA.out
    rw [lexA_map fold_upper _ hpl, ← hx1] at hx2
    rw [lexA_map fold_lower _ hpl, ← hx1] at hx3
    simp only [Prod.mk.injEq] at hx2 hx3
    obtain ⟨t2, rfl⟩ := hx2
    obtain ⟨t3, rfl⟩ := hx3
    obtain rfl := saysT_inj t2
    obtain rfl := saysT_inj t3
    have hn1 : n1 ≤ 1000000 := by
      have h1 := lexA_len q3.data.toList
      rw [← hx1] at h1
      have h2 := saysT_length ts3
      have h3 := ho1.len
      simp only at h1
      omega
    have hn2 : n2 = n1 := by rw [← ho2.len, ← ho1.len]
    have hn3 : n3 = n1 := by rw [← ho3.len, ← ho1.len]
    have r1 := (ho1.next (kp_trans (kp_trans (kp_trans (kp_trans (kp_trans (kp_trans k5 k6) k7) k8) k9) k10) k11)).tr
    have r2 := (ho2.next (kp_trans (kp_trans (kp_trans k8 k9) k10) k11)).tr
    have r3 := (ho3.next k11).tr
    clear hx1 HPl hpl t2 t3
    have Hn2 := Lib.hid hn2
    have Hn3 := Lib.hid hn3
    clear hn2 hn3
    have HTa := Lib.hid (tokens_ok A1 n1 c1 ts3 w11 r1 (by omega))
    go_wp2_with fail
    refine HTa.out.mono ?_
    rintro e w12 ⟨B1, d1, rfl, s1, m1⟩
    have HTb := Lib.hid (tokens_ok A2 n2 c2 ts3 w12 (r2.next m1) (by rw [Hn2.out]; omega))
    clear HTa
    go_wp2_with fail
    refine HTb.out.mono ?_
    rintro e w13 ⟨B2, d2, rfl, s2, m2⟩
    have HS1 := Lib.hid (tsame_ok B1 B2 n1 n2 d1 d2 ts3 ts3 w13 (s1.next m2) s2 hn1 (by rw [Hn2.out]; omega) true (Lib.hid (by simp)))
    clear HTb
    go_wp2_with fail
    refine HS1.out.mono ?_
    rintro e w14 ⟨rfl, m3⟩
    have kx := kp_trans (kp_trans m1 m2) m3
    have HTc := Lib.hid (tokens_ok A1 n1 c1 ts3 w14 (r1.next kx) (by omega))
    clear HS1
    go_wp2_with fail
    refine HTc.out.mono ?_
    rintro e w15 ⟨B4, d4, rfl, s4, m4⟩
    have HTd := Lib.hid (tokens_ok A3 n3 c3 ts3 w15 (r3.next (kp_trans kx m4)) (by rw [Hn3.out]; omega))
    clear HTc
    go_wp2_with fail
    refine HTd.out.mono ?_
    rintro e w16 ⟨B5, d5, rfl, s5, m5⟩
    have HS2 := Lib.hid (tsame_ok B4 B5 n1 n3 d4 d5 ts3 ts3 w16 (s4.next m5) s5 hn1 (by rw [Hn3.out]; omega) true (Lib.hid (by simp)))
    clear HTd
    go_wp2_with fail
    refine HS2.out.mono ?_
    rintro e w17 ⟨rfl, m6⟩
    go_wp2_with fail
    go_ret
    exact ⟨rfl, kp_trans (kp_trans (kp_trans (kp_trans kw11 kx) m4) m5) m6⟩
  · have hbe : (q3.toList == s.toList) = false := by
      rw [Lib.toList_data, Lib.toList_data]
      exact beq_eq_false_iff_ne.2 (fun e => hqe (text_ext e))
    clear hqe
    go_wp2_with fail
    go_ret
    exact ⟨rfl, kw11⟩
end Go.Proofs.YtliadhpnkgpemaaDoor
