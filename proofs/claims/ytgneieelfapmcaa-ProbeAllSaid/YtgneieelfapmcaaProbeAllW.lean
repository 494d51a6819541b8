/-
  ProbeAll, of layer 13: the walk, out of what is asked of the project's plan of probes.
-/
import Derived.Test.YtgneieelfapmcaaPrA
import Derived.Test.YtgneieelfapmcaaPrX
namespace Go.Proofs.Ytgneieelfapmcaa
open Go.RowKit
set_option maxRecDepth 100000

theorem ansC_length (p : Pb) (i n : Int) : (ansC p i n).l.length = p.l.length := by
  unfold ansC
  cases ansB p i n with
  | false => rfl
  | true => exact List.length_modify _ _ _
section
variable {X : Nat → Pb → Thing} {w0 w w' : World} {N : Nat → Prop} {b : Nat} {p : Pb} {t : Int} {k : Nat}
theorem Solo.answers (C : ProbeC X) (h : Solo w0 (X b p) N w) (hp : PrI t k p) (i n : Int) (hi : I64 i) (hn : U64 n) :
    Calls Try.prog 15 #[.pointer (some ⟨b, 0, none⟩), .int .i64 i, .int .u64 n] w fun e w' => e = .returned (.bool (ansB p i n)) ∧ Solo w0 (X b (ansC p i n)) N w' ∧ (∀ k, N k → w'.heap[k]? = w.heap[k]?) ∧ w.heap.size ≤ w'.heap.size := by
  obtain ⟨⟨S, h1, h2⟩, h3, h4⟩ := h
  refine (C.answer b p t k i n S w h1 hp hi hn).mono ?_
  rintro e w' ⟨he, ht⟩
  exact ⟨he, (Solo.turn h3 h4 h2 ht).1, (Solo.turn h3 h4 h2 ht).2, ht.off.size⟩
end

set_option maxHeartbeats 64000000 in
theorem proball_true {X : Nat → Pb → Thing} (C : ProbeC X) (n ev la : Int) (W : World) (hn : I64 n) (hev : U64 ev) (hla : U64 la) :
    Calls Try.prog 5 #[.int .i64 n, .int .u64 ev, .int .u64 la, .bool true] W fun e w' => e = .returned (.bool true) ∧ Below W.heap.size W w' := by
  have HC := Lib.hid C
  have HAW := Lib.hid (awake13_ok C W)
  clear C
  go_enter Try.func5, Try.ntmps5
  go_wp2_with fail
  refine HAW.out.mono ?_
  rintro e w1 ⟨rfl, k1⟩
  have HK1 := Lib.hid k1
  clear HAW k1
  by_cases hok : newOk13 n ev la
  rotate_left
  · have HB := Lib.hid (HC.out.bad n ev la w1 hn hev hla hok)
    go_wp2_with fail
    refine HB.out.mono ?_
    rintro e w3 ⟨rfl, k3⟩
    have HK3 := Lib.hid (HK1.out.trans (k3.mono HK1.out.size))
    clear HB k3 HK1 hok
    go_wp2_with fail
    go_ret
    exact ⟨rfl, HK3.out⟩
  have HG := Lib.hid (HC.out.good n ev la w1 hok)
  obtain ⟨m, hm⟩ : ∃ m : Nat, n = m := ⟨n.toNat, by unfold newOk13 at hok; omega⟩
  have HL0 : Hid ((newPb n ev la).l.length = m ∧ (newPb n ev la).ev = ev ∧ (newPb n ev la).la = la) := Lib.hid ⟨by simp [newPb, hm], rfl, rfl⟩
  have HP0 := Lib.hid (PrI.new hok)
  have HN0 : Hid (NdsA true (newPb n ev la).ev (newPb n ev la).la 0 (newPb n ev la).l) := Lib.hid (NdsA.new true n ev la)
  have hm6 : m ≤ 6 := by unfold newOk13 at hok; omega
  have hev1 : 1 ≤ ev := hok.2.2.1
  have hla1 : 1 ≤ la := hok.2.2.2.2.1
  have hevm : ev ≤ 1000 := hok.2.2.2.1
  have hlam : la ≤ 1000 := hok.2.2.2.2.2
  subst hm
  clear hok
  obtain ⟨p0, hp0⟩ : ∃ p, newPb m ev la = p := ⟨_, rfl⟩
  rw [hp0] at HG HL0 HP0 HN0
  clear hp0
  go_wp2_with fail
  refine HG.out.mono ?_
  rintro e w3 ⟨b, rfl, ⟨S3, x3, y3⟩, k3⟩
  have HS3 : Hid (Solo W (X b p0) noneB w3) := Lib.hid (Solo.make HK1.out x3 y3 k3)
  clear HG x3 y3 k3 HK1
  by_cases he20 : ev ≤ 20
  rotate_left
  · have HLW := Lib.hid HS3.out.low
    have he20' : (20 : Int) < ev := by omega
    clear he20
    go_wp2_with fail
    go_ret
    exact ⟨rfl, HLW.out⟩
  by_cases hl20 : la ≤ 20
  rotate_left
  · have HLW := Lib.hid HS3.out.low
    have hl20' : (20 : Int) < la := by omega
    have he20' : ¬ (20 : Int) < ev := by omega
    clear hl20 he20
    go_wp2_with fail
    go_ret
    exact ⟨rfl, HLW.out⟩
  have hl20' : ¬ (20 : Int) < la := by omega
  have he20' : ¬ (20 : Int) < ev := by omega
  clear hevm hlam
  go_wp2_with fail
  go_loopw [37] (fun i wr => ∃ (k : Nat) (p : Pb), k ≤ 100 ∧ i = .int .u64 k ∧ Hid (PrI k k p) ∧ Hid (p.l.length = m ∧ p.ev = ev ∧ p.la = la) ∧ Hid (NdsA true p.ev p.la k p.l) ∧ Hid (Solo W (X b p) noneB wr)) (fun i _ => 100 - (intOf i).toNat)
  case atStart => exact ⟨0, p0, Nat.zero_le _, rfl, HP0, HL0, HN0, HS3⟩
  case round =>
    obtain ⟨k, p, hk, rfl, HP, HLE, HNA, hS⟩ := hrel
    clear HP0 HL0 HN0 HS3
    by_cases hlt : k < 100
    · have HT := Lib.hid (hS.out.tick HC.out HP.out (now := (k : Int)) (Int.le_refl _) (by omega) (by omega))
      clear hS
      go_wp2_with fail
      refine HT.out.mono ?_
      rintro e w5 ⟨A, n5, c5, B, m5, d5, rfl, ha, hb, hs5, _, _, _⟩
      have hlA : (tickA p k).length = n5 := ha.len
      have hm5 : m5 = 0 := by rw [← hb.len, HNA.out.none_late]; rfl
      subst hm5
      have hp0 := HP.out.n0
      have HDL : Hid (askF k p.last 0 (p.l.map (dropN p.la k)) = tickA p k) := Lib.hid rfl
      have hcn : ((tickA p k).length : Int) = cntF k (p.l.map (dropN p.la k)) := askF_length _ _ _ _
      have HLD : Hid ((p.l.map (dropN p.la k)).length = m) := Lib.hid (by rw [List.length_map]; exact HLE.out.1)
      have hLT : (tickC p k).l.length = p.l.length := by
        show (runF _ _ _ _).length = _
        rw [runF_length]
        simp
      have HPT := Lib.hid ((HP.out.tick (now := (k : Int)) (Int.le_refl _)))
      have hEV : (tickC p k).ev = ev ∧ (tickC p k).la = la := HLE.out.2
      have hNX := HNA.out.all hp0 (by rw [HLE.out.2.1]; exact hev1) (by rw [HLE.out.2.2]; exact hla1) hLT
      have hAK : ∀ (j : Nat) (hj : j < (p.l.map (dropN p.la k)).length), askB k (p.l.map (dropN p.la k))[j] = decide ((j : Int) ≤ k ∧ (k - j) % stepA true ev la = 0) := fun j hj => (HNA.out.ask (by rw [HLE.out.2.1]; exact hev1) hj).trans (by rw [HLE.out.2.1, HLE.out.2.2])
      have hO0 : ∀ (j : Nat) (hj : j < (p.l.map (dropN p.la k)).length) (hj1 : j < (tickC p k).l.length), askB k (p.l.map (dropN p.la k))[j] = false → (tickC p k).l[j].o = 0 := fun j hj hj1 h => HNA.out.out0 hp0 hj hj1 h
      have hO1 : ∀ (j : Nat) (hj : j < (p.l.map (dropN p.la k)).length) (hj1 : j < (tickC p k).l.length), askB k (p.l.map (dropN p.la k))[j] = true → (tickC p k).l[j].o ≠ 0 := fun j hj hj1 h => NdsA.out1 hp0 hj hj1 h
      rw [HLE.out.2.1, HLE.out.2.2] at hNX
      rw [HLE.out.1] at hLT
      have hcm := cntF_le k (p.l.map (dropN p.la k))
      rw [HLD.out] at hcm
      rw [← hcn, hlA] at hcm
      rw [hlA] at hcn
      obtain ⟨dl, hdl⟩ : ∃ y, p.l.map (dropN p.la k) = y := ⟨_, rfl⟩
      obtain ⟨p4, hp4⟩ : ∃ y, tickC p k = y := ⟨_, rfl⟩
      obtain ⟨ta, hta⟩ : ∃ y, tickA p k = y := ⟨_, rfl⟩
      obtain ⟨lp, hlp⟩ : ∃ y, p.last = y := ⟨_, rfl⟩
      rw [hdl] at hcn HDL HLD hAK hO0 hO1
      rw [hp4] at hLT HPT hEV hNX hs5 hO0 hO1
      rw [hta] at HDL ha hlA
      rw [hlp] at HDL
      have HCN := Lib.hid hcn
      have HLT := Lib.hid hLT
      have HEV := Lib.hid hEV
      have HNX := Lib.hid hNX
      have HAK := Lib.hid hAK
      have HA5 := Lib.hid ha
      have HLA := Lib.hid hlA
      obtain ⟨st, hst⟩ : ∃ y, stepA true ev la = y := ⟨_, rfl⟩
      have hst1 : 1 ≤ st ∧ st ≤ 20 := by rw [← hst]; unfold stepA; simp; omega
      rw [hst] at HAK
      have hse : st = ev := by rw [← hst]; rfl
      subst hse
      have HO0 := Lib.hid hO0
      have HO1 := Lib.hid hO1
      clear hO0 hO1
      obtain ⟨hst1, hst2⟩ := hst1
      have hst0 : ¬ st = 0 := by omega
      have HS5 : Hid (Solo W (X b (zerP p4 0)) (fun k => rowB2 A B k ∨ noneB k) w5) := Lib.hid (by rw [zerP_zero]; exact hs5)
      have HPT0 : Hid (PrI k (k + 1) (zerP p4 0)) := Lib.hid (by rw [zerP_zero]; exact HPT.out)
      have h50 : n5 ≤ 6 := by omega
      clear HT hcn hLT hEV hNX hAK ha hlA hst hdl hp4 hta hlp hs5 HP HLE HNA hcm hp0 hb HPT
      go_wp2_with fail
      obtain ⟨wo, hwo'⟩ : ∃ x, x = wr := ⟨wr, rfl⟩
      subst hwo'
      go_loopw [14, 54] (fun nx i wi => ∃ j : Nat, j ≤ m ∧ i = .int .u64 j ∧ nx = .int .i64 (cntF k (dl.take j)) ∧ Hid (Solo W (X b (zerP p4 j)) (fun k => rowB2 A B k ∨ noneB k) wi) ∧ Hid (AK wi A n5 ta) ∧ Hid (PrI k (k + 1) (zerP p4 j))) (fun _ i _ => m - (intOf i).toNat)
      case atStart => exact ⟨0, Nat.zero_le _, rfl, rfl, HS5, HA5, HPT0⟩
      case round =>
        obtain ⟨j, hj, rfl, rfl, hs, ha, hpj⟩ := hrel
        clear HS5 HA5 HPT0
        have hc0 := cntF_nonneg k (dl.take j)
        have hc1 := cntF_le k (dl.take j)
        rw [List.length_take] at hc1
        obtain ⟨q, hq⟩ : ∃ q : Nat, cntF k (dl.take j) = q := ⟨(cntF k (dl.take j)).toNat, by omega⟩
        by_cases hltj : j < m
        · have hjd : j < dl.length := by rw [HLD.out]; exact hltj
          have hj4 : j < p4.l.length := by rw [HLT.out]; exact hltj
          have hak := HAK.out j hjd
          have hnext : cntF k (dl.take (j + 1)) = q + (if askB k dl[j] = true then 1 else 0) := by
            rw [List.take_succ_eq_append_getElem hjd, ← hq]
            unfold cntF
            rw [List.filter_append, List.length_append]
            cases h : askB (k : Int) dl[j] <;> simp [h]
          by_cases hask : askB k dl[j] = true
          · have hq0 : (cntF k (dl.take j)).toNat = q := by omega
            obtain ⟨hqt, hget⟩ : ∃ hq : q < ta.length, (ta[q]).1 = (j : Int) := by
              have h := askF_this (now := (k : Int)) (n := lp) hjd hask
              simp only [HDL.out, hq0] at h
              exact h
            rw [if_pos hask] at hnext
            rw [hask] at hak
            replace hak := of_decide_eq_true hak.symm
            have hqn : q < n5 := by rw [← HLA.out]; exact hqt
            obtain ⟨ad, hA, _, hc⟩ := ha.out.at_ hqt
            obtain ⟨d1, d2⟩ := hc wr (Below.refl _ _)
            rw [hget] at d1
            have HNXT := Lib.hid hnext
            obtain ⟨hjk, hmod⟩ := hak
            have hqlt : (q : Int) < (n5 : Int) := by omega
            have hge : ¬ (k : Int) < j := by omega
            have hws : IntKind.u64.wrap ((k : Int) - j) = (k : Int) - j := by rw [IntKind.wrap_u64]; omega
            have hwq : IntKind.i64.wrap ((q : Int) + 1) = (q : Int) + 1 := by rw [IntKind.wrap_i64]; omega
            rw [hq]
            obtain ⟨no, hno⟩ : ∃ y, p4.l[j].o = y := ⟨_, rfl⟩
            have ho1 := HO1.out j hjd hj4 hask
            have ho2 := zerP_out hj4
            obtain ⟨ho3, ho4⟩ := zerP_ans hj4 ho1
            rw [hno] at ho1 ho2 ho3 ho4
            have hji : I64 (j : Int) := ⟨by omega, by omega⟩
            have hou := hpj.out.outU (by omega) (j : Int)
            rw [ho2] at hou
            have HOU := Lib.hid hou
            have HO := hs.out.out HC.out hpj.out (j : Int) hji
            rw [ho2] at HO
            have HO := Lib.hid HO
            have HJI := Lib.hid hji
            have HBA := Lib.hid ho3
            have HCA := Lib.hid ho4
            subst hA
            clear hc0 hc1 d2 hc hget hask hq hq0 hnext hno ho1 ho2 ho3 ho4 hji hou hs hjd hj4 hqt
            go_wp2_with fail
            refine HO.out.mono ?_
            rintro e w8 ⟨rfl, s8, k8⟩
            have HAN := s8.answers HC.out hpj.out (j : Int) no HJI.out HOU.out
            rw [HBA.out, HCA.out] at HAN
            have HAN := Lib.hid HAN
            have HA8 := Lib.hid (ha.out.next k8)
            have HPJ : Hid (PrI k (k + 1) (zerP p4 (j + 1))) := Lib.hid (HCA.out ▸ hpj.out.ans (j : Int) no)
            clear HO s8 k8 ha hpj
            go_wp2_with fail
            refine HAN.out.mono ?_
            rintro e w9 ⟨rfl, s9, q9, z9⟩
            have HS9 := Lib.hid s9
            have HA9 := Lib.hid (HA8.out.kept z9 fun i hi => q9 i (.inl (.inl hi)))
            clear HAN s9 q9 z9 HA8 HBA HCA
            go_wp2_with fail
            go_roundw
            case rel => exact ⟨j + 1, by omega, by go_num, by rw [HNXT.out], HS9, HA9, HPJ⟩
            case measure => simp [intOf]; omega
          · obtain hask : askB k dl[j] = false := by simpa using hask
            rw [if_neg (by rw [hask]; simp)] at hnext
            rw [hask] at hak
            replace hak := of_decide_eq_false hak.symm
            have HNXT : Hid (cntF k (dl.take (j + 1)) = q) := Lib.hid (by rw [hnext]; omega)
            have hq0 : (cntF k (dl.take j)).toNat = q := by omega
            have hot : ∀ hq : q < ta.length, (ta[q]).1 ≠ (j : Int) := by
              have h := askF_other (now := (k : Int)) (n := lp) hjd hask
              simp only [HDL.out, hq0] at h
              exact h
            rw [hq]
            have hz := zerP_skip hj4 (HO0.out j hjd hj4 hask)
            have HS9 : Hid (Solo W (X b (zerP p4 (j + 1))) (fun k => rowB2 A B k ∨ noneB k) wr) := Lib.hid (by rw [hz]; exact hs.out)
            have HPJ : Hid (PrI k (k + 1) (zerP p4 (j + 1))) := Lib.hid (by rw [hz]; exact hpj.out)
            have HA9 := ha
            clear hz hpj
            by_cases hqn : q < n5
            · have hqt : q < ta.length := by rw [HLA.out]; exact hqn
              have hne := hot hqt
              obtain ⟨ad, hA, _, hc⟩ := ha.out.at_ hqt
              obtain ⟨d1, d2⟩ := hc wr (Below.refl _ _)
              obtain ⟨v, hv⟩ : ∃ y, (ta[q]).1 = y := ⟨_, rfl⟩
              rw [hv] at d1 hne
              have hne' : (v == (j : Int)) = false := by simpa using hne
              subst hA
              clear d2 hc hv hne hot
              clear hc0 hc1 hask hs hj4 hq hq0 hnext ha
              by_cases hjk : (j : Int) ≤ k
              · have hmod : ¬ ((k : Int) - j) % st = 0 := fun h => hak ⟨hjk, h⟩
                have hmod' : (((k : Int) - j) % st == 0) = false := by simpa using hmod
                have hge : ¬ (k : Int) < j := by omega
                have hws : IntKind.u64.wrap ((k : Int) - j) = (k : Int) - j := by rw [IntKind.wrap_u64]; omega
                clear hak hmod
                go_wp2_with fail
                go_roundw
                case rel => exact ⟨j + 1, by omega, by go_num, by rw [HNXT.out], HS9, HA9, HPJ⟩
                case measure => simp [intOf]; omega
              · have hlt2 : (k : Int) < j := by omega
                clear hak hjk
                go_wp2_with fail
                go_roundw
                case rel => exact ⟨j + 1, by omega, by go_num, by rw [HNXT.out], HS9, HA9, HPJ⟩
                case measure => simp [intOf]; omega
            · have hqn' : ¬ (q : Int) < (n5 : Int) := by omega
              clear hot hqn
              clear hc0 hc1 hask hs hj4 hq hq0 hnext ha
              by_cases hjk : (j : Int) ≤ k
              · have hmod : ¬ ((k : Int) - j) % st = 0 := fun h => hak ⟨hjk, h⟩
                have hmod' : (((k : Int) - j) % st == 0) = false := by simpa using hmod
                have hge : ¬ (k : Int) < j := by omega
                have hws : IntKind.u64.wrap ((k : Int) - j) = (k : Int) - j := by rw [IntKind.wrap_u64]; omega
                clear hak hmod
                go_wp2_with fail
                go_roundw
                case rel => exact ⟨j + 1, by omega, by go_num, by rw [HNXT.out], HS9, HA9, HPJ⟩
                case measure => simp [intOf]; omega
              · have hlt2 : (k : Int) < j := by omega
                clear hak hjk
                go_wp2_with fail
                go_roundw
                case rel => exact ⟨j + 1, by omega, by go_num, by rw [HNXT.out], HS9, HA9, HPJ⟩
                case measure => simp [intOf]; omega
        · obtain rfl : j = m := by omega
          rw [List.take_of_length_le (by rw [HLD.out]; exact Nat.le_refl _)] at hq ⊢
          have hqn : q = n5 := by have := HCN.out; omega
          rw [hq]
          subst hqn
          have HSZ := hs
          clear hs ha hq hc0 hc1
          go_wp2_with fail
          go_roundw
          case rel => exact ⟨k + 1, zerP p4 j, by omega, by go_num, Lib.hid (by exact_mod_cast hpj.out.later (t' := ((k + 1 : Nat) : Int)) (by omega)), Lib.hid ⟨(zerL_length _ _).trans HLT.out, HEV.out⟩, Lib.hid (by have h := HNX.out; rw [← zerP_done, HLT.out] at h; show NdsA true p4.ev p4.la _ _; rw [HEV.out.1, HEV.out.2]; exact_mod_cast h), Lib.hid (HSZ.out.less fun _ h => .inr h)⟩
          case measure => simp [intOf]; omega
    · have HLW := Lib.hid hS.out.low
      clear hS
      go_wp2_with fail
      go_ret
      exact ⟨rfl, HLW.out⟩

set_option maxHeartbeats 64000000 in
theorem proball_false {X : Nat → Pb → Thing} (C : ProbeC X) (n ev la : Int) (W : World) (hn : I64 n) (hev : U64 ev) (hla : U64 la) :
    Calls Try.prog 5 #[.int .i64 n, .int .u64 ev, .int .u64 la, .bool false] W fun e w' => e = .returned (.bool true) ∧ Below W.heap.size W w' := by
  have HC := Lib.hid C
  have HAW := Lib.hid (awake13_ok C W)
  clear C
  go_enter Try.func5, Try.ntmps5
  go_wp2_with fail
  refine HAW.out.mono ?_
  rintro e w1 ⟨rfl, k1⟩
  have HK1 := Lib.hid k1
  clear HAW k1
  by_cases hok : newOk13 n ev la
  rotate_left
  · have HB := Lib.hid (HC.out.bad n ev la w1 hn hev hla hok)
    go_wp2_with fail
    refine HB.out.mono ?_
    rintro e w3 ⟨rfl, k3⟩
    have HK3 := Lib.hid (HK1.out.trans (k3.mono HK1.out.size))
    clear HB k3 HK1 hok
    go_wp2_with fail
    go_ret
    exact ⟨rfl, HK3.out⟩
  have HG := Lib.hid (HC.out.good n ev la w1 hok)
  obtain ⟨m, hm⟩ : ∃ m : Nat, n = m := ⟨n.toNat, by unfold newOk13 at hok; omega⟩
  have HL0 : Hid ((newPb n ev la).l.length = m ∧ (newPb n ev la).ev = ev ∧ (newPb n ev la).la = la) := Lib.hid ⟨by simp [newPb, hm], rfl, rfl⟩
  have HP0 := Lib.hid (PrI.new hok)
  have HN0 : Hid (NdsA false (newPb n ev la).ev (newPb n ev la).la 0 (newPb n ev la).l) := Lib.hid (NdsA.new false n ev la)
  have hm6 : m ≤ 6 := by unfold newOk13 at hok; omega
  have hev1 : 1 ≤ ev := hok.2.2.1
  have hla1 : 1 ≤ la := hok.2.2.2.2.1
  have hevm : ev ≤ 1000 := hok.2.2.2.1
  have hlam : la ≤ 1000 := hok.2.2.2.2.2
  subst hm
  clear hok
  obtain ⟨p0, hp0⟩ : ∃ p, newPb m ev la = p := ⟨_, rfl⟩
  rw [hp0] at HG HL0 HP0 HN0
  clear hp0
  go_wp2_with fail
  refine HG.out.mono ?_
  rintro e w3 ⟨b, rfl, ⟨S3, x3, y3⟩, k3⟩
  have HS3 : Hid (Solo W (X b p0) noneB w3) := Lib.hid (Solo.make HK1.out x3 y3 k3)
  clear HG x3 y3 k3 HK1
  by_cases he20 : ev ≤ 20
  rotate_left
  · have HLW := Lib.hid HS3.out.low
    have he20' : (20 : Int) < ev := by omega
    clear he20
    go_wp2_with fail
    go_ret
    exact ⟨rfl, HLW.out⟩
  by_cases hl20 : la ≤ 20
  rotate_left
  · have HLW := Lib.hid HS3.out.low
    have hl20' : (20 : Int) < la := by omega
    have he20' : ¬ (20 : Int) < ev := by omega
    clear hl20 he20
    go_wp2_with fail
    go_ret
    exact ⟨rfl, HLW.out⟩
  have hl20' : ¬ (20 : Int) < la := by omega
  have he20' : ¬ (20 : Int) < ev := by omega
  clear hevm hlam
  go_wp2_with fail
  go_loopw [37] (fun i wr => ∃ (k : Nat) (p : Pb), k ≤ 100 ∧ i = .int .u64 k ∧ Hid (PrI k k p) ∧ Hid (p.l.length = m ∧ p.ev = ev ∧ p.la = la) ∧ Hid (NdsA false p.ev p.la k p.l) ∧ Hid (Solo W (X b p) noneB wr)) (fun i _ => 100 - (intOf i).toNat)
  case atStart => exact ⟨0, p0, Nat.zero_le _, rfl, HP0, HL0, HN0, HS3⟩
  case round =>
    obtain ⟨k, p, hk, rfl, HP, HLE, HNA, hS⟩ := hrel
    clear HP0 HL0 HN0 HS3
    by_cases hlt : k < 100
    · have HT := Lib.hid (hS.out.tick HC.out HP.out (now := (k : Int)) (Int.le_refl _) (by omega) (by omega))
      clear hS
      go_wp2_with fail
      refine HT.out.mono ?_
      rintro e w5 ⟨A, n5, c5, B, m5, d5, rfl, ha, hb, hs5, _, _, _⟩
      have hlA : (tickA p k).length = n5 := ha.len
      clear hb
      have hb := trivial
      have hp0 := HP.out.n0
      have HDL : Hid (askF k p.last 0 (p.l.map (dropN p.la k)) = tickA p k) := Lib.hid rfl
      have hcn : ((tickA p k).length : Int) = cntF k (p.l.map (dropN p.la k)) := askF_length _ _ _ _
      have HLD : Hid ((p.l.map (dropN p.la k)).length = m) := Lib.hid (by rw [List.length_map]; exact HLE.out.1)
      have hLT : (tickC p k).l.length = p.l.length := by
        show (runF _ _ _ _).length = _
        rw [runF_length]
        simp
      have HPT := Lib.hid ((HP.out.tick (now := (k : Int)) (Int.le_refl _)))
      have hEV : (tickC p k).ev = ev ∧ (tickC p k).la = la := HLE.out.2
      have hNX := HNA.out.stay hp0 (by rw [HLE.out.2.1]; exact hev1) (by rw [HLE.out.2.2]; exact hla1) hLT
      have hAK : ∀ (j : Nat) (hj : j < (p.l.map (dropN p.la k)).length), askB k (p.l.map (dropN p.la k))[j] = decide ((j : Int) ≤ k ∧ (k - j) % stepA false ev la = 0) := fun j hj => (HNA.out.ask (by rw [HLE.out.2.1]; exact hev1) hj).trans (by rw [HLE.out.2.1, HLE.out.2.2])
      rw [HLE.out.2.1, HLE.out.2.2] at hNX
      rw [HLE.out.1] at hLT
      have hcm := cntF_le k (p.l.map (dropN p.la k))
      rw [HLD.out] at hcm
      rw [← hcn, hlA] at hcm
      rw [hlA] at hcn
      obtain ⟨dl, hdl⟩ : ∃ y, p.l.map (dropN p.la k) = y := ⟨_, rfl⟩
      obtain ⟨p4, hp4⟩ : ∃ y, tickC p k = y := ⟨_, rfl⟩
      obtain ⟨ta, hta⟩ : ∃ y, tickA p k = y := ⟨_, rfl⟩
      obtain ⟨lp, hlp⟩ : ∃ y, p.last = y := ⟨_, rfl⟩
      rw [hdl] at hcn HDL HLD hAK
      rw [hp4] at hLT HPT hEV hNX hs5
      rw [hta] at HDL ha hlA
      rw [hlp] at HDL
      have HCN := Lib.hid hcn
      have HLT := Lib.hid hLT
      have HEV := Lib.hid hEV
      have HNX := Lib.hid hNX
      have HAK := Lib.hid hAK
      have HA5 := Lib.hid ha
      have HLA := Lib.hid hlA
      obtain ⟨st, hst⟩ : ∃ y, stepA false ev la = y := ⟨_, rfl⟩
      have hst1 : 1 ≤ st ∧ st ≤ 20 := by rw [← hst]; unfold stepA; simp; split <;> omega
      rw [hst] at HAK
      have hmx : ∀ (u : World) (ts : Array TypeId) (ty : TypeId), (Builtin.max_ ts ty #[.int .u64 ev, .int .u64 la]).run Try.prog u = .ok (.int .u64 st) u := fun u ts ty => by
        rw [run_max_int2 (P := Try.prog) (w := u) ts ty .u64 .u64 ev la, ← hst]
        unfold stepA
        simp
      obtain ⟨hst1, hst2⟩ := hst1
      have hst0 : ¬ st = 0 := by omega
      have HS5 : Hid (Solo W (X b p4) (fun k => rowB2 A B k ∨ noneB k) w5) := Lib.hid (hs5)
      have HPTK : Hid (PrI ((k + 1 : Nat) : Int) (k + 1) p4) := Lib.hid (HPT.out.later (by omega))
      have h50 : n5 ≤ 6 := by omega
      clear HT hcn hLT hEV hNX hAK ha hlA hst hdl hp4 hta hlp hs5 HP HLE HNA hcm hp0 hb HPT
      go_wp2_with fail
      obtain ⟨wo, hwo'⟩ : ∃ x, x = wr := ⟨wr, rfl⟩
      subst hwo'
      go_loopw [14, 54] (fun nx i wi => ∃ j : Nat, j ≤ m ∧ i = .int .u64 j ∧ nx = .int .i64 (cntF k (dl.take j)) ∧ Hid (Solo W (X b p4) (fun k => rowB2 A B k ∨ noneB k) wi) ∧ Hid (AK wi A n5 ta)) (fun _ i _ => m - (intOf i).toNat)
      case atStart => exact ⟨0, Nat.zero_le _, rfl, rfl, HS5, HA5⟩
      case round =>
        obtain ⟨j, hj, rfl, rfl, hs, ha⟩ := hrel
        clear HS5 HA5
        have hc0 := cntF_nonneg k (dl.take j)
        have hc1 := cntF_le k (dl.take j)
        rw [List.length_take] at hc1
        obtain ⟨q, hq⟩ : ∃ q : Nat, cntF k (dl.take j) = q := ⟨(cntF k (dl.take j)).toNat, by omega⟩
        by_cases hltj : j < m
        · have hjd : j < dl.length := by rw [HLD.out]; exact hltj
          have hj4 : j < p4.l.length := by rw [HLT.out]; exact hltj
          have hak := HAK.out j hjd
          have hnext : cntF k (dl.take (j + 1)) = q + (if askB k dl[j] = true then 1 else 0) := by
            rw [List.take_succ_eq_append_getElem hjd, ← hq]
            unfold cntF
            rw [List.filter_append, List.length_append]
            cases h : askB (k : Int) dl[j] <;> simp [h]
          by_cases hask : askB k dl[j] = true
          · have hq0 : (cntF k (dl.take j)).toNat = q := by omega
            obtain ⟨hqt, hget⟩ : ∃ hq : q < ta.length, (ta[q]).1 = (j : Int) := by
              have h := askF_this (now := (k : Int)) (n := lp) hjd hask
              simp only [HDL.out, hq0] at h
              exact h
            rw [if_pos hask] at hnext
            rw [hask] at hak
            replace hak := of_decide_eq_true hak.symm
            have hqn : q < n5 := by rw [← HLA.out]; exact hqt
            obtain ⟨ad, hA, _, hc⟩ := ha.out.at_ hqt
            obtain ⟨d1, d2⟩ := hc wr (Below.refl _ _)
            rw [hget] at d1
            have HNXT := Lib.hid hnext
            obtain ⟨hjk, hmod⟩ := hak
            have hqlt : (q : Int) < (n5 : Int) := by omega
            have hge : ¬ (k : Int) < j := by omega
            have hws : IntKind.u64.wrap ((k : Int) - j) = (k : Int) - j := by rw [IntKind.wrap_u64]; omega
            have hwq : IntKind.i64.wrap ((q : Int) + 1) = (q : Int) + 1 := by rw [IntKind.wrap_i64]; omega
            rw [hq]
            have HS9 := hs
            have HA9 := ha
            subst hA
            clear hc0 hc1 d2 hc hget hask hq hq0 hnext hs hjd hj4 hqt ha
            go_wp2_with fail
            go_roundw
            case rel => exact ⟨j + 1, by omega, by go_num, by rw [HNXT.out], HS9, HA9⟩
            case measure => simp [intOf]; omega
          · obtain hask : askB k dl[j] = false := by simpa using hask
            rw [if_neg (by rw [hask]; simp)] at hnext
            rw [hask] at hak
            replace hak := of_decide_eq_false hak.symm
            have HNXT : Hid (cntF k (dl.take (j + 1)) = q) := Lib.hid (by rw [hnext]; omega)
            have hq0 : (cntF k (dl.take j)).toNat = q := by omega
            have hot : ∀ hq : q < ta.length, (ta[q]).1 ≠ (j : Int) := by
              have h := askF_other (now := (k : Int)) (n := lp) hjd hask
              simp only [HDL.out, hq0] at h
              exact h
            rw [hq]
            have HS9 := hs
            have HA9 := ha
            by_cases hqn : q < n5
            · have hqt : q < ta.length := by rw [HLA.out]; exact hqn
              have hne := hot hqt
              obtain ⟨ad, hA, _, hc⟩ := ha.out.at_ hqt
              obtain ⟨d1, d2⟩ := hc wr (Below.refl _ _)
              obtain ⟨v, hv⟩ : ∃ y, (ta[q]).1 = y := ⟨_, rfl⟩
              rw [hv] at d1 hne
              have hne' : (v == (j : Int)) = false := by simpa using hne
              subst hA
              clear d2 hc hv hne hot
              clear hc0 hc1 hask hs hj4 hq hq0 hnext ha
              by_cases hjk : (j : Int) ≤ k
              · have hmod : ¬ ((k : Int) - j) % st = 0 := fun h => hak ⟨hjk, h⟩
                have hmod' : (((k : Int) - j) % st == 0) = false := by simpa using hmod
                have hge : ¬ (k : Int) < j := by omega
                have hws : IntKind.u64.wrap ((k : Int) - j) = (k : Int) - j := by rw [IntKind.wrap_u64]; omega
                clear hak hmod
                go_wp2_with fail
                go_roundw
                case rel => exact ⟨j + 1, by omega, by go_num, by rw [HNXT.out], HS9, HA9⟩
                case measure => simp [intOf]; omega
              · have hlt2 : (k : Int) < j := by omega
                clear hak hjk
                go_wp2_with fail
                go_roundw
                case rel => exact ⟨j + 1, by omega, by go_num, by rw [HNXT.out], HS9, HA9⟩
                case measure => simp [intOf]; omega
            · have hqn' : ¬ (q : Int) < (n5 : Int) := by omega
              clear hot hqn
              clear hc0 hc1 hask hs hj4 hq hq0 hnext ha
              by_cases hjk : (j : Int) ≤ k
              · have hmod : ¬ ((k : Int) - j) % st = 0 := fun h => hak ⟨hjk, h⟩
                have hmod' : (((k : Int) - j) % st == 0) = false := by simpa using hmod
                have hge : ¬ (k : Int) < j := by omega
                have hws : IntKind.u64.wrap ((k : Int) - j) = (k : Int) - j := by rw [IntKind.wrap_u64]; omega
                clear hak hmod
                go_wp2_with fail
                go_roundw
                case rel => exact ⟨j + 1, by omega, by go_num, by rw [HNXT.out], HS9, HA9⟩
                case measure => simp [intOf]; omega
              · have hlt2 : (k : Int) < j := by omega
                clear hak hjk
                go_wp2_with fail
                go_roundw
                case rel => exact ⟨j + 1, by omega, by go_num, by rw [HNXT.out], HS9, HA9⟩
                case measure => simp [intOf]; omega
        · obtain rfl : j = m := by omega
          rw [List.take_of_length_le (by rw [HLD.out]; exact Nat.le_refl _)] at hq ⊢
          have hqn : q = n5 := by have := HCN.out; omega
          rw [hq]
          subst hqn
          have HSZ := hs
          clear hs ha hq hc0 hc1
          go_wp2_with fail
          go_roundw
          case rel => exact ⟨k + 1, p4, by omega, by go_num, Lib.hid (HPTK.out), Lib.hid ⟨HLT.out, HEV.out⟩, Lib.hid (by rw [HEV.out.1, HEV.out.2]; exact_mod_cast HNX.out), Lib.hid (HSZ.out.less fun _ h => .inr h)⟩
          case measure => simp [intOf]; omega
    · have HLW := Lib.hid hS.out.low
      clear hS
      go_wp2_with fail
      go_ret
      exact ⟨rfl, HLW.out⟩

theorem proball_walk {X : Nat → Pb → Thing} (C : ProbeC X) (n ev la : Int) (ans : Bool) (W : World) (hn : I64 n) (hev : U64 ev) (hla : U64 la) :
    Calls Try.prog 5 #[.int .i64 n, .int .u64 ev, .int .u64 la, .bool ans] W fun e w' => e = .returned (.bool true) ∧ Below W.heap.size W w' := by
  cases ans with
  | true => exact proball_true C n ev la W hn hev hla
  | false => exact proball_false C n ev la W hn hev hla
end Go.Proofs.Ytgneieelfapmcaa
