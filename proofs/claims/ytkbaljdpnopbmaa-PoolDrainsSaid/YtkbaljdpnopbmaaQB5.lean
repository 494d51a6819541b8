/-
  Contracts and plain functions that the law stands on, part 5 of 5.
-/
import Derived.Test.YtkbaljdpnopbmaaQB4
namespace Go.Proofs.Ytkbaljdpnopbmaa
/- PoolDrains, of layer 10: the walk. -/
section
open Go.RowKit
set_option maxRecDepth 100000

set_option maxHeartbeats 32000000 in
theorem pooldrains_walk (mo m ep : Int) (A1 : Option Addr) (l1 c1 : Nat) (ts : List Act6) (A2 : Option Addr) (l2 c2 : Nat) (us : List Act6) (W : World) (r1 : AZ W A1 l1 ts) (r2 : AZ W A2 l2 us) :
    Calls Try.prog 5 #[.int .i64 mo, .int .i64 m, .int .u64 ep, .slice A1 l1 c1, .slice A2 l2 c2] W fun e w' => e = .returned (.bool true) ∧ Below W.heap.size W w' := by
  have HAW := Lib.hid (awake10_ok W)
  have R1 := Lib.hid r1
  have HN1 := Lib.hid r1.len
  have R2 := Lib.hid r2
  have HN2 := Lib.hid r2.len
  clear r1 r2
  go_enter Try.func5, Try.ntmps5
  go_wp2_with fail
  refine HAW.out.mono ?_
  rintro e w1 ⟨rfl, k1⟩
  have HK1 := Lib.hid k1
  clear HAW k1
  by_cases hg : 1 ≤ mo ∧ mo ≤ 6 ∧ 0 ≤ m ∧ m ≤ 12 ∧ (3 : Int) ≠ 0
  rotate_left
  · have HB := Lib.hid (ppnew_bad mo m (3 : Int) w1 hg)
    clear hg
    go_wp2_with fail
    refine HB.out.mono ?_
    rintro e w2 ⟨rfl, rfl⟩
    clear HB
    go_wp2_with fail
    go_ret
    exact ⟨rfl, HK1.out⟩
  obtain ⟨g1, g2, g3, g4, g5⟩ := hg
  have HP1 := Lib.hid (ppnew_good mo m (3 : Int) w1 g1 g2 g3 g4 g5)
  have HK0 := Lib.hid (KInv.new (mo := mo) (m := m) (by omega) g3)
  clear g5
  go_wp2_with fail
  refine HP1.out.mono ?_
  rintro e w2 ⟨b, S2, rfl, p2, q2, k2⟩
  have HS2 : Hid (Solo W (PP b mo (3 : Int) m ⟨[], [], 0⟩) noneB w2) := Lib.hid (Solo.make HK1.out p2 q2 k2)
  clear p2 q2 k2 HP1 HK1
  by_cases hbig : 100 < l1
  · have hb : (100 : Int) < (l1 : Int) := by omega
    have HLW := Lib.hid HS2.out.low
    clear hbig HS2
    go_wp2_with fail
    go_ret
    exact ⟨rfl, HLW.out⟩
  have hl1 : l1 ≤ 100 := by omega
  have hbl1 : ¬ (100 : Int) < (l1 : Int) := by omega
  clear hbig
  by_cases hbig : 100 < l2
  · have hb : (100 : Int) < (l2 : Int) := by omega
    have HLW := Lib.hid HS2.out.low
    clear hbig HS2
    go_wp2_with fail
    go_ret
    exact ⟨rfl, HLW.out⟩
  have hl2 : l2 ≤ 100 := by omega
  have hbl2 : ¬ (100 : Int) < (l2 : Int) := by omega
  clear hbig
  go_wp2_with fail
  go_loopw [49] (fun i wr => ∃ (k : Nat) (p : Pl), k ≤ l1 ∧ i = .int .i64 k ∧ Hid (KInv mo m k p) ∧ Hid (Solo W (PP b mo 3 m p) noneB wr)) (fun i _ => l1 - (intOf i).toNat)
  case atStart => exact ⟨0, _, Nat.zero_le _, rfl, HK0, HS2⟩
  case round =>
    obtain ⟨k, p, hk, rfl, HK, hD⟩ := hrel
    by_cases hlt : k < l1
    · clear HK0 HS2
      have hkl : k < ts.length := by rw [HN1.out]; exact hlt
      obtain ⟨ad, rfl, _, hcc⟩ := R1.out.at_ hkl
      obtain ⟨x0, x1, x2, x3, x4, x5⟩ := hcc wr hD.out.low
      clear hcc
      generalize ts[k] = t at *
      have HKN := Lib.hid (HK.out.do (by omega) 3 t)
      obtain ⟨d, ss, id, ep, now, n⟩ := t
      dsimp only at x0 x1 x2 x3 x4 x5
      have HDX := Lib.hid (hD.out.mark (.cells #[.int .i64 d, .int .i64 ss, .int .i64 id, .int .u64 ep, .int .u64 now, .int .u64 n] 30))
      have HDO := Lib.hid (HDX.out.act (⟨d, ss, id, ep, now, n⟩ : Act6) HK.out (by omega))
      dsimp only at HDO
      clear HDX hD
      go_wp2_with fail
      refine HDO.out.mono ?_
      rintro e w4 ⟨rfl, hs4, hk4, hz4⟩
      have HS4 := Lib.hid (hs4.less (N' := noneB) fun _ h => h.elim)
      clear hs4 hk4 hz4 HDO
      go_wp2_with fail
      go_roundw
      case rel => exact ⟨k + 1, _, by omega, by go_num, HKN, HS4⟩
      case measure => simp [intOf]; omega
    · have HD := hD
      clear hD HK0 HS2
      have HDR := Lib.hid (HD.out.op (Y := PP b mo 3 m (drainP ep p)) (Q := fun e _ => e = .returned (.tuple #[])) fun S hp => ppdrain_ok ep hp)
      have HK0 := Lib.hid (HK.out.drain (by omega) ep)
      have HI0 := Lib.hid (DInv.drain HK.out.inv ep)
      clear HD
      go_wp2_with fail
      refine HDR.out.mono ?_
      rintro e w3 ⟨rfl, hs3, _⟩
      have HS2 := Lib.hid hs3
      clear hs3 HDR
      go_wp2_with fail
      go_loopw [62] (fun i wr => ∃ (q : Nat) (p : Pl), q ≤ l2 ∧ i = .int .i64 q ∧ Hid (KInv mo m (k + 1 + q) p) ∧ Hid (DInv ep p.l) ∧ Hid (Solo W (PP b mo 3 m p) noneB wr)) (fun i _ => l2 - (intOf i).toNat)
      case atStart => exact ⟨0, _, Nat.zero_le _, rfl, HK0, HI0, HS2⟩
      case round =>
        obtain ⟨q, p, hq, rfl, HK, HI, hD⟩ := hrel
        by_cases hltq : q < l2
        · have hql : q < us.length := by rw [HN2.out]; exact hltq
          obtain ⟨ad, rfl, _, hcc⟩ := R2.out.at_ hql
          obtain ⟨x0, x1, x2, x3, x4, x5⟩ := hcc wr hD.out.low
          clear hcc HS2 HK0 HI0
          generalize us[q] = t at *
          have HKN := Lib.hid (HK.out.do (by omega) 3 { t with ep := ep })
          have HIN := Lib.hid (HI.out.do HK.out.inv 3 { t with ep := ep } rfl)
          obtain ⟨d, ss, id, ep0, now, n⟩ := t
          dsimp only at x0 x1 x2 x3 x4 x5 HKN HIN
          have HTE0 : Hid (∀ c ∈ p.l, c.ep ≠ ep → c.id = id → d = 3 → (doT mo 3 m (⟨d, ss, id, ep, now, n⟩ : Act6) p).e ≠ 0) := Lib.hid fun c hc hne e1 e2 => by
            subst e1 e2
            exact HK.out.sent hc (HI.out c hc hne) n
          have HDX := Lib.hid (hD.out.mark (.cells #[.int .i64 d, .int .i64 ss, .int .i64 id, .int .u64 ep, .int .u64 now, .int .u64 n] 30))
          have HCN := Lib.hid HDX.out.conns
          have hba := heap_alloc_new wr (.cells #[.int .i64 d, .int .i64 ss, .int .i64 id, .int .u64 ep, .int .u64 now, .int .u64 n] 30)
          have hsa : (wr.alloc (.cells #[.int .i64 d, .int .i64 ss, .int .i64 id, .int .u64 ep, .int .u64 now, .int .u64 n] 30)).heap.size = wr.heap.size + 1 := by simp
          obtain ⟨bx, hbx⟩ : ∃ z, wr.heap.size = z := ⟨_, rfl⟩
          have HBX := Lib.hid hbx
          obtain ⟨wx, hwx⟩ : ∃ u, wr.alloc (.cells #[.int .i64 d, .int .i64 ss, .int .i64 id, .int .u64 ep, .int .u64 now, .int .u64 n] 30) = u := ⟨_, rfl⟩
          rw [hwx] at HCN hba hsa
          rw [hbx] at HCN hba hsa
          have HWX := Lib.hid hwx
          have HBA := Lib.hid hba
          have HSA := Lib.hid hsa
          clear HDX hwx hba hsa hbx hD
          go_wp2_with fail
          rw [HWX.out]
          refine HCN.out.mono ?_
          rintro e w3 ⟨A3, n3, c3, rfl, hr3, hn3, hb3, hs3⟩
          have HR3 := Lib.hid hr3
          have HN3 := Lib.hid (show p.l.length = n3 by have := hr3.len; rwa [List.length_map] at this)
          have HDO := Lib.hid (hs3.act (⟨d, ss, id, ep, now, n⟩ : Act6) HK.out (by omega))
          have hx3 := (hb3.block bx (by have := HSA.out; omega)).trans HBA.out
          have HX3 := Lib.hid hx3
          have hlx : bx < w3.heap.size := by have := HSA.out; have := hb3.size; omega
          have HLX := Lib.hid hlx
          obtain ⟨y0, _⟩ := cellsAt hx3 0 (v := .int .i64 d) rfl
          obtain ⟨y1, _⟩ := cellsAt hx3 1 (v := .int .i64 ss) rfl
          obtain ⟨y2, _⟩ := cellsAt hx3 2 (v := .int .i64 id) rfl
          obtain ⟨y3, _⟩ := cellsAt hx3 3 (v := .int .u64 ep) rfl
          obtain ⟨y4, _⟩ := cellsAt hx3 4 (v := .int .u64 now) rfl
          obtain ⟨y5, _⟩ := cellsAt hx3 5 (v := .int .u64 n) rfl
          clear hr3 hb3 hs3 hx3 hlx HCN HBA HSA
          dsimp only at HDO
          rw [HBX.out]
          clear HBX HWX
          go_wp2_with fail
          refine HDO.out.mono ?_
          rintro e w4 ⟨rfl, hs4, hk4, hz4⟩
          have hr4 := HR3.out.kept hz4 fun k hk => hk4 k (.inl hk)
          have hx4 := (hk4 bx (.inr (.inl rfl))).trans HX3.out
          have hl4 : bx < w4.heap.size := by have := HLX.out; omega
          generalize hp4 : doP mo 3 m (⟨d, ss, id, ep, now, n⟩ : Act6) p = p4 at *
          generalize hT : doT mo 3 m (⟨d, ss, id, ep, now, n⟩ : Act6) p = T at *
          obtain ⟨ta, tb, tn, ti, te⟩ := T
          dsimp only at HTE0
          unfold told6V
          dsimp only
          have HM := Lib.hid (hs4.mark (.cells #[.int .i64 ta, .int .i64 tb, .int .u64 tn, .bool ti, .int .i64 te] 32))
          have hrm := hr4.next (kp_new w4 (.cells #[.int .i64 ta, .int .i64 tb, .int .u64 tn, .bool ti, .int .i64 te] 32))
          have hxm := (heap_alloc_old w4 (.cells #[.int .i64 ta, .int .i64 tb, .int .u64 tn, .bool ti, .int .i64 te] 32) hl4).trans hx4
          have htm := heap_alloc_new w4 (.cells #[.int .i64 ta, .int .i64 tb, .int .u64 tn, .bool ti, .int .i64 te] 32)
          have hsm : (w4.alloc (.cells #[.int .i64 ta, .int .i64 tb, .int .u64 tn, .bool ti, .int .i64 te] 32)).heap.size = w4.heap.size + 1 := by simp
          have HCN := Lib.hid HM.out.conns
          obtain ⟨bt, hbt⟩ : ∃ z, w4.heap.size = z := ⟨_, rfl⟩
          have HBT := Lib.hid hbt
          obtain ⟨wm, hwm⟩ : ∃ u, w4.alloc (.cells #[.int .i64 ta, .int .i64 tb, .int .u64 tn, .bool ti, .int .i64 te] 32) = u := ⟨_, rfl⟩
          rw [hwm] at HCN hrm hxm htm hsm
          rw [hbt] at HCN htm hsm
          have HWM := Lib.hid hwm
          clear hs4 hk4 hz4 HDO HR3 HX3 HLX y0 y1 y2 y3 y4 y5 hp4 hT hr4 hx4 HM hwm
          have HRM := Lib.hid hrm
          have HXM := Lib.hid hxm
          have HTM := Lib.hid htm
          have HSM := Lib.hid hsm
          rw [hbt] at hl4
          have HL4 := Lib.hid hl4
          clear hrm hxm htm hsm hbt hl4
          go_wp2_with fail
          rw [HWM.out]
          refine HCN.out.mono ?_
          rintro e w5 ⟨A5, n5, c5, rfl, hr5, hn5, hb5, hs5⟩
          have HR4 := Lib.hid (HRM.out.next hb5)
          have HX5 := Lib.hid ((hb5.block bx (by have := HSM.out; have := HL4.out; omega)).trans HXM.out)
          have HT5 := Lib.hid ((hb5.block bt (by have := HSM.out; omega)).trans HTM.out)
          have HL5 := Lib.hid (show bx < w5.heap.size ∧ bt < w5.heap.size by have := HSM.out; have := HL4.out; have := hb5.size; omega)
          have HR5 := Lib.hid hr5
          have HS5 := Lib.hid (hs5.less (N' := noneB) fun _ h => h.elim)
          have HN5 := Lib.hid (show p4.l.length = n5 by have := hr5.len; rwa [List.length_map] at this)
          rw [HBT.out]
          clear hr5 hb5 hs5 HCN HRM HXM HTM HSM HL4 HWM HBT
          go_wp2_with fail
          go_loopw [76] (fun i wr => ∃ (r : Nat), r ≤ n5 ∧ i = .int .i64 r ∧ Hid (Below w5.heap.size w5 wr)) (fun i _ => n5 - (intOf i).toNat)
          case atStart => exact ⟨0, Nat.zero_le _, rfl, Lib.hid (Below.refl _ _)⟩
          case round =>
            obtain ⟨r, hr, rfl, hw⟩ := hrel
            by_cases hltr : r < n5
            · have hrl : r < p4.l.length := by rw [HN5.out]; exact hltr
              obtain ⟨ad5, rfl, _, hcc⟩ := HR5.out.at_ (j := r) (by rw [List.length_map]; exact hrl)
              obtain ⟨v0, v1, v2, v3, v4, v5⟩ := hcc wr hw.out
              simp only [List.getElem_map] at v0 v1 v2 v3 v4 v5
              dsimp only [infoH] at v0 v1 v2 v3 v4 v5
              have hDC := HIN.out _ (List.getElem_mem hrl)
              generalize p4.l[r] = cc at *
              have HKW := Lib.hid (kp_alloc hw.out (.cells #[.int .i64 cc.id, .int .i64 cc.c.s, .int .i64 cc.c.o, .int .u64 cc.ep, .int .u64 cc.c.f, .int .u64 cc.t] 39))
              clear hcc hw
              by_cases hep : cc.ep = ep
              · have hne : (cc.ep != ep) = false := by simp [hep]
                clear hDC hep
                go_wp2_with fail
                go_roundw
                case rel => exact ⟨r + 1, by omega, by go_num, HKW⟩
                case measure => simp [intOf]; omega
              · have hne : (cc.ep != ep) = true := by simp [hep]
                have hs := hDC hep
                rw [hs] at v1 HKW
                clear hDC hep hs
                go_wp2_with fail
                go_roundw
                case rel => exact ⟨r + 1, by omega, by go_num, HKW⟩
                case measure => simp [intOf]; omega
            · obtain rfl : r = n5 := by omega
              have HW5 := hw
              clear hw
              go_wp2_with fail
              go_loopw [92] (fun i wr => ∃ (r : Nat), r ≤ n3 ∧ i = .int .i64 r ∧ Hid (Below w5.heap.size w5 wr)) (fun i _ => n3 - (intOf i).toNat)
              case atStart => exact ⟨0, Nat.zero_le _, rfl, HW5⟩
              case round =>
                obtain ⟨r, hr, rfl, hw⟩ := hrel
                clear HW5
                by_cases hltr : r < n3
                · have hrl : r < p.l.length := by rw [HN3.out]; exact hltr
                  obtain ⟨ad5, rfl, _, hcc⟩ := HR4.out.at_ (j := r) (by rw [List.length_map]; exact hrl)
                  obtain ⟨v0, v1, v2, v3, v4, v5⟩ := hcc wr hw.out
                  simp only [List.getElem_map] at v0 v1 v2 v3 v4 v5
                  dsimp only [infoH] at v0 v1 v2 v3 v4 v5
                  have hTE := HTE0.out _ (List.getElem_mem hrl)
                  generalize p.l[r] = cc at *
                  have HKW := Lib.hid (kp_alloc hw.out (.cells #[.int .i64 cc.id, .int .i64 cc.c.s, .int .i64 cc.c.o, .int .u64 cc.ep, .int .u64 cc.c.f, .int .u64 cc.t] 39))
                  have hx5 := (hw.out.block bx HL5.out.1).trans HX5.out
                  have ht5 := (hw.out.block bt HL5.out.2).trans HT5.out
                  obtain ⟨y0, _⟩ := cellsAt hx5 0 (v := .int .i64 d) rfl
                  obtain ⟨y2, _⟩ := cellsAt hx5 2 (v := .int .i64 id) rfl
                  obtain ⟨t4, _⟩ := cellsAt ht5 4 (v := .int .i64 te) rfl
                  have hlx : bx < wr.heap.size := by have := HL5.out; have := hw.out.size; omega
                  have hlt : bt < wr.heap.size := by have := HL5.out; have := hw.out.size; omega
                  clear hcc hw hx5 ht5
                  by_cases hid : cc.id = id
                  · have hid2 : (cc.id == id) = true := by simp [hid]
                    by_cases hep : cc.ep = ep
                    · have hne : (cc.ep != ep) = false := by simp [hep]
                      clear hTE hep hid
                      go_wp2_with fail
                      go_roundw
                      case rel => exact ⟨r + 1, by omega, by go_num, HKW⟩
                      case measure => simp [intOf]; omega
                    · have hne : (cc.ep != ep) = true := by simp [hep]
                      by_cases hd3 : d = 3
                      · have hd2 : (d == 3) = true := by simp [hd3]
                        have hte : (te == 0) = false := by have := hTE hep hid hd3; simp [this]
                        clear hTE hep hid hd3
                        go_wp2_with fail
                        go_roundw
                        case rel => exact ⟨r + 1, by omega, by go_num, HKW⟩
                        case measure => simp [intOf]; omega
                      · have hd2 : (d == 3) = false := by simp [hd3]
                        clear hTE hep hid hd3
                        go_wp2_with fail
                        go_roundw
                        case rel => exact ⟨r + 1, by omega, by go_num, HKW⟩
                        case measure => simp [intOf]; omega
                  · have hid2 : (cc.id == id) = false := by simp [hid]
                    clear hTE hid
                    go_wp2_with fail
                    go_roundw
                    case rel => exact ⟨r + 1, by omega, by go_num, HKW⟩
                    case measure => simp [intOf]; omega
                · obtain rfl : r = n3 := by omega
                  have HKZ := Lib.hid (HS5.out.next hw.out)
                  clear hw
                  go_wp2_with fail
                  go_roundw
                  case rel => exact ⟨q + 1, p4, by omega, by go_num, HKN, HIN, HKZ⟩
                  case measure => simp [intOf]; omega
        · obtain rfl : q = l2 := by omega
          have HCN := Lib.hid hD.out.conns
          clear hD HS2 HK0 HI0
          go_wp2_with fail
          refine HCN.out.mono ?_
          rintro e w6 ⟨A6, n6, c6, rfl, hr6, hn6, hb6, hs6⟩
          have HR6 := Lib.hid hr6
          have HN6 := Lib.hid (show p.l.length = n6 by have := hr6.len; rwa [List.length_map] at this)
          have HS6 := Lib.hid hs6
          have hn6 := hn6
          have HU := Lib.hid HK.out.ids.up
          clear hr6 hb6 hs6 HCN
          obtain ⟨l6, hl6⟩ : ∃ z, p.l = z := ⟨_, rfl⟩
          have HRI := Lib.hid (RInv.start ep p)
          rw [hl6] at HRI HU HN6 HR6
          clear hl6
          go_wp2_with fail
          go_loopw [122] (fun i wr => ∃ (r kk : Nat) (pr : Pl), r ≤ n6 ∧ i = .int .i64 r ∧ kk ≤ 201 + r ∧ Hid (KInv mo m kk pr) ∧ Hid (DInv ep pr.l) ∧ Hid (RInv ep l6 r pr) ∧ Hid (IR wr A6 n6 (l6.map infoH)) ∧ Hid (Solo W (PP b mo 3 m pr) (fun k => rowB A6 k ∨ noneB k) wr)) (fun i _ => n6 - (intOf i).toNat)
          case atStart => exact ⟨0, _, p, Nat.zero_le _, rfl, by omega, HK, HI, HRI, HR6, HS6⟩
          case round =>
            clear HK HI HRI HR6 HS6
            obtain ⟨r, kk, pr, hr, rfl, hkk, HK, HI, HRI, HR6, HS6⟩ := hrel
            by_cases hltr : r < n6
            · have hrl : r < l6.length := by rw [HN6.out]; exact hltr
              obtain ⟨ad6, hA6, _, hcc⟩ := HR6.out.at_ (j := r) (by rw [List.length_map]; exact hrl)
              subst hA6
              obtain ⟨v0, v1, v2, v3, v4, v5⟩ := hcc wr (Below.refl _ _)
              simp only [List.getElem_map] at v0 v1 v2 v3 v4 v5
              dsimp only [infoH] at v0 v1 v2 v3 v4 v5
              have hsame := HRI.out.same hrl
              have hrep := HRI.out.replied HK.out HI.out HU.out hrl
              generalize l6[r] = cc at *
              have HSX := Lib.hid (HS6.out.next (kp_new wr (.cells #[.int .i64 cc.id, .int .i64 cc.c.s, .int .i64 cc.c.o, .int .u64 cc.ep, .int .u64 cc.c.f, .int .u64 cc.t] 39)))
              have HRX := Lib.hid (HR6.out.next (kp_new wr (.cells #[.int .i64 cc.id, .int .i64 cc.c.s, .int .i64 cc.c.o, .int .u64 cc.ep, .int .u64 cc.c.f, .int .u64 cc.t] 39)))
              clear hcc
              by_cases hep : cc.ep = ep
              · have hne : (cc.ep != ep) = false := by simp [hep]
                have HRY := Lib.hid (hsame hep)
                clear hsame hrep hep HS6 HR6 HRI
                go_wp2_with fail
                go_roundw
                case rel => exact ⟨r + 1, kk, pr, by omega, by go_num, by omega, HK, HI, HRY, HRX, HSX⟩
                case measure => simp [intOf]; omega
              · have hne : (cc.ep != ep) = true := by simp [hep]
                obtain ⟨e2, hrep⟩ := hrep hep
                have HRY := Lib.hid hrep
                have HKY := Lib.hid (HK.out.reply (by omega) cc.id cc.c.f)
                have HIY := Lib.hid (HI.out.replied HK.out.inv cc.id cc.c.f)
                have HRP := Lib.hid (HSX.out.op (Y := PP b mo 3 m (replyP cc.id cc.c.f pr).1) (Q := fun e w' => e = .returned (.bool true) ∧ (wr.alloc (.cells #[.int .i64 cc.id, .int .i64 cc.c.s, .int .i64 cc.c.o, .int .u64 cc.ep, .int .u64 cc.c.f, .int .u64 cc.t] 39)).heap.size ≤ w'.heap.size) fun S hp => (ppreply_ok cc.id cc.c.f HK.out hp).mono fun e w' ⟨he, ht⟩ => ⟨⟨by rw [he, e2], ht.off.size⟩, ht⟩)
                clear hsame hrep hep HS6 HR6 HRI HSX e2
                go_wp2_with fail
                refine HRP.out.mono ?_
                rintro e w7 ⟨⟨rfl, hz7⟩, hs7, hk7⟩
                have HR7 := Lib.hid (HRX.out.kept hz7 fun k hk => hk7 k (.inl hk))
                have HS7 := Lib.hid hs7
                clear hs7 hk7 hz7 HRP HRX
                go_wp2_with fail
                go_roundw
                case rel => exact ⟨r + 1, kk + 1, _, by omega, by go_num, by omega, HKY, HIY, HRY, HR7, HS7⟩
                case measure => simp [intOf]; omega
            · obtain rfl : r = n6 := by omega
              have hdone : RInv ep l6 l6.length pr := by rw [HN6.out]; exact HRI.out
              have HDN := Lib.hid hdone.done
              have HCN := Lib.hid HS6.out.conns
              clear hdone HRI HS6 HR6
              go_wp2_with fail
              refine HCN.out.mono ?_
              rintro e w8 ⟨A8, n8, c8, rfl, hr8, hn8, hb8, hs8⟩
              have HR8 := Lib.hid hr8
              have HN8 := Lib.hid (show pr.l.length = n8 by have := hr8.len; rwa [List.length_map] at this)
              have HL8 := Lib.hid hs8.low
              clear hr8 hb8 hs8 HCN
              go_wp2_with fail
              go_loopw [143] (fun i wr => ∃ (r : Nat), r ≤ n8 ∧ i = .int .i64 r ∧ Hid (Below w8.heap.size w8 wr)) (fun i _ => n8 - (intOf i).toNat)
              case atStart => exact ⟨0, Nat.zero_le _, rfl, Lib.hid (Below.refl _ _)⟩
              case round =>
                obtain ⟨s, hs, rfl, hw⟩ := hrel
                by_cases hlts : s < n8
                · have hsl : s < pr.l.length := by rw [HN8.out]; exact hlts
                  obtain ⟨ad8, rfl, _, hcc⟩ := HR8.out.at_ (j := s) (by rw [List.length_map]; exact hsl)
                  obtain ⟨v0, v1, v2, v3, v4, v5⟩ := hcc wr hw.out
                  simp only [List.getElem_map] at v0 v1 v2 v3 v4 v5
                  dsimp only [infoH] at v0 v1 v2 v3 v4 v5
                  have hep := HDN.out _ (List.getElem_mem hsl)
                  generalize pr.l[s] = cc at *
                  have HKW := Lib.hid (kp_alloc hw.out (.cells #[.int .i64 cc.id, .int .i64 cc.c.s, .int .i64 cc.c.o, .int .u64 cc.ep, .int .u64 cc.c.f, .int .u64 cc.t] 39))
                  have hne : (cc.ep != ep) = false := by simp [hep]
                  clear hcc hw hep
                  go_wp2_with fail
                  go_roundw
                  case rel => exact ⟨s + 1, by omega, by go_num, HKW⟩
                  case measure => simp [intOf]; omega
                · obtain rfl : s = n8 := by omega
                  have HLW := Lib.hid (HL8.out.trans (hw.out.mono HL8.out.size))
                  clear hw
                  go_wp2_with fail
                  go_ret
                  exact ⟨rfl, HLW.out⟩
end
end Go.Proofs.Ytkbaljdpnopbmaa
