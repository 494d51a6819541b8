/-
  Contracts and plain functions that the law stands on, part 13 of 16.
-/
import Derived.Test.YtaoegiohnebnhaaGreatDoorQA12
import Derived.ProofKit
import Derived.OpenShut
import Derived.JoinedCond
import Derived.Deep.Slices
import Derived.Lib.SmallJoins
import Derived.SizedLaws
import Derived.Test.YtaoegiohnebnhaaGreatDoorCards
import Derived.Test.YtaoegiohnebnhaaGreatDoorTie
import Derived.Shelf.Vars
import Derived.SevenTiedAt
import Derived.Stop.Joined
import Derived.LaidMore
import Derived.Lay
import Derived.Handed
import Derived.KernelRfl
namespace Go.Proofs.YtaoegiohnebnhaaGreatDoor
/- NodeFences, of layer 15: the walk. -/
section
open Go.RowKit
set_option maxRecDepth 100000

section
variable {X : Nat → Nd → Thing}
set_option maxHeartbeats 32000000 in
theorem nodefences_walk (C : NodeC X) (A1 : Option Addr) (l1 c1 : Nat) (ts : List Ac8) (W : World) (r1 : AE W A1 l1 ts) (hF : ∀ t ∈ ts, t.Fine) (hL : Lw W) :
    Calls Tryz.prog 4 #[.slice A1 l1 c1] W fun e w' => e = .returned (.bool true) ∧ Below W.heap.size W w' := by
  have HAW := Lib.hid (awake15_ok C hL)
  have R1 := Lib.hid r1
  have HN1 := Lib.hid r1.len
  have HFX := Lib.hid hF
  have HC := Lib.hid C
  have HLW := Lib.hid hL
  clear r1 hF C hL
  go_enter Tryz.func4, Tryz.ntmps4
  go_wp2_with fail
  refine HAW.out.mono ?_
  rintro e w1 ⟨rfl, k1⟩
  have HLG := Lib.hid (llarge15_ok A1 l1 c1 ts w1 (R1.out.next k1))
  have HK1 := Lib.hid k1
  clear HAW k1
  go_wp2_with fail
  refine HLG.out.mono ?_
  rintro e w2 ⟨bg, rfl, hbg, k2⟩
  have HK2 := Lib.hid (HK1.out.trans (k2.mono HK1.out.size))
  clear HLG k2 HK1
  cases bg with
  | true =>
    clear hbg
    go_wp2_with fail
    go_ret
    exact ⟨rfl, HK2.out⟩
  | false =>
  obtain ⟨hl60, hsm⟩ := hbg rfl
  have HSM := Lib.hid hsm
  clear hbg hsm
  go_wp2_with fail
  refine (lnodes_ok HC.out (HLW.out.next HK2.out)).mono ?_
  rintro e w3 ⟨g, bs, rfl, p33, ⟨S3, q3, z3⟩, k3⟩
  have HK3 := Lib.hid (HK2.out.trans (k3.mono HK2.out.size))
  have HCT := Lib.hid (newCT_ok w3)
  have hg3 : g < w3.heap.size := by obtain ⟨ad, h1, h2, _⟩ := p33.at_ (i := 0) (by decide); injection h1 with h1; subst h1; exact h2
  have HX3 := Lib.hid (And.intro p33 (And.intro q3 (And.intro z3 hg3)))
  clear p33 q3 z3 k3 hg3
  go_wp2_with fail
  refine HCT.out.mono ?_
  rintro e w4 ⟨rfl, ct4, k4⟩
  obtain ⟨cb, hcb⟩ : ∃ y, w3.heap.size = y := ⟨_, rfl⟩
  have HD4 : Hid (St15 W (Tri X bs fun _ => newNd) (CT cb) [(g, bs)] [] [] [] w4) := Lib.hid (by
    obtain ⟨p3, q3, z3, hg3⟩ := HX3.out
    have hk2 := HK2.out.size
    have hk3 := HK3.out.size
    exact ⟨fun k => k = g, ⟨⟨S3, _, Thing.next q3 k4, hcb ▸ ct4, fun k h1 h2 => (by have := z3 k h1; omega), fun k hk => hk.elim (fun h1 => (by have := z3 k h1; omega)) fun h1 => (by omega)⟩, HK3.out.trans (k4.mono HK3.out.size), fun k hk => (by have := k4.size; omega)⟩, (fun _ h => nomatch h), (fun q hq => (List.mem_singleton.1 hq) ▸ ⟨p3.next k4, rfl⟩), (fun _ h => nomatch h), fun _ h => nomatch h⟩)
  have HI0 : Hid (∀ i : Nat, NdI 0 ((fun _ => newNd : Nat → Nd) i)) := Lib.hid fun _ => NdI.new
  rw [hcb]
  clear HCT ct4 k4 HX3 hcb HK3 HK2
  go_wp2_with fail
  go_loopw [24] (fun i wr => ∃ (k : Nat) (ns : Nat → Nd), k ≤ l1 ∧ i = .int .i64 k ∧ Hid (∀ i : Nat, NdI k (ns i)) ∧ Hid (St15 W (Tri X bs ns) (CT cb) [(g, bs)] [] [] [] wr)) (fun i _ => l1 - (intOf i).toNat)
  case atStart => exact ⟨0, _, Nat.zero_le _, rfl, HI0, HD4⟩
  case round =>
    obtain ⟨k, ns, hk, rfl, HI, hD⟩ := hrel
    clear HI0 HD4
    by_cases hlt : k < l1
    · have hkl : k < ts.length := by rw [HN1.out]; exact hlt
      obtain ⟨ad, rfl, _, hcc⟩ := R1.out.at_ hkl
      obtain ⟨x0, x1, x2, x3, x4, x5, x6, x7⟩ := hcc wr (hD.out.low)
      have HXF := Lib.hid (HFX.out _ (List.getElem_mem hkl))
      have HXS := Lib.hid (HSM.out _ (List.getElem_mem hkl))
      clear hcc
      generalize ts[k] = x at *
      obtain ⟨wx, hwx⟩ : ∃ u, wr.alloc (.cells #[.int .i64 x.d, .int .i64 x.nd, .int .i64 x.fr, .int .i64 x.c, .int .i64 x.m, .int .u64 x.e, .bool x.rd, .string x.t] 32) = u := ⟨_, rfl⟩
      obtain ⟨t6, ht6⟩ : ∃ y, wr.heap.size = y := ⟨_, rfl⟩
      have H1 := Lib.hid ((hD.out).mark (.cells #[.int .i64 x.d, .int .i64 x.nd, .int .i64 x.fr, .int .i64 x.c, .int .i64 x.m, .int .u64 x.e, .bool x.rd, .string x.t] 32) hwx ht6)
      have HWX := Lib.hid hwx
      have HT6 := Lib.hid ht6
      have HOF := Lib.hid (lof3_ok x.nd wx)
      obtain ⟨i, hi⟩ : ∃ i, of3 x.nd = i := ⟨_, rfl⟩
      have hi3 : i < 3 := hi ▸ of3_lt x.nd
      rw [hi] at HOF
      have hi0 : (0 : Int) ≤ (i : Int) := by omega
      have hi1 : (i : Int) < 3 := by omega
      have zi : wx.cell? ⟨g, i, none⟩ = some (.pointer (some ⟨bs i, 0, none⟩)) := H1.out.ptr (.head _) hi3
      have m6 := H1.out.at_ (.head _)
      obtain ⟨y1, _⟩ := cellsAt m6 1 (v := .int .i64 x.nd) rfl
      obtain ⟨R, hR⟩ : ∃ R, actN ns x = R := ⟨_, rfl⟩
      have HEP : Hid (¬ (R.2 i).ep < (ns i).ep) := Lib.hid (by have := act_ep ns x; rw [hi, hR] at this; omega)
      have HIN : Hid (∀ i : Nat, NdI (k + 1) (R.2 i)) := Lib.hid (by rw [← hR]; exact actN_inv HI.out HXF.out HXS.out)
      have HFE : Hid (x.d = 0 → Fenced (ns i) x.e x.rd x.t R.1.r (R.2 i)) := Lib.hid (fun h0 => by
        rw [← hR]
        unfold actN
        rw [if_pos h0, hi]
        show Fenced (ns i) x.e x.rd x.t (runNd (ns i) x.c x.e x.rd x.t).1 (upd3 ns i (runNd (ns i) x.c x.e x.rd x.t).2 i)
        rw [upd3_at]
        exact run_fenced _ _ _ _ _)
      have HR := Lib.hid hR
      clear hwx ht6 hD hi m6 hR
      go_wp2_with fail
      rw [HWX.out, HT6.out]
      refine HOF.out.mono ?_
      rintro e w5 ⟨rfl, rfl⟩
      clear x0 x1 x2 x3 x4 x5 x6 x7 HOF
      go_wp2_with fail
      refine (H1.out.log HC.out hi3 (HI.out i)).mono ?_
      rintro e u1 ⟨Aa, ma, da, ⟨rfl, hmda⟩, h2⟩
      have H2 := Lib.hid h2
      clear h2 H1 HWX HT6 zi y1
      go_wp2_with fail
      refine (H2.out.ep HC.out hi3 (HI.out i)).mono ?_
      rintro e u2 ⟨rfl, h3⟩
      have H3 := Lib.hid h3
      clear h3 H2
      go_wp2_with fail
      refine (H3.out.ld HC.out hi3 (HI.out i)).mono ?_
      rintro e u3 ⟨rfl, h4⟩
      have H4 := Lib.hid h4
      have m6 := h4.at_ (.head _)
      obtain ⟨y0, _⟩ := cellsAt m6 0 (v := .int .i64 x.d) rfl
      obtain ⟨y1, _⟩ := cellsAt m6 1 (v := .int .i64 x.nd) rfl
      obtain ⟨y2, _⟩ := cellsAt m6 2 (v := .int .i64 x.fr) rfl
      obtain ⟨y3, _⟩ := cellsAt m6 3 (v := .int .i64 x.c) rfl
      obtain ⟨y4, _⟩ := cellsAt m6 4 (v := .int .i64 x.m) rfl
      obtain ⟨y5, _⟩ := cellsAt m6 5 (v := .int .u64 x.e) rfl
      obtain ⟨y6, _⟩ := cellsAt m6 6 (v := .bool x.rd) rfl
      obtain ⟨y7, _⟩ := cellsAt m6 7 (v := .string x.t) rfl
      clear h4 H3 m6
      go_wp2_with fail
      refine (H4.out.act HC.out HLW.out 3 (.head _) HI.out (by omega) HXF.out HXS.out).mono ?_
      rw [HR.out]
      rintro e u4 ⟨A', m', d', rfl, h5x⟩
      have HM : Hid (R.1.r.ts.length = m') := Lib.hid (h5x.xr (.head _)).len
      have h5 := h5x.less (xs' := []) (fun _ h => h) (fun _ h => h) (fun _ h => h) (fun _ h => nomatch h)
      obtain ⟨u5, hu5⟩ : ∃ u, u4.alloc (.cells #[.int .i64 R.1.r.e, .int .u64 R.1.r.ep, .int .u64 R.1.r.pl, .slice A' m' d', .bool R.1.is, .int .i64 R.1.many] 38) = u := ⟨_, rfl⟩
      obtain ⟨t11, ht11⟩ : ∃ y, u4.heap.size = y := ⟨_, rfl⟩
      have H6 := Lib.hid (h5.mark _ hu5 ht11)
      have HU5 := Lib.hid hu5
      have HT11 := Lib.hid ht11
      clear h5 h5x H4 hu5 ht11 y0 y1 y2 y3 y4 y5 y6 y7
      unfold toV
      go_wp2_with fail
      rw [HU5.out, HT11.out]
      refine (H6.out.log HC.out hi3 (HIN.out i)).mono ?_
      rintro e u6 ⟨Ab, mb, db, ⟨rfl, hmdb⟩, h7⟩
      have H7 := Lib.hid h7
      clear h7 H6 HU5 HT11
      go_wp2_with fail
      refine (H7.out.ep HC.out hi3 (HIN.out i)).mono ?_
      rintro e u7 ⟨rfl, h8⟩
      have H8 := Lib.hid h8
      have hep := HEP.out
      have m6 := h8.at_ (.tail _ (.head _))
      obtain ⟨y0, _⟩ := cellsAt m6 0 (v := .int .i64 x.d) rfl
      obtain ⟨y7, _⟩ := cellsAt m6 7 (v := .string x.t) rfl
      clear h8 H7 m6 HEP
      by_cases hd0 : x.d = 0
      rotate_left
      · have g0 : (x.d != 0) = true := by simpa using hd0
        have HD9 := Lib.hid (H8.out.less (l' := []) (rs' := []) (fun _ h => h) (fun _ h => nomatch h) (fun _ h => nomatch h) fun _ h => h)
        clear hd0 H8
        go_wp2_with fail
        go_roundw
        case rel => exact ⟨k + 1, R.2, by omega, by go_num, HIN, HD9⟩
        case measure => simp [intOf]; omega
      have HF := Lib.hid (HFE.out hd0)
      have g0 : (x.d != 0) = false := by simpa using hd0
      clear hd0 HFE
      go_wp2_with fail
      refine (H8.out.class HLW.out x.t (by have := HXS.out; unfold Sm at this; unfold maxLen; omega)).mono ?_
      rintro e u8 ⟨rfl, h9⟩
      have H9 := Lib.hid h9
      have hF := HF.out
      obtain ⟨is, his⟩ : ∃ is, clsT x.t = is := ⟨_, rfl⟩
      have q1 : ((R.2 i).ep != (ns i).ep) = false := by simp [hF.grew.ep]
      have HQ2 := Lib.hid hF.grew.ld
      have HLA := Lib.hid (h9.lr (.tail _ (.head _)))
      have HLB := Lib.hid (h9.lr (.head _))
      have hla : (ns i).lg.length = ma := HLA.out.len
      have hlb : (R.2 i).lg.length = mb := HLB.out.len
      obtain ⟨es, hes, hesE⟩ := hF.grew.lg
      have hab : ma ≤ mb := by rw [← hla, ← hlb, hes, List.length_append]; omega
      have hb200 : mb ≤ 200 := by rw [← hlb]; exact (HIN.out i).lg
      have HTK : Hid ((R.2 i).lg.take ma = (ns i).lg) := Lib.hid (by rw [hes, ← hla, List.take_left'  rfl])
      have HDR : Hid (∀ y ∈ (R.2 i).lg.drop ma, y.e = (ns i).ep) := Lib.hid (by rw [hes, ← hla, List.drop_left' rfl]; exact hesE)
      have q5 : (R.1.r.ep != (ns i).ep) = false := by simp [hF.ep]
      have q6 : (R.1.r.pl != (mb : Int)) = false := by simp [hF.pl, hlb]
      have hwm : IntKind.u64.wrap (mb : Int) = (mb : Int) := by rw [IntKind.wrap_u64]; omega
      have HGR : Hid (ma < mb → (R.1.r.e != 0) = false ∧ (x.e != (ns i).ep) = false ∧ (ns i).ld = true ∧ x.rd = false ∧ (is == 1) = false ∧ (is == 0) = false) := Lib.hid (fun h => by
        obtain ⟨a, b, c, d, e, f⟩ := hF.who fun h2 => by rw [h2] at hlb; omega
        rw [his] at e f
        exact ⟨by simp [a], by simp [b], c, d, by simpa using e, by simpa using f⟩)
      have HS1 : Hid (x.e ≠ (ns i).ep → (R.1.r.e != 8) = false) := Lib.hid fun h => by simp [hF.stale h]
      have HS2 : Hid ((ns i).ld = false → x.rd = false → (R.1.r.e == 0) = false) := Lib.hid fun h1 h2 => by simpa using hF.leads h1 h2
      have HS3 : Hid (0 < m' → (is != 1) = false) := Lib.hid fun h => by
        have := hF.texts (fun h2 => by rw [h2] at HM; have := HM.out; simp at this; omega)
        rw [← his, this]
        rfl
      have HIS := Lib.hid his
      have q3 : ¬ (mb : Int) < (ma : Int) := by omega
      clear h9 hF his hes hesE H8 hla hlb HF y0 y7 g0 hep
      rw [HIS.out]
      go_wp2_with fail
      refine (H9.out.ep HC.out hi3 (HIN.out i)).mono ?_
      rintro e u9 ⟨rfl, h10⟩
      have H10 := Lib.hid h10
      clear h10 H9 HLA HLB
      go_wp2_with fail
      have HL10 := Lib.hid (H10.out.ld HC.out hi3 (HIN.out i))
      rw [HQ2.out] at HL10
      refine HL10.out.mono ?_
      rintro e u10 ⟨rfl, h11⟩
      clear HL10
      have H11 := Lib.hid h11
      obtain ⟨Ac, hcut, hlc⟩ := (h11.lr (.head _)).cut0 57 Tryz.underlying57 (by kernel_rfl) hab hmdb
      have HE1 := Lib.hid (lentries_ok Ac ma db _ u10 hlc (by omega))
      clear h11 hlc H10
      go_wp2_with fail
      refine HE1.out.mono ?_
      rintro e u11 ⟨Ae, ce, rfl, le, k11⟩
      have H12 := Lib.hid (H11.out.next k11)
      have HE2 := Lib.hid (lentries_ok Aa ma da _ u11 (H12.out.lr (.tail _ (.head _))) (by omega))
      have HLE := Lib.hid le
      clear le k11 H11 HE1 hcut
      go_wp2_with fail
      refine HE2.out.mono ?_
      rintro e u12 ⟨Af, cf, rfl, lf, k12⟩
      have H13 := Lib.hid (H12.out.next k12)
      have HSM2 := Lib.hid (rsame15_ok Ae Af ma ma ce cf _ _ u12 (HLE.out.next k12) lf (by omega) (by omega) true (Lib.hid (by rw [HTK.out]; simp)))
      clear lf k12 H12 HE2 HLE
      go_wp2_with fail
      refine HSM2.out.mono ?_
      rintro e u13 ⟨rfl, nn, hu13⟩
      have H14 := Lib.hid (H13.out.next (show Below u12.heap.size u12 u13 from hu13 ▸ kp_drewN _ _))
      have m11 := H14.out.at_ (.head _)
      obtain ⟨z0, _⟩ := cellsAt m11 0 (v := .int .i64 R.1.r.e) rfl
      obtain ⟨z1, _⟩ := cellsAt m11 1 (v := .int .u64 R.1.r.ep) rfl
      obtain ⟨z2, _⟩ := cellsAt m11 2 (v := .int .u64 R.1.r.pl) rfl
      have m6 := H14.out.at_ (.tail _ (.head _))
      obtain ⟨y5, _⟩ := cellsAt m6 5 (v := .int .u64 x.e) rfl
      obtain ⟨y6, _⟩ := cellsAt m6 6 (v := .bool x.rd) rfl
      obtain ⟨Ad, hcut1, hld⟩ := (H14.out.lr (.head _)).cut1 57 Tryz.underlying57 (by kernel_rfl) hab hmdb
      have HLD := Lib.hid (And.intro (H14.out.less (rs' := []) (fun _ h => h) (fun _ h => h) (fun _ h => nomatch h) fun _ h => h) hld)
      clear m11 m6 hld H13 HSM2 hu13 H14
      by_cases hgr : (ma : Int) < (mb : Int)
      · obtain ⟨w1', w2', w3', w4', w5', w6'⟩ := HGR.out (by omega)
        clear HGR
        go_wp2_with fail
        clear z0 z1 z2 y5 y6 hcut1
        obtain ⟨wo, hwo⟩ : ∃ z, z = wr := ⟨wr, rfl⟩
        subst hwo
        go_loopw [138] (fun ii wr => ∃ q : Nat, q ≤ mb - ma ∧ ii = .int .i64 q ∧ Hid (St15 W (Tri X bs R.2) (CT cb) [(g, bs)] [(t11, .cells #[.int .i64 R.1.r.e, .int .u64 R.1.r.ep, .int .u64 R.1.r.pl, .slice A' m' d', .bool R.1.is, .int .i64 R.1.many] 38), (t6, .cells #[.int .i64 x.d, .int .i64 x.nd, .int .i64 x.fr, .int .i64 x.c, .int .i64 x.m, .int .u64 x.e, .bool x.rd, .string x.t] 32)] [] [] wr ∧ LR wr Ad (mb - ma) ((R.2 i).lg.drop ma))) (fun ii _ => mb - ma - (intOf ii).toNat)
        case atStart => exact ⟨0, Nat.zero_le _, rfl, HLD⟩
        case round =>
          obtain ⟨q, hq, rfl, hs⟩ := hrel
          clear HLD
          by_cases hql : q < mb - ma
          · have hqd : q < ((R.2 i).lg.drop ma).length := by rw [hs.out.2.len]; exact hql
            obtain ⟨ad2, rfl, _, hcc⟩ := hs.out.2.at_ hqd
            obtain ⟨v0, v1⟩ := hcc wr (Below.refl _ _)
            have g1 : (((R.2 i).lg.drop ma)[q].e != (ns i).ep) = false := by rw [HDR.out _ (List.getElem_mem hqd)]; simp
            have k1 := kp_new wr (.cells #[.int .u64 ((R.2 i).lg.drop ma)[q].e, .string ((R.2 i).lg.drop ma)[q].t] 65)
            have HN := Lib.hid (And.intro (hs.out.1.next k1) (hs.out.2.next k1))
            clear hcc hs k1
            generalize ((R.2 i).lg.drop ma)[q].e = e1 at v0 g1 HN
            generalize ((R.2 i).lg.drop ma)[q].t = e2 at v1 HN
            go_wp2_with fail
            go_roundw
            case rel => exact ⟨q + 1, by omega, by go_num, HN⟩
            case measure => simp [intOf]; omega
          · obtain rfl : q = mb - ma := by omega
            have m11 := hs.out.1.at_ (.head _)
            obtain ⟨z0, _⟩ := cellsAt m11 0 (v := .int .i64 R.1.r.e) rfl
            obtain ⟨z3, _⟩ := cellsAt m11 3 (v := .slice A' m' d') rfl
            have m6 := hs.out.1.at_ (.tail _ (.head _))
            obtain ⟨y5, _⟩ := cellsAt m6 5 (v := .int .u64 x.e) rfl
            obtain ⟨y6, _⟩ := cellsAt m6 6 (v := .bool x.rd) rfl
            have HFIN := Lib.hid (hs.out.1.less (l' := []) (fun _ h => h) (fun _ h => nomatch h) (fun _ h => h) fun _ h => h)
            clear m11 m6 hs
            by_cases hm0 : (0 : Int) < (m' : Int)
            · have g5 := HS3.out (by omega)
              go_wp2_with fail
              go_roundw
              case rel => exact ⟨k + 1, R.2, by omega, by go_num, HIN, HFIN⟩
              case measure => simp [intOf]; omega
            · go_wp2_with fail
              go_roundw
              case rel => exact ⟨k + 1, R.2, by omega, by go_num, HIN, HFIN⟩
              case measure => simp [intOf]; omega
      · clear HGR
        go_wp2_with fail
        clear z0 z1 z2 y5 y6 hcut1
        obtain ⟨wo, hwo⟩ : ∃ z, z = wr := ⟨wr, rfl⟩
        subst hwo
        go_loopw [138] (fun ii wr => ∃ q : Nat, q ≤ mb - ma ∧ ii = .int .i64 q ∧ Hid (St15 W (Tri X bs R.2) (CT cb) [(g, bs)] [(t11, .cells #[.int .i64 R.1.r.e, .int .u64 R.1.r.ep, .int .u64 R.1.r.pl, .slice A' m' d', .bool R.1.is, .int .i64 R.1.many] 38), (t6, .cells #[.int .i64 x.d, .int .i64 x.nd, .int .i64 x.fr, .int .i64 x.c, .int .i64 x.m, .int .u64 x.e, .bool x.rd, .string x.t] 32)] [] [] wr ∧ LR wr Ad (mb - ma) ((R.2 i).lg.drop ma))) (fun ii _ => mb - ma - (intOf ii).toNat)
        case atStart => exact ⟨0, Nat.zero_le _, rfl, HLD⟩
        case round =>
          obtain ⟨q, hq, rfl, hs⟩ := hrel
          clear HLD
          by_cases hql : q < mb - ma
          · exfalso
            omega
          · obtain rfl : q = mb - ma := by omega
            have m11 := hs.out.1.at_ (.head _)
            obtain ⟨z0, _⟩ := cellsAt m11 0 (v := .int .i64 R.1.r.e) rfl
            obtain ⟨z3, _⟩ := cellsAt m11 3 (v := .slice A' m' d') rfl
            have m6 := hs.out.1.at_ (.tail _ (.head _))
            obtain ⟨y5, _⟩ := cellsAt m6 5 (v := .int .u64 x.e) rfl
            obtain ⟨y6, _⟩ := cellsAt m6 6 (v := .bool x.rd) rfl
            have HFIN := Lib.hid (hs.out.1.less (l' := []) (fun _ h => h) (fun _ h => nomatch h) (fun _ h => h) fun _ h => h)
            clear m11 m6 hs
            by_cases hxe : x.e = (ns i).ep
            · have g2 : (x.e != (ns i).ep) = false := by simp [hxe]
              clear hxe
              by_cases hl : (ns i).ld = false ∧ x.rd = false
              · have g4 := HS2.out hl.1 hl.2
                obtain ⟨hl1, hl2⟩ := hl
                by_cases hm0 : (0 : Int) < (m' : Int)
                · have g5 := HS3.out (by omega)
                  go_wp2_with fail
                  go_roundw
                  case rel => exact ⟨k + 1, R.2, by omega, by go_num, HIN, HFIN⟩
                  case measure => simp [intOf]; omega
                · go_wp2_with fail
                  go_roundw
                  case rel => exact ⟨k + 1, R.2, by omega, by go_num, HIN, HFIN⟩
                  case measure => simp [intOf]; omega
              · cases hl1 : (ns i).ld with
                | true =>
                  clear hl
                  by_cases hm0 : (0 : Int) < (m' : Int)
                  · have g5 := HS3.out (by omega)
                    go_wp2_with fail
                    go_roundw
                    case rel => exact ⟨k + 1, R.2, by omega, by go_num, HIN, HFIN⟩
                    case measure => simp [intOf]; omega
                  · go_wp2_with fail
                    go_roundw
                    case rel => exact ⟨k + 1, R.2, by omega, by go_num, HIN, HFIN⟩
                    case measure => simp [intOf]; omega
                | false =>
                  cases hl2 : x.rd with
                  | false => exact absurd ⟨hl1, hl2⟩ hl
                  | true =>
                    clear hl
                    by_cases hm0 : (0 : Int) < (m' : Int)
                    · have g5 := HS3.out (by omega)
                      go_wp2_with fail
                      go_roundw
                      case rel => exact ⟨k + 1, R.2, by omega, by go_num, HIN, HFIN⟩
                      case measure => simp [intOf]; omega
                    · go_wp2_with fail
                      go_roundw
                      case rel => exact ⟨k + 1, R.2, by omega, by go_num, HIN, HFIN⟩
                      case measure => simp [intOf]; omega
            · have g2 : (x.e != (ns i).ep) = true := by simpa using hxe
              have g3 := HS1.out hxe
              clear hxe
              by_cases hl : (ns i).ld = false ∧ x.rd = false
              · have g4 := HS2.out hl.1 hl.2
                obtain ⟨hl1, hl2⟩ := hl
                by_cases hm0 : (0 : Int) < (m' : Int)
                · have g5 := HS3.out (by omega)
                  go_wp2_with fail
                  go_roundw
                  case rel => exact ⟨k + 1, R.2, by omega, by go_num, HIN, HFIN⟩
                  case measure => simp [intOf]; omega
                · go_wp2_with fail
                  go_roundw
                  case rel => exact ⟨k + 1, R.2, by omega, by go_num, HIN, HFIN⟩
                  case measure => simp [intOf]; omega
              · cases hl1 : (ns i).ld with
                | true =>
                  clear hl
                  by_cases hm0 : (0 : Int) < (m' : Int)
                  · have g5 := HS3.out (by omega)
                    go_wp2_with fail
                    go_roundw
                    case rel => exact ⟨k + 1, R.2, by omega, by go_num, HIN, HFIN⟩
                    case measure => simp [intOf]; omega
                  · go_wp2_with fail
                    go_roundw
                    case rel => exact ⟨k + 1, R.2, by omega, by go_num, HIN, HFIN⟩
                    case measure => simp [intOf]; omega
                | false =>
                  cases hl2 : x.rd with
                  | false => exact absurd ⟨hl1, hl2⟩ hl
                  | true =>
                    clear hl
                    by_cases hm0 : (0 : Int) < (m' : Int)
                    · have g5 := HS3.out (by omega)
                      go_wp2_with fail
                      go_roundw
                      case rel => exact ⟨k + 1, R.2, by omega, by go_num, HIN, HFIN⟩
                      case measure => simp [intOf]; omega
                    · go_wp2_with fail
                      go_roundw
                      case rel => exact ⟨k + 1, R.2, by omega, by go_num, HIN, HFIN⟩
                      case measure => simp [intOf]; omega
    · have HLO := Lib.hid hD.out.low
      clear hD
      go_wp2_with fail
      go_ret
      exact ⟨rfl, HLO.out⟩
end
end

/- From a walk to a law's row: arguments opened, and shut behind a call that left alone what was there before it. -/
section
open Go.RowKit Go.ChangeShapes Go.WideShapes Go.ChangeAt

theorem own0 : ownKnob Tryz.prog.godebug = none := by kernel_rfl
theorem laid0 : laidOutB Tryz.prog = true := by kernel_rfl

section
variable {H : Type} {enc : TypeId × Value → H} {P : Program}
theorem trodAll_later {W W' : World} (hl : laidOutB P = true) (hb : Below W.heap.size W W') : ∀ (ts : List TypeId) (vs : List Value) (ds : List (DataW H)) (ps : List MemPlace),
    (∀ t ∈ ts, P.readableRec t = true ∧ t < P.types.size) → DataW.TrodAll enc P W 0 (fun _ => true) true ts vs ds ps → (∀ x ∈ ps, x.block < W.heap.size) →
    DataW.TrodAll enc P W' 0 (fun b => decide (b < W.heap.size)) true ts vs ds ps
  | [], vs, ds, ps, _, h, _ => by
    cases vs <;> cases ds <;> simp [DataW.TrodAll] at h ⊢
    exact h
  | t :: ts, vs, ds, ps, ht, h, hlt => by
    obtain ⟨v, vs', d, ds', p, q, rfl, rfl, rfl, h1, h2⟩ := trodAll_cons h
    have h3 := Below.trod hl (ht t (by simp)).1 (ht t (by simp)).2 h1 hb (fun x hx => hlt x (by simp [hx]))
    have h4 := trodAll_later hl hb ts vs' ds' q (fun u hu => ht u (by simp [hu])) h2 (fun x hx => hlt x (by simp [hx]))
    exact trodAll_cons_mk h3 h4

/-- a law that answers true, and leaves alone what was there -/
theorem law_post {f : Func} {s : ChangeSpec} {tb : TypeId} {W W' : World} {args : Array Value} {ds gs : List (DataW H)} {before : List MemPlace}
    (hl : laidOutB P = true) (hts : ∀ t ∈ f.params.toList, P.readableRec t = true ∧ t < P.types.size) (hv : s.vars = []) (hrt : f.resultTypes = #[tb]) (htb : P.underlying tb = some .bool)
    (hW : DataW.Whole enc P f.params.toList s.vars false W args.toList ds gs before) (hfn : s.fn H (ds ++ gs) = { results := [.lit (.bool true)], args := ds })
    (hb : Below W.heap.size W W') : s.post enc P f false true false false W args (.bool true) W' := by
  have hlt : ∀ p ∈ before, p.block < W.heap.size := fun p hp => hW.lt p hp
  have hW' := hW
  obtain ⟨p, q, hA, hV, rfl, _, _⟩ := hW
  rw [hv] at hV
  obtain ⟨rfl, rfl⟩ := trodVars_none hV
  refine ⟨ds, [], p ++ [], [], p, [], hW', ?_, ?_, ?_, World.keptBut_mono (fun x hx => ⟨hx, .inr (.inl (by simpa using hx))⟩) (hb.frame (· ∈ p ++ [])), fun h => by cases h⟩
  · rw [hfn, hrt]
    exact trodAll_mk1 (shut_bool htb true)
  · rw [hfn]
    exact trodAll_later hl hb _ _ _ _ hts hA (fun x hx => hlt x (by simp [hx]))
  · rw [hfn, hv]
    simp [DataW.TrodVars]

end
theorem wf64 {a : Int} (h : (Lit.int .i64 a).wf = true) : -9223372036854775808 ≤ a ∧ a ≤ 9223372036854775807 := by
  simpa [Lit.wf, IntKind.min, IntKind.max, IntKind.signed, IntKind.bits] using h
theorem wfu64 {a : Int} (h : (Lit.int .u64 a).wf = true) : ∃ n : Nat, a = n ∧ n < 18446744073709551616 := by
  have h2 : 0 ≤ a ∧ a ≤ 18446744073709551615 := by simpa [Lit.wf, IntKind.min, IntKind.max, IntKind.signed, IntKind.bits] using h
  exact ⟨a.toNat, by omega, by omega⟩
end

/- Arguments that are slices of plain data, or structs of them, opened: rows of any elements, and how much they weigh. -/
section
open Go.RowKit Go.ChangeShapes Go.WideShapes Go.ChangeAt
set_option maxRecDepth 100000

section
variable {H : Type} {enc : TypeId × Value → H} {P : Program} {W : World}

/-- what a datum weighs is within reach -/
def Light (P : Program) (t : TypeId) (d : DataW H) : Prop := ∀ n ∈ d.weights P t, n ≤ 140737488351232
theorem light_of {ts : List TypeId} {ds : List (DataW H)} (h : (DataW.weightsEach P ts ds).all (· ≤ reachBytes) = true) {j : Nat} {t : TypeId} {d : DataW H} (ht : ts[j]? = some t) (hd : ds[j]? = some d) : Light P t d := fun n hn => by
  have := List.all_eq_true.1 h _ (DataW.weights_mem_each ht hd n hn)
  have h2 : n ≤ reachBytes := by simpa using this
  exact h2
theorem weightsAll_mem {e : TypeId} {ds : List (DataW H)} {d : DataW H} (h : d ∈ ds) {n : Nat} (hn : n ∈ d.weights P e) : n ∈ DataW.weightsAll P e ds := by
  induction ds with
  | nil => simp at h
  | cons x r ih =>
    simp only [DataW.weightsAll, List.mem_append]
    rcases List.mem_cons.1 h with rfl | h
    · exact .inl hn
    · exact .inr (ih h)
theorem Light.slice {t e : TypeId} {elems spare : List (DataW H)} (ht : P.underlying t = some (.slice e)) (h : Light P t (.slice elems spare)) : (elems.length + spare.length) * P.bytesOf e ≤ 140737488351232 ∧ (∀ d ∈ elems, Light P e d) ∧ ∀ d ∈ spare, Light P e d := by
  unfold Light at *
  simp only [DataW.weights, ht] at h
  refine ⟨h _ (by simp), fun d hd n hn => h n ?_, fun d hd n hn => h n ?_⟩
  · exact List.mem_cons_of_mem _ (List.mem_append_left _ (weightsAll_mem hd hn))
  · exact List.mem_cons_of_mem _ (List.mem_append_right _ (weightsAll_mem hd hn))
theorem Light.string {t : TypeId} {s : List UInt8} (h : Light P t (.lit (.string s) : DataW H)) : s.length ≤ 140737488351232 := h _ (by simp [DataW.weights])

/-- cells behind cells are read -/
theorem reads_append {ad : Addr} {xs ys : List Value} (h1 : ∀ j u, xs[j]? = some u → W.cell? (ad.add j) = some u) (h2 : ∀ j u, ys[j]? = some u → W.cell? ((ad.add xs.length).add j) = some u) :
    ∀ j u, (xs ++ ys)[j]? = some u → W.cell? (ad.add j) = some u := by
  intro j u hu
  rcases Nat.lt_or_ge j xs.length with h | h
  · rw [List.getElem?_append_left h] at hu
    exact h1 j u hu
  · rw [List.getElem?_append_right h] at hu
    have := h2 _ u hu
    rwa [add_add, show xs.length + (j - xs.length) = j by omega] at this

/-- a row of elements of any kind, of 'size' cells each -/
theorem open_rows {R : Type} [Inhabited R] {t e : TypeId} {size bytes fuel : Nat} {cs : List Value} {x : DataW H × List MemPlace} {cells : R → List Value} {OK : R → Prop}
    (ht : P.underlying t = some (.slice e)) (hsz : P.cellsOf e = size) (hby : P.bytesOf e = bytes) (hpos : 0 < size)
    (he : ∀ n cs' x', DataW.trod enc P W 0 (fun _ => true) true n e cs' = some x' → Light P e x'.1 → ∃ r, cs' = cells r ∧ OK r)
    (h : DataW.trod enc P W 0 (fun _ => true) true fuel t cs = some x) (hw : Light P t x.1) :
    ∃ A l c, ∃ rs : List R, cs = [.slice A l c] ∧ rs.length = l ∧ Rd W W.heap.size A (rs.flatMap cells) ∧ (∀ r ∈ rs, OK r) ∧ l ≤ c ∧ c * bytes ≤ 140737488351232 := by
  rcases Go.Deep.open_slice ht h with ⟨rfl, _⟩ | ⟨a, len, cap, m, n, D, Pl, rfl, hb, hl, hm, hmm, rfl, hx⟩
  · exact ⟨none, 0, 0, [], rfl, rfl, .inl rfl, fun r hr => by simp at hr, Nat.le_refl _, by omega⟩
  simp only [if_true] at hmm
  subst hmm
  rw [hsz] at hx
  obtain ⟨w1, w2, w3⟩ := Light.slice ht hw
  simp only [List.length_map, List.length_range] at w1
  rw [show len + (m - len) = m by omega, hby] at w1
  have hlight : ∀ i, i < m → Light P e (D i) := fun i hi => by
    rcases Nat.lt_or_ge i len with h | h
    · exact w2 _ (List.mem_map.2 ⟨i, List.mem_range.2 h, rfl⟩)
    · refine w3 _ (List.mem_map.2 ⟨i - len, List.mem_range.2 (by omega), ?_⟩)
      show D (len + (i - len)) = D i
      rw [show len + (i - len) = i by omega]
  obtain ⟨r, hr⟩ := Go.Deep.choose_lt (α := R) (p := fun i r => W.cells? 0 (a.add (i * size)) size = some (cells r) ∧ OK r) (fun i hi => by
    obtain ⟨cs', h1, h2⟩ := hx i hi
    obtain ⟨r, rfl, hok⟩ := he _ _ _ h2 (hlight i hi)
    exact ⟨r, h1, hok⟩)
  have key : ∀ k, k ≤ m → (((List.range k).map r).flatMap cells).length = k * size ∧ ∀ j u, (((List.range k).map r).flatMap cells)[j]? = some u → W.cell? (a.add j) = some u := by
    intro k
    induction k with
    | zero => intro _; exact ⟨by simp, fun j u hu => by simp at hu⟩
    | succ k ih =>
      intro hk
      obtain ⟨i1, i2⟩ := ih (by omega)
      obtain ⟨h1, _⟩ := hr k (by omega)
      obtain ⟨_, hlen, hcell⟩ := World.cells?_some h1
      rw [List.range_succ, List.map_append, List.flatMap_append]
      simp only [List.map_cons, List.map_nil, List.flatMap_cons, List.flatMap_nil, List.append_nil]
      refine ⟨by rw [List.length_append, i1, hlen]; rw [Nat.succ_mul], reads_append i2 fun j u hu => ?_⟩
      rw [i1]
      have hj : j < size := by rw [← hlen]; exact (List.getElem?_eq_some_iff.1 hu).1
      rw [hcell j hj]
      exact hu
  refine ⟨some a, len, m, (List.range len).map r, rfl, by simp, ?_, ?_, hl, w1⟩
  · rcases Nat.eq_zero_or_pos len with rfl | h0
    · exact .inl (by simp)
    · refine .inr ⟨a, rfl, ?_, (key len hl).2⟩
      have hne : 0 < (((List.range len).map r).flatMap cells).length := by rw [(key len hl).1]; exact Nat.mul_pos h0 hpos
      have := World.block_lt_of_cell? W _ ((key len hl).2 0 _ (List.getElem?_eq_getElem hne))
      rwa [add_block] at this
  · intro q hq
    obtain ⟨i, hi, rfl⟩ := List.mem_map.1 hq
    exact (hr i (by have := List.mem_range.1 hi; omega)).2

/-- an argument that is a slice of whole numbers -/
theorem flat_ints : ∀ zs : List Int, zs.flatMap (fun z => [Value.int .i64 z]) = zs.map (Value.int .i64)
  | [] => rfl
  | z :: r => congrArg (Value.int .i64 z :: ·) (flat_ints r)
theorem open_ints_w {r : Reach} {b0 : Nat} {t e : TypeId} {v : Value} {d : DataW H} {ps : List MemPlace} (ht : P.underlying t = some (.slice e)) (he : P.underlying e = some (.int .i64)) (hc : P.cellsOf e = 1) (hby : P.bytesOf e = 8)
    (hval : Value.okWide P W r b0 t v) (h : DataW.Trod enc P W 0 (fun _ => true) true t v d ps) (hw : Light P t d) :
    ∃ A l c, ∃ zs : List Int, v = .slice A l c ∧ zs.length = l ∧ Rd W W.heap.size A (zs.map (Value.int .i64)) ∧ (∀ z ∈ zs, -9223372036854775808 ≤ z ∧ z ≤ 9223372036854775807) ∧ l ≤ c ∧ c * 8 ≤ 140737488351232 := by
  obtain ⟨a, l, c, rfl⟩ := okWide_slice ht hval
  obtain ⟨fuel, hf⟩ := h
  obtain ⟨A, l', c', zs, hcs, hl, hr, hok, hlc, hm⟩ := open_rows (R := Int) (cells := fun z => [Value.int .i64 z]) (OK := fun z => -9223372036854775808 ≤ z ∧ z ≤ 9223372036854775807) ht hc hby (by omega) (fun n cs' x' h' _ => by
    obtain ⟨n, rfl, _, hw⟩ := DataW.trod_int he h'
    exact ⟨n, rfl, wf64 hw⟩) hf hw
  have hcs' : [Value.slice a l c] = [Value.slice A l' c'] := hcs
  simp only [List.cons.injEq, and_true] at hcs'
  rw [flat_ints] at hr
  exact ⟨A, l', c', zs, hcs', hl, hr, hok, hlc, hm⟩
end
end

/- The closing rule for rows that list variables and lean on the world's shape. -/
section
open Go.RowKit Go.ChangeShapes Go.WideShapes Go.ChangeAt
set_option maxRecDepth 100000

/-- as the library's closing rule for rows with a condition on the world, the world's shape handed on -/
theorem returns_shaped_and {H : Type} {enc : TypeId × Value → H} {a : Assume} {C : Checked} {os : Os} {f : FuncId} {fn : Func} {s : ChangeSpec} {conds : List PathCond} {apart fresh handsOn again : Bool} {X : World → Array Value → Prop}
    (hX : ∀ (w w' : World) (args : Array Value), w.heap = w'.heap → X w args → X w' args)
    (own : ownKnob C.prog.godebug = none) (started : os.Started) (noInit : C.prog.inits.idxOf? f = none) (hfn : C.prog.funcs[f]? = some fn)
    (witness : ∃ (w : World) (tape : Tape) (i : Input), w.os = os ∧ (w.forCall tape i).Shaped C.prog ∧ i.vars = [] ∧ Input.okWide C.prog (w.forCall tape i) .any w.heap.size f i ∧
      ((s.pre enc C.prog fn conds apart (w.forCall tape i).memory i.args ∧ X (w.forCall tape i).memory i.args) ∧ sizedMet enc C.prog fn (OpenSpec.ofChange s) apart (w.forCall tape i).memory i.args) ∧ a.holds C.prog (lone (Frame.enter C.prog f i.args .normal) [] (w.forCall tape i)))
    (contract : ∀ (W : World) (base : Nat) (args : Array Value) (ds gs : List (DataW H)) (before : List MemPlace),
      (∀ (j : Nat) t v, fn.params[j]? = some t → args[j]? = some v → Value.okWide C.prog W .any base t v) →
      DataW.Whole enc C.prog fn.params.toList s.vars apart W args.toList ds gs before →
      (DataW.weightsEach C.prog (fn.params.toList ++ s.plain.varTypes C.prog) (ds ++ gs)).all (· ≤ reachBytes) = true → X W args → W.ShapedOpen C.prog →
      Calls C.prog f args W fun e W' => ∃ v, e = .returned v ∧ s.post enc C.prog fn apart fresh handsOn again W args v W') :
    ReturnsInHanded a C os f .any (fun w args => (s.pre enc C.prog fn conds apart w args ∧ X w args) ∧ sizedMet enc C.prog fn (OpenSpec.ofChange s) apart w args) (s.post enc C.prog fn apart fresh handsOn again) := by
  refine returnsInHanded_of_calls own started noInit witness ?_
  intro w tape i _ hsh _ hok hpre _
  obtain ⟨_, _, _, fn', hfn', _, _, _, _, hval⟩ := hok
  have e : fn' = fn := Option.some.inj (hfn'.symm.trans hfn)
  subst e
  obtain ⟨⟨⟨ds, gs, before, hw, _⟩, hx⟩, hz⟩ := hpre
  have hw' := DataW.Whole.of_heap (w' := w.forCall tape i) (by rfl) hw
  refine (contract (w.forCall tape i) w.heap.size i.args ds gs before hval hw' (hz.weights hw) (hX _ _ _ (by rfl) hx) hsh).mono fun e W' ⟨v, he, hp⟩ => ?_
  subst he
  exact ChangeSpec.post_blind hp
end

/- Arguments that are rows of texts, of acts, of truths, opened. -/
section
open Go.RowKit Go.ChangeShapes Go.WideShapes Go.ChangeAt
set_option maxRecDepth 100000

theorem flat_texts : ∀ ss : List ByteArray, ss.flatMap (fun s => [Value.string s]) = tvs ss
  | [] => rfl
  | s :: r => congrArg (Value.string s :: ·) (flat_texts r)

/-- an act -/
structure Act7 where
  d : Int
  s : ByteArray
  n : Int
  m : Int
instance : Inhabited Act7 := ⟨⟨0, ⟨#[]⟩, 0, 0⟩⟩
section
variable {H : Type} {enc : TypeId × Value → H} {W : World}
theorem open_texts {r : Reach} {b0 : Nat} {v : Value} {d : DataW H} {ps : List MemPlace} (hval : Value.okWide Tryz.prog W r b0 34 v) (h : DataW.Trod enc Tryz.prog W 0 (fun _ => true) true 34 v d ps) (hw : Light Tryz.prog 34 d) :
    ∃ A l c ss, v = .slice A l c ∧ XR W A l ss ∧ (∀ s ∈ ss, s.size ≤ 140737488351232) ∧ l ≤ c ∧ c * 16 ≤ 140737488351232 := by
  obtain ⟨a, l, c, rfl⟩ := okWide_slice Tryz.underlying34 hval
  obtain ⟨fuel, hf⟩ := h
  obtain ⟨A, l', c', ss, hcs, hl, hr, hok, hlc, hm⟩ := open_rows (R := ByteArray) (cells := fun s => [Value.string s]) (size := 1) (OK := fun s => s.size ≤ 140737488351232) Tryz.underlying34 (by kernel_rfl) (by kernel_rfl) (by omega)
    (fun n cs' x' h' hw' => by
      obtain ⟨s, hs, hy, _⟩ := DataW.trod_string Tryz.underlying9 h'
      subst hy
      have hb := hw'.string
      refine ⟨s, hs, ?_⟩
      rw [Array.length_toList] at hb
      exact hb) hf hw
  have hcs' : [Value.slice a l c] = [Value.slice A l' c'] := hcs
  simp only [List.cons.injEq, Value.slice.injEq, and_true] at hcs'
  obtain ⟨rfl, rfl, rfl⟩ := hcs'
  rw [flat_texts] at hr
  exact ⟨a, l, c, ss, rfl, ⟨hl, hr⟩, hok, hlc, hm⟩

end
end

/- Layer 15's arguments that are rows of acts, opened. -/
section
open Go.RowKit Go.ChangeShapes Go.WideShapes Go.ChangeAt
set_option maxRecDepth 100000

theorem i64n_wf {a : Int} (h : (Lit.int .i64 a).wf = true) : I64n a := wf64 h
theorem u64n_wf {a : Int} (h : (Lit.int .u64 a).wf = true) : U64n a := by
  obtain ⟨n, rfl, h2⟩ := wfu64 h
  exact ⟨Int.natCast_nonneg n, by omega⟩
section
variable {H : Type} {enc : TypeId × Value → H} {W : World}
theorem open_act8_cells {fuel : Nat} {cs : List Value} {x : DataW H × List MemPlace} (h : DataW.trod enc Tryz.prog W 0 (fun _ => true) true fuel 32 cs = some x) :
    ∃ t : Ac8, cs = t.cells ∧ t.Fine := by
  obtain ⟨xs, n, _, rfl, hl, hlen, hf⟩ := DataW.trod_struct Tryz.underlying32 h
  have h2 : Tryz.prog.cellsOf 32 = 8 := by kernel_rfl
  rw [h2] at hl
  match cs, hl with
  | [v0, v1, v2, v3, v4, v5, v6, v7], _ =>
    simp only [Array.size] at hlen
    match xs, hlen with
    | [y0, y1, y2, y3, y4, y5, y6, y7], _ =>
      have c1 : Tryz.prog.cellsOf 3 = 1 := by kernel_rfl
      have c2 : Tryz.prog.cellsOf 30 = 1 := by kernel_rfl
      have c3 : Tryz.prog.cellsOf 4 = 1 := by kernel_rfl
      have c4 : Tryz.prog.cellsOf 9 = 1 := by kernel_rfl
      have e0 : DataW.trod enc Tryz.prog W 0 (fun _ => true) true n 3 (([v0, v1, v2, v3, v4, v5, v6, v7].drop 0).take (Tryz.prog.cellsOf 3)) = some y0 := hf 0 _ rfl
      have e1 : DataW.trod enc Tryz.prog W 0 (fun _ => true) true n 3 (([v0, v1, v2, v3, v4, v5, v6, v7].drop 1).take (Tryz.prog.cellsOf 3)) = some y1 := hf 1 _ rfl
      have e2 : DataW.trod enc Tryz.prog W 0 (fun _ => true) true n 3 (([v0, v1, v2, v3, v4, v5, v6, v7].drop 2).take (Tryz.prog.cellsOf 3)) = some y2 := hf 2 _ rfl
      have e3 : DataW.trod enc Tryz.prog W 0 (fun _ => true) true n 3 (([v0, v1, v2, v3, v4, v5, v6, v7].drop 3).take (Tryz.prog.cellsOf 3)) = some y3 := hf 3 _ rfl
      have e4 : DataW.trod enc Tryz.prog W 0 (fun _ => true) true n 3 (([v0, v1, v2, v3, v4, v5, v6, v7].drop 4).take (Tryz.prog.cellsOf 3)) = some y4 := hf 4 _ rfl
      have e5 : DataW.trod enc Tryz.prog W 0 (fun _ => true) true n 30 (([v0, v1, v2, v3, v4, v5, v6, v7].drop 5).take (Tryz.prog.cellsOf 30)) = some y5 := hf 5 _ rfl
      have e6 : DataW.trod enc Tryz.prog W 0 (fun _ => true) true n 4 (([v0, v1, v2, v3, v4, v5, v6, v7].drop 6).take (Tryz.prog.cellsOf 4)) = some y6 := hf 6 _ rfl
      have e7 : DataW.trod enc Tryz.prog W 0 (fun _ => true) true n 9 (([v0, v1, v2, v3, v4, v5, v6, v7].drop 7).take (Tryz.prog.cellsOf 9)) = some y7 := hf 7 _ rfl
      rw [c1] at e0 e1 e2 e3 e4
      rw [c2] at e5
      rw [c3] at e6
      rw [c4] at e7
      obtain ⟨a0, h10, _, g0⟩ := DataW.trod_int (k := .i64) Tryz.underlying3 (show DataW.trod enc Tryz.prog W 0 (fun _ => true) true n 3 [v0] = some y0 from e0)
      obtain ⟨a1, h11, _, g1⟩ := DataW.trod_int (k := .i64) Tryz.underlying3 (show DataW.trod enc Tryz.prog W 0 (fun _ => true) true n 3 [v1] = some y1 from e1)
      obtain ⟨a2, h12, _, g2⟩ := DataW.trod_int (k := .i64) Tryz.underlying3 (show DataW.trod enc Tryz.prog W 0 (fun _ => true) true n 3 [v2] = some y2 from e2)
      obtain ⟨a3, h13, _, g3⟩ := DataW.trod_int (k := .i64) Tryz.underlying3 (show DataW.trod enc Tryz.prog W 0 (fun _ => true) true n 3 [v3] = some y3 from e3)
      obtain ⟨a4, h14, _, g4⟩ := DataW.trod_int (k := .i64) Tryz.underlying3 (show DataW.trod enc Tryz.prog W 0 (fun _ => true) true n 3 [v4] = some y4 from e4)
      obtain ⟨a5, h15, _, g5⟩ := DataW.trod_int (k := .u64) Tryz.underlying30 (show DataW.trod enc Tryz.prog W 0 (fun _ => true) true n 30 [v5] = some y5 from e5)
      obtain ⟨a6, h16, _⟩ := DataW.trod_bool Tryz.underlying4 (show DataW.trod enc Tryz.prog W 0 (fun _ => true) true n 4 [v6] = some y6 from e6)
      obtain ⟨a7, h17, _, _⟩ := DataW.trod_string Tryz.underlying9 (show DataW.trod enc Tryz.prog W 0 (fun _ => true) true n 9 [v7] = some y7 from e7)
      simp only [List.cons.injEq, and_true] at h10 h11 h12 h13 h14 h15 h16 h17
      subst h10 h11 h12 h13 h14 h15 h16 h17
      exact ⟨⟨a0, a1, a2, a3, a4, a5, a6, a7⟩, rfl, ⟨i64n_wf g1, i64n_wf g2, i64n_wf g3, i64n_wf g4, u64n_wf g5⟩⟩

theorem open_act8s {r : Reach} {b0 : Nat} {v : Value} {d : DataW H} {ps : List MemPlace} (hval : Value.okWide Tryz.prog W r b0 22 v) (h : DataW.Trod enc Tryz.prog W 0 (fun _ => true) true 22 v d ps) (hw : Light Tryz.prog 22 d) :
    ∃ A l c ts, v = .slice A l c ∧ AE W A l ts ∧ ∀ t ∈ ts, t.Fine := by
  obtain ⟨a, l, c, rfl⟩ := okWide_slice Tryz.underlying22 hval
  obtain ⟨fuel, hf⟩ := h
  obtain ⟨A, l', c', ts, hcs, hl, hr, hok, hlc, hm⟩ := open_rows (R := Ac8) (cells := Ac8.cells) (size := 8) (bytes := 72) (OK := Ac8.Fine) Tryz.underlying22 (by kernel_rfl) (by kernel_rfl) (by omega)
    (fun n cs' x' h' _ => open_act8_cells h') hf hw
  have hcs' : [Value.slice a l c] = [Value.slice A l' c'] := hcs
  simp only [List.cons.injEq, Value.slice.injEq, and_true] at hcs'
  obtain ⟨rfl, rfl, rfl⟩ := hcs'
  exact ⟨a, l, c, ts, rfl, ⟨hl, hr⟩, hok⟩
end
end

/- Arguments that are tokens, and rows of tokens, opened; a row's world: what the library's variables hold; the closing rule for rows that list variables and lean on the world's shape. -/
section
open Go.RowKit Go.ChangeShapes Go.WideShapes Go.ChangeAt
set_option maxRecDepth 100000

section
variable {H : Type} {enc : TypeId × Value → H} {W : World}
end

theorem lw_of_shaped {W : World} (h : W.ShapedOpen Tryz.prog) : Lw W :=
  Go.Proofs.cell_of_shapedOpen_int (zero := #[.int .i64 0]) (t := 3) h (of_decide_eq_true (by kernel_rfl)) (by kernel_rfl) rfl (by kernel_rfl) (by kernel_rfl) Tryz.underlying3
end

/- Layer 15: where a region stands in which two do an act, each once, and what they tell is laid into new blocks. -/
section
open Go.RowKit
set_option maxRecDepth 100000

section
variable {X : Nat → Nd → Thing} {w : World}
set_option maxHeartbeats 4000000 in
theorem lnodes_new (C : NodeC X) (hL : Lw w) :
    Calls Tryz.prog 10 #[] w fun e w' => ∃ (g : Nat) (bs : Nat → Nat), e = .returned (.slice (some ⟨g, 0, none⟩) 3 3) ∧ P3 w' (some ⟨g, 0, none⟩) bs ∧ (∃ S, (Tri X bs fun _ => newNd).p S w' ∧ ∀ k, S k → w.heap.size ≤ k ∧ k < g) ∧ w.heap.size ≤ g ∧ Below w.heap.size w w' := by
  go_enter Tryz.func10, Tryz.ntmps10
  go_wp2_with fail
  refine (C.new w hL).mono ?_
  rintro e w1 ⟨b0, rfl, ⟨S0, p0, s0⟩, k1⟩
  go_wp2_with fail
  refine (C.new w1 (hL.next k1)).mono ?_
  rintro e w2 ⟨b1, rfl, ⟨S1, p1, s1⟩, k2⟩
  go_wp2_with fail
  refine (C.new w2 ((hL.next k1).next k2)).mono ?_
  rintro e w3 ⟨b2, rfl, ⟨S2, p2, s2⟩, k3⟩
  go_wp2_with fail
  go_ret
  obtain ⟨h1, h2⟩ := Tri.new3 p0 s0 k1 p1 s1 k2 p2 s2 k3 (kp_new w3 _)
  exact ⟨_, pick3 b0 b1 b2, rfl, P3.new w3 b0 b1 b2 _, h1, (by have := k1.size; have := k2.size; have := k3.size; omega), h2⟩
end
theorem flat2_len : ∀ (l : List Kv), (l.flatMap fun p => [p.k, p.v]).length = l.length * 2
  | [] => rfl
  | x :: r => by
    have := flat2_len r
    simp only [List.flatMap_cons, List.length_append, List.length_cons, List.length_nil] at this ⊢
    omega
theorem reads15_short (d : Int) (k : ByteArray) (l : List Kv) : (readsF d k l).length ≤ 20 := by
  unfold readsF
  split
  · split <;> simp
  split
  · unfold firstsF
    rw [flat2_len, List.length_take]
    omega
  · simp
theorem run_ts (n : Nd) (c e : Int) (rd : Bool) (s : ByteArray) : (runNd n c e rd s).1.ts.length ≤ 20 := by
  unfold runNd
  split
  · simp
  split
  · simp
  · exact reads15_short _ _ _
theorem act_ts (ns : Nat → Nd) (x : Ac8) : (actN ns x).1.r.ts.length ≤ 20 := by
  unfold actN
  split
  · exact run_ts _ _ _ _ _
  split
  · simp [noRp]
  split
  · simp [noRp]
  · simp [noRp]
/-- a statement is run -/
theorem St15.run {X : Nat → Nd → Thing} {w0 w : World} {Y : Thing} {bs : Nat → Nat} {ns : Nat → Nd} {ps : List (Nat × (Nat → Nat))} {l : List (Nat × Obj)} {rs : List (Option Addr × Nat × List Lg)} {xs : List (Option Addr × Nat × List ByteArray)} (h : St15 w0 (Tri X bs ns) Y ps l rs xs w) (C : NodeC X) (hL : Lw w0) {i : Nat} (hi : i < 3) {k : Nat} (hI : NdI k (ns i)) (hk : k ≤ 800) (c e : Int) (rd : Bool) (s : ByteArray) (hs : Sm s) (hc : I64n c) (he : U64n e) :
    Calls Tryz.prog 28 #[.pointer (some ⟨bs i, 0, none⟩), .int .i64 c, .int .u64 e, .bool rd, .string s] w fun e' w' => ∃ A m d, e' = .returned (rpV (runNd (ns i) c e rd s).1 A m d) ∧ St15 w0 (Tri X bs (upd3 ns i (runNd (ns i) c e rd s).2)) Y ps l rs ((A, m, (runNd (ns i) c e rd s).1.ts) :: xs) w' :=
  h.toldX (Q := fun e' A m d => e' = .returned (rpV (runNd (ns i) c e rd s).1 A m d)) fun _ hS => Tri.told (Q := fun e' u A m d => e' = .returned (rpV (runNd (ns i) c e rd s).1 A m d) ∧ XR u A m (runNd (ns i) c e rd s).1.ts) hS hi fun S' hS' => (C.run (bs i) (ns i) k c e rd s S' w (hL.next h.low) hS' hI hk hs hc he).mono fun _ _ ⟨A, m, d, h1, h2, h3⟩ => ⟨A, m, d, ⟨h1, h2⟩, h3⟩
/-- what an act tells, as a value, and as it lies -/
def toX (t : To15) (A : Option Addr) (m d : Nat) : Value := .agg #[.int .i64 t.r.e, .int .u64 t.r.ep, .int .u64 t.r.pl, .slice A m d, .bool t.is, .int .i64 t.many]
theorem toX_inj {t : To15} {A A' : Option Addr} {m d m' d' : Nat} (h : toX t A m d = toX t A' m' d') : A = A' ∧ m = m' ∧ d = d' := by
  unfold toX at h
  injection h with h
  have e := congrArg (fun z : Array Value => z[3]?) h
  have e2 : (some (Value.slice A m d) : Option Value) = some (.slice A' m' d') := e
  injection e2 with e2
  injection e2 with a b c
  exact ⟨a, b, c⟩
def toB (t : To15) (A : Option Addr) (m d : Nat) : Obj := .cells #[.int .i64 t.r.e, .int .u64 t.r.ep, .int .u64 t.r.pl, .slice A m d, .bool t.is, .int .i64 t.many] 38 (0, 0)
def toZ : Obj := .cells #[.int .i64 0, .int .u64 0, .int .u64 0, .slice none 0 0, .bool false, .int .i64 0] 38 (0, 0)
def ptB (b : Nat) : Value := .pointer (some ⟨b, 0, none⟩)
/-- six cells are written -/
def put6 (u : World) (b : Nat) (t : To15) (A : Option Addr) (m d : Nat) : World := (((((u.setCell ⟨b, 0, none⟩ (.int .i64 t.r.e)).setCell ⟨b, 1, none⟩ (.int .u64 t.r.ep)).setCell ⟨b, 2, none⟩ (.int .u64 t.r.pl)).setCell ⟨b, 3, none⟩ (.slice A m d)).setCell ⟨b, 4, none⟩ (.bool t.is)).setCell ⟨b, 5, none⟩ (.int .i64 t.many)
theorem put6_ok {u : World} {b : Nat} (t : To15) (A : Option Addr) (m d : Nat) (h : u.heap[b]? = some toZ) : (put6 u b t A m d).heap[b]? = some (toB t A m d) ∧ Off (fun k => k = b) u (put6 u b t A m d) := by
  refine ⟨?_, ((((((Off.refl (fun k => k = b) u).setCell (p := ⟨b, 0, none⟩) (.inl rfl) _).setCell (p := ⟨b, 1, none⟩) (.inl rfl) _).setCell (p := ⟨b, 2, none⟩) (.inl rfl) _).setCell (p := ⟨b, 3, none⟩) (.inl rfl) _).setCell (p := ⟨b, 4, none⟩) (.inl rfl) _).setCell (p := ⟨b, 5, none⟩) (.inl rfl) _⟩
  unfold toZ at h
  have h0 := heap_setCell_same u b 0 _ _ (.int .i64 t.r.e) h
  have h1 := heap_setCell_same _ b 1 _ _ (.int .u64 t.r.ep) h0
  have h2 := heap_setCell_same _ b 2 _ _ (.int .u64 t.r.pl) h1
  have h3 := heap_setCell_same _ b 3 _ _ (.slice A m d) h2
  have h4 := heap_setCell_same _ b 4 _ _ (.bool t.is) h3
  exact heap_setCell_same _ b 5 _ _ (.int .i64 t.many) h4
theorem toZ_none (i : Nat) (s : ByteArray) : (#[.int .i64 0, .int .u64 0, .int .u64 0, .slice none 0 0, .bool false, .int .i64 0] : Array Value)[i]? ≠ some (.string s) := by
  match i with
  | 0 => simp
  | 1 => simp
  | 2 => simp
  | 3 => simp
  | 4 => simp
  | 5 => simp
  | n + 6 => simp
/-- texts stay behind such a write -/
theorem XR.past6 {u u' : World} {A : Option Addr} {m b : Nat} {ss : List ByteArray} (h : XR u A m ss) (hb : u.heap[b]? = some toZ) (ho : Off (fun k => k = b) u u') : XR u' A m ss := by
  rcases ss with _ | ⟨s, ss⟩
  · exact ⟨h.len, .inl rfl⟩
  · refine h.off ho.size fun ad hA => ho.block _ ?_ ?_
    · obtain ⟨ad', hA', hlt, _⟩ := h.at_ (j := 0) (by simp)
      rw [hA] at hA'
      obtain rfl : ad = ad' := Option.some.inj hA'
      exact hlt
    · intro e
      obtain ⟨ad', hA', _, hc⟩ := h.at_ (j := 0) (by simp)
      rw [hA] at hA'
      obtain rfl : ad = ad' := Option.some.inj hA'
      have hh : u.heap[(ad.add 0).block]? = some toZ := by rw [add_block, e]; exact hb
      unfold World.cell? at hc
      rw [hh] at hc
      unfold toZ at hc
      dsimp only at hc
      split at hc
      · cases hc
      · exact toZ_none _ _ hc
/-- till what is told is laid down -/
structure SDp (W : World) (X0 X1 Y0 Y1 : Thing) (ps : List (Nat × (Nat → Nat))) (t6 : Nat) (act : Obj) (tt : To15) (f g p q : Bool) (va vb wa wb : Value) (l : List (Nat × Obj)) (xs : List (Option Addr × Nat × List ByteArray)) (u : World) : Prop where
  st : St15 W (bif f then X1 else X0) (bif g then Y1 else Y0) ps l [] xs u
  a6 : (t6, act) ∈ l
  ha : f = true → ∃ A m d, va = toX tt A m d ∧ (A, m, tt.r.ts) ∈ xs
  hb : g = true → ∃ A m d, vb = toX tt A m d ∧ XR u A m tt.r.ts
  pa : p = true → ∃ b, wa = ptB b ∧ (b, toZ) ∈ l ∧ W.heap.size ≤ b
  pb : q = true → ∃ b, wb = ptB b ∧ (b, toZ) ∈ l ∧ W.heap.size ≤ b
  ne : p = true → q = true → wa ≠ wb
section
variable {W : World} {X0 X1 Y0 Y1 : Thing} {ps : List (Nat × (Nat → Nat))} {t6 : Nat} {act : Obj} {tt : To15} {f g p q : Bool} {va vb wa wb : Value} {l : List (Nat × Obj)} {xs : List (Option Addr × Nat × List ByteArray)} {u u' : World} {A : Option Addr} {m d : Nat}
theorem SDp.do1 (h : SDp W X0 X1 Y0 Y1 ps t6 act tt false false p q va vb wa wb l xs u) (h2 : St15 W X1 Y0 ps l [] ((A, m, tt.r.ts) :: xs) u') : SDp W X0 X1 Y0 Y1 ps t6 act tt true false p q (toX tt A m d) vb wa wb l ((A, m, tt.r.ts) :: xs) u' :=
  ⟨h2, h.a6, fun _ => ⟨A, m, d, rfl, .head _⟩, (fun h => by cases h), h.pa, h.pb, h.ne⟩
theorem SDp.do2 (h : SDp W X0 X1 Y0 Y1 ps t6 act tt true false p q va vb wa wb l xs u) (h2 : St15 W X1 Y1 ps l [] xs u') (hx : XR u' A m tt.r.ts) : SDp W X0 X1 Y0 Y1 ps t6 act tt true true p q va (toX tt A m d) wa wb l xs u' :=
  ⟨h2, h.a6, h.ha, fun _ => ⟨A, m, d, rfl, hx⟩, h.pa, h.pb, h.ne⟩
theorem SDp.al1 (h : SDp W X0 X1 Y0 Y1 ps t6 act tt f g false q va vb wa wb l xs u) : SDp W X0 X1 Y0 Y1 ps t6 act tt f g true q va vb (ptB u.heap.size) wb ((u.heap.size, toZ) :: l) xs (u.alloc toZ) :=
  ⟨h.st.mark toZ rfl rfl, .tail _ h.a6, h.ha, fun hg => by obtain ⟨A, m, d, h1, h2⟩ := h.hb hg; exact ⟨A, m, d, h1, h2.next (kp_new u _)⟩, fun _ => ⟨_, rfl, .head _, h.st.low.size⟩, fun hq => by obtain ⟨b, h1, h2, h3⟩ := h.pb hq; exact ⟨b, h1, .tail _ h2, h3⟩, fun _ hq e => by
    obtain ⟨b, h1, h2, _⟩ := h.pb hq
    rw [h1] at e
    injection e with e
    injection e with e
    injection e with e
    have := (Array.getElem?_eq_some_iff.1 (h.st.at_ h2)).1
    simp only at this
    omega⟩
theorem SDp.al2 (h : SDp W X0 X1 Y0 Y1 ps t6 act tt f g p false va vb wa wb l xs u) : SDp W X0 X1 Y0 Y1 ps t6 act tt f g p true va vb wa (ptB u.heap.size) ((u.heap.size, toZ) :: l) xs (u.alloc toZ) :=
  ⟨h.st.mark toZ rfl rfl, .tail _ h.a6, h.ha, fun hg => by obtain ⟨A, m, d, h1, h2⟩ := h.hb hg; exact ⟨A, m, d, h1, h2.next (kp_new u _)⟩, fun hp => by obtain ⟨b, h1, h2, h3⟩ := h.pa hp; exact ⟨b, h1, .tail _ h2, h3⟩, fun _ => ⟨_, rfl, .head _, h.st.low.size⟩, fun hp _ e => by
    obtain ⟨b, h1, h2, _⟩ := h.pa hp
    rw [h1] at e
    injection e with e
    injection e with e
    injection e with e
    have := (Array.getElem?_eq_some_iff.1 (h.st.at_ h2)).1
    simp only at this
    omega⟩
theorem p3_ne {q : Nat × (Nat → Nat)} {b : Nat} (h : P3 u (some ⟨q.1, 0, none⟩) q.2) (hb : u.heap[b]? = some toZ) : q.1 ≠ b := fun e => by
  obtain ⟨ad, h1, _, h2⟩ := h.at_ (i := 0) (by decide)
  injection h1 with h1
  subst h1
  have ha : (⟨q.1, 0, none⟩ : Addr).add 0 = ⟨q.1, 0, none⟩ := by unfold Addr.add; rfl
  rw [ha, e] at h2
  unfold toZ at hb
  have := (cellsAt hb 0 (v := .int .i64 0) rfl).1
  rw [this] at h2
  cases h2
/-- when all is told, ahead of the first write -/
theorem SDp.put1 (h : SDp W X0 X1 Y0 Y1 ps t6 act tt true true true true va vb wa wb l xs u) (hact : act ≠ toZ) : ∃ b c A m d A' m' d', wa = ptB b ∧ wb = ptB c ∧ va = toX tt A m d ∧ vb = toX tt A' m' d' ∧ u.heap[b]? = some toZ ∧ St15 W X1 Y1 ps [(c, toZ), (b, toB tt A m d), (t6, act)] [] [] (put6 u b tt A m d) ∧ W.heap.size ≤ c ∧ c ≠ b ∧ c ≠ t6 ∧ XR (put6 u b tt A m d) A m tt.r.ts ∧ XR (put6 u b tt A m d) A' m' tt.r.ts := by
  obtain ⟨A, m, d, a1, a2⟩ := h.ha rfl
  obtain ⟨A', m', d', b1, b2⟩ := h.hb rfl
  obtain ⟨b, c1, c2, c3⟩ := h.pa rfl
  obtain ⟨c, d1, d2, d3⟩ := h.pb rfl
  have hz := h.st.at_ c2
  have hz2 := h.st.at_ d2
  have h6 := h.st.at_ h.a6
  simp only at hz hz2 h6
  have hbc : c ≠ b := fun e => h.ne rfl rfl (by rw [c1, d1, e])
  have hb6 : t6 ≠ b := fun e => hact (by rw [e, hz] at h6; injection h6 with h6; exact h6.symm)
  have hc6 : c ≠ t6 := fun e => hact (by rw [← e, hz2] at h6; injection h6 with h6; exact h6.symm)
  obtain ⟨e1, e2⟩ := put6_ok tt A m d hz
  have hs := h.st.less (ps' := ps) (l' := [(b, toZ), (c, toZ), (t6, act)]) (rs' := []) (xs' := []) (fun _ h => h) (fun q hq => by
    rcases List.mem_cons.1 hq with rfl | hq
    · exact c2
    rcases List.mem_cons.1 hq with rfl | hq
    · exact d2
    · rw [List.mem_singleton.1 hq]; exact h.a6) (fun _ h => h) (fun _ h => nomatch h)
  have hp := hs.poke c3 e2 e1 (fun q hq => by
    rcases List.mem_cons.1 hq with rfl | hq
    · exact hbc
    · rw [List.mem_singleton.1 hq]; exact hb6) (fun q hq => p3_ne (hs.p3 hq) hz) (fun _ h => nomatch h) (fun _ h => nomatch h)
  exact ⟨b, c, A, m, d, A', m', d', c1, d1, a1, b1, hz, hp.less (fun _ h => h) (fun q hq => by
    rcases List.mem_cons.1 hq with rfl | hq
    · exact .tail _ (.head _)
    rcases List.mem_cons.1 hq with rfl | hq
    · exact .head _
    · rw [List.mem_singleton.1 hq]; exact .tail _ (.tail _ (.head _))) (fun _ h => h) (fun _ h => h), d3, hbc, hc6, (h.st.xr a2).past6 hz e2, b2.past6 hz e2⟩
/-- where such a region stands -/
def SD (W : World) (X0 X1 Y0 Y1 : Thing) (ps : List (Nat × (Nat → Nat))) (t6 : Nat) (act : Obj) (tt : To15) (sa sb pa pb : Nat) (L : Nat → Bool) (T : Nat → Value) (u : World) : Prop :=
  bif L 9 then ∃ b c A m d A' m' d', T pa = ptB b ∧ T pb = ptB c ∧ St15 W X1 Y1 ps [(c, toB tt A' m' d'), (b, toB tt A m d), (t6, act)] [] [] u ∧ XR u A m tt.r.ts ∧ XR u A' m' tt.r.ts
  else bif L 8 then ∃ b c A m d A' m' d', T pa = ptB b ∧ T pb = ptB c ∧ T sb = toX tt A' m' d' ∧ St15 W X1 Y1 ps [(c, toZ), (b, toB tt A m d), (t6, act)] [] [] u ∧ W.heap.size ≤ c ∧ c ≠ b ∧ c ≠ t6 ∧ XR u A m tt.r.ts ∧ XR u A' m' tt.r.ts
  else ∃ l xs, SDp W X0 X1 Y0 Y1 ps t6 act tt (L 2) (L 5) (L 6) (L 7) (T sa) (T sb) (T pa) (T pb) l xs u
variable {sa sb pa pb : Nat} {L : Nat → Bool} {T : Nat → Value}
theorem SD.pre (h : SD W X0 X1 Y0 Y1 ps t6 act tt sa sb pa pb L T u) (h9 : L 9 = false) (h8 : L 8 = false) : ∃ l xs, SDp W X0 X1 Y0 Y1 ps t6 act tt (L 2) (L 5) (L 6) (L 7) (T sa) (T sb) (T pa) (T pb) l xs u := by
  unfold SD at h
  rw [h9, h8] at h
  exact h
theorem SD.of (h9 : L 9 = false) (h8 : L 8 = false) (h : ∃ l xs, SDp W X0 X1 Y0 Y1 ps t6 act tt (L 2) (L 5) (L 6) (L 7) (T sa) (T sb) (T pa) (T pb) l xs u) : SD W X0 X1 Y0 Y1 ps t6 act tt sa sb pa pb L T u := by
  unfold SD
  rw [h9, h8]
  exact h
theorem SD.put2 {b c : Nat} {A' : Option Addr} {m' d' : Nat} (h : St15 W X1 Y1 ps [(c, toZ), (b, toB tt A m d), (t6, act)] [] [] u) (hc : W.heap.size ≤ c) (hcb : c ≠ b) (hc6 : c ≠ t6) (hx : XR u A m tt.r.ts) (hy : XR u A' m' tt.r.ts) :
    u.heap[c]? = some toZ ∧ St15 W X1 Y1 ps [(c, toB tt A' m' d'), (b, toB tt A m d), (t6, act)] [] [] (put6 u c tt A' m' d') ∧ XR (put6 u c tt A' m' d') A m tt.r.ts ∧ XR (put6 u c tt A' m' d') A' m' tt.r.ts := by
  have hz := h.at_ (.head _)
  simp only at hz
  obtain ⟨e1, e2⟩ := put6_ok tt A' m' d' hz
  exact ⟨hz, h.poke hc e2 e1 (fun q hq => by
    rcases List.mem_cons.1 hq with rfl | hq
    · exact hcb.symm
    · rw [List.mem_singleton.1 hq]; exact hc6.symm) (fun q hq => p3_ne (h.p3 hq) hz) (fun _ h => nomatch h) (fun _ h => nomatch h), hx.past6 hz e2, hy.past6 hz e2⟩
end
end

/- Layer 15: a row's first element, in a new block; a document's node whose log is named; the document's own act; blocks of rows that a call made. -/
section
open Go.RowKit
set_option maxRecDepth 100000

section
variable {w0 w w' : World} {X Y : Thing} {ps : List (Nat × (Nat → Nat))} {l : List (Nat × Obj)} {rs : List (Option Addr × Nat × List Lg)} {xs : List (Option Addr × Nat × List ByteArray)}
end
section
variable {w0 w : World} {X : Thing} {bs : Nat → Nat} {ns : Nat → Nd} {ps : List (Nat × (Nat → Nat))} {l : List (Nat × Obj)} {rs : List (Option Addr × Nat × List Lg)} {xs : List (Option Addr × Nat × List ByteArray)}
end
section
variable {X : Nat → Nd → Thing} {w0 w : World} {Y : Thing} {bs : Nat → Nat} {ns : Nat → Nd} {ps : List (Nat × (Nat → Nat))} {l : List (Nat × Obj)} {rs : List (Option Addr × Nat × List Lg)} {xs : List (Option Addr × Nat × List ByteArray)}
end
end

/- Statements that name any key and any value, quoted: what they do (no function of the program is named here). -/
section
open Go.RowKit
set_option maxRecDepth 100000

theorem quote_then (x rest : List UInt8) (h : rest[0]? ≠ some 39) : lexF (quoteF 39 x ++ rest) = (lexF rest).map ((3, x) :: ·) := by
  have e : quoteF 39 x ++ rest = 39 :: (twiceF 39 x ++ 39 :: rest) := by simp [quoteF]
  have hs : skipF (39 :: (twiceF 39 x ++ 39 :: rest)) = 0 := skip_plain _ _ (by decide) (beg_not (by decide)) (by decide) (beg_not (by decide))
  have hst : stepF (39 :: (twiceF 39 x ++ 39 :: rest)) = .tok 3 x ((twiceF 39 x).length + 1 + 1) := by
    refine step_of_first _ _ hs ?_
    simp only [firstF]
    rw [if_neg (by decide), if_neg (by decide), if_neg (by decide), if_pos (by decide), quoted_back 39 x rest h]
    simp
  rw [e, lexF_tok (by simp) hst (by omega)]
  congr 1
  congr 1
  rw [List.drop_succ_cons, show twiceF 39 x ++ 39 :: rest = (twiceF 39 x ++ [39]) ++ rest from by simp]
  exact List.drop_left' (by simp)
/-- a sign, whatever stands behind it -/
theorem says_sign (c : UInt8) (hs : ∀ rest, stepF (c :: rest) = .tok 6 [c] 1) : Says [c] [(6, [c])] := fun rest => by
  rw [List.singleton_append, lexF_tok (by simp) (hs rest) (by decide)]
  simp only [List.drop_succ_cons, List.drop_zero]
  cases lexF rest <;> simp
theorem says_open : Says [40] [(6, [40])] := says_sign 40 fun rest => by rfl
theorem says_close : Says [41] [(6, [41])] := says_sign 41 fun rest => by rfl
theorem says_comma : Says [44] [(6, [44])] := says_sign 44 fun rest => by rfl
/-- a word, a blank behind -/
theorem small (t l : List UInt8) (hr : rightF 1 t = true) (h : t.map Lib.lowerB ++ [32] = l) : Says l [(1, t)] := h ▸ says_small t hr 32 (by decide)
def pIns : List UInt8 := [105, 110, 115, 101, 114, 116, 32, 105, 110, 116, 111, 32, 107, 118, 32, 118, 97, 108, 117, 101, 115, 32, 40]
theorem says_ins : Says pIns [(1, wINSERT), (1, wINTO), (1, wKV), (1, wVALUES), (6, [40])] :=
  (small wINSERT [105, 110, 115, 101, 114, 116, 32] (by decide) (by decide)).add ((small wINTO [105, 110, 116, 111, 32] (by decide) (by decide)).add ((small wKV [107, 118, 32] (by decide) (by decide)).add ((small wVALUES [118, 97, 108, 117, 101, 115, 32] (by decide) (by decide)).add says_open)))
theorem quote_len (k : List UInt8) : (quoteF 39 k).length ≤ 2 * k.length + 2 := by
  have := twiceF_length 39 k
  simp [quoteF]
  omega
end
end Go.Proofs.YtaoegiohnebnhaaGreatDoor
