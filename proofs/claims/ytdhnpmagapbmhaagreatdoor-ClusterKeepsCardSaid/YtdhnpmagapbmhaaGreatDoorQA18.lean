/-
  Contracts and plain functions that the law stands on, part 18 of 19.
-/
import Derived.Test.YtdhnpmagapbmhaaGreatDoorQA17
namespace Go.Proofs.YtdhnpmagapbmhaaGreatDoor
/- ClusterServes, of layer 16: the walk. -/
section
open Go.RowKit
set_option maxRecDepth 100000

section
variable {X : Nat → Cu → Thing}
set_option maxHeartbeats 32000000 in
theorem clusterserves_walk (C : ClusterC X) (N : Int) (A1 : Option Addr) (l1 c1 : Nat) (ts : List Ac7) (tx : ByteArray) (W : World) (hN : I64n N) (r1 : AG W A1 l1 ts) (hF : ∀ t ∈ ts, t.Fine) (hL : Lw W) :
    Calls Tryz.prog 6 #[.int .i64 N, .slice A1 l1 c1, .string tx] W fun e w' => e = .returned (.bool true) ∧ Below W.heap.size W w' := by
  have HAW := Lib.hid (awake16_ok C hL)
  have R1 := Lib.hid r1
  have HN1 := Lib.hid r1.len
  have HFX := Lib.hid hF
  have HC := Lib.hid C
  have HLW := Lib.hid hL
  have HNN := Lib.hid hN
  clear r1 hF C hL hN
  go_enter Tryz.func6, Tryz.ntmps6
  go_wp2_with fail
  refine HAW.out.mono ?_
  rintro e w1 ⟨rfl, k1⟩
  have HK1 := Lib.hid k1
  clear HAW k1
  by_cases hNN : 1 ≤ N ∧ N ≤ 6
  rotate_left
  · have HNo := Lib.hid fun w => HC.out.no N w HNN.out hNN
    clear hNN
    go_wp2_with fail
    refine (HNo.out w1).mono ?_
    rintro e w3 ⟨rfl, k3⟩
    have HK3 := Lib.hid (HK1.out.trans (k3.mono HK1.out.size))
    clear k3
    go_wp2_with fail
    go_ret
    exact ⟨rfl, HK3.out⟩
  have HNew := Lib.hid fun w hw => HC.out.new N w hw hNN.1 hNN.2
  have HI0 : Hid (CuI 0 (newCu N.toNat)) := Lib.hid (CuI.new (by omega) (by omega))
  have HNt : Hid (((N.toNat : Nat) : Int) = N) := Lib.hid (by omega)
  have hN1 := hNN.1
  have hN6 := hNN.2
  clear hNN
  go_wp2_with fail
  refine (HNew.out w1 (HLW.out.next HK1.out)).mono ?_
  rintro e w3 ⟨bc, rfl, ⟨S3, x3, y3⟩, k3⟩
  have H2 : Hid (St15 W (X bc (newCu N.toNat)) T0 [] [] [] [] w3) := Lib.hid (St15.alone HK1.out x3 y3 k3)
  have HK3 := Lib.hid (HK1.out.trans (k3.mono HK1.out.size))
  clear x3 y3 k3 HNew
  obtain ⟨c0, hc0⟩ : ∃ c, newCu N.toNat = c := ⟨_, rfl⟩
  have HC0 := Lib.hid hc0
  have HCN : Hid (((c0.n : Nat) : Int) = N) := Lib.hid (by rw [← hc0]; exact HNt.out)
  rw [hc0] at H2 HI0
  clear hc0
  have HLG := Lib.hid (llarge16_ok A1 l1 c1 ts w3 (R1.out.next HK3.out))
  go_wp2_with fail
  refine HLG.out.mono ?_
  rintro e w4 ⟨bg, rfl, hbg, k4⟩
  have H3 := Lib.hid (H2.out.next k4)
  clear HLG k4 H2
  cases bg with
  | true =>
    clear hbg
    have HF := Lib.hid H3.out.low
    go_wp2_with fail
    go_ret
    exact ⟨rfl, HF.out⟩
  | false =>
  obtain ⟨hl60, hsm⟩ := hbg rfl
  have HSM := Lib.hid hsm
  have HSI0 : Hid (SI tx c0 (fun _ => []) []) := Lib.hid (by rw [← HC0.out]; exact SI.new _)
  clear hbg hsm HC0
  by_cases hs3 : 300 < tx.size
  · have HF := Lib.hid H3.out.low
    clear H3
    go_wp2_with fail
    go_ret
    exact ⟨rfl, HF.out⟩
  have hs4 : tx.size ≤ 300 := by omega
  have HTX : Hid (Sm tx) := Lib.hid (by unfold Sm; omega)
  clear hs3
  have HCT := Lib.hid (newCT_ok w4)
  go_wp2_with fail
  refine HCT.out.mono ?_
  rintro e w5 ⟨rfl, x5, k5⟩
  obtain ⟨cb, hcb⟩ : ∃ y, w4.heap.size = y := ⟨_, rfl⟩
  have H4 : Hid (St15 W (X bc c0) (CT cb) [] [] [] [] w5) := Lib.hid (by rw [← hcb]; exact H3.out.newr x5 (fun k hk => by omega) k5)
  rw [hcb]
  clear hcb x5 k5 H3 HCT
  go_wp2_with fail
  refine (H4.out.class HLW.out tx (by unfold maxLen; omega)).mono ?_
  rintro e w6 ⟨rfl, h6⟩
  by_cases hcl : clsT tx = 1
  rotate_left
  · have HF := Lib.hid h6.low
    have g1 : (clsT tx != 1) = true := by simpa using hcl
    clear h6 H4 hcl
    go_wp2_with fail
    go_ret
    exact ⟨rfl, HF.out⟩
  have HCL := Lib.hid hcl
  have H5 : Hid (St15 W (X bc c0) (RowT 76 3 none 0 0 (svC [])) [] [] [] [] w6) := Lib.hid (h6.newr (RowT.none _ _ w6) (fun k hk => hk.elim) (Below.refl _ _))
  rw [hcl]
  clear hcl h6 H4 hs4
  go_wp2_with fail
  go_loopw [9, 42] (fun o i wr => ∃ (k : Nat) (c : Cu) (L : Int → List Lg) (ls : List SvL) (A : Option Addr) (n cap : Nat), k ≤ l1 ∧ o = .slice A n cap ∧ i = .int .i64 k ∧ Hid (CuI k c) ∧ Hid (((c.n : Nat) : Int) = N) ∧ Hid (SI tx c L (ls.map SvL.v)) ∧ Hid (ls.length = n ∧ n ≤ 6 * k ∧ ∀ y ∈ ls, y.m ≤ 20) ∧ Hid (St15 W (X bc c) (RowT 76 3 A n cap (svC ls)) [] [] [] (ls.map SvL.x) wr)) (fun _ i _ => l1 - (intOf i).toNat)
  case atStart => exact ⟨0, c0, fun _ => [], [], none, 0, 0, Nat.zero_le _, rfl, rfl, HI0, HCN, HSI0, Lib.hid ⟨rfl, by omega, fun _ h => nomatch h⟩, H5⟩
  case round =>
    obtain ⟨k, c, L, ls, A, n, cap, hk, rfl, rfl, HI, HCN, HSI, HLS, hD⟩ := hrel
    clear HI0 H5 HSI0
    by_cases hlt : k < l1
    · have hkl : k < ts.length := by rw [HN1.out]; exact hlt
      obtain ⟨ad, rfl, _, hcc⟩ := R1.out.at_ hkl
      obtain ⟨x0, x1, x2, x3, x4, x5, x6⟩ := hcc wr (hD.out.low)
      have HXF := Lib.hid (HFX.out _ (List.getElem_mem hkl))
      have HXS := Lib.hid (HSM.out _ (List.getElem_mem hkl))
      clear hcc
      generalize ts[k] = x at *
      obtain ⟨wx, hwx⟩ : ∃ u, wr.alloc (.cells #[.int .i64 x.d, .int .i64 x.nd, .int .i64 x.c, .int .i64 x.m, .int .u64 x.e, .bool x.rd, .string x.t] 34) = u := ⟨_, rfl⟩
      obtain ⟨t6, ht6⟩ : ∃ y, wr.heap.size = y := ⟨_, rfl⟩
      have H1 := Lib.hid ((hD.out).mark (.cells #[.int .i64 x.d, .int .i64 x.nd, .int .i64 x.c, .int .i64 x.m, .int .u64 x.e, .bool x.rd, .string x.t] 34) hwx ht6)
      have HWX := Lib.hid hwx
      have HT6 := Lib.hid ht6
      have m6 := H1.out.at_ (.head _)
      obtain ⟨y0, _⟩ := cellsAt m6 0 (v := .int .i64 x.d) rfl
      obtain ⟨y1, _⟩ := cellsAt m6 1 (v := .int .i64 x.nd) rfl
      obtain ⟨y2, _⟩ := cellsAt m6 2 (v := .int .i64 x.c) rfl
      obtain ⟨y3, _⟩ := cellsAt m6 3 (v := .int .i64 x.m) rfl
      obtain ⟨y4, _⟩ := cellsAt m6 4 (v := .int .u64 x.e) rfl
      obtain ⟨y5, _⟩ := cellsAt m6 5 (v := .bool x.rd) rfl
      obtain ⟨y6, _⟩ := cellsAt m6 6 (v := .string x.t) rfl
      have HQ := Lib.hid (H1.out.cact HC.out HLW.out HI.out (by omega) HXF.out HXS.out)
      have HIN := Lib.hid (HI.out.act (by omega) HXF.out HXS.out)
      have HCN2 : Hid ((((actCu c x).2.n : Nat) : Int) = N) := Lib.hid (by rw [act_n]; exact HCN.out)
      have HSI2 : ∃ L', x.c ≠ 99 → SI tx (actCu c x).2 L' (ls.map SvL.v) := by
        by_cases h : x.c = 99
        · exact ⟨L, fun e => absurd h e⟩
        · obtain ⟨L', h'⟩ := HSI.out.act HI.out x h
          exact ⟨L', fun _ => h'⟩
      obtain ⟨R, hR⟩ : ∃ R, actCu c x = R := ⟨_, rfl⟩
      rw [hR] at HQ HIN HCN2 HSI2
      obtain ⟨L2, hL2⟩ := HSI2
      have HS2 := Lib.hid hL2
      have hls0 := HLS.out
      clear hwx ht6 hD m6 hR HI HCN HSI hL2
      go_wp2_with fail
      rw [HWX.out, HT6.out]
      refine HQ.out.mono ?_
      rintro e w5 ⟨A5, m5, d5, rfl, h5⟩
      have H5 := Lib.hid (h5.less (xs' := ls.map SvL.x) (fun _ h => h) (fun _ h => h) (fun _ h => h) (fun _ h => .tail _ h))
      clear h5 HQ x0 x1 x2 x3 x4 x5 x6 y0 y1 y2 y3 y4 y5 y6 H1 HWX HT6
      generalize R.2 = c at *
      have HLS2 : Hid (ls.length = n ∧ n ≤ 6 * k + 0 ∧ ∀ y ∈ ls, y.m ≤ 20) := Lib.hid ⟨hls0.1, by have := hls0.2.1; omega, hls0.2.2⟩
      clear hls0 HLS
      unfold toV16
      go_wp2_with fail
      go_loopw [9, 50] (fun o i wr => ∃ (q : Nat) (ls : List SvL) (A : Option Addr) (n cap : Nat), (q : Int) ≤ N ∧ o = .slice A n cap ∧ i = .int .i64 q ∧ Hid (x.c ≠ 99 → SI tx c L2 (ls.map SvL.v)) ∧ Hid (x.c ≠ 99 ∨ q = 0) ∧ Hid (ls.length = n ∧ n ≤ 6 * k + q ∧ ∀ y ∈ ls, y.m ≤ 20) ∧ Hid (St15 W (X bc c) (RowT 76 3 A n cap (svC ls)) [] [(t6, .cells #[.int .i64 x.d, .int .i64 x.nd, .int .i64 x.c, .int .i64 x.m, .int .u64 x.e, .bool x.rd, .string x.t] 34 (0, 0))] [] (ls.map SvL.x) wr)) (fun _ i _ => N.toNat - (intOf i).toNat)
      case atStart => exact ⟨0, ls, A, n, cap, by omega, rfl, rfl, HS2, Lib.hid (.inr rfl), HLS2, H5⟩
      case round =>
        obtain ⟨q, ls, A, n, cap, hq, rfl, rfl, HS, HNN9, HLS, hD⟩ := hrel
        clear HS2 H5 HLS2
        by_cases hql : (q : Int) < N
        · have HNq : Hid (I64n (q : Int)) := Lib.hid (by unfold I64n; omega)
          have HQN : Hid (q < c.n) := Lib.hid (by have := HCN2.out; omega)
          have hisq : c.Is (q : Int) := ⟨by omega, by have := HQN.out; omega⟩
          have hepu : U64n (epCu c (q : Int)) := by
            unfold epCu
            rw [if_pos hisq]
            exact ⟨(HIN.out.nd _).e0, (HIN.out.nd _).eu⟩
          have HEP := Lib.hid fun w Y l rs xs (h : St15 W (X bc c) Y [] l rs xs w) => h.cep HC.out HIN.out q HNq.out
          have HRUN := Lib.hid fun w Y l rs xs (h : St15 W (X bc c) Y [] l rs xs w) => h.crun HC.out HLW.out HIN.out (by omega) q 99 (epCu c (q : Int)) true tx HTX.out HNq.out (by unfold I64n; decide) hepu
          clear hepu
          by_cases hc9 : x.c = 99
          · obtain ⟨RR, hRR⟩ : ∃ z, runCu c (q : Int) 99 (epCu c (q : Int)) true tx = z := ⟨_, rfl⟩
            rw [hRR] at HRUN
            obtain ⟨ep, hep⟩ : ∃ z, epCu c (q : Int) = z := ⟨_, rfl⟩
            rw [hep] at HRUN HEP
            have H6 := hD
            clear hD hRR hep hisq
            go_wp2_with fail
            refine (HEP.out _ _ _ _ _ H6.out).mono ?_
            rintro e wa ⟨rfl, ha⟩
            have H7 := Lib.hid ha
            clear ha H6
            go_wp2_with fail
            refine (HRUN.out _ _ _ _ _ H7.out).mono ?_
            rintro e wb ⟨Ar, mr, dr, rfl, hb⟩
            have m6 := hb.at_ (.head _)
            have hlt6 : t6 < wb.heap.size := (Array.getElem?_eq_some_iff.1 m6).1
            obtain ⟨y2, _⟩ := cellsAt m6 2 (v := .int .i64 x.c) rfl
            rw [hc9] at y2
            have HF := Lib.hid (hb.next (kp_new wb (.cells #[.int .i64 RR.1.e, .int .u64 RR.1.ep, .int .u64 RR.1.pl, .slice Ar mr dr] 73))).low
            clear hb m6 H7
            unfold rpV
            go_wp2_with fail
            go_ret
            exact ⟨rfl, HF.out⟩
          have HSI := Lib.hid (HS.out hc9)
          have hst := HSI.out.stays HCL.out HQN.out
          have hep1 : epCu c (q : Int) = (c.ns q).ep := by
            unfold epCu
            rw [if_pos hisq]
            rfl
          have hlg1 : lgCu c (q : Int) = (c.ns q).lg := by
            unfold lgCu
            rw [if_pos hisq]
            rfl
          have HLG := Lib.hid fun w Y l rs xs (h : St15 W (X bc c) Y [] l rs xs w) => h.clog HC.out HIN.out q HNq.out
          have HSAW := Lib.hid (HSI.out.saw HIN.out HQN.out)
          have HALK := Lib.hid fun (y : Sv16) (h : y ∈ ls.map SvL.v) => HSI.out.alike (i := q) (x := y) h
          have hlg2 := (HIN.out.nd q).lg
          have htl : (rdT tx (tabN ((L2 (c.ns q).ep).take (c.ns q).lg.length) [])).length ≤ 20 := reads15_short _ _ _
          rw [hst] at HRUN
          rw [hep1] at HRUN HEP
          rw [hlg1] at HLG
          dsimp only at HRUN
          obtain ⟨tsv, htsv⟩ : ∃ z, rdT tx (tabN ((L2 (c.ns q).ep).take (c.ns q).lg.length) []) = z := ⟨_, rfl⟩
          rw [htsv] at HRUN HSAW HALK htl
          obtain ⟨la, hla⟩ : ∃ z, (c.ns q).lg.length = z := ⟨_, rfl⟩
          rw [hla] at HRUN HSAW HALK hlg2
          obtain ⟨ep, hep⟩ : ∃ z, (c.ns q).ep = z := ⟨_, rfl⟩
          rw [hep] at HRUN HSAW HALK HEP
          have HLA := Lib.hid hla
          have HTL := Lib.hid htl
          have H6 := hD
          clear hD hst hep1 hlg1 htsv hla hep htl hisq HS
          go_wp2_with fail
          refine (HEP.out _ _ _ _ _ H6.out).mono ?_
          rintro e wa ⟨rfl, ha⟩
          have H7 := Lib.hid ha
          clear ha H6
          go_wp2_with fail
          refine (HRUN.out _ _ _ _ _ H7.out).mono ?_
          rintro e wb ⟨Ar, mr, dr, rfl, hb⟩
          have HMR : Hid (mr ≤ 20) := Lib.hid (Nat.le_trans (Nat.le_of_eq (hb.xr (.head _)).len.symm) HTL.out)
          obtain ⟨w9, hw9⟩ : ∃ u, wb.alloc (.cells #[.int .i64 0, .int .u64 ep, .int .u64 la, .slice Ar mr dr] 73) = u := ⟨_, rfl⟩
          obtain ⟨t9, ht9⟩ : ∃ y, wb.heap.size = y := ⟨_, rfl⟩
          have H8 := Lib.hid (hb.mark _ hw9 ht9)
          have m9 := H8.out.at_ (.head _)
          have m6 := H8.out.at_ (.tail _ (.head _))
          have hlt6 : t6 < wb.heap.size := (Array.getElem?_eq_some_iff.1 (hb.at_ (.head _))).1
          have m5 := hb.at_ (.head _)
          obtain ⟨y2, _⟩ := cellsAt m5 2 (v := .int .i64 x.c) rfl
          have HW9 := Lib.hid hw9
          have HT9 := Lib.hid ht9
          have g9 : (x.c == 99) = false := by simpa using hc9
          have hwl : IntKind.u64.wrap (la : Int) = (la : Int) := by rw [IntKind.wrap_u64]; omega
          obtain ⟨GN, hGN⟩ : ∃ G : World → Prop, ∀ u, G u ↔ St15 W (X bc c) (RowT 76 3 A n cap (svC ls)) [] [(t9, .cells #[.int .i64 0, .int .u64 ep, .int .u64 la, .slice Ar mr dr] 73 (0, 0)), (t6, .cells #[.int .i64 x.d, .int .i64 x.nd, .int .i64 x.c, .int .i64 x.m, .int .u64 x.e, .bool x.rd, .string x.t] 34 (0, 0))] [] ((Ar, mr, tsv) :: ls.map SvL.x) u := ⟨_, fun _ => Iff.rfl⟩
          have HGN := Lib.hid hGN
          have HCE : Hid (∀ u, GN u → u.cell? ⟨t9, 0, none⟩ = some (.int .i64 0) ∧ u.cell? ⟨t9, 1, none⟩ = some (.int .u64 ep) ∧ u.cell? ⟨t9, 2, none⟩ = some (.int .u64 la) ∧ u.cell? ⟨t9, 3, none⟩ = some (.slice Ar mr dr) ∧ t9 < u.heap.size) := Lib.hid fun u hu => by
            have m := ((hGN u).1 hu).at_ (.head _)
            exact ⟨(cellsAt m 0 rfl).1, (cellsAt m 1 rfl).1, (cellsAt m 2 rfl).1, (cellsAt m 3 rfl).1, (Array.getElem?_eq_some_iff.1 m).1⟩
          have HG8 : Hid (GN w9) := Lib.hid ((hGN _).2 H8.out)
          have HKR : Hid (∀ (i : Nat) (u : World), KeepT i u u) := Lib.hid fun _ _ => trivial
          clear hb hw9 ht9 m9 m6 m5 H7 H8 hGN hlg2
          unfold rpV
          go_wp2_with fail
          rw [HW9.out, HT9.out]
          clear y2 hlt6 g9 HW9 HT9
          refine wp_region_specs6 (S := fun _ u => GN u) (Kp := KeepT) (Sp := [(63, Stl.eq (.pointer (some ⟨t9, 0, none⟩))), (64, Stl.eq (.int .i64 0)), (65, Stl.eq (.bool false)), (66, Stl.eq (.bool false)), (67, Stl.eq (.pointer (some ⟨t9, 1, none⟩))), (68, Stl.eq (.int .u64 ep)), (69, Stl.eq (.pointer (some ⟨bc, 0, none⟩))), (70, Stl.eq (.int .i64 q)), (71, Stl.eq (.int .u64 ep)), (72, Stl.eq (.bool false)), (73, Stl.eq (.bool false)), (74, Stl.eq (.bool false)), (75, Stl.eq (.pointer (some ⟨t9, 2, none⟩))), (76, Stl.eq (.int .u64 la)), (77, Stl.eq (.pointer (some ⟨bc, 0, none⟩))), (78, Stl.eq (.int .i64 q)), (79, lenSl la), (80, Stl.eq (.int .i64 la)), (81, Stl.eq (.int .u64 la)), (82, Stl.eq (.bool false)), (83, Stl.eq (.bool false))]) (by kernel_rfl) (by kernel_rfl) ((HGN.out _).2 (((HGN.out _).1 HG8.out).next (kp_drewN w9 1))) ?_ ?_
          · refine EachOp.cons ?_ ?_
            · intro L a u hL hst hS hdep hq hno
              have h13 : a.tmps.getD 13 undef = .pointer (some ⟨t9, 0, none⟩) := hst.out 13 (by kernel_rfl)
              refine .inl ⟨trivial, ?_⟩
              have g13 := gd h13
              go_simp
              exact Went6.same (HKR.out _ _) hS rfl
            refine EachOp.cons ?_ ?_
            · intro L a u hL hst hS hdep hq hno
              have h63 : a.tmps.getD 63 undef = .pointer (some ⟨t9, 0, none⟩) := hdep 63 (by kernel_rfl)
              refine .inl ⟨trivial, ?_⟩
              have g63 := gd h63
              have yy := (HCE.out u hS).1
              go_simp
              exact Went6.same (HKR.out _ _) hS rfl
            refine EachOp.cons ?_ ?_
            · intro L a u hL hst hS hdep hq hno
              have h64 : a.tmps.getD 64 undef = .int .i64 0 := hdep 64 (by kernel_rfl)
              refine .inl ⟨trivial, ?_⟩
              have g64 := gd h64
              go_simp
              exact Went6.same (HKR.out _ _) hS rfl
            refine EachOp.cons ?_ ?_
            · intro L a u hL hst hS hdep hq hno
              have h65 : a.tmps.getD 65 undef = .bool false := hdep 65 (by kernel_rfl)
              refine .inl ⟨trivial, ?_⟩
              have g65 := gd h65
              go_simp
              exact Went6.same (HKR.out _ _) hS rfl
            refine EachOp.cons ?_ ?_
            · intro L a u hL hst hS hdep hq hno
              have h13 : a.tmps.getD 13 undef = .pointer (some ⟨t9, 0, none⟩) := hst.out 13 (by kernel_rfl)
              have h66 : a.tmps.getD 66 undef = .bool false := hdep 66 (by kernel_rfl)
              refine .inl ⟨⟨66, by kernel_rfl, h66⟩, ?_⟩
              clear h66
              have g13 := gd h13
              go_simp
              exact Went6.same (HKR.out _ _) hS rfl
            refine EachOp.cons ?_ ?_
            · intro L a u hL hst hS hdep hq hno
              have h67 : a.tmps.getD 67 undef = .pointer (some ⟨t9, 1, none⟩) := hdep 67 (by kernel_rfl)
              have h66 : a.tmps.getD 66 undef = .bool false := hdep 66 (by kernel_rfl)
              refine .inl ⟨⟨66, by kernel_rfl, h66⟩, ?_⟩
              clear h66
              have g67 := gd h67
              have yy := (HCE.out u hS).2.1
              go_simp
              exact Went6.same (HKR.out _ _) hS rfl
            refine EachOp.cons ?_ ?_
            · intro L a u hL hst hS hdep hq hno
              have h7 : a.tmps.getD 7 undef = .pointer (some ⟨bc, 0, none⟩) := hst.out 7 (by kernel_rfl)
              have h66 : a.tmps.getD 66 undef = .bool false := hdep 66 (by kernel_rfl)
              refine .inl ⟨⟨66, by kernel_rfl, h66⟩, ?_⟩
              clear h66
              have g7 := gd h7
              go_simp
              exact Went6.same (HKR.out _ _) hS rfl
            refine EachOp.cons ?_ ?_
            · intro L a u hL hst hS hdep hq hno
              have h12 : a.tmps.getD 12 undef = .int .i64 q := hst.out 12 (by kernel_rfl)
              have h66 : a.tmps.getD 66 undef = .bool false := hdep 66 (by kernel_rfl)
              refine .inl ⟨⟨66, by kernel_rfl, h66⟩, ?_⟩
              clear h66
              have g12 := gd h12
              go_simp
              exact Went6.same (HKR.out _ _) hS rfl
            refine EachOp.cons ?_ ?_
            · intro L a u hL hst hS hdep hq hno
              have h69 : a.tmps.getD 69 undef = .pointer (some ⟨bc, 0, none⟩) := hdep 69 (by kernel_rfl)
              have h70 : a.tmps.getD 70 undef = .int .i64 q := hdep 70 (by kernel_rfl)
              have h66 : a.tmps.getD 66 undef = .bool false := hdep 66 (by kernel_rfl)
              refine .inl ⟨⟨66, by kernel_rfl, h66⟩, ?_⟩
              clear h66
              have g69 := gd h69
              have g70 := gd h70
              go_simp
              refine (HEP.out _ _ _ _ _ ((HGN.out u).1 hS)).mono ?_
              rintro e' u' ⟨rfl, h2⟩
              exact Went6.next ((HGN.out _).2 (h2)) trivial rfl
            refine EachOp.cons ?_ ?_
            · intro L a u hL hst hS hdep hq hno
              have h68 : a.tmps.getD 68 undef = .int .u64 ep := hdep 68 (by kernel_rfl)
              have h71 : a.tmps.getD 71 undef = .int .u64 ep := hdep 71 (by kernel_rfl)
              have h66 : a.tmps.getD 66 undef = .bool false := hdep 66 (by kernel_rfl)
              refine .inl ⟨⟨66, by kernel_rfl, h66⟩, ?_⟩
              clear h66
              have g68 := gd h68
              have g71 := gd h71
              go_simp
              exact Went6.same (HKR.out _ _) hS rfl
            refine EachOp.cons ?_ ?_
            · intro L a u hL hst hS hdep hq hno
              have h66 : a.tmps.getD 66 undef = .bool false := hdep 66 (by kernel_rfl)
              have h72 : a.tmps.getD 72 undef = .bool false := hdep 72 (by kernel_rfl)
              refine .inl ⟨trivial, ?_⟩
              have g66 := gd h66
              have g72 := gd h72
              go_simp
              exact Went6.same (HKR.out _ _) hS rfl
            refine EachOp.cons ?_ ?_
            · intro L a u hL hst hS hdep hq hno
              have h73 : a.tmps.getD 73 undef = .bool false := hdep 73 (by kernel_rfl)
              refine .inl ⟨trivial, ?_⟩
              have g73 := gd h73
              go_simp
              exact Went6.same (HKR.out _ _) hS rfl
            refine EachOp.cons ?_ ?_
            · intro L a u hL hst hS hdep hq hno
              have h13 : a.tmps.getD 13 undef = .pointer (some ⟨t9, 0, none⟩) := hst.out 13 (by kernel_rfl)
              have h74 : a.tmps.getD 74 undef = .bool false := hdep 74 (by kernel_rfl)
              refine .inl ⟨⟨74, by kernel_rfl, h74⟩, ?_⟩
              clear h74
              have g13 := gd h13
              go_simp
              exact Went6.same (HKR.out _ _) hS rfl
            refine EachOp.cons ?_ ?_
            · intro L a u hL hst hS hdep hq hno
              have h75 : a.tmps.getD 75 undef = .pointer (some ⟨t9, 2, none⟩) := hdep 75 (by kernel_rfl)
              have h74 : a.tmps.getD 74 undef = .bool false := hdep 74 (by kernel_rfl)
              refine .inl ⟨⟨74, by kernel_rfl, h74⟩, ?_⟩
              clear h74
              have g75 := gd h75
              have yy := (HCE.out u hS).2.2.1
              go_simp
              exact Went6.same (HKR.out _ _) hS rfl
            refine EachOp.cons ?_ ?_
            · intro L a u hL hst hS hdep hq hno
              have h7 : a.tmps.getD 7 undef = .pointer (some ⟨bc, 0, none⟩) := hst.out 7 (by kernel_rfl)
              have h74 : a.tmps.getD 74 undef = .bool false := hdep 74 (by kernel_rfl)
              refine .inl ⟨⟨74, by kernel_rfl, h74⟩, ?_⟩
              clear h74
              have g7 := gd h7
              go_simp
              exact Went6.same (HKR.out _ _) hS rfl
            refine EachOp.cons ?_ ?_
            · intro L a u hL hst hS hdep hq hno
              have h12 : a.tmps.getD 12 undef = .int .i64 q := hst.out 12 (by kernel_rfl)
              have h74 : a.tmps.getD 74 undef = .bool false := hdep 74 (by kernel_rfl)
              refine .inl ⟨⟨74, by kernel_rfl, h74⟩, ?_⟩
              clear h74
              have g12 := gd h12
              go_simp
              exact Went6.same (HKR.out _ _) hS rfl
            refine EachOp.cons ?_ ?_
            · intro L a u hL hst hS hdep hq hno
              have h77 : a.tmps.getD 77 undef = .pointer (some ⟨bc, 0, none⟩) := hdep 77 (by kernel_rfl)
              have h78 : a.tmps.getD 78 undef = .int .i64 q := hdep 78 (by kernel_rfl)
              have h74 : a.tmps.getD 74 undef = .bool false := hdep 74 (by kernel_rfl)
              refine .inl ⟨⟨74, by kernel_rfl, h74⟩, ?_⟩
              clear h74
              have g77 := gd h77
              have g78 := gd h78
              go_simp
              refine (HLG.out _ _ _ _ _ ((HGN.out u).1 hS)).mono ?_
              rintro e' u' ⟨A, m, d, ⟨rfl, _⟩, h2⟩
              have hm : m = la := (h2.lr (.head _)).len.symm.trans HLA.out
              subst hm
              exact Went6.next ((HGN.out _).2 (h2.less (fun _ h => h) (fun _ h => h) (fun _ h => .tail _ h) (fun _ h => h))) trivial ⟨A, d, rfl⟩
            refine EachOp.cons ?_ ?_
            · intro L a u hL hst hS hdep hq hno
              obtain ⟨A79, d79, h79⟩ := hdep 79 (by kernel_rfl)
              have h74 : a.tmps.getD 74 undef = .bool false := hdep 74 (by kernel_rfl)
              refine .inl ⟨⟨74, by kernel_rfl, h74⟩, ?_⟩
              clear h74
              have g79 := gd h79
              go_simp
              exact Went6.same (HKR.out _ _) hS rfl
            refine EachOp.cons ?_ ?_
            · intro L a u hL hst hS hdep hq hno
              have h80 : a.tmps.getD 80 undef = .int .i64 la := hdep 80 (by kernel_rfl)
              have h74 : a.tmps.getD 74 undef = .bool false := hdep 74 (by kernel_rfl)
              refine .inl ⟨⟨74, by kernel_rfl, h74⟩, ?_⟩
              clear h74
              have g80 := gd h80
              have yy := hwl
              go_simp
              exact Went6.same (HKR.out _ _) hS rfl
            refine EachOp.cons ?_ ?_
            · intro L a u hL hst hS hdep hq hno
              have h76 : a.tmps.getD 76 undef = .int .u64 la := hdep 76 (by kernel_rfl)
              have h81 : a.tmps.getD 81 undef = .int .u64 la := hdep 81 (by kernel_rfl)
              have h74 : a.tmps.getD 74 undef = .bool false := hdep 74 (by kernel_rfl)
              refine .inl ⟨⟨74, by kernel_rfl, h74⟩, ?_⟩
              clear h74
              have g76 := gd h76
              have g81 := gd h81
              go_simp
              exact Went6.same (HKR.out _ _) hS rfl
            refine EachOp.cons ?_ ?_
            · intro L a u hL hst hS hdep hq hno
              have h74 : a.tmps.getD 74 undef = .bool false := hdep 74 (by kernel_rfl)
              have h82 : a.tmps.getD 82 undef = .bool false := hdep 82 (by kernel_rfl)
              refine .inl ⟨trivial, ?_⟩
              have g74 := gd h74
              have g82 := gd h82
              go_simp
              exact Went6.same (HKR.out _ _) hS rfl
            exact EachOp.nil
          · intro L a u hLs hst hS hdep
            have h63 : a.tmps.getD 63 undef = .pointer (some ⟨t9, 0, none⟩) := hdep 63 (by kernel_rfl)
            have h64 : a.tmps.getD 64 undef = .int .i64 0 := hdep 64 (by kernel_rfl)
            have h65 : a.tmps.getD 65 undef = .bool false := hdep 65 (by kernel_rfl)
            have h66 : a.tmps.getD 66 undef = .bool false := hdep 66 (by kernel_rfl)
            have h67 : a.tmps.getD 67 undef = .pointer (some ⟨t9, 1, none⟩) := hdep 67 (by kernel_rfl)
            have h68 : a.tmps.getD 68 undef = .int .u64 ep := hdep 68 (by kernel_rfl)
            have h69 : a.tmps.getD 69 undef = .pointer (some ⟨bc, 0, none⟩) := hdep 69 (by kernel_rfl)
            have h70 : a.tmps.getD 70 undef = .int .i64 q := hdep 70 (by kernel_rfl)
            have h71 : a.tmps.getD 71 undef = .int .u64 ep := hdep 71 (by kernel_rfl)
            have h72 : a.tmps.getD 72 undef = .bool false := hdep 72 (by kernel_rfl)
            have h73 : a.tmps.getD 73 undef = .bool false := hdep 73 (by kernel_rfl)
            have h74 : a.tmps.getD 74 undef = .bool false := hdep 74 (by kernel_rfl)
            have h75 : a.tmps.getD 75 undef = .pointer (some ⟨t9, 2, none⟩) := hdep 75 (by kernel_rfl)
            have h76 : a.tmps.getD 76 undef = .int .u64 la := hdep 76 (by kernel_rfl)
            have h77 : a.tmps.getD 77 undef = .pointer (some ⟨bc, 0, none⟩) := hdep 77 (by kernel_rfl)
            have h78 : a.tmps.getD 78 undef = .int .i64 q := hdep 78 (by kernel_rfl)
            obtain ⟨A79, d79, h79⟩ := hdep 79 (by kernel_rfl)
            have h80 : a.tmps.getD 80 undef = .int .i64 la := hdep 80 (by kernel_rfl)
            have h81 : a.tmps.getD 81 undef = .int .u64 la := hdep 81 (by kernel_rfl)
            have h82 : a.tmps.getD 82 undef = .bool false := hdep 82 (by kernel_rfl)
            have h83 : a.tmps.getD 83 undef = .bool false := hdep 83 (by kernel_rfl)
            have hfr := hst.frame [(63, .pointer (some ⟨t9, 0, none⟩)), (64, .int .i64 0), (65, .bool false), (66, .bool false), (67, .pointer (some ⟨t9, 1, none⟩)), (68, .int .u64 ep), (69, .pointer (some ⟨bc, 0, none⟩)), (70, .int .i64 q), (71, .int .u64 ep), (72, .bool false), (73, .bool false), (74, .bool false), (75, .pointer (some ⟨t9, 2, none⟩)), (76, .int .u64 la), (77, .pointer (some ⟨bc, 0, none⟩)), (78, .int .i64 q), (79, .slice A79 la d79), (80, .int .i64 la), (81, .int .u64 la), (82, .bool false), (83, .bool false)] (by kernel_rfl) ⟨h63, h64, h65, h66, h67, h68, h69, h70, h71, h72, h73, h74, h75, h76, h77, h78, h79, h80, h81, h82, h83, trivial⟩
            clear hst hdep h63 h64 h65 h66 h67 h68 h69 h70 h71 h72 h73 h74 h75 h76 h77 h78 h79 h80 h81 h82 h83
            subst hfr
            simp only [List.foldl_cons, List.foldl_nil, List.setIfInBounds_toArray, List.set_cons_zero, List.set_cons_succ]
            have H9 := Lib.hid hS
            clear hS hLs
            go_wp2_with fail
            obtain ⟨wo, hwo⟩ : ∃ z, z = wr := ⟨wr, rfl⟩
            subst hwo
            go_loopw [86] (fun i wr => ∃ j : Nat, j ≤ n ∧ i = .int .i64 j ∧ Hid (GN wr)) (fun i _ => n - (intOf i).toNat)
            case atStart => exact ⟨0, Nat.zero_le _, rfl, H9⟩
            case round =>
              obtain ⟨j, hj, rfl, hg⟩ := hrel
              clear H9
              by_cases hjl : j < n
              · have hjs : j < ls.length := by rw [HLS.out.1]; exact hjl
                have hnn : n ≤ 400 := by have := HLS.out.2.1; omega
                have hg1 := (HGN.out wr).1 hg.out
                obtain ⟨ad3, hA3, _, hc3⟩ := sv_at hg1.rowo hjs
                obtain ⟨z0, z1, z2⟩ := hc3 wr (Below.refl _ _)
                have hmem : ls[j] ∈ ls := List.getElem_mem hjs
                have HXR := Lib.hid (hg1.xr (r := (ls[j].A, ls[j].m, ls[j].ts)) (.tail _ (List.mem_map.2 ⟨_, hmem, rfl⟩)))
                have HXR2 := Lib.hid (hg1.xr (r := (Ar, mr, tsv)) (.head _))
                have HAK : Hid (ls[j].e = ep → ls[j].p = la → ls[j].ts = tsv) := Lib.hid (HALK.out _ (List.mem_map.2 ⟨_, hmem, rfl⟩))
                have HM20 := Lib.hid (HLS.out.2.2 _ hmem)
                have HNX : Hid (∀ o u, Below (wr.alloc o).heap.size (wr.alloc o) u → GN u) := Lib.hid fun o u hu => (HGN.out _).2 ((hg1.next (kp_new wr o)).next hu)
                obtain ⟨c0, c1, c2, c3, c4⟩ := HCE.out wr hg.out
                clear hc3 hmem hg1
                generalize ls[j] = y at *
                subst hA3
                by_cases he : y.e = ep
                rotate_left
                · have g1 : (y.e == ep) = false := by simpa using he
                  clear hg HXR HXR2
                  go_wp2_with fail
                  go_roundw
                  case rel => exact ⟨j + 1, by omega, by go_num, Lib.hid (HNX.out _ _ (Below.refl _ _))⟩
                  case measure => simp [intOf]; omega
                by_cases hp : y.p = la
                rotate_left
                · have g1 : (y.e == ep) = true := by simpa using he
                  have g2 : (y.p == (la : Int)) = false := by simpa using hp
                  clear hg HXR HXR2 he
                  go_wp2_with fail
                  go_roundw
                  case rel => exact ⟨j + 1, by omega, by go_num, Lib.hid (HNX.out _ _ (Below.refl _ _))⟩
                  case measure => simp [intOf]; omega
                have g1 : (y.e == ep) = true := by simpa using he
                have g2 : (y.p == (la : Int)) = true := by simpa using hp
                have HTS := Lib.hid (HAK.out he hp)
                clear hg he hp
                go_wp2_with fail
                refine (texts6_ok _ _ _ _ _ _ y.ts tsv _ (HXR.out.next (kp_new wr _)) (HXR2.out.next (kp_new wr _)) (by have := HM20.out; omega) (by have := HMR.out; omega) true (Lib.hid (decide_eq_true HTS.out))).mono ?_
                rintro e wt ⟨rfl, nn, hwt⟩
                have H11 := Lib.hid (HNX.out _ wt (hwt ▸ kp_drewN _ _))
                clear hwt HXR HXR2
                go_wp2_with fail
                go_roundw
                case rel => exact ⟨j + 1, by omega, by go_num, H11⟩
                case measure => simp [intOf]; omega
              · have hg1 := (HGN.out wr).1 hg.out
                obtain ⟨c0, c1, c2, c3, c4⟩ := HCE.out wr hg.out
                obtain ⟨i0, hi, hz0, hz1, hz2⟩ := info_parts svinfo16
                have H12 := Lib.hid (hg1.next (kp_new wr (.cells #[.int .u64 ep, .int .u64 la, .slice Ar mr dr] 76)))
                have hnb : n + 1 ≤ 10000 := by have := HLS.out.2.1; omega
                obtain ⟨A6, c6, w16, hrun, hown6, hg6, hwh⟩ := run_append_wide (P := Tryz.prog) 72 72 76 i0 _ 3 40 Tryz.underlying72 hi hz0 hz1 hz2 rfl (by omega) H12.out.rowo _ _ 1 [.int .u64 ep, .int .u64 la, .slice Ar mr dr] rfl (Rd.new wr 76 [.int .u64 ep, .int .u64 la, .slice Ar mr dr]) (by simp [Value.oneCell']) hnb (by omega)
                have HRN := Lib.hid hrun
                obtain ⟨ls', hls'⟩ : ∃ z, ls ++ [⟨ep, la, Ar, mr, dr, tsv⟩] = z := ⟨_, rfl⟩
                have hown7 : w16.ownsRow 0 76 3 (.slice A6 (n + 1) c6) (n + 1) (svC ls') := by rw [← hls', svC_more]; exact hown6
                have H13 : Hid (St15 W (X bc c) (RowT 76 3 A6 (n + 1) c6 (svC ls')) [] [(t6, .cells #[.int .i64 x.d, .int .i64 x.nd, .int .i64 x.c, .int .i64 x.m, .int .u64 x.e, .bool x.rd, .string x.t] 34 (0, 0))] [] (ls'.map SvL.x) w16) := Lib.hid ((H12.out.push hown7 hg6 hwh).less (fun _ h => h) (fun _ h => .tail _ h) (fun _ h => h) (fun z hz => by
                  rw [← hls'] at hz
                  rw [List.map_append] at hz
                  rcases List.mem_append.1 hz with h | h
                  · exact .tail _ h
                  · rw [List.map_cons, List.map_nil] at h
                    rw [List.mem_singleton.1 h]
                    exact .head _))
                have HS3 : Hid (x.c ≠ 99 → SI tx c L2 (ls'.map SvL.v)) := Lib.hid fun _ => by
                  rw [← hls', List.map_append]
                  exact HSAW.out
                have HLS3 : Hid (ls'.length = n + 1 ∧ n + 1 ≤ 6 * k + (q + 1) ∧ ∀ y ∈ ls', y.m ≤ 20) := Lib.hid ⟨by rw [← hls', List.length_append, HLS.out.1]; rfl, by have := HLS.out.2.1; omega, fun z hz => by
                  rw [← hls'] at hz
                  rcases List.mem_append.1 hz with h | h
                  · exact HLS.out.2.2 z h
                  · rw [List.mem_singleton.1 h]; exact HMR.out⟩
                have HNE := Lib.hid hc9
                clear hg hg1 hi hz0 hz1 hz2 H12 hrun hown6 hown7 hg6 hwh hls' HCE HSAW HALK HRUN HEP HLG hc9
                go_wp2_with (at_builtin; refine wpList_append_run rfl _ _ _ rfl _ _ rfl rfl HRN.out ?_)
                go_roundw
                case rel => exact ⟨q + 1, ls', A6, n + 1, c6, by omega, rfl, by go_num, HS3, Lib.hid (.inl HNE.out), HLS3, H13⟩
                case measure => simp [intOf]; omega
        · have H10 := Lib.hid (hD.out.less (l' := []) (fun _ h => h) (fun _ h => nomatch h) (fun _ h => h) (fun _ h => h))
          have hne : x.c ≠ 99 := by
            rcases HNN9.out with h | h
            · exact h
            · omega
          have HS3 := Lib.hid (HS.out hne)
          have HLS3 : Hid (ls.length = n ∧ n ≤ 6 * (k + 1) ∧ ∀ y ∈ ls, y.m ≤ 20) := Lib.hid ⟨HLS.out.1, by have := HLS.out.2.1; omega, HLS.out.2.2⟩
          clear hD hne HS HLS
          go_wp2_with fail
          go_roundw
          case rel => exact ⟨k + 1, c, L2, ls, A, n, cap, by omega, rfl, by go_num, HIN, HCN2, HS3, HLS3, H10⟩
          case measure => simp [intOf]; omega
    · have HF := Lib.hid hD.out.low
      clear hD
      go_wp2_with fail
      go_ret
      exact ⟨rfl, HF.out⟩
end
end
end Go.Proofs.YtdhnpmagapbmhaaGreatDoor
