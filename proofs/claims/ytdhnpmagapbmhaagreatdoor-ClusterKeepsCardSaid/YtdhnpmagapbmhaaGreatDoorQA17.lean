/-
  Contracts and plain functions that the law stands on, part 17 of 19.
-/
import Derived.Test.YtdhnpmagapbmhaaGreatDoorQA16
namespace Go.Proofs.YtdhnpmagapbmhaaGreatDoor
/- ClusterLeads, of layer 16: the walk. -/
section
open Go.RowKit
set_option maxRecDepth 100000

section
variable {X : Nat → Cu → Thing}
set_option maxHeartbeats 32000000 in
theorem clusterleads_walk (C : ClusterC X) (N : Int) (A1 : Option Addr) (l1 c1 : Nat) (ts : List Ac7) (W : World) (hN : I64n N) (r1 : AG W A1 l1 ts) (hF : ∀ t ∈ ts, t.Fine) (hL : Lw W) :
    Calls Tryz.prog 4 #[.int .i64 N, .slice A1 l1 c1] W fun e w' => e = .returned (.bool true) ∧ Below W.heap.size W w' := by
  have HAW := Lib.hid (awake16_ok C hL)
  have R1 := Lib.hid r1
  have HN1 := Lib.hid r1.len
  have HFX := Lib.hid hF
  have HC := Lib.hid C
  have HLW := Lib.hid hL
  have HNN := Lib.hid hN
  clear r1 hF C hL hN
  go_enter Tryz.func4, Tryz.ntmps4
  go_wp2_with fail
  refine HAW.out.mono ?_
  rintro e w1 ⟨rfl, k1⟩
  have HK1 := Lib.hid k1
  clear HAW k1
  by_cases hNN : 1 ≤ N ∧ N ≤ 6
  rotate_left
  · have HNo := Lib.hid fun w => HC.out.no N w HNN.out hNN
    clear hNN
    go_wp2_with fail
    refine (HNo.out w1).mono ?_
    rintro e w3 ⟨rfl, k3⟩
    have HK3 := Lib.hid (HK1.out.trans (k3.mono HK1.out.size))
    clear k3
    go_wp2_with fail
    go_ret
    exact ⟨rfl, HK3.out⟩
  have HNew := Lib.hid fun w hw => HC.out.new N w hw hNN.1 hNN.2
  have HI0 : Hid (CuI 0 (newCu N.toNat)) := Lib.hid (CuI.new (by omega) (by omega))
  have HNt : Hid (((N.toNat : Nat) : Int) = N) := Lib.hid (by omega)
  have hN1 := hNN.1
  have hN6 := hNN.2
  clear hNN
  go_wp2_with fail
  refine (HNew.out w1 (HLW.out.next HK1.out)).mono ?_
  rintro e w3 ⟨bc, rfl, ⟨S3, x3, y3⟩, k3⟩
  have H2 : Hid (St15 W (X bc (newCu N.toNat)) T0 [] [] [] [] w3) := Lib.hid (St15.alone HK1.out x3 y3 k3)
  have HK3 := Lib.hid (HK1.out.trans (k3.mono HK1.out.size))
  clear x3 y3 k3 HNew
  obtain ⟨c0, hc0⟩ : ∃ c, newCu N.toNat = c := ⟨_, rfl⟩
  have HC0 := Lib.hid hc0
  have HCN : Hid (((c0.n : Nat) : Int) = N) := Lib.hid (by rw [← hc0]; exact HNt.out)
  rw [hc0] at H2 HI0
  clear hc0
  have HLG := Lib.hid (llarge16_ok A1 l1 c1 ts w3 (R1.out.next HK3.out))
  go_wp2_with fail
  refine HLG.out.mono ?_
  rintro e w4 ⟨bg, rfl, hbg, k4⟩
  have H3 := Lib.hid (H2.out.next k4)
  clear HLG k4 H2
  cases bg with
  | true =>
    clear hbg
    have HF := Lib.hid H3.out.low
    go_wp2_with fail
    go_ret
    exact ⟨rfl, HF.out⟩
  | false =>
  obtain ⟨hl60, hsm⟩ := hbg rfl
  have HSM := Lib.hid hsm
  clear hbg hsm
  go_wp2_with fail
  go_loopw [29] (fun i wr => ∃ (k : Nat) (c : Cu), k ≤ l1 ∧ i = .int .i64 k ∧ Hid (CuI k c) ∧ Hid (((c.n : Nat) : Int) = N) ∧ Hid (St15 W (X bc c) T0 [] [] [] [] wr)) (fun i _ => l1 - (intOf i).toNat)
  case atStart => exact ⟨0, c0, Nat.zero_le _, rfl, HI0, HCN, H3⟩
  case round =>
    obtain ⟨k, c, hk, rfl, HI, HCN, hD⟩ := hrel
    clear HI0 H3
    by_cases hlt : k < l1
    · have hkl : k < ts.length := by rw [HN1.out]; exact hlt
      obtain ⟨ad, rfl, _, hcc⟩ := R1.out.at_ hkl
      obtain ⟨x0, x1, x2, x3, x4, x5, x6⟩ := hcc wr (hD.out.low)
      have HXF := Lib.hid (HFX.out _ (List.getElem_mem hkl))
      have HXS := Lib.hid (HSM.out _ (List.getElem_mem hkl))
      clear hcc
      generalize ts[k] = x at *
      obtain ⟨wx, hwx⟩ : ∃ u, wr.alloc (.cells #[.int .i64 x.d, .int .i64 x.nd, .int .i64 x.c, .int .i64 x.m, .int .u64 x.e, .bool x.rd, .string x.t] 34) = u := ⟨_, rfl⟩
      obtain ⟨t6, ht6⟩ : ∃ y, wr.heap.size = y := ⟨_, rfl⟩
      have H1 := Lib.hid ((hD.out).mark (.cells #[.int .i64 x.d, .int .i64 x.nd, .int .i64 x.c, .int .i64 x.m, .int .u64 x.e, .bool x.rd, .string x.t] 34) hwx ht6)
      have HWX := Lib.hid hwx
      have HT6 := Lib.hid ht6
      have m6 := H1.out.at_ (.head _)
      obtain ⟨y0, _⟩ := cellsAt m6 0 (v := .int .i64 x.d) rfl
      obtain ⟨y1, _⟩ := cellsAt m6 1 (v := .int .i64 x.nd) rfl
      obtain ⟨y2, _⟩ := cellsAt m6 2 (v := .int .i64 x.c) rfl
      obtain ⟨y3, _⟩ := cellsAt m6 3 (v := .int .i64 x.m) rfl
      obtain ⟨y4, _⟩ := cellsAt m6 4 (v := .int .u64 x.e) rfl
      obtain ⟨y5, _⟩ := cellsAt m6 5 (v := .bool x.rd) rfl
      obtain ⟨y6, _⟩ := cellsAt m6 6 (v := .string x.t) rfl
      have HQ := Lib.hid (H1.out.cact HC.out HLW.out HI.out (by omega) HXF.out HXS.out)
      have HIN := Lib.hid (HI.out.act (by omega) HXF.out HXS.out)
      have HCN2 : Hid ((((actCu c x).2.n : Nat) : Int) = N) := Lib.hid (by rw [act_n]; exact HCN.out)
      obtain ⟨R, hR⟩ : ∃ R, actCu c x = R := ⟨_, rfl⟩
      rw [hR] at HQ HIN HCN2
      clear hwx ht6 hD m6 hR HI HCN
      go_wp2_with fail
      rw [HWX.out, HT6.out]
      refine HQ.out.mono ?_
      rintro e w5 ⟨A5, m5, d5, rfl, h5⟩
      have H5 := Lib.hid (h5.less (ps' := []) (l' := []) (rs' := []) (xs' := []) (fun _ h => h) (fun _ h => nomatch h) (fun _ h => nomatch h) (fun _ h => nomatch h))
      clear h5 HQ x0 x1 x2 x3 x4 x5 x6 y0 y1 y2 y3 y4 y5 y6 H1 HWX HT6 HXF HXS
      generalize R.2 = c at *
      obtain ⟨pe, pp, pc, hpm⟩ : ∃ a b d, c.pm = ⟨a, b, d⟩ := ⟨_, _, _, rfl⟩
      have HQ := Lib.hid (H5.out.cnew HC.out HIN.out)
      have HIp : Hid (I64n pp) := Lib.hid (by have := HIN.out.is.1; have := HIN.out.is.2; have := HIN.out.n6; rw [hpm] at *; unfold I64n; dsimp only at *; omega)
      rw [hpm] at HQ
      have HPM := Lib.hid hpm
      clear hpm
      unfold toV16
      go_wp2_with fail
      refine HQ.out.mono ?_
      rintro e w6 ⟨rfl, h6⟩
      obtain ⟨w7, hw7⟩ : ∃ u, w6.alloc (.cells #[.int .u64 pe, .int .i64 pp, .int .u64 pc] 45) = u := ⟨_, rfl⟩
      obtain ⟨t9, ht9⟩ : ∃ y, w6.heap.size = y := ⟨_, rfl⟩
      have H7 := Lib.hid (h6.mark _ hw7 ht9)
      have m9 := H7.out.at_ (.head _)
      obtain ⟨z1, _⟩ := cellsAt m9 1 (v := .int .i64 pp) rfl
      have HW7 := Lib.hid hw7
      have HT9 := Lib.hid ht9
      have HQ2 := Lib.hid (H7.out.clog HC.out HIN.out pp HIp.out)
      clear h6 hw7 ht9 HQ H5 m9
      dsimp only
      go_wp2_with fail
      rw [HW7.out, HT9.out]
      refine HQ2.out.mono ?_
      rintro e w8 ⟨Af, lf, df, ⟨rfl, hlfd⟩, h8⟩
      have hlr : LR w8 Af lf (lgCu c pp) := h8.lr (.head _)
      have HFL : Hid ((lgCu c pp).length = lf) := Lib.hid hlr.len
      have hfirst : lgCu c pp = c.first.lg := by
        have h := HIN.out.is
        rw [HPM.out] at h
        unfold lgCu Cu.first
        rw [if_pos h, HPM.out]
      have hlf : lf ≤ 200 := by rw [← HFL.out]; exact lg_le HIN.out pp
      rw [hfirst] at h8 HFL
      have H8 := Lib.hid h8
      have hld : ldCu c pp = true := by
        have h := HIN.out.is
        have h2 := HIN.out.fl
        rw [HPM.out] at h
        unfold Cu.first at h2
        rw [HPM.out] at h2
        unfold ldCu
        rw [if_pos h]
        exact h2
      have hep : epCu c pp = pe := by
        have h := HIN.out.is
        have h2 := HIN.out.fe
        unfold Cu.first at h2
        rw [HPM.out] at h h2
        unfold epCu
        rw [if_pos h]
        exact h2
      have hcl : ¬ (lf : Int) < pc := by
        have h := HIN.out.cl
        rw [HPM.out] at h
        have := HFL.out
        dsimp only at h
        omega
      have hwl : IntKind.u64.wrap (lf : Int) = (lf : Int) := by rw [IntKind.wrap_u64]; omega
      have HLD := Lib.hid fun w l rs (h : St15 W (X bc c) T0 [] l rs [] w) => h.cld HC.out HIN.out pp HIp.out
      rw [hld] at HLD
      have HEP := Lib.hid fun w l rs (h : St15 W (X bc c) T0 [] l rs [] w) => h.cep HC.out HIN.out pp HIp.out
      rw [hep] at HEP
      clear h8 hlr hfirst HQ2 H7 HW7 HT9 z1 hld hep
      obtain ⟨GN, hGN⟩ : ∃ G : World → Prop, ∀ u, G u ↔ St15 W (X bc c) T0 [] [(t9, .cells #[.int .u64 pe, .int .i64 pp, .int .u64 pc] 45 (0, 0))] [(Af, lf, c.first.lg)] [] u := ⟨_, fun _ => Iff.rfl⟩
      have HGN := Lib.hid hGN
      have HCE : Hid (∀ u, GN u → u.cell? ⟨t9, 0, none⟩ = some (.int .u64 pe) ∧ u.cell? ⟨t9, 1, none⟩ = some (.int .i64 pp) ∧ u.cell? ⟨t9, 2, none⟩ = some (.int .u64 pc)) := Lib.hid fun u hu => by
        have m9 := ((hGN u).1 hu).at_ (.head _)
        exact ⟨(cellsAt m9 0 rfl).1, (cellsAt m9 1 rfl).1, (cellsAt m9 2 rfl).1⟩
      have HG8 : Hid (GN w8) := Lib.hid ((hGN _).2 H8.out)
      have HKR : Hid (∀ (i : Nat) (u : World), KeepT i u u) := Lib.hid fun _ _ => trivial
      clear hGN H8
      go_wp2_with fail
      refine wp_region_specs6 (S := fun _ u => GN u) (Kp := KeepT) (Sp := [(42, Stl.eq (.pointer (some ⟨bc, 0, none⟩))), (43, Stl.eq (.pointer (some ⟨t9, 1, none⟩))), (44, Stl.eq (.int .i64 pp)), (45, Stl.eq (.bool true)), (46, Stl.eq (.bool false)), (47, Stl.eq (.bool false)), (48, Stl.eq (.pointer (some ⟨bc, 0, none⟩))), (49, Stl.eq (.pointer (some ⟨t9, 1, none⟩))), (50, Stl.eq (.int .i64 pp)), (51, Stl.eq (.int .u64 pe)), (52, Stl.eq (.pointer (some ⟨t9, 0, none⟩))), (53, Stl.eq (.int .u64 pe)), (54, Stl.eq (.bool false)), (55, Stl.eq (.bool false)), (56, Stl.eq (.bool false)), (57, Stl.eq (.pointer (some ⟨t9, 2, none⟩))), (58, Stl.eq (.int .u64 pc)), (59, Stl.eq (.slice Af lf df)), (60, Stl.eq (.int .i64 lf)), (61, Stl.eq (.int .u64 lf)), (62, Stl.eq (.bool false)), (63, Stl.eq (.bool false))]) (by kernel_rfl) (by kernel_rfl) ((HGN.out _).2 (((HGN.out _).1 HG8.out).next (kp_drewN w8 1))) ?_ ?_
      · refine EachOp.cons ?_ ?_
        · intro L a u hL hst hS hdep hq hno
          have h5 : a.tmps.getD 5 undef = .pointer (some ⟨bc, 0, none⟩) := hst.out 5 (by kernel_rfl)
          refine .inl ⟨trivial, ?_⟩
          have g5 := gd h5
          go_simp
          exact Went6.same (HKR.out _ _) hS rfl
        refine EachOp.cons ?_ ?_
        · intro L a u hL hst hS hdep hq hno
          have h9 : a.tmps.getD 9 undef = .pointer (some ⟨t9, 0, none⟩) := hst.out 9 (by kernel_rfl)
          refine .inl ⟨trivial, ?_⟩
          have g9 := gd h9
          go_simp
          exact Went6.same (HKR.out _ _) hS rfl
        refine EachOp.cons ?_ ?_
        · intro L a u hL hst hS hdep hq hno
          have h43 : a.tmps.getD 43 undef = .pointer (some ⟨t9, 1, none⟩) := hdep 43 (by kernel_rfl)
          refine .inl ⟨trivial, ?_⟩
          have g43 := gd h43
          have yy := (HCE.out u hS).2.1
          go_simp
          exact Went6.same (HKR.out _ _) hS rfl
        refine EachOp.cons ?_ ?_
        · intro L a u hL hst hS hdep hq hno
          have h42 : a.tmps.getD 42 undef = .pointer (some ⟨bc, 0, none⟩) := hdep 42 (by kernel_rfl)
          have h44 : a.tmps.getD 44 undef = .int .i64 pp := hdep 44 (by kernel_rfl)
          refine .inl ⟨trivial, ?_⟩
          have g42 := gd h42
          have g44 := gd h44
          go_simp
          refine (HLD.out _ _ _ ((HGN.out u).1 hS)).mono ?_
          rintro e' u' ⟨rfl, h2⟩
          exact Went6.next ((HGN.out _).2 h2) trivial rfl
        refine EachOp.cons ?_ ?_
        · intro L a u hL hst hS hdep hq hno
          have h45 : a.tmps.getD 45 undef = .bool true := hdep 45 (by kernel_rfl)
          refine .inl ⟨trivial, ?_⟩
          have g45 := gd h45
          go_simp
          exact Went6.same (HKR.out _ _) hS rfl
        refine EachOp.cons ?_ ?_
        · intro L a u hL hst hS hdep hq hno
          have h46 : a.tmps.getD 46 undef = .bool false := hdep 46 (by kernel_rfl)
          refine .inl ⟨trivial, ?_⟩
          have g46 := gd h46
          go_simp
          exact Went6.same (HKR.out _ _) hS rfl
        refine EachOp.cons ?_ ?_
        · intro L a u hL hst hS hdep hq hno
          have h5 : a.tmps.getD 5 undef = .pointer (some ⟨bc, 0, none⟩) := hst.out 5 (by kernel_rfl)
          have h47 : a.tmps.getD 47 undef = .bool false := hdep 47 (by kernel_rfl)
          refine .inl ⟨⟨47, by kernel_rfl, h47⟩, ?_⟩
          clear h47
          have g5 := gd h5
          go_simp
          exact Went6.same (HKR.out _ _) hS rfl
        refine EachOp.cons ?_ ?_
        · intro L a u hL hst hS hdep hq hno
          have h9 : a.tmps.getD 9 undef = .pointer (some ⟨t9, 0, none⟩) := hst.out 9 (by kernel_rfl)
          have h47 : a.tmps.getD 47 undef = .bool false := hdep 47 (by kernel_rfl)
          refine .inl ⟨⟨47, by kernel_rfl, h47⟩, ?_⟩
          clear h47
          have g9 := gd h9
          go_simp
          exact Went6.same (HKR.out _ _) hS rfl
        refine EachOp.cons ?_ ?_
        · intro L a u hL hst hS hdep hq hno
          have h49 : a.tmps.getD 49 undef = .pointer (some ⟨t9, 1, none⟩) := hdep 49 (by kernel_rfl)
          have h47 : a.tmps.getD 47 undef = .bool false := hdep 47 (by kernel_rfl)
          refine .inl ⟨⟨47, by kernel_rfl, h47⟩, ?_⟩
          clear h47
          have g49 := gd h49
          have yy := (HCE.out u hS).2.1
          go_simp
          exact Went6.same (HKR.out _ _) hS rfl
        refine EachOp.cons ?_ ?_
        · intro L a u hL hst hS hdep hq hno
          have h48 : a.tmps.getD 48 undef = .pointer (some ⟨bc, 0, none⟩) := hdep 48 (by kernel_rfl)
          have h50 : a.tmps.getD 50 undef = .int .i64 pp := hdep 50 (by kernel_rfl)
          have h47 : a.tmps.getD 47 undef = .bool false := hdep 47 (by kernel_rfl)
          refine .inl ⟨⟨47, by kernel_rfl, h47⟩, ?_⟩
          clear h47
          have g48 := gd h48
          have g50 := gd h50
          go_simp
          refine (HEP.out _ _ _ ((HGN.out u).1 hS)).mono ?_
          rintro e' u' ⟨rfl, h2⟩
          exact Went6.next ((HGN.out _).2 h2) trivial rfl
        refine EachOp.cons ?_ ?_
        · intro L a u hL hst hS hdep hq hno
          have h9 : a.tmps.getD 9 undef = .pointer (some ⟨t9, 0, none⟩) := hst.out 9 (by kernel_rfl)
          have h47 : a.tmps.getD 47 undef = .bool false := hdep 47 (by kernel_rfl)
          refine .inl ⟨⟨47, by kernel_rfl, h47⟩, ?_⟩
          clear h47
          have g9 := gd h9
          go_simp
          exact Went6.same (HKR.out _ _) hS rfl
        refine EachOp.cons ?_ ?_
        · intro L a u hL hst hS hdep hq hno
          have h52 : a.tmps.getD 52 undef = .pointer (some ⟨t9, 0, none⟩) := hdep 52 (by kernel_rfl)
          have h47 : a.tmps.getD 47 undef = .bool false := hdep 47 (by kernel_rfl)
          refine .inl ⟨⟨47, by kernel_rfl, h47⟩, ?_⟩
          clear h47
          have g52 := gd h52
          have yy := (HCE.out u hS).1
          go_simp
          exact Went6.same (HKR.out _ _) hS rfl
        refine EachOp.cons ?_ ?_
        · intro L a u hL hst hS hdep hq hno
          have h51 : a.tmps.getD 51 undef = .int .u64 pe := hdep 51 (by kernel_rfl)
          have h53 : a.tmps.getD 53 undef = .int .u64 pe := hdep 53 (by kernel_rfl)
          have h47 : a.tmps.getD 47 undef = .bool false := hdep 47 (by kernel_rfl)
          refine .inl ⟨⟨47, by kernel_rfl, h47⟩, ?_⟩
          clear h47
          have g51 := gd h51
          have g53 := gd h53
          go_simp
          exact Went6.same (HKR.out _ _) hS rfl
        refine EachOp.cons ?_ ?_
        · intro L a u hL hst hS hdep hq hno
          have h47 : a.tmps.getD 47 undef = .bool false := hdep 47 (by kernel_rfl)
          have h54 : a.tmps.getD 54 undef = .bool false := hdep 54 (by kernel_rfl)
          refine .inl ⟨trivial, ?_⟩
          have g47 := gd h47
          have g54 := gd h54
          go_simp
          exact Went6.same (HKR.out _ _) hS rfl
        refine EachOp.cons ?_ ?_
        · intro L a u hL hst hS hdep hq hno
          have h55 : a.tmps.getD 55 undef = .bool false := hdep 55 (by kernel_rfl)
          refine .inl ⟨trivial, ?_⟩
          have g55 := gd h55
          go_simp
          exact Went6.same (HKR.out _ _) hS rfl
        refine EachOp.cons ?_ ?_
        · intro L a u hL hst hS hdep hq hno
          have h9 : a.tmps.getD 9 undef = .pointer (some ⟨t9, 0, none⟩) := hst.out 9 (by kernel_rfl)
          have h56 : a.tmps.getD 56 undef = .bool false := hdep 56 (by kernel_rfl)
          refine .inl ⟨⟨56, by kernel_rfl, h56⟩, ?_⟩
          clear h56
          have g9 := gd h9
          go_simp
          exact Went6.same (HKR.out _ _) hS rfl
        refine EachOp.cons ?_ ?_
        · intro L a u hL hst hS hdep hq hno
          have h57 : a.tmps.getD 57 undef = .pointer (some ⟨t9, 2, none⟩) := hdep 57 (by kernel_rfl)
          have h56 : a.tmps.getD 56 undef = .bool false := hdep 56 (by kernel_rfl)
          refine .inl ⟨⟨56, by kernel_rfl, h56⟩, ?_⟩
          clear h56
          have g57 := gd h57
          have yy := (HCE.out u hS).2.2
          go_simp
          exact Went6.same (HKR.out _ _) hS rfl
        refine EachOp.cons ?_ ?_
        · intro L a u hL hst hS hdep hq hno
          have h10 : a.tmps.getD 10 undef = .slice Af lf df := hst.out 10 (by kernel_rfl)
          have h56 : a.tmps.getD 56 undef = .bool false := hdep 56 (by kernel_rfl)
          refine .inl ⟨⟨56, by kernel_rfl, h56⟩, ?_⟩
          clear h56
          have g10 := gd h10
          go_simp
          exact Went6.same (HKR.out _ _) hS rfl
        refine EachOp.cons ?_ ?_
        · intro L a u hL hst hS hdep hq hno
          have h59 : a.tmps.getD 59 undef = .slice Af lf df := hdep 59 (by kernel_rfl)
          have h56 : a.tmps.getD 56 undef = .bool false := hdep 56 (by kernel_rfl)
          refine .inl ⟨⟨56, by kernel_rfl, h56⟩, ?_⟩
          clear h56
          have g59 := gd h59
          go_simp
          exact Went6.same (HKR.out _ _) hS rfl
        refine EachOp.cons ?_ ?_
        · intro L a u hL hst hS hdep hq hno
          have h60 : a.tmps.getD 60 undef = .int .i64 lf := hdep 60 (by kernel_rfl)
          have h56 : a.tmps.getD 56 undef = .bool false := hdep 56 (by kernel_rfl)
          refine .inl ⟨⟨56, by kernel_rfl, h56⟩, ?_⟩
          clear h56
          have g60 := gd h60
          have yy := hwl
          go_simp
          exact Went6.same (HKR.out _ _) hS rfl
        refine EachOp.cons ?_ ?_
        · intro L a u hL hst hS hdep hq hno
          have h58 : a.tmps.getD 58 undef = .int .u64 pc := hdep 58 (by kernel_rfl)
          have h61 : a.tmps.getD 61 undef = .int .u64 lf := hdep 61 (by kernel_rfl)
          have h56 : a.tmps.getD 56 undef = .bool false := hdep 56 (by kernel_rfl)
          refine .inl ⟨⟨56, by kernel_rfl, h56⟩, ?_⟩
          clear h56
          have g58 := gd h58
          have g61 := gd h61
          have yy := hcl
          go_simp
          first | exact Went6.same (HKR.out _ _) hS rfl | exact Went6.same (HKR.out _ _) hS (congrArg Value.bool (decide_eq_false (by omega)))
        refine EachOp.cons ?_ ?_
        · intro L a u hL hst hS hdep hq hno
          have h56 : a.tmps.getD 56 undef = .bool false := hdep 56 (by kernel_rfl)
          have h62 : a.tmps.getD 62 undef = .bool false := hdep 62 (by kernel_rfl)
          refine .inl ⟨trivial, ?_⟩
          have g56 := gd h56
          have g62 := gd h62
          go_simp
          exact Went6.same (HKR.out _ _) hS rfl
        exact EachOp.nil
      · intro L a u hLs hst hS hdep
        have h42 : a.tmps.getD 42 undef = .pointer (some ⟨bc, 0, none⟩) := hdep 42 (by kernel_rfl)
        have h43 : a.tmps.getD 43 undef = .pointer (some ⟨t9, 1, none⟩) := hdep 43 (by kernel_rfl)
        have h44 : a.tmps.getD 44 undef = .int .i64 pp := hdep 44 (by kernel_rfl)
        have h45 : a.tmps.getD 45 undef = .bool true := hdep 45 (by kernel_rfl)
        have h46 : a.tmps.getD 46 undef = .bool false := hdep 46 (by kernel_rfl)
        have h47 : a.tmps.getD 47 undef = .bool false := hdep 47 (by kernel_rfl)
        have h48 : a.tmps.getD 48 undef = .pointer (some ⟨bc, 0, none⟩) := hdep 48 (by kernel_rfl)
        have h49 : a.tmps.getD 49 undef = .pointer (some ⟨t9, 1, none⟩) := hdep 49 (by kernel_rfl)
        have h50 : a.tmps.getD 50 undef = .int .i64 pp := hdep 50 (by kernel_rfl)
        have h51 : a.tmps.getD 51 undef = .int .u64 pe := hdep 51 (by kernel_rfl)
        have h52 : a.tmps.getD 52 undef = .pointer (some ⟨t9, 0, none⟩) := hdep 52 (by kernel_rfl)
        have h53 : a.tmps.getD 53 undef = .int .u64 pe := hdep 53 (by kernel_rfl)
        have h54 : a.tmps.getD 54 undef = .bool false := hdep 54 (by kernel_rfl)
        have h55 : a.tmps.getD 55 undef = .bool false := hdep 55 (by kernel_rfl)
        have h56 : a.tmps.getD 56 undef = .bool false := hdep 56 (by kernel_rfl)
        have h57 : a.tmps.getD 57 undef = .pointer (some ⟨t9, 2, none⟩) := hdep 57 (by kernel_rfl)
        have h58 : a.tmps.getD 58 undef = .int .u64 pc := hdep 58 (by kernel_rfl)
        have h59 : a.tmps.getD 59 undef = .slice Af lf df := hdep 59 (by kernel_rfl)
        have h60 : a.tmps.getD 60 undef = .int .i64 lf := hdep 60 (by kernel_rfl)
        have h61 : a.tmps.getD 61 undef = .int .u64 lf := hdep 61 (by kernel_rfl)
        have h62 : a.tmps.getD 62 undef = .bool false := hdep 62 (by kernel_rfl)
        have h63 : a.tmps.getD 63 undef = .bool false := hdep 63 (by kernel_rfl)
        have hfr := hst.frame [(42, .pointer (some ⟨bc, 0, none⟩)), (43, .pointer (some ⟨t9, 1, none⟩)), (44, .int .i64 pp), (45, .bool true), (46, .bool false), (47, .bool false), (48, .pointer (some ⟨bc, 0, none⟩)), (49, .pointer (some ⟨t9, 1, none⟩)), (50, .int .i64 pp), (51, .int .u64 pe), (52, .pointer (some ⟨t9, 0, none⟩)), (53, .int .u64 pe), (54, .bool false), (55, .bool false), (56, .bool false), (57, .pointer (some ⟨t9, 2, none⟩)), (58, .int .u64 pc), (59, .slice Af lf df), (60, .int .i64 lf), (61, .int .u64 lf), (62, .bool false), (63, .bool false)] (by kernel_rfl) ⟨h42, h43, h44, h45, h46, h47, h48, h49, h50, h51, h52, h53, h54, h55, h56, h57, h58, h59, h60, h61, h62, h63, trivial⟩
        clear hst hdep h42 h43 h44 h45 h46 h47 h48 h49 h50 h51 h52 h53 h54 h55 h56 h57 h58 h59 h60 h61 h62 h63
        subst hfr
        simp only [List.foldl_cons, List.foldl_nil, List.setIfInBounds_toArray, List.set_cons_zero, List.set_cons_succ]
        have H9 := Lib.hid hS
        clear hS hLs
        go_wp2_with fail
        obtain ⟨wo, hwo⟩ : ∃ z, z = wr := ⟨wr, rfl⟩
        subst hwo
        go_loopw [65] (fun i wr => ∃ q : Nat, (q : Int) ≤ N ∧ i = .int .i64 q ∧ Hid (GN wr)) (fun i _ => N.toNat - (intOf i).toNat)
        case atStart => exact ⟨0, by omega, rfl, H9⟩
        case round =>
          obtain ⟨q, hq, rfl, hg⟩ := hrel
          clear H9
          by_cases hql : (q : Int) < N
          · have HNq : Hid (I64n (q : Int)) := Lib.hid (by unfold I64n; omega)
            have HQN : Hid (q < c.n) := Lib.hid (by have := HCN2.out; omega)
            have H10 := hg
            clear hg
            go_wp2_with fail
            obtain ⟨wo2, hwo2⟩ : ∃ z, z = wr := ⟨wr, rfl⟩
            subst hwo2
            go_loopw [69] (fun i wr => ∃ r : Nat, r ≤ q ∧ i = .int .i64 r ∧ Hid (GN wr)) (fun i _ => q - (intOf i).toNat)
            case atStart => exact ⟨0, Nat.zero_le _, rfl, H10⟩
            case round =>
              obtain ⟨r, hr, rfl, hg⟩ := hrel
              clear H10
              by_cases hrl : r < q
              · have HNr : Hid (I64n (r : Int)) := Lib.hid (by unfold I64n; omega)
                have HONE : Hid (ldCu c q = true → ldCu c r = true → (epCu c q == epCu c r) = false) := Lib.hid (by
                  have h1 : c.Is q := ⟨by omega, by have := HQN.out; omega⟩
                  have h2 : c.Is r := ⟨by omega, by have := HQN.out; omega⟩
                  unfold ldCu epCu
                  rw [if_pos h1, if_pos h2, if_pos h1, if_pos h2]
                  intro a b
                  have := HIN.out.one q r HQN.out (by have := HQN.out; omega) (by omega) a b
                  simpa [Cu.at] using this)
                have HLq := Lib.hid fun w l rs (h : St15 W (X bc c) T0 [] l rs [] w) => h.cld HC.out HIN.out q HNq.out
                have HLr := Lib.hid fun w l rs (h : St15 W (X bc c) T0 [] l rs [] w) => h.cld HC.out HIN.out r HNr.out
                have HEq := Lib.hid fun w l rs (h : St15 W (X bc c) T0 [] l rs [] w) => h.cep HC.out HIN.out q HNq.out
                have HEr := Lib.hid fun w l rs (h : St15 W (X bc c) T0 [] l rs [] w) => h.cep HC.out HIN.out r HNr.out
                obtain ⟨vq, hvq⟩ : ∃ x, ldCu c q = x := ⟨_, rfl⟩
                obtain ⟨vr, hvr⟩ : ∃ x, ldCu c r = x := ⟨_, rfl⟩
                obtain ⟨eq, heq⟩ : ∃ x, epCu c q = x := ⟨_, rfl⟩
                obtain ⟨er, her⟩ : ∃ x, epCu c r = x := ⟨_, rfl⟩
                rw [hvq] at HLq HONE
                rw [hvr] at HLr HONE
                rw [heq] at HEq HONE
                rw [her] at HEr HONE
                have H11 := Lib.hid ((HGN.out wr).1 hg.out)
                clear hvq hvr heq her hg
                cases vq with
                | false =>
                  clear HONE
                  go_wp2_with fail
                  refine (HLq.out _ _ _ H11.out).mono ?_
                  rintro e wa ⟨rfl, ha⟩
                  have H12 := Lib.hid ((HGN.out _).2 ha)
                  clear ha H11
                  go_wp2_with fail
                  go_roundw
                  case rel => exact ⟨r + 1, by omega, by go_num, H12⟩
                  case measure => simp [intOf]; omega
                | true =>
                  go_wp2_with fail
                  refine (HLq.out _ _ _ H11.out).mono ?_
                  rintro e wa ⟨rfl, ha⟩
                  have H12 := Lib.hid ha
                  clear ha H11 HLq
                  cases vr with
                  | false =>
                    clear HONE
                    go_wp2_with fail
                    refine (HLr.out _ _ _ H12.out).mono ?_
                    rintro e wb ⟨rfl, hb⟩
                    have H13 := Lib.hid ((HGN.out _).2 hb)
                    clear hb H12
                    go_wp2_with fail
                    go_roundw
                    case rel => exact ⟨r + 1, by omega, by go_num, H13⟩
                    case measure => simp [intOf]; omega
                  | true =>
                    have g9 := HONE.out (by simp) (by simp)
                    go_wp2_with fail
                    refine (HLr.out _ _ _ H12.out).mono ?_
                    rintro e wb ⟨rfl, hb⟩
                    have H13 := Lib.hid hb
                    clear hb H12 HONE HLr
                    go_wp2_with fail
                    refine (HEq.out _ _ _ H13.out).mono ?_
                    rintro e wc ⟨rfl, hc⟩
                    have H14 := Lib.hid hc
                    clear hc H13 HEq
                    go_wp2_with fail
                    refine (HEr.out _ _ _ H14.out).mono ?_
                    rintro e wd ⟨rfl, hd⟩
                    have H15 := Lib.hid ((HGN.out _).2 hd)
                    clear hd H14 HEr
                    go_wp2_with fail
                    go_roundw
                    case rel => exact ⟨r + 1, by omega, by go_num, H15⟩
                    case measure => simp [intOf]; omega
              · have H11 := hg
                clear hg
                have HLG := Lib.hid (((HGN.out wr).1 H11.out).clog HC.out HIN.out q HNq.out)
                have hlg : lgCu c q = (c.ns q).lg := by
                  have h1 : c.Is q := ⟨by omega, by have := HQN.out; omega⟩
                  unfold lgCu
                  rw [if_pos h1]
                  rfl
                have hep : epCu c q = (c.ns q).ep := by
                  have h1 : c.Is q := ⟨by omega, by have := HQN.out; omega⟩
                  unfold epCu
                  rw [if_pos h1]
                  rfl
                rw [hlg] at HLG
                have HEP2 := Lib.hid fun w l rs (h : St15 W (X bc c) T0 [] l rs [] w) => h.cep HC.out HIN.out q HNq.out
                rw [hep] at HEP2
                have hle := HIN.out.ep q HQN.out
                rw [HPM.out] at hle
                dsimp only at hle
                have HEC0 := Lib.hid hep
                clear hlg hep HEP HLD hcl hwl
                go_wp2_with fail
                clear hrl hr
                refine HLG.out.mono ?_
                rintro e w9 ⟨Al, la, dl, ⟨rfl, hlad⟩, h9⟩
                have HLA : Hid ((c.ns q).lg.length = la) := Lib.hid (show LR w9 Al la (c.ns q).lg from h9.lr (.head _)).len
                have hla : la ≤ 200 := by rw [← HLA.out]; exact (HIN.out.nd q).lg
                have H12 := Lib.hid h9
                obtain ⟨eq, heq⟩ : ∃ x, (c.ns q).ep = x := ⟨_, rfl⟩
                have HEQ := Lib.hid heq
                rw [heq] at hle HEP2
                have HEC : Hid (epCu c q = eq) := Lib.hid (HEC0.out.trans heq)
                clear heq h9 HLG H11
                have g1 : ¬ pe < eq := by omega
                by_cases hee : eq = pe
                rotate_left
                · have g2 : (eq == pe) = false := by simpa using hee
                  clear hee
                  obtain ⟨G2, hG2⟩ : ∃ G : World → Prop, ∀ u, G u ↔ St15 W (X bc c) T0 [] [(t9, .cells #[.int .u64 pe, .int .i64 pp, .int .u64 pc] 45 (0, 0))] [(Al, la, (c.ns q).lg), (Af, lf, c.first.lg)] [] u := ⟨_, fun _ => Iff.rfl⟩
                  have HG2 := Lib.hid hG2
                  have HCE2 : Hid (∀ u, G2 u → u.cell? ⟨t9, 0, none⟩ = some (.int .u64 pe)) := Lib.hid fun u hu => (cellsAt (((hG2 u).1 hu).at_ (.head _)) 0 rfl).1
                  have HBACK : Hid (∀ u, G2 u → GN u) := Lib.hid fun u hu => (HGN.out u).2 (((hG2 u).1 hu).less (fun _ h => h) (fun _ h => h) (fun r h => by rw [List.mem_singleton.1 h]; exact .tail _ (.head _)) (fun _ h => h))
                  have HG9 : Hid (G2 w9) := Lib.hid ((hG2 _).2 H12.out)
                  clear hG2 H12
                  go_wp2_with fail
                  refine wp_region_specs8 (S := fun _ u => G2 u) (Kp := KeepT) (Sp := [(93, Stl.eq (.pointer (some ⟨bc, 0, none⟩))), (94, Stl.eq (.int .i64 q)), (95, Stl.eq (.int .u64 eq)), (96, Stl.eq (.pointer (some ⟨t9, 0, none⟩))), (97, Stl.eq (.int .u64 pe)), (98, Stl.eq (.bool false)), (99, Stl.eq (.bool false)), (100, Stl.eq (.pointer (some ⟨bc, 0, none⟩))), (101, Stl.eq (.int .i64 q)), (102, Stl.eq (.int .u64 eq)), (103, Stl.eq (.pointer (some ⟨t9, 0, none⟩))), (104, Stl.eq (.int .u64 pe)), (105, Stl.eq (.bool false)), (106, Stl.eq (.bool false)), (107, Stl.eq (undef)), (108, Stl.eq (undef)), (109, Stl.eq (undef)), (110, Stl.eq (undef)), (111, Stl.eq (undef)), (112, Stl.eq (undef)), (113, Stl.eq (undef)), (114, Stl.eq (undef)), (115, Stl.eq (undef)), (116, Stl.eq (undef)), (117, Stl.eq (undef)), (118, Stl.eq (undef)), (119, Stl.eq (undef)), (120, Stl.eq (undef)), (121, Stl.eq (undef)), (122, Stl.eq (undef)), (123, Stl.eq (undef)), (124, Stl.eq (undef)), (125, Stl.eq (undef)), (126, Stl.eq (undef)), (127, Stl.eq (undef)), (128, Stl.eq (undef)), (129, Stl.eq (undef)), (130, Stl.eq (undef)), (131, Stl.eq (undef)), (132, Stl.eq (undef)), (133, Stl.eq (undef)), (134, Stl.eq (undef)), (135, Stl.eq (undef)), (136, Stl.eq (undef)), (137, Stl.eq (undef)), (138, Stl.eq (.bool false)), (139, Stl.eq (.bool false))]) (by kernel_rfl) (by kernel_rfl) ((HG2.out _).2 (((HG2.out _).1 HG9.out).next (kp_drewN w9 1))) ?_ ?_
                  · refine EachOp.cons ?_ ?_
                    · intro L a u hL hst hS hdep hq hno
                      have h5 : a.tmps.getD 5 undef = .pointer (some ⟨bc, 0, none⟩) := hst.out 5 (by kernel_rfl)
                      refine .inl ⟨trivial, ?_⟩
                      have g5 := gd h5
                      go_simp
                      exact Went6.same (HKR.out _ _) hS rfl
                    refine EachOp.cons ?_ ?_
                    · intro L a u hL hst hS hdep hq hno
                      have h11 : a.tmps.getD 11 undef = .int .i64 q := hst.out 11 (by kernel_rfl)
                      refine .inl ⟨trivial, ?_⟩
                      have g11 := gd h11
                      go_simp
                      exact Went6.same (HKR.out _ _) hS rfl
                    refine EachOp.cons ?_ ?_
                    · intro L a u hL hst hS hdep hq hno
                      have h93 : a.tmps.getD 93 undef = .pointer (some ⟨bc, 0, none⟩) := hdep 93 (by kernel_rfl)
                      have h94 : a.tmps.getD 94 undef = .int .i64 q := hdep 94 (by kernel_rfl)
                      refine .inl ⟨trivial, ?_⟩
                      have g93 := gd h93
                      have g94 := gd h94
                      go_simp
                      refine (HEP2.out _ _ _ ((HG2.out u).1 hS)).mono ?_
                      rintro e' u' ⟨rfl, h2⟩
                      exact Went6.next ((HG2.out _).2 h2) trivial rfl
                    refine EachOp.cons ?_ ?_
                    · intro L a u hL hst hS hdep hq hno
                      have h9 : a.tmps.getD 9 undef = .pointer (some ⟨t9, 0, none⟩) := hst.out 9 (by kernel_rfl)
                      refine .inl ⟨trivial, ?_⟩
                      have g9 := gd h9
                      go_simp
                      exact Went6.same (HKR.out _ _) hS rfl
                    refine EachOp.cons ?_ ?_
                    · intro L a u hL hst hS hdep hq hno
                      have h96 : a.tmps.getD 96 undef = .pointer (some ⟨t9, 0, none⟩) := hdep 96 (by kernel_rfl)
                      refine .inl ⟨trivial, ?_⟩
                      have g96 := gd h96
                      have yy := HCE2.out u hS
                      go_simp
                      exact Went6.same (HKR.out _ _) hS rfl
                    refine EachOp.cons ?_ ?_
                    · intro L a u hL hst hS hdep hq hno
                      have h95 : a.tmps.getD 95 undef = .int .u64 eq := hdep 95 (by kernel_rfl)
                      have h97 : a.tmps.getD 97 undef = .int .u64 pe := hdep 97 (by kernel_rfl)
                      refine .inl ⟨trivial, ?_⟩
                      have g95 := gd h95
                      have g97 := gd h97
                      have yy := g1
                      go_simp
                      first | exact Went6.same (HKR.out _ _) hS rfl | exact Went6.same (HKR.out _ _) hS (congrArg Value.bool (decide_eq_false (by omega)))
                    refine EachOp.cons ?_ ?_
                    · intro L a u hL hst hS hdep hq hno
                      have h98 : a.tmps.getD 98 undef = .bool false := hdep 98 (by kernel_rfl)
                      refine .inl ⟨trivial, ?_⟩
                      have g98 := gd h98
                      go_simp
                      exact Went6.same (HKR.out _ _) hS rfl
                    refine EachOp.cons ?_ ?_
                    · intro L a u hL hst hS hdep hq hno
                      have h5 : a.tmps.getD 5 undef = .pointer (some ⟨bc, 0, none⟩) := hst.out 5 (by kernel_rfl)
                      have h99 : a.tmps.getD 99 undef = .bool false := hdep 99 (by kernel_rfl)
                      refine .inl ⟨⟨99, by kernel_rfl, h99⟩, ?_⟩
                      clear h99
                      have g5 := gd h5
                      go_simp
                      exact Went6.same (HKR.out _ _) hS rfl
                    refine EachOp.cons ?_ ?_
                    · intro L a u hL hst hS hdep hq hno
                      have h11 : a.tmps.getD 11 undef = .int .i64 q := hst.out 11 (by kernel_rfl)
                      have h99 : a.tmps.getD 99 undef = .bool false := hdep 99 (by kernel_rfl)
                      refine .inl ⟨⟨99, by kernel_rfl, h99⟩, ?_⟩
                      clear h99
                      have g11 := gd h11
                      go_simp
                      exact Went6.same (HKR.out _ _) hS rfl
                    refine EachOp.cons ?_ ?_
                    · intro L a u hL hst hS hdep hq hno
                      have h100 : a.tmps.getD 100 undef = .pointer (some ⟨bc, 0, none⟩) := hdep 100 (by kernel_rfl)
                      have h101 : a.tmps.getD 101 undef = .int .i64 q := hdep 101 (by kernel_rfl)
                      have h99 : a.tmps.getD 99 undef = .bool false := hdep 99 (by kernel_rfl)
                      refine .inl ⟨⟨99, by kernel_rfl, h99⟩, ?_⟩
                      clear h99
                      have g100 := gd h100
                      have g101 := gd h101
                      go_simp
                      refine (HEP2.out _ _ _ ((HG2.out u).1 hS)).mono ?_
                      rintro e' u' ⟨rfl, h2⟩
                      exact Went6.next ((HG2.out _).2 h2) trivial rfl
                    refine EachOp.cons ?_ ?_
                    · intro L a u hL hst hS hdep hq hno
                      have h9 : a.tmps.getD 9 undef = .pointer (some ⟨t9, 0, none⟩) := hst.out 9 (by kernel_rfl)
                      have h99 : a.tmps.getD 99 undef = .bool false := hdep 99 (by kernel_rfl)
                      refine .inl ⟨⟨99, by kernel_rfl, h99⟩, ?_⟩
                      clear h99
                      have g9 := gd h9
                      go_simp
                      exact Went6.same (HKR.out _ _) hS rfl
                    refine EachOp.cons ?_ ?_
                    · intro L a u hL hst hS hdep hq hno
                      have h103 : a.tmps.getD 103 undef = .pointer (some ⟨t9, 0, none⟩) := hdep 103 (by kernel_rfl)
                      have h99 : a.tmps.getD 99 undef = .bool false := hdep 99 (by kernel_rfl)
                      refine .inl ⟨⟨99, by kernel_rfl, h99⟩, ?_⟩
                      clear h99
                      have g103 := gd h103
                      have yy := HCE2.out u hS
                      go_simp
                      exact Went6.same (HKR.out _ _) hS rfl
                    refine EachOp.cons ?_ ?_
                    · intro L a u hL hst hS hdep hq hno
                      have h102 : a.tmps.getD 102 undef = .int .u64 eq := hdep 102 (by kernel_rfl)
                      have h104 : a.tmps.getD 104 undef = .int .u64 pe := hdep 104 (by kernel_rfl)
                      have h99 : a.tmps.getD 99 undef = .bool false := hdep 99 (by kernel_rfl)
                      refine .inl ⟨⟨99, by kernel_rfl, h99⟩, ?_⟩
                      clear h99
                      have g102 := gd h102
                      have g104 := gd h104
                      have yy := g2
                      go_simp
                      exact Went6.same (HKR.out _ _) hS rfl
                    refine EachOp.cons ?_ ?_
                    · intro L a u hL hst hS hdep hq hno
                      have h105 : a.tmps.getD 105 undef = .bool false := hdep 105 (by kernel_rfl)
                      have h99 : a.tmps.getD 99 undef = .bool false := hdep 99 (by kernel_rfl)
                      refine .inl ⟨⟨99, by kernel_rfl, h99⟩, ?_⟩
                      clear h99
                      have g105 := gd h105
                      go_simp
                      exact Went6.same (HKR.out _ _) hS rfl
                    refine EachOp.cons ?_ ?_
                    · intro L a u hL hst hS hdep hq hno
                      have h106 : a.tmps.getD 106 undef = .bool false := hdep 106 (by kernel_rfl)
                      exact .inr ⟨⟨106, by kernel_rfl, .inl h106⟩, hS, HKR.out _ _, fun t e => by injection e with e; subst e; rfl⟩
                    refine EachOp.cons ?_ ?_
                    · intro L a u hL hst hS hdep hq hno
                      have h106 : a.tmps.getD 106 undef = .bool false := hdep 106 (by kernel_rfl)
                      exact .inr ⟨⟨106, by kernel_rfl, .inl h106⟩, hS, HKR.out _ _, fun t e => by injection e with e; subst e; rfl⟩
                    refine EachOp.cons ?_ ?_
                    · intro L a u hL hst hS hdep hq hno
                      have h106 : a.tmps.getD 106 undef = .bool false := hdep 106 (by kernel_rfl)
                      exact .inr ⟨⟨106, by kernel_rfl, .inl h106⟩, hS, HKR.out _ _, fun t e => by injection e with e; subst e; rfl⟩
                    refine EachOp.cons ?_ ?_
                    · intro L a u hL hst hS hdep hq hno
                      have h106 : a.tmps.getD 106 undef = .bool false := hdep 106 (by kernel_rfl)
                      exact .inr ⟨⟨106, by kernel_rfl, .inl h106⟩, hS, HKR.out _ _, fun t e => by injection e with e; subst e; rfl⟩
                    refine EachOp.cons ?_ ?_
                    · intro L a u hL hst hS hdep hq hno
                      have h106 : a.tmps.getD 106 undef = .bool false := hdep 106 (by kernel_rfl)
                      exact .inr ⟨⟨106, by kernel_rfl, .inl h106⟩, hS, HKR.out _ _, fun t e => by injection e with e; subst e; rfl⟩
                    refine EachOp.cons ?_ ?_
                    · intro L a u hL hst hS hdep hq hno
                      have h106 : a.tmps.getD 106 undef = .bool false := hdep 106 (by kernel_rfl)
                      exact .inr ⟨⟨106, by kernel_rfl, .inl h106⟩, hS, HKR.out _ _, fun t e => by injection e with e; subst e; rfl⟩
                    refine EachOp.cons ?_ ?_
                    · intro L a u hL hst hS hdep hq hno
                      have h112 : a.tmps.getD 112 undef = undef := hdep 112 (by kernel_rfl)
                      exact .inr ⟨⟨112, by kernel_rfl, .inr h112⟩, hS, HKR.out _ _, fun t e => by injection e with e; subst e; rfl⟩
                    refine EachOp.cons ?_ ?_
                    · intro L a u hL hst hS hdep hq hno
                      have h112 : a.tmps.getD 112 undef = undef := hdep 112 (by kernel_rfl)
                      exact .inr ⟨⟨112, by kernel_rfl, .inr h112⟩, hS, HKR.out _ _, fun t e => by injection e with e; subst e; rfl⟩
                    refine EachOp.cons ?_ ?_
                    · intro L a u hL hst hS hdep hq hno
                      have h112 : a.tmps.getD 112 undef = undef := hdep 112 (by kernel_rfl)
                      exact .inr ⟨⟨112, by kernel_rfl, .inr h112⟩, hS, HKR.out _ _, fun t e => by injection e with e; subst e; rfl⟩
                    refine EachOp.cons ?_ ?_
                    · intro L a u hL hst hS hdep hq hno
                      have h112 : a.tmps.getD 112 undef = undef := hdep 112 (by kernel_rfl)
                      exact .inr ⟨⟨112, by kernel_rfl, .inr h112⟩, hS, HKR.out _ _, fun t e => by injection e with e; subst e; rfl⟩
                    refine EachOp.cons ?_ ?_
                    · intro L a u hL hst hS hdep hq hno
                      have h112 : a.tmps.getD 112 undef = undef := hdep 112 (by kernel_rfl)
                      exact .inr ⟨⟨112, by kernel_rfl, .inr h112⟩, hS, HKR.out _ _, fun t e => by injection e with e; subst e; rfl⟩
                    refine EachOp.cons ?_ ?_
                    · intro L a u hL hst hS hdep hq hno
                      have h112 : a.tmps.getD 112 undef = undef := hdep 112 (by kernel_rfl)
                      exact .inr ⟨⟨112, by kernel_rfl, .inr h112⟩, hS, HKR.out _ _, fun t e => by injection e with e; subst e; rfl⟩
                    refine EachOp.cons ?_ ?_
                    · intro L a u hL hst hS hdep hq hno
                      have h112 : a.tmps.getD 112 undef = undef := hdep 112 (by kernel_rfl)
                      exact .inr ⟨⟨112, by kernel_rfl, .inr h112⟩, hS, HKR.out _ _, fun t e => by injection e with e; subst e; rfl⟩
                    refine EachOp.cons ?_ ?_
                    · intro L a u hL hst hS hdep hq hno
                      have h112 : a.tmps.getD 112 undef = undef := hdep 112 (by kernel_rfl)
                      exact .inr ⟨⟨112, by kernel_rfl, .inr h112⟩, hS, HKR.out _ _, fun t e => by injection e with e; subst e; rfl⟩
                    refine EachOp.cons ?_ ?_
                    · intro L a u hL hst hS hdep hq hno
                      have h112 : a.tmps.getD 112 undef = undef := hdep 112 (by kernel_rfl)
                      exact .inr ⟨⟨112, by kernel_rfl, .inr h112⟩, hS, HKR.out _ _, fun t e => by injection e with e; subst e; rfl⟩
                    refine EachOp.cons ?_ ?_
                    · intro L a u hL hst hS hdep hq hno
                      have h112 : a.tmps.getD 112 undef = undef := hdep 112 (by kernel_rfl)
                      exact .inr ⟨⟨112, by kernel_rfl, .inr h112⟩, hS, HKR.out _ _, fun t e => by injection e with e; subst e; rfl⟩
                    refine EachOp.cons ?_ ?_
                    · intro L a u hL hst hS hdep hq hno
                      have h112 : a.tmps.getD 112 undef = undef := hdep 112 (by kernel_rfl)
                      exact .inr ⟨⟨112, by kernel_rfl, .inr h112⟩, hS, HKR.out _ _, fun t e => by injection e with e; subst e; rfl⟩
                    refine EachOp.cons ?_ ?_
                    · intro L a u hL hst hS hdep hq hno
                      have h112 : a.tmps.getD 112 undef = undef := hdep 112 (by kernel_rfl)
                      exact .inr ⟨⟨112, by kernel_rfl, .inr h112⟩, hS, HKR.out _ _, fun t e => by injection e with e; subst e; rfl⟩
                    refine EachOp.cons ?_ ?_
                    · intro L a u hL hst hS hdep hq hno
                      have h106 : a.tmps.getD 106 undef = .bool false := hdep 106 (by kernel_rfl)
                      exact .inr ⟨⟨106, by kernel_rfl, .inl h106⟩, hS, HKR.out _ _, fun t e => by injection e with e; subst e; rfl⟩
                    refine EachOp.cons ?_ ?_
                    · intro L a u hL hst hS hdep hq hno
                      have h106 : a.tmps.getD 106 undef = .bool false := hdep 106 (by kernel_rfl)
                      exact .inr ⟨⟨106, by kernel_rfl, .inl h106⟩, hS, HKR.out _ _, fun t e => by injection e with e; subst e; rfl⟩
                    refine EachOp.cons ?_ ?_
                    · intro L a u hL hst hS hdep hq hno
                      have h126 : a.tmps.getD 126 undef = undef := hdep 126 (by kernel_rfl)
                      exact .inr ⟨⟨126, by kernel_rfl, .inr h126⟩, hS, HKR.out _ _, fun t e => by injection e with e; subst e; rfl⟩
                    refine EachOp.cons ?_ ?_
                    · intro L a u hL hst hS hdep hq hno
                      have h126 : a.tmps.getD 126 undef = undef := hdep 126 (by kernel_rfl)
                      exact .inr ⟨⟨126, by kernel_rfl, .inr h126⟩, hS, HKR.out _ _, fun t e => by injection e with e; subst e; rfl⟩
                    refine EachOp.cons ?_ ?_
                    · intro L a u hL hst hS hdep hq hno
                      have h126 : a.tmps.getD 126 undef = undef := hdep 126 (by kernel_rfl)
                      exact .inr ⟨⟨126, by kernel_rfl, .inr h126⟩, hS, HKR.out _ _, fun t e => by injection e with e; subst e; rfl⟩
                    refine EachOp.cons ?_ ?_
                    · intro L a u hL hst hS hdep hq hno
                      have h126 : a.tmps.getD 126 undef = undef := hdep 126 (by kernel_rfl)
                      exact .inr ⟨⟨126, by kernel_rfl, .inr h126⟩, hS, HKR.out _ _, fun t e => by injection e with e; subst e; rfl⟩
                    refine EachOp.cons ?_ ?_
                    · intro L a u hL hst hS hdep hq hno
                      have h126 : a.tmps.getD 126 undef = undef := hdep 126 (by kernel_rfl)
                      exact .inr ⟨⟨126, by kernel_rfl, .inr h126⟩, hS, HKR.out _ _, fun t e => by injection e with e; subst e; rfl⟩
                    refine EachOp.cons ?_ ?_
                    · intro L a u hL hst hS hdep hq hno
                      have h126 : a.tmps.getD 126 undef = undef := hdep 126 (by kernel_rfl)
                      exact .inr ⟨⟨126, by kernel_rfl, .inr h126⟩, hS, HKR.out _ _, fun t e => by injection e with e; subst e; rfl⟩
                    refine EachOp.cons ?_ ?_
                    · intro L a u hL hst hS hdep hq hno
                      have h126 : a.tmps.getD 126 undef = undef := hdep 126 (by kernel_rfl)
                      exact .inr ⟨⟨126, by kernel_rfl, .inr h126⟩, hS, HKR.out _ _, fun t e => by injection e with e; subst e; rfl⟩
                    refine EachOp.cons ?_ ?_
                    · intro L a u hL hst hS hdep hq hno
                      have h126 : a.tmps.getD 126 undef = undef := hdep 126 (by kernel_rfl)
                      exact .inr ⟨⟨126, by kernel_rfl, .inr h126⟩, hS, HKR.out _ _, fun t e => by injection e with e; subst e; rfl⟩
                    refine EachOp.cons ?_ ?_
                    · intro L a u hL hst hS hdep hq hno
                      have h126 : a.tmps.getD 126 undef = undef := hdep 126 (by kernel_rfl)
                      exact .inr ⟨⟨126, by kernel_rfl, .inr h126⟩, hS, HKR.out _ _, fun t e => by injection e with e; subst e; rfl⟩
                    refine EachOp.cons ?_ ?_
                    · intro L a u hL hst hS hdep hq hno
                      have h126 : a.tmps.getD 126 undef = undef := hdep 126 (by kernel_rfl)
                      exact .inr ⟨⟨126, by kernel_rfl, .inr h126⟩, hS, HKR.out _ _, fun t e => by injection e with e; subst e; rfl⟩
                    refine EachOp.cons ?_ ?_
                    · intro L a u hL hst hS hdep hq hno
                      have h106 : a.tmps.getD 106 undef = .bool false := hdep 106 (by kernel_rfl)
                      exact .inr ⟨⟨106, by kernel_rfl, .inl h106⟩, hS, HKR.out _ _, fun t e => by injection e with e; subst e; rfl⟩
                    refine EachOp.cons ?_ ?_
                    · intro L a u hL hst hS hdep hq hno
                      have h106 : a.tmps.getD 106 undef = .bool false := hdep 106 (by kernel_rfl)
                      have h137 : a.tmps.getD 137 undef = undef := hdep 137 (by kernel_rfl)
                      have h99 : a.tmps.getD 99 undef = .bool false := hdep 99 (by kernel_rfl)
                      refine .inl ⟨⟨99, by kernel_rfl, h99⟩, ?_⟩
                      clear h99
                      have g106 := gd h106
                      have g137 := gd h137
                      go_simp
                      exact Went6.same (HKR.out _ _) hS rfl
                    refine EachOp.cons ?_ ?_
                    · intro L a u hL hst hS hdep hq hno
                      have h99 : a.tmps.getD 99 undef = .bool false := hdep 99 (by kernel_rfl)
                      have h138 : a.tmps.getD 138 undef = .bool false := hdep 138 (by kernel_rfl)
                      refine .inl ⟨trivial, ?_⟩
                      have g99 := gd h99
                      have g138 := gd h138
                      go_simp
                      exact Went6.same (HKR.out _ _) hS rfl
                    exact EachOp.nil
                  · intro L a u hLs hst hS hdep
                    have h93 : a.tmps.getD 93 undef = .pointer (some ⟨bc, 0, none⟩) := hdep 93 (by kernel_rfl)
                    have h94 : a.tmps.getD 94 undef = .int .i64 q := hdep 94 (by kernel_rfl)
                    have h95 : a.tmps.getD 95 undef = .int .u64 eq := hdep 95 (by kernel_rfl)
                    have h96 : a.tmps.getD 96 undef = .pointer (some ⟨t9, 0, none⟩) := hdep 96 (by kernel_rfl)
                    have h97 : a.tmps.getD 97 undef = .int .u64 pe := hdep 97 (by kernel_rfl)
                    have h98 : a.tmps.getD 98 undef = .bool false := hdep 98 (by kernel_rfl)
                    have h99 : a.tmps.getD 99 undef = .bool false := hdep 99 (by kernel_rfl)
                    have h100 : a.tmps.getD 100 undef = .pointer (some ⟨bc, 0, none⟩) := hdep 100 (by kernel_rfl)
                    have h101 : a.tmps.getD 101 undef = .int .i64 q := hdep 101 (by kernel_rfl)
                    have h102 : a.tmps.getD 102 undef = .int .u64 eq := hdep 102 (by kernel_rfl)
                    have h103 : a.tmps.getD 103 undef = .pointer (some ⟨t9, 0, none⟩) := hdep 103 (by kernel_rfl)
                    have h104 : a.tmps.getD 104 undef = .int .u64 pe := hdep 104 (by kernel_rfl)
                    have h105 : a.tmps.getD 105 undef = .bool false := hdep 105 (by kernel_rfl)
                    have h106 : a.tmps.getD 106 undef = .bool false := hdep 106 (by kernel_rfl)
                    have h107 : a.tmps.getD 107 undef = undef := hdep 107 (by kernel_rfl)
                    have h108 : a.tmps.getD 108 undef = undef := hdep 108 (by kernel_rfl)
                    have h109 : a.tmps.getD 109 undef = undef := hdep 109 (by kernel_rfl)
                    have h110 : a.tmps.getD 110 undef = undef := hdep 110 (by kernel_rfl)
                    have h111 : a.tmps.getD 111 undef = undef := hdep 111 (by kernel_rfl)
                    have h112 : a.tmps.getD 112 undef = undef := hdep 112 (by kernel_rfl)
                    have h113 : a.tmps.getD 113 undef = undef := hdep 113 (by kernel_rfl)
                    have h114 : a.tmps.getD 114 undef = undef := hdep 114 (by kernel_rfl)
                    have h115 : a.tmps.getD 115 undef = undef := hdep 115 (by kernel_rfl)
                    have h116 : a.tmps.getD 116 undef = undef := hdep 116 (by kernel_rfl)
                    have h117 : a.tmps.getD 117 undef = undef := hdep 117 (by kernel_rfl)
                    have h118 : a.tmps.getD 118 undef = undef := hdep 118 (by kernel_rfl)
                    have h119 : a.tmps.getD 119 undef = undef := hdep 119 (by kernel_rfl)
                    have h120 : a.tmps.getD 120 undef = undef := hdep 120 (by kernel_rfl)
                    have h121 : a.tmps.getD 121 undef = undef := hdep 121 (by kernel_rfl)
                    have h122 : a.tmps.getD 122 undef = undef := hdep 122 (by kernel_rfl)
                    have h123 : a.tmps.getD 123 undef = undef := hdep 123 (by kernel_rfl)
                    have h124 : a.tmps.getD 124 undef = undef := hdep 124 (by kernel_rfl)
                    have h125 : a.tmps.getD 125 undef = undef := hdep 125 (by kernel_rfl)
                    have h126 : a.tmps.getD 126 undef = undef := hdep 126 (by kernel_rfl)
                    have h127 : a.tmps.getD 127 undef = undef := hdep 127 (by kernel_rfl)
                    have h128 : a.tmps.getD 128 undef = undef := hdep 128 (by kernel_rfl)
                    have h129 : a.tmps.getD 129 undef = undef := hdep 129 (by kernel_rfl)
                    have h130 : a.tmps.getD 130 undef = undef := hdep 130 (by kernel_rfl)
                    have h131 : a.tmps.getD 131 undef = undef := hdep 131 (by kernel_rfl)
                    have h132 : a.tmps.getD 132 undef = undef := hdep 132 (by kernel_rfl)
                    have h133 : a.tmps.getD 133 undef = undef := hdep 133 (by kernel_rfl)
                    have h134 : a.tmps.getD 134 undef = undef := hdep 134 (by kernel_rfl)
                    have h135 : a.tmps.getD 135 undef = undef := hdep 135 (by kernel_rfl)
                    have h136 : a.tmps.getD 136 undef = undef := hdep 136 (by kernel_rfl)
                    have h137 : a.tmps.getD 137 undef = undef := hdep 137 (by kernel_rfl)
                    have h138 : a.tmps.getD 138 undef = .bool false := hdep 138 (by kernel_rfl)
                    have h139 : a.tmps.getD 139 undef = .bool false := hdep 139 (by kernel_rfl)
                    have hfr := hst.frame [(93, .pointer (some ⟨bc, 0, none⟩)), (94, .int .i64 q), (95, .int .u64 eq), (96, .pointer (some ⟨t9, 0, none⟩)), (97, .int .u64 pe), (98, .bool false), (99, .bool false), (100, .pointer (some ⟨bc, 0, none⟩)), (101, .int .i64 q), (102, .int .u64 eq), (103, .pointer (some ⟨t9, 0, none⟩)), (104, .int .u64 pe), (105, .bool false), (106, .bool false), (107, undef), (108, undef), (109, undef), (110, undef), (111, undef), (112, undef), (113, undef), (114, undef), (115, undef), (116, undef), (117, undef), (118, undef), (119, undef), (120, undef), (121, undef), (122, undef), (123, undef), (124, undef), (125, undef), (126, undef), (127, undef), (128, undef), (129, undef), (130, undef), (131, undef), (132, undef), (133, undef), (134, undef), (135, undef), (136, undef), (137, undef), (138, .bool false), (139, .bool false)] (by kernel_rfl) ⟨h93, h94, h95, h96, h97, h98, h99, h100, h101, h102, h103, h104, h105, h106, h107, h108, h109, h110, h111, h112, h113, h114, h115, h116, h117, h118, h119, h120, h121, h122, h123, h124, h125, h126, h127, h128, h129, h130, h131, h132, h133, h134, h135, h136, h137, h138, h139, trivial⟩
                    clear hst hdep h93 h94 h95 h96 h97 h98 h99 h100 h101 h102 h103 h104 h105 h106 h107 h108 h109 h110 h111 h112 h113 h114 h115 h116 h117 h118 h119 h120 h121 h122 h123 h124 h125 h126 h127 h128 h129 h130 h131 h132 h133 h134 h135 h136 h137 h138 h139
                    subst hfr
                    simp only [List.foldl_cons, List.foldl_nil, List.setIfInBounds_toArray, List.set_cons_zero, List.set_cons_succ]
                    have H13 := Lib.hid (HBACK.out u hS)
                    clear hS hLs
                    go_wp2_with fail
                    go_roundw
                    case rel => exact ⟨q + 1, by omega, by go_num, H13⟩
                    case measure => simp [intOf]; omega
                · subst hee
                  have hpre := HIN.out.pre q HQN.out (by rw [HEQ.out, HPM.out])
                  rw [HLA.out] at hpre
                  have hlaf : la ≤ lf := by
                    have := HIN.out.pre_le HQN.out (by rw [HEQ.out, HPM.out])
                    have := HLA.out
                    have := HFL.out
                    omega
                  have hlag : lagCu c q = (lf : Int) - la := by
                    have h1 : c.Is q := ⟨by omega, by have := HQN.out; omega⟩
                    unfold lagCu
                    rw [if_neg (Decidable.not_not.2 h1), if_neg (Decidable.not_not.2 (by show (c.ns q).ep = _; rw [HEQ.out, HPM.out])), show (c.at q).lg.length = la from HLA.out, HFL.out]
                  have HLAG := Lib.hid fun w l rs (h : St15 W (X bc c) T0 [] l rs [] w) => h.clag HC.out HIN.out q HNq.out
                  rw [hlag] at HLAG
                  have HPRE := Lib.hid hpre
                  have g3 : ¬ (lf : Int) < (la : Int) := by omega
                  have hws : IntKind.i64.wrap ((lf : Int) - la) = (lf : Int) - la := by rw [IntKind.wrap_i64]; omega
                  have hwu : IntKind.u64.wrap ((lf : Int) - la) = (lf : Int) - la := by rw [IntKind.wrap_u64]; omega
                  have hcut : ∀ u, (Instr.slice 60 (.slice Af lf df) none (some (.int .i64 (la : Int))) none).run Tryz.prog u = .ok (.slice Af la df) u := fun u => cutE16 Af hlaf hlfd u
                  have HCUT := Lib.hid hcut
                  obtain ⟨G2, hG2⟩ : ∃ G : World → Prop, ∀ u, G u ↔ St15 W (X bc c) T0 [] [(t9, .cells #[.int .u64 eq, .int .i64 pp, .int .u64 pc] 45 (0, 0))] [(Af, la, c.first.lg.take la), (Al, la, (c.ns q).lg), (Af, lf, c.first.lg)] [] u := ⟨_, fun _ => Iff.rfl⟩
                  have HG2 := Lib.hid hG2
                  have HCE2 : Hid (∀ u, G2 u → u.cell? ⟨t9, 0, none⟩ = some (.int .u64 eq)) := Lib.hid fun u hu => (cellsAt (((hG2 u).1 hu).at_ (.head _)) 0 rfl).1
                  have HBACK : Hid (∀ u, G2 u → GN u) := Lib.hid fun u hu => (HGN.out u).2 (((hG2 u).1 hu).less (fun _ h => h) (fun _ h => h) (fun r h => by rw [List.mem_singleton.1 h]; exact .tail _ (.tail _ (.head _))) (fun _ h => h))
                  have HLRS : Hid (∀ u, G2 u → LR u Al la (c.ns q).lg ∧ LR u Af la (c.first.lg.take la)) := Lib.hid fun u hu => ⟨((hG2 u).1 hu).lr (.tail _ (.head _)), ((hG2 u).1 hu).lr (.head _)⟩
                  have HG9 : Hid (G2 w9) := Lib.hid ((hG2 _).2 (H12.out.sub (.tail _ (.head _)) hlaf))
                  have HNX : Hid (∀ u u', G2 u → Below u.heap.size u u' → G2 u') := Lib.hid fun u u' h1 h2 => (hG2 _).2 (((hG2 _).1 h1).next h2)
                  have HKR : Hid (∀ (i : Nat) (u : World), Kp2 36 36 i u u) := Lib.hid (Kp2.refl _ _)
                  have HEB : Hid (∀ u, G2 u → Calls Tryz.prog 17 #[.pointer (some ⟨bc, 0, none⟩), .int .i64 (q : Int)] u fun e w' => e = .returned (.int .u64 eq) ∧ G2 w' ∧ Below u.heap.size u w') := Lib.hid fun u hu => by
                    have h1 := (hG2 u).1 hu
                    obtain ⟨S, T, h2, _⟩ := h1.fst
                    refine (HC.out.epoch bc c _ q S u h2 HIN.out HNq.out).mono fun e w' ⟨he, hb⟩ => ⟨he.trans (by rw [show epCu c q = eq from HEC.out]), (hG2 _).2 (h1.next hb), hb⟩
                  clear hG2 H12 hpre hlag hcut
                  go_wp2_with fail
                  refine wp_region_specs6 (S := fun _ u => G2 u) (Kp := Kp2 36 36) (Sp := [(93, Stl.eq (.pointer (some ⟨bc, 0, none⟩))), (94, Stl.eq (.int .i64 q)), (95, Stl.eq (.int .u64 eq)), (96, Stl.eq (.pointer (some ⟨t9, 0, none⟩))), (97, Stl.eq (.int .u64 eq)), (98, Stl.eq (.bool false)), (99, Stl.eq (.bool false)), (100, Stl.eq (.pointer (some ⟨bc, 0, none⟩))), (101, Stl.eq (.int .i64 q)), (102, Stl.eq (.int .u64 eq)), (103, Stl.eq (.pointer (some ⟨t9, 0, none⟩))), (104, Stl.eq (.int .u64 eq)), (105, Stl.eq (.bool true)), (106, Stl.eq (.bool true)), (107, Stl.eq (.slice Al la dl)), (108, Stl.eq (.int .i64 la)), (109, Stl.eq (.slice Af lf df)), (110, Stl.eq (.int .i64 lf)), (111, Stl.eq (.bool false)), (112, Stl.eq (.bool false)), (113, Stl.eq (.slice Al la dl)), (114, rowE16 36 la (c.ns q).lg), (115, Stl.eq (.slice Af lf df)), (116, Stl.eq (.slice Al la dl)), (117, Stl.eq (.int .i64 la)), (118, Stl.eq (.slice Af lf df)), (119, Stl.eq (.int .i64 lf)), (120, Stl.eq (.int .i64 la)), (121, Stl.eq (.slice Af la df)), (122, rowE16 36 la (c.first.lg.take la)), (123, Stl.eq (.bool true)), (124, Stl.eq (.bool false)), (125, Stl.eq (.bool false)), (126, Stl.eq (.bool false)), (127, Stl.eq (.pointer (some ⟨bc, 0, none⟩))), (128, Stl.eq (.int .i64 q)), (129, Stl.eq (.int .u64 ((lf : Int) - la))), (130, Stl.eq (.slice Af lf df)), (131, Stl.eq (.int .i64 lf)), (132, Stl.eq (.slice Al la dl)), (133, Stl.eq (.int .i64 la)), (134, Stl.eq (.int .i64 ((lf : Int) - la))), (135, Stl.eq (.int .u64 ((lf : Int) - la))), (136, Stl.eq (.bool false)), (137, Stl.eq (.bool false)), (138, Stl.eq (.bool false)), (139, Stl.eq (.bool false))]) (by kernel_rfl) (by kernel_rfl) ((HG2.out _).2 (((HG2.out _).1 HG9.out).next (kp_drewN w9 1))) ?_ ?_
                  · refine EachOp.cons ?_ ?_
                    · intro L a u hL hst hS hdep hq hno
                      have h5 : a.tmps.getD 5 undef = .pointer (some ⟨bc, 0, none⟩) := hst.out 5 (by kernel_rfl)
                      refine .inl ⟨trivial, ?_⟩
                      have g5 := gd h5
                      go_simp
                      exact Went6.same (HKR.out _ _) hS rfl
                    refine EachOp.cons ?_ ?_
                    · intro L a u hL hst hS hdep hq hno
                      have h11 : a.tmps.getD 11 undef = .int .i64 q := hst.out 11 (by kernel_rfl)
                      refine .inl ⟨trivial, ?_⟩
                      have g11 := gd h11
                      go_simp
                      exact Went6.same (HKR.out _ _) hS rfl
                    refine EachOp.cons ?_ ?_
                    · intro L a u hL hst hS hdep hq hno
                      have h93 : a.tmps.getD 93 undef = .pointer (some ⟨bc, 0, none⟩) := hdep 93 (by kernel_rfl)
                      have h94 : a.tmps.getD 94 undef = .int .i64 q := hdep 94 (by kernel_rfl)
                      refine .inl ⟨trivial, ?_⟩
                      have g93 := gd h93
                      have g94 := gd h94
                      go_simp
                      refine (HEB.out u hS).mono ?_
                      rintro e' u' ⟨rfl, h2, hb9⟩
                      exact Went6.next h2 (fun _ _ => hb9) rfl
                    refine EachOp.cons ?_ ?_
                    · intro L a u hL hst hS hdep hq hno
                      have h9 : a.tmps.getD 9 undef = .pointer (some ⟨t9, 0, none⟩) := hst.out 9 (by kernel_rfl)
                      refine .inl ⟨trivial, ?_⟩
                      have g9 := gd h9
                      go_simp
                      exact Went6.same (HKR.out _ _) hS rfl
                    refine EachOp.cons ?_ ?_
                    · intro L a u hL hst hS hdep hq hno
                      have h96 : a.tmps.getD 96 undef = .pointer (some ⟨t9, 0, none⟩) := hdep 96 (by kernel_rfl)
                      refine .inl ⟨trivial, ?_⟩
                      have g96 := gd h96
                      have yy := HCE2.out u hS
                      go_simp
                      exact Went6.same (HKR.out _ _) hS rfl
                    refine EachOp.cons ?_ ?_
                    · intro L a u hL hst hS hdep hq hno
                      have h95 : a.tmps.getD 95 undef = .int .u64 eq := hdep 95 (by kernel_rfl)
                      have h97 : a.tmps.getD 97 undef = .int .u64 eq := hdep 97 (by kernel_rfl)
                      refine .inl ⟨trivial, ?_⟩
                      have g95 := gd h95
                      have g97 := gd h97
                      go_simp
                      first | exact Went6.same (HKR.out _ _) hS rfl | exact Went6.same (HKR.out _ _) hS (congrArg Value.bool (decide_eq_false (by omega)))
                    refine EachOp.cons ?_ ?_
                    · intro L a u hL hst hS hdep hq hno
                      have h98 : a.tmps.getD 98 undef = .bool false := hdep 98 (by kernel_rfl)
                      refine .inl ⟨trivial, ?_⟩
                      have g98 := gd h98
                      go_simp
                      exact Went6.same (HKR.out _ _) hS rfl
                    refine EachOp.cons ?_ ?_
                    · intro L a u hL hst hS hdep hq hno
                      have h5 : a.tmps.getD 5 undef = .pointer (some ⟨bc, 0, none⟩) := hst.out 5 (by kernel_rfl)
                      have h99 : a.tmps.getD 99 undef = .bool false := hdep 99 (by kernel_rfl)
                      refine .inl ⟨⟨99, by kernel_rfl, h99⟩, ?_⟩
                      clear h99
                      have g5 := gd h5
                      go_simp
                      exact Went6.same (HKR.out _ _) hS rfl
                    refine EachOp.cons ?_ ?_
                    · intro L a u hL hst hS hdep hq hno
                      have h11 : a.tmps.getD 11 undef = .int .i64 q := hst.out 11 (by kernel_rfl)
                      have h99 : a.tmps.getD 99 undef = .bool false := hdep 99 (by kernel_rfl)
                      refine .inl ⟨⟨99, by kernel_rfl, h99⟩, ?_⟩
                      clear h99
                      have g11 := gd h11
                      go_simp
                      exact Went6.same (HKR.out _ _) hS rfl
                    refine EachOp.cons ?_ ?_
                    · intro L a u hL hst hS hdep hq hno
                      have h100 : a.tmps.getD 100 undef = .pointer (some ⟨bc, 0, none⟩) := hdep 100 (by kernel_rfl)
                      have h101 : a.tmps.getD 101 undef = .int .i64 q := hdep 101 (by kernel_rfl)
                      have h99 : a.tmps.getD 99 undef = .bool false := hdep 99 (by kernel_rfl)
                      refine .inl ⟨⟨99, by kernel_rfl, h99⟩, ?_⟩
                      clear h99
                      have g100 := gd h100
                      have g101 := gd h101
                      go_simp
                      refine (HEB.out u hS).mono ?_
                      rintro e' u' ⟨rfl, h2, hb9⟩
                      exact Went6.next h2 (fun _ _ => hb9) rfl
                    refine EachOp.cons ?_ ?_
                    · intro L a u hL hst hS hdep hq hno
                      have h9 : a.tmps.getD 9 undef = .pointer (some ⟨t9, 0, none⟩) := hst.out 9 (by kernel_rfl)
                      have h99 : a.tmps.getD 99 undef = .bool false := hdep 99 (by kernel_rfl)
                      refine .inl ⟨⟨99, by kernel_rfl, h99⟩, ?_⟩
                      clear h99
                      have g9 := gd h9
                      go_simp
                      exact Went6.same (HKR.out _ _) hS rfl
                    refine EachOp.cons ?_ ?_
                    · intro L a u hL hst hS hdep hq hno
                      have h103 : a.tmps.getD 103 undef = .pointer (some ⟨t9, 0, none⟩) := hdep 103 (by kernel_rfl)
                      have h99 : a.tmps.getD 99 undef = .bool false := hdep 99 (by kernel_rfl)
                      refine .inl ⟨⟨99, by kernel_rfl, h99⟩, ?_⟩
                      clear h99
                      have g103 := gd h103
                      have yy := HCE2.out u hS
                      go_simp
                      exact Went6.same (HKR.out _ _) hS rfl
                    refine EachOp.cons ?_ ?_
                    · intro L a u hL hst hS hdep hq hno
                      have h102 : a.tmps.getD 102 undef = .int .u64 eq := hdep 102 (by kernel_rfl)
                      have h104 : a.tmps.getD 104 undef = .int .u64 eq := hdep 104 (by kernel_rfl)
                      have h99 : a.tmps.getD 99 undef = .bool false := hdep 99 (by kernel_rfl)
                      refine .inl ⟨⟨99, by kernel_rfl, h99⟩, ?_⟩
                      clear h99
                      have g102 := gd h102
                      have g104 := gd h104
                      go_simp
                      exact Went6.same (HKR.out _ _) hS rfl
                    refine EachOp.cons ?_ ?_
                    · intro L a u hL hst hS hdep hq hno
                      have h105 : a.tmps.getD 105 undef = .bool true := hdep 105 (by kernel_rfl)
                      have h99 : a.tmps.getD 99 undef = .bool false := hdep 99 (by kernel_rfl)
                      refine .inl ⟨⟨99, by kernel_rfl, h99⟩, ?_⟩
                      clear h99
                      have g105 := gd h105
                      go_simp
                      exact Went6.same (HKR.out _ _) hS rfl
                    refine EachOp.cons ?_ ?_
                    · intro L a u hL hst hS hdep hq hno
                      have h13 : a.tmps.getD 13 undef = .slice Al la dl := hst.out 13 (by kernel_rfl)
                      have h106 : a.tmps.getD 106 undef = .bool true := hdep 106 (by kernel_rfl)
                      refine .inl ⟨⟨106, by kernel_rfl, h106⟩, ?_⟩
                      clear h106
                      have g13 := gd h13
                      go_simp
                      exact Went6.same (HKR.out _ _) hS rfl
                    refine EachOp.cons ?_ ?_
                    · intro L a u hL hst hS hdep hq hno
                      have h107 : a.tmps.getD 107 undef = .slice Al la dl := hdep 107 (by kernel_rfl)
                      have h106 : a.tmps.getD 106 undef = .bool true := hdep 106 (by kernel_rfl)
                      refine .inl ⟨⟨106, by kernel_rfl, h106⟩, ?_⟩
                      clear h106
                      have g107 := gd h107
                      go_simp
                      exact Went6.same (HKR.out _ _) hS rfl
                    refine EachOp.cons ?_ ?_
                    · intro L a u hL hst hS hdep hq hno
                      have h10 : a.tmps.getD 10 undef = .slice Af lf df := hst.out 10 (by kernel_rfl)
                      have h106 : a.tmps.getD 106 undef = .bool true := hdep 106 (by kernel_rfl)
                      refine .inl ⟨⟨106, by kernel_rfl, h106⟩, ?_⟩
                      clear h106
                      have g10 := gd h10
                      go_simp
                      exact Went6.same (HKR.out _ _) hS rfl
                    refine EachOp.cons ?_ ?_
                    · intro L a u hL hst hS hdep hq hno
                      have h109 : a.tmps.getD 109 undef = .slice Af lf df := hdep 109 (by kernel_rfl)
                      have h106 : a.tmps.getD 106 undef = .bool true := hdep 106 (by kernel_rfl)
                      refine .inl ⟨⟨106, by kernel_rfl, h106⟩, ?_⟩
                      clear h106
                      have g109 := gd h109
                      go_simp
                      exact Went6.same (HKR.out _ _) hS rfl
                    refine EachOp.cons ?_ ?_
                    · intro L a u hL hst hS hdep hq hno
                      have h108 : a.tmps.getD 108 undef = .int .i64 la := hdep 108 (by kernel_rfl)
                      have h110 : a.tmps.getD 110 undef = .int .i64 lf := hdep 110 (by kernel_rfl)
                      have h106 : a.tmps.getD 106 undef = .bool true := hdep 106 (by kernel_rfl)
                      refine .inl ⟨⟨106, by kernel_rfl, h106⟩, ?_⟩
                      clear h106
                      have g108 := gd h108
                      have g110 := gd h110
                      have yy := g3
                      go_simp
                      first | exact Went6.same (HKR.out _ _) hS rfl | exact Went6.same (HKR.out _ _) hS (congrArg Value.bool (decide_eq_false (by omega)))
                    refine EachOp.cons ?_ ?_
                    · intro L a u hL hst hS hdep hq hno
                      have h111 : a.tmps.getD 111 undef = .bool false := hdep 111 (by kernel_rfl)
                      have h106 : a.tmps.getD 106 undef = .bool true := hdep 106 (by kernel_rfl)
                      refine .inl ⟨⟨106, by kernel_rfl, h106⟩, ?_⟩
                      clear h106
                      have g111 := gd h111
                      go_simp
                      exact Went6.same (HKR.out _ _) hS rfl
                    refine EachOp.cons ?_ ?_
                    · intro L a u hL hst hS hdep hq hno
                      have h13 : a.tmps.getD 13 undef = .slice Al la dl := hst.out 13 (by kernel_rfl)
                      have h112 : a.tmps.getD 112 undef = .bool false := hdep 112 (by kernel_rfl)
                      refine .inl ⟨⟨112, by kernel_rfl, h112⟩, ?_⟩
                      clear h112
                      have g13 := gd h13
                      go_simp
                      exact Went6.same (HKR.out _ _) hS rfl
                    refine EachOp.cons ?_ ?_
                    · intro L a u hL hst hS hdep hq hno
                      have h113 : a.tmps.getD 113 undef = .slice Al la dl := hdep 113 (by kernel_rfl)
                      have h112 : a.tmps.getD 112 undef = .bool false := hdep 112 (by kernel_rfl)
                      refine .inl ⟨⟨112, by kernel_rfl, h112⟩, ?_⟩
                      clear h112
                      have g113 := gd h113
                      go_simp
                      have h36 : L 36 = false := hno 12 36 (by kernel_rfl)
                      refine (lentries16_ok Al la dl _ u (HLRS.out u hS).1 (by omega)).mono ?_
                      rintro e' u' ⟨A9, c9, rfl, hl9, _, hb9⟩
                      exact Went6.next (HNX.out u u' hS hb9) (fun _ _ => hb9) ⟨A9, c9, rfl, fun _ => hl9⟩
                    refine EachOp.cons ?_ ?_
                    · intro L a u hL hst hS hdep hq hno
                      have h10 : a.tmps.getD 10 undef = .slice Af lf df := hst.out 10 (by kernel_rfl)
                      have h112 : a.tmps.getD 112 undef = .bool false := hdep 112 (by kernel_rfl)
                      refine .inl ⟨⟨112, by kernel_rfl, h112⟩, ?_⟩
                      clear h112
                      have g10 := gd h10
                      go_simp
                      exact Went6.same (HKR.out _ _) hS rfl
                    refine EachOp.cons ?_ ?_
                    · intro L a u hL hst hS hdep hq hno
                      have h13 : a.tmps.getD 13 undef = .slice Al la dl := hst.out 13 (by kernel_rfl)
                      have h112 : a.tmps.getD 112 undef = .bool false := hdep 112 (by kernel_rfl)
                      refine .inl ⟨⟨112, by kernel_rfl, h112⟩, ?_⟩
                      clear h112
                      have g13 := gd h13
                      go_simp
                      exact Went6.same (HKR.out _ _) hS rfl
                    refine EachOp.cons ?_ ?_
                    · intro L a u hL hst hS hdep hq hno
                      have h116 : a.tmps.getD 116 undef = .slice Al la dl := hdep 116 (by kernel_rfl)
                      have h112 : a.tmps.getD 112 undef = .bool false := hdep 112 (by kernel_rfl)
                      refine .inl ⟨⟨112, by kernel_rfl, h112⟩, ?_⟩
                      clear h112
                      have g116 := gd h116
                      go_simp
                      exact Went6.same (HKR.out _ _) hS rfl
                    refine EachOp.cons ?_ ?_
                    · intro L a u hL hst hS hdep hq hno
                      have h10 : a.tmps.getD 10 undef = .slice Af lf df := hst.out 10 (by kernel_rfl)
                      have h112 : a.tmps.getD 112 undef = .bool false := hdep 112 (by kernel_rfl)
                      refine .inl ⟨⟨112, by kernel_rfl, h112⟩, ?_⟩
                      clear h112
                      have g10 := gd h10
                      go_simp
                      exact Went6.same (HKR.out _ _) hS rfl
                    refine EachOp.cons ?_ ?_
                    · intro L a u hL hst hS hdep hq hno
                      have h118 : a.tmps.getD 118 undef = .slice Af lf df := hdep 118 (by kernel_rfl)
                      have h112 : a.tmps.getD 112 undef = .bool false := hdep 112 (by kernel_rfl)
                      refine .inl ⟨⟨112, by kernel_rfl, h112⟩, ?_⟩
                      clear h112
                      have g118 := gd h118
                      go_simp
                      exact Went6.same (HKR.out _ _) hS rfl
                    refine EachOp.cons ?_ ?_
                    · intro L a u hL hst hS hdep hq hno
                      have h117 : a.tmps.getD 117 undef = .int .i64 la := hdep 117 (by kernel_rfl)
                      have h119 : a.tmps.getD 119 undef = .int .i64 lf := hdep 119 (by kernel_rfl)
                      have h112 : a.tmps.getD 112 undef = .bool false := hdep 112 (by kernel_rfl)
                      refine .inl ⟨⟨112, by kernel_rfl, h112⟩, ?_⟩
                      clear h112
                      have g117 := gd h117
                      have g119 := gd h119
                      have yy := g3
                      go_simp
                      exact Went6.same (HKR.out _ _) hS (congrArg (Value.int .i64) (Int.min_eq_left (by omega)))
                    refine EachOp.cons ?_ ?_
                    · intro L a u hL hst hS hdep hq hno
                      have h115 : a.tmps.getD 115 undef = .slice Af lf df := hdep 115 (by kernel_rfl)
                      have h120 : a.tmps.getD 120 undef = .int .i64 la := hdep 120 (by kernel_rfl)
                      have h112 : a.tmps.getD 112 undef = .bool false := hdep 112 (by kernel_rfl)
                      refine .inl ⟨⟨112, by kernel_rfl, h112⟩, ?_⟩
                      clear h112
                      have g115 := gd h115
                      have g120 := gd h120
                      have yy := HCUT.out u
                      go_simp
                      exact Went6.same (HKR.out _ _) hS rfl
                    refine EachOp.cons ?_ ?_
                    · intro L a u hL hst hS hdep hq hno
                      have h121 : a.tmps.getD 121 undef = .slice Af la df := hdep 121 (by kernel_rfl)
                      have h112 : a.tmps.getD 112 undef = .bool false := hdep 112 (by kernel_rfl)
                      refine .inl ⟨⟨112, by kernel_rfl, h112⟩, ?_⟩
                      clear h112
                      have g121 := gd h121
                      go_simp
                      have h36 : L 36 = false := hno 12 36 (by kernel_rfl)
                      refine (lentries16_ok Af la df _ u (HLRS.out u hS).2 (by omega)).mono ?_
                      rintro e' u' ⟨A9, c9, rfl, hl9, _, hb9⟩
                      exact Went6.next (HNX.out u u' hS hb9) (fun _ _ => hb9) ⟨A9, c9, rfl, fun _ => hl9⟩
                    refine EachOp.cons ?_ ?_
                    · intro L a u hL hst hS hdep hq hno
                      obtain ⟨A114, c114, h114, q114⟩ := hdep 114 (by kernel_rfl)
                      obtain ⟨A122, c122, h122, q122⟩ := hdep 122 (by kernel_rfl)
                      have h112 : a.tmps.getD 112 undef = .bool false := hdep 112 (by kernel_rfl)
                      refine .inl ⟨⟨112, by kernel_rfl, h112⟩, ?_⟩
                      clear h112
                      have g114 := gd h114
                      have g122 := gd h122
                      go_simp
                      have h36 : L 36 = false := hno 12 36 (by kernel_rfl)
                      refine (rsame15_ok A114 A122 la la c114 c122 _ _ u (q114 h36) (q122 h36) (by omega) (by omega) true (Lib.hid (decide_eq_true HPRE.out))).mono ?_
                      rintro e' u' ⟨rfl, nn, hu⟩
                      have hb9 : Below u.heap.size u u' := hu ▸ kp_drewN _ _
                      exact Went6.next (HNX.out u u' hS hb9) (fun _ _ => hb9) rfl
                    refine EachOp.cons ?_ ?_
                    · intro L a u hL hst hS hdep hq hno
                      have h123 : a.tmps.getD 123 undef = .bool true := hdep 123 (by kernel_rfl)
                      have h112 : a.tmps.getD 112 undef = .bool false := hdep 112 (by kernel_rfl)
                      refine .inl ⟨⟨112, by kernel_rfl, h112⟩, ?_⟩
                      clear h112
                      have g123 := gd h123
                      go_simp
                      exact Went6.same (HKR.out _ _) hS rfl
                    refine EachOp.cons ?_ ?_
                    · intro L a u hL hst hS hdep hq hno
                      have h112 : a.tmps.getD 112 undef = .bool false := hdep 112 (by kernel_rfl)
                      have h124 : a.tmps.getD 124 undef = .bool false := hdep 124 (by kernel_rfl)
                      have h106 : a.tmps.getD 106 undef = .bool true := hdep 106 (by kernel_rfl)
                      refine .inl ⟨⟨106, by kernel_rfl, h106⟩, ?_⟩
                      clear h106
                      have g112 := gd h112
                      have g124 := gd h124
                      go_simp
                      exact Went6.same (HKR.out _ _) hS rfl
                    refine EachOp.cons ?_ ?_
                    · intro L a u hL hst hS hdep hq hno
                      have h125 : a.tmps.getD 125 undef = .bool false := hdep 125 (by kernel_rfl)
                      have h106 : a.tmps.getD 106 undef = .bool true := hdep 106 (by kernel_rfl)
                      refine .inl ⟨⟨106, by kernel_rfl, h106⟩, ?_⟩
                      clear h106
                      have g125 := gd h125
                      go_simp
                      exact Went6.same (HKR.out _ _) hS rfl
                    refine EachOp.cons ?_ ?_
                    · intro L a u hL hst hS hdep hq hno
                      have h5 : a.tmps.getD 5 undef = .pointer (some ⟨bc, 0, none⟩) := hst.out 5 (by kernel_rfl)
                      have h126 : a.tmps.getD 126 undef = .bool false := hdep 126 (by kernel_rfl)
                      refine .inl ⟨⟨126, by kernel_rfl, h126⟩, ?_⟩
                      clear h126
                      have g5 := gd h5
                      go_simp
                      exact Went6.same (HKR.out _ _) hS rfl
                    refine EachOp.cons ?_ ?_
                    · intro L a u hL hst hS hdep hq hno
                      have h11 : a.tmps.getD 11 undef = .int .i64 q := hst.out 11 (by kernel_rfl)
                      have h126 : a.tmps.getD 126 undef = .bool false := hdep 126 (by kernel_rfl)
                      refine .inl ⟨⟨126, by kernel_rfl, h126⟩, ?_⟩
                      clear h126
                      have g11 := gd h11
                      go_simp
                      exact Went6.same (HKR.out _ _) hS rfl
                    refine EachOp.cons ?_ ?_
                    · intro L a u hL hst hS hdep hq hno
                      have h127 : a.tmps.getD 127 undef = .pointer (some ⟨bc, 0, none⟩) := hdep 127 (by kernel_rfl)
                      have h128 : a.tmps.getD 128 undef = .int .i64 q := hdep 128 (by kernel_rfl)
                      have h126 : a.tmps.getD 126 undef = .bool false := hdep 126 (by kernel_rfl)
                      refine .inl ⟨⟨126, by kernel_rfl, h126⟩, ?_⟩
                      clear h126
                      have g127 := gd h127
                      have g128 := gd h128
                      go_simp
                      refine (HLAG.out _ _ _ ((HG2.out u).1 hS)).mono ?_
                      rintro e' u' ⟨rfl, h2⟩
                      exact Went6.next ((HG2.out _).2 h2) (fun h _ => absurd rfl h) rfl
                    refine EachOp.cons ?_ ?_
                    · intro L a u hL hst hS hdep hq hno
                      have h10 : a.tmps.getD 10 undef = .slice Af lf df := hst.out 10 (by kernel_rfl)
                      have h126 : a.tmps.getD 126 undef = .bool false := hdep 126 (by kernel_rfl)
                      refine .inl ⟨⟨126, by kernel_rfl, h126⟩, ?_⟩
                      clear h126
                      have g10 := gd h10
                      go_simp
                      exact Went6.same (HKR.out _ _) hS rfl
                    refine EachOp.cons ?_ ?_
                    · intro L a u hL hst hS hdep hq hno
                      have h130 : a.tmps.getD 130 undef = .slice Af lf df := hdep 130 (by kernel_rfl)
                      have h126 : a.tmps.getD 126 undef = .bool false := hdep 126 (by kernel_rfl)
                      refine .inl ⟨⟨126, by kernel_rfl, h126⟩, ?_⟩
                      clear h126
                      have g130 := gd h130
                      go_simp
                      exact Went6.same (HKR.out _ _) hS rfl
                    refine EachOp.cons ?_ ?_
                    · intro L a u hL hst hS hdep hq hno
                      have h13 : a.tmps.getD 13 undef = .slice Al la dl := hst.out 13 (by kernel_rfl)
                      have h126 : a.tmps.getD 126 undef = .bool false := hdep 126 (by kernel_rfl)
                      refine .inl ⟨⟨126, by kernel_rfl, h126⟩, ?_⟩
                      clear h126
                      have g13 := gd h13
                      go_simp
                      exact Went6.same (HKR.out _ _) hS rfl
                    refine EachOp.cons ?_ ?_
                    · intro L a u hL hst hS hdep hq hno
                      have h132 : a.tmps.getD 132 undef = .slice Al la dl := hdep 132 (by kernel_rfl)
                      have h126 : a.tmps.getD 126 undef = .bool false := hdep 126 (by kernel_rfl)
                      refine .inl ⟨⟨126, by kernel_rfl, h126⟩, ?_⟩
                      clear h126
                      have g132 := gd h132
                      go_simp
                      exact Went6.same (HKR.out _ _) hS rfl
                    refine EachOp.cons ?_ ?_
                    · intro L a u hL hst hS hdep hq hno
                      have h131 : a.tmps.getD 131 undef = .int .i64 lf := hdep 131 (by kernel_rfl)
                      have h133 : a.tmps.getD 133 undef = .int .i64 la := hdep 133 (by kernel_rfl)
                      have h126 : a.tmps.getD 126 undef = .bool false := hdep 126 (by kernel_rfl)
                      refine .inl ⟨⟨126, by kernel_rfl, h126⟩, ?_⟩
                      clear h126
                      have g131 := gd h131
                      have g133 := gd h133
                      have yy := hws
                      go_simp
                      exact Went6.same (HKR.out _ _) hS rfl
                    refine EachOp.cons ?_ ?_
                    · intro L a u hL hst hS hdep hq hno
                      have h134 : a.tmps.getD 134 undef = .int .i64 ((lf : Int) - la) := hdep 134 (by kernel_rfl)
                      have h126 : a.tmps.getD 126 undef = .bool false := hdep 126 (by kernel_rfl)
                      refine .inl ⟨⟨126, by kernel_rfl, h126⟩, ?_⟩
                      clear h126
                      have g134 := gd h134
                      have yy := hwu
                      go_simp
                      exact Went6.same (HKR.out _ _) hS rfl
                    refine EachOp.cons ?_ ?_
                    · intro L a u hL hst hS hdep hq hno
                      have h129 : a.tmps.getD 129 undef = .int .u64 ((lf : Int) - la) := hdep 129 (by kernel_rfl)
                      have h135 : a.tmps.getD 135 undef = .int .u64 ((lf : Int) - la) := hdep 135 (by kernel_rfl)
                      have h126 : a.tmps.getD 126 undef = .bool false := hdep 126 (by kernel_rfl)
                      refine .inl ⟨⟨126, by kernel_rfl, h126⟩, ?_⟩
                      clear h126
                      have g129 := gd h129
                      have g135 := gd h135
                      go_simp
                      exact Went6.same (HKR.out _ _) hS rfl
                    refine EachOp.cons ?_ ?_
                    · intro L a u hL hst hS hdep hq hno
                      have h126 : a.tmps.getD 126 undef = .bool false := hdep 126 (by kernel_rfl)
                      have h136 : a.tmps.getD 136 undef = .bool false := hdep 136 (by kernel_rfl)
                      have h106 : a.tmps.getD 106 undef = .bool true := hdep 106 (by kernel_rfl)
                      refine .inl ⟨⟨106, by kernel_rfl, h106⟩, ?_⟩
                      clear h106
                      have g126 := gd h126
                      have g136 := gd h136
                      go_simp
                      exact Went6.same (HKR.out _ _) hS rfl
                    refine EachOp.cons ?_ ?_
                    · intro L a u hL hst hS hdep hq hno
                      have h106 : a.tmps.getD 106 undef = .bool true := hdep 106 (by kernel_rfl)
                      have h137 : a.tmps.getD 137 undef = .bool false := hdep 137 (by kernel_rfl)
                      have h99 : a.tmps.getD 99 undef = .bool false := hdep 99 (by kernel_rfl)
                      refine .inl ⟨⟨99, by kernel_rfl, h99⟩, ?_⟩
                      clear h99
                      have g106 := gd h106
                      have g137 := gd h137
                      go_simp
                      exact Went6.same (HKR.out _ _) hS rfl
                    refine EachOp.cons ?_ ?_
                    · intro L a u hL hst hS hdep hq hno
                      have h99 : a.tmps.getD 99 undef = .bool false := hdep 99 (by kernel_rfl)
                      have h138 : a.tmps.getD 138 undef = .bool false := hdep 138 (by kernel_rfl)
                      refine .inl ⟨trivial, ?_⟩
                      have g99 := gd h99
                      have g138 := gd h138
                      go_simp
                      exact Went6.same (HKR.out _ _) hS rfl
                    exact EachOp.nil
                  · intro L a u hLs hst hS hdep
                    have h93 : a.tmps.getD 93 undef = .pointer (some ⟨bc, 0, none⟩) := hdep 93 (by kernel_rfl)
                    have h94 : a.tmps.getD 94 undef = .int .i64 q := hdep 94 (by kernel_rfl)
                    have h95 : a.tmps.getD 95 undef = .int .u64 eq := hdep 95 (by kernel_rfl)
                    have h96 : a.tmps.getD 96 undef = .pointer (some ⟨t9, 0, none⟩) := hdep 96 (by kernel_rfl)
                    have h97 : a.tmps.getD 97 undef = .int .u64 eq := hdep 97 (by kernel_rfl)
                    have h98 : a.tmps.getD 98 undef = .bool false := hdep 98 (by kernel_rfl)
                    have h99 : a.tmps.getD 99 undef = .bool false := hdep 99 (by kernel_rfl)
                    have h100 : a.tmps.getD 100 undef = .pointer (some ⟨bc, 0, none⟩) := hdep 100 (by kernel_rfl)
                    have h101 : a.tmps.getD 101 undef = .int .i64 q := hdep 101 (by kernel_rfl)
                    have h102 : a.tmps.getD 102 undef = .int .u64 eq := hdep 102 (by kernel_rfl)
                    have h103 : a.tmps.getD 103 undef = .pointer (some ⟨t9, 0, none⟩) := hdep 103 (by kernel_rfl)
                    have h104 : a.tmps.getD 104 undef = .int .u64 eq := hdep 104 (by kernel_rfl)
                    have h105 : a.tmps.getD 105 undef = .bool true := hdep 105 (by kernel_rfl)
                    have h106 : a.tmps.getD 106 undef = .bool true := hdep 106 (by kernel_rfl)
                    have h107 : a.tmps.getD 107 undef = .slice Al la dl := hdep 107 (by kernel_rfl)
                    have h108 : a.tmps.getD 108 undef = .int .i64 la := hdep 108 (by kernel_rfl)
                    have h109 : a.tmps.getD 109 undef = .slice Af lf df := hdep 109 (by kernel_rfl)
                    have h110 : a.tmps.getD 110 undef = .int .i64 lf := hdep 110 (by kernel_rfl)
                    have h111 : a.tmps.getD 111 undef = .bool false := hdep 111 (by kernel_rfl)
                    have h112 : a.tmps.getD 112 undef = .bool false := hdep 112 (by kernel_rfl)
                    have h113 : a.tmps.getD 113 undef = .slice Al la dl := hdep 113 (by kernel_rfl)
                    obtain ⟨A114, c114, h114, q114⟩ := hdep 114 (by kernel_rfl)
                    have h115 : a.tmps.getD 115 undef = .slice Af lf df := hdep 115 (by kernel_rfl)
                    have h116 : a.tmps.getD 116 undef = .slice Al la dl := hdep 116 (by kernel_rfl)
                    have h117 : a.tmps.getD 117 undef = .int .i64 la := hdep 117 (by kernel_rfl)
                    have h118 : a.tmps.getD 118 undef = .slice Af lf df := hdep 118 (by kernel_rfl)
                    have h119 : a.tmps.getD 119 undef = .int .i64 lf := hdep 119 (by kernel_rfl)
                    have h120 : a.tmps.getD 120 undef = .int .i64 la := hdep 120 (by kernel_rfl)
                    have h121 : a.tmps.getD 121 undef = .slice Af la df := hdep 121 (by kernel_rfl)
                    obtain ⟨A122, c122, h122, q122⟩ := hdep 122 (by kernel_rfl)
                    have h123 : a.tmps.getD 123 undef = .bool true := hdep 123 (by kernel_rfl)
                    have h124 : a.tmps.getD 124 undef = .bool false := hdep 124 (by kernel_rfl)
                    have h125 : a.tmps.getD 125 undef = .bool false := hdep 125 (by kernel_rfl)
                    have h126 : a.tmps.getD 126 undef = .bool false := hdep 126 (by kernel_rfl)
                    have h127 : a.tmps.getD 127 undef = .pointer (some ⟨bc, 0, none⟩) := hdep 127 (by kernel_rfl)
                    have h128 : a.tmps.getD 128 undef = .int .i64 q := hdep 128 (by kernel_rfl)
                    have h129 : a.tmps.getD 129 undef = .int .u64 ((lf : Int) - la) := hdep 129 (by kernel_rfl)
                    have h130 : a.tmps.getD 130 undef = .slice Af lf df := hdep 130 (by kernel_rfl)
                    have h131 : a.tmps.getD 131 undef = .int .i64 lf := hdep 131 (by kernel_rfl)
                    have h132 : a.tmps.getD 132 undef = .slice Al la dl := hdep 132 (by kernel_rfl)
                    have h133 : a.tmps.getD 133 undef = .int .i64 la := hdep 133 (by kernel_rfl)
                    have h134 : a.tmps.getD 134 undef = .int .i64 ((lf : Int) - la) := hdep 134 (by kernel_rfl)
                    have h135 : a.tmps.getD 135 undef = .int .u64 ((lf : Int) - la) := hdep 135 (by kernel_rfl)
                    have h136 : a.tmps.getD 136 undef = .bool false := hdep 136 (by kernel_rfl)
                    have h137 : a.tmps.getD 137 undef = .bool false := hdep 137 (by kernel_rfl)
                    have h138 : a.tmps.getD 138 undef = .bool false := hdep 138 (by kernel_rfl)
                    have h139 : a.tmps.getD 139 undef = .bool false := hdep 139 (by kernel_rfl)
                    have hfr := hst.frame [(93, .pointer (some ⟨bc, 0, none⟩)), (94, .int .i64 q), (95, .int .u64 eq), (96, .pointer (some ⟨t9, 0, none⟩)), (97, .int .u64 eq), (98, .bool false), (99, .bool false), (100, .pointer (some ⟨bc, 0, none⟩)), (101, .int .i64 q), (102, .int .u64 eq), (103, .pointer (some ⟨t9, 0, none⟩)), (104, .int .u64 eq), (105, .bool true), (106, .bool true), (107, .slice Al la dl), (108, .int .i64 la), (109, .slice Af lf df), (110, .int .i64 lf), (111, .bool false), (112, .bool false), (113, .slice Al la dl), (114, .slice A114 la c114), (115, .slice Af lf df), (116, .slice Al la dl), (117, .int .i64 la), (118, .slice Af lf df), (119, .int .i64 lf), (120, .int .i64 la), (121, .slice Af la df), (122, .slice A122 la c122), (123, .bool true), (124, .bool false), (125, .bool false), (126, .bool false), (127, .pointer (some ⟨bc, 0, none⟩)), (128, .int .i64 q), (129, .int .u64 ((lf : Int) - la)), (130, .slice Af lf df), (131, .int .i64 lf), (132, .slice Al la dl), (133, .int .i64 la), (134, .int .i64 ((lf : Int) - la)), (135, .int .u64 ((lf : Int) - la)), (136, .bool false), (137, .bool false), (138, .bool false), (139, .bool false)] (by kernel_rfl) ⟨h93, h94, h95, h96, h97, h98, h99, h100, h101, h102, h103, h104, h105, h106, h107, h108, h109, h110, h111, h112, h113, h114, h115, h116, h117, h118, h119, h120, h121, h122, h123, h124, h125, h126, h127, h128, h129, h130, h131, h132, h133, h134, h135, h136, h137, h138, h139, trivial⟩
                    clear hst hdep h93 h94 h95 h96 h97 h98 h99 h100 h101 h102 h103 h104 h105 h106 h107 h108 h109 h110 h111 h112 h113 h114 h115 h116 h117 h118 h119 h120 h121 h122 h123 h124 h125 h126 h127 h128 h129 h130 h131 h132 h133 h134 h135 h136 h137 h138 h139
                    subst hfr
                    simp only [List.foldl_cons, List.foldl_nil, List.setIfInBounds_toArray, List.set_cons_zero, List.set_cons_succ]
                    have H13 := Lib.hid (HBACK.out u hS)
                    clear hS hLs
                    go_wp2_with fail
                    go_roundw
                    case rel => exact ⟨q + 1, by omega, by go_num, H13⟩
                    case measure => simp [intOf]; omega
          · have H10 := Lib.hid (((HGN.out wr).1 hg.out).less (ps' := []) (l' := []) (rs' := []) (xs' := []) (fun _ h => h) (fun _ h => nomatch h) (fun _ h => nomatch h) (fun _ h => nomatch h))
            clear hg HCE HG8
            go_wp2_with fail
            go_roundw
            case rel => exact ⟨k + 1, c, by omega, by go_num, HIN, HCN2, H10⟩
            case measure => simp [intOf]; omega
    · have HF := Lib.hid hD.out.low
      clear hD
      go_wp2_with fail
      go_ret
      exact ⟨rfl, HF.out⟩
end
end
end Go.Proofs.YtdhnpmagapbmhaaGreatDoor
