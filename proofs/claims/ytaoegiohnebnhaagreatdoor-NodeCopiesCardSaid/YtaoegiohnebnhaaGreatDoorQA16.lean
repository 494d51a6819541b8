/-
  Contracts and plain functions that the law stands on, part 16 of 16.
-/
import Derived.Test.YtaoegiohnebnhaaGreatDoorQA15
namespace Go.Proofs.YtaoegiohnebnhaaGreatDoor
/- NodeReads, of layer 15: the walk. -/
section
open Go.RowKit
set_option maxRecDepth 100000

def slSr : Stl KeepT := ⟨fun _ v _ => ∃ A m d, v = .slice A m d, fun _ _ _ _ _ _ h _ => h⟩
def ptSr : Stl KeepT := ⟨fun _ v _ => ∃ b, v = .pointer (some ⟨b, 0, none⟩), fun _ _ _ _ _ _ h _ => h⟩
/-- within region 15: what is told so far -/
def SR15 (W : World) (X Y : Thing) (ps : List (Nat × (Nat → Nat))) (l : List (Nat × Obj)) (lg : List Lg) (Aw : Option Addr) (mw : Nat) (xs : List (Option Addr × Nat × List ByteArray)) (L : Nat → Bool) (T : Nat → Value) (u : World) : Prop :=
  bif L 19 then St15 W X Y ps l [] [] u
  else bif L 17 then ∃ v cb, T 74 = .pointer (some ⟨cb, 0, none⟩) ∧ St15 W X Y ps l [] [] v ∧ Below v.heap.size v u ∧ v.heap.size ≤ cb ∧ CL u cb
  else bif L 10 then St15 W X Y ps l [] [] u
  else bif L 9 then ∃ A m d A' m' d', T 63 = .slice A m d ∧ T 66 = .slice A' m' d' ∧ St15 W X Y ps l [(A', m', lg), (A, m, lg)] [] u
  else bif L 8 then ∃ A m d A' m' d', T 63 = .slice A m d ∧ T 65 = .slice A' m' d' ∧ St15 W X Y ps l [(A', m', lg), (A, m, lg)] [] u
  else bif L 6 then ∃ A m d, T 63 = .slice A m d ∧ St15 W X Y ps l [(A, m, lg)] [] u
  else St15 W X Y ps l [(Aw, mw, lg)] xs u
theorem SR15.st {W : World} {X Y : Thing} {ps : List (Nat × (Nat → Nat))} {l : List (Nat × Obj)} {lg : List Lg} {Aw : Option Addr} {mw : Nat} {xs : List (Option Addr × Nat × List ByteArray)} {L : Nat → Bool} {T : Nat → Value} {u : World} (h : SR15 W X Y ps l lg Aw mw xs L T u) : St15 W X Y ps l [] [] u := by
  unfold SR15 at h
  cases h19 : L 19 with
  | true => rw [h19] at h; exact h
  | false =>
  cases h17 : L 17 with
  | true =>
    rw [h19, h17] at h
    obtain ⟨v, cb, _, h1, h2, _⟩ := h
    exact h1.next h2
  | false =>
  cases h10 : L 10 with
  | true => rw [h19, h17, h10] at h; exact h
  | false =>
  cases h9 : L 9 with
  | true =>
    rw [h19, h17, h10, h9] at h
    obtain ⟨_, _, _, _, _, _, _, _, h⟩ := h
    exact h.less (fun _ h => h) (fun _ h => h) (fun _ h => nomatch h) fun _ h => h
  | false =>
  cases h8 : L 8 with
  | true =>
    rw [h19, h17, h10, h9, h8] at h
    obtain ⟨_, _, _, _, _, _, _, _, h⟩ := h
    exact h.less (fun _ h => h) (fun _ h => h) (fun _ h => nomatch h) fun _ h => h
  | false =>
  cases h6 : L 6 with
  | true =>
    rw [h19, h17, h10, h9, h8, h6] at h
    obtain ⟨_, _, _, _, h⟩ := h
    exact h.less (fun _ h => h) (fun _ h => h) (fun _ h => nomatch h) fun _ h => h
  | false =>
    rw [h19, h17, h10, h9, h8, h6] at h
    exact h.less (fun _ h => h) (fun _ h => h) (fun _ h => nomatch h) (fun _ h => nomatch h)
def toSr (t : To15) : Stl KeepT := ⟨fun _ v _ => ∃ A m d, v = .agg #[.int .i64 t.r.e, .int .u64 t.r.ep, .int .u64 t.r.pl, .slice A m d, .bool t.is, .int .i64 t.many], fun _ _ _ _ _ _ h _ => h⟩
section
variable {X : Nat → Nd → Thing}
set_option maxHeartbeats 32000000 in
theorem nodereads_walk (C : NodeC X) (A1 : Option Addr) (l1 c1 : Nat) (ts : List Ac8) (cn : Int) (tx : ByteArray) (W : World) (r1 : AE W A1 l1 ts) (hF : ∀ t ∈ ts, t.Fine) (hcn : I64n cn) (hL : Lw W) :
    Calls Tryz.prog 7 #[.slice A1 l1 c1, .int .i64 cn, .string tx] W fun e w' => e = .returned (.bool true) ∧ Below W.heap.size W w' := by
  have HAW := Lib.hid (awake15_ok C hL)
  have HCN := Lib.hid hcn
  clear hcn
  have R1 := Lib.hid r1
  have HN1 := Lib.hid r1.len
  have HFX := Lib.hid hF
  have HC := Lib.hid C
  have HLW := Lib.hid hL
  clear r1 hF C hL
  go_enter Tryz.func7, Tryz.ntmps7
  go_wp2_with fail
  refine HAW.out.mono ?_
  rintro e w1 ⟨rfl, k1⟩
  have HLG := Lib.hid (llarge15_ok A1 l1 c1 ts w1 (R1.out.next k1))
  have HK1 := Lib.hid k1
  clear HAW k1
  go_wp2_with fail
  refine HLG.out.mono ?_
  rintro e w2 ⟨bg, rfl, hbg, k2⟩
  have HK2 := Lib.hid (HK1.out.trans (k2.mono HK1.out.size))
  clear HLG k2 HK1
  cases bg with
  | true =>
    clear hbg
    go_wp2_with fail
    go_ret
    exact ⟨rfl, HK2.out⟩
  | false =>
  obtain ⟨hl60, hsm⟩ := hbg rfl
  have HSM := Lib.hid hsm
  clear hbg hsm
  by_cases hp300 : (300 : Int) < (tx.size : Int)
  · go_wp2_with fail
    go_ret
    exact ⟨rfl, HK2.out⟩
  have HTX : Hid (Sm tx) := Lib.hid (by unfold Sm; omega)
  go_wp2_with fail
  refine (lnodes_new HC.out (HLW.out.next HK2.out)).mono ?_
  clear hp300
  rintro e w3 ⟨ga, ba, rfl, p33, ⟨S3, q3, z3⟩, g3, k3⟩
  have HK3 := Lib.hid (HK2.out.trans (k3.mono HK2.out.size))
  have hga : ga < w3.heap.size := by obtain ⟨ad, h1, h2, _⟩ := p33.at_ (i := 0) (by decide); injection h1 with h1; subst h1; exact h2
  have HX3 := Lib.hid (And.intro p33 (And.intro q3 (And.intro z3 (And.intro hga g3))))
  clear p33 q3 z3 k3 hga g3
  go_wp2_with fail
  refine (lnodes_new HC.out (HLW.out.next HK3.out)).mono ?_
  rintro e w4 ⟨gb, bb, rfl, p34, ⟨S4, q4, z4⟩, g4, k4⟩
  have HD4 : Hid (St15 W (Tri X ba fun _ => newNd) (Tri X bb fun _ => newNd) [(ga, ba), (gb, bb)] [] [] [] w4) := Lib.hid (by
    obtain ⟨p3, q3, z3, hga, g3⟩ := HX3.out
    have hgb : gb < w4.heap.size := by obtain ⟨ad, h1, h2, _⟩ := p34.at_ (i := 0) (by decide); injection h1 with h1; subst h1; exact h2
    have hk2 := HK2.out.size
    have hk3 := HK3.out.size
    have hk4 := k4.size
    refine ⟨fun k => k = ga ∨ k = gb, ⟨⟨S3, S4, Thing.next q3 k4, q4, fun k h1 h2 => (by have := z3 k h1; have := z4 k h2; omega), fun k hk => ?_⟩, HK3.out.trans (k4.mono hk3), fun k hk => (by omega)⟩, (fun _ h => nomatch h), fun q hq => ?_, (fun _ h => nomatch h), fun _ h => nomatch h⟩
    · rcases hk with h1 | h1
      · have := z3 k h1; omega
      · have := z4 k h1; omega
    · rcases List.mem_cons.1 hq with rfl | hq
      · exact ⟨p3.next k4, .inl rfl⟩
      · rw [List.mem_singleton.1 hq]
        exact ⟨p34, .inr rfl⟩)
  have HI0 : Hid (∀ i : Nat, NdI 0 ((fun _ => newNd : Nat → Nd) i)) := Lib.hid fun _ => NdI.new
  clear p34 q4 z4 k4 HX3 HK3 HK2 g4
  go_wp2_with fail
  go_loopw [31] (fun i wr => ∃ (k : Nat) (ns : Nat → Nd), k ≤ l1 ∧ i = .int .i64 k ∧ Hid (∀ i : Nat, NdI k (ns i)) ∧ Hid (St15 W (Tri X ba ns) (Tri X bb ns) [(ga, ba), (gb, bb)] [] [] [] wr)) (fun i _ => l1 - (intOf i).toNat)
  case atStart => exact ⟨0, _, Nat.zero_le _, rfl, HI0, HD4⟩
  case round =>
    obtain ⟨k, ns, hk, rfl, HI, hD⟩ := hrel
    clear HI0 HD4
    by_cases hlt : k < l1
    · have hkl : k < ts.length := by rw [HN1.out]; exact hlt
      obtain ⟨ad, rfl, _, hcc⟩ := R1.out.at_ hkl
      obtain ⟨x0, x1, x2, x3, x4, x5, x6, x7⟩ := hcc wr (hD.out.low)
      have HXF := Lib.hid (HFX.out _ (List.getElem_mem hkl))
      have HXS := Lib.hid (HSM.out _ (List.getElem_mem hkl))
      clear hcc
      generalize ts[k] = x at *
      obtain ⟨wx, hwx⟩ : ∃ u, wr.alloc (.cells #[.int .i64 x.d, .int .i64 x.nd, .int .i64 x.fr, .int .i64 x.c, .int .i64 x.m, .int .u64 x.e, .bool x.rd, .string x.t] 32) = u := ⟨_, rfl⟩
      obtain ⟨t6, ht6⟩ : ∃ y, wr.heap.size = y := ⟨_, rfl⟩
      have H1 := Lib.hid ((hD.out).mark (.cells #[.int .i64 x.d, .int .i64 x.nd, .int .i64 x.fr, .int .i64 x.c, .int .i64 x.m, .int .u64 x.e, .bool x.rd, .string x.t] 32) hwx ht6)
      have HWX := Lib.hid hwx
      have HT6 := Lib.hid ht6
      have HIN : Hid (∀ i : Nat, NdI (k + 1) ((actN ns x).2 i)) := Lib.hid (actN_inv HI.out HXF.out HXS.out)
      clear hwx ht6 hD
      go_wp2_with fail
      rw [HWX.out, HT6.out]
      have H1s := Lib.hid H1.out.swap
      clear H1 HWX HT6 x0 x1 x2 x3 x4 x5 x6 x7
      obtain ⟨wp, hwp⟩ : ∃ z, z = wr := ⟨wr, rfl⟩
      subst hwp
      go_loopw [37] (fun j wr => ∃ q : Nat, q ≤ 3 ∧ j = .int .i64 q ∧ Hid (St15 W (Tri X bb ns) (Tri X ba ns) [(ga, ba), (gb, bb)] [(t6, .cells #[.int .i64 x.d, .int .i64 x.nd, .int .i64 x.fr, .int .i64 x.c, .int .i64 x.m, .int .u64 x.e, .bool x.rd, .string x.t] 32)] [] [] wr)) (fun j _ => 3 - (intOf j).toNat)
      case atStart => exact ⟨0, by omega, rfl, H1s⟩
      case round =>
        obtain ⟨q, hq, rfl, hs⟩ := hrel
        clear H1s
        by_cases hql : q < 3
        · have hq0 : (0 : Int) ≤ (q : Int) := by omega
          have hq1 : (q : Int) < 3 := by omega
          have z : wr.cell? ⟨gb, q, none⟩ = some (.pointer (some ⟨bb q, 0, none⟩)) := hs.out.ptr (.tail _ (.head _)) hql
          have hrd := run_read (ns q) cn tx
          obtain ⟨r, hr⟩ : ∃ r, (runNd (ns q) cn (ns q).ep true tx).1 = r := ⟨_, rfl⟩
          have HTS : Hid (r.ts.length ≤ 20) := Lib.hid (by rw [← hr]; exact run_ts _ _ _ _ _)
          have HRD : Hid ((runNd (ns q) cn (ns q).ep true tx).2 = ns q ∧ (runNd (ns q) cn (ns q).ep true tx).1 = r) := Lib.hid ⟨hrd.1, hr⟩
          obtain ⟨is, his⟩ : ∃ i, classA tx.data.toList = i := ⟨_, rfl⟩
          obtain ⟨bo, hbo⟩ : ∃ b, (r.e == 0) = b := ⟨_, rfl⟩
          have HB1 := Lib.hid hbo
          have HB2 : Hid ((is == 1) = bo) := Lib.hid (by
            have h1 := hrd.2
            rw [hr] at h1
            have h2 : r.e = 0 ↔ is = 1 := by rw [← his]; exact h1
            rw [← hbo, Bool.eq_iff_iff, beq_iff_eq, beq_iff_eq]
            exact h2.symm)
          have HIS := Lib.hid his
          have HLG := Lib.hid (hs.out.log HC.out hql (HI.out q))
          clear hrd hr his hbo
          go_wp2_with fail
          refine HLG.out.mono ?_
          rintro e u1 ⟨Aw, mw, dw, ⟨rfl, _⟩, h2⟩
          have H2 := Lib.hid h2
          clear h2 HLG z hs
          go_wp2_with fail
          refine (H2.out.ep HC.out hql (HI.out q)).mono ?_
          rintro e v4 ⟨rfl, h3⟩
          have E4 := Lib.hid h3
          have HRUN := Lib.hid (h3.run HC.out HLW.out hql (HI.out q) (by omega) cn (ns q).ep true tx HTX.out HCN.out ⟨(HI.out q).e0, (HI.out q).eu⟩)
          rw [HRD.out.1, upd3_self, HRD.out.2] at HRUN
          clear h3 H2
          go_wp2_with fail
          refine HRUN.out.mono ?_
          rintro e x4 ⟨B4, m4, d4, rfl, h4⟩
          have F4 := Lib.hid h4
          have HRP := Lib.hid (lreply_ok r B4 m4 d4 x4)
          unfold rpV at HRP
          clear h4 E4 HRUN
          unfold rpV
          go_wp2_with fail
          refine HRP.out.mono ?_
          rintro e y4 ⟨rfl, k4⟩
          have h5 := F4.out.next k4
          obtain ⟨z4, hz4⟩ : ∃ u, y4.alloc (.cells #[.int .i64 r.e, .int .u64 r.ep, .int .u64 r.pl, .slice B4 m4 d4] 36) = u := ⟨_, rfl⟩
          obtain ⟨t14, ht14⟩ : ∃ t, y4.heap.size = t := ⟨_, rfl⟩
          have G4 := Lib.hid (h5.mark _ hz4 ht14)
          have HZ4 := Lib.hid hz4
          have HT4 := Lib.hid ht14
          clear h5 k4 hz4 ht14 F4 HRP
          go_wp2_with fail
          rw [HZ4.out, HT4.out]
          refine (G4.out.ep HC.out hql (HI.out q)).mono ?_
          rintro e v5 ⟨rfl, h3⟩
          have E5 := Lib.hid h3
          have HRUN := Lib.hid (h3.run HC.out HLW.out hql (HI.out q) (by omega) cn (ns q).ep true tx HTX.out HCN.out ⟨(HI.out q).e0, (HI.out q).eu⟩)
          rw [HRD.out.1, upd3_self, HRD.out.2] at HRUN
          clear h3 G4
          go_wp2_with fail
          refine HRUN.out.mono ?_
          rintro e x5 ⟨B5, m5, d5, rfl, h4⟩
          have F5 := Lib.hid h4
          have HRP := Lib.hid (lreply_ok r B5 m5 d5 x5)
          unfold rpV at HRP
          clear h4 E5 HRUN
          unfold rpV
          go_wp2_with fail
          refine HRP.out.mono ?_
          rintro e y5 ⟨rfl, k4⟩
          have h5 := F5.out.next k4
          obtain ⟨z5, hz5⟩ : ∃ u, y5.alloc (.cells #[.int .i64 r.e, .int .u64 r.ep, .int .u64 r.pl, .slice B5 m5 d5] 36) = u := ⟨_, rfl⟩
          obtain ⟨t15, ht15⟩ : ∃ t, y5.heap.size = t := ⟨_, rfl⟩
          have G5 := Lib.hid (h5.mark _ hz5 ht15)
          have HZ5 := Lib.hid hz5
          have HT5 := Lib.hid ht15
          clear h5 k4 hz5 ht15 F5 HRP
          go_wp2_with fail
          rw [HZ5.out, HT5.out]
          obtain ⟨wo, hwo⟩ : ∃ z, z = z5 := ⟨z5, rfl⟩
          subst hwo
          have HST := G5
          have HKR : Hid (∀ (i : Nat) (u : World), KeepT i u u) := Lib.hid fun _ _ => trivial
          clear G5 HZ4 HT4 HZ5 HT5
          refine wp_region_specs7 (S := SR15 W (Tri X bb ns) (Tri X ba ns) [(ga, ba), (gb, bb)] [(t15, .cells #[.int .i64 r.e, .int .u64 r.ep, .int .u64 r.pl, .slice B5 m5 d5] 36), (t14, .cells #[.int .i64 r.e, .int .u64 r.ep, .int .u64 r.pl, .slice B4 m4 d4] 36), (t6, .cells #[.int .i64 x.d, .int .i64 x.nd, .int .i64 x.fr, .int .i64 x.c, .int .i64 x.m, .int .u64 x.e, .bool x.rd, .string x.t] 32)] (ns q).lg Aw mw [(B5, m5, r.ts), (B4, m4, r.ts)]) (Kp := KeepT) (Sp := [(57, Stl.eq (.agg #[.int .i64 r.e, .int .u64 r.ep, .int .u64 r.pl, .slice B4 m4 d4])), (58, Stl.eq (.agg #[.int .i64 r.e, .int .u64 r.ep, .int .u64 r.pl, .slice B5 m5 d5])), (59, Stl.eq (.bool true)), (60, Stl.eq (.bool false)), (61, Stl.eq (.bool false)), (62, Stl.eq (.slice Aw mw dw)), (63, slSr), (64, Stl.eq (.pointer (some ⟨bb q, 0, none⟩))), (65, slSr), (66, slSr), (67, Stl.eq (.bool true)), (68, Stl.eq (.bool false)), (69, Stl.eq (.bool false)), (70, Stl.eq (.bool false)), (71, Stl.eq (.pointer (some ⟨t14, 0, none⟩))), (72, Stl.eq (.int .i64 r.e)), (73, Stl.eq (.bool bo)), (74, ptSr), (75, Stl.eq (.string tx)), (76, Stl.eq (.int .i64 is)), (77, Stl.eq (.bool bo)), (78, Stl.eq (.bool false)), (79, Stl.eq (.bool false))]) (by kernel_rfl) (by kernel_rfl) ((by unfold SR15; exact HST.out.next (kp_drewN _ 1))) ?_ ?_
          · refine EachOp.cons ?_ ?_
            · intro L a u hL hst hS hdep hq hno
              have h14 : a.tmps.getD 14 undef = .pointer (some ⟨t14, 0, none⟩) := hst.out 14 (by kernel_rfl)
              refine .inl ⟨trivial, ?_⟩
              have g14 := gd h14
              have m14 := hS.st.at_ (.tail _ (.head _))
              obtain ⟨g0, _⟩ := cellsAt m14 0 (v := .int .i64 r.e) rfl
              obtain ⟨g1, _⟩ := cellsAt m14 1 (v := .int .u64 r.ep) rfl
              obtain ⟨g2, _⟩ := cellsAt m14 2 (v := .int .u64 r.pl) rfl
              obtain ⟨g3, _⟩ := cellsAt m14 3 (v := .slice B4 m4 d4) rfl
              clear m14
              go_simp
              exact Went7.same (HKR.out _ _) (by have h := hS; unfold SR15 at h ⊢; rw [slots_ne (d := 57) (t := 63) rfl, slots_ne (d := 57) (t := 65) rfl, slots_ne (d := 57) (t := 66) rfl, slots_ne (d := 57) (t := 74) rfl]; exact h) rfl
            refine EachOp.cons ?_ ?_
            · intro L a u hL hst hS hdep hq hno
              have h15 : a.tmps.getD 15 undef = .pointer (some ⟨t15, 0, none⟩) := hst.out 15 (by kernel_rfl)
              refine .inl ⟨trivial, ?_⟩
              have g15 := gd h15
              have m15 := hS.st.at_ (.head _)
              obtain ⟨g0, _⟩ := cellsAt m15 0 (v := .int .i64 r.e) rfl
              obtain ⟨g1, _⟩ := cellsAt m15 1 (v := .int .u64 r.ep) rfl
              obtain ⟨g2, _⟩ := cellsAt m15 2 (v := .int .u64 r.pl) rfl
              obtain ⟨g3, _⟩ := cellsAt m15 3 (v := .slice B5 m5 d5) rfl
              clear m15
              go_simp
              exact Went7.same (HKR.out _ _) (by have h := hS; unfold SR15 at h ⊢; rw [slots_ne (d := 58) (t := 63) rfl, slots_ne (d := 58) (t := 65) rfl, slots_ne (d := 58) (t := 66) rfl, slots_ne (d := 58) (t := 74) rfl]; exact h) rfl
            refine EachOp.cons ?_ ?_
            · intro L a u hL hst hS hdep hq hno
              have h57 : a.tmps.getD 57 undef = .agg #[.int .i64 r.e, .int .u64 r.ep, .int .u64 r.pl, .slice B4 m4 d4] := hdep 57 (by kernel_rfl)
              have h58 : a.tmps.getD 58 undef = .agg #[.int .i64 r.e, .int .u64 r.ep, .int .u64 r.pl, .slice B5 m5 d5] := hdep 58 (by kernel_rfl)
              refine .inl ⟨trivial, ?_⟩
              have g57 := gd h57
              have g58 := gd h58
              go_simp
              have c19 : L 19 = false := hno 12 19 (by kernel_rfl)
              have c17 : L 17 = false := hno 12 17 (by kernel_rfl)
              have c10 : L 10 = false := hno 12 10 (by kernel_rfl)
              have c9 : L 9 = false := hno 12 9 (by kernel_rfl)
              have c8 : L 8 = false := hno 12 8 (by kernel_rfl)
              have c6 : L 6 = false := hno 12 6 (by kernel_rfl)
              have hs0 := hS
              unfold SR15 at hs0
              simp only [c19, c17, c10, c9, c8, c6, cond_false] at hs0
              refine (ralike15_ok r B4 B5 m4 m5 d4 d5 u (hs0.xr (.tail _ (.head _))) (hs0.xr (.head _)) (by have h1 : r.ts.length = m4 := (hs0.xr (.tail _ (.head _))).len; have := HTS.out; omega) (by have h1 : r.ts.length = m5 := (hs0.xr (.head _)).len; have := HTS.out; omega)).mono ?_
              rintro e' u' ⟨rfl, hb⟩
              refine Went7.next ?_ trivial rfl
              have d19 : doneB L 2 19 = false := c19
              have d17 : doneB L 2 17 = false := c17
              have d10 : doneB L 2 10 = false := c10
              have d9 : doneB L 2 9 = false := c9
              have d8 : doneB L 2 8 = false := c8
              have d6 : doneB L 2 6 = false := c6
              unfold SR15
              simp only [d19, d17, d10, d9, d8, d6, cond_false]
              exact hs0.next hb
            refine EachOp.cons ?_ ?_
            · intro L a u hL hst hS hdep hq hno
              have h59 : a.tmps.getD 59 undef = .bool true := hdep 59 (by kernel_rfl)
              refine .inl ⟨trivial, ?_⟩
              have g59 := gd h59
              go_simp
              exact Went7.same (HKR.out _ _) (by have h := hS; unfold SR15 at h ⊢; rw [slots_ne (d := 60) (t := 63) rfl, slots_ne (d := 60) (t := 65) rfl, slots_ne (d := 60) (t := 66) rfl, slots_ne (d := 60) (t := 74) rfl]; exact h) rfl
            refine EachOp.cons ?_ ?_
            · intro L a u hL hst hS hdep hq hno
              have h60 : a.tmps.getD 60 undef = .bool false := hdep 60 (by kernel_rfl)
              refine .inl ⟨trivial, ?_⟩
              have g60 := gd h60
              go_simp
              exact Went7.same (HKR.out _ _) (by have h := hS; unfold SR15 at h ⊢; rw [slots_ne (d := 61) (t := 63) rfl, slots_ne (d := 61) (t := 65) rfl, slots_ne (d := 61) (t := 66) rfl, slots_ne (d := 61) (t := 74) rfl]; exact h) rfl
            refine EachOp.cons ?_ ?_
            · intro L a u hL hst hS hdep hq hno
              have h13 : a.tmps.getD 13 undef = .slice Aw mw dw := hst.out 13 (by kernel_rfl)
              have h61 : a.tmps.getD 61 undef = .bool false := hdep 61 (by kernel_rfl)
              refine .inl ⟨⟨61, by kernel_rfl, h61⟩, ?_⟩
              clear h61
              have g13 := gd h13
              go_simp
              exact Went7.same (HKR.out _ _) (by have h := hS; unfold SR15 at h ⊢; rw [slots_ne (d := 62) (t := 63) rfl, slots_ne (d := 62) (t := 65) rfl, slots_ne (d := 62) (t := 66) rfl, slots_ne (d := 62) (t := 74) rfl]; exact h) rfl
            refine EachOp.cons ?_ ?_
            · intro L a u hL hst hS hdep hq hno
              have h62 : a.tmps.getD 62 undef = .slice Aw mw dw := hdep 62 (by kernel_rfl)
              have h61 : a.tmps.getD 61 undef = .bool false := hdep 61 (by kernel_rfl)
              refine .inl ⟨⟨61, by kernel_rfl, h61⟩, ?_⟩
              clear h61
              have g62 := gd h62
              go_simp
              have c19 : L 19 = false := hno 12 19 (by kernel_rfl)
              have c17 : L 17 = false := hno 12 17 (by kernel_rfl)
              have c10 : L 10 = false := hno 12 10 (by kernel_rfl)
              have c9 : L 9 = false := hno 12 9 (by kernel_rfl)
              have c8 : L 8 = false := hno 12 8 (by kernel_rfl)
              have c6 : L 6 = false := hL
              have hs0 := hS
              unfold SR15 at hs0
              simp only [c19, c17, c10, c9, c8, c6, cond_false] at hs0
              have hlr := hs0.lr (.head _)
              have hm : mw ≤ 1000 := by have h1 : (ns q).lg.length = mw := hlr.len; have h2 := (HI.out q).lg; omega
              refine (lentries_new Aw mw dw (ns q).lg u hlr hm).mono ?_
              rintro e' u' ⟨A', c', rfl, hl, hn, hb⟩
              have h2 := (hs0.row hb hl hn).less (rs' := [(A', mw, (ns q).lg)]) (xs' := []) (fun _ h => h) (fun _ h => h) (fun q h => by rw [List.mem_singleton.1 h]; exact .head _) (fun _ h => nomatch h)
              refine Went7.next ?_ trivial ⟨A', mw, c', rfl⟩
              have d19 : doneB L 6 19 = false := c19
              have d17 : doneB L 6 17 = false := c17
              have d10 : doneB L 6 10 = false := c10
              have d9 : doneB L 6 9 = false := c9
              have d8 : doneB L 6 8 = false := c8
              have d6 : doneB L 6 6 = true := done_same
              have hsz : 63 < a.tmps.size := by rw [hst.size]; exact Nat.le_of_ble_eq_true (by kernel_rfl)
              unfold SR15
              simp only [d19, d17, d10, d9, d8, d6, cond_true, cond_false]
              exact ⟨A', mw, c', slots_eq hsz, h2⟩
            refine EachOp.cons ?_ ?_
            · intro L a u hL hst hS hdep hq hno
              have h12 : a.tmps.getD 12 undef = .pointer (some ⟨bb q, 0, none⟩) := hst.out 12 (by kernel_rfl)
              have h61 : a.tmps.getD 61 undef = .bool false := hdep 61 (by kernel_rfl)
              refine .inl ⟨⟨61, by kernel_rfl, h61⟩, ?_⟩
              clear h61
              have g12 := gd h12
              go_simp
              exact Went7.same (HKR.out _ _) (by have h := hS; unfold SR15 at h ⊢; rw [slots_ne (d := 64) (t := 63) rfl, slots_ne (d := 64) (t := 65) rfl, slots_ne (d := 64) (t := 66) rfl, slots_ne (d := 64) (t := 74) rfl]; exact h) rfl
            refine EachOp.cons ?_ ?_
            · intro L a u hL hst hS hdep hq hno
              have h64 : a.tmps.getD 64 undef = .pointer (some ⟨bb q, 0, none⟩) := hdep 64 (by kernel_rfl)
              have h61 : a.tmps.getD 61 undef = .bool false := hdep 61 (by kernel_rfl)
              refine .inl ⟨⟨61, by kernel_rfl, h61⟩, ?_⟩
              clear h61
              have g64 := gd h64
              go_simp
              have c19 : L 19 = false := hno 12 19 (by kernel_rfl)
              have c17 : L 17 = false := hno 12 17 (by kernel_rfl)
              have c10 : L 10 = false := hno 12 10 (by kernel_rfl)
              have c9 : L 9 = false := hno 12 9 (by kernel_rfl)
              have c8 : L 8 = false := hL
              have c6 : L 6 = true := hq 12 6 (by kernel_rfl)
              have hs0 := hS
              unfold SR15 at hs0
              simp only [c19, c17, c10, c9, c8, c6, cond_true, cond_false] at hs0
              obtain ⟨A, m, d, ht, hs1⟩ := hs0
              refine (hs1.log HC.out hql (HI.out q)).mono ?_
              rintro e' u' ⟨A', m', d', ⟨rfl, _⟩, h2⟩
              refine Went7.next ?_ trivial ⟨A', m', d', rfl⟩
              have d19 : doneB L 8 19 = false := c19
              have d17 : doneB L 8 17 = false := c17
              have d10 : doneB L 8 10 = false := c10
              have d9 : doneB L 8 9 = false := c9
              have d8 : doneB L 8 8 = true := done_same
              have hsz : 65 < a.tmps.size := by rw [hst.size]; exact Nat.le_of_ble_eq_true (by kernel_rfl)
              unfold SR15
              simp only [d19, d17, d10, d9, d8, cond_true, cond_false]
              exact ⟨A, m, d, A', m', d', (slots_ne (d := 65) (t := 63) rfl).trans ht, slots_eq hsz, h2⟩
            refine EachOp.cons ?_ ?_
            · intro L a u hL hst hS hdep hq hno
              obtain ⟨A65, m65, d65, h65⟩ := hdep 65 (by kernel_rfl)
              have h61 : a.tmps.getD 61 undef = .bool false := hdep 61 (by kernel_rfl)
              refine .inl ⟨⟨61, by kernel_rfl, h61⟩, ?_⟩
              clear h61
              have g65 := gd h65
              go_simp
              have c19 : L 19 = false := hno 12 19 (by kernel_rfl)
              have c17 : L 17 = false := hno 12 17 (by kernel_rfl)
              have c10 : L 10 = false := hno 12 10 (by kernel_rfl)
              have c9 : L 9 = false := hL
              have c8 : L 8 = true := hq 12 8 (by kernel_rfl)
              have hs0 := hS
              unfold SR15 at hs0
              simp only [c19, c17, c10, c9, c8, cond_true, cond_false] at hs0
              obtain ⟨B, mb, db, A, m, d, htb, ht, hs1⟩ := hs0
              have hv65 : Value.slice A65 m65 d65 = .slice A m d := h65.symm.trans ht
              injection hv65 with e1 e2 e3
              subst e1 e2 e3
              have hlr := hs1.lr (.head _)
              have hm : m65 ≤ 1000 := by have h1 : (ns q).lg.length = m65 := hlr.len; have h2 := (HI.out q).lg; omega
              refine (lentries_new _ m65 d65 (ns q).lg u hlr hm).mono ?_
              rintro e' u' ⟨A', c', rfl, hl, hn, hb⟩
              have h2 := (hs1.row hb hl hn).less (rs' := [(A', m65, (ns q).lg), (B, mb, (ns q).lg)]) (fun _ h => h) (fun _ h => h) (fun q h => (List.mem_cons.1 h).elim (fun e => by rw [e]; exact .head _) fun h => by rw [List.mem_singleton.1 h]; exact .tail _ (.tail _ (.head _))) fun _ h => h
              refine Went7.next ?_ trivial ⟨A', m65, c', rfl⟩
              have d19 : doneB L 9 19 = false := c19
              have d17 : doneB L 9 17 = false := c17
              have d10 : doneB L 9 10 = false := c10
              have d9 : doneB L 9 9 = true := done_same
              have hsz : 66 < a.tmps.size := by rw [hst.size]; exact Nat.le_of_ble_eq_true (by kernel_rfl)
              unfold SR15
              simp only [d19, d17, d10, d9, cond_true, cond_false]
              exact ⟨B, mb, db, A', m65, c', (slots_ne (d := 66) (t := 63) rfl).trans htb, slots_eq hsz, h2⟩
            refine EachOp.cons ?_ ?_
            · intro L a u hL hst hS hdep hq hno
              obtain ⟨A63, m63, d63, h63⟩ := hdep 63 (by kernel_rfl)
              obtain ⟨A66, m66, d66, h66⟩ := hdep 66 (by kernel_rfl)
              have h61 : a.tmps.getD 61 undef = .bool false := hdep 61 (by kernel_rfl)
              refine .inl ⟨⟨61, by kernel_rfl, h61⟩, ?_⟩
              clear h61
              have g63 := gd h63
              have g66 := gd h66
              go_simp
              have c19 : L 19 = false := hno 12 19 (by kernel_rfl)
              have c17 : L 17 = false := hno 12 17 (by kernel_rfl)
              have c10 : L 10 = false := hL
              have c9 : L 9 = true := hq 12 9 (by kernel_rfl)
              have hs0 := hS
              unfold SR15 at hs0
              simp only [c19, c17, c10, c9, cond_true, cond_false] at hs0
              obtain ⟨B, mb, db, A, m, d, htb, ht, hs1⟩ := hs0
              have hv66 : Value.slice A66 m66 d66 = .slice A m d := h66.symm.trans ht
              injection hv66 with e1 e2 e3
              subst e1 e2 e3
              have hv63 : Value.slice A63 m63 d63 = .slice B mb db := h63.symm.trans htb
              injection hv63 with e1 e2 e3
              subst e1 e2 e3
              have hlr := hs1.lr (.head _)
              have hlb := hs1.lr (.tail _ (.head _))
              have hm : m66 ≤ 1000000 := by have h1 : (ns q).lg.length = m66 := hlr.len; have h2 := (HI.out q).lg; omega
              have hm2 : m63 ≤ 1000000 := by have h1 : (ns q).lg.length = m63 := hlb.len; have h2 := (HI.out q).lg; omega
              refine (rsame15_ok _ _ m63 m66 d63 d66 _ _ u hlb hlr hm2 hm true (Lib.hid (by simp))).mono ?_
              rintro e' u' ⟨rfl, nn, hu'⟩
              have h2 := (hs1.next (show Below u.heap.size u u' from hu' ▸ kp_drewN _ _)).less (rs' := []) (fun _ h => h) (fun _ h => h) (fun _ h => nomatch h) fun _ h => h
              refine Went7.next ?_ trivial rfl
              have d19 : doneB L 10 19 = false := c19
              have d17 : doneB L 10 17 = false := c17
              have d10 : doneB L 10 10 = true := done_same
              unfold SR15
              simp only [d19, d17, d10, cond_true, cond_false]
              exact h2
            refine EachOp.cons ?_ ?_
            · intro L a u hL hst hS hdep hq hno
              have h67 : a.tmps.getD 67 undef = .bool true := hdep 67 (by kernel_rfl)
              have h61 : a.tmps.getD 61 undef = .bool false := hdep 61 (by kernel_rfl)
              refine .inl ⟨⟨61, by kernel_rfl, h61⟩, ?_⟩
              clear h61
              have g67 := gd h67
              go_simp
              exact Went7.same (HKR.out _ _) (by have h := hS; unfold SR15 at h ⊢; rw [slots_ne (d := 68) (t := 63) rfl, slots_ne (d := 68) (t := 65) rfl, slots_ne (d := 68) (t := 66) rfl, slots_ne (d := 68) (t := 74) rfl]; exact h) rfl
            refine EachOp.cons ?_ ?_
            · intro L a u hL hst hS hdep hq hno
              have h61 : a.tmps.getD 61 undef = .bool false := hdep 61 (by kernel_rfl)
              have h68 : a.tmps.getD 68 undef = .bool false := hdep 68 (by kernel_rfl)
              refine .inl ⟨trivial, ?_⟩
              have g61 := gd h61
              have g68 := gd h68
              go_simp
              exact Went7.same (HKR.out _ _) (by have h := hS; unfold SR15 at h ⊢; rw [slots_ne (d := 69) (t := 63) rfl, slots_ne (d := 69) (t := 65) rfl, slots_ne (d := 69) (t := 66) rfl, slots_ne (d := 69) (t := 74) rfl]; exact h) rfl
            refine EachOp.cons ?_ ?_
            · intro L a u hL hst hS hdep hq hno
              have h69 : a.tmps.getD 69 undef = .bool false := hdep 69 (by kernel_rfl)
              refine .inl ⟨trivial, ?_⟩
              have g69 := gd h69
              go_simp
              exact Went7.same (HKR.out _ _) (by have h := hS; unfold SR15 at h ⊢; rw [slots_ne (d := 70) (t := 63) rfl, slots_ne (d := 70) (t := 65) rfl, slots_ne (d := 70) (t := 66) rfl, slots_ne (d := 70) (t := 74) rfl]; exact h) rfl
            refine EachOp.cons ?_ ?_
            · intro L a u hL hst hS hdep hq hno
              have h14 : a.tmps.getD 14 undef = .pointer (some ⟨t14, 0, none⟩) := hst.out 14 (by kernel_rfl)
              have h70 : a.tmps.getD 70 undef = .bool false := hdep 70 (by kernel_rfl)
              refine .inl ⟨⟨70, by kernel_rfl, h70⟩, ?_⟩
              clear h70
              have g14 := gd h14
              go_simp
              exact Went7.same (HKR.out _ _) (by have h := hS; unfold SR15 at h ⊢; rw [slots_ne (d := 71) (t := 63) rfl, slots_ne (d := 71) (t := 65) rfl, slots_ne (d := 71) (t := 66) rfl, slots_ne (d := 71) (t := 74) rfl]; exact h) rfl
            refine EachOp.cons ?_ ?_
            · intro L a u hL hst hS hdep hq hno
              have h71 : a.tmps.getD 71 undef = .pointer (some ⟨t14, 0, none⟩) := hdep 71 (by kernel_rfl)
              have h70 : a.tmps.getD 70 undef = .bool false := hdep 70 (by kernel_rfl)
              refine .inl ⟨⟨70, by kernel_rfl, h70⟩, ?_⟩
              clear h70
              have g71 := gd h71
              have m14 := hS.st.at_ (.tail _ (.head _))
              obtain ⟨g0, _⟩ := cellsAt m14 0 (v := .int .i64 r.e) rfl
              obtain ⟨g1, _⟩ := cellsAt m14 1 (v := .int .u64 r.ep) rfl
              obtain ⟨g2, _⟩ := cellsAt m14 2 (v := .int .u64 r.pl) rfl
              obtain ⟨g3, _⟩ := cellsAt m14 3 (v := .slice B4 m4 d4) rfl
              clear m14
              go_simp
              exact Went7.same (HKR.out _ _) (by have h := hS; unfold SR15 at h ⊢; rw [slots_ne (d := 72) (t := 63) rfl, slots_ne (d := 72) (t := 65) rfl, slots_ne (d := 72) (t := 66) rfl, slots_ne (d := 72) (t := 74) rfl]; exact h) rfl
            refine EachOp.cons ?_ ?_
            · intro L a u hL hst hS hdep hq hno
              have h72 : a.tmps.getD 72 undef = .int .i64 r.e := hdep 72 (by kernel_rfl)
              have h70 : a.tmps.getD 70 undef = .bool false := hdep 70 (by kernel_rfl)
              refine .inl ⟨⟨70, by kernel_rfl, h70⟩, ?_⟩
              clear h70
              have g72 := gd h72
              have hb1 := HB1.out
              go_simp
              exact Went7.same (HKR.out _ _) (by have h := hS; unfold SR15 at h ⊢; rw [slots_ne (d := 73) (t := 63) rfl, slots_ne (d := 73) (t := 65) rfl, slots_ne (d := 73) (t := 66) rfl, slots_ne (d := 73) (t := 74) rfl]; exact h) rfl
            refine EachOp.cons ?_ ?_
            · intro L a u hL hst hS hdep hq hno
              have h70 : a.tmps.getD 70 undef = .bool false := hdep 70 (by kernel_rfl)
              refine .inl ⟨⟨70, by kernel_rfl, h70⟩, ?_⟩
              clear h70
              go_simp
              have c19 : L 19 = false := hno 12 19 (by kernel_rfl)
              have c17 : L 17 = false := hL
              have c10 : L 10 = true := hq 12 10 (by kernel_rfl)
              have hs0 := hS
              unfold SR15 at hs0
              simp only [c19, c17, c10, cond_true, cond_false] at hs0
              refine (newClasser_ok u).mono ?_
              rintro e' u' ⟨rfl, hcl, hb⟩
              refine Went7.next ?_ trivial ⟨u.heap.size, rfl⟩
              have d19 : doneB L 17 19 = false := c19
              have d17 : doneB L 17 17 = true := done_same
              have hsz : 74 < a.tmps.size := by rw [hst.size]; exact Nat.le_of_ble_eq_true (by kernel_rfl)
              unfold SR15
              simp only [d19, d17, cond_true, cond_false]
              exact ⟨u, u.heap.size, slots_eq hsz, hs0, hb, Nat.le_refl _, hcl⟩
            refine EachOp.cons ?_ ?_
            · intro L a u hL hst hS hdep hq hno
              have h2 : a.tmps.getD 2 undef = .string tx := hst.out 2 (by kernel_rfl)
              have h70 : a.tmps.getD 70 undef = .bool false := hdep 70 (by kernel_rfl)
              refine .inl ⟨⟨70, by kernel_rfl, h70⟩, ?_⟩
              clear h70
              have g2 := gd h2
              go_simp
              exact Went7.same (HKR.out _ _) (by have h := hS; unfold SR15 at h ⊢; rw [slots_ne (d := 75) (t := 63) rfl, slots_ne (d := 75) (t := 65) rfl, slots_ne (d := 75) (t := 66) rfl, slots_ne (d := 75) (t := 74) rfl]; exact h) rfl
            refine EachOp.cons ?_ ?_
            · intro L a u hL hst hS hdep hq hno
              obtain ⟨b74, h74⟩ := hdep 74 (by kernel_rfl)
              have h75 : a.tmps.getD 75 undef = .string tx := hdep 75 (by kernel_rfl)
              have h70 : a.tmps.getD 70 undef = .bool false := hdep 70 (by kernel_rfl)
              refine .inl ⟨⟨70, by kernel_rfl, h70⟩, ?_⟩
              clear h70
              have g74 := gd h74
              have g75 := gd h75
              go_simp
              have c19 : L 19 = false := hL
              have c17 : L 17 = true := hq 12 17 (by kernel_rfl)
              have hs0 := hS
              unfold SR15 at hs0
              simp only [c19, c17, cond_true, cond_false] at hs0
              obtain ⟨v, cb, ht, hs1, hbv, hle, hcl⟩ := hs0
              have hv74 : Value.pointer (some ⟨b74, 0, none⟩) = .pointer (some ⟨cb, 0, none⟩) := h74.symm.trans ht
              injection hv74 with e1
              injection e1 with e1
              injection e1 with e1
              subst e1
              have hk := class_ok tx b74 u (by have := HTX.out; unfold Sm at this; unfold maxLen; omega) (HLW.out.next (hs1.low.trans (hbv.mono hs1.low.size))) hcl
              rw [HIS.out] at hk
              refine hk.mono ?_
              rintro e' u' ⟨rfl, _, hbel⟩
              have hvb : Below v.heap.size v u' := hbv.trans ((Off.bel (S := fun k => k = b74) rfl hbel).below (fun k hk => hk ▸ hle) hbv.size)
              refine Went7.next ?_ trivial rfl
              have d19 : doneB L 19 19 = true := done_same
              unfold SR15
              simp only [d19, cond_true]
              exact hs1.next hvb
            refine EachOp.cons ?_ ?_
            · intro L a u hL hst hS hdep hq hno
              have h76 : a.tmps.getD 76 undef = .int .i64 is := hdep 76 (by kernel_rfl)
              have h70 : a.tmps.getD 70 undef = .bool false := hdep 70 (by kernel_rfl)
              refine .inl ⟨⟨70, by kernel_rfl, h70⟩, ?_⟩
              clear h70
              have g76 := gd h76
              have hb2 := HB2.out
              go_simp
              exact Went7.same (HKR.out _ _) (by have h := hS; unfold SR15 at h ⊢; rw [slots_ne (d := 77) (t := 63) rfl, slots_ne (d := 77) (t := 65) rfl, slots_ne (d := 77) (t := 66) rfl, slots_ne (d := 77) (t := 74) rfl]; exact h) rfl
            refine EachOp.cons ?_ ?_
            · intro L a u hL hst hS hdep hq hno
              have h73 : a.tmps.getD 73 undef = .bool bo := hdep 73 (by kernel_rfl)
              have h77 : a.tmps.getD 77 undef = .bool bo := hdep 77 (by kernel_rfl)
              have h70 : a.tmps.getD 70 undef = .bool false := hdep 70 (by kernel_rfl)
              refine .inl ⟨⟨70, by kernel_rfl, h70⟩, ?_⟩
              clear h70
              have g73 := gd h73
              have g77 := gd h77
              go_simp
              exact Went7.same (HKR.out _ _) (by have h := hS; unfold SR15 at h ⊢; rw [slots_ne (d := 78) (t := 63) rfl, slots_ne (d := 78) (t := 65) rfl, slots_ne (d := 78) (t := 66) rfl, slots_ne (d := 78) (t := 74) rfl]; exact h) rfl
            refine EachOp.cons ?_ ?_
            · intro L a u hL hst hS hdep hq hno
              have h70 : a.tmps.getD 70 undef = .bool false := hdep 70 (by kernel_rfl)
              have h78 : a.tmps.getD 78 undef = .bool false := hdep 78 (by kernel_rfl)
              refine .inl ⟨trivial, ?_⟩
              have g70 := gd h70
              have g78 := gd h78
              go_simp
              exact Went7.same (HKR.out _ _) (by have h := hS; unfold SR15 at h ⊢; rw [slots_ne (d := 79) (t := 63) rfl, slots_ne (d := 79) (t := 65) rfl, slots_ne (d := 79) (t := 66) rfl, slots_ne (d := 79) (t := 74) rfl]; exact h) rfl
            exact EachOp.nil
          · intro L a u hLs hst hS hdep
            have h57 : a.tmps.getD 57 undef = .agg #[.int .i64 r.e, .int .u64 r.ep, .int .u64 r.pl, .slice B4 m4 d4] := hdep 57 (by kernel_rfl)
            have h58 : a.tmps.getD 58 undef = .agg #[.int .i64 r.e, .int .u64 r.ep, .int .u64 r.pl, .slice B5 m5 d5] := hdep 58 (by kernel_rfl)
            have h59 : a.tmps.getD 59 undef = .bool true := hdep 59 (by kernel_rfl)
            have h60 : a.tmps.getD 60 undef = .bool false := hdep 60 (by kernel_rfl)
            have h61 : a.tmps.getD 61 undef = .bool false := hdep 61 (by kernel_rfl)
            have h62 : a.tmps.getD 62 undef = .slice Aw mw dw := hdep 62 (by kernel_rfl)
            obtain ⟨A63, m63, d63, h63⟩ := hdep 63 (by kernel_rfl)
            have h64 : a.tmps.getD 64 undef = .pointer (some ⟨bb q, 0, none⟩) := hdep 64 (by kernel_rfl)
            obtain ⟨A65, m65, d65, h65⟩ := hdep 65 (by kernel_rfl)
            obtain ⟨A66, m66, d66, h66⟩ := hdep 66 (by kernel_rfl)
            have h67 : a.tmps.getD 67 undef = .bool true := hdep 67 (by kernel_rfl)
            have h68 : a.tmps.getD 68 undef = .bool false := hdep 68 (by kernel_rfl)
            have h69 : a.tmps.getD 69 undef = .bool false := hdep 69 (by kernel_rfl)
            have h70 : a.tmps.getD 70 undef = .bool false := hdep 70 (by kernel_rfl)
            have h71 : a.tmps.getD 71 undef = .pointer (some ⟨t14, 0, none⟩) := hdep 71 (by kernel_rfl)
            have h72 : a.tmps.getD 72 undef = .int .i64 r.e := hdep 72 (by kernel_rfl)
            have h73 : a.tmps.getD 73 undef = .bool bo := hdep 73 (by kernel_rfl)
            obtain ⟨b74, h74⟩ := hdep 74 (by kernel_rfl)
            have h75 : a.tmps.getD 75 undef = .string tx := hdep 75 (by kernel_rfl)
            have h76 : a.tmps.getD 76 undef = .int .i64 is := hdep 76 (by kernel_rfl)
            have h77 : a.tmps.getD 77 undef = .bool bo := hdep 77 (by kernel_rfl)
            have h78 : a.tmps.getD 78 undef = .bool false := hdep 78 (by kernel_rfl)
            have h79 : a.tmps.getD 79 undef = .bool false := hdep 79 (by kernel_rfl)
            have hfr := hst.frame [(57, .agg #[.int .i64 r.e, .int .u64 r.ep, .int .u64 r.pl, .slice B4 m4 d4]), (58, .agg #[.int .i64 r.e, .int .u64 r.ep, .int .u64 r.pl, .slice B5 m5 d5]), (59, .bool true), (60, .bool false), (61, .bool false), (62, .slice Aw mw dw), (63, .slice A63 m63 d63), (64, .pointer (some ⟨bb q, 0, none⟩)), (65, .slice A65 m65 d65), (66, .slice A66 m66 d66), (67, .bool true), (68, .bool false), (69, .bool false), (70, .bool false), (71, .pointer (some ⟨t14, 0, none⟩)), (72, .int .i64 r.e), (73, .bool bo), (74, .pointer (some ⟨b74, 0, none⟩)), (75, .string tx), (76, .int .i64 is), (77, .bool bo), (78, .bool false), (79, .bool false)] (by kernel_rfl) ⟨h57, h58, h59, h60, h61, h62, h63, h64, h65, h66, h67, h68, h69, h70, h71, h72, h73, h74, h75, h76, h77, h78, h79, trivial⟩
            clear hst hdep h57 h58 h59 h60 h61 h62 h63 h64 h65 h66 h67 h68 h69 h70 h71 h72 h73 h74 h75 h76 h77 h78 h79
            subst hfr
            simp only [List.foldl_cons, List.foldl_nil, List.setIfInBounds_toArray, List.set_cons_zero, List.set_cons_succ]
            have H5 : Hid (St15 W (Tri X bb ns) (Tri X ba ns) [(ga, ba), (gb, bb)] [(t6, .cells #[.int .i64 x.d, .int .i64 x.nd, .int .i64 x.fr, .int .i64 x.c, .int .i64 x.m, .int .u64 x.e, .bool x.rd, .string x.t] 32)] [] [] u) := Lib.hid (hS.st.less (l' := [(t6, .cells #[.int .i64 x.d, .int .i64 x.nd, .int .i64 x.fr, .int .i64 x.c, .int .i64 x.m, .int .u64 x.e, .bool x.rd, .string x.t] 32)]) (fun _ h => h) (fun q h => by rw [List.mem_singleton.1 h]; exact .tail _ (.tail _ (.head _))) (fun _ h => h) fun _ h => h)
            clear hS hLs HST HRD HTS HIS HB1 HB2
            go_wp2_with fail
            go_roundw
            case rel => exact ⟨q + 1, by omega, by go_num, H5⟩
            case measure => simp [intOf]; omega
        · obtain rfl : q = 3 := by omega
          obtain ⟨wo, hwo⟩ : ∃ z, z = wr := ⟨wr, rfl⟩
          subst hwo
          have HST := Lib.hid hs.out.swap
          obtain ⟨R, hR⟩ : ∃ R, actN ns x = R := ⟨_, rfl⟩
          rw [hR] at HIN
          have HR := Lib.hid hR
          have HKR : Hid (∀ (i : Nat) (u : World), KeepT i u u) := Lib.hid fun _ _ => trivial
          clear hs hR
          go_wp2_with fail
          refine wp_region_specs7 (S := SD W (Tri X ba ns) (Tri X ba R.2) (Tri X bb ns) (Tri X bb R.2) [(ga, ba), (gb, bb)] t6 (.cells #[.int .i64 x.d, .int .i64 x.nd, .int .i64 x.fr, .int .i64 x.c, .int .i64 x.m, .int .u64 x.e, .bool x.rd, .string x.t] 32) R.1 83 86 16 17) (Kp := KeepT) (Sp := [(81, Stl.eq (.slice (some ⟨ga, 0, none⟩) 3 3)), (82, Stl.eq (.agg #[.int .i64 x.d, .int .i64 x.nd, .int .i64 x.fr, .int .i64 x.c, .int .i64 x.m, .int .u64 x.e, .bool x.rd, .string x.t])), (83, toSr R.1), (84, Stl.eq (.slice (some ⟨gb, 0, none⟩) 3 3)), (85, Stl.eq (.agg #[.int .i64 x.d, .int .i64 x.nd, .int .i64 x.fr, .int .i64 x.c, .int .i64 x.m, .int .u64 x.e, .bool x.rd, .string x.t])), (86, toSr R.1), (16, ptSr), (17, ptSr)]) (by kernel_rfl) (by kernel_rfl) ((SD.of rfl rfl ⟨[(t6, .cells #[.int .i64 x.d, .int .i64 x.nd, .int .i64 x.fr, .int .i64 x.c, .int .i64 x.m, .int .u64 x.e, .bool x.rd, .string x.t] 32)], [], ⟨HST.out.next (show Below wo.heap.size wo wo.drew from kp_drewN wo 1), .head _, (fun h => by cases h), (fun h => by cases h), (fun h => by cases h), (fun h => by cases h), fun h => by cases h⟩⟩)) ?_ ?_
          · refine EachOp.cons ?_ ?_
            · intro L a u hL hst hS hdep hq hno
              have h7 : a.tmps.getD 7 undef = .slice (some ⟨ga, 0, none⟩) 3 3 := hst.out 7 (by kernel_rfl)
              refine .inl ⟨trivial, ?_⟩
              have g7 := gd h7
              go_simp
              exact Went7.same (HKR.out _ _) (by have h := hS; unfold SD at h ⊢; rw [slots_ne (d := 81) (t := 83) rfl, slots_ne (d := 81) (t := 86) rfl, slots_ne (d := 81) (t := 16) rfl, slots_ne (d := 81) (t := 17) rfl]; exact h) rfl
            refine EachOp.cons ?_ ?_
            · intro L a u hL hst hS hdep hq hno
              have h10 : a.tmps.getD 10 undef = .pointer (some ⟨t6, 0, none⟩) := hst.out 10 (by kernel_rfl)
              refine .inl ⟨trivial, ?_⟩
              have g10 := gd h10
              have c9 : L 9 = false := hno 12 9 (by kernel_rfl)
              have c8 : L 8 = false := hno 12 8 (by kernel_rfl)
              obtain ⟨l0, xs0, hp0⟩ := hS.pre c9 c8
              have m6 := hp0.st.at_ hp0.a6
              obtain ⟨y0, _⟩ := cellsAt m6 0 (v := .int .i64 x.d) rfl
              obtain ⟨y1, _⟩ := cellsAt m6 1 (v := .int .i64 x.nd) rfl
              obtain ⟨y2, _⟩ := cellsAt m6 2 (v := .int .i64 x.fr) rfl
              obtain ⟨y3, _⟩ := cellsAt m6 3 (v := .int .i64 x.c) rfl
              obtain ⟨y4, _⟩ := cellsAt m6 4 (v := .int .i64 x.m) rfl
              obtain ⟨y5, _⟩ := cellsAt m6 5 (v := .int .u64 x.e) rfl
              obtain ⟨y6, _⟩ := cellsAt m6 6 (v := .bool x.rd) rfl
              obtain ⟨y7, _⟩ := cellsAt m6 7 (v := .string x.t) rfl
              clear m6 hp0
              go_simp
              exact Went7.same (HKR.out _ _) (by have h := hS; unfold SD at h ⊢; rw [slots_ne (d := 82) (t := 83) rfl, slots_ne (d := 82) (t := 86) rfl, slots_ne (d := 82) (t := 16) rfl, slots_ne (d := 82) (t := 17) rfl]; exact h) rfl
            refine EachOp.cons ?_ ?_
            · intro L a u hL hst hS hdep hq hno
              have h81 : a.tmps.getD 81 undef = .slice (some ⟨ga, 0, none⟩) 3 3 := hdep 81 (by kernel_rfl)
              have h82 : a.tmps.getD 82 undef = .agg #[.int .i64 x.d, .int .i64 x.nd, .int .i64 x.fr, .int .i64 x.c, .int .i64 x.m, .int .u64 x.e, .bool x.rd, .string x.t] := hdep 82 (by kernel_rfl)
              refine .inl ⟨trivial, ?_⟩
              have g81 := gd h81
              have g82 := gd h82
              go_simp
              have c9 : L 9 = false := hno 12 9 (by kernel_rfl)
              have c8 : L 8 = false := hno 12 8 (by kernel_rfl)
              obtain ⟨l0, xs0, hp0⟩ := hS.pre c9 c8
              have c2 : L 2 = false := hL
              have c5 : L 5 = false := hno 12 5 (by kernel_rfl)
              rw [c2, c5] at hp0
              have hst0 : St15 W (Tri X ba ns) (Tri X bb ns) [(ga, ba), (gb, bb)] l0 [] xs0 u := hp0.st
              have hk := hst0.act HC.out HLW.out 3 (.head _) HI.out (by omega) HXF.out HXS.out
              rw [HR.out] at hk
              refine hk.mono ?_
              rintro e' u' ⟨A', m', d', rfl, h2⟩
              have hsz : 83 < a.tmps.size := by rw [hst.size]; exact Nat.le_of_ble_eq_true (by kernel_rfl)
              refine Went7.next (SD.of c9 c8 ?_) trivial ⟨A', m', d', rfl⟩
              rw [slots_eq hsz, slots_ne (d := 83) (t := 86) rfl, slots_ne (d := 83) (t := 16) rfl, slots_ne (d := 83) (t := 17) rfl]
              have d2 : doneB L 2 2 = true := done_same
              have d5 : doneB L 2 5 = false := c5
              rw [d2, d5]
              exact ⟨_, _, hp0.do1 h2⟩
            refine EachOp.cons ?_ ?_
            · intro L a u hL hst hS hdep hq hno
              have h8 : a.tmps.getD 8 undef = .slice (some ⟨gb, 0, none⟩) 3 3 := hst.out 8 (by kernel_rfl)
              refine .inl ⟨trivial, ?_⟩
              have g8 := gd h8
              go_simp
              exact Went7.same (HKR.out _ _) (by have h := hS; unfold SD at h ⊢; rw [slots_ne (d := 84) (t := 83) rfl, slots_ne (d := 84) (t := 86) rfl, slots_ne (d := 84) (t := 16) rfl, slots_ne (d := 84) (t := 17) rfl]; exact h) rfl
            refine EachOp.cons ?_ ?_
            · intro L a u hL hst hS hdep hq hno
              have h10 : a.tmps.getD 10 undef = .pointer (some ⟨t6, 0, none⟩) := hst.out 10 (by kernel_rfl)
              refine .inl ⟨trivial, ?_⟩
              have g10 := gd h10
              have c9 : L 9 = false := hno 12 9 (by kernel_rfl)
              have c8 : L 8 = false := hno 12 8 (by kernel_rfl)
              obtain ⟨l0, xs0, hp0⟩ := hS.pre c9 c8
              have m6 := hp0.st.at_ hp0.a6
              obtain ⟨y0, _⟩ := cellsAt m6 0 (v := .int .i64 x.d) rfl
              obtain ⟨y1, _⟩ := cellsAt m6 1 (v := .int .i64 x.nd) rfl
              obtain ⟨y2, _⟩ := cellsAt m6 2 (v := .int .i64 x.fr) rfl
              obtain ⟨y3, _⟩ := cellsAt m6 3 (v := .int .i64 x.c) rfl
              obtain ⟨y4, _⟩ := cellsAt m6 4 (v := .int .i64 x.m) rfl
              obtain ⟨y5, _⟩ := cellsAt m6 5 (v := .int .u64 x.e) rfl
              obtain ⟨y6, _⟩ := cellsAt m6 6 (v := .bool x.rd) rfl
              obtain ⟨y7, _⟩ := cellsAt m6 7 (v := .string x.t) rfl
              clear m6 hp0
              go_simp
              exact Went7.same (HKR.out _ _) (by have h := hS; unfold SD at h ⊢; rw [slots_ne (d := 85) (t := 83) rfl, slots_ne (d := 85) (t := 86) rfl, slots_ne (d := 85) (t := 16) rfl, slots_ne (d := 85) (t := 17) rfl]; exact h) rfl
            refine EachOp.cons ?_ ?_
            · intro L a u hL hst hS hdep hq hno
              have h84 : a.tmps.getD 84 undef = .slice (some ⟨gb, 0, none⟩) 3 3 := hdep 84 (by kernel_rfl)
              have h85 : a.tmps.getD 85 undef = .agg #[.int .i64 x.d, .int .i64 x.nd, .int .i64 x.fr, .int .i64 x.c, .int .i64 x.m, .int .u64 x.e, .bool x.rd, .string x.t] := hdep 85 (by kernel_rfl)
              refine .inl ⟨trivial, ?_⟩
              have g84 := gd h84
              have g85 := gd h85
              go_simp
              have c9 : L 9 = false := hno 12 9 (by kernel_rfl)
              have c8 : L 8 = false := hno 12 8 (by kernel_rfl)
              obtain ⟨l0, xs0, hp0⟩ := hS.pre c9 c8
              have c2 : L 2 = true := hq 12 2 (by kernel_rfl)
              have c5 : L 5 = false := hL
              rw [c2, c5] at hp0
              have hst0 : St15 W (Tri X ba R.2) (Tri X bb ns) [(ga, ba), (gb, bb)] l0 [] xs0 u := hp0.st
              have hk := hst0.swap.act HC.out HLW.out 3 (.tail _ (.head _)) HI.out (by omega) HXF.out HXS.out
              rw [HR.out] at hk
              refine hk.mono ?_
              rintro e' u' ⟨A', m', d', rfl, h2⟩
              have h3 := h2.swap.less (xs' := xs0) (fun _ h => h) (fun _ h => h) (fun _ h => h) (fun _ h => .tail _ h)
              have h4 := h2.xr (.head _)
              have hsz : 86 < a.tmps.size := by rw [hst.size]; exact Nat.le_of_ble_eq_true (by kernel_rfl)
              refine Went7.next (SD.of c9 c8 ?_) trivial ⟨A', m', d', rfl⟩
              rw [slots_ne (d := 86) (t := 83) rfl, slots_eq hsz, slots_ne (d := 86) (t := 16) rfl, slots_ne (d := 86) (t := 17) rfl]
              have d2 : doneB L 5 2 = true := c2
              have d5 : doneB L 5 5 = true := done_same
              rw [d2, d5]
              exact ⟨_, _, hp0.do2 h3 h4⟩
            refine EachOp.cons ?_ ?_
            · intro L a u hL hst hS hdep hq hno
              refine .inl ⟨trivial, ?_⟩
              go_simp
              have c9 : L 9 = false := hno 12 9 (by kernel_rfl)
              have c8 : L 8 = false := hno 12 8 (by kernel_rfl)
              obtain ⟨l0, xs0, hp0⟩ := hS.pre c9 c8
              have ci : L 6 = false := hL
              rw [ci] at hp0
              have hsz : 16 < a.tmps.size := by rw [hst.size]; exact Nat.le_of_ble_eq_true (by kernel_rfl)
              refine Went7.next (SD.of c9 c8 ?_) trivial ⟨_, rfl⟩
              rw [slots_ne (d := 16) (t := 83) rfl, slots_ne (d := 16) (t := 86) rfl, slots_eq hsz, slots_ne (d := 16) (t := 17) rfl]
              have di : doneB L 6 6 = true := done_same
              rw [di]
              exact ⟨_, _, hp0.al1⟩
            refine EachOp.cons ?_ ?_
            · intro L a u hL hst hS hdep hq hno
              refine .inl ⟨trivial, ?_⟩
              go_simp
              have c9 : L 9 = false := hno 12 9 (by kernel_rfl)
              have c8 : L 8 = false := hno 12 8 (by kernel_rfl)
              obtain ⟨l0, xs0, hp0⟩ := hS.pre c9 c8
              have ci : L 7 = false := hL
              rw [ci] at hp0
              have hsz : 17 < a.tmps.size := by rw [hst.size]; exact Nat.le_of_ble_eq_true (by kernel_rfl)
              refine Went7.next (SD.of c9 c8 ?_) trivial ⟨_, rfl⟩
              rw [slots_ne (d := 17) (t := 83) rfl, slots_ne (d := 17) (t := 86) rfl, slots_ne (d := 17) (t := 16) rfl, slots_eq hsz]
              have di : doneB L 7 7 = true := done_same
              rw [di]
              exact ⟨_, _, hp0.al2⟩
            refine EachOp.cons ?_ ?_
            · intro L a u hL hst hS hdep hq hno
              obtain ⟨b16, h16⟩ := hdep 16 (by kernel_rfl)
              obtain ⟨A83, m83, d83, h83⟩ := hdep 83 (by kernel_rfl)
              refine .inl ⟨trivial, ?_⟩
              have g16 := gd h16
              have g83 := gd h83
              have c9 : L 9 = false := hno 12 9 (by kernel_rfl)
              have c8 : L 8 = false := hL
              obtain ⟨l0, xs0, hp0⟩ := hS.pre c9 c8
              have c2 : L 2 = true := hq 12 2 (by kernel_rfl)
              have c5 : L 5 = true := hq 12 5 (by kernel_rfl)
              have c6 : L 6 = true := hq 12 6 (by kernel_rfl)
              have c7 : L 7 = true := hq 12 7 (by kernel_rfl)
              rw [c2, c5, c6, c7] at hp0
              obtain ⟨b, c, A, m, d, A', m', d', f1, f2, f3, f4, HZC, hw⟩ := hp0.put1 (by unfold toZ; intro h; injection h with _ h; exact absurd h (by decide))
              have hv16 : Value.pointer (some ⟨b16, 0, none⟩) = ptB b := h16.symm.trans f1
              unfold ptB at hv16
              injection hv16 with e1
              injection e1 with e1
              injection e1 with e1
              subst e1
              obtain ⟨k1, k2, k3⟩ := toX_inj (show toX R.1 A83 m83 d83 = toX R.1 A m d from h83.symm.trans f3)
              subst k1 k2 k3
              unfold toZ at HZC
              obtain ⟨g0, p0⟩ := cellsAt HZC 0 (v := .int .i64 0) rfl
              obtain ⟨g1, p1⟩ := cellsAt HZC 1 (v := .int .u64 0) rfl
              obtain ⟨g2, p2⟩ := cellsAt HZC 2 (v := .int .u64 0) rfl
              obtain ⟨g3, p3⟩ := cellsAt HZC 3 (v := .slice none 0 0) rfl
              obtain ⟨g4, p4⟩ := cellsAt HZC 4 (v := .bool false) rfl
              obtain ⟨g5, p5⟩ := cellsAt HZC 5 (v := .int .i64 0) rfl
              clear HZC
              go_simp
              have d9 : doneB L 8 9 = false := c9
              have d8 : doneB L 8 8 = true := done_same
              refine ⟨undef, rfl, ?_, trivial, fun t e => by cases e⟩
              unfold SD
              simp only [d9, d8, cond_true, cond_false]
              obtain ⟨w1, w2, w3, w4, w5, w6⟩ := hw
              exact ⟨b16, c, A83, m83, d83, A', m', d', h16, f2, f4, w1, w2, w3, w4, w5, w6⟩
            refine EachOp.cons ?_ ?_
            · intro L a u hL hst hS hdep hq hno
              obtain ⟨b17, h17⟩ := hdep 17 (by kernel_rfl)
              obtain ⟨A86, m86, d86, h86⟩ := hdep 86 (by kernel_rfl)
              refine .inl ⟨trivial, ?_⟩
              have g17 := gd h17
              have g86 := gd h86
              have c9 : L 9 = false := hL
              have c8 : L 8 = true := hq 12 8 (by kernel_rfl)
              have hs0 := hS
              unfold SD at hs0
              simp only [c9, c8, cond_true, cond_false] at hs0
              obtain ⟨b, c, A, m, d, A', m', d', f1, f2, f4, w1, w2, w3, w4, w5, w6⟩ := hs0
              have hv17 : Value.pointer (some ⟨b17, 0, none⟩) = ptB c := h17.symm.trans f2
              unfold ptB at hv17
              injection hv17 with e1
              injection e1 with e1
              injection e1 with e1
              subst e1
              obtain ⟨k1, k2, k3⟩ := toX_inj (show toX R.1 A86 m86 d86 = toX R.1 A' m' d' from h86.symm.trans f4)
              subst k1 k2 k3
              obtain ⟨HZC, hw⟩ := SD.put2 (A' := A86) (m' := m86) (d' := d86) w1 w2 w3 w4 w5 w6
              unfold toZ at HZC
              obtain ⟨g0, p0⟩ := cellsAt HZC 0 (v := .int .i64 0) rfl
              obtain ⟨g1, p1⟩ := cellsAt HZC 1 (v := .int .u64 0) rfl
              obtain ⟨g2, p2⟩ := cellsAt HZC 2 (v := .int .u64 0) rfl
              obtain ⟨g3, p3⟩ := cellsAt HZC 3 (v := .slice none 0 0) rfl
              obtain ⟨g4, p4⟩ := cellsAt HZC 4 (v := .bool false) rfl
              obtain ⟨g5, p5⟩ := cellsAt HZC 5 (v := .int .i64 0) rfl
              clear HZC
              go_simp
              have d9 : doneB L 9 9 = true := done_same
              refine ⟨undef, rfl, ?_, trivial, fun t e => by cases e⟩
              unfold SD
              simp only [d9, cond_true]
              obtain ⟨v1, v2, v3⟩ := hw
              exact ⟨b, b17, A, m, d, A86, m86, d86, f1, h17, v1, v2, v3⟩
            exact EachOp.nil
          · intro L a u hLs hst hS hdep
            have h81 : a.tmps.getD 81 undef = .slice (some ⟨ga, 0, none⟩) 3 3 := hdep 81 (by kernel_rfl)
            have h82 : a.tmps.getD 82 undef = .agg #[.int .i64 x.d, .int .i64 x.nd, .int .i64 x.fr, .int .i64 x.c, .int .i64 x.m, .int .u64 x.e, .bool x.rd, .string x.t] := hdep 82 (by kernel_rfl)
            obtain ⟨A83, m83, d83, h83⟩ := hdep 83 (by kernel_rfl)
            have h84 : a.tmps.getD 84 undef = .slice (some ⟨gb, 0, none⟩) 3 3 := hdep 84 (by kernel_rfl)
            have h85 : a.tmps.getD 85 undef = .agg #[.int .i64 x.d, .int .i64 x.nd, .int .i64 x.fr, .int .i64 x.c, .int .i64 x.m, .int .u64 x.e, .bool x.rd, .string x.t] := hdep 85 (by kernel_rfl)
            obtain ⟨A86, m86, d86, h86⟩ := hdep 86 (by kernel_rfl)
            obtain ⟨b16, h16⟩ := hdep 16 (by kernel_rfl)
            obtain ⟨b17, h17⟩ := hdep 17 (by kernel_rfl)
            have hs1 := hS
            unfold SD at hs1
            rw [hLs 9 (by kernel_rfl)] at hs1
            obtain ⟨b, c, A, m, d, A', m', d', f1, f2, hsd, hx, hy⟩ := hs1
            have e16 : Value.pointer (some ⟨b16, 0, none⟩) = ptB b := h16.symm.trans f1
            have e17 : Value.pointer (some ⟨b17, 0, none⟩) = ptB c := h17.symm.trans f2
            clear hS hLs f1 f2
            unfold ptB at e16 e17
            injection e16 with e16
            injection e16 with e16
            injection e16 with e16
            injection e17 with e17
            injection e17 with e17
            injection e17 with e17
            subst e16 e17
            have hfr := hst.frame [(81, .slice (some ⟨ga, 0, none⟩) 3 3), (82, .agg #[.int .i64 x.d, .int .i64 x.nd, .int .i64 x.fr, .int .i64 x.c, .int .i64 x.m, .int .u64 x.e, .bool x.rd, .string x.t]), (83, .agg #[.int .i64 R.1.r.e, .int .u64 R.1.r.ep, .int .u64 R.1.r.pl, .slice A83 m83 d83, .bool R.1.is, .int .i64 R.1.many]), (84, .slice (some ⟨gb, 0, none⟩) 3 3), (85, .agg #[.int .i64 x.d, .int .i64 x.nd, .int .i64 x.fr, .int .i64 x.c, .int .i64 x.m, .int .u64 x.e, .bool x.rd, .string x.t]), (86, .agg #[.int .i64 R.1.r.e, .int .u64 R.1.r.ep, .int .u64 R.1.r.pl, .slice A86 m86 d86, .bool R.1.is, .int .i64 R.1.many]), (16, .pointer (some ⟨b16, 0, none⟩)), (17, .pointer (some ⟨b17, 0, none⟩))] (by kernel_rfl) ⟨h81, h82, h83, h84, h85, h86, h16, h17, trivial⟩
            clear hst hdep h81 h82 h83 h84 h85 h86 h16 h17
            subst hfr
            simp only [List.foldl_cons, List.foldl_nil, List.setIfInBounds_toArray, List.set_cons_zero, List.set_cons_succ]
            have H6 := Lib.hid hsd
            have hts := act_ts ns x
            rw [HR.out] at hts
            have HAL := Lib.hid (ralike15_ok R.1.r A A' m m' d d' u hx hy (by have := hx.len; omega) (by have := hy.len; omega))
            have m16 := hsd.at_ (.tail _ (.head _))
            have m17 := hsd.at_ (.head _)
            unfold toB at m16 m17
            obtain ⟨g0, _⟩ := cellsAt m16 0 (v := .int .i64 R.1.r.e) rfl
            obtain ⟨g1, _⟩ := cellsAt m16 1 (v := .int .u64 R.1.r.ep) rfl
            obtain ⟨g2, _⟩ := cellsAt m16 2 (v := .int .u64 R.1.r.pl) rfl
            obtain ⟨g3, _⟩ := cellsAt m16 3 (v := .slice A m d) rfl
            obtain ⟨h0, _⟩ := cellsAt m17 0 (v := .int .i64 R.1.r.e) rfl
            obtain ⟨h1, _⟩ := cellsAt m17 1 (v := .int .u64 R.1.r.ep) rfl
            obtain ⟨h2, _⟩ := cellsAt m17 2 (v := .int .u64 R.1.r.pl) rfl
            obtain ⟨h3, _⟩ := cellsAt m17 3 (v := .slice A' m' d') rfl
            clear m16 m17 hsd hx hy hts HST HKR
            go_wp2_with fail
            refine HAL.out.mono ?_
            rintro e' u2 ⟨rfl, kb⟩
            have H7 := H6.out.next kb
            have m16 := H7.at_ (.tail _ (.head _))
            have m17 := H7.at_ (.head _)
            unfold toB at m16 m17
            obtain ⟨g4, _⟩ := cellsAt m16 4 (v := .bool R.1.is) rfl
            obtain ⟨g5, _⟩ := cellsAt m16 5 (v := .int .i64 R.1.many) rfl
            obtain ⟨h4, _⟩ := cellsAt m17 4 (v := .bool R.1.is) rfl
            obtain ⟨h5, _⟩ := cellsAt m17 5 (v := .int .i64 R.1.many) rfl
            have H8 := Lib.hid (H7.less (l' := []) (fun _ h => h) (fun _ h => nomatch h) (fun _ h => h) fun _ h => h)
            clear m16 m17 H7 kb H6 HAL g0 g1 g2 g3 h0 h1 h2 h3
            go_wp2_with fail
            go_roundw
            case rel => exact ⟨k + 1, R.2, by omega, by go_num, HIN, H8⟩
            case measure => simp [intOf]; omega
    · have HLO := Lib.hid hD.out.low
      clear hD
      go_wp2_with fail
      go_ret
      exact ⟨rfl, HLO.out⟩
end
end
end Go.Proofs.YtaoegiohnebnhaaGreatDoor
