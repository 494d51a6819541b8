/-
  ProbeDoes, of layer 13: the walk, out of what is asked of the project's plan of probes.
-/
import Derived.Test.YtgneieelfapmcaaPrL
import Derived.Test.YtgneieelfapmcaaReg5
namespace Go.Proofs.Ytgneieelfapmcaa
open Go.RowKit
set_option maxRecDepth 100000

set_option maxHeartbeats 64000000 in
theorem probedoes_walk {X : Nat → Pb → Thing} (C : ProbeC X) (n ev la : Int) (A1 : Option Addr) (l1 c1 : Nat) (ts : List Ac3) (W : World) (hn : I64 n) (hev : U64 ev) (hla : U64 la) (r1 : AP W A1 l1 ts) (hy0 : ∀ x ∈ ts, I64 x.x ∧ U64 x.y) :
    Calls Try.prog 3 #[.int .i64 n, .int .u64 ev, .int .u64 la, .slice A1 l1 c1] W fun e w' => e = .returned (.bool true) ∧ Below W.heap.size W w' := by
  have HC := Lib.hid C
  have HAW := Lib.hid (awake13_ok C W)
  have R1 := Lib.hid r1
  have HN1 := Lib.hid r1.len
  have HY0 := Lib.hid hy0
  clear r1 C hy0
  go_enter Try.func3, Try.ntmps3
  go_wp2_with fail
  refine HAW.out.mono ?_
  rintro e w1 ⟨rfl, k1⟩
  have HK1 := Lib.hid k1
  obtain ⟨bo, hbo⟩ : ∃ x, (!fineA ts) = x := ⟨_, rfl⟩
  have HLG := Lib.hid (llarge_ok A1 l1 c1 ts w1 (R1.out.next k1) bo (Lib.hid hbo))
  have HBO := Lib.hid hbo
  clear HAW k1 hbo
  go_wp2_with fail
  refine HLG.out.mono ?_
  rintro e w2 ⟨rfl, k2⟩
  have HK2 := Lib.hid (HK1.out.trans (k2.mono HK1.out.size))
  clear HLG k2 HK1
  cases bo with
  | true =>
    go_wp2_with fail
    go_ret
    exact ⟨rfl, HK2.out⟩
  | false =>
  obtain ⟨hl200, hfine⟩ := fineA_at.1 (by simpa using HBO.out)
  have HFI := Lib.hid hfine
  have hl2 : l1 ≤ 200 := by rw [← HN1.out]; exact hl200
  clear hl200 hfine
  by_cases hok : newOk13 n ev la
  rotate_left
  · have HB := Lib.hid (HC.out.bad n ev la w2 hn hev hla hok)
    go_wp2_with fail
    refine HB.out.mono ?_
    rintro e w3 ⟨rfl, k3⟩
    have HK3 := Lib.hid (HK2.out.trans (k3.mono HK2.out.size))
    have HB2 := Lib.hid (rnew13_bad n ev la w3 hok)
    clear HB k3 HK2 hok
    go_wp2_with fail
    refine HB2.out.mono ?_
    rintro e w4 ⟨rfl, rfl⟩
    clear HB2
    go_wp2_with fail
    go_ret
    exact ⟨rfl, HK3.out⟩
  have HG := Lib.hid (HC.out.good n ev la w2 hok)
  have HOK := Lib.hid hok
  obtain ⟨m, hm⟩ : ∃ m : Nat, n = m := ⟨n.toNat, by unfold newOk13 at hok; omega⟩
  have HL0 : Hid ((newPb n ev la).l.length = m) := Lib.hid (by simp [newPb, hm])
  have HP0 := Lib.hid (PrI.new hok)
  have hm6 : m ≤ 6 := by unfold newOk13 at hok; omega
  subst hm
  clear hok
  go_wp2_with fail
  refine HG.out.mono ?_
  rintro e w3 ⟨b, rfl, ⟨S3, x3, y3⟩, k3⟩
  have HS3 : Hid (Solo W (X b (newPb m ev la)) noneB w3) := Lib.hid (Solo.make HK2.out x3 y3 k3)
  have HG2 := Lib.hid (rnew13_good m ev la w3 HOK.out)
  clear HG x3 y3 k3 HK2
  go_wp2_with fail
  refine HG2.out.mono ?_
  rintro e w4 ⟨r, rfl, ⟨T4, x4, y4⟩, k4⟩
  have HD4 : Hid (Duo W (X b (newPb m ev la)) (RPb r (newPb m ev la)) noneB w4) := Lib.hid (HS3.out.duo x4 y4 k4)
  have HKR : Hid (∀ (i : Nat) (u : World), KeepT i u u) := Lib.hid fun _ _ => trivial
  clear HG2 x4 y4 k4 HS3 HOK
  go_wp2_with fail
  go_loopw [13, 54] (fun nv i wr => ∃ (k : Nat) (now : Int) (p : Pb), k ≤ l1 ∧ i = .int .i64 k ∧ nv = .int .u64 now ∧ 0 ≤ now ∧ now ≤ (k : Int) * 1048576 ∧ Hid (PrI now k p) ∧ Hid (p.l.length = m) ∧ Hid (Duo W (X b p) (RPb r p) noneB wr)) (fun _ i _ => l1 - (intOf i).toNat)
  case atStart => exact ⟨0, 0, _, Nat.zero_le _, rfl, rfl, Int.le_refl _, by omega, HP0, HL0, HD4⟩
  case round =>
    obtain ⟨k, now, p, hk, rfl, rfl, hn0, hnk, HP, HLP, hD⟩ := hrel
    clear HP0 HL0 HD4
    by_cases hlt : k < l1
    · have hkl : k < ts.length := by rw [HN1.out]; exact hlt
      obtain ⟨ad, rfl, _, hcc⟩ := R1.out.at_ hkl
      obtain ⟨x0, x1, x2⟩ := hcc wr hD.out.low
      have hfi := HFI.out k hkl
      obtain ⟨htx, hty0⟩ := HY0.out ts[k] (List.getElem_mem hkl)
      have hty := hty0.1
      clear hcc
      generalize ts[k] = t at *
      have HTX := Lib.hid htx
      have HTY := Lib.hid hty0
      clear htx hty0
      have hDX := hD.out.mark (.cells #[.int .i64 t.d, .int .i64 t.x, .int .u64 t.y] 34)
      have hba := heap_alloc_new wr (.cells #[.int .i64 t.d, .int .i64 t.x, .int .u64 t.y] 34)
      obtain ⟨wx, hwx⟩ : ∃ u, wr.alloc (.cells #[.int .i64 t.d, .int .i64 t.x, .int .u64 t.y] 34) = u := ⟨_, rfl⟩
      rw [hwx] at hDX hba
      obtain ⟨xb, hX⟩ : ∃ X, X = wr.heap.size := ⟨_, rfl⟩
      rw [← hX] at hDX hba
      have HX := Lib.hid hX
      have HWX := Lib.hid hwx
      have HXA := Lib.hid hba
      have HDX := Lib.hid hDX
      clear hDX hba hwx hD hX
      by_cases hd0 : t.d = 0
      · have hd0' : (t.d == 0) = true := by simpa using hd0
        have hle : t.y ≤ 1048576 := by have := fun h => hfi ⟨hd0, h⟩; omega
        have hw : IntKind.u64.wrap (now + t.y) = now + t.y := by rw [IntKind.wrap_u64]; omega
        have HT := Lib.hid (HDX.out.tickl HC.out HP.out (now := now + t.y) (by omega) (by omega) (by omega))
        have HTA := Lib.hid (tickA_length HP.out (now + t.y))
        have HTL := Lib.hid (tickL_length HP.out (now + t.y))
        clear hd0 hfi
        go_wp2_with fail
        rw [HWX.out, ← HX.out]
        refine HT.out.mono ?_
        rintro e w5 ⟨A, n5, c5, B, m5, d5, rfl, ha, hb, hd5, hN5, hz5⟩
        have hxa5 := (hN5 xb (.inl rfl)).trans HXA.out
        have HQ := Lib.hid (hd5.right fun T hT => (rtick_pri hT HP.out (now := now + t.y) (by omega) (by omega) (by omega)).mono fun _ _ ⟨h, ht⟩ => (⟨⟨h, ht.off.size⟩, ht⟩ : (_ ∧ w5.heap.size ≤ _) ∧ _))
        have HA5 := Lib.hid ha
        have HB5 := Lib.hid hb
        have HX5 := Lib.hid hxa5
        clear HT ha hb hN5 hz5 hxa5 HWX HX HXA HDX
        go_wp2_with fail
        refine HQ.out.mono ?_
        rintro e w6 ⟨⟨⟨A6, n6, c6, B6, m6, d6, rfl, ha6, hb6⟩, hz6⟩, hd6, hN6⟩
        have HA := Lib.hid (HA5.out.kept hz6 fun k hk => hN6 k (.inl (.inl hk)))
        have HB := Lib.hid (HB5.out.kept13 hz6 fun k hk => hN6 k (.inl (.inr hk)))
        have HX6 := Lib.hid ((hN6 xb (.inr (.inl rfl))).trans HX5.out)
        have HA6 := Lib.hid ha6
        have HB6 := Lib.hid hb6
        have HD6 : Hid (Duo W (X b (tickC p (now + t.y))) (RPb r (tickC p (now + t.y))) noneB w6) := Lib.hid (hd6.less fun _ h => h.elim)
        have hn5 : n5 ≤ 6 := by rw [← HA.out.len]; exact HTA.out
        have hn6 : n6 ≤ 6 := by rw [← ha6.len]; exact HTA.out
        have hm5 : m5 ≤ 6 := by rw [← HB.out.len]; exact HTL.out
        have hm6 : m6 ≤ 6 := by rw [← hb6.len]; exact HTL.out
        have HQ2 := Lib.hid (lasks_ok A n5 c5 _ w6 HA.out (by omega))
        clear HQ HA5 HB5 HX5 ha6 hb6 hd6 hN6 hz6 hd5 HTA HTL HA
        go_wp2_with fail
        refine HQ2.out.mono ?_
        rintro e w7 ⟨D7, g7, rfl, o7, k7⟩
        have HD7 := Lib.hid (HD6.out.next k7)
        have HX7 := Lib.hid ((k7.block xb (Array.getElem?_eq_some_iff.1 HX6.out).1).trans HX6.out)
        have HS7 := Lib.hid (rasks_ok D7 A6 n5 n6 g7 c6 _ _ w7 (AK.of_own o7) (HA6.out.next k7) (by omega) (by omega) true (Lib.hid (by simp)))
        have HB := Lib.hid (HB.out.next k7)
        have HB6 := Lib.hid (HB6.out.next k7)
        clear HQ2 HD6 HX6 HA6 o7 k7
        go_wp2_with fail
        refine HS7.out.mono ?_
        rintro e w8 ⟨rfl, k8⟩
        have HD8 := Lib.hid (HD7.out.next k8)
        have HX8 := Lib.hid ((k8.block xb (Array.getElem?_eq_some_iff.1 HX7.out).1).trans HX7.out)
        have HS8 := Lib.hid (rsame11_ok B B6 m5 m6 d5 d6 _ _ w8 (HB.out.next k8) (HB6.out.next k8) (by omega) (by omega) true (Lib.hid (by simp)))
        clear HS7 HD7 HX7 HB HB6 k8
        go_wp2_with fail
        refine HS8.out.mono ?_
        rintro e w9 ⟨rfl, q9, hq9⟩
        have k9 : Below w8.heap.size w8 w9 := hq9 ▸ kp_drewN w8 q9
        have HDY0 := HD8.out.next k9
        have HXY := Lib.hid ((k9.block xb (Array.getElem?_eq_some_iff.1 HX8.out).1).trans HX8.out)
        have HP40 := HP.out.tick (now := now + t.y) (by omega)
        have HL40 := (tickC_length p (now + t.y)).trans HLP.out
        clear HS8 HD8 HX8 k9 hq9
        obtain ⟨p4, hp4⟩ : ∃ y, tickC p (now + t.y) = y := ⟨_, rfl⟩
        rw [hp4] at HDY0 HP40 HL40
        have HDY := Lib.hid HDY0
        have HP4 := Lib.hid HP40
        have HL4 := Lib.hid HL40
        clear HDY0 HP40 HL40 hp4 HP HLP
        go_wp2_with fail
        go_loopw [122] (fun i wi => ∃ j : Nat, j ≤ m ∧ i = .int .i64 j ∧ Hid (Duo W (X b p4) (RPb r p4) noneB wi) ∧ Hid (wi.heap[xb]? = some (.cells #[.int .i64 t.d, .int .i64 t.x, .int .u64 t.y] 34))) (fun i _ => m - (intOf i).toNat)
        case atStart => exact ⟨0, Nat.zero_le _, rfl, HDY, HXY⟩
        case round =>
          obtain ⟨i, hi, rfl, hd, hxc⟩ := hrel
          clear HDY HXY
          by_cases hlt : i < m
          · have hil : i < p4.l.length := by rw [HL4.out]; exact hlt
            have hii : (i : Int) < (m : Int) := by omega
            obtain ⟨SS, TT, hs1, ⟨q, hs2⟩, _⟩ := hd.out.at_
            obtain ⟨no, hno⟩ : ∃ x, p4.l[i].o = x := ⟨_, rfl⟩
            obtain ⟨nd, hnd⟩ : ∃ x, p4.l[i].d = x := ⟨_, rfl⟩
            have ho1 : outP p4 (i : Int) = no := (outP_at (i := (i : Int)) (by omega) (by simpa using hil)).trans hno
            have hd1 : dueP p4 (i : Int) = nd := (dueP_at (i := (i : Int)) (by omega) (by simpa using hil)).trans hnd
            have HOU : Hid (∀ u, Below wr.heap.size wr u → Calls Try.prog 17 #[.pointer (some ⟨b, 0, none⟩), .int .i64 i] u fun e w' => e = .returned (.int .u64 no) ∧ Below u.heap.size u w') := Lib.hid fun u hu => ho1 ▸ HC.out.out b p4 _ _ i SS u (Thing.next hs1 hu) HP4.out ⟨by omega, by omega⟩
            have HDU : Hid (∀ u, Below wr.heap.size wr u → Calls Try.prog 18 #[.pointer (some ⟨b, 0, none⟩), .int .i64 i] u fun e w' => e = .returned (.int .u64 nd) ∧ Below u.heap.size u w') := Lib.hid fun u hu => hd1 ▸ HC.out.due b p4 _ _ i SS u (Thing.next hs1 hu) HP4.out ⟨by omega, by omega⟩
            have HRX : Hid (∀ u, Below wr.heap.size wr u → u.cell? ⟨r, 0, none⟩ = some (.slice (some ⟨q.gd, 0, none⟩) m q.cd) ∧ u.cell? ⟨r, 1, none⟩ = some (.slice (some ⟨q.go, 0, none⟩) m q.co) ∧ u.cell? ⟨q.go, i, none⟩ = some (.int .u64 no) ∧ u.cell? ⟨q.gd, i, none⟩ = some (.int .u64 nd)) := Lib.hid fun u hu => by
              have h2 := hs2.next hu
              obtain ⟨t0, t1, _⟩ := h2.tops
              have y1 := (h2.oat (j := i) (by simpa using hil)).1
              have y2 := (h2.dat (j := i) (by simpa using hil)).1
              rw [List.getElem_map, hno] at y1
              rw [List.getElem_map, hnd] at y2
              rw [HL4.out] at t0 t1
              exact ⟨t0, t1, y1, y2⟩
            clear hs1 hs2 hno hnd ho1 hd1
            go_wp2_with fail
            refine wp_region_specs (S := fun u => Below wr.heap.size wr u) (Sp := [(125, Stb.eq (.pointer (some ⟨b, 0, none⟩))), (126, Stb.eq (.int .i64 i)), (127, Stb.eq (.int .u64 no)), (128, Stb.eq (.pointer (some ⟨r, 0, none⟩))), (129, Stb.eq (.pointer (some ⟨r, 0, none⟩))), (130, Stb.eq (.pointer (some ⟨r, 1, none⟩))), (131, Stb.eq (.slice (some ⟨q.go, 0, none⟩) m q.co)), (132, Stb.eq (.int .i64 i)), (133, Stb.eq (.pointer (some ⟨q.go, i, none⟩))), (134, Stb.eq (.int .u64 no)), (135, Stb.eq (.bool false)), (136, Stb.eq (.bool false)), (137, Stb.eq (.pointer (some ⟨b, 0, none⟩))), (138, Stb.eq (.int .i64 i)), (139, Stb.eq (.int .u64 nd)), (140, Stb.eq (.pointer (some ⟨r, 0, none⟩))), (141, Stb.eq (.pointer (some ⟨r, 0, none⟩))), (142, Stb.eq (.pointer (some ⟨r, 0, none⟩))), (143, Stb.eq (.slice (some ⟨q.gd, 0, none⟩) m q.cd)), (144, Stb.eq (.int .i64 i)), (145, Stb.eq (.pointer (some ⟨q.gd, i, none⟩))), (146, Stb.eq (.int .u64 nd)), (147, Stb.eq (.bool false)), (148, Stb.eq (.bool false))]) (by kernel_rfl) (by kernel_rfl) (kp_drewN _ 1) ?_ ?_
            · refine EachOp.cons ?_ ?_
              · intro a u hst hS hdep
                have h9 : a.tmps.getD 9 undef = .pointer (some ⟨b, 0, none⟩) := hst.out 9 (by kernel_rfl)
                refine ⟨trivial, ?_⟩
                have g9 := gd h9
                go_simp
                exact Goes.same hS rfl
              refine EachOp.cons ?_ ?_
              · intro a u hst hS hdep
                have h21 : a.tmps.getD 21 undef = .int .i64 i := hst.out 21 (by kernel_rfl)
                refine ⟨trivial, ?_⟩
                have g21 := gd h21
                go_simp
                exact Goes.same hS rfl
              refine EachOp.cons ?_ ?_
              · intro a u hst hS hdep
                have h125 : a.tmps.getD 125 undef = .pointer (some ⟨b, 0, none⟩) := hdep 125 (by kernel_rfl)
                have h126 : a.tmps.getD 126 undef = .int .i64 i := hdep 126 (by kernel_rfl)
                refine ⟨trivial, ?_⟩
                have g125 := gd h125
                have g126 := gd h126
                go_simp
                refine (HOU.out u hS).mono ?_
                rintro e u' ⟨rfl, hb'⟩
                exact Goes.next (kp_trans hS hb') hb' rfl
              refine EachOp.cons ?_ ?_
              · intro a u hst hS hdep
                have h11 : a.tmps.getD 11 undef = .pointer (some ⟨r, 0, none⟩) := hst.out 11 (by kernel_rfl)
                refine ⟨trivial, ?_⟩
                have g11 := gd h11
                go_simp
                exact Goes.same hS rfl
              refine EachOp.cons ?_ ?_
              · intro a u hst hS hdep
                have h128 : a.tmps.getD 128 undef = .pointer (some ⟨r, 0, none⟩) := hdep 128 (by kernel_rfl)
                refine ⟨trivial, ?_⟩
                have g128 := gd h128
                go_simp
                exact Goes.same hS rfl
              refine EachOp.cons ?_ ?_
              · intro a u hst hS hdep
                have h129 : a.tmps.getD 129 undef = .pointer (some ⟨r, 0, none⟩) := hdep 129 (by kernel_rfl)
                refine ⟨trivial, ?_⟩
                have g129 := gd h129
                go_simp
                exact Goes.same hS rfl
              refine EachOp.cons ?_ ?_
              · intro a u hst hS hdep
                have h130 : a.tmps.getD 130 undef = .pointer (some ⟨r, 1, none⟩) := hdep 130 (by kernel_rfl)
                refine ⟨trivial, ?_⟩
                have g130 := gd h130
                obtain ⟨g0, g1, _, _⟩ := HRX.out u hS
                go_simp
                exact Goes.same hS rfl
              refine EachOp.cons ?_ ?_
              · intro a u hst hS hdep
                have h21 : a.tmps.getD 21 undef = .int .i64 i := hst.out 21 (by kernel_rfl)
                refine ⟨trivial, ?_⟩
                have g21 := gd h21
                go_simp
                exact Goes.same hS rfl
              refine EachOp.cons ?_ ?_
              · intro a u hst hS hdep
                have h131 : a.tmps.getD 131 undef = .slice (some ⟨q.go, 0, none⟩) m q.co := hdep 131 (by kernel_rfl)
                have h132 : a.tmps.getD 132 undef = .int .i64 i := hdep 132 (by kernel_rfl)
                refine ⟨trivial, ?_⟩
                have g131 := gd h131
                have g132 := gd h132
                have hi0 : (0 : Int) ≤ (i : Int) := by omega
                have hi1 : (i : Int) < (m : Int) := by omega
                go_simp
                exact Goes.same hS rfl
              refine EachOp.cons ?_ ?_
              · intro a u hst hS hdep
                have h133 : a.tmps.getD 133 undef = .pointer (some ⟨q.go, i, none⟩) := hdep 133 (by kernel_rfl)
                refine ⟨trivial, ?_⟩
                have g133 := gd h133
                obtain ⟨_, _, g2, _⟩ := HRX.out u hS
                go_simp
                exact Goes.same hS rfl
              refine EachOp.cons ?_ ?_
              · intro a u hst hS hdep
                have h127 : a.tmps.getD 127 undef = .int .u64 no := hdep 127 (by kernel_rfl)
                have h134 : a.tmps.getD 134 undef = .int .u64 no := hdep 134 (by kernel_rfl)
                refine ⟨trivial, ?_⟩
                have g127 := gd h127
                have g134 := gd h134
                go_simp
                exact Goes.same hS rfl
              refine EachOp.cons ?_ ?_
              · intro a u hst hS hdep
                have h135 : a.tmps.getD 135 undef = .bool false := hdep 135 (by kernel_rfl)
                refine ⟨trivial, ?_⟩
                have g135 := gd h135
                go_simp
                exact Goes.same hS rfl
              refine EachOp.cons ?_ ?_
              · intro a u hst hS hdep
                have h9 : a.tmps.getD 9 undef = .pointer (some ⟨b, 0, none⟩) := hst.out 9 (by kernel_rfl)
                have h136 : a.tmps.getD 136 undef = .bool false := hdep 136 (by kernel_rfl)
                refine ⟨⟨136, by kernel_rfl, h136⟩, ?_⟩
                clear h136
                have g9 := gd h9
                go_simp
                exact Goes.same hS rfl
              refine EachOp.cons ?_ ?_
              · intro a u hst hS hdep
                have h21 : a.tmps.getD 21 undef = .int .i64 i := hst.out 21 (by kernel_rfl)
                have h136 : a.tmps.getD 136 undef = .bool false := hdep 136 (by kernel_rfl)
                refine ⟨⟨136, by kernel_rfl, h136⟩, ?_⟩
                clear h136
                have g21 := gd h21
                go_simp
                exact Goes.same hS rfl
              refine EachOp.cons ?_ ?_
              · intro a u hst hS hdep
                have h137 : a.tmps.getD 137 undef = .pointer (some ⟨b, 0, none⟩) := hdep 137 (by kernel_rfl)
                have h138 : a.tmps.getD 138 undef = .int .i64 i := hdep 138 (by kernel_rfl)
                have h136 : a.tmps.getD 136 undef = .bool false := hdep 136 (by kernel_rfl)
                refine ⟨⟨136, by kernel_rfl, h136⟩, ?_⟩
                clear h136
                have g137 := gd h137
                have g138 := gd h138
                go_simp
                refine (HDU.out u hS).mono ?_
                rintro e u' ⟨rfl, hb'⟩
                exact Goes.next (kp_trans hS hb') hb' rfl
              refine EachOp.cons ?_ ?_
              · intro a u hst hS hdep
                have h11 : a.tmps.getD 11 undef = .pointer (some ⟨r, 0, none⟩) := hst.out 11 (by kernel_rfl)
                have h136 : a.tmps.getD 136 undef = .bool false := hdep 136 (by kernel_rfl)
                refine ⟨⟨136, by kernel_rfl, h136⟩, ?_⟩
                clear h136
                have g11 := gd h11
                go_simp
                exact Goes.same hS rfl
              refine EachOp.cons ?_ ?_
              · intro a u hst hS hdep
                have h140 : a.tmps.getD 140 undef = .pointer (some ⟨r, 0, none⟩) := hdep 140 (by kernel_rfl)
                have h136 : a.tmps.getD 136 undef = .bool false := hdep 136 (by kernel_rfl)
                refine ⟨⟨136, by kernel_rfl, h136⟩, ?_⟩
                clear h136
                have g140 := gd h140
                go_simp
                exact Goes.same hS rfl
              refine EachOp.cons ?_ ?_
              · intro a u hst hS hdep
                have h141 : a.tmps.getD 141 undef = .pointer (some ⟨r, 0, none⟩) := hdep 141 (by kernel_rfl)
                have h136 : a.tmps.getD 136 undef = .bool false := hdep 136 (by kernel_rfl)
                refine ⟨⟨136, by kernel_rfl, h136⟩, ?_⟩
                clear h136
                have g141 := gd h141
                go_simp
                exact Goes.same hS rfl
              refine EachOp.cons ?_ ?_
              · intro a u hst hS hdep
                have h142 : a.tmps.getD 142 undef = .pointer (some ⟨r, 0, none⟩) := hdep 142 (by kernel_rfl)
                have h136 : a.tmps.getD 136 undef = .bool false := hdep 136 (by kernel_rfl)
                refine ⟨⟨136, by kernel_rfl, h136⟩, ?_⟩
                clear h136
                have g142 := gd h142
                obtain ⟨g0, g1, _, _⟩ := HRX.out u hS
                go_simp
                exact Goes.same hS rfl
              refine EachOp.cons ?_ ?_
              · intro a u hst hS hdep
                have h21 : a.tmps.getD 21 undef = .int .i64 i := hst.out 21 (by kernel_rfl)
                have h136 : a.tmps.getD 136 undef = .bool false := hdep 136 (by kernel_rfl)
                refine ⟨⟨136, by kernel_rfl, h136⟩, ?_⟩
                clear h136
                have g21 := gd h21
                go_simp
                exact Goes.same hS rfl
              refine EachOp.cons ?_ ?_
              · intro a u hst hS hdep
                have h143 : a.tmps.getD 143 undef = .slice (some ⟨q.gd, 0, none⟩) m q.cd := hdep 143 (by kernel_rfl)
                have h144 : a.tmps.getD 144 undef = .int .i64 i := hdep 144 (by kernel_rfl)
                have h136 : a.tmps.getD 136 undef = .bool false := hdep 136 (by kernel_rfl)
                refine ⟨⟨136, by kernel_rfl, h136⟩, ?_⟩
                clear h136
                have g143 := gd h143
                have g144 := gd h144
                have hi0 : (0 : Int) ≤ (i : Int) := by omega
                have hi1 : (i : Int) < (m : Int) := by omega
                go_simp
                exact Goes.same hS rfl
              refine EachOp.cons ?_ ?_
              · intro a u hst hS hdep
                have h145 : a.tmps.getD 145 undef = .pointer (some ⟨q.gd, i, none⟩) := hdep 145 (by kernel_rfl)
                have h136 : a.tmps.getD 136 undef = .bool false := hdep 136 (by kernel_rfl)
                refine ⟨⟨136, by kernel_rfl, h136⟩, ?_⟩
                clear h136
                have g145 := gd h145
                obtain ⟨_, _, _, g3⟩ := HRX.out u hS
                go_simp
                exact Goes.same hS rfl
              refine EachOp.cons ?_ ?_
              · intro a u hst hS hdep
                have h139 : a.tmps.getD 139 undef = .int .u64 nd := hdep 139 (by kernel_rfl)
                have h146 : a.tmps.getD 146 undef = .int .u64 nd := hdep 146 (by kernel_rfl)
                have h136 : a.tmps.getD 136 undef = .bool false := hdep 136 (by kernel_rfl)
                refine ⟨⟨136, by kernel_rfl, h136⟩, ?_⟩
                clear h136
                have g139 := gd h139
                have g146 := gd h146
                go_simp
                exact Goes.same hS rfl
              refine EachOp.cons ?_ ?_
              · intro a u hst hS hdep
                have h136 : a.tmps.getD 136 undef = .bool false := hdep 136 (by kernel_rfl)
                have h147 : a.tmps.getD 147 undef = .bool false := hdep 147 (by kernel_rfl)
                refine ⟨trivial, ?_⟩
                have g136 := gd h136
                have g147 := gd h147
                go_simp
                exact Goes.same hS rfl
              exact EachOp.nil
            · intro a u hst hS hdep
              have h125 : a.tmps.getD 125 undef = .pointer (some ⟨b, 0, none⟩) := hdep 125 (by kernel_rfl)
              have h126 : a.tmps.getD 126 undef = .int .i64 i := hdep 126 (by kernel_rfl)
              have h127 : a.tmps.getD 127 undef = .int .u64 no := hdep 127 (by kernel_rfl)
              have h128 : a.tmps.getD 128 undef = .pointer (some ⟨r, 0, none⟩) := hdep 128 (by kernel_rfl)
              have h129 : a.tmps.getD 129 undef = .pointer (some ⟨r, 0, none⟩) := hdep 129 (by kernel_rfl)
              have h130 : a.tmps.getD 130 undef = .pointer (some ⟨r, 1, none⟩) := hdep 130 (by kernel_rfl)
              have h131 : a.tmps.getD 131 undef = .slice (some ⟨q.go, 0, none⟩) m q.co := hdep 131 (by kernel_rfl)
              have h132 : a.tmps.getD 132 undef = .int .i64 i := hdep 132 (by kernel_rfl)
              have h133 : a.tmps.getD 133 undef = .pointer (some ⟨q.go, i, none⟩) := hdep 133 (by kernel_rfl)
              have h134 : a.tmps.getD 134 undef = .int .u64 no := hdep 134 (by kernel_rfl)
              have h135 : a.tmps.getD 135 undef = .bool false := hdep 135 (by kernel_rfl)
              have h136 : a.tmps.getD 136 undef = .bool false := hdep 136 (by kernel_rfl)
              have h137 : a.tmps.getD 137 undef = .pointer (some ⟨b, 0, none⟩) := hdep 137 (by kernel_rfl)
              have h138 : a.tmps.getD 138 undef = .int .i64 i := hdep 138 (by kernel_rfl)
              have h139 : a.tmps.getD 139 undef = .int .u64 nd := hdep 139 (by kernel_rfl)
              have h140 : a.tmps.getD 140 undef = .pointer (some ⟨r, 0, none⟩) := hdep 140 (by kernel_rfl)
              have h141 : a.tmps.getD 141 undef = .pointer (some ⟨r, 0, none⟩) := hdep 141 (by kernel_rfl)
              have h142 : a.tmps.getD 142 undef = .pointer (some ⟨r, 0, none⟩) := hdep 142 (by kernel_rfl)
              have h143 : a.tmps.getD 143 undef = .slice (some ⟨q.gd, 0, none⟩) m q.cd := hdep 143 (by kernel_rfl)
              have h144 : a.tmps.getD 144 undef = .int .i64 i := hdep 144 (by kernel_rfl)
              have h145 : a.tmps.getD 145 undef = .pointer (some ⟨q.gd, i, none⟩) := hdep 145 (by kernel_rfl)
              have h146 : a.tmps.getD 146 undef = .int .u64 nd := hdep 146 (by kernel_rfl)
              have h147 : a.tmps.getD 147 undef = .bool false := hdep 147 (by kernel_rfl)
              have h148 : a.tmps.getD 148 undef = .bool false := hdep 148 (by kernel_rfl)
              have hfr := hst.frame [(125, .pointer (some ⟨b, 0, none⟩)), (126, .int .i64 i), (127, .int .u64 no), (128, .pointer (some ⟨r, 0, none⟩)), (129, .pointer (some ⟨r, 0, none⟩)), (130, .pointer (some ⟨r, 1, none⟩)), (131, .slice (some ⟨q.go, 0, none⟩) m q.co), (132, .int .i64 i), (133, .pointer (some ⟨q.go, i, none⟩)), (134, .int .u64 no), (135, .bool false), (136, .bool false), (137, .pointer (some ⟨b, 0, none⟩)), (138, .int .i64 i), (139, .int .u64 nd), (140, .pointer (some ⟨r, 0, none⟩)), (141, .pointer (some ⟨r, 0, none⟩)), (142, .pointer (some ⟨r, 0, none⟩)), (143, .slice (some ⟨q.gd, 0, none⟩) m q.cd), (144, .int .i64 i), (145, .pointer (some ⟨q.gd, i, none⟩)), (146, .int .u64 nd), (147, .bool false), (148, .bool false)] (by kernel_rfl) ⟨h125, h126, h127, h128, h129, h130, h131, h132, h133, h134, h135, h136, h137, h138, h139, h140, h141, h142, h143, h144, h145, h146, h147, h148, trivial⟩
              clear hst hdep h125 h126 h127 h128 h129 h130 h131 h132 h133 h134 h135 h136 h137 h138 h139 h140 h141 h142 h143 h144 h145 h146 h147 h148
              subst hfr
              simp only [List.foldl_cons, List.foldl_nil, List.setIfInBounds_toArray, List.set_cons_zero, List.set_cons_succ]
              have HDZ := Lib.hid (hd.out.next hS)
              have HXZ := Lib.hid ((hS.block xb (Array.getElem?_eq_some_iff.1 hxc.out).1).trans hxc.out)
              clear hS HRX HOU HDU hd hxc
              go_wp2_with fail
              go_roundw
              case rel => exact ⟨i + 1, Nat.succ_le_of_lt hlt, by go_num, HDZ, HXZ⟩
              case measure => simp [intOf]; omega
          · obtain rfl : i = m := by omega
            have HX4 := Lib.hid hxc.out
            have hxz : wr.heap[xb]? = some (.cells #[.int .i64 t.d, .int .i64 t.x, .int .u64 t.y] 34) := hxc.out
            obtain ⟨x0, _⟩ := cellsAt hxz 0 (v := .int .i64 t.d) rfl
            obtain ⟨x1, _⟩ := cellsAt hxz 1 (v := .int .i64 t.x) rfl
            have HDZ := hd
            clear hxz hxc hd
            by_cases hin : 0 ≤ t.x ∧ t.x < (i : Int)
            · have e1 : ¬ t.x < 0 := by omega
              have e2 : ¬ (i : Int) ≤ t.x := by omega
              clear hin
              go_wp2_with fail
              go_roundw
              case rel => exact ⟨k + 1, (now + t.y), p4, by omega, by go_num, by go_num, by omega, by omega, HP4, HL4, HDZ⟩
              case measure => simp [intOf]; omega
            · have ho0 : outP p4 t.x = 0 := outP_no (by rw [HL4.out]; exact hin)
              have hd0 : dueP p4 t.x = 0 := dueP_no (by rw [HL4.out]; exact hin)
              obtain ⟨SS, TT, hs1, _⟩ := HDZ.out.at_
              have HO := HC.out.out b p4 _ _ t.x SS wr hs1 HP4.out HTX.out
              rw [ho0] at HO
              have HO := Lib.hid HO
              have HD0 := Lib.hid hd0
              clear hs1 hd0
              by_cases e1 : t.x < 0
              · clear hin ho0
                go_wp2_with fail
                refine HO.out.mono ?_
                rintro e w8 ⟨rfl, k8⟩
                have HD8 := Lib.hid (HDZ.out.next k8)
                have hx8 := (k8.block xb (Array.getElem?_eq_some_iff.1 HX4.out).1).trans HX4.out
                obtain ⟨x1, _⟩ := cellsAt hx8 1 (v := .int .i64 t.x) rfl
                obtain ⟨SS8, TT8, hs8, _⟩ := HD8.out.at_
                have HO2 := HC.out.due b p4 _ _ t.x SS8 w8 hs8 HP4.out HTX.out
                rw [HD0.out] at HO2
                have HO2 := Lib.hid HO2
                clear HO HDZ k8 hx8 hs8 x0
                go_wp2_with fail
                refine HO2.out.mono ?_
                rintro e w9 ⟨rfl, k9⟩
                have HD9 := Lib.hid (HD8.out.next k9)
                clear HO2 HD8 k9 x1
                go_wp2_with fail
                go_roundw
                case rel => exact ⟨k + 1, (now + t.y), p4, by omega, by go_num, by go_num, by omega, by omega, HP4, HL4, HD9⟩
                case measure => simp [intOf]; omega
              · have e2 : (i : Int) ≤ t.x := by omega
                clear hin ho0
                go_wp2_with fail
                refine HO.out.mono ?_
                rintro e w8 ⟨rfl, k8⟩
                have HD8 := Lib.hid (HDZ.out.next k8)
                have hx8 := (k8.block xb (Array.getElem?_eq_some_iff.1 HX4.out).1).trans HX4.out
                obtain ⟨x1, _⟩ := cellsAt hx8 1 (v := .int .i64 t.x) rfl
                obtain ⟨SS8, TT8, hs8, _⟩ := HD8.out.at_
                have HO2 := HC.out.due b p4 _ _ t.x SS8 w8 hs8 HP4.out HTX.out
                rw [HD0.out] at HO2
                have HO2 := Lib.hid HO2
                clear HO HDZ k8 hx8 hs8 x0
                go_wp2_with fail
                refine HO2.out.mono ?_
                rintro e w9 ⟨rfl, k9⟩
                have HD9 := Lib.hid (HD8.out.next k9)
                clear HO2 HD8 k9 x1
                go_wp2_with fail
                go_roundw
                case rel => exact ⟨k + 1, (now + t.y), p4, by omega, by go_num, by go_num, by omega, by omega, HP4, HL4, HD9⟩
                case measure => simp [intOf]; omega
      · have hd0' : (t.d == 0) = false := by simpa using hd0
        by_cases hd1 : t.d = 1
        · have hd1' : (t.d == 1) = true := by simpa using hd1
          clear hd0 hd1 hfi
          obtain ⟨p4, hp4⟩ : ∃ y, ansC p t.x t.y = y := ⟨_, rfl⟩
          obtain ⟨av, hav⟩ : ∃ y, ansB p t.x t.y = y := ⟨_, rfl⟩
          have HP40 := (HP.out.ans t.x t.y).more (Nat.le_succ k)
          have HL40 := (ansC_length p t.x t.y).trans HLP.out
          rw [hp4] at HP40 HL40
          have HP4 := Lib.hid HP40
          have HL4 := Lib.hid HL40
          have HP4E := Lib.hid hp4
          have HAV := Lib.hid hav
          obtain ⟨S, T, h1, h2, h3, h4⟩ := HDX.out.at_
          have HSN := Lib.hid h4
          have HNN : Hid (∀ k, (k = xb ∨ noneB k) → k < wx.heap.size) := Lib.hid HDX.out.nlt
          have HXN : Hid (xb < wx.drew.heap.size ∧ ¬ (S xb ∨ T xb)) := Lib.hid ⟨HDX.out.nlt xb (.inl rfl), fun h => (h4 xb h).2 (.inl rfl)⟩
          have HZ : Hid (W.heap.size ≤ wx.heap.size) := Lib.hid HDX.out.low.size
          have HKX : Hid (Below W.heap.size W wx.drew) := Lib.hid HDX.out.low.drew
          have HST : Hid (MidA S T wx.heap.size (X b p) (X b p4) (RPb r p) (RPb r p4) wx.drew false false wx.drew) := Lib.hid (MidA.start (Thing.drew h1) (Thing.drew h2) h3 (Nat.le_refl _))
          clear HP40 HL40 hp4 hav h1 h2 h3 h4 HLP HDX
          go_wp2_with fail
          rw [HWX.out, ← HX.out]
          clear HWX HX
          refine wp_region_specs5 (S := fun L u => MidA S T wx.heap.size (X b p) (X b p4) (RPb r p) (RPb r p4) wx.drew (L 5) (L 11) u) (Kp := KeepT) (Sp := [(108, Sti.eq (.pointer (some ⟨b, 0, none⟩))), (109, Sti.eq (.pointer (some ⟨xb, 1, none⟩))), (110, Sti.eq (.int .i64 t.x)), (111, Sti.eq (.pointer (some ⟨xb, 2, none⟩))), (112, Sti.eq (.int .u64 t.y)), (113, Sti.eq (.bool av)), (114, Sti.eq (.pointer (some ⟨r, 0, none⟩))), (115, Sti.eq (.pointer (some ⟨xb, 1, none⟩))), (116, Sti.eq (.int .i64 t.x)), (117, Sti.eq (.pointer (some ⟨xb, 2, none⟩))), (118, Sti.eq (.int .u64 t.y)), (119, Sti.eq (.bool av)), (120, Sti.eq (.bool false))]) (by kernel_rfl) (by kernel_rfl) (by kernel_rfl) (HST.out) ?_ ?_
          · refine EachOp.cons ?_ ?_
            · intro L a u hL hst hS hdep hq
              have h9 : a.tmps.getD 9 undef = .pointer (some ⟨b, 0, none⟩) := hst.out 9 (by kernel_rfl)
              refine .inl ⟨trivial, ?_⟩
              have g9 := gd h9
              go_simp
              exact Went4.same (HKR.out _ _) hS rfl
            refine EachOp.cons ?_ ?_
            · intro L a u hL hst hS hdep hq
              have h15 : a.tmps.getD 15 undef = .pointer (some ⟨xb, 0, none⟩) := hst.out 15 (by kernel_rfl)
              refine .inl ⟨trivial, ?_⟩
              have g15 := gd h15
              go_simp
              exact Went4.same (HKR.out _ _) hS rfl
            refine EachOp.cons ?_ ?_
            · intro L a u hL hst hS hdep hq
              have h109 : a.tmps.getD 109 undef = .pointer (some ⟨xb, 1, none⟩) := hdep 109 (by kernel_rfl)
              refine .inl ⟨trivial, ?_⟩
              have g109 := gd h109
              have hxu : u.heap[xb]? = some (.cells #[.int .i64 t.d, .int .i64 t.x, .int .u64 t.y] 34) := (hS.off.block xb HXN.out.1 HXN.out.2).trans HXA.out
              obtain ⟨y1, _⟩ := cellsAt hxu 1 (v := .int .i64 t.x) rfl
              obtain ⟨y2, _⟩ := cellsAt hxu 2 (v := .int .u64 t.y) rfl
              clear hxu
              go_simp
              exact Went4.same (HKR.out _ _) hS rfl
            refine EachOp.cons ?_ ?_
            · intro L a u hL hst hS hdep hq
              have h15 : a.tmps.getD 15 undef = .pointer (some ⟨xb, 0, none⟩) := hst.out 15 (by kernel_rfl)
              refine .inl ⟨trivial, ?_⟩
              have g15 := gd h15
              go_simp
              exact Went4.same (HKR.out _ _) hS rfl
            refine EachOp.cons ?_ ?_
            · intro L a u hL hst hS hdep hq
              have h111 : a.tmps.getD 111 undef = .pointer (some ⟨xb, 2, none⟩) := hdep 111 (by kernel_rfl)
              refine .inl ⟨trivial, ?_⟩
              have g111 := gd h111
              have hxu : u.heap[xb]? = some (.cells #[.int .i64 t.d, .int .i64 t.x, .int .u64 t.y] 34) := (hS.off.block xb HXN.out.1 HXN.out.2).trans HXA.out
              obtain ⟨y1, _⟩ := cellsAt hxu 1 (v := .int .i64 t.x) rfl
              obtain ⟨y2, _⟩ := cellsAt hxu 2 (v := .int .u64 t.y) rfl
              clear hxu
              go_simp
              exact Went4.same (HKR.out _ _) hS rfl
            refine EachOp.cons ?_ ?_
            · intro L a u hL hst hS hdep hq
              have h108 : a.tmps.getD 108 undef = .pointer (some ⟨b, 0, none⟩) := hdep 108 (by kernel_rfl)
              have h110 : a.tmps.getD 110 undef = .int .i64 t.x := hdep 110 (by kernel_rfl)
              have h112 : a.tmps.getD 112 undef = .int .u64 t.y := hdep 112 (by kernel_rfl)
              refine .inl ⟨trivial, ?_⟩
              have g108 := gd h108
              have g110 := gd h110
              have g112 := gd h112
              go_simp
              have hS1 : MidA S T wx.heap.size (X b p) (X b p4) (RPb r p) (RPb r p4) wx.drew false (L 11) u := by have h := hS; simp only [hL] at h; exact h
              have h0 := HC.out.answer b p _ _ t.x t.y _ u hS1.getl HP.out HTX.out HTY.out
              rw [HAV.out, HP4E.out] at h0
              refine h0.mono ?_
              rintro e u' ⟨rfl, ht⟩
              obtain ⟨t1, t2⟩ := hS1.left ht
              exact Went4.next t1 trivial rfl
            refine EachOp.cons ?_ ?_
            · intro L a u hL hst hS hdep hq
              have h11 : a.tmps.getD 11 undef = .pointer (some ⟨r, 0, none⟩) := hst.out 11 (by kernel_rfl)
              refine .inl ⟨trivial, ?_⟩
              have g11 := gd h11
              go_simp
              exact Went4.same (HKR.out _ _) hS rfl
            refine EachOp.cons ?_ ?_
            · intro L a u hL hst hS hdep hq
              have h15 : a.tmps.getD 15 undef = .pointer (some ⟨xb, 0, none⟩) := hst.out 15 (by kernel_rfl)
              refine .inl ⟨trivial, ?_⟩
              have g15 := gd h15
              go_simp
              exact Went4.same (HKR.out _ _) hS rfl
            refine EachOp.cons ?_ ?_
            · intro L a u hL hst hS hdep hq
              have h115 : a.tmps.getD 115 undef = .pointer (some ⟨xb, 1, none⟩) := hdep 115 (by kernel_rfl)
              refine .inl ⟨trivial, ?_⟩
              have g115 := gd h115
              have hxu : u.heap[xb]? = some (.cells #[.int .i64 t.d, .int .i64 t.x, .int .u64 t.y] 34) := (hS.off.block xb HXN.out.1 HXN.out.2).trans HXA.out
              obtain ⟨y1, _⟩ := cellsAt hxu 1 (v := .int .i64 t.x) rfl
              obtain ⟨y2, _⟩ := cellsAt hxu 2 (v := .int .u64 t.y) rfl
              clear hxu
              go_simp
              exact Went4.same (HKR.out _ _) hS rfl
            refine EachOp.cons ?_ ?_
            · intro L a u hL hst hS hdep hq
              have h15 : a.tmps.getD 15 undef = .pointer (some ⟨xb, 0, none⟩) := hst.out 15 (by kernel_rfl)
              refine .inl ⟨trivial, ?_⟩
              have g15 := gd h15
              go_simp
              exact Went4.same (HKR.out _ _) hS rfl
            refine EachOp.cons ?_ ?_
            · intro L a u hL hst hS hdep hq
              have h117 : a.tmps.getD 117 undef = .pointer (some ⟨xb, 2, none⟩) := hdep 117 (by kernel_rfl)
              refine .inl ⟨trivial, ?_⟩
              have g117 := gd h117
              have hxu : u.heap[xb]? = some (.cells #[.int .i64 t.d, .int .i64 t.x, .int .u64 t.y] 34) := (hS.off.block xb HXN.out.1 HXN.out.2).trans HXA.out
              obtain ⟨y1, _⟩ := cellsAt hxu 1 (v := .int .i64 t.x) rfl
              obtain ⟨y2, _⟩ := cellsAt hxu 2 (v := .int .u64 t.y) rfl
              clear hxu
              go_simp
              exact Went4.same (HKR.out _ _) hS rfl
            refine EachOp.cons ?_ ?_
            · intro L a u hL hst hS hdep hq
              have h114 : a.tmps.getD 114 undef = .pointer (some ⟨r, 0, none⟩) := hdep 114 (by kernel_rfl)
              have h116 : a.tmps.getD 116 undef = .int .i64 t.x := hdep 116 (by kernel_rfl)
              have h118 : a.tmps.getD 118 undef = .int .u64 t.y := hdep 118 (by kernel_rfl)
              refine .inl ⟨trivial, ?_⟩
              have g114 := gd h114
              have g116 := gd h116
              have g118 := gd h118
              go_simp
              have hS1 : MidA S T wx.heap.size (X b p) (X b p4) (RPb r p) (RPb r p4) wx.drew (L 5) false u := by have h := hS; simp only [hL] at h; exact h
              have h0 := rans_turn t.x t.y hS1.getr
              rw [HAV.out, HP4E.out] at h0
              refine h0.mono ?_
              rintro e u' ⟨rfl, ht⟩
              obtain ⟨t1, t2⟩ := hS1.right ht
              exact Went4.next t1 trivial rfl
            refine EachOp.cons ?_ ?_
            · intro L a u hL hst hS hdep hq
              have h113 : a.tmps.getD 113 undef = .bool av := hdep 113 (by kernel_rfl)
              have h119 : a.tmps.getD 119 undef = .bool av := hdep 119 (by kernel_rfl)
              refine .inl ⟨trivial, ?_⟩
              have g113 := gd h113
              have g119 := gd h119
              go_simp
              exact Went4.same (HKR.out _ _) hS rfl
            exact EachOp.nil
          · intro L a u hLs hst hS hdep
            have h108 : a.tmps.getD 108 undef = .pointer (some ⟨b, 0, none⟩) := hdep 108 (by kernel_rfl)
            have h109 : a.tmps.getD 109 undef = .pointer (some ⟨xb, 1, none⟩) := hdep 109 (by kernel_rfl)
            have h110 : a.tmps.getD 110 undef = .int .i64 t.x := hdep 110 (by kernel_rfl)
            have h111 : a.tmps.getD 111 undef = .pointer (some ⟨xb, 2, none⟩) := hdep 111 (by kernel_rfl)
            have h112 : a.tmps.getD 112 undef = .int .u64 t.y := hdep 112 (by kernel_rfl)
            have h113 : a.tmps.getD 113 undef = .bool av := hdep 113 (by kernel_rfl)
            have h114 : a.tmps.getD 114 undef = .pointer (some ⟨r, 0, none⟩) := hdep 114 (by kernel_rfl)
            have h115 : a.tmps.getD 115 undef = .pointer (some ⟨xb, 1, none⟩) := hdep 115 (by kernel_rfl)
            have h116 : a.tmps.getD 116 undef = .int .i64 t.x := hdep 116 (by kernel_rfl)
            have h117 : a.tmps.getD 117 undef = .pointer (some ⟨xb, 2, none⟩) := hdep 117 (by kernel_rfl)
            have h118 : a.tmps.getD 118 undef = .int .u64 t.y := hdep 118 (by kernel_rfl)
            have h119 : a.tmps.getD 119 undef = .bool av := hdep 119 (by kernel_rfl)
            have h120 : a.tmps.getD 120 undef = .bool false := hdep 120 (by kernel_rfl)
            have hfr := hst.frame [(108, .pointer (some ⟨b, 0, none⟩)), (109, .pointer (some ⟨xb, 1, none⟩)), (110, .int .i64 t.x), (111, .pointer (some ⟨xb, 2, none⟩)), (112, .int .u64 t.y), (113, .bool av), (114, .pointer (some ⟨r, 0, none⟩)), (115, .pointer (some ⟨xb, 1, none⟩)), (116, .int .i64 t.x), (117, .pointer (some ⟨xb, 2, none⟩)), (118, .int .u64 t.y), (119, .bool av), (120, .bool false)] (by kernel_rfl) ⟨h108, h109, h110, h111, h112, h113, h114, h115, h116, h117, h118, h119, h120, trivial⟩
            clear hst hdep h108 h109 h110 h111 h112 h113 h114 h115 h116 h117 h118 h119 h120
            subst hfr
            simp only [List.foldl_cons, List.foldl_nil, List.setIfInBounds_toArray, List.set_cons_zero, List.set_cons_succ]
            have hlp := hLs 5 (by kernel_rfl)
            have hlr := hLs 11 (by kernel_rfl)
            have hS3 : MidA S T wx.heap.size (X b p) (X b p4) (RPb r p) (RPb r p4) wx.drew true true u := by have h := hS; simp only [hlp, hlr] at h; exact h
            have hxu : u.heap[xb]? = some (.cells #[.int .i64 t.d, .int .i64 t.x, .int .u64 t.y] 34) := (hS3.off.block xb HXN.out.1 HXN.out.2).trans HXA.out
            have HDY : Hid (Duo W (X b p4) (RPb r p4) noneB u) := Lib.hid ((hS3.done HSN.out HNN.out HZ.out HKX.out).less fun _ h => .inr h)
            have HXY := Lib.hid hxu
            clear hS3 hlp hlr hS hLs HST HXN HSN HNN HZ HKX HAV HXA hxu HP
            go_wp2_with fail
            go_loopw [122] (fun i wi => ∃ j : Nat, j ≤ m ∧ i = .int .i64 j ∧ Hid (Duo W (X b p4) (RPb r p4) noneB wi) ∧ Hid (wi.heap[xb]? = some (.cells #[.int .i64 t.d, .int .i64 t.x, .int .u64 t.y] 34))) (fun i _ => m - (intOf i).toNat)
            case atStart => exact ⟨0, Nat.zero_le _, rfl, HDY, HXY⟩
            case round =>
              obtain ⟨i, hi, rfl, hd, hxc⟩ := hrel
              clear HDY HXY
              by_cases hlt : i < m
              · have hil : i < p4.l.length := by rw [HL4.out]; exact hlt
                have hii : (i : Int) < (m : Int) := by omega
                obtain ⟨SS, TT, hs1, ⟨q, hs2⟩, _⟩ := hd.out.at_
                obtain ⟨no, hno⟩ : ∃ x, p4.l[i].o = x := ⟨_, rfl⟩
                obtain ⟨nd, hnd⟩ : ∃ x, p4.l[i].d = x := ⟨_, rfl⟩
                have ho1 : outP p4 (i : Int) = no := (outP_at (i := (i : Int)) (by omega) (by simpa using hil)).trans hno
                have hd1 : dueP p4 (i : Int) = nd := (dueP_at (i := (i : Int)) (by omega) (by simpa using hil)).trans hnd
                have HOU : Hid (∀ u, Below wr.heap.size wr u → Calls Try.prog 17 #[.pointer (some ⟨b, 0, none⟩), .int .i64 i] u fun e w' => e = .returned (.int .u64 no) ∧ Below u.heap.size u w') := Lib.hid fun u hu => ho1 ▸ HC.out.out b p4 _ _ i SS u (Thing.next hs1 hu) HP4.out ⟨by omega, by omega⟩
                have HDU : Hid (∀ u, Below wr.heap.size wr u → Calls Try.prog 18 #[.pointer (some ⟨b, 0, none⟩), .int .i64 i] u fun e w' => e = .returned (.int .u64 nd) ∧ Below u.heap.size u w') := Lib.hid fun u hu => hd1 ▸ HC.out.due b p4 _ _ i SS u (Thing.next hs1 hu) HP4.out ⟨by omega, by omega⟩
                have HRX : Hid (∀ u, Below wr.heap.size wr u → u.cell? ⟨r, 0, none⟩ = some (.slice (some ⟨q.gd, 0, none⟩) m q.cd) ∧ u.cell? ⟨r, 1, none⟩ = some (.slice (some ⟨q.go, 0, none⟩) m q.co) ∧ u.cell? ⟨q.go, i, none⟩ = some (.int .u64 no) ∧ u.cell? ⟨q.gd, i, none⟩ = some (.int .u64 nd)) := Lib.hid fun u hu => by
                  have h2 := hs2.next hu
                  obtain ⟨t0, t1, _⟩ := h2.tops
                  have y1 := (h2.oat (j := i) (by simpa using hil)).1
                  have y2 := (h2.dat (j := i) (by simpa using hil)).1
                  rw [List.getElem_map, hno] at y1
                  rw [List.getElem_map, hnd] at y2
                  rw [HL4.out] at t0 t1
                  exact ⟨t0, t1, y1, y2⟩
                clear hs1 hs2 hno hnd ho1 hd1
                go_wp2_with fail
                refine wp_region_specs (S := fun u => Below wr.heap.size wr u) (Sp := [(125, Stb.eq (.pointer (some ⟨b, 0, none⟩))), (126, Stb.eq (.int .i64 i)), (127, Stb.eq (.int .u64 no)), (128, Stb.eq (.pointer (some ⟨r, 0, none⟩))), (129, Stb.eq (.pointer (some ⟨r, 0, none⟩))), (130, Stb.eq (.pointer (some ⟨r, 1, none⟩))), (131, Stb.eq (.slice (some ⟨q.go, 0, none⟩) m q.co)), (132, Stb.eq (.int .i64 i)), (133, Stb.eq (.pointer (some ⟨q.go, i, none⟩))), (134, Stb.eq (.int .u64 no)), (135, Stb.eq (.bool false)), (136, Stb.eq (.bool false)), (137, Stb.eq (.pointer (some ⟨b, 0, none⟩))), (138, Stb.eq (.int .i64 i)), (139, Stb.eq (.int .u64 nd)), (140, Stb.eq (.pointer (some ⟨r, 0, none⟩))), (141, Stb.eq (.pointer (some ⟨r, 0, none⟩))), (142, Stb.eq (.pointer (some ⟨r, 0, none⟩))), (143, Stb.eq (.slice (some ⟨q.gd, 0, none⟩) m q.cd)), (144, Stb.eq (.int .i64 i)), (145, Stb.eq (.pointer (some ⟨q.gd, i, none⟩))), (146, Stb.eq (.int .u64 nd)), (147, Stb.eq (.bool false)), (148, Stb.eq (.bool false))]) (by kernel_rfl) (by kernel_rfl) (kp_drewN _ 1) ?_ ?_
                · refine EachOp.cons ?_ ?_
                  · intro a u hst hS hdep
                    have h9 : a.tmps.getD 9 undef = .pointer (some ⟨b, 0, none⟩) := hst.out 9 (by kernel_rfl)
                    refine ⟨trivial, ?_⟩
                    have g9 := gd h9
                    go_simp
                    exact Goes.same hS rfl
                  refine EachOp.cons ?_ ?_
                  · intro a u hst hS hdep
                    have h21 : a.tmps.getD 21 undef = .int .i64 i := hst.out 21 (by kernel_rfl)
                    refine ⟨trivial, ?_⟩
                    have g21 := gd h21
                    go_simp
                    exact Goes.same hS rfl
                  refine EachOp.cons ?_ ?_
                  · intro a u hst hS hdep
                    have h125 : a.tmps.getD 125 undef = .pointer (some ⟨b, 0, none⟩) := hdep 125 (by kernel_rfl)
                    have h126 : a.tmps.getD 126 undef = .int .i64 i := hdep 126 (by kernel_rfl)
                    refine ⟨trivial, ?_⟩
                    have g125 := gd h125
                    have g126 := gd h126
                    go_simp
                    refine (HOU.out u hS).mono ?_
                    rintro e u' ⟨rfl, hb'⟩
                    exact Goes.next (kp_trans hS hb') hb' rfl
                  refine EachOp.cons ?_ ?_
                  · intro a u hst hS hdep
                    have h11 : a.tmps.getD 11 undef = .pointer (some ⟨r, 0, none⟩) := hst.out 11 (by kernel_rfl)
                    refine ⟨trivial, ?_⟩
                    have g11 := gd h11
                    go_simp
                    exact Goes.same hS rfl
                  refine EachOp.cons ?_ ?_
                  · intro a u hst hS hdep
                    have h128 : a.tmps.getD 128 undef = .pointer (some ⟨r, 0, none⟩) := hdep 128 (by kernel_rfl)
                    refine ⟨trivial, ?_⟩
                    have g128 := gd h128
                    go_simp
                    exact Goes.same hS rfl
                  refine EachOp.cons ?_ ?_
                  · intro a u hst hS hdep
                    have h129 : a.tmps.getD 129 undef = .pointer (some ⟨r, 0, none⟩) := hdep 129 (by kernel_rfl)
                    refine ⟨trivial, ?_⟩
                    have g129 := gd h129
                    go_simp
                    exact Goes.same hS rfl
                  refine EachOp.cons ?_ ?_
                  · intro a u hst hS hdep
                    have h130 : a.tmps.getD 130 undef = .pointer (some ⟨r, 1, none⟩) := hdep 130 (by kernel_rfl)
                    refine ⟨trivial, ?_⟩
                    have g130 := gd h130
                    obtain ⟨g0, g1, _, _⟩ := HRX.out u hS
                    go_simp
                    exact Goes.same hS rfl
                  refine EachOp.cons ?_ ?_
                  · intro a u hst hS hdep
                    have h21 : a.tmps.getD 21 undef = .int .i64 i := hst.out 21 (by kernel_rfl)
                    refine ⟨trivial, ?_⟩
                    have g21 := gd h21
                    go_simp
                    exact Goes.same hS rfl
                  refine EachOp.cons ?_ ?_
                  · intro a u hst hS hdep
                    have h131 : a.tmps.getD 131 undef = .slice (some ⟨q.go, 0, none⟩) m q.co := hdep 131 (by kernel_rfl)
                    have h132 : a.tmps.getD 132 undef = .int .i64 i := hdep 132 (by kernel_rfl)
                    refine ⟨trivial, ?_⟩
                    have g131 := gd h131
                    have g132 := gd h132
                    have hi0 : (0 : Int) ≤ (i : Int) := by omega
                    have hi1 : (i : Int) < (m : Int) := by omega
                    go_simp
                    exact Goes.same hS rfl
                  refine EachOp.cons ?_ ?_
                  · intro a u hst hS hdep
                    have h133 : a.tmps.getD 133 undef = .pointer (some ⟨q.go, i, none⟩) := hdep 133 (by kernel_rfl)
                    refine ⟨trivial, ?_⟩
                    have g133 := gd h133
                    obtain ⟨_, _, g2, _⟩ := HRX.out u hS
                    go_simp
                    exact Goes.same hS rfl
                  refine EachOp.cons ?_ ?_
                  · intro a u hst hS hdep
                    have h127 : a.tmps.getD 127 undef = .int .u64 no := hdep 127 (by kernel_rfl)
                    have h134 : a.tmps.getD 134 undef = .int .u64 no := hdep 134 (by kernel_rfl)
                    refine ⟨trivial, ?_⟩
                    have g127 := gd h127
                    have g134 := gd h134
                    go_simp
                    exact Goes.same hS rfl
                  refine EachOp.cons ?_ ?_
                  · intro a u hst hS hdep
                    have h135 : a.tmps.getD 135 undef = .bool false := hdep 135 (by kernel_rfl)
                    refine ⟨trivial, ?_⟩
                    have g135 := gd h135
                    go_simp
                    exact Goes.same hS rfl
                  refine EachOp.cons ?_ ?_
                  · intro a u hst hS hdep
                    have h9 : a.tmps.getD 9 undef = .pointer (some ⟨b, 0, none⟩) := hst.out 9 (by kernel_rfl)
                    have h136 : a.tmps.getD 136 undef = .bool false := hdep 136 (by kernel_rfl)
                    refine ⟨⟨136, by kernel_rfl, h136⟩, ?_⟩
                    clear h136
                    have g9 := gd h9
                    go_simp
                    exact Goes.same hS rfl
                  refine EachOp.cons ?_ ?_
                  · intro a u hst hS hdep
                    have h21 : a.tmps.getD 21 undef = .int .i64 i := hst.out 21 (by kernel_rfl)
                    have h136 : a.tmps.getD 136 undef = .bool false := hdep 136 (by kernel_rfl)
                    refine ⟨⟨136, by kernel_rfl, h136⟩, ?_⟩
                    clear h136
                    have g21 := gd h21
                    go_simp
                    exact Goes.same hS rfl
                  refine EachOp.cons ?_ ?_
                  · intro a u hst hS hdep
                    have h137 : a.tmps.getD 137 undef = .pointer (some ⟨b, 0, none⟩) := hdep 137 (by kernel_rfl)
                    have h138 : a.tmps.getD 138 undef = .int .i64 i := hdep 138 (by kernel_rfl)
                    have h136 : a.tmps.getD 136 undef = .bool false := hdep 136 (by kernel_rfl)
                    refine ⟨⟨136, by kernel_rfl, h136⟩, ?_⟩
                    clear h136
                    have g137 := gd h137
                    have g138 := gd h138
                    go_simp
                    refine (HDU.out u hS).mono ?_
                    rintro e u' ⟨rfl, hb'⟩
                    exact Goes.next (kp_trans hS hb') hb' rfl
                  refine EachOp.cons ?_ ?_
                  · intro a u hst hS hdep
                    have h11 : a.tmps.getD 11 undef = .pointer (some ⟨r, 0, none⟩) := hst.out 11 (by kernel_rfl)
                    have h136 : a.tmps.getD 136 undef = .bool false := hdep 136 (by kernel_rfl)
                    refine ⟨⟨136, by kernel_rfl, h136⟩, ?_⟩
                    clear h136
                    have g11 := gd h11
                    go_simp
                    exact Goes.same hS rfl
                  refine EachOp.cons ?_ ?_
                  · intro a u hst hS hdep
                    have h140 : a.tmps.getD 140 undef = .pointer (some ⟨r, 0, none⟩) := hdep 140 (by kernel_rfl)
                    have h136 : a.tmps.getD 136 undef = .bool false := hdep 136 (by kernel_rfl)
                    refine ⟨⟨136, by kernel_rfl, h136⟩, ?_⟩
                    clear h136
                    have g140 := gd h140
                    go_simp
                    exact Goes.same hS rfl
                  refine EachOp.cons ?_ ?_
                  · intro a u hst hS hdep
                    have h141 : a.tmps.getD 141 undef = .pointer (some ⟨r, 0, none⟩) := hdep 141 (by kernel_rfl)
                    have h136 : a.tmps.getD 136 undef = .bool false := hdep 136 (by kernel_rfl)
                    refine ⟨⟨136, by kernel_rfl, h136⟩, ?_⟩
                    clear h136
                    have g141 := gd h141
                    go_simp
                    exact Goes.same hS rfl
                  refine EachOp.cons ?_ ?_
                  · intro a u hst hS hdep
                    have h142 : a.tmps.getD 142 undef = .pointer (some ⟨r, 0, none⟩) := hdep 142 (by kernel_rfl)
                    have h136 : a.tmps.getD 136 undef = .bool false := hdep 136 (by kernel_rfl)
                    refine ⟨⟨136, by kernel_rfl, h136⟩, ?_⟩
                    clear h136
                    have g142 := gd h142
                    obtain ⟨g0, g1, _, _⟩ := HRX.out u hS
                    go_simp
                    exact Goes.same hS rfl
                  refine EachOp.cons ?_ ?_
                  · intro a u hst hS hdep
                    have h21 : a.tmps.getD 21 undef = .int .i64 i := hst.out 21 (by kernel_rfl)
                    have h136 : a.tmps.getD 136 undef = .bool false := hdep 136 (by kernel_rfl)
                    refine ⟨⟨136, by kernel_rfl, h136⟩, ?_⟩
                    clear h136
                    have g21 := gd h21
                    go_simp
                    exact Goes.same hS rfl
                  refine EachOp.cons ?_ ?_
                  · intro a u hst hS hdep
                    have h143 : a.tmps.getD 143 undef = .slice (some ⟨q.gd, 0, none⟩) m q.cd := hdep 143 (by kernel_rfl)
                    have h144 : a.tmps.getD 144 undef = .int .i64 i := hdep 144 (by kernel_rfl)
                    have h136 : a.tmps.getD 136 undef = .bool false := hdep 136 (by kernel_rfl)
                    refine ⟨⟨136, by kernel_rfl, h136⟩, ?_⟩
                    clear h136
                    have g143 := gd h143
                    have g144 := gd h144
                    have hi0 : (0 : Int) ≤ (i : Int) := by omega
                    have hi1 : (i : Int) < (m : Int) := by omega
                    go_simp
                    exact Goes.same hS rfl
                  refine EachOp.cons ?_ ?_
                  · intro a u hst hS hdep
                    have h145 : a.tmps.getD 145 undef = .pointer (some ⟨q.gd, i, none⟩) := hdep 145 (by kernel_rfl)
                    have h136 : a.tmps.getD 136 undef = .bool false := hdep 136 (by kernel_rfl)
                    refine ⟨⟨136, by kernel_rfl, h136⟩, ?_⟩
                    clear h136
                    have g145 := gd h145
                    obtain ⟨_, _, _, g3⟩ := HRX.out u hS
                    go_simp
                    exact Goes.same hS rfl
                  refine EachOp.cons ?_ ?_
                  · intro a u hst hS hdep
                    have h139 : a.tmps.getD 139 undef = .int .u64 nd := hdep 139 (by kernel_rfl)
                    have h146 : a.tmps.getD 146 undef = .int .u64 nd := hdep 146 (by kernel_rfl)
                    have h136 : a.tmps.getD 136 undef = .bool false := hdep 136 (by kernel_rfl)
                    refine ⟨⟨136, by kernel_rfl, h136⟩, ?_⟩
                    clear h136
                    have g139 := gd h139
                    have g146 := gd h146
                    go_simp
                    exact Goes.same hS rfl
                  refine EachOp.cons ?_ ?_
                  · intro a u hst hS hdep
                    have h136 : a.tmps.getD 136 undef = .bool false := hdep 136 (by kernel_rfl)
                    have h147 : a.tmps.getD 147 undef = .bool false := hdep 147 (by kernel_rfl)
                    refine ⟨trivial, ?_⟩
                    have g136 := gd h136
                    have g147 := gd h147
                    go_simp
                    exact Goes.same hS rfl
                  exact EachOp.nil
                · intro a u hst hS hdep
                  have h125 : a.tmps.getD 125 undef = .pointer (some ⟨b, 0, none⟩) := hdep 125 (by kernel_rfl)
                  have h126 : a.tmps.getD 126 undef = .int .i64 i := hdep 126 (by kernel_rfl)
                  have h127 : a.tmps.getD 127 undef = .int .u64 no := hdep 127 (by kernel_rfl)
                  have h128 : a.tmps.getD 128 undef = .pointer (some ⟨r, 0, none⟩) := hdep 128 (by kernel_rfl)
                  have h129 : a.tmps.getD 129 undef = .pointer (some ⟨r, 0, none⟩) := hdep 129 (by kernel_rfl)
                  have h130 : a.tmps.getD 130 undef = .pointer (some ⟨r, 1, none⟩) := hdep 130 (by kernel_rfl)
                  have h131 : a.tmps.getD 131 undef = .slice (some ⟨q.go, 0, none⟩) m q.co := hdep 131 (by kernel_rfl)
                  have h132 : a.tmps.getD 132 undef = .int .i64 i := hdep 132 (by kernel_rfl)
                  have h133 : a.tmps.getD 133 undef = .pointer (some ⟨q.go, i, none⟩) := hdep 133 (by kernel_rfl)
                  have h134 : a.tmps.getD 134 undef = .int .u64 no := hdep 134 (by kernel_rfl)
                  have h135 : a.tmps.getD 135 undef = .bool false := hdep 135 (by kernel_rfl)
                  have h136 : a.tmps.getD 136 undef = .bool false := hdep 136 (by kernel_rfl)
                  have h137 : a.tmps.getD 137 undef = .pointer (some ⟨b, 0, none⟩) := hdep 137 (by kernel_rfl)
                  have h138 : a.tmps.getD 138 undef = .int .i64 i := hdep 138 (by kernel_rfl)
                  have h139 : a.tmps.getD 139 undef = .int .u64 nd := hdep 139 (by kernel_rfl)
                  have h140 : a.tmps.getD 140 undef = .pointer (some ⟨r, 0, none⟩) := hdep 140 (by kernel_rfl)
                  have h141 : a.tmps.getD 141 undef = .pointer (some ⟨r, 0, none⟩) := hdep 141 (by kernel_rfl)
                  have h142 : a.tmps.getD 142 undef = .pointer (some ⟨r, 0, none⟩) := hdep 142 (by kernel_rfl)
                  have h143 : a.tmps.getD 143 undef = .slice (some ⟨q.gd, 0, none⟩) m q.cd := hdep 143 (by kernel_rfl)
                  have h144 : a.tmps.getD 144 undef = .int .i64 i := hdep 144 (by kernel_rfl)
                  have h145 : a.tmps.getD 145 undef = .pointer (some ⟨q.gd, i, none⟩) := hdep 145 (by kernel_rfl)
                  have h146 : a.tmps.getD 146 undef = .int .u64 nd := hdep 146 (by kernel_rfl)
                  have h147 : a.tmps.getD 147 undef = .bool false := hdep 147 (by kernel_rfl)
                  have h148 : a.tmps.getD 148 undef = .bool false := hdep 148 (by kernel_rfl)
                  have hfr := hst.frame [(125, .pointer (some ⟨b, 0, none⟩)), (126, .int .i64 i), (127, .int .u64 no), (128, .pointer (some ⟨r, 0, none⟩)), (129, .pointer (some ⟨r, 0, none⟩)), (130, .pointer (some ⟨r, 1, none⟩)), (131, .slice (some ⟨q.go, 0, none⟩) m q.co), (132, .int .i64 i), (133, .pointer (some ⟨q.go, i, none⟩)), (134, .int .u64 no), (135, .bool false), (136, .bool false), (137, .pointer (some ⟨b, 0, none⟩)), (138, .int .i64 i), (139, .int .u64 nd), (140, .pointer (some ⟨r, 0, none⟩)), (141, .pointer (some ⟨r, 0, none⟩)), (142, .pointer (some ⟨r, 0, none⟩)), (143, .slice (some ⟨q.gd, 0, none⟩) m q.cd), (144, .int .i64 i), (145, .pointer (some ⟨q.gd, i, none⟩)), (146, .int .u64 nd), (147, .bool false), (148, .bool false)] (by kernel_rfl) ⟨h125, h126, h127, h128, h129, h130, h131, h132, h133, h134, h135, h136, h137, h138, h139, h140, h141, h142, h143, h144, h145, h146, h147, h148, trivial⟩
                  clear hst hdep h125 h126 h127 h128 h129 h130 h131 h132 h133 h134 h135 h136 h137 h138 h139 h140 h141 h142 h143 h144 h145 h146 h147 h148
                  subst hfr
                  simp only [List.foldl_cons, List.foldl_nil, List.setIfInBounds_toArray, List.set_cons_zero, List.set_cons_succ]
                  have HDZ := Lib.hid (hd.out.next hS)
                  have HXZ := Lib.hid ((hS.block xb (Array.getElem?_eq_some_iff.1 hxc.out).1).trans hxc.out)
                  clear hS HRX HOU HDU hd hxc
                  go_wp2_with fail
                  go_roundw
                  case rel => exact ⟨i + 1, Nat.succ_le_of_lt hlt, by go_num, HDZ, HXZ⟩
                  case measure => simp [intOf]; omega
              · obtain rfl : i = m := by omega
                have HX4 := Lib.hid hxc.out
                have hxz : wr.heap[xb]? = some (.cells #[.int .i64 t.d, .int .i64 t.x, .int .u64 t.y] 34) := hxc.out
                obtain ⟨x0, _⟩ := cellsAt hxz 0 (v := .int .i64 t.d) rfl
                obtain ⟨x1, _⟩ := cellsAt hxz 1 (v := .int .i64 t.x) rfl
                have HDZ := hd
                clear hxz hxc hd
                by_cases hin : 0 ≤ t.x ∧ t.x < (i : Int)
                · have e1 : ¬ t.x < 0 := by omega
                  have e2 : ¬ (i : Int) ≤ t.x := by omega
                  clear hin
                  go_wp2_with fail
                  go_roundw
                  case rel => exact ⟨k + 1, now, p4, by omega, by go_num, by go_num, by omega, by omega, HP4, HL4, HDZ⟩
                  case measure => simp [intOf]; omega
                · have ho0 : outP p4 t.x = 0 := outP_no (by rw [HL4.out]; exact hin)
                  have hd0 : dueP p4 t.x = 0 := dueP_no (by rw [HL4.out]; exact hin)
                  obtain ⟨SS, TT, hs1, _⟩ := HDZ.out.at_
                  have HO := HC.out.out b p4 _ _ t.x SS wr hs1 HP4.out HTX.out
                  rw [ho0] at HO
                  have HO := Lib.hid HO
                  have HD0 := Lib.hid hd0
                  clear hs1 hd0
                  by_cases e1 : t.x < 0
                  · clear hin ho0
                    go_wp2_with fail
                    refine HO.out.mono ?_
                    rintro e w8 ⟨rfl, k8⟩
                    have HD8 := Lib.hid (HDZ.out.next k8)
                    have hx8 := (k8.block xb (Array.getElem?_eq_some_iff.1 HX4.out).1).trans HX4.out
                    obtain ⟨x1, _⟩ := cellsAt hx8 1 (v := .int .i64 t.x) rfl
                    obtain ⟨SS8, TT8, hs8, _⟩ := HD8.out.at_
                    have HO2 := HC.out.due b p4 _ _ t.x SS8 w8 hs8 HP4.out HTX.out
                    rw [HD0.out] at HO2
                    have HO2 := Lib.hid HO2
                    clear HO HDZ k8 hx8 hs8 x0
                    go_wp2_with fail
                    refine HO2.out.mono ?_
                    rintro e w9 ⟨rfl, k9⟩
                    have HD9 := Lib.hid (HD8.out.next k9)
                    clear HO2 HD8 k9 x1
                    go_wp2_with fail
                    go_roundw
                    case rel => exact ⟨k + 1, now, p4, by omega, by go_num, by go_num, by omega, by omega, HP4, HL4, HD9⟩
                    case measure => simp [intOf]; omega
                  · have e2 : (i : Int) ≤ t.x := by omega
                    clear hin ho0
                    go_wp2_with fail
                    refine HO.out.mono ?_
                    rintro e w8 ⟨rfl, k8⟩
                    have HD8 := Lib.hid (HDZ.out.next k8)
                    have hx8 := (k8.block xb (Array.getElem?_eq_some_iff.1 HX4.out).1).trans HX4.out
                    obtain ⟨x1, _⟩ := cellsAt hx8 1 (v := .int .i64 t.x) rfl
                    obtain ⟨SS8, TT8, hs8, _⟩ := HD8.out.at_
                    have HO2 := HC.out.due b p4 _ _ t.x SS8 w8 hs8 HP4.out HTX.out
                    rw [HD0.out] at HO2
                    have HO2 := Lib.hid HO2
                    clear HO HDZ k8 hx8 hs8 x0
                    go_wp2_with fail
                    refine HO2.out.mono ?_
                    rintro e w9 ⟨rfl, k9⟩
                    have HD9 := Lib.hid (HD8.out.next k9)
                    clear HO2 HD8 k9 x1
                    go_wp2_with fail
                    go_roundw
                    case rel => exact ⟨k + 1, now, p4, by omega, by go_num, by go_num, by omega, by omega, HP4, HL4, HD9⟩
                    case measure => simp [intOf]; omega
        · have hd1' : (t.d == 1) = false := by simpa using hd1
          obtain ⟨SS, TT, hs1, _⟩ := HDX.out.at_
          have HO := Lib.hid (HC.out.out b p _ _ t.x SS wx hs1 HP.out HTX.out)
          clear hd0 hd1 hfi hs1
          go_wp2_with fail
          rw [HWX.out, ← HX.out]
          refine HO.out.mono ?_
          rintro e w5 ⟨rfl, k5⟩
          have HDX := Lib.hid (HDX.out.next k5)
          have HXA := Lib.hid ((k5.block xb (Array.getElem?_eq_some_iff.1 HXA.out).1).trans HXA.out)
          obtain ⟨ny, hny⟩ : ∃ y, outP p t.x = y := ⟨_, rfl⟩
          have HTY := Lib.hid (hny ▸ HP.out.outU (by omega) t.x : U64 ny)
          rw [hny]
          clear HO k5 hny HWX HX
          obtain ⟨p4, hp4⟩ : ∃ y, ansC p t.x ny = y := ⟨_, rfl⟩
          obtain ⟨av, hav⟩ : ∃ y, ansB p t.x ny = y := ⟨_, rfl⟩
          have HP40 := (HP.out.ans t.x ny).more (Nat.le_succ k)
          have HL40 := (ansC_length p t.x ny).trans HLP.out
          rw [hp4] at HP40 HL40
          have HP4 := Lib.hid HP40
          have HL4 := Lib.hid HL40
          have HP4E := Lib.hid hp4
          have HAV := Lib.hid hav
          obtain ⟨S, T, h1, h2, h3, h4⟩ := HDX.out.at_
          have HSN := Lib.hid h4
          have HNN : Hid (∀ k, (k = xb ∨ noneB k) → k < w5.heap.size) := Lib.hid HDX.out.nlt
          have HXN : Hid (xb < w5.drew.heap.size ∧ ¬ (S xb ∨ T xb)) := Lib.hid ⟨HDX.out.nlt xb (.inl rfl), fun h => (h4 xb h).2 (.inl rfl)⟩
          have HZ : Hid (W.heap.size ≤ w5.heap.size) := Lib.hid HDX.out.low.size
          have HKX : Hid (Below W.heap.size W w5.drew) := Lib.hid HDX.out.low.drew
          have HST : Hid (MidA S T w5.heap.size (X b p) (X b p4) (RPb r p) (RPb r p4) w5.drew false false w5.drew) := Lib.hid (MidA.start (Thing.drew h1) (Thing.drew h2) h3 (Nat.le_refl _))
          clear HP40 HL40 hp4 hav h1 h2 h3 h4 HLP HDX
          go_wp2_with fail
          refine wp_region_specs5 (S := fun L u => MidA S T w5.heap.size (X b p) (X b p4) (RPb r p) (RPb r p4) w5.drew (L 4) (L 9) u) (Kp := KeepT) (Sp := [(62, Sti.eq (.pointer (some ⟨b, 0, none⟩))), (63, Sti.eq (.pointer (some ⟨xb, 1, none⟩))), (64, Sti.eq (.int .i64 t.x)), (65, Sti.eq (.int .u64 ny)), (66, Sti.eq (.bool av)), (67, Sti.eq (.pointer (some ⟨r, 0, none⟩))), (68, Sti.eq (.pointer (some ⟨xb, 1, none⟩))), (69, Sti.eq (.int .i64 t.x)), (70, Sti.eq (.int .u64 ny)), (71, Sti.eq (.bool av)), (72, Sti.eq (.bool false))]) (by kernel_rfl) (by kernel_rfl) (by kernel_rfl) (HST.out) ?_ ?_
          · refine EachOp.cons ?_ ?_
            · intro L a u hL hst hS hdep hq
              have h9 : a.tmps.getD 9 undef = .pointer (some ⟨b, 0, none⟩) := hst.out 9 (by kernel_rfl)
              refine .inl ⟨trivial, ?_⟩
              have g9 := gd h9
              go_simp
              exact Went4.same (HKR.out _ _) hS rfl
            refine EachOp.cons ?_ ?_
            · intro L a u hL hst hS hdep hq
              have h15 : a.tmps.getD 15 undef = .pointer (some ⟨xb, 0, none⟩) := hst.out 15 (by kernel_rfl)
              refine .inl ⟨trivial, ?_⟩
              have g15 := gd h15
              go_simp
              exact Went4.same (HKR.out _ _) hS rfl
            refine EachOp.cons ?_ ?_
            · intro L a u hL hst hS hdep hq
              have h63 : a.tmps.getD 63 undef = .pointer (some ⟨xb, 1, none⟩) := hdep 63 (by kernel_rfl)
              refine .inl ⟨trivial, ?_⟩
              have g63 := gd h63
              have hxu : u.heap[xb]? = some (.cells #[.int .i64 t.d, .int .i64 t.x, .int .u64 t.y] 34) := (hS.off.block xb HXN.out.1 HXN.out.2).trans HXA.out
              obtain ⟨y1, _⟩ := cellsAt hxu 1 (v := .int .i64 t.x) rfl
              obtain ⟨y2, _⟩ := cellsAt hxu 2 (v := .int .u64 t.y) rfl
              clear hxu
              go_simp
              exact Went4.same (HKR.out _ _) hS rfl
            refine EachOp.cons ?_ ?_
            · intro L a u hL hst hS hdep hq
              have h20 : a.tmps.getD 20 undef = .int .u64 ny := hst.out 20 (by kernel_rfl)
              refine .inl ⟨trivial, ?_⟩
              have g20 := gd h20
              go_simp
              exact Went4.same (HKR.out _ _) hS rfl
            refine EachOp.cons ?_ ?_
            · intro L a u hL hst hS hdep hq
              have h62 : a.tmps.getD 62 undef = .pointer (some ⟨b, 0, none⟩) := hdep 62 (by kernel_rfl)
              have h64 : a.tmps.getD 64 undef = .int .i64 t.x := hdep 64 (by kernel_rfl)
              have h65 : a.tmps.getD 65 undef = .int .u64 ny := hdep 65 (by kernel_rfl)
              refine .inl ⟨trivial, ?_⟩
              have g62 := gd h62
              have g64 := gd h64
              have g65 := gd h65
              go_simp
              have hS1 : MidA S T w5.heap.size (X b p) (X b p4) (RPb r p) (RPb r p4) w5.drew false (L 9) u := by have h := hS; simp only [hL] at h; exact h
              have h0 := HC.out.answer b p _ _ t.x ny _ u hS1.getl HP.out HTX.out HTY.out
              rw [HAV.out, HP4E.out] at h0
              refine h0.mono ?_
              rintro e u' ⟨rfl, ht⟩
              obtain ⟨t1, t2⟩ := hS1.left ht
              exact Went4.next t1 trivial rfl
            refine EachOp.cons ?_ ?_
            · intro L a u hL hst hS hdep hq
              have h11 : a.tmps.getD 11 undef = .pointer (some ⟨r, 0, none⟩) := hst.out 11 (by kernel_rfl)
              refine .inl ⟨trivial, ?_⟩
              have g11 := gd h11
              go_simp
              exact Went4.same (HKR.out _ _) hS rfl
            refine EachOp.cons ?_ ?_
            · intro L a u hL hst hS hdep hq
              have h15 : a.tmps.getD 15 undef = .pointer (some ⟨xb, 0, none⟩) := hst.out 15 (by kernel_rfl)
              refine .inl ⟨trivial, ?_⟩
              have g15 := gd h15
              go_simp
              exact Went4.same (HKR.out _ _) hS rfl
            refine EachOp.cons ?_ ?_
            · intro L a u hL hst hS hdep hq
              have h68 : a.tmps.getD 68 undef = .pointer (some ⟨xb, 1, none⟩) := hdep 68 (by kernel_rfl)
              refine .inl ⟨trivial, ?_⟩
              have g68 := gd h68
              have hxu : u.heap[xb]? = some (.cells #[.int .i64 t.d, .int .i64 t.x, .int .u64 t.y] 34) := (hS.off.block xb HXN.out.1 HXN.out.2).trans HXA.out
              obtain ⟨y1, _⟩ := cellsAt hxu 1 (v := .int .i64 t.x) rfl
              obtain ⟨y2, _⟩ := cellsAt hxu 2 (v := .int .u64 t.y) rfl
              clear hxu
              go_simp
              exact Went4.same (HKR.out _ _) hS rfl
            refine EachOp.cons ?_ ?_
            · intro L a u hL hst hS hdep hq
              have h20 : a.tmps.getD 20 undef = .int .u64 ny := hst.out 20 (by kernel_rfl)
              refine .inl ⟨trivial, ?_⟩
              have g20 := gd h20
              go_simp
              exact Went4.same (HKR.out _ _) hS rfl
            refine EachOp.cons ?_ ?_
            · intro L a u hL hst hS hdep hq
              have h67 : a.tmps.getD 67 undef = .pointer (some ⟨r, 0, none⟩) := hdep 67 (by kernel_rfl)
              have h69 : a.tmps.getD 69 undef = .int .i64 t.x := hdep 69 (by kernel_rfl)
              have h70 : a.tmps.getD 70 undef = .int .u64 ny := hdep 70 (by kernel_rfl)
              refine .inl ⟨trivial, ?_⟩
              have g67 := gd h67
              have g69 := gd h69
              have g70 := gd h70
              go_simp
              have hS1 : MidA S T w5.heap.size (X b p) (X b p4) (RPb r p) (RPb r p4) w5.drew (L 4) false u := by have h := hS; simp only [hL] at h; exact h
              have h0 := rans_turn t.x ny hS1.getr
              rw [HAV.out, HP4E.out] at h0
              refine h0.mono ?_
              rintro e u' ⟨rfl, ht⟩
              obtain ⟨t1, t2⟩ := hS1.right ht
              exact Went4.next t1 trivial rfl
            refine EachOp.cons ?_ ?_
            · intro L a u hL hst hS hdep hq
              have h66 : a.tmps.getD 66 undef = .bool av := hdep 66 (by kernel_rfl)
              have h71 : a.tmps.getD 71 undef = .bool av := hdep 71 (by kernel_rfl)
              refine .inl ⟨trivial, ?_⟩
              have g66 := gd h66
              have g71 := gd h71
              go_simp
              exact Went4.same (HKR.out _ _) hS rfl
            exact EachOp.nil
          · intro L a u hLs hst hS hdep
            have h62 : a.tmps.getD 62 undef = .pointer (some ⟨b, 0, none⟩) := hdep 62 (by kernel_rfl)
            have h63 : a.tmps.getD 63 undef = .pointer (some ⟨xb, 1, none⟩) := hdep 63 (by kernel_rfl)
            have h64 : a.tmps.getD 64 undef = .int .i64 t.x := hdep 64 (by kernel_rfl)
            have h65 : a.tmps.getD 65 undef = .int .u64 ny := hdep 65 (by kernel_rfl)
            have h66 : a.tmps.getD 66 undef = .bool av := hdep 66 (by kernel_rfl)
            have h67 : a.tmps.getD 67 undef = .pointer (some ⟨r, 0, none⟩) := hdep 67 (by kernel_rfl)
            have h68 : a.tmps.getD 68 undef = .pointer (some ⟨xb, 1, none⟩) := hdep 68 (by kernel_rfl)
            have h69 : a.tmps.getD 69 undef = .int .i64 t.x := hdep 69 (by kernel_rfl)
            have h70 : a.tmps.getD 70 undef = .int .u64 ny := hdep 70 (by kernel_rfl)
            have h71 : a.tmps.getD 71 undef = .bool av := hdep 71 (by kernel_rfl)
            have h72 : a.tmps.getD 72 undef = .bool false := hdep 72 (by kernel_rfl)
            have hfr := hst.frame [(62, .pointer (some ⟨b, 0, none⟩)), (63, .pointer (some ⟨xb, 1, none⟩)), (64, .int .i64 t.x), (65, .int .u64 ny), (66, .bool av), (67, .pointer (some ⟨r, 0, none⟩)), (68, .pointer (some ⟨xb, 1, none⟩)), (69, .int .i64 t.x), (70, .int .u64 ny), (71, .bool av), (72, .bool false)] (by kernel_rfl) ⟨h62, h63, h64, h65, h66, h67, h68, h69, h70, h71, h72, trivial⟩
            clear hst hdep h62 h63 h64 h65 h66 h67 h68 h69 h70 h71 h72
            subst hfr
            simp only [List.foldl_cons, List.foldl_nil, List.setIfInBounds_toArray, List.set_cons_zero, List.set_cons_succ]
            have hlp := hLs 4 (by kernel_rfl)
            have hlr := hLs 9 (by kernel_rfl)
            have hS3 : MidA S T w5.heap.size (X b p) (X b p4) (RPb r p) (RPb r p4) w5.drew true true u := by have h := hS; simp only [hlp, hlr] at h; exact h
            have hxu : u.heap[xb]? = some (.cells #[.int .i64 t.d, .int .i64 t.x, .int .u64 t.y] 34) := (hS3.off.block xb HXN.out.1 HXN.out.2).trans HXA.out
            have HDY : Hid (Duo W (X b p4) (RPb r p4) noneB u) := Lib.hid ((hS3.done HSN.out HNN.out HZ.out HKX.out).less fun _ h => .inr h)
            have HXY := Lib.hid hxu
            clear hS3 hlp hlr hS hLs HST HXN HSN HNN HZ HKX HAV HXA hxu HP
            go_wp2_with fail
            go_loopw [122] (fun i wi => ∃ j : Nat, j ≤ m ∧ i = .int .i64 j ∧ Hid (Duo W (X b p4) (RPb r p4) noneB wi) ∧ Hid (wi.heap[xb]? = some (.cells #[.int .i64 t.d, .int .i64 t.x, .int .u64 t.y] 34))) (fun i _ => m - (intOf i).toNat)
            case atStart => exact ⟨0, Nat.zero_le _, rfl, HDY, HXY⟩
            case round =>
              obtain ⟨i, hi, rfl, hd, hxc⟩ := hrel
              clear HDY HXY
              by_cases hlt : i < m
              · have hil : i < p4.l.length := by rw [HL4.out]; exact hlt
                have hii : (i : Int) < (m : Int) := by omega
                obtain ⟨SS, TT, hs1, ⟨q, hs2⟩, _⟩ := hd.out.at_
                obtain ⟨no, hno⟩ : ∃ x, p4.l[i].o = x := ⟨_, rfl⟩
                obtain ⟨nd, hnd⟩ : ∃ x, p4.l[i].d = x := ⟨_, rfl⟩
                have ho1 : outP p4 (i : Int) = no := (outP_at (i := (i : Int)) (by omega) (by simpa using hil)).trans hno
                have hd1 : dueP p4 (i : Int) = nd := (dueP_at (i := (i : Int)) (by omega) (by simpa using hil)).trans hnd
                have HOU : Hid (∀ u, Below wr.heap.size wr u → Calls Try.prog 17 #[.pointer (some ⟨b, 0, none⟩), .int .i64 i] u fun e w' => e = .returned (.int .u64 no) ∧ Below u.heap.size u w') := Lib.hid fun u hu => ho1 ▸ HC.out.out b p4 _ _ i SS u (Thing.next hs1 hu) HP4.out ⟨by omega, by omega⟩
                have HDU : Hid (∀ u, Below wr.heap.size wr u → Calls Try.prog 18 #[.pointer (some ⟨b, 0, none⟩), .int .i64 i] u fun e w' => e = .returned (.int .u64 nd) ∧ Below u.heap.size u w') := Lib.hid fun u hu => hd1 ▸ HC.out.due b p4 _ _ i SS u (Thing.next hs1 hu) HP4.out ⟨by omega, by omega⟩
                have HRX : Hid (∀ u, Below wr.heap.size wr u → u.cell? ⟨r, 0, none⟩ = some (.slice (some ⟨q.gd, 0, none⟩) m q.cd) ∧ u.cell? ⟨r, 1, none⟩ = some (.slice (some ⟨q.go, 0, none⟩) m q.co) ∧ u.cell? ⟨q.go, i, none⟩ = some (.int .u64 no) ∧ u.cell? ⟨q.gd, i, none⟩ = some (.int .u64 nd)) := Lib.hid fun u hu => by
                  have h2 := hs2.next hu
                  obtain ⟨t0, t1, _⟩ := h2.tops
                  have y1 := (h2.oat (j := i) (by simpa using hil)).1
                  have y2 := (h2.dat (j := i) (by simpa using hil)).1
                  rw [List.getElem_map, hno] at y1
                  rw [List.getElem_map, hnd] at y2
                  rw [HL4.out] at t0 t1
                  exact ⟨t0, t1, y1, y2⟩
                clear hs1 hs2 hno hnd ho1 hd1
                go_wp2_with fail
                refine wp_region_specs (S := fun u => Below wr.heap.size wr u) (Sp := [(125, Stb.eq (.pointer (some ⟨b, 0, none⟩))), (126, Stb.eq (.int .i64 i)), (127, Stb.eq (.int .u64 no)), (128, Stb.eq (.pointer (some ⟨r, 0, none⟩))), (129, Stb.eq (.pointer (some ⟨r, 0, none⟩))), (130, Stb.eq (.pointer (some ⟨r, 1, none⟩))), (131, Stb.eq (.slice (some ⟨q.go, 0, none⟩) m q.co)), (132, Stb.eq (.int .i64 i)), (133, Stb.eq (.pointer (some ⟨q.go, i, none⟩))), (134, Stb.eq (.int .u64 no)), (135, Stb.eq (.bool false)), (136, Stb.eq (.bool false)), (137, Stb.eq (.pointer (some ⟨b, 0, none⟩))), (138, Stb.eq (.int .i64 i)), (139, Stb.eq (.int .u64 nd)), (140, Stb.eq (.pointer (some ⟨r, 0, none⟩))), (141, Stb.eq (.pointer (some ⟨r, 0, none⟩))), (142, Stb.eq (.pointer (some ⟨r, 0, none⟩))), (143, Stb.eq (.slice (some ⟨q.gd, 0, none⟩) m q.cd)), (144, Stb.eq (.int .i64 i)), (145, Stb.eq (.pointer (some ⟨q.gd, i, none⟩))), (146, Stb.eq (.int .u64 nd)), (147, Stb.eq (.bool false)), (148, Stb.eq (.bool false))]) (by kernel_rfl) (by kernel_rfl) (kp_drewN _ 1) ?_ ?_
                · refine EachOp.cons ?_ ?_
                  · intro a u hst hS hdep
                    have h9 : a.tmps.getD 9 undef = .pointer (some ⟨b, 0, none⟩) := hst.out 9 (by kernel_rfl)
                    refine ⟨trivial, ?_⟩
                    have g9 := gd h9
                    go_simp
                    exact Goes.same hS rfl
                  refine EachOp.cons ?_ ?_
                  · intro a u hst hS hdep
                    have h21 : a.tmps.getD 21 undef = .int .i64 i := hst.out 21 (by kernel_rfl)
                    refine ⟨trivial, ?_⟩
                    have g21 := gd h21
                    go_simp
                    exact Goes.same hS rfl
                  refine EachOp.cons ?_ ?_
                  · intro a u hst hS hdep
                    have h125 : a.tmps.getD 125 undef = .pointer (some ⟨b, 0, none⟩) := hdep 125 (by kernel_rfl)
                    have h126 : a.tmps.getD 126 undef = .int .i64 i := hdep 126 (by kernel_rfl)
                    refine ⟨trivial, ?_⟩
                    have g125 := gd h125
                    have g126 := gd h126
                    go_simp
                    refine (HOU.out u hS).mono ?_
                    rintro e u' ⟨rfl, hb'⟩
                    exact Goes.next (kp_trans hS hb') hb' rfl
                  refine EachOp.cons ?_ ?_
                  · intro a u hst hS hdep
                    have h11 : a.tmps.getD 11 undef = .pointer (some ⟨r, 0, none⟩) := hst.out 11 (by kernel_rfl)
                    refine ⟨trivial, ?_⟩
                    have g11 := gd h11
                    go_simp
                    exact Goes.same hS rfl
                  refine EachOp.cons ?_ ?_
                  · intro a u hst hS hdep
                    have h128 : a.tmps.getD 128 undef = .pointer (some ⟨r, 0, none⟩) := hdep 128 (by kernel_rfl)
                    refine ⟨trivial, ?_⟩
                    have g128 := gd h128
                    go_simp
                    exact Goes.same hS rfl
                  refine EachOp.cons ?_ ?_
                  · intro a u hst hS hdep
                    have h129 : a.tmps.getD 129 undef = .pointer (some ⟨r, 0, none⟩) := hdep 129 (by kernel_rfl)
                    refine ⟨trivial, ?_⟩
                    have g129 := gd h129
                    go_simp
                    exact Goes.same hS rfl
                  refine EachOp.cons ?_ ?_
                  · intro a u hst hS hdep
                    have h130 : a.tmps.getD 130 undef = .pointer (some ⟨r, 1, none⟩) := hdep 130 (by kernel_rfl)
                    refine ⟨trivial, ?_⟩
                    have g130 := gd h130
                    obtain ⟨g0, g1, _, _⟩ := HRX.out u hS
                    go_simp
                    exact Goes.same hS rfl
                  refine EachOp.cons ?_ ?_
                  · intro a u hst hS hdep
                    have h21 : a.tmps.getD 21 undef = .int .i64 i := hst.out 21 (by kernel_rfl)
                    refine ⟨trivial, ?_⟩
                    have g21 := gd h21
                    go_simp
                    exact Goes.same hS rfl
                  refine EachOp.cons ?_ ?_
                  · intro a u hst hS hdep
                    have h131 : a.tmps.getD 131 undef = .slice (some ⟨q.go, 0, none⟩) m q.co := hdep 131 (by kernel_rfl)
                    have h132 : a.tmps.getD 132 undef = .int .i64 i := hdep 132 (by kernel_rfl)
                    refine ⟨trivial, ?_⟩
                    have g131 := gd h131
                    have g132 := gd h132
                    have hi0 : (0 : Int) ≤ (i : Int) := by omega
                    have hi1 : (i : Int) < (m : Int) := by omega
                    go_simp
                    exact Goes.same hS rfl
                  refine EachOp.cons ?_ ?_
                  · intro a u hst hS hdep
                    have h133 : a.tmps.getD 133 undef = .pointer (some ⟨q.go, i, none⟩) := hdep 133 (by kernel_rfl)
                    refine ⟨trivial, ?_⟩
                    have g133 := gd h133
                    obtain ⟨_, _, g2, _⟩ := HRX.out u hS
                    go_simp
                    exact Goes.same hS rfl
                  refine EachOp.cons ?_ ?_
                  · intro a u hst hS hdep
                    have h127 : a.tmps.getD 127 undef = .int .u64 no := hdep 127 (by kernel_rfl)
                    have h134 : a.tmps.getD 134 undef = .int .u64 no := hdep 134 (by kernel_rfl)
                    refine ⟨trivial, ?_⟩
                    have g127 := gd h127
                    have g134 := gd h134
                    go_simp
                    exact Goes.same hS rfl
                  refine EachOp.cons ?_ ?_
                  · intro a u hst hS hdep
                    have h135 : a.tmps.getD 135 undef = .bool false := hdep 135 (by kernel_rfl)
                    refine ⟨trivial, ?_⟩
                    have g135 := gd h135
                    go_simp
                    exact Goes.same hS rfl
                  refine EachOp.cons ?_ ?_
                  · intro a u hst hS hdep
                    have h9 : a.tmps.getD 9 undef = .pointer (some ⟨b, 0, none⟩) := hst.out 9 (by kernel_rfl)
                    have h136 : a.tmps.getD 136 undef = .bool false := hdep 136 (by kernel_rfl)
                    refine ⟨⟨136, by kernel_rfl, h136⟩, ?_⟩
                    clear h136
                    have g9 := gd h9
                    go_simp
                    exact Goes.same hS rfl
                  refine EachOp.cons ?_ ?_
                  · intro a u hst hS hdep
                    have h21 : a.tmps.getD 21 undef = .int .i64 i := hst.out 21 (by kernel_rfl)
                    have h136 : a.tmps.getD 136 undef = .bool false := hdep 136 (by kernel_rfl)
                    refine ⟨⟨136, by kernel_rfl, h136⟩, ?_⟩
                    clear h136
                    have g21 := gd h21
                    go_simp
                    exact Goes.same hS rfl
                  refine EachOp.cons ?_ ?_
                  · intro a u hst hS hdep
                    have h137 : a.tmps.getD 137 undef = .pointer (some ⟨b, 0, none⟩) := hdep 137 (by kernel_rfl)
                    have h138 : a.tmps.getD 138 undef = .int .i64 i := hdep 138 (by kernel_rfl)
                    have h136 : a.tmps.getD 136 undef = .bool false := hdep 136 (by kernel_rfl)
                    refine ⟨⟨136, by kernel_rfl, h136⟩, ?_⟩
                    clear h136
                    have g137 := gd h137
                    have g138 := gd h138
                    go_simp
                    refine (HDU.out u hS).mono ?_
                    rintro e u' ⟨rfl, hb'⟩
                    exact Goes.next (kp_trans hS hb') hb' rfl
                  refine EachOp.cons ?_ ?_
                  · intro a u hst hS hdep
                    have h11 : a.tmps.getD 11 undef = .pointer (some ⟨r, 0, none⟩) := hst.out 11 (by kernel_rfl)
                    have h136 : a.tmps.getD 136 undef = .bool false := hdep 136 (by kernel_rfl)
                    refine ⟨⟨136, by kernel_rfl, h136⟩, ?_⟩
                    clear h136
                    have g11 := gd h11
                    go_simp
                    exact Goes.same hS rfl
                  refine EachOp.cons ?_ ?_
                  · intro a u hst hS hdep
                    have h140 : a.tmps.getD 140 undef = .pointer (some ⟨r, 0, none⟩) := hdep 140 (by kernel_rfl)
                    have h136 : a.tmps.getD 136 undef = .bool false := hdep 136 (by kernel_rfl)
                    refine ⟨⟨136, by kernel_rfl, h136⟩, ?_⟩
                    clear h136
                    have g140 := gd h140
                    go_simp
                    exact Goes.same hS rfl
                  refine EachOp.cons ?_ ?_
                  · intro a u hst hS hdep
                    have h141 : a.tmps.getD 141 undef = .pointer (some ⟨r, 0, none⟩) := hdep 141 (by kernel_rfl)
                    have h136 : a.tmps.getD 136 undef = .bool false := hdep 136 (by kernel_rfl)
                    refine ⟨⟨136, by kernel_rfl, h136⟩, ?_⟩
                    clear h136
                    have g141 := gd h141
                    go_simp
                    exact Goes.same hS rfl
                  refine EachOp.cons ?_ ?_
                  · intro a u hst hS hdep
                    have h142 : a.tmps.getD 142 undef = .pointer (some ⟨r, 0, none⟩) := hdep 142 (by kernel_rfl)
                    have h136 : a.tmps.getD 136 undef = .bool false := hdep 136 (by kernel_rfl)
                    refine ⟨⟨136, by kernel_rfl, h136⟩, ?_⟩
                    clear h136
                    have g142 := gd h142
                    obtain ⟨g0, g1, _, _⟩ := HRX.out u hS
                    go_simp
                    exact Goes.same hS rfl
                  refine EachOp.cons ?_ ?_
                  · intro a u hst hS hdep
                    have h21 : a.tmps.getD 21 undef = .int .i64 i := hst.out 21 (by kernel_rfl)
                    have h136 : a.tmps.getD 136 undef = .bool false := hdep 136 (by kernel_rfl)
                    refine ⟨⟨136, by kernel_rfl, h136⟩, ?_⟩
                    clear h136
                    have g21 := gd h21
                    go_simp
                    exact Goes.same hS rfl
                  refine EachOp.cons ?_ ?_
                  · intro a u hst hS hdep
                    have h143 : a.tmps.getD 143 undef = .slice (some ⟨q.gd, 0, none⟩) m q.cd := hdep 143 (by kernel_rfl)
                    have h144 : a.tmps.getD 144 undef = .int .i64 i := hdep 144 (by kernel_rfl)
                    have h136 : a.tmps.getD 136 undef = .bool false := hdep 136 (by kernel_rfl)
                    refine ⟨⟨136, by kernel_rfl, h136⟩, ?_⟩
                    clear h136
                    have g143 := gd h143
                    have g144 := gd h144
                    have hi0 : (0 : Int) ≤ (i : Int) := by omega
                    have hi1 : (i : Int) < (m : Int) := by omega
                    go_simp
                    exact Goes.same hS rfl
                  refine EachOp.cons ?_ ?_
                  · intro a u hst hS hdep
                    have h145 : a.tmps.getD 145 undef = .pointer (some ⟨q.gd, i, none⟩) := hdep 145 (by kernel_rfl)
                    have h136 : a.tmps.getD 136 undef = .bool false := hdep 136 (by kernel_rfl)
                    refine ⟨⟨136, by kernel_rfl, h136⟩, ?_⟩
                    clear h136
                    have g145 := gd h145
                    obtain ⟨_, _, _, g3⟩ := HRX.out u hS
                    go_simp
                    exact Goes.same hS rfl
                  refine EachOp.cons ?_ ?_
                  · intro a u hst hS hdep
                    have h139 : a.tmps.getD 139 undef = .int .u64 nd := hdep 139 (by kernel_rfl)
                    have h146 : a.tmps.getD 146 undef = .int .u64 nd := hdep 146 (by kernel_rfl)
                    have h136 : a.tmps.getD 136 undef = .bool false := hdep 136 (by kernel_rfl)
                    refine ⟨⟨136, by kernel_rfl, h136⟩, ?_⟩
                    clear h136
                    have g139 := gd h139
                    have g146 := gd h146
                    go_simp
                    exact Goes.same hS rfl
                  refine EachOp.cons ?_ ?_
                  · intro a u hst hS hdep
                    have h136 : a.tmps.getD 136 undef = .bool false := hdep 136 (by kernel_rfl)
                    have h147 : a.tmps.getD 147 undef = .bool false := hdep 147 (by kernel_rfl)
                    refine ⟨trivial, ?_⟩
                    have g136 := gd h136
                    have g147 := gd h147
                    go_simp
                    exact Goes.same hS rfl
                  exact EachOp.nil
                · intro a u hst hS hdep
                  have h125 : a.tmps.getD 125 undef = .pointer (some ⟨b, 0, none⟩) := hdep 125 (by kernel_rfl)
                  have h126 : a.tmps.getD 126 undef = .int .i64 i := hdep 126 (by kernel_rfl)
                  have h127 : a.tmps.getD 127 undef = .int .u64 no := hdep 127 (by kernel_rfl)
                  have h128 : a.tmps.getD 128 undef = .pointer (some ⟨r, 0, none⟩) := hdep 128 (by kernel_rfl)
                  have h129 : a.tmps.getD 129 undef = .pointer (some ⟨r, 0, none⟩) := hdep 129 (by kernel_rfl)
                  have h130 : a.tmps.getD 130 undef = .pointer (some ⟨r, 1, none⟩) := hdep 130 (by kernel_rfl)
                  have h131 : a.tmps.getD 131 undef = .slice (some ⟨q.go, 0, none⟩) m q.co := hdep 131 (by kernel_rfl)
                  have h132 : a.tmps.getD 132 undef = .int .i64 i := hdep 132 (by kernel_rfl)
                  have h133 : a.tmps.getD 133 undef = .pointer (some ⟨q.go, i, none⟩) := hdep 133 (by kernel_rfl)
                  have h134 : a.tmps.getD 134 undef = .int .u64 no := hdep 134 (by kernel_rfl)
                  have h135 : a.tmps.getD 135 undef = .bool false := hdep 135 (by kernel_rfl)
                  have h136 : a.tmps.getD 136 undef = .bool false := hdep 136 (by kernel_rfl)
                  have h137 : a.tmps.getD 137 undef = .pointer (some ⟨b, 0, none⟩) := hdep 137 (by kernel_rfl)
                  have h138 : a.tmps.getD 138 undef = .int .i64 i := hdep 138 (by kernel_rfl)
                  have h139 : a.tmps.getD 139 undef = .int .u64 nd := hdep 139 (by kernel_rfl)
                  have h140 : a.tmps.getD 140 undef = .pointer (some ⟨r, 0, none⟩) := hdep 140 (by kernel_rfl)
                  have h141 : a.tmps.getD 141 undef = .pointer (some ⟨r, 0, none⟩) := hdep 141 (by kernel_rfl)
                  have h142 : a.tmps.getD 142 undef = .pointer (some ⟨r, 0, none⟩) := hdep 142 (by kernel_rfl)
                  have h143 : a.tmps.getD 143 undef = .slice (some ⟨q.gd, 0, none⟩) m q.cd := hdep 143 (by kernel_rfl)
                  have h144 : a.tmps.getD 144 undef = .int .i64 i := hdep 144 (by kernel_rfl)
                  have h145 : a.tmps.getD 145 undef = .pointer (some ⟨q.gd, i, none⟩) := hdep 145 (by kernel_rfl)
                  have h146 : a.tmps.getD 146 undef = .int .u64 nd := hdep 146 (by kernel_rfl)
                  have h147 : a.tmps.getD 147 undef = .bool false := hdep 147 (by kernel_rfl)
                  have h148 : a.tmps.getD 148 undef = .bool false := hdep 148 (by kernel_rfl)
                  have hfr := hst.frame [(125, .pointer (some ⟨b, 0, none⟩)), (126, .int .i64 i), (127, .int .u64 no), (128, .pointer (some ⟨r, 0, none⟩)), (129, .pointer (some ⟨r, 0, none⟩)), (130, .pointer (some ⟨r, 1, none⟩)), (131, .slice (some ⟨q.go, 0, none⟩) m q.co), (132, .int .i64 i), (133, .pointer (some ⟨q.go, i, none⟩)), (134, .int .u64 no), (135, .bool false), (136, .bool false), (137, .pointer (some ⟨b, 0, none⟩)), (138, .int .i64 i), (139, .int .u64 nd), (140, .pointer (some ⟨r, 0, none⟩)), (141, .pointer (some ⟨r, 0, none⟩)), (142, .pointer (some ⟨r, 0, none⟩)), (143, .slice (some ⟨q.gd, 0, none⟩) m q.cd), (144, .int .i64 i), (145, .pointer (some ⟨q.gd, i, none⟩)), (146, .int .u64 nd), (147, .bool false), (148, .bool false)] (by kernel_rfl) ⟨h125, h126, h127, h128, h129, h130, h131, h132, h133, h134, h135, h136, h137, h138, h139, h140, h141, h142, h143, h144, h145, h146, h147, h148, trivial⟩
                  clear hst hdep h125 h126 h127 h128 h129 h130 h131 h132 h133 h134 h135 h136 h137 h138 h139 h140 h141 h142 h143 h144 h145 h146 h147 h148
                  subst hfr
                  simp only [List.foldl_cons, List.foldl_nil, List.setIfInBounds_toArray, List.set_cons_zero, List.set_cons_succ]
                  have HDZ := Lib.hid (hd.out.next hS)
                  have HXZ := Lib.hid ((hS.block xb (Array.getElem?_eq_some_iff.1 hxc.out).1).trans hxc.out)
                  clear hS HRX HOU HDU hd hxc
                  go_wp2_with fail
                  go_roundw
                  case rel => exact ⟨i + 1, Nat.succ_le_of_lt hlt, by go_num, HDZ, HXZ⟩
                  case measure => simp [intOf]; omega
              · obtain rfl : i = m := by omega
                have HX4 := Lib.hid hxc.out
                have hxz : wr.heap[xb]? = some (.cells #[.int .i64 t.d, .int .i64 t.x, .int .u64 t.y] 34) := hxc.out
                obtain ⟨x0, _⟩ := cellsAt hxz 0 (v := .int .i64 t.d) rfl
                obtain ⟨x1, _⟩ := cellsAt hxz 1 (v := .int .i64 t.x) rfl
                have HDZ := hd
                clear hxz hxc hd
                by_cases hin : 0 ≤ t.x ∧ t.x < (i : Int)
                · have e1 : ¬ t.x < 0 := by omega
                  have e2 : ¬ (i : Int) ≤ t.x := by omega
                  clear hin
                  go_wp2_with fail
                  go_roundw
                  case rel => exact ⟨k + 1, now, p4, by omega, by go_num, by go_num, by omega, by omega, HP4, HL4, HDZ⟩
                  case measure => simp [intOf]; omega
                · have ho0 : outP p4 t.x = 0 := outP_no (by rw [HL4.out]; exact hin)
                  have hd0 : dueP p4 t.x = 0 := dueP_no (by rw [HL4.out]; exact hin)
                  obtain ⟨SS, TT, hs1, _⟩ := HDZ.out.at_
                  have HO := HC.out.out b p4 _ _ t.x SS wr hs1 HP4.out HTX.out
                  rw [ho0] at HO
                  have HO := Lib.hid HO
                  have HD0 := Lib.hid hd0
                  clear hs1 hd0
                  by_cases e1 : t.x < 0
                  · clear hin ho0
                    go_wp2_with fail
                    refine HO.out.mono ?_
                    rintro e w8 ⟨rfl, k8⟩
                    have HD8 := Lib.hid (HDZ.out.next k8)
                    have hx8 := (k8.block xb (Array.getElem?_eq_some_iff.1 HX4.out).1).trans HX4.out
                    obtain ⟨x1, _⟩ := cellsAt hx8 1 (v := .int .i64 t.x) rfl
                    obtain ⟨SS8, TT8, hs8, _⟩ := HD8.out.at_
                    have HO2 := HC.out.due b p4 _ _ t.x SS8 w8 hs8 HP4.out HTX.out
                    rw [HD0.out] at HO2
                    have HO2 := Lib.hid HO2
                    clear HO HDZ k8 hx8 hs8 x0
                    go_wp2_with fail
                    refine HO2.out.mono ?_
                    rintro e w9 ⟨rfl, k9⟩
                    have HD9 := Lib.hid (HD8.out.next k9)
                    clear HO2 HD8 k9 x1
                    go_wp2_with fail
                    go_roundw
                    case rel => exact ⟨k + 1, now, p4, by omega, by go_num, by go_num, by omega, by omega, HP4, HL4, HD9⟩
                    case measure => simp [intOf]; omega
                  · have e2 : (i : Int) ≤ t.x := by omega
                    clear hin ho0
                    go_wp2_with fail
                    refine HO.out.mono ?_
                    rintro e w8 ⟨rfl, k8⟩
                    have HD8 := Lib.hid (HDZ.out.next k8)
                    have hx8 := (k8.block xb (Array.getElem?_eq_some_iff.1 HX4.out).1).trans HX4.out
                    obtain ⟨x1, _⟩ := cellsAt hx8 1 (v := .int .i64 t.x) rfl
                    obtain ⟨SS8, TT8, hs8, _⟩ := HD8.out.at_
                    have HO2 := HC.out.due b p4 _ _ t.x SS8 w8 hs8 HP4.out HTX.out
                    rw [HD0.out] at HO2
                    have HO2 := Lib.hid HO2
                    clear HO HDZ k8 hx8 hs8 x0
                    go_wp2_with fail
                    refine HO2.out.mono ?_
                    rintro e w9 ⟨rfl, k9⟩
                    have HD9 := Lib.hid (HD8.out.next k9)
                    clear HO2 HD8 k9 x1
                    go_wp2_with fail
                    go_roundw
                    case rel => exact ⟨k + 1, now, p4, by omega, by go_num, by go_num, by omega, by omega, HP4, HL4, HD9⟩
                    case measure => simp [intOf]; omega
    · have HLW := Lib.hid hD.out.low
      clear hD
      go_wp2_with fail
      go_ret
      exact ⟨rfl, HLW.out⟩
end Go.Proofs.Ytgneieelfapmcaa
