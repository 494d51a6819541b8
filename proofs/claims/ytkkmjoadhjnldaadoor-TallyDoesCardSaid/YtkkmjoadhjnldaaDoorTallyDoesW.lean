/-
  TallyDoes, of layer 7: the walk.
-/
import Derived.Test.YtkkmjoadhjnldaaDoorTaD
import Derived.Test.YtkkmjoadhjnldaaDoorAwake7
namespace Go.Proofs.YtkkmjoadhjnldaaDoor
open Go.RowKit
set_option maxRecDepth 100000

theorem AR.next {w w' : World} {A : Option Addr} {n : Nat} {ts : List Act7} (h : AR w A n ts) (hb : Below w.heap.size w w') : AR w' A n ts := ⟨h.len, (h.rd.below hb (Nat.le_refl _)).more hb.size⟩

set_option maxHeartbeats 16000000 in
theorem tallydoes_walk (A0 : Option Addr) (l0 c0 : Nat) (ss : List ByteArray) (A1 : Option Addr) (l1 c1 : Nat) (ts : List Act7) (W : World) (r0 : XR W A0 l0 ss) (r1 : AR W A1 l1 ts)
    (g1 : ∀ t ∈ ts, t.s.size ≤ 140737488351232 ∧ (-9223372036854775808 ≤ t.n ∧ t.n ≤ 9223372036854775807) ∧ (-9223372036854775808 ≤ t.m ∧ t.m ≤ 9223372036854775807)) (htab : Lib.TabIs Tryd.prog W tabName .u64 Lib.pow10Tab) :
    Calls Tryd.prog 3 #[.slice A0 l0 c0, .slice A1 l1 c1] W fun e w' => e = .returned (.bool true) ∧ Below W.heap.size W w' := by
  have HAW := Lib.hid (awake7_ok W htab)
  have HTAB := Lib.hid htab
  have R0 := Lib.hid r0
  have R1 := Lib.hid r1
  have G1 := Lib.hid g1
  obtain ⟨lg, hlg⟩ : ∃ lg, largeT ss ts = lg := ⟨_, rfl⟩
  have HLG := Lib.hid hlg
  clear r0 r1 g1 htab hlg
  go_enter Tryd.func3, Tryd.ntmps3
  go_wp2_with fail
  refine HAW.out.mono ?_
  rintro e w1 ⟨rfl, k1⟩
  clear HAW
  cases lg with
  | true =>
    go_wp2_with fail
    refine (large7_ok A0 A1 l0 c0 l1 c1 ss ts w1 (R0.out.next k1) (R1.out.next k1) true HLG).mono ?_
    rintro e w2 ⟨rfl, k2⟩
    have K2 := kp_trans k1 k2
    go_wp2_with fail
    go_ret
    exact ⟨rfl, K2⟩
  | false =>
  obtain ⟨n1, n2, n3, n4⟩ := large_no HLG.out
  have hl0 := R0.out.len
  have hl1 := R1.out.len
  have N3 := Lib.hid n3
  have N4 := Lib.hid n4
  have HL0 := Lib.hid (show l0 ≤ 100 by omega)
  have HL1 := Lib.hid (show l1 ≤ 100 by omega)
  have HN1 := Lib.hid hl1
  clear n1 n2 n3 n4 hl0 hl1
  go_wp2_with fail
  refine (large7_ok A0 A1 l0 c0 l1 c1 ss ts w1 (R0.out.next k1) (R1.out.next k1) false HLG).mono ?_
  rintro e w2 ⟨rfl, k2⟩
  have K2 := kp_trans k1 k2
  go_wp2_with fail
  refine (pnew_ok A0 l0 c0 ss w2 (R0.out.next K2) (by have := HL0.out; omega) (fun s hs => by have := N3.out s hs; omega)).mono ?_
  rintro e w3 ⟨S, b, rfl, p3, s3, k3⟩
  have K3 := kp_trans K2 k3
  have P3 := Lib.hid p3
  have S3 := Lib.hid s3
  have HK3 := Lib.hid K3
  have HZ2 := Lib.hid K2.size
  clear p3 s3 k3 K2 k1 k2
  go_wp2_with fail
  refine (rnew_ok A0 l0 c0 ss w3 (R0.out.next HK3.out) (by have := HL0.out; omega)).mono ?_
  rintro e w4 ⟨B, rfl, p4, k4⟩
  obtain ⟨lo, hlo⟩ : ∃ lo, lo = w3.heap.size := ⟨_, rfl⟩
  obtain ⟨rb, hrb⟩ : ∃ rb, rb = w3.heap.size := ⟨_, rfl⟩
  rw [← hrb]
  rw [← hlo] at p4
  have P4 : Hid (RT lo w4.heap.size w4 rb B (newT ss) (zeros (newT ss).length)) := Lib.hid (by rw [show rb = lo from hrb.trans hlo.symm]; exact p4)
  have Q4 := Lib.hid (P3.out.next k4)
  have HK4 := Lib.hid (kp_trans HK3.out k4)
  have HS4 : Hid (∀ k, S k → W.heap.size ≤ k ∧ (k < lo ∨ w4.heap.size ≤ k)) := Lib.hid fun k hk => ⟨by have := S3.out k hk; have := HZ2.out; omega, .inl (by have := P3.out.lt k hk; omega)⟩
  have HLO : Hid (W.heap.size ≤ lo) := Lib.hid (by have := HK3.out.size; omega)
  have HRB : Hid (lo ≤ rb ∧ rb < w4.heap.size) := Lib.hid P4.out.inb
  obtain ⟨hi, hhi⟩ : ∃ hi, hi = w4.heap.size := ⟨_, rfl⟩
  rw [← hhi] at P4 HS4 HRB
  have HHI := Lib.hid hhi
  obtain ⟨ns, hns⟩ : ∃ ns, ns = newT ss := ⟨_, rfl⟩
  rw [← hns] at P4 Q4
  obtain ⟨cs, hcs⟩ : ∃ cs, cs = zeros ns.length := ⟨_, rfl⟩
  have HI0 : Hid (InT cs) := Lib.hid (by rw [hcs]; exact InT.zeros _)
  rw [← hcs] at P4 Q4
  clear p4 k4 P3 S3 hlo hrb hhi hns hcs HK3
  obtain ⟨A', m', ca', mm', cb', hb', hx', _, ux', _⟩ := P4.out.lay
  have hRN : ∀ u, Off S w4.drew u → u.cell? ⟨rb, 0, none⟩ = some (.slice A' m' ca') ∧ XR u A' m' ns := fun u hu => by
    have hnS : ∀ k, lo ≤ k → k < hi → ¬ S k := fun k h1 h2 hk => by have := (HS4.out k hk).2; omega
    have e1 := (hu.block rb (show rb < w4.heap.size from (Array.getElem?_eq_some_iff.1 hb').1) (hnS rb HRB.out.1 HRB.out.2)).trans hb'
    refine ⟨(cells2t e1).1, XR.of_own (own_keep hx' fun g e => hu.block g (hx'.lt g e).2 (hnS g (hx'.lt g e).1 (ux' g e)))⟩
  have HRN := Lib.hid hRN
  have hm9 : m' ≤ 900 := by
    have e1 := hx'.1
    rw [tvs_length] at e1
    have e2 := Q4.out.len.2
    omega
  have HM9 := Lib.hid hm9
  have HST : Hid (DSt S w4.heap.size lo hi b rb B ss ns cs cs w4.drew false false w4.drew) := Lib.hid (DSt.start Q4.out.drew P4.out.drew (Nat.le_refl _))
  have HSo : Hid (∀ k, S k → k < lo ∨ hi ≤ k) := Lib.hid fun k hk => (HS4.out k hk).2
  have HZ4 : Hid (hi ≤ w4.heap.size ∧ W.heap.size ≤ w4.heap.size) := Lib.hid ⟨Nat.le_of_eq HHI.out, HK4.out.size⟩
  have HK4d : Hid (Below W.heap.size W w4.drew) := Lib.hid HK4.out.drew
  clear hm9 hRN hb' hx' ux' P4 Q4
  go_wp2_with fail
  refine wp_region_specs3 (S := fun L u => DSt S w4.heap.size lo hi b rb B ss ns cs cs w4.drew (L 1) false u ∧ Off S w4.drew u) (Bad := S) (Sp := [(23, Sta.eq (.pointer (some ⟨b, 0, none⟩))), (24, nmSta S ns), (25, Sta.eq (.pointer (some ⟨rb, 0, none⟩))), (26, Sta.eq (.pointer (some ⟨rb, 0, none⟩))), (27, Sta.eq (.pointer (some ⟨rb, 0, none⟩))), (28, Sta.eq (.slice A' m' ca')), (29, Sta.eq (.bool true)), (30, Sta.eq (.bool false))]) (by kernel_rfl) (by kernel_rfl) (⟨HST.out, Off.refl _ _⟩) ?_ ?_
  · refine EachOp.cons ?_ ?_
    · intro L a u hL hst hS hdep
      have h5 : a.tmps.getD 5 undef = .pointer (some ⟨b, 0, none⟩) := hst.out 5 (by kernel_rfl)
      refine ⟨trivial, ?_⟩
      have g5 := gd h5
      go_simp
      exact Went.same hS rfl
    refine EachOp.cons ?_ ?_
    · intro L a u hL hst hS hdep
      have h23 : a.tmps.getD 23 undef = .pointer (some ⟨b, 0, none⟩) := hdep 23 (by kernel_rfl)
      refine ⟨trivial, ?_⟩
      have g23 := gd h23
      go_simp
      have hS1 : DSt S w4.heap.size lo hi b rb B ss ns cs cs w4.drew false false u := by have h := hS.1; simp only [hL] at h; exact h
      refine (names7_ok S b ss ns cs u hS1.p).mono ?_
      rintro e u' ⟨A, n, c, rfl, hx, hn, hA, hp⟩
      have hp2 := hS1.pdone HSo.out hp
      exact Went.next ⟨hp2.1, hS.2.trans hp.off (fun _ h => .inl h)⟩ hp.off ⟨A, n, c, rfl, hx, hn, fun ad e => ⟨(hA ad e).2, fun hk => by have h1 := hS1.p.lt _ hk; have h2 := (hA ad e).1; omega⟩⟩
    refine EachOp.cons ?_ ?_
    · intro L a u hL hst hS hdep
      have h6 : a.tmps.getD 6 undef = .pointer (some ⟨rb, 0, none⟩) := hst.out 6 (by kernel_rfl)
      refine ⟨trivial, ?_⟩
      have g6 := gd h6
      go_simp
      exact Went.same hS rfl
    refine EachOp.cons ?_ ?_
    · intro L a u hL hst hS hdep
      have h25 : a.tmps.getD 25 undef = .pointer (some ⟨rb, 0, none⟩) := hdep 25 (by kernel_rfl)
      refine ⟨trivial, ?_⟩
      have g25 := gd h25
      have c26 := (HRN.out u hS.2).1
      go_simp
      exact Went.same hS rfl
    refine EachOp.cons ?_ ?_
    · intro L a u hL hst hS hdep
      have h26 : a.tmps.getD 26 undef = .pointer (some ⟨rb, 0, none⟩) := hdep 26 (by kernel_rfl)
      refine ⟨trivial, ?_⟩
      have g26 := gd h26
      go_simp
      exact Went.same hS rfl
    refine EachOp.cons ?_ ?_
    · intro L a u hL hst hS hdep
      have h27 : a.tmps.getD 27 undef = .pointer (some ⟨rb, 0, none⟩) := hdep 27 (by kernel_rfl)
      refine ⟨trivial, ?_⟩
      have g27 := gd h27
      have c28 := (HRN.out u hS.2).1
      go_simp
      exact Went.same hS rfl
    refine EachOp.cons ?_ ?_
    · intro L a u hL hst hS hdep
      obtain ⟨A24, n24, c24, h24, r24, z24, o24⟩ := hdep 24 (by kernel_rfl)
      have h28 : a.tmps.getD 28 undef = .slice A' m' ca' := hdep 28 (by kernel_rfl)
      refine ⟨trivial, ?_⟩
      have g24 := gd h24
      have g28 := gd h28
      go_simp
      refine (texts6_ok A24 A' n24 m' c24 ca' ns ns u r24 (HRN.out u hS.2).2 (by omega) (by have := HM9.out; omega) true (Lib.hid (by simp))).mono ?_
      rintro e u' ⟨rfl, q, rfl⟩
      have kq := kp_drewN u q
      have hS2 : DSt S w4.heap.size lo hi b rb B ss ns cs cs w4.drew (L 1) false (u.drewN q) := by
        obtain ⟨s1, s2, s3, s4⟩ := hS.1
        refine ⟨s1.trans (Off.of (fun _ => False) kq) (fun _ h => h.elim), Nat.le_trans s2 kq.size, ?_, s4.off (Off.of (fun _ => False) kq) fun _ h => h.elim⟩
        generalize L 1 = f at *
        cases f with
        | false => exact PT.next s3 kq
        | true => obtain ⟨S', e1, e2⟩ := s3; exact ⟨S', e1.next kq, e2⟩
      exact Went.next ⟨hS2, hS.2.trans (Off.of (fun _ => False) kq) (fun _ h => h.elim)⟩ (Off.of _ kq) rfl
    refine EachOp.cons ?_ ?_
    · intro L a u hL hst hS hdep
      have h29 : a.tmps.getD 29 undef = .bool true := hdep 29 (by kernel_rfl)
      refine ⟨trivial, ?_⟩
      have g29 := gd h29
      go_simp
      exact Went.same hS rfl
    exact EachOp.nil
  · intro L a u hLs hst hS hdep
    have h23 : a.tmps.getD 23 undef = .pointer (some ⟨b, 0, none⟩) := hdep 23 (by kernel_rfl)
    obtain ⟨A24, n24, c24, h24, r24, z24, o24⟩ := hdep 24 (by kernel_rfl)
    have h25 : a.tmps.getD 25 undef = .pointer (some ⟨rb, 0, none⟩) := hdep 25 (by kernel_rfl)
    have h26 : a.tmps.getD 26 undef = .pointer (some ⟨rb, 0, none⟩) := hdep 26 (by kernel_rfl)
    have h27 : a.tmps.getD 27 undef = .pointer (some ⟨rb, 0, none⟩) := hdep 27 (by kernel_rfl)
    have h28 : a.tmps.getD 28 undef = .slice A' m' ca' := hdep 28 (by kernel_rfl)
    have h29 : a.tmps.getD 29 undef = .bool true := hdep 29 (by kernel_rfl)
    have h30 : a.tmps.getD 30 undef = .bool false := hdep 30 (by kernel_rfl)
    have hfr := hst.frame [(23, .pointer (some ⟨b, 0, none⟩)), (24, .slice A24 n24 c24), (25, .pointer (some ⟨rb, 0, none⟩)), (26, .pointer (some ⟨rb, 0, none⟩)), (27, .pointer (some ⟨rb, 0, none⟩)), (28, .slice A' m' ca'), (29, .bool true), (30, .bool false)] (by kernel_rfl) ⟨h23, h24, h25, h26, h27, h28, h29, h30, trivial⟩
    clear hst hdep h23 h24 h25 h26 h27 h28 h29 h30
    subst hfr
    simp only [List.foldl_cons, List.foldl_nil, List.setIfInBounds_toArray, List.set_cons_zero, List.set_cons_succ]
    have hl1 := hLs 1 (by kernel_rfl)
    have hS3 : DSt S w4.heap.size lo hi b rb B ss ns cs cs w4.drew true true u := by have h := hS.1.both; simp only [hl1] at h; exact h
    have HPD : Hid (PD W lo hi b rb B ss ns cs u) := Lib.hid (hS3.pd HS4.out HZ4.out HLO.out HK4d.out)
    clear hS3 hl1 hS hLs HST HRN HM9 HSo HS4 HK4 HK4d HHI HZ4 HRB r24 z24 o24
    obtain ⟨w5, hw5⟩ : ∃ x, x = u := ⟨u, rfl⟩
    subst hw5
    go_wp2_with fail
    go_loopw [33] (fun i wr => ∃ (k : Nat) (cs : List Int), k ≤ l1 ∧ i = .int .i64 k ∧ Hid (PD W lo hi b rb B ss ns cs wr) ∧ Hid (InT cs)) (fun i _ => l1 - (intOf i).toNat)
    case atStart => exact ⟨0, cs, Nat.zero_le _, rfl, HPD, HI0⟩
    case round =>
      obtain ⟨k, cs2, hk, rfl, hPD, hIN⟩ := hrel
      have hl100 := HL1.out
      by_cases hlt : k < l1
      · have hkl : k < ts.length := by rw [HN1.out]; exact hlt
        obtain ⟨ad, rfl, had, hcc⟩ := R1.out.at_ hkl
        obtain ⟨x0, x1, x2, x3⟩ := hcc wr hPD.out.low
        have hsz := N4.out ts[k] (List.getElem_mem hkl)
        have hbd := G1.out ts[k] (List.getElem_mem hkl)
        clear hcc
        generalize ts[k] = x at *
        obtain ⟨d, s, n, m⟩ := x
        dsimp only at x0 x1 x2 x3 hsz hbd
        have hPX := hPD.out.x (.cells #[.int .i64 d, .string s, .int .i64 n, .int .i64 m] 36)
        have y1 : (wr.alloc (.cells #[.int .i64 d, .string s, .int .i64 n, .int .i64 m] 36)).cell? ⟨wr.heap.size, 1, none⟩ = some (.string s) := by simp
        have y2 : (wr.alloc (.cells #[.int .i64 d, .string s, .int .i64 n, .int .i64 m] 36)).cell? ⟨wr.heap.size, 2, none⟩ = some (.int .i64 n) := by simp
        have y3 : (wr.alloc (.cells #[.int .i64 d, .string s, .int .i64 n, .int .i64 m] 36)).cell? ⟨wr.heap.size, 3, none⟩ = some (.int .i64 m) := by simp
        obtain ⟨wx, hwx⟩ : ∃ x, wr.alloc (.cells #[.int .i64 d, .string s, .int .i64 n, .int .i64 m] 36) = x := ⟨_, rfl⟩
        rw [hwx] at hPX y1 y2 y3
        have HWX := Lib.hid hwx
        have HY1 := Lib.hid y1
        have HY2 := Lib.hid y2
        have HY3 := Lib.hid y3
        have HPX := Lib.hid hPX
        have HSZ := Lib.hid (show s.size ≤ 1000 by omega)
        have HBD := Lib.hid hbd
        obtain ⟨X, hX⟩ : ∃ X, X = wr.heap.size := ⟨_, rfl⟩
        rw [← hX] at HY1 HY2 HY3 HPX
        have HX := Lib.hid hX
        clear hPX y1 y2 y3 hwx hsz hbd hX
        by_cases hd0 : d = 0
        · subst hd0
          have hPX := HPX.out
          obtain ⟨⟨S, q1, q2⟩, q3, q4, q5, q6⟩ := hPX
          have HQ2 := Lib.hid q2
          have HSo : Hid (∀ k, S k → k < lo ∨ hi ≤ k) := Lib.hid fun k hk => (q2 k hk).2.1
          have hXN : X < wx.drew.heap.size ∧ ¬ (S X ∨ Mid lo hi X) := ⟨q6, fun h => h.elim (fun h => (q2 X h).2.2 rfl) (fun h => by unfold Mid at h; have := hPD.out.mid; have := HX.out; omega)⟩
          have HXN := Lib.hid hXN
          have HST : Hid (DSt S wx.heap.size lo hi b rb B ss ns cs2 (addT ns cs2 s n) wx.drew false false wx.drew) := Lib.hid (DSt.start q1.drew q3.drew (Nat.le_refl _))
          have HZ : Hid (hi ≤ wx.heap.size ∧ W.heap.size ≤ wx.heap.size ∧ X < wx.heap.size) := Lib.hid ⟨q4.2, q5.size, q6⟩
          have HLO2 : Hid (W.heap.size ≤ lo) := Lib.hid q4.1
          have HKx : Hid (Below W.heap.size W wx.drew) := Lib.hid q5.drew
          clear q1 q2 q3 q4 q5 q6 hXN
          obtain ⟨pb, HPB⟩ : ∃ pb, Hid (decide (0 ≤ placeT s ns) = pb) := ⟨_, Lib.hid rfl⟩
          go_wp2_with fail
          rw [HWX.out]
          refine wp_region_specs3 (S := fun L u => DSt S wx.heap.size lo hi b rb B ss ns cs2 (addT ns cs2 s n) wx.drew (L 5) (L 11) u) (Bad := fun k => S k ∨ Mid lo hi k) (Sp := [(41, Sta.eq (.pointer (some ⟨b, 0, none⟩))), (42, Sta.eq (.pointer (some ⟨wr.heap.size, 1, none⟩))), (43, Sta.eq (.string s)), (44, Sta.eq (.pointer (some ⟨wr.heap.size, 2, none⟩))), (45, Sta.eq (.int .i64 n)), (46, Sta.eq (.bool pb)), (47, Sta.eq (.pointer (some ⟨rb, 0, none⟩))), (48, Sta.eq (.pointer (some ⟨wr.heap.size, 1, none⟩))), (49, Sta.eq (.string s)), (50, Sta.eq (.pointer (some ⟨wr.heap.size, 2, none⟩))), (51, Sta.eq (.int .i64 n)), (52, Sta.eq (.bool pb)), (53, Sta.eq (.bool true)), (9, Sta.eq (.bool true))]) (by kernel_rfl) (by kernel_rfl) (HST.out) ?_ ?_
          · refine EachOp.cons ?_ ?_
            · intro L a u hL hst hS hdep
              have h5 : a.tmps.getD 5 undef = .pointer (some ⟨b, 0, none⟩) := hst.out 5 (by kernel_rfl)
              refine ⟨trivial, ?_⟩
              have g5 := gd h5
              go_simp
              exact Went.same hS rfl
            refine EachOp.cons ?_ ?_
            · intro L a u hL hst hS hdep
              have h8 : a.tmps.getD 8 undef = .pointer (some ⟨wr.heap.size, 0, none⟩) := hst.out 8 (by kernel_rfl)
              refine ⟨trivial, ?_⟩
              have g8 := gd h8
              go_simp
              exact Went.same hS rfl
            refine EachOp.cons ?_ ?_
            · intro L a u hL hst hS hdep
              have h42 : a.tmps.getD 42 undef = .pointer (some ⟨wr.heap.size, 1, none⟩) := hdep 42 (by kernel_rfl)
              refine ⟨trivial, ?_⟩
              have g42 := gd h42
              have c43 := (DSt.cell hS HXN.out.1 HXN.out.2 1).trans HY1.out
              rw [HX.out] at c43
              go_simp
              exact Went.same hS rfl
            refine EachOp.cons ?_ ?_
            · intro L a u hL hst hS hdep
              have h8 : a.tmps.getD 8 undef = .pointer (some ⟨wr.heap.size, 0, none⟩) := hst.out 8 (by kernel_rfl)
              refine ⟨trivial, ?_⟩
              have g8 := gd h8
              go_simp
              exact Went.same hS rfl
            refine EachOp.cons ?_ ?_
            · intro L a u hL hst hS hdep
              have h44 : a.tmps.getD 44 undef = .pointer (some ⟨wr.heap.size, 2, none⟩) := hdep 44 (by kernel_rfl)
              refine ⟨trivial, ?_⟩
              have g44 := gd h44
              have c45 := (DSt.cell hS HXN.out.1 HXN.out.2 2).trans HY2.out
              rw [HX.out] at c45
              go_simp
              exact Went.same hS rfl
            refine EachOp.cons ?_ ?_
            · intro L a u hL hst hS hdep
              have h41 : a.tmps.getD 41 undef = .pointer (some ⟨b, 0, none⟩) := hdep 41 (by kernel_rfl)
              have h43 : a.tmps.getD 43 undef = .string s := hdep 43 (by kernel_rfl)
              have h45 : a.tmps.getD 45 undef = .int .i64 n := hdep 45 (by kernel_rfl)
              refine ⟨trivial, ?_⟩
              have g41 := gd h41
              have g43 := gd h43
              have g45 := gd h45
              go_simp
              have hS1 : DSt S wx.heap.size lo hi b rb B ss ns cs2 (addT ns cs2 s n) wx.drew false (L 11) u := by have h := hS; simp only [hL] at h; exact h
              refine (add7_ok S b ss ns cs2 s n u hS1.p HSZ.out).mono ?_
              rintro e u' ⟨rfl, hp⟩
              obtain ⟨t1, t2⟩ := hS1.pdone HSo.out (hp)
              rw [HPB.out]
              exact Went.next t1 t2 rfl
            refine EachOp.cons ?_ ?_
            · intro L a u hL hst hS hdep
              have h6 : a.tmps.getD 6 undef = .pointer (some ⟨rb, 0, none⟩) := hst.out 6 (by kernel_rfl)
              refine ⟨trivial, ?_⟩
              have g6 := gd h6
              go_simp
              exact Went.same hS rfl
            refine EachOp.cons ?_ ?_
            · intro L a u hL hst hS hdep
              have h8 : a.tmps.getD 8 undef = .pointer (some ⟨wr.heap.size, 0, none⟩) := hst.out 8 (by kernel_rfl)
              refine ⟨trivial, ?_⟩
              have g8 := gd h8
              go_simp
              exact Went.same hS rfl
            refine EachOp.cons ?_ ?_
            · intro L a u hL hst hS hdep
              have h48 : a.tmps.getD 48 undef = .pointer (some ⟨wr.heap.size, 1, none⟩) := hdep 48 (by kernel_rfl)
              refine ⟨trivial, ?_⟩
              have g48 := gd h48
              have c49 := (DSt.cell hS HXN.out.1 HXN.out.2 1).trans HY1.out
              rw [HX.out] at c49
              go_simp
              exact Went.same hS rfl
            refine EachOp.cons ?_ ?_
            · intro L a u hL hst hS hdep
              have h8 : a.tmps.getD 8 undef = .pointer (some ⟨wr.heap.size, 0, none⟩) := hst.out 8 (by kernel_rfl)
              refine ⟨trivial, ?_⟩
              have g8 := gd h8
              go_simp
              exact Went.same hS rfl
            refine EachOp.cons ?_ ?_
            · intro L a u hL hst hS hdep
              have h50 : a.tmps.getD 50 undef = .pointer (some ⟨wr.heap.size, 2, none⟩) := hdep 50 (by kernel_rfl)
              refine ⟨trivial, ?_⟩
              have g50 := gd h50
              have c51 := (DSt.cell hS HXN.out.1 HXN.out.2 2).trans HY2.out
              rw [HX.out] at c51
              go_simp
              exact Went.same hS rfl
            refine EachOp.cons ?_ ?_
            · intro L a u hL hst hS hdep
              have h47 : a.tmps.getD 47 undef = .pointer (some ⟨rb, 0, none⟩) := hdep 47 (by kernel_rfl)
              have h49 : a.tmps.getD 49 undef = .string s := hdep 49 (by kernel_rfl)
              have h51 : a.tmps.getD 51 undef = .int .i64 n := hdep 51 (by kernel_rfl)
              refine ⟨trivial, ?_⟩
              have g47 := gd h47
              have g49 := gd h49
              have g51 := gd h51
              go_simp
              have hS1 : DSt S wx.heap.size lo hi b rb B ss ns cs2 (addT ns cs2 s n) wx.drew (L 5) false u := by have h := hS; simp only [hL] at h; exact h
              refine (radd_ok lo hi rb B ns cs2 s n u hS1.r).mono ?_
              rintro e u' ⟨rfl, hp, ho⟩
              obtain ⟨t1, t2⟩ := hS1.rdone HSo.out HZ.out.1 (hp) ho
              rw [HPB.out]
              exact Went.next t1 t2 rfl
            refine EachOp.cons ?_ ?_
            · intro L a u hL hst hS hdep
              have h46 : a.tmps.getD 46 undef = .bool pb := hdep 46 (by kernel_rfl)
              have h52 : a.tmps.getD 52 undef = .bool pb := hdep 52 (by kernel_rfl)
              refine ⟨trivial, ?_⟩
              have g46 := gd h46
              have g52 := gd h52
              go_simp
              exact Went.same hS rfl
            refine EachOp.cons ?_ ?_
            · intro L a u hL hst hS hdep
              have h53 : a.tmps.getD 53 undef = .bool true := hdep 53 (by kernel_rfl)
              refine ⟨trivial, ?_⟩
              have g53 := gd h53
              go_simp
              exact Went.same hS rfl
            exact EachOp.nil
          · intro L a u hLs hst hS hdep
            have h41 : a.tmps.getD 41 undef = .pointer (some ⟨b, 0, none⟩) := hdep 41 (by kernel_rfl)
            have h42 : a.tmps.getD 42 undef = .pointer (some ⟨wr.heap.size, 1, none⟩) := hdep 42 (by kernel_rfl)
            have h43 : a.tmps.getD 43 undef = .string s := hdep 43 (by kernel_rfl)
            have h44 : a.tmps.getD 44 undef = .pointer (some ⟨wr.heap.size, 2, none⟩) := hdep 44 (by kernel_rfl)
            have h45 : a.tmps.getD 45 undef = .int .i64 n := hdep 45 (by kernel_rfl)
            have h46 : a.tmps.getD 46 undef = .bool pb := hdep 46 (by kernel_rfl)
            have h47 : a.tmps.getD 47 undef = .pointer (some ⟨rb, 0, none⟩) := hdep 47 (by kernel_rfl)
            have h48 : a.tmps.getD 48 undef = .pointer (some ⟨wr.heap.size, 1, none⟩) := hdep 48 (by kernel_rfl)
            have h49 : a.tmps.getD 49 undef = .string s := hdep 49 (by kernel_rfl)
            have h50 : a.tmps.getD 50 undef = .pointer (some ⟨wr.heap.size, 2, none⟩) := hdep 50 (by kernel_rfl)
            have h51 : a.tmps.getD 51 undef = .int .i64 n := hdep 51 (by kernel_rfl)
            have h52 : a.tmps.getD 52 undef = .bool pb := hdep 52 (by kernel_rfl)
            have h53 : a.tmps.getD 53 undef = .bool true := hdep 53 (by kernel_rfl)
            have h9 : a.tmps.getD 9 undef = .bool true := hdep 9 (by kernel_rfl)
            have hfr := hst.frame [(41, .pointer (some ⟨b, 0, none⟩)), (42, .pointer (some ⟨wr.heap.size, 1, none⟩)), (43, .string s), (44, .pointer (some ⟨wr.heap.size, 2, none⟩)), (45, .int .i64 n), (46, .bool pb), (47, .pointer (some ⟨rb, 0, none⟩)), (48, .pointer (some ⟨wr.heap.size, 1, none⟩)), (49, .string s), (50, .pointer (some ⟨wr.heap.size, 2, none⟩)), (51, .int .i64 n), (52, .bool pb), (53, .bool true), (9, .bool true)] (by kernel_rfl) ⟨h41, h42, h43, h44, h45, h46, h47, h48, h49, h50, h51, h52, h53, h9, trivial⟩
            clear hst hdep h41 h42 h43 h44 h45 h46 h47 h48 h49 h50 h51 h52 h53 h9
            subst hfr
            simp only [List.foldl_cons, List.foldl_nil, List.setIfInBounds_toArray, List.set_cons_zero, List.set_cons_succ]
            have hlp := hLs 5 (by kernel_rfl)
            have hlr := hLs 11 (by kernel_rfl)
            have hS3 : DSt S wx.heap.size lo hi b rb B ss ns cs2 (addT ns cs2 s n) wx.drew true true u := by have h := hS; simp only [hlp, hlr] at h; exact h
            have HC : Hid (u.cell? ⟨X, 1, none⟩ = some (.string s)) := Lib.hid ((DSt.cell hS3 HXN.out.1 HXN.out.2 1).trans HY1.out)
            have HPY : Hid (PDX W lo hi b rb B ss ns (addT ns cs2 s n) X u) := Lib.hid (hS3.pdx HQ2.out HZ.out HLO2.out HKx.out)
            clear hS3 hlp hlr hS hLs HST HXN HSo HQ2 HZ HLO2 HKx HY1 HY2 HY3 HPX HWX
            obtain ⟨cs3, hcs3⟩ : ∃ x, x = (addT ns cs2 s n) := ⟨_, rfl⟩
            have HIY : Hid (InT cs3) := Lib.hid (by rw [hcs3]; exact hIN.out.add _ _ _)
            rw [← hcs3] at HPY
            clear hcs3
            have z0 := HC.out
            rw [HX.out] at z0
            go_wp2_with fail
            refine (HPY.out.pcount s HSZ.out).mono ?_
            rintro e w6 ⟨rfl, hp6, hc6⟩
            have z1 := (hc6 1).trans HC.out
            rw [HX.out] at z1
            have HP6 := Lib.hid hp6
            clear hp6 hc6
            go_wp2_with fail
            refine (HP6.out.rcount s).mono ?_
            rintro e w7 ⟨rfl, rfl⟩
            generalize countT ns cs3 s = ct at *
            generalize decide (0 ≤ placeT s ns) = pb at *
            go_wp2_with fail
            refine (HP6.out.plines HTAB.out HIY.out).mono ?_
            rintro e w8 ⟨A8, n8, c8, s8, rfl, hx8, hs8, hn8, hp8⟩
            have HP8 := Lib.hid hp8
            have HX8 := Lib.hid hx8
            have HS8 := Lib.hid hs8
            clear hp8 hx8 hs8
            go_wp2_with fail
            refine (HP8.out.rlines HIY.out).mono ?_
            rintro e w9 ⟨A9, n9, c9, s9, rfl, hx9, hs9, hn9, hk9⟩
            obtain rfl : s8 = s9 := bls_inj (HS8.out.trans hs9.symm)
            have HX89 := Lib.hid (HX8.out.next hk9)
            have HX9 := Lib.hid hx9
            have HP9 := Lib.hid (HP8.out.next hk9)
            clear hk9 hx9 hs9
            go_wp2_with fail
            refine (texts6_ok A8 A9 n8 n9 c8 c9 s8 s8 w9 HX89.out HX9.out (by omega) (by omega) true (Lib.hid (by simp))).mono ?_
            rintro e w10 ⟨rfl, q, rfl⟩
            have hp10 := HP9.out.next (kp_drewN w9 q)
            generalize w9.drewN q = w10 at *
            have HP10 := Lib.hid hp10
            clear hp10
            go_wp2_with fail
            go_roundw
            case rel => exact ⟨k + 1, cs3, by omega, by go_num, HP10, HIY⟩
            case measure => simp [intOf]; omega
        · have hd0' : (d == 0) = false := by simpa using hd0
          by_cases hd1 : d = 1
          · subst hd1
            have hPX := HPX.out
            obtain ⟨⟨S, q1, q2⟩, q3, q4, q5, q6⟩ := hPX
            have HQ2 := Lib.hid q2
            have HSo : Hid (∀ k, S k → k < lo ∨ hi ≤ k) := Lib.hid fun k hk => (q2 k hk).2.1
            have hXN : X < wx.drew.heap.size ∧ ¬ (S X ∨ Mid lo hi X) := ⟨q6, fun h => h.elim (fun h => (q2 X h).2.2 rfl) (fun h => by unfold Mid at h; have := hPD.out.mid; have := HX.out; omega)⟩
            have HXN := Lib.hid hXN
            have HST : Hid (DSt S wx.heap.size lo hi b rb B ss ns cs2 (swapT ns cs2 s n m).1 wx.drew false false wx.drew) := Lib.hid (DSt.start q1.drew q3.drew (Nat.le_refl _))
            have HZ : Hid (hi ≤ wx.heap.size ∧ W.heap.size ≤ wx.heap.size ∧ X < wx.heap.size) := Lib.hid ⟨q4.2, q5.size, q6⟩
            have HLO2 : Hid (W.heap.size ≤ lo) := Lib.hid q4.1
            have HKx : Hid (Below W.heap.size W wx.drew) := Lib.hid q5.drew
            clear q1 q2 q3 q4 q5 q6 hXN
            obtain ⟨pb, HPB⟩ : ∃ pb, Hid ((swapT ns cs2 s n m).2 = pb) := ⟨_, Lib.hid rfl⟩
            go_wp2_with fail
            rw [HWX.out]
            refine wp_region_specs3 (S := fun L u => DSt S wx.heap.size lo hi b rb B ss ns cs2 (swapT ns cs2 s n m).1 wx.drew (L 7) (L 15) u) (Bad := fun k => S k ∨ Mid lo hi k) (Sp := [(56, Sta.eq (.pointer (some ⟨b, 0, none⟩))), (57, Sta.eq (.pointer (some ⟨wr.heap.size, 1, none⟩))), (58, Sta.eq (.string s)), (59, Sta.eq (.pointer (some ⟨wr.heap.size, 2, none⟩))), (60, Sta.eq (.int .i64 n)), (61, Sta.eq (.pointer (some ⟨wr.heap.size, 3, none⟩))), (62, Sta.eq (.int .i64 m)), (63, Sta.eq (.bool pb)), (64, Sta.eq (.pointer (some ⟨rb, 0, none⟩))), (65, Sta.eq (.pointer (some ⟨wr.heap.size, 1, none⟩))), (66, Sta.eq (.string s)), (67, Sta.eq (.pointer (some ⟨wr.heap.size, 2, none⟩))), (68, Sta.eq (.int .i64 n)), (69, Sta.eq (.pointer (some ⟨wr.heap.size, 3, none⟩))), (70, Sta.eq (.int .i64 m)), (71, Sta.eq (.bool pb)), (72, Sta.eq (.bool true)), (9, Sta.eq (.bool true))]) (by kernel_rfl) (by kernel_rfl) (HST.out) ?_ ?_
            · refine EachOp.cons ?_ ?_
              · intro L a u hL hst hS hdep
                have h5 : a.tmps.getD 5 undef = .pointer (some ⟨b, 0, none⟩) := hst.out 5 (by kernel_rfl)
                refine ⟨trivial, ?_⟩
                have g5 := gd h5
                go_simp
                exact Went.same hS rfl
              refine EachOp.cons ?_ ?_
              · intro L a u hL hst hS hdep
                have h8 : a.tmps.getD 8 undef = .pointer (some ⟨wr.heap.size, 0, none⟩) := hst.out 8 (by kernel_rfl)
                refine ⟨trivial, ?_⟩
                have g8 := gd h8
                go_simp
                exact Went.same hS rfl
              refine EachOp.cons ?_ ?_
              · intro L a u hL hst hS hdep
                have h57 : a.tmps.getD 57 undef = .pointer (some ⟨wr.heap.size, 1, none⟩) := hdep 57 (by kernel_rfl)
                refine ⟨trivial, ?_⟩
                have g57 := gd h57
                have c58 := (DSt.cell hS HXN.out.1 HXN.out.2 1).trans HY1.out
                rw [HX.out] at c58
                go_simp
                exact Went.same hS rfl
              refine EachOp.cons ?_ ?_
              · intro L a u hL hst hS hdep
                have h8 : a.tmps.getD 8 undef = .pointer (some ⟨wr.heap.size, 0, none⟩) := hst.out 8 (by kernel_rfl)
                refine ⟨trivial, ?_⟩
                have g8 := gd h8
                go_simp
                exact Went.same hS rfl
              refine EachOp.cons ?_ ?_
              · intro L a u hL hst hS hdep
                have h59 : a.tmps.getD 59 undef = .pointer (some ⟨wr.heap.size, 2, none⟩) := hdep 59 (by kernel_rfl)
                refine ⟨trivial, ?_⟩
                have g59 := gd h59
                have c60 := (DSt.cell hS HXN.out.1 HXN.out.2 2).trans HY2.out
                rw [HX.out] at c60
                go_simp
                exact Went.same hS rfl
              refine EachOp.cons ?_ ?_
              · intro L a u hL hst hS hdep
                have h8 : a.tmps.getD 8 undef = .pointer (some ⟨wr.heap.size, 0, none⟩) := hst.out 8 (by kernel_rfl)
                refine ⟨trivial, ?_⟩
                have g8 := gd h8
                go_simp
                exact Went.same hS rfl
              refine EachOp.cons ?_ ?_
              · intro L a u hL hst hS hdep
                have h61 : a.tmps.getD 61 undef = .pointer (some ⟨wr.heap.size, 3, none⟩) := hdep 61 (by kernel_rfl)
                refine ⟨trivial, ?_⟩
                have g61 := gd h61
                have c62 := (DSt.cell hS HXN.out.1 HXN.out.2 3).trans HY3.out
                rw [HX.out] at c62
                go_simp
                exact Went.same hS rfl
              refine EachOp.cons ?_ ?_
              · intro L a u hL hst hS hdep
                have h56 : a.tmps.getD 56 undef = .pointer (some ⟨b, 0, none⟩) := hdep 56 (by kernel_rfl)
                have h58 : a.tmps.getD 58 undef = .string s := hdep 58 (by kernel_rfl)
                have h60 : a.tmps.getD 60 undef = .int .i64 n := hdep 60 (by kernel_rfl)
                have h62 : a.tmps.getD 62 undef = .int .i64 m := hdep 62 (by kernel_rfl)
                refine ⟨trivial, ?_⟩
                have g56 := gd h56
                have g58 := gd h58
                have g60 := gd h60
                have g62 := gd h62
                go_simp
                have hS1 : DSt S wx.heap.size lo hi b rb B ss ns cs2 (swapT ns cs2 s n m).1 wx.drew false (L 15) u := by have h := hS; simp only [hL] at h; exact h
                refine (swap7_ok S b ss ns cs2 s n m u hS1.p HSZ.out).mono ?_
                rintro e u' ⟨rfl, hp⟩
                obtain ⟨t1, t2⟩ := hS1.pdone HSo.out (hp)
                rw [HPB.out]
                exact Went.next t1 t2 rfl
              refine EachOp.cons ?_ ?_
              · intro L a u hL hst hS hdep
                have h6 : a.tmps.getD 6 undef = .pointer (some ⟨rb, 0, none⟩) := hst.out 6 (by kernel_rfl)
                refine ⟨trivial, ?_⟩
                have g6 := gd h6
                go_simp
                exact Went.same hS rfl
              refine EachOp.cons ?_ ?_
              · intro L a u hL hst hS hdep
                have h8 : a.tmps.getD 8 undef = .pointer (some ⟨wr.heap.size, 0, none⟩) := hst.out 8 (by kernel_rfl)
                refine ⟨trivial, ?_⟩
                have g8 := gd h8
                go_simp
                exact Went.same hS rfl
              refine EachOp.cons ?_ ?_
              · intro L a u hL hst hS hdep
                have h65 : a.tmps.getD 65 undef = .pointer (some ⟨wr.heap.size, 1, none⟩) := hdep 65 (by kernel_rfl)
                refine ⟨trivial, ?_⟩
                have g65 := gd h65
                have c66 := (DSt.cell hS HXN.out.1 HXN.out.2 1).trans HY1.out
                rw [HX.out] at c66
                go_simp
                exact Went.same hS rfl
              refine EachOp.cons ?_ ?_
              · intro L a u hL hst hS hdep
                have h8 : a.tmps.getD 8 undef = .pointer (some ⟨wr.heap.size, 0, none⟩) := hst.out 8 (by kernel_rfl)
                refine ⟨trivial, ?_⟩
                have g8 := gd h8
                go_simp
                exact Went.same hS rfl
              refine EachOp.cons ?_ ?_
              · intro L a u hL hst hS hdep
                have h67 : a.tmps.getD 67 undef = .pointer (some ⟨wr.heap.size, 2, none⟩) := hdep 67 (by kernel_rfl)
                refine ⟨trivial, ?_⟩
                have g67 := gd h67
                have c68 := (DSt.cell hS HXN.out.1 HXN.out.2 2).trans HY2.out
                rw [HX.out] at c68
                go_simp
                exact Went.same hS rfl
              refine EachOp.cons ?_ ?_
              · intro L a u hL hst hS hdep
                have h8 : a.tmps.getD 8 undef = .pointer (some ⟨wr.heap.size, 0, none⟩) := hst.out 8 (by kernel_rfl)
                refine ⟨trivial, ?_⟩
                have g8 := gd h8
                go_simp
                exact Went.same hS rfl
              refine EachOp.cons ?_ ?_
              · intro L a u hL hst hS hdep
                have h69 : a.tmps.getD 69 undef = .pointer (some ⟨wr.heap.size, 3, none⟩) := hdep 69 (by kernel_rfl)
                refine ⟨trivial, ?_⟩
                have g69 := gd h69
                have c70 := (DSt.cell hS HXN.out.1 HXN.out.2 3).trans HY3.out
                rw [HX.out] at c70
                go_simp
                exact Went.same hS rfl
              refine EachOp.cons ?_ ?_
              · intro L a u hL hst hS hdep
                have h64 : a.tmps.getD 64 undef = .pointer (some ⟨rb, 0, none⟩) := hdep 64 (by kernel_rfl)
                have h66 : a.tmps.getD 66 undef = .string s := hdep 66 (by kernel_rfl)
                have h68 : a.tmps.getD 68 undef = .int .i64 n := hdep 68 (by kernel_rfl)
                have h70 : a.tmps.getD 70 undef = .int .i64 m := hdep 70 (by kernel_rfl)
                refine ⟨trivial, ?_⟩
                have g64 := gd h64
                have g66 := gd h66
                have g68 := gd h68
                have g70 := gd h70
                go_simp
                have hS1 : DSt S wx.heap.size lo hi b rb B ss ns cs2 (swapT ns cs2 s n m).1 wx.drew (L 7) false u := by have h := hS; simp only [hL] at h; exact h
                refine (rswap_ok lo hi rb B ns cs2 s n m u hS1.r).mono ?_
                rintro e u' ⟨rfl, hp, ho⟩
                obtain ⟨t1, t2⟩ := hS1.rdone HSo.out HZ.out.1 (hp) ho
                rw [HPB.out]
                exact Went.next t1 t2 rfl
              refine EachOp.cons ?_ ?_
              · intro L a u hL hst hS hdep
                have h63 : a.tmps.getD 63 undef = .bool pb := hdep 63 (by kernel_rfl)
                have h71 : a.tmps.getD 71 undef = .bool pb := hdep 71 (by kernel_rfl)
                refine ⟨trivial, ?_⟩
                have g63 := gd h63
                have g71 := gd h71
                go_simp
                exact Went.same hS rfl
              refine EachOp.cons ?_ ?_
              · intro L a u hL hst hS hdep
                have h72 : a.tmps.getD 72 undef = .bool true := hdep 72 (by kernel_rfl)
                refine ⟨trivial, ?_⟩
                have g72 := gd h72
                go_simp
                exact Went.same hS rfl
              exact EachOp.nil
            · intro L a u hLs hst hS hdep
              have h56 : a.tmps.getD 56 undef = .pointer (some ⟨b, 0, none⟩) := hdep 56 (by kernel_rfl)
              have h57 : a.tmps.getD 57 undef = .pointer (some ⟨wr.heap.size, 1, none⟩) := hdep 57 (by kernel_rfl)
              have h58 : a.tmps.getD 58 undef = .string s := hdep 58 (by kernel_rfl)
              have h59 : a.tmps.getD 59 undef = .pointer (some ⟨wr.heap.size, 2, none⟩) := hdep 59 (by kernel_rfl)
              have h60 : a.tmps.getD 60 undef = .int .i64 n := hdep 60 (by kernel_rfl)
              have h61 : a.tmps.getD 61 undef = .pointer (some ⟨wr.heap.size, 3, none⟩) := hdep 61 (by kernel_rfl)
              have h62 : a.tmps.getD 62 undef = .int .i64 m := hdep 62 (by kernel_rfl)
              have h63 : a.tmps.getD 63 undef = .bool pb := hdep 63 (by kernel_rfl)
              have h64 : a.tmps.getD 64 undef = .pointer (some ⟨rb, 0, none⟩) := hdep 64 (by kernel_rfl)
              have h65 : a.tmps.getD 65 undef = .pointer (some ⟨wr.heap.size, 1, none⟩) := hdep 65 (by kernel_rfl)
              have h66 : a.tmps.getD 66 undef = .string s := hdep 66 (by kernel_rfl)
              have h67 : a.tmps.getD 67 undef = .pointer (some ⟨wr.heap.size, 2, none⟩) := hdep 67 (by kernel_rfl)
              have h68 : a.tmps.getD 68 undef = .int .i64 n := hdep 68 (by kernel_rfl)
              have h69 : a.tmps.getD 69 undef = .pointer (some ⟨wr.heap.size, 3, none⟩) := hdep 69 (by kernel_rfl)
              have h70 : a.tmps.getD 70 undef = .int .i64 m := hdep 70 (by kernel_rfl)
              have h71 : a.tmps.getD 71 undef = .bool pb := hdep 71 (by kernel_rfl)
              have h72 : a.tmps.getD 72 undef = .bool true := hdep 72 (by kernel_rfl)
              have h9 : a.tmps.getD 9 undef = .bool true := hdep 9 (by kernel_rfl)
              have hfr := hst.frame [(56, .pointer (some ⟨b, 0, none⟩)), (57, .pointer (some ⟨wr.heap.size, 1, none⟩)), (58, .string s), (59, .pointer (some ⟨wr.heap.size, 2, none⟩)), (60, .int .i64 n), (61, .pointer (some ⟨wr.heap.size, 3, none⟩)), (62, .int .i64 m), (63, .bool pb), (64, .pointer (some ⟨rb, 0, none⟩)), (65, .pointer (some ⟨wr.heap.size, 1, none⟩)), (66, .string s), (67, .pointer (some ⟨wr.heap.size, 2, none⟩)), (68, .int .i64 n), (69, .pointer (some ⟨wr.heap.size, 3, none⟩)), (70, .int .i64 m), (71, .bool pb), (72, .bool true), (9, .bool true)] (by kernel_rfl) ⟨h56, h57, h58, h59, h60, h61, h62, h63, h64, h65, h66, h67, h68, h69, h70, h71, h72, h9, trivial⟩
              clear hst hdep h56 h57 h58 h59 h60 h61 h62 h63 h64 h65 h66 h67 h68 h69 h70 h71 h72 h9
              subst hfr
              simp only [List.foldl_cons, List.foldl_nil, List.setIfInBounds_toArray, List.set_cons_zero, List.set_cons_succ]
              have hlp := hLs 7 (by kernel_rfl)
              have hlr := hLs 15 (by kernel_rfl)
              have hS3 : DSt S wx.heap.size lo hi b rb B ss ns cs2 (swapT ns cs2 s n m).1 wx.drew true true u := by have h := hS; simp only [hlp, hlr] at h; exact h
              have HC : Hid (u.cell? ⟨X, 1, none⟩ = some (.string s)) := Lib.hid ((DSt.cell hS3 HXN.out.1 HXN.out.2 1).trans HY1.out)
              have HPY : Hid (PDX W lo hi b rb B ss ns (swapT ns cs2 s n m).1 X u) := Lib.hid (hS3.pdx HQ2.out HZ.out HLO2.out HKx.out)
              clear hS3 hlp hlr hS hLs HST HXN HSo HQ2 HZ HLO2 HKx HY1 HY2 HY3 HPX HWX
              obtain ⟨cs3, hcs3⟩ : ∃ x, x = (swapT ns cs2 s n m).1 := ⟨_, rfl⟩
              have HIY : Hid (InT cs3) := Lib.hid (by rw [hcs3]; exact hIN.out.swap _ _ _ _ HBD.out.2.2)
              rw [← hcs3] at HPY
              clear hcs3
              have z0 := HC.out
              rw [HX.out] at z0
              go_wp2_with fail
              refine (HPY.out.pcount s HSZ.out).mono ?_
              rintro e w6 ⟨rfl, hp6, hc6⟩
              have z1 := (hc6 1).trans HC.out
              rw [HX.out] at z1
              have HP6 := Lib.hid hp6
              clear hp6 hc6
              go_wp2_with fail
              refine (HP6.out.rcount s).mono ?_
              rintro e w7 ⟨rfl, rfl⟩
              generalize countT ns cs3 s = ct at *
              generalize decide (0 ≤ placeT s ns) = pb at *
              go_wp2_with fail
              refine (HP6.out.plines HTAB.out HIY.out).mono ?_
              rintro e w8 ⟨A8, n8, c8, s8, rfl, hx8, hs8, hn8, hp8⟩
              have HP8 := Lib.hid hp8
              have HX8 := Lib.hid hx8
              have HS8 := Lib.hid hs8
              clear hp8 hx8 hs8
              go_wp2_with fail
              refine (HP8.out.rlines HIY.out).mono ?_
              rintro e w9 ⟨A9, n9, c9, s9, rfl, hx9, hs9, hn9, hk9⟩
              obtain rfl : s8 = s9 := bls_inj (HS8.out.trans hs9.symm)
              have HX89 := Lib.hid (HX8.out.next hk9)
              have HX9 := Lib.hid hx9
              have HP9 := Lib.hid (HP8.out.next hk9)
              clear hk9 hx9 hs9
              go_wp2_with fail
              refine (texts6_ok A8 A9 n8 n9 c8 c9 s8 s8 w9 HX89.out HX9.out (by omega) (by omega) true (Lib.hid (by simp))).mono ?_
              rintro e w10 ⟨rfl, q, rfl⟩
              have hp10 := HP9.out.next (kp_drewN w9 q)
              generalize w9.drewN q = w10 at *
              have HP10 := Lib.hid hp10
              clear hp10
              go_wp2_with fail
              go_roundw
              case rel => exact ⟨k + 1, cs3, by omega, by go_num, HP10, HIY⟩
              case measure => simp [intOf]; omega
          · have hd1' : (d == 1) = false := by simpa using hd1
            clear hd0 hd1
            have HPY := HPX
            have HIY := hIN
            have HC := HY1
            obtain ⟨cs3, hcs3⟩ : ∃ x, x = cs2 := ⟨_, rfl⟩
            rw [← hcs3] at HPY HIY
            have z0 := HC.out
            rw [HX.out] at z0
            clear hcs3
            go_wp2_with fail
            rw [HWX.out]
            go_wp2_with fail
            refine (HPY.out.pcount s HSZ.out).mono ?_
            rintro e w6 ⟨rfl, hp6, hc6⟩
            have z1 := (hc6 1).trans HC.out
            rw [HX.out] at z1
            have HP6 := Lib.hid hp6
            clear hp6 hc6
            go_wp2_with fail
            refine (HP6.out.rcount s).mono ?_
            rintro e w7 ⟨rfl, rfl⟩
            generalize countT ns cs3 s = ct at *
            generalize decide (0 ≤ placeT s ns) = pb at *
            go_wp2_with fail
            refine (HP6.out.plines HTAB.out HIY.out).mono ?_
            rintro e w8 ⟨A8, n8, c8, s8, rfl, hx8, hs8, hn8, hp8⟩
            have HP8 := Lib.hid hp8
            have HX8 := Lib.hid hx8
            have HS8 := Lib.hid hs8
            clear hp8 hx8 hs8
            go_wp2_with fail
            refine (HP8.out.rlines HIY.out).mono ?_
            rintro e w9 ⟨A9, n9, c9, s9, rfl, hx9, hs9, hn9, hk9⟩
            obtain rfl : s8 = s9 := bls_inj (HS8.out.trans hs9.symm)
            have HX89 := Lib.hid (HX8.out.next hk9)
            have HX9 := Lib.hid hx9
            have HP9 := Lib.hid (HP8.out.next hk9)
            clear hk9 hx9 hs9
            go_wp2_with fail
            refine (texts6_ok A8 A9 n8 n9 c8 c9 s8 s8 w9 HX89.out HX9.out (by omega) (by omega) true (Lib.hid (by simp))).mono ?_
            rintro e w10 ⟨rfl, q, rfl⟩
            have hp10 := HP9.out.next (kp_drewN w9 q)
            generalize w9.drewN q = w10 at *
            have HP10 := Lib.hid hp10
            clear hp10
            go_wp2_with fail
            go_roundw
            case rel => exact ⟨k + 1, cs3, by omega, by go_num, HP10, HIY⟩
            case measure => simp [intOf]; omega
      · obtain rfl : k = l1 := by omega
        go_wp2_with fail
        go_ret
        exact ⟨rfl, hPD.out.low⟩
end Go.Proofs.YtkkmjoadhjnldaaDoor
