/-
  ConnDoes, of layer 9: the walk.
-/
import Derived.Test.YtnaefikajmgmdaaCoD
import Derived.Test.YtnaefikajmgmdaaCoU
import Derived.Test.YtnaefikajmgmdaaOpenY
namespace Go.Proofs.Ytnaefikajmgmdaa
open Go.RowKit
set_option maxRecDepth 100000

set_option maxHeartbeats 16000000 in
theorem conndoes_walk (ep : Int) (A1 : Option Addr) (l1 c1 : Nat) (ts : List Act3) (W : World) (r1 : AY W A1 l1 ts) :
    Calls Try.prog 3 #[.int .u64 ep, .slice A1 l1 c1] W fun e w' => e = .returned (.bool true) ∧ Below W.heap.size W w' := by
  have HAW := Lib.hid (awake9_ok W)
  have R1 := Lib.hid r1
  have HN1 := Lib.hid r1.len
  clear r1
  go_enter Try.func3, Try.ntmps3
  go_wp2_with fail
  refine HAW.out.mono ?_
  rintro e w1 ⟨rfl, k1⟩
  have HK1 := Lib.hid k1
  clear HAW k1
  by_cases hbig : 200 < l1
  · have hb : (200 : Int) < (l1 : Int) := by omega
    go_wp2_with fail
    go_ret
    exact ⟨rfl, HK1.out⟩
  have hl1 : l1 ≤ 200 := by omega
  have hb : ¬ (200 : Int) < (l1 : Int) := by omega
  clear hbig
  have HP1 := Lib.hid (cnew_ok ep w1)
  go_wp2_with fail
  refine HP1.out.mono ?_
  rintro e w2 ⟨rfl, p2, k2⟩
  have HS2 : Hid (Solo W (CC w1.heap.size ep (.idle false 0)) noneB w2) := Lib.hid (Solo.make HK1.out p2 (fun k h => by omega) k2)
  have HP2 := Lib.hid (rnew9_ok ep w2)
  clear p2 k2 HP1 HK1
  obtain ⟨b, hbb⟩ : ∃ b, b = w1.heap.size := ⟨_, rfl⟩
  rw [← hbb] at HS2
  rw [← hbb]
  clear hbb
  go_wp2_with fail
  refine HP2.out.mono ?_
  rintro e w3 ⟨rfl, p3, k3⟩
  have HD3 : Hid (Duo W (CC b ep (.idle false 0)) (RC w2.heap.size ep (.idle false 0)) noneB w3) := Lib.hid (HS2.out.duo p3 (fun k h => by omega) k3)
  clear p3 k3 HP2 HS2
  obtain ⟨r, hrr⟩ : ∃ c, c = w2.heap.size := ⟨_, rfl⟩
  rw [← hrr] at HD3
  rw [← hrr]
  clear hrr
  go_wp2_with fail
  go_loopw [20] (fun i wr => ∃ (k : Nat) (c : Cn), k ≤ l1 ∧ i = .int .i64 k ∧ Hid (Duo W (CC b ep c) (RC r ep c) noneB wr)) (fun i _ => l1 - (intOf i).toNat)
  case atStart => exact ⟨0, .idle false 0, Nat.zero_le _, rfl, HD3⟩
  case round =>
    obtain ⟨k, c, hk, rfl, hD⟩ := hrel
    by_cases hlt : k < l1
    · have hkl : k < ts.length := by rw [HN1.out]; exact hlt
      obtain ⟨ad, rfl, _, hcc⟩ := R1.out.at_ hkl
      obtain ⟨x0, x1, x2⟩ := hcc wr hD.out.low
      clear hcc
      generalize ts[k] = t at *
      have hDX := hD.out.mark (.cells #[.int .i64 t.d, .int .i64 t.x, .int .u64 t.y] 30)
      have y0 : (wr.alloc (.cells #[.int .i64 t.d, .int .i64 t.x, .int .u64 t.y] 30)).cell? ⟨wr.heap.size, 0, none⟩ = some (.int .i64 t.d) := by simp
      have y1 : (wr.alloc (.cells #[.int .i64 t.d, .int .i64 t.x, .int .u64 t.y] 30)).cell? ⟨wr.heap.size, 1, none⟩ = some (.int .i64 t.x) := by simp
      have y2 : (wr.alloc (.cells #[.int .i64 t.d, .int .i64 t.x, .int .u64 t.y] 30)).cell? ⟨wr.heap.size, 2, none⟩ = some (.int .u64 t.y) := by simp
      obtain ⟨wx, hwx⟩ : ∃ u, wr.alloc (.cells #[.int .i64 t.d, .int .i64 t.x, .int .u64 t.y] 30) = u := ⟨_, rfl⟩
      rw [hwx] at hDX y0 y1 y2
      obtain ⟨X, hX⟩ : ∃ X, X = wr.heap.size := ⟨_, rfl⟩
      rw [← hX] at hDX y0 y1 y2
      have HX := Lib.hid hX
      have HWX := Lib.hid hwx
      have HY0 := Lib.hid y0
      have HY1 := Lib.hid y1
      have HY2 := Lib.hid y2
      have HDX := Lib.hid hDX
      clear hDX y0 y1 y2 hwx hD hX
      obtain ⟨c2, hl2⟩ : ∃ y, y = c.doC t := ⟨_, rfl⟩
      obtain ⟨vi, ve, vn, hpv⟩ : ∃ i e n, toldV (c.doA t) = .agg #[.bool i, .int .i64 e, .int .u64 n] := ⟨_, _, _, rfl⟩
      have HL2 := Lib.hid hl2
      have HPV := Lib.hid hpv
      obtain ⟨S, T, h1, h2, h3, h4⟩ := HDX.out.at_
      have HSN := Lib.hid h4
      have HNN : Hid (∀ k, (k = X ∨ noneB k) → k < wx.heap.size) := Lib.hid HDX.out.nlt
      have HXN : Hid (X < wx.drew.heap.size ∧ ¬ (S X ∨ T X)) := Lib.hid ⟨HDX.out.nlt X (.inl rfl), fun h => (h4 X h).2 (.inl rfl)⟩
      have HZ : Hid (W.heap.size ≤ wx.heap.size) := Lib.hid HDX.out.low.size
      have HKX : Hid (Below W.heap.size W wx.drew) := Lib.hid HDX.out.low.drew
      have HST : Hid (MidA S T wx.heap.size (CC b ep c) (CC b ep c2) (RC r ep c) (RC r ep c2) wx.drew false false wx.drew) := Lib.hid (MidA.start (Thing.drew h1) (Thing.drew h2) h3 (Nat.le_refl _))
      clear hl2 hpv h1 h2 h3 h4
      go_wp2_with fail
      rw [HWX.out]
      clear HWX
      refine wp_region_specs3 (S := fun L u => MidA S T wx.heap.size (CC b ep c) (CC b ep c2) (RC r ep c) (RC r ep c2) wx.drew (L 2) (L 5) u) (Bad := fun k => S k ∨ T k) (Sp := [(24, Sta.eq (.pointer (some ⟨b, 0, none⟩))), (25, Sta.eq (.agg #[.int .i64 t.d, .int .i64 t.x, .int .u64 t.y])), (26, Sta.eq (.agg #[.bool vi, .int .i64 ve, .int .u64 vn])), (27, Sta.eq (.pointer (some ⟨r, 0, none⟩))), (28, Sta.eq (.agg #[.int .i64 t.d, .int .i64 t.x, .int .u64 t.y])), (29, Sta.eq (.agg #[.bool vi, .int .i64 ve, .int .u64 vn])), (30, Sta.eq (.bool false))]) (by kernel_rfl) (by kernel_rfl) (HST.out) ?_ ?_
      · refine EachOp.cons ?_ ?_
        · intro L a u hL hst hS hdep
          have h5 : a.tmps.getD 5 undef = .pointer (some ⟨b, 0, none⟩) := hst.out 5 (by kernel_rfl)
          refine ⟨trivial, ?_⟩
          have g5 := gd h5
          go_simp
          exact Went.same hS rfl
        refine EachOp.cons ?_ ?_
        · intro L a u hL hst hS hdep
          have h8 : a.tmps.getD 8 undef = .pointer (some ⟨wr.heap.size, 0, none⟩) := hst.out 8 (by kernel_rfl)
          refine ⟨trivial, ?_⟩
          have g8 := gd h8
          have d0 := (MidA.cell hS HXN.out.1 HXN.out.2 0).trans HY0.out
          rw [HX.out] at d0
          have d1 := (MidA.cell hS HXN.out.1 HXN.out.2 1).trans HY1.out
          rw [HX.out] at d1
          have d2 := (MidA.cell hS HXN.out.1 HXN.out.2 2).trans HY2.out
          rw [HX.out] at d2
          go_simp
          exact Went.same hS rfl
        refine EachOp.cons ?_ ?_
        · intro L a u hL hst hS hdep
          have h24 : a.tmps.getD 24 undef = .pointer (some ⟨b, 0, none⟩) := hdep 24 (by kernel_rfl)
          have h25 : a.tmps.getD 25 undef = .agg #[.int .i64 t.d, .int .i64 t.x, .int .u64 t.y] := hdep 25 (by kernel_rfl)
          refine ⟨trivial, ?_⟩
          have g24 := gd h24
          have g25 := gd h25
          go_simp
          have hS1 : MidA S T wx.heap.size (CC b ep c) (CC b ep c2) (RC r ep c) (RC r ep c2) wx.drew false (L 5) u := by have h := hS; simp only [hL] at h; exact h
          have h0 := do_ok t hS1.getl
          rw [HPV.out, ← HL2.out] at h0
          refine h0.mono ?_
          rintro e u' ⟨rfl, ht⟩
          obtain ⟨t1, t2⟩ := hS1.left ht
          exact Went.next t1 t2 rfl
        refine EachOp.cons ?_ ?_
        · intro L a u hL hst hS hdep
          have h6 : a.tmps.getD 6 undef = .pointer (some ⟨r, 0, none⟩) := hst.out 6 (by kernel_rfl)
          refine ⟨trivial, ?_⟩
          have g6 := gd h6
          go_simp
          exact Went.same hS rfl
        refine EachOp.cons ?_ ?_
        · intro L a u hL hst hS hdep
          have h8 : a.tmps.getD 8 undef = .pointer (some ⟨wr.heap.size, 0, none⟩) := hst.out 8 (by kernel_rfl)
          refine ⟨trivial, ?_⟩
          have g8 := gd h8
          have d0 := (MidA.cell hS HXN.out.1 HXN.out.2 0).trans HY0.out
          rw [HX.out] at d0
          have d1 := (MidA.cell hS HXN.out.1 HXN.out.2 1).trans HY1.out
          rw [HX.out] at d1
          have d2 := (MidA.cell hS HXN.out.1 HXN.out.2 2).trans HY2.out
          rw [HX.out] at d2
          go_simp
          exact Went.same hS rfl
        refine EachOp.cons ?_ ?_
        · intro L a u hL hst hS hdep
          have h27 : a.tmps.getD 27 undef = .pointer (some ⟨r, 0, none⟩) := hdep 27 (by kernel_rfl)
          have h28 : a.tmps.getD 28 undef = .agg #[.int .i64 t.d, .int .i64 t.x, .int .u64 t.y] := hdep 28 (by kernel_rfl)
          refine ⟨trivial, ?_⟩
          have g27 := gd h27
          have g28 := gd h28
          go_simp
          have hS1 : MidA S T wx.heap.size (CC b ep c) (CC b ep c2) (RC r ep c) (RC r ep c2) wx.drew (L 2) false u := by have h := hS; simp only [hL] at h; exact h
          have h0 := own_ok t hS1.getr
          rw [HPV.out, ← HL2.out] at h0
          refine h0.mono ?_
          rintro e u' ⟨rfl, ht⟩
          obtain ⟨t1, t2⟩ := hS1.right ht
          exact Went.next t1 t2 rfl
        refine EachOp.cons ?_ ?_
        · intro L a u hL hst hS hdep
          have h26 : a.tmps.getD 26 undef = .agg #[.bool vi, .int .i64 ve, .int .u64 vn] := hdep 26 (by kernel_rfl)
          have h29 : a.tmps.getD 29 undef = .agg #[.bool vi, .int .i64 ve, .int .u64 vn] := hdep 29 (by kernel_rfl)
          refine ⟨trivial, ?_⟩
          have g26 := gd h26
          have g29 := gd h29
          go_simp
          exact Went.same hS rfl
        exact EachOp.nil
      · intro L a u hLs hst hS hdep
        have h24 : a.tmps.getD 24 undef = .pointer (some ⟨b, 0, none⟩) := hdep 24 (by kernel_rfl)
        have h25 : a.tmps.getD 25 undef = .agg #[.int .i64 t.d, .int .i64 t.x, .int .u64 t.y] := hdep 25 (by kernel_rfl)
        have h26 : a.tmps.getD 26 undef = .agg #[.bool vi, .int .i64 ve, .int .u64 vn] := hdep 26 (by kernel_rfl)
        have h27 : a.tmps.getD 27 undef = .pointer (some ⟨r, 0, none⟩) := hdep 27 (by kernel_rfl)
        have h28 : a.tmps.getD 28 undef = .agg #[.int .i64 t.d, .int .i64 t.x, .int .u64 t.y] := hdep 28 (by kernel_rfl)
        have h29 : a.tmps.getD 29 undef = .agg #[.bool vi, .int .i64 ve, .int .u64 vn] := hdep 29 (by kernel_rfl)
        have h30 : a.tmps.getD 30 undef = .bool false := hdep 30 (by kernel_rfl)
        have hfr := hst.frame [(24, .pointer (some ⟨b, 0, none⟩)), (25, .agg #[.int .i64 t.d, .int .i64 t.x, .int .u64 t.y]), (26, .agg #[.bool vi, .int .i64 ve, .int .u64 vn]), (27, .pointer (some ⟨r, 0, none⟩)), (28, .agg #[.int .i64 t.d, .int .i64 t.x, .int .u64 t.y]), (29, .agg #[.bool vi, .int .i64 ve, .int .u64 vn]), (30, .bool false)] (by kernel_rfl) ⟨h24, h25, h26, h27, h28, h29, h30, trivial⟩
        clear hst hdep h24 h25 h26 h27 h28 h29 h30
        subst hfr
        simp only [List.foldl_cons, List.foldl_nil, List.setIfInBounds_toArray, List.set_cons_zero, List.set_cons_succ]
        have hlp := hLs 2 (by kernel_rfl)
        have hlr := hLs 5 (by kernel_rfl)
        have hS3 : MidA S T wx.heap.size (CC b ep c) (CC b ep c2) (RC r ep c) (RC r ep c2) wx.drew true true u := by have h := hS; simp only [hlp, hlr] at h; exact h
        have HDY : Hid (Duo W (CC b ep c2) (RC r ep c2) noneB u) := Lib.hid ((hS3.done HSN.out HNN.out HZ.out HKX.out).less fun _ h => .inr h)
        clear hS3 hlp hlr hS hLs HST HXN HSN HNN HZ HKX HY0 HY1 HY2 HDX HPV HL2
        obtain ⟨wy, hwy⟩ : ∃ y, y = u := ⟨_, rfl⟩
        rw [← hwy] at HDY
        rw [← hwy]
        clear hwy
        go_wp2_with fail
        obtain ⟨S9, T9, h91, h92, _⟩ := HDY.out.at_
        have HPA : Hid (∀ u, Below wy.heap.size wy u → (CC b ep c2).p S9 u) := Lib.hid fun u hu => Thing.next h91 hu
        have HRA : Hid (∀ u, Below wy.heap.size wy u → u.cell? ⟨r, 0, none⟩ = some (.int .u64 ep) ∧ u.cell? ⟨r, 1, none⟩ = some (.int .i64 c2.s) ∧ u.cell? ⟨r, 2, none⟩ = some (.int .i64 c2.o) ∧ u.cell? ⟨r, 3, none⟩ = some (.int .u64 c2.f) ∧ u.cell? ⟨r, 5, none⟩ = some (.int .i64 c2.n)) := Lib.hid fun u hu => by
          obtain ⟨⟨q0, q1, q2, q3, _, q5⟩, _⟩ := rcell (RC.at_ (Thing.next h92 hu)).1
          exact ⟨q0, q1, q2, q3, q5⟩
        clear h91 h92
        refine wp_region_specs (S := fun u => Below wy.heap.size wy u) (Sp := [(31, Stb.eq (.pointer (some ⟨b, 0, none⟩))), (32, Stb.eq (.int .i64 c2.s)), (33, Stb.eq (.pointer (some ⟨r, 0, none⟩))), (34, Stb.eq (.pointer (some ⟨r, 0, none⟩))), (35, Stb.eq (.pointer (some ⟨r, 1, none⟩))), (36, Stb.eq (.int .i64 c2.s)), (37, Stb.eq (.bool false)), (38, Stb.eq (.bool false)), (39, Stb.eq (.pointer (some ⟨b, 0, none⟩))), (40, Stb.eq (.int .i64 c2.o)), (41, Stb.eq (.pointer (some ⟨r, 0, none⟩))), (42, Stb.eq (.pointer (some ⟨r, 0, none⟩))), (43, Stb.eq (.pointer (some ⟨r, 2, none⟩))), (44, Stb.eq (.int .i64 c2.o)), (45, Stb.eq (.bool false)), (46, Stb.eq (.bool false)), (47, Stb.eq (.bool false)), (48, Stb.eq (.pointer (some ⟨b, 0, none⟩))), (49, Stb.eq (.int .u64 c2.f)), (50, Stb.eq (.pointer (some ⟨r, 0, none⟩))), (51, Stb.eq (.pointer (some ⟨r, 0, none⟩))), (52, Stb.eq (.pointer (some ⟨r, 3, none⟩))), (53, Stb.eq (.int .u64 c2.f)), (54, Stb.eq (.bool false)), (55, Stb.eq (.bool false)), (56, Stb.eq (.bool false)), (57, Stb.eq (.pointer (some ⟨b, 0, none⟩))), (58, Stb.eq (.int .i64 c2.n)), (59, Stb.eq (.pointer (some ⟨r, 0, none⟩))), (60, Stb.eq (.pointer (some ⟨r, 0, none⟩))), (61, Stb.eq (.pointer (some ⟨r, 5, none⟩))), (62, Stb.eq (.int .i64 c2.n)), (63, Stb.eq (.bool false)), (64, Stb.eq (.bool false)), (65, Stb.eq (.bool false)), (66, Stb.eq (.pointer (some ⟨b, 0, none⟩))), (67, Stb.eq (.int .u64 ep)), (68, Stb.eq (.pointer (some ⟨r, 0, none⟩))), (69, Stb.eq (.pointer (some ⟨r, 0, none⟩))), (70, Stb.eq (.pointer (some ⟨r, 0, none⟩))), (71, Stb.eq (.int .u64 ep)), (72, Stb.eq (.bool false)), (73, Stb.eq (.bool false))]) (by kernel_rfl) (by kernel_rfl) (kp_drewN _ 1) ?_ ?_
        · refine EachOp.cons ?_ ?_
          · intro a u hst hS hdep
            have h5 : a.tmps.getD 5 undef = .pointer (some ⟨b, 0, none⟩) := hst.out 5 (by kernel_rfl)
            refine ⟨trivial, ?_⟩
            have g5 := gd h5
            go_simp
            exact Goes.same hS rfl
          refine EachOp.cons ?_ ?_
          · intro a u hst hS hdep
            have h31 : a.tmps.getD 31 undef = .pointer (some ⟨b, 0, none⟩) := hdep 31 (by kernel_rfl)
            refine ⟨trivial, ?_⟩
            have g31 := gd h31
            go_simp
            refine (cstate_ok (HPA.out u hS)).mono ?_
            rintro e u' ⟨rfl, rfl⟩
            exact Goes.same hS rfl
          refine EachOp.cons ?_ ?_
          · intro a u hst hS hdep
            have h6 : a.tmps.getD 6 undef = .pointer (some ⟨r, 0, none⟩) := hst.out 6 (by kernel_rfl)
            refine ⟨trivial, ?_⟩
            have g6 := gd h6
            go_simp
            exact Goes.same hS rfl
          refine EachOp.cons ?_ ?_
          · intro a u hst hS hdep
            have h33 : a.tmps.getD 33 undef = .pointer (some ⟨r, 0, none⟩) := hdep 33 (by kernel_rfl)
            refine ⟨trivial, ?_⟩
            have g33 := gd h33
            go_simp
            exact Goes.same hS rfl
          refine EachOp.cons ?_ ?_
          · intro a u hst hS hdep
            have h34 : a.tmps.getD 34 undef = .pointer (some ⟨r, 0, none⟩) := hdep 34 (by kernel_rfl)
            refine ⟨trivial, ?_⟩
            have g34 := gd h34
            go_simp
            exact Goes.same hS rfl
          refine EachOp.cons ?_ ?_
          · intro a u hst hS hdep
            have h35 : a.tmps.getD 35 undef = .pointer (some ⟨r, 1, none⟩) := hdep 35 (by kernel_rfl)
            refine ⟨trivial, ?_⟩
            have g35 := gd h35
            have c36 := (HRA.out u hS).2.1
            go_simp
            exact Goes.same hS rfl
          refine EachOp.cons ?_ ?_
          · intro a u hst hS hdep
            have h32 : a.tmps.getD 32 undef = .int .i64 c2.s := hdep 32 (by kernel_rfl)
            have h36 : a.tmps.getD 36 undef = .int .i64 c2.s := hdep 36 (by kernel_rfl)
            refine ⟨trivial, ?_⟩
            have g32 := gd h32
            have g36 := gd h36
            go_simp
            exact Goes.same hS rfl
          refine EachOp.cons ?_ ?_
          · intro a u hst hS hdep
            have h37 : a.tmps.getD 37 undef = .bool false := hdep 37 (by kernel_rfl)
            refine ⟨trivial, ?_⟩
            have g37 := gd h37
            go_simp
            exact Goes.same hS rfl
          refine EachOp.cons ?_ ?_
          · intro a u hst hS hdep
            have h5 : a.tmps.getD 5 undef = .pointer (some ⟨b, 0, none⟩) := hst.out 5 (by kernel_rfl)
            have h38 : a.tmps.getD 38 undef = .bool false := hdep 38 (by kernel_rfl)
            refine ⟨⟨38, by kernel_rfl, h38⟩, ?_⟩
            clear h38
            have g5 := gd h5
            go_simp
            exact Goes.same hS rfl
          refine EachOp.cons ?_ ?_
          · intro a u hst hS hdep
            have h39 : a.tmps.getD 39 undef = .pointer (some ⟨b, 0, none⟩) := hdep 39 (by kernel_rfl)
            have h38 : a.tmps.getD 38 undef = .bool false := hdep 38 (by kernel_rfl)
            refine ⟨⟨38, by kernel_rfl, h38⟩, ?_⟩
            clear h38
            have g39 := gd h39
            go_simp
            refine (cowner_ok (HPA.out u hS)).mono ?_
            rintro e u' ⟨rfl, rfl⟩
            exact Goes.same hS rfl
          refine EachOp.cons ?_ ?_
          · intro a u hst hS hdep
            have h6 : a.tmps.getD 6 undef = .pointer (some ⟨r, 0, none⟩) := hst.out 6 (by kernel_rfl)
            have h38 : a.tmps.getD 38 undef = .bool false := hdep 38 (by kernel_rfl)
            refine ⟨⟨38, by kernel_rfl, h38⟩, ?_⟩
            clear h38
            have g6 := gd h6
            go_simp
            exact Goes.same hS rfl
          refine EachOp.cons ?_ ?_
          · intro a u hst hS hdep
            have h41 : a.tmps.getD 41 undef = .pointer (some ⟨r, 0, none⟩) := hdep 41 (by kernel_rfl)
            have h38 : a.tmps.getD 38 undef = .bool false := hdep 38 (by kernel_rfl)
            refine ⟨⟨38, by kernel_rfl, h38⟩, ?_⟩
            clear h38
            have g41 := gd h41
            go_simp
            exact Goes.same hS rfl
          refine EachOp.cons ?_ ?_
          · intro a u hst hS hdep
            have h42 : a.tmps.getD 42 undef = .pointer (some ⟨r, 0, none⟩) := hdep 42 (by kernel_rfl)
            have h38 : a.tmps.getD 38 undef = .bool false := hdep 38 (by kernel_rfl)
            refine ⟨⟨38, by kernel_rfl, h38⟩, ?_⟩
            clear h38
            have g42 := gd h42
            go_simp
            exact Goes.same hS rfl
          refine EachOp.cons ?_ ?_
          · intro a u hst hS hdep
            have h43 : a.tmps.getD 43 undef = .pointer (some ⟨r, 2, none⟩) := hdep 43 (by kernel_rfl)
            have h38 : a.tmps.getD 38 undef = .bool false := hdep 38 (by kernel_rfl)
            refine ⟨⟨38, by kernel_rfl, h38⟩, ?_⟩
            clear h38
            have g43 := gd h43
            have c44 := (HRA.out u hS).2.2.1
            go_simp
            exact Goes.same hS rfl
          refine EachOp.cons ?_ ?_
          · intro a u hst hS hdep
            have h40 : a.tmps.getD 40 undef = .int .i64 c2.o := hdep 40 (by kernel_rfl)
            have h44 : a.tmps.getD 44 undef = .int .i64 c2.o := hdep 44 (by kernel_rfl)
            have h38 : a.tmps.getD 38 undef = .bool false := hdep 38 (by kernel_rfl)
            refine ⟨⟨38, by kernel_rfl, h38⟩, ?_⟩
            clear h38
            have g40 := gd h40
            have g44 := gd h44
            go_simp
            exact Goes.same hS rfl
          refine EachOp.cons ?_ ?_
          · intro a u hst hS hdep
            have h38 : a.tmps.getD 38 undef = .bool false := hdep 38 (by kernel_rfl)
            have h45 : a.tmps.getD 45 undef = .bool false := hdep 45 (by kernel_rfl)
            refine ⟨trivial, ?_⟩
            have g38 := gd h38
            have g45 := gd h45
            go_simp
            exact Goes.same hS rfl
          refine EachOp.cons ?_ ?_
          · intro a u hst hS hdep
            have h46 : a.tmps.getD 46 undef = .bool false := hdep 46 (by kernel_rfl)
            refine ⟨trivial, ?_⟩
            have g46 := gd h46
            go_simp
            exact Goes.same hS rfl
          refine EachOp.cons ?_ ?_
          · intro a u hst hS hdep
            have h5 : a.tmps.getD 5 undef = .pointer (some ⟨b, 0, none⟩) := hst.out 5 (by kernel_rfl)
            have h47 : a.tmps.getD 47 undef = .bool false := hdep 47 (by kernel_rfl)
            refine ⟨⟨47, by kernel_rfl, h47⟩, ?_⟩
            clear h47
            have g5 := gd h5
            go_simp
            exact Goes.same hS rfl
          refine EachOp.cons ?_ ?_
          · intro a u hst hS hdep
            have h48 : a.tmps.getD 48 undef = .pointer (some ⟨b, 0, none⟩) := hdep 48 (by kernel_rfl)
            have h47 : a.tmps.getD 47 undef = .bool false := hdep 47 (by kernel_rfl)
            refine ⟨⟨47, by kernel_rfl, h47⟩, ?_⟩
            clear h47
            have g48 := gd h48
            go_simp
            refine (cflight_ok (HPA.out u hS)).mono ?_
            rintro e u' ⟨rfl, rfl⟩
            exact Goes.same hS rfl
          refine EachOp.cons ?_ ?_
          · intro a u hst hS hdep
            have h6 : a.tmps.getD 6 undef = .pointer (some ⟨r, 0, none⟩) := hst.out 6 (by kernel_rfl)
            have h47 : a.tmps.getD 47 undef = .bool false := hdep 47 (by kernel_rfl)
            refine ⟨⟨47, by kernel_rfl, h47⟩, ?_⟩
            clear h47
            have g6 := gd h6
            go_simp
            exact Goes.same hS rfl
          refine EachOp.cons ?_ ?_
          · intro a u hst hS hdep
            have h50 : a.tmps.getD 50 undef = .pointer (some ⟨r, 0, none⟩) := hdep 50 (by kernel_rfl)
            have h47 : a.tmps.getD 47 undef = .bool false := hdep 47 (by kernel_rfl)
            refine ⟨⟨47, by kernel_rfl, h47⟩, ?_⟩
            clear h47
            have g50 := gd h50
            go_simp
            exact Goes.same hS rfl
          refine EachOp.cons ?_ ?_
          · intro a u hst hS hdep
            have h51 : a.tmps.getD 51 undef = .pointer (some ⟨r, 0, none⟩) := hdep 51 (by kernel_rfl)
            have h47 : a.tmps.getD 47 undef = .bool false := hdep 47 (by kernel_rfl)
            refine ⟨⟨47, by kernel_rfl, h47⟩, ?_⟩
            clear h47
            have g51 := gd h51
            go_simp
            exact Goes.same hS rfl
          refine EachOp.cons ?_ ?_
          · intro a u hst hS hdep
            have h52 : a.tmps.getD 52 undef = .pointer (some ⟨r, 3, none⟩) := hdep 52 (by kernel_rfl)
            have h47 : a.tmps.getD 47 undef = .bool false := hdep 47 (by kernel_rfl)
            refine ⟨⟨47, by kernel_rfl, h47⟩, ?_⟩
            clear h47
            have g52 := gd h52
            have c53 := (HRA.out u hS).2.2.2.1
            go_simp
            exact Goes.same hS rfl
          refine EachOp.cons ?_ ?_
          · intro a u hst hS hdep
            have h49 : a.tmps.getD 49 undef = .int .u64 c2.f := hdep 49 (by kernel_rfl)
            have h53 : a.tmps.getD 53 undef = .int .u64 c2.f := hdep 53 (by kernel_rfl)
            have h47 : a.tmps.getD 47 undef = .bool false := hdep 47 (by kernel_rfl)
            refine ⟨⟨47, by kernel_rfl, h47⟩, ?_⟩
            clear h47
            have g49 := gd h49
            have g53 := gd h53
            go_simp
            exact Goes.same hS rfl
          refine EachOp.cons ?_ ?_
          · intro a u hst hS hdep
            have h47 : a.tmps.getD 47 undef = .bool false := hdep 47 (by kernel_rfl)
            have h54 : a.tmps.getD 54 undef = .bool false := hdep 54 (by kernel_rfl)
            refine ⟨trivial, ?_⟩
            have g47 := gd h47
            have g54 := gd h54
            go_simp
            exact Goes.same hS rfl
          refine EachOp.cons ?_ ?_
          · intro a u hst hS hdep
            have h55 : a.tmps.getD 55 undef = .bool false := hdep 55 (by kernel_rfl)
            refine ⟨trivial, ?_⟩
            have g55 := gd h55
            go_simp
            exact Goes.same hS rfl
          refine EachOp.cons ?_ ?_
          · intro a u hst hS hdep
            have h5 : a.tmps.getD 5 undef = .pointer (some ⟨b, 0, none⟩) := hst.out 5 (by kernel_rfl)
            have h56 : a.tmps.getD 56 undef = .bool false := hdep 56 (by kernel_rfl)
            refine ⟨⟨56, by kernel_rfl, h56⟩, ?_⟩
            clear h56
            have g5 := gd h5
            go_simp
            exact Goes.same hS rfl
          refine EachOp.cons ?_ ?_
          · intro a u hst hS hdep
            have h57 : a.tmps.getD 57 undef = .pointer (some ⟨b, 0, none⟩) := hdep 57 (by kernel_rfl)
            have h56 : a.tmps.getD 56 undef = .bool false := hdep 56 (by kernel_rfl)
            refine ⟨⟨56, by kernel_rfl, h56⟩, ?_⟩
            clear h56
            have g57 := gd h57
            go_simp
            refine (csent_ok (HPA.out u hS)).mono ?_
            rintro e u' ⟨rfl, rfl⟩
            exact Goes.same hS rfl
          refine EachOp.cons ?_ ?_
          · intro a u hst hS hdep
            have h6 : a.tmps.getD 6 undef = .pointer (some ⟨r, 0, none⟩) := hst.out 6 (by kernel_rfl)
            have h56 : a.tmps.getD 56 undef = .bool false := hdep 56 (by kernel_rfl)
            refine ⟨⟨56, by kernel_rfl, h56⟩, ?_⟩
            clear h56
            have g6 := gd h6
            go_simp
            exact Goes.same hS rfl
          refine EachOp.cons ?_ ?_
          · intro a u hst hS hdep
            have h59 : a.tmps.getD 59 undef = .pointer (some ⟨r, 0, none⟩) := hdep 59 (by kernel_rfl)
            have h56 : a.tmps.getD 56 undef = .bool false := hdep 56 (by kernel_rfl)
            refine ⟨⟨56, by kernel_rfl, h56⟩, ?_⟩
            clear h56
            have g59 := gd h59
            go_simp
            exact Goes.same hS rfl
          refine EachOp.cons ?_ ?_
          · intro a u hst hS hdep
            have h60 : a.tmps.getD 60 undef = .pointer (some ⟨r, 0, none⟩) := hdep 60 (by kernel_rfl)
            have h56 : a.tmps.getD 56 undef = .bool false := hdep 56 (by kernel_rfl)
            refine ⟨⟨56, by kernel_rfl, h56⟩, ?_⟩
            clear h56
            have g60 := gd h60
            go_simp
            exact Goes.same hS rfl
          refine EachOp.cons ?_ ?_
          · intro a u hst hS hdep
            have h61 : a.tmps.getD 61 undef = .pointer (some ⟨r, 5, none⟩) := hdep 61 (by kernel_rfl)
            have h56 : a.tmps.getD 56 undef = .bool false := hdep 56 (by kernel_rfl)
            refine ⟨⟨56, by kernel_rfl, h56⟩, ?_⟩
            clear h56
            have g61 := gd h61
            have c62 := (HRA.out u hS).2.2.2.2
            go_simp
            exact Goes.same hS rfl
          refine EachOp.cons ?_ ?_
          · intro a u hst hS hdep
            have h58 : a.tmps.getD 58 undef = .int .i64 c2.n := hdep 58 (by kernel_rfl)
            have h62 : a.tmps.getD 62 undef = .int .i64 c2.n := hdep 62 (by kernel_rfl)
            have h56 : a.tmps.getD 56 undef = .bool false := hdep 56 (by kernel_rfl)
            refine ⟨⟨56, by kernel_rfl, h56⟩, ?_⟩
            clear h56
            have g58 := gd h58
            have g62 := gd h62
            go_simp
            exact Goes.same hS rfl
          refine EachOp.cons ?_ ?_
          · intro a u hst hS hdep
            have h56 : a.tmps.getD 56 undef = .bool false := hdep 56 (by kernel_rfl)
            have h63 : a.tmps.getD 63 undef = .bool false := hdep 63 (by kernel_rfl)
            refine ⟨trivial, ?_⟩
            have g56 := gd h56
            have g63 := gd h63
            go_simp
            exact Goes.same hS rfl
          refine EachOp.cons ?_ ?_
          · intro a u hst hS hdep
            have h64 : a.tmps.getD 64 undef = .bool false := hdep 64 (by kernel_rfl)
            refine ⟨trivial, ?_⟩
            have g64 := gd h64
            go_simp
            exact Goes.same hS rfl
          refine EachOp.cons ?_ ?_
          · intro a u hst hS hdep
            have h5 : a.tmps.getD 5 undef = .pointer (some ⟨b, 0, none⟩) := hst.out 5 (by kernel_rfl)
            have h65 : a.tmps.getD 65 undef = .bool false := hdep 65 (by kernel_rfl)
            refine ⟨⟨65, by kernel_rfl, h65⟩, ?_⟩
            clear h65
            have g5 := gd h5
            go_simp
            exact Goes.same hS rfl
          refine EachOp.cons ?_ ?_
          · intro a u hst hS hdep
            have h66 : a.tmps.getD 66 undef = .pointer (some ⟨b, 0, none⟩) := hdep 66 (by kernel_rfl)
            have h65 : a.tmps.getD 65 undef = .bool false := hdep 65 (by kernel_rfl)
            refine ⟨⟨65, by kernel_rfl, h65⟩, ?_⟩
            clear h65
            have g66 := gd h66
            go_simp
            refine (cepoch_ok (HPA.out u hS)).mono ?_
            rintro e u' ⟨rfl, rfl⟩
            exact Goes.same hS rfl
          refine EachOp.cons ?_ ?_
          · intro a u hst hS hdep
            have h6 : a.tmps.getD 6 undef = .pointer (some ⟨r, 0, none⟩) := hst.out 6 (by kernel_rfl)
            have h65 : a.tmps.getD 65 undef = .bool false := hdep 65 (by kernel_rfl)
            refine ⟨⟨65, by kernel_rfl, h65⟩, ?_⟩
            clear h65
            have g6 := gd h6
            go_simp
            exact Goes.same hS rfl
          refine EachOp.cons ?_ ?_
          · intro a u hst hS hdep
            have h68 : a.tmps.getD 68 undef = .pointer (some ⟨r, 0, none⟩) := hdep 68 (by kernel_rfl)
            have h65 : a.tmps.getD 65 undef = .bool false := hdep 65 (by kernel_rfl)
            refine ⟨⟨65, by kernel_rfl, h65⟩, ?_⟩
            clear h65
            have g68 := gd h68
            go_simp
            exact Goes.same hS rfl
          refine EachOp.cons ?_ ?_
          · intro a u hst hS hdep
            have h69 : a.tmps.getD 69 undef = .pointer (some ⟨r, 0, none⟩) := hdep 69 (by kernel_rfl)
            have h65 : a.tmps.getD 65 undef = .bool false := hdep 65 (by kernel_rfl)
            refine ⟨⟨65, by kernel_rfl, h65⟩, ?_⟩
            clear h65
            have g69 := gd h69
            go_simp
            exact Goes.same hS rfl
          refine EachOp.cons ?_ ?_
          · intro a u hst hS hdep
            have h70 : a.tmps.getD 70 undef = .pointer (some ⟨r, 0, none⟩) := hdep 70 (by kernel_rfl)
            have h65 : a.tmps.getD 65 undef = .bool false := hdep 65 (by kernel_rfl)
            refine ⟨⟨65, by kernel_rfl, h65⟩, ?_⟩
            clear h65
            have g70 := gd h70
            have c71 := (HRA.out u hS).1
            go_simp
            exact Goes.same hS rfl
          refine EachOp.cons ?_ ?_
          · intro a u hst hS hdep
            have h67 : a.tmps.getD 67 undef = .int .u64 ep := hdep 67 (by kernel_rfl)
            have h71 : a.tmps.getD 71 undef = .int .u64 ep := hdep 71 (by kernel_rfl)
            have h65 : a.tmps.getD 65 undef = .bool false := hdep 65 (by kernel_rfl)
            refine ⟨⟨65, by kernel_rfl, h65⟩, ?_⟩
            clear h65
            have g67 := gd h67
            have g71 := gd h71
            go_simp
            exact Goes.same hS rfl
          refine EachOp.cons ?_ ?_
          · intro a u hst hS hdep
            have h65 : a.tmps.getD 65 undef = .bool false := hdep 65 (by kernel_rfl)
            have h72 : a.tmps.getD 72 undef = .bool false := hdep 72 (by kernel_rfl)
            refine ⟨trivial, ?_⟩
            have g65 := gd h65
            have g72 := gd h72
            go_simp
            exact Goes.same hS rfl
          exact EachOp.nil
        · intro a u hst hS hdep
          have h31 : a.tmps.getD 31 undef = .pointer (some ⟨b, 0, none⟩) := hdep 31 (by kernel_rfl)
          have h32 : a.tmps.getD 32 undef = .int .i64 c2.s := hdep 32 (by kernel_rfl)
          have h33 : a.tmps.getD 33 undef = .pointer (some ⟨r, 0, none⟩) := hdep 33 (by kernel_rfl)
          have h34 : a.tmps.getD 34 undef = .pointer (some ⟨r, 0, none⟩) := hdep 34 (by kernel_rfl)
          have h35 : a.tmps.getD 35 undef = .pointer (some ⟨r, 1, none⟩) := hdep 35 (by kernel_rfl)
          have h36 : a.tmps.getD 36 undef = .int .i64 c2.s := hdep 36 (by kernel_rfl)
          have h37 : a.tmps.getD 37 undef = .bool false := hdep 37 (by kernel_rfl)
          have h38 : a.tmps.getD 38 undef = .bool false := hdep 38 (by kernel_rfl)
          have h39 : a.tmps.getD 39 undef = .pointer (some ⟨b, 0, none⟩) := hdep 39 (by kernel_rfl)
          have h40 : a.tmps.getD 40 undef = .int .i64 c2.o := hdep 40 (by kernel_rfl)
          have h41 : a.tmps.getD 41 undef = .pointer (some ⟨r, 0, none⟩) := hdep 41 (by kernel_rfl)
          have h42 : a.tmps.getD 42 undef = .pointer (some ⟨r, 0, none⟩) := hdep 42 (by kernel_rfl)
          have h43 : a.tmps.getD 43 undef = .pointer (some ⟨r, 2, none⟩) := hdep 43 (by kernel_rfl)
          have h44 : a.tmps.getD 44 undef = .int .i64 c2.o := hdep 44 (by kernel_rfl)
          have h45 : a.tmps.getD 45 undef = .bool false := hdep 45 (by kernel_rfl)
          have h46 : a.tmps.getD 46 undef = .bool false := hdep 46 (by kernel_rfl)
          have h47 : a.tmps.getD 47 undef = .bool false := hdep 47 (by kernel_rfl)
          have h48 : a.tmps.getD 48 undef = .pointer (some ⟨b, 0, none⟩) := hdep 48 (by kernel_rfl)
          have h49 : a.tmps.getD 49 undef = .int .u64 c2.f := hdep 49 (by kernel_rfl)
          have h50 : a.tmps.getD 50 undef = .pointer (some ⟨r, 0, none⟩) := hdep 50 (by kernel_rfl)
          have h51 : a.tmps.getD 51 undef = .pointer (some ⟨r, 0, none⟩) := hdep 51 (by kernel_rfl)
          have h52 : a.tmps.getD 52 undef = .pointer (some ⟨r, 3, none⟩) := hdep 52 (by kernel_rfl)
          have h53 : a.tmps.getD 53 undef = .int .u64 c2.f := hdep 53 (by kernel_rfl)
          have h54 : a.tmps.getD 54 undef = .bool false := hdep 54 (by kernel_rfl)
          have h55 : a.tmps.getD 55 undef = .bool false := hdep 55 (by kernel_rfl)
          have h56 : a.tmps.getD 56 undef = .bool false := hdep 56 (by kernel_rfl)
          have h57 : a.tmps.getD 57 undef = .pointer (some ⟨b, 0, none⟩) := hdep 57 (by kernel_rfl)
          have h58 : a.tmps.getD 58 undef = .int .i64 c2.n := hdep 58 (by kernel_rfl)
          have h59 : a.tmps.getD 59 undef = .pointer (some ⟨r, 0, none⟩) := hdep 59 (by kernel_rfl)
          have h60 : a.tmps.getD 60 undef = .pointer (some ⟨r, 0, none⟩) := hdep 60 (by kernel_rfl)
          have h61 : a.tmps.getD 61 undef = .pointer (some ⟨r, 5, none⟩) := hdep 61 (by kernel_rfl)
          have h62 : a.tmps.getD 62 undef = .int .i64 c2.n := hdep 62 (by kernel_rfl)
          have h63 : a.tmps.getD 63 undef = .bool false := hdep 63 (by kernel_rfl)
          have h64 : a.tmps.getD 64 undef = .bool false := hdep 64 (by kernel_rfl)
          have h65 : a.tmps.getD 65 undef = .bool false := hdep 65 (by kernel_rfl)
          have h66 : a.tmps.getD 66 undef = .pointer (some ⟨b, 0, none⟩) := hdep 66 (by kernel_rfl)
          have h67 : a.tmps.getD 67 undef = .int .u64 ep := hdep 67 (by kernel_rfl)
          have h68 : a.tmps.getD 68 undef = .pointer (some ⟨r, 0, none⟩) := hdep 68 (by kernel_rfl)
          have h69 : a.tmps.getD 69 undef = .pointer (some ⟨r, 0, none⟩) := hdep 69 (by kernel_rfl)
          have h70 : a.tmps.getD 70 undef = .pointer (some ⟨r, 0, none⟩) := hdep 70 (by kernel_rfl)
          have h71 : a.tmps.getD 71 undef = .int .u64 ep := hdep 71 (by kernel_rfl)
          have h72 : a.tmps.getD 72 undef = .bool false := hdep 72 (by kernel_rfl)
          have h73 : a.tmps.getD 73 undef = .bool false := hdep 73 (by kernel_rfl)
          have hfr := hst.frame [(31, .pointer (some ⟨b, 0, none⟩)), (32, .int .i64 c2.s), (33, .pointer (some ⟨r, 0, none⟩)), (34, .pointer (some ⟨r, 0, none⟩)), (35, .pointer (some ⟨r, 1, none⟩)), (36, .int .i64 c2.s), (37, .bool false), (38, .bool false), (39, .pointer (some ⟨b, 0, none⟩)), (40, .int .i64 c2.o), (41, .pointer (some ⟨r, 0, none⟩)), (42, .pointer (some ⟨r, 0, none⟩)), (43, .pointer (some ⟨r, 2, none⟩)), (44, .int .i64 c2.o), (45, .bool false), (46, .bool false), (47, .bool false), (48, .pointer (some ⟨b, 0, none⟩)), (49, .int .u64 c2.f), (50, .pointer (some ⟨r, 0, none⟩)), (51, .pointer (some ⟨r, 0, none⟩)), (52, .pointer (some ⟨r, 3, none⟩)), (53, .int .u64 c2.f), (54, .bool false), (55, .bool false), (56, .bool false), (57, .pointer (some ⟨b, 0, none⟩)), (58, .int .i64 c2.n), (59, .pointer (some ⟨r, 0, none⟩)), (60, .pointer (some ⟨r, 0, none⟩)), (61, .pointer (some ⟨r, 5, none⟩)), (62, .int .i64 c2.n), (63, .bool false), (64, .bool false), (65, .bool false), (66, .pointer (some ⟨b, 0, none⟩)), (67, .int .u64 ep), (68, .pointer (some ⟨r, 0, none⟩)), (69, .pointer (some ⟨r, 0, none⟩)), (70, .pointer (some ⟨r, 0, none⟩)), (71, .int .u64 ep), (72, .bool false), (73, .bool false)] (by kernel_rfl) ⟨h31, h32, h33, h34, h35, h36, h37, h38, h39, h40, h41, h42, h43, h44, h45, h46, h47, h48, h49, h50, h51, h52, h53, h54, h55, h56, h57, h58, h59, h60, h61, h62, h63, h64, h65, h66, h67, h68, h69, h70, h71, h72, h73, trivial⟩
          clear hst hdep h31 h32 h33 h34 h35 h36 h37 h38 h39 h40 h41 h42 h43 h44 h45 h46 h47 h48 h49 h50 h51 h52 h53 h54 h55 h56 h57 h58 h59 h60 h61 h62 h63 h64 h65 h66 h67 h68 h69 h70 h71 h72 h73
          subst hfr
          simp only [List.foldl_cons, List.foldl_nil, List.setIfInBounds_toArray, List.set_cons_zero, List.set_cons_succ]
          have HDU : Hid (Duo W (CC b ep c2) (RC r ep c2) noneB u) := Lib.hid ((HDY.out.less fun _ h => h.elim).next hS)
          clear hS HDY HPA HRA
          go_wp2_with fail
          go_roundw
          case rel => exact ⟨k + 1, c2, by omega, by go_num, HDU⟩
          case measure => simp [intOf]; omega
    · obtain rfl : k = l1 := by omega
      go_wp2_with fail
      go_ret
      exact ⟨rfl, hD.out.low⟩
end Go.Proofs.Ytnaefikajmgmdaa
