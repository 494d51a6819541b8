/-
  WaitsDo, of layer 8: the walk.
-/
import Derived.Test.YtijemohcengmjaaWaU
import Derived.Test.YtijemohcengmjaaOpenW
namespace Go.Proofs.Ytijemohcengmjaa
open Go.RowKit
set_option maxRecDepth 100000

/-- a row of numbers that is read -/
def nrSt (zs : List Int) : Stb := ⟨fun v u => ∃ A n c, v = .slice A n c ∧ NR u A n zs ∧ n ≤ 12, fun _ _ _ ⟨A, n, c, h, r, z⟩ hb => ⟨A, n, c, h, r.next hb, z⟩⟩

set_option maxHeartbeats 16000000 in
theorem waitsdo_walk (m : Int) (A1 : Option Addr) (l1 c1 : Nat) (ts : List Act2) (z : Int) (W : World) (r1 : AW W A1 l1 ts) :
    Calls Try.prog 3 #[.int .i64 m, .slice A1 l1 c1, .int .i64 z] W fun e w' => e = .returned (.bool true) ∧ Below W.heap.size W w' := by
  have HAW := Lib.hid (awake8_ok W)
  have R1 := Lib.hid r1
  have HN1 := Lib.hid r1.len
  clear r1
  go_enter Try.func3, Try.ntmps3
  go_wp2_with fail
  refine HAW.out.mono ?_
  rintro e w1 ⟨rfl, k1⟩
  have HK1 := Lib.hid k1
  clear HAW k1
  by_cases hbig : 200 < l1
  · have hb : (200 : Int) < (l1 : Int) := by omega
    go_wp2_with fail
    go_ret
    exact ⟨rfl, HK1.out⟩
  have hl1 : l1 ≤ 200 := by omega
  have hb : ¬ (200 : Int) < (l1 : Int) := by omega
  clear hbig
  by_cases hbad : m < 0 ∨ 12 < m
  · have HP1 := Lib.hid (pnew_bad m hbad w1)
    have HP2 := Lib.hid (rnew_bad m hbad w1)
    clear hbad
    go_wp2_with fail
    refine HP1.out.mono ?_
    rintro e w2 ⟨rfl, rfl⟩
    go_wp2_with fail
    refine HP2.out.mono ?_
    rintro e w2 ⟨rfl, rfl⟩
    go_wp2_with fail
    go_ret
    exact ⟨rfl, HK1.out⟩
  have hm0 : 0 ≤ m := by omega
  have hm1 : m ≤ 12 := by omega
  have HP1 := Lib.hid (pnew_good m hm0 hm1 w1)
  clear hbad
  go_wp2_with fail
  refine HP1.out.mono ?_
  rintro e w2 ⟨rfl, p2, k2⟩
  have HS2 : Hid (Solo W (PW w1.heap.size m []) noneB w2) := Lib.hid (Solo.make HK1.out p2 (fun k h => by omega) k2)
  have HP2 := Lib.hid (rnew_good m hm0 hm1 w2)
  clear p2 k2 HP1 HK1
  obtain ⟨b, hbb⟩ : ∃ b, b = w1.heap.size := ⟨_, rfl⟩
  rw [← hbb] at HS2
  rw [← hbb]
  clear hbb
  go_wp2_with fail
  refine HP2.out.mono ?_
  rintro e w3 ⟨rfl, p3, k3⟩
  have HD3 : Hid (Duo W (PW b m []) (RW w2.heap.size m []) noneB w3) := Lib.hid (HS2.out.duo p3 (fun k h => by omega) k3)
  clear p3 k3 HP2 HS2
  obtain ⟨c, hcc⟩ : ∃ c, c = w2.heap.size := ⟨_, rfl⟩
  rw [← hcc] at HD3
  rw [← hcc]
  clear hcc
  go_wp2_with fail
  go_loopw [47] (fun i wr => ∃ (k : Nat) (l : List Int), k ≤ l1 ∧ i = .int .i64 k ∧ Hid (Duo W (PW b m l) (RW c m l) noneB wr)) (fun i _ => l1 - (intOf i).toNat)
  case atStart => exact ⟨0, [], Nat.zero_le _, rfl, HD3⟩
  case round =>
    obtain ⟨k, l, hk, rfl, hD⟩ := hrel
    by_cases hlt : k < l1
    · have hkl : k < ts.length := by rw [HN1.out]; exact hlt
      obtain ⟨ad, rfl, _, hcc⟩ := R1.out.at_ hkl
      obtain ⟨x0, x1⟩ := hcc wr hD.out.low
      clear hcc
      generalize ts[k] = t at *
      obtain ⟨d, x⟩ := t
      dsimp only at x0 x1
      have hDX := hD.out.mark (.cells #[.int .i64 d, .int .i64 x] 32)
      have y1 : (wr.alloc (.cells #[.int .i64 d, .int .i64 x] 32)).cell? ⟨wr.heap.size, 1, none⟩ = some (.int .i64 x) := by simp
      obtain ⟨wx, hwx⟩ : ∃ u, wr.alloc (.cells #[.int .i64 d, .int .i64 x] 32) = u := ⟨_, rfl⟩
      rw [hwx] at hDX y1
      obtain ⟨X, hX⟩ : ∃ X, X = wr.heap.size := ⟨_, rfl⟩
      rw [← hX] at hDX y1
      have HX := Lib.hid hX
      have HWX := Lib.hid hwx
      have HY1 := Lib.hid y1
      have HDX := Lib.hid hDX
      clear hDX y1 hwx hD hX
      by_cases hd0 : d = 0
      · subst hd0
        obtain ⟨l2, hl2⟩ : ∃ y, y = (putW m x l).2 := ⟨_, rfl⟩
        obtain ⟨pv, hpv⟩ : ∃ y, (putW m x l).1 = y := ⟨_, rfl⟩
        have HL2 := Lib.hid hl2
        have HPV := Lib.hid hpv
        obtain ⟨S, T, h1, h2, h3, h4⟩ := HDX.out.at_
        have HSN := Lib.hid h4
        have HNN : Hid (∀ k, (k = X ∨ noneB k) → k < wx.heap.size) := Lib.hid HDX.out.nlt
        have HXN : Hid (X < wx.drew.heap.size ∧ ¬ (S X ∨ T X)) := Lib.hid ⟨HDX.out.nlt X (.inl rfl), fun h => (h4 X h).2 (.inl rfl)⟩
        have HZ : Hid (W.heap.size ≤ wx.heap.size) := Lib.hid HDX.out.low.size
        have HKX : Hid (Below W.heap.size W wx.drew) := Lib.hid HDX.out.low.drew
        have HST : Hid (MidA S T wx.heap.size (PW b m l) (PW b m l2) (RW c m l) (RW c m l2) wx.drew false false wx.drew) := Lib.hid (MidA.start (Thing.drew h1) (Thing.drew h2) h3 (Nat.le_refl _))
        clear hl2 hpv h1 h2 h3 h4
        go_wp2_with fail
        rw [HWX.out]
        clear HWX
        refine wp_region_specs3 (S := fun L u => MidA S T wx.heap.size (PW b m l) (PW b m l2) (RW c m l) (RW c m l2) wx.drew (L 3) (L 7) u) (Bad := fun k => S k ∨ T k) (Sp := [(55, Sta.eq (.pointer (some ⟨b, 0, none⟩))), (56, Sta.eq (.pointer (some ⟨wr.heap.size, 1, none⟩))), (57, Sta.eq (.int .i64 x)), (58, Sta.eq (.int .i64 pv)), (59, Sta.eq (.pointer (some ⟨c, 0, none⟩))), (60, Sta.eq (.pointer (some ⟨wr.heap.size, 1, none⟩))), (61, Sta.eq (.int .i64 x)), (62, Sta.eq (.int .i64 pv)), (63, Sta.eq (.bool true)), (13, Sta.eq (.bool true))]) (by kernel_rfl) (by kernel_rfl) (HST.out) ?_ ?_
        · refine EachOp.cons ?_ ?_
          · intro L a u hL hst hS hdep
            have h7 : a.tmps.getD 7 undef = .pointer (some ⟨b, 0, none⟩) := hst.out 7 (by kernel_rfl)
            refine ⟨trivial, ?_⟩
            have g7 := gd h7
            go_simp
            exact Went.same hS rfl
          refine EachOp.cons ?_ ?_
          · intro L a u hL hst hS hdep
            have h12 : a.tmps.getD 12 undef = .pointer (some ⟨wr.heap.size, 0, none⟩) := hst.out 12 (by kernel_rfl)
            refine ⟨trivial, ?_⟩
            have g12 := gd h12
            go_simp
            exact Went.same hS rfl
          refine EachOp.cons ?_ ?_
          · intro L a u hL hst hS hdep
            have h56 : a.tmps.getD 56 undef = .pointer (some ⟨wr.heap.size, 1, none⟩) := hdep 56 (by kernel_rfl)
            refine ⟨trivial, ?_⟩
            have g56 := gd h56
            have c57 := (MidA.cell hS HXN.out.1 HXN.out.2 1).trans HY1.out
            rw [HX.out] at c57
            go_simp
            exact Went.same hS rfl
          refine EachOp.cons ?_ ?_
          · intro L a u hL hst hS hdep
            have h55 : a.tmps.getD 55 undef = .pointer (some ⟨b, 0, none⟩) := hdep 55 (by kernel_rfl)
            have h57 : a.tmps.getD 57 undef = .int .i64 x := hdep 57 (by kernel_rfl)
            refine ⟨trivial, ?_⟩
            have g55 := gd h55
            have g57 := gd h57
            go_simp
            have hS1 : MidA S T wx.heap.size (PW b m l) (PW b m l2) (RW c m l) (RW c m l2) wx.drew false (L 7) u := by have h := hS; simp only [hL] at h; exact h
            have h0 := pput_ok x hS1.getl
            rw [HPV.out, ← HL2.out] at h0
            refine h0.mono ?_
            rintro e u' ⟨rfl, ht⟩
            obtain ⟨t1, t2⟩ := hS1.left ht
            exact Went.next t1 t2 rfl
          refine EachOp.cons ?_ ?_
          · intro L a u hL hst hS hdep
            have h9 : a.tmps.getD 9 undef = .pointer (some ⟨c, 0, none⟩) := hst.out 9 (by kernel_rfl)
            refine ⟨trivial, ?_⟩
            have g9 := gd h9
            go_simp
            exact Went.same hS rfl
          refine EachOp.cons ?_ ?_
          · intro L a u hL hst hS hdep
            have h12 : a.tmps.getD 12 undef = .pointer (some ⟨wr.heap.size, 0, none⟩) := hst.out 12 (by kernel_rfl)
            refine ⟨trivial, ?_⟩
            have g12 := gd h12
            go_simp
            exact Went.same hS rfl
          refine EachOp.cons ?_ ?_
          · intro L a u hL hst hS hdep
            have h60 : a.tmps.getD 60 undef = .pointer (some ⟨wr.heap.size, 1, none⟩) := hdep 60 (by kernel_rfl)
            refine ⟨trivial, ?_⟩
            have g60 := gd h60
            have c61 := (MidA.cell hS HXN.out.1 HXN.out.2 1).trans HY1.out
            rw [HX.out] at c61
            go_simp
            exact Went.same hS rfl
          refine EachOp.cons ?_ ?_
          · intro L a u hL hst hS hdep
            have h59 : a.tmps.getD 59 undef = .pointer (some ⟨c, 0, none⟩) := hdep 59 (by kernel_rfl)
            have h61 : a.tmps.getD 61 undef = .int .i64 x := hdep 61 (by kernel_rfl)
            refine ⟨trivial, ?_⟩
            have g59 := gd h59
            have g61 := gd h61
            go_simp
            have hS1 : MidA S T wx.heap.size (PW b m l) (PW b m l2) (RW c m l) (RW c m l2) wx.drew (L 3) false u := by have h := hS; simp only [hL] at h; exact h
            have h0 := rput_ok x hS1.getr
            rw [HPV.out, ← HL2.out] at h0
            refine h0.mono ?_
            rintro e u' ⟨rfl, ht⟩
            obtain ⟨t1, t2⟩ := hS1.right ht
            exact Went.next t1 t2 rfl
          refine EachOp.cons ?_ ?_
          · intro L a u hL hst hS hdep
            have h58 : a.tmps.getD 58 undef = .int .i64 pv := hdep 58 (by kernel_rfl)
            have h62 : a.tmps.getD 62 undef = .int .i64 pv := hdep 62 (by kernel_rfl)
            refine ⟨trivial, ?_⟩
            have g58 := gd h58
            have g62 := gd h62
            go_simp
            exact Went.same hS rfl
          refine EachOp.cons ?_ ?_
          · intro L a u hL hst hS hdep
            have h63 : a.tmps.getD 63 undef = .bool true := hdep 63 (by kernel_rfl)
            refine ⟨trivial, ?_⟩
            have g63 := gd h63
            go_simp
            exact Went.same hS rfl
          exact EachOp.nil
        · intro L a u hLs hst hS hdep
          have h55 : a.tmps.getD 55 undef = .pointer (some ⟨b, 0, none⟩) := hdep 55 (by kernel_rfl)
          have h56 : a.tmps.getD 56 undef = .pointer (some ⟨wr.heap.size, 1, none⟩) := hdep 56 (by kernel_rfl)
          have h57 : a.tmps.getD 57 undef = .int .i64 x := hdep 57 (by kernel_rfl)
          have h58 : a.tmps.getD 58 undef = .int .i64 pv := hdep 58 (by kernel_rfl)
          have h59 : a.tmps.getD 59 undef = .pointer (some ⟨c, 0, none⟩) := hdep 59 (by kernel_rfl)
          have h60 : a.tmps.getD 60 undef = .pointer (some ⟨wr.heap.size, 1, none⟩) := hdep 60 (by kernel_rfl)
          have h61 : a.tmps.getD 61 undef = .int .i64 x := hdep 61 (by kernel_rfl)
          have h62 : a.tmps.getD 62 undef = .int .i64 pv := hdep 62 (by kernel_rfl)
          have h63 : a.tmps.getD 63 undef = .bool true := hdep 63 (by kernel_rfl)
          have h13 : a.tmps.getD 13 undef = .bool true := hdep 13 (by kernel_rfl)
          have hfr := hst.frame [(55, .pointer (some ⟨b, 0, none⟩)), (56, .pointer (some ⟨wr.heap.size, 1, none⟩)), (57, .int .i64 x), (58, .int .i64 pv), (59, .pointer (some ⟨c, 0, none⟩)), (60, .pointer (some ⟨wr.heap.size, 1, none⟩)), (61, .int .i64 x), (62, .int .i64 pv), (63, .bool true), (13, .bool true)] (by kernel_rfl) ⟨h55, h56, h57, h58, h59, h60, h61, h62, h63, h13, trivial⟩
          clear hst hdep h55 h56 h57 h58 h59 h60 h61 h62 h63 h13
          subst hfr
          simp only [List.foldl_cons, List.foldl_nil, List.setIfInBounds_toArray, List.set_cons_zero, List.set_cons_succ]
          have hlp := hLs 3 (by kernel_rfl)
          have hlr := hLs 7 (by kernel_rfl)
          have hS3 : MidA S T wx.heap.size (PW b m l) (PW b m l2) (RW c m l) (RW c m l2) wx.drew true true u := by have h := hS; simp only [hlp, hlr] at h; exact h
          have HC : Hid (u.cell? ⟨X, 1, none⟩ = some (.int .i64 x)) := Lib.hid ((MidA.cell hS3 HXN.out.1 HXN.out.2 1).trans HY1.out)
          have HDY : Hid (Duo W (PW b m l2) (RW c m l2) (fun k => k = X ∨ noneB k) u) := Lib.hid (hS3.done HSN.out HNN.out HZ.out HKX.out)
          clear hS3 hlp hlr hS hLs HST HXN HSN HNN HZ HKX HY1 HDX HPV HL2
          obtain ⟨wy, hwy⟩ : ∃ y, y = u := ⟨_, rfl⟩
          rw [← hwy] at HDY HC
          rw [← hwy]
          clear hwy
          go_wp2_with fail
          obtain ⟨S9, T9, h91, h92, _⟩ := HDY.out.at_
          have HPA : Hid (∀ u, Below wy.heap.size wy u → (PW b m l2).p S9 u) := Lib.hid fun u hu => Thing.next h91 hu
          have HRA : Hid (∀ u, Below wy.heap.size wy u → (RW c m l2).p T9 u) := Lib.hid fun u hu => Thing.next h92 hu
          obtain ⟨A9, n9, c9, hb9, hx9, hS9, _, hl9, hm9, _⟩ := RW.at_ h92
          have HRN : Hid (∀ u, Below wy.heap.size wy u → u.cell? ⟨c, 0, none⟩ = some (.slice A9 n9 c9) ∧ NR u A9 n9 l2) := Lib.hid fun u hu => ⟨(cells2t ((hu.block c (hl9 c hS9)).trans hb9)).1, hx9.nr.next hu⟩
          have hn9 : n9 ≤ 12 := by have := hx9.nr.len; omega
          have HN9 := Lib.hid hn9
          have HXL : Hid (X < wy.heap.size) := Lib.hid (HDY.out.nlt X (.inl rfl))
          have HCU : Hid (∀ u, Below wy.heap.size wy u → u.cell? ⟨wr.heap.size, 1, none⟩ = some (.int .i64 x)) := Lib.hid fun u hu => by
            have := (World.cell?_of_block (a := ⟨X, 1, none⟩) (hu.block X HXL.out)).trans HC.out
            rwa [HX.out] at this
          obtain ⟨p2, hp2⟩ : ∃ p, p = atW z l2 := ⟨_, rfl⟩
          obtain ⟨p3, hp3⟩ : ∃ p, p = atW x l2 := ⟨_, rfl⟩
          have HP2 := Lib.hid hp2
          have HP3 := Lib.hid hp3
          clear h91 h92 hb9 hx9 hS9 hl9 hm9 hn9 hp2 hp3 HC HXL
          refine wp_region_specs (S := fun u => Below wy.heap.size wy u) (Sp := [(95, Stb.eq (.bool true)), (96, Stb.eq (.bool false)), (97, Stb.eq (.bool false)), (98, Stb.eq (.pointer (some ⟨b, 0, none⟩))), (99, nrSt l2), (100, Stb.eq (.pointer (some ⟨c, 0, none⟩))), (101, Stb.eq (.pointer (some ⟨c, 0, none⟩))), (102, Stb.eq (.pointer (some ⟨c, 0, none⟩))), (103, Stb.eq (.slice A9 n9 c9)), (104, Stb.eq (.bool true)), (105, Stb.eq (.bool false)), (106, Stb.eq (.bool false)), (107, Stb.eq (.bool false)), (108, Stb.eq (.pointer (some ⟨b, 0, none⟩))), (109, Stb.eq (.int .i64 z)), (110, Stb.eq (.int .i64 p2)), (111, Stb.eq (.pointer (some ⟨c, 0, none⟩))), (112, Stb.eq (.int .i64 z)), (113, Stb.eq (.int .i64 p2)), (114, Stb.eq (.bool false)), (115, Stb.eq (.bool false)), (116, Stb.eq (.bool false)), (117, Stb.eq (.pointer (some ⟨b, 0, none⟩))), (118, Stb.eq (.pointer (some ⟨wr.heap.size, 1, none⟩))), (119, Stb.eq (.int .i64 x)), (120, Stb.eq (.int .i64 p3)), (121, Stb.eq (.pointer (some ⟨c, 0, none⟩))), (122, Stb.eq (.pointer (some ⟨wr.heap.size, 1, none⟩))), (123, Stb.eq (.int .i64 x)), (124, Stb.eq (.int .i64 p3)), (125, Stb.eq (.bool false)), (126, Stb.eq (.bool false))]) (by kernel_rfl) (by kernel_rfl) (kp_drewN _ 1) ?_ ?_
          · refine EachOp.cons ?_ ?_
            · intro a u hst hS hdep
              have h13 : a.tmps.getD 13 undef = .bool true := hst.out 13 (by kernel_rfl)
              refine ⟨trivial, ?_⟩
              have g13 := gd h13
              go_simp
              exact Goes.same hS rfl
            refine EachOp.cons ?_ ?_
            · intro a u hst hS hdep
              have h95 : a.tmps.getD 95 undef = .bool true := hdep 95 (by kernel_rfl)
              refine ⟨trivial, ?_⟩
              have g95 := gd h95
              go_simp
              exact Goes.same hS rfl
            refine EachOp.cons ?_ ?_
            · intro a u hst hS hdep
              have h96 : a.tmps.getD 96 undef = .bool false := hdep 96 (by kernel_rfl)
              refine ⟨trivial, ?_⟩
              have g96 := gd h96
              go_simp
              exact Goes.same hS rfl
            refine EachOp.cons ?_ ?_
            · intro a u hst hS hdep
              have h7 : a.tmps.getD 7 undef = .pointer (some ⟨b, 0, none⟩) := hst.out 7 (by kernel_rfl)
              have h97 : a.tmps.getD 97 undef = .bool false := hdep 97 (by kernel_rfl)
              refine ⟨⟨97, by kernel_rfl, h97⟩, ?_⟩
              clear h97
              have g7 := gd h7
              go_simp
              exact Goes.same hS rfl
            refine EachOp.cons ?_ ?_
            · intro a u hst hS hdep
              have h98 : a.tmps.getD 98 undef = .pointer (some ⟨b, 0, none⟩) := hdep 98 (by kernel_rfl)
              have h97 : a.tmps.getD 97 undef = .bool false := hdep 97 (by kernel_rfl)
              refine ⟨⟨97, by kernel_rfl, h97⟩, ?_⟩
              clear h97
              have g98 := gd h98
              go_simp
              refine (pall_ok (HPA.out u hS)).mono ?_
              rintro e u' ⟨A, n, c, rfl, hx, hn, hb'⟩
              exact Goes.next (kp_trans hS hb') hb' ⟨A, n, c, rfl, hx, hn⟩
            refine EachOp.cons ?_ ?_
            · intro a u hst hS hdep
              have h9 : a.tmps.getD 9 undef = .pointer (some ⟨c, 0, none⟩) := hst.out 9 (by kernel_rfl)
              have h97 : a.tmps.getD 97 undef = .bool false := hdep 97 (by kernel_rfl)
              refine ⟨⟨97, by kernel_rfl, h97⟩, ?_⟩
              clear h97
              have g9 := gd h9
              go_simp
              exact Goes.same hS rfl
            refine EachOp.cons ?_ ?_
            · intro a u hst hS hdep
              have h100 : a.tmps.getD 100 undef = .pointer (some ⟨c, 0, none⟩) := hdep 100 (by kernel_rfl)
              have h97 : a.tmps.getD 97 undef = .bool false := hdep 97 (by kernel_rfl)
              refine ⟨⟨97, by kernel_rfl, h97⟩, ?_⟩
              clear h97
              have g100 := gd h100
              go_simp
              exact Goes.same hS rfl
            refine EachOp.cons ?_ ?_
            · intro a u hst hS hdep
              have h101 : a.tmps.getD 101 undef = .pointer (some ⟨c, 0, none⟩) := hdep 101 (by kernel_rfl)
              have h97 : a.tmps.getD 97 undef = .bool false := hdep 97 (by kernel_rfl)
              refine ⟨⟨97, by kernel_rfl, h97⟩, ?_⟩
              clear h97
              have g101 := gd h101
              go_simp
              exact Goes.same hS rfl
            refine EachOp.cons ?_ ?_
            · intro a u hst hS hdep
              have h102 : a.tmps.getD 102 undef = .pointer (some ⟨c, 0, none⟩) := hdep 102 (by kernel_rfl)
              have h97 : a.tmps.getD 97 undef = .bool false := hdep 97 (by kernel_rfl)
              refine ⟨⟨97, by kernel_rfl, h97⟩, ?_⟩
              clear h97
              have g102 := gd h102
              have c103 := (HRN.out u hS).1
              go_simp
              exact Goes.same hS rfl
            refine EachOp.cons ?_ ?_
            · intro a u hst hS hdep
              obtain ⟨A99, n99, c99, h99, r99, z99⟩ := hdep 99 (by kernel_rfl)
              have h103 : a.tmps.getD 103 undef = .slice A9 n9 c9 := hdep 103 (by kernel_rfl)
              have h97 : a.tmps.getD 97 undef = .bool false := hdep 97 (by kernel_rfl)
              refine ⟨⟨97, by kernel_rfl, h97⟩, ?_⟩
              clear h97
              have g99 := gd h99
              have g103 := gd h103
              go_simp
              refine (wsame_ok A99 A9 n99 n9 c99 c9 l2 l2 u r99 (HRN.out u hS).2 (by omega) (by have := HN9.out; omega) true (Lib.hid (by simp))).mono ?_
              rintro e u' ⟨rfl, _, hb'⟩
              exact Goes.next (kp_trans hS hb') hb' rfl
            refine EachOp.cons ?_ ?_
            · intro a u hst hS hdep
              have h104 : a.tmps.getD 104 undef = .bool true := hdep 104 (by kernel_rfl)
              have h97 : a.tmps.getD 97 undef = .bool false := hdep 97 (by kernel_rfl)
              refine ⟨⟨97, by kernel_rfl, h97⟩, ?_⟩
              clear h97
              have g104 := gd h104
              go_simp
              exact Goes.same hS rfl
            refine EachOp.cons ?_ ?_
            · intro a u hst hS hdep
              have h97 : a.tmps.getD 97 undef = .bool false := hdep 97 (by kernel_rfl)
              have h105 : a.tmps.getD 105 undef = .bool false := hdep 105 (by kernel_rfl)
              refine ⟨trivial, ?_⟩
              have g97 := gd h97
              have g105 := gd h105
              go_simp
              exact Goes.same hS rfl
            refine EachOp.cons ?_ ?_
            · intro a u hst hS hdep
              have h106 : a.tmps.getD 106 undef = .bool false := hdep 106 (by kernel_rfl)
              refine ⟨trivial, ?_⟩
              have g106 := gd h106
              go_simp
              exact Goes.same hS rfl
            refine EachOp.cons ?_ ?_
            · intro a u hst hS hdep
              have h7 : a.tmps.getD 7 undef = .pointer (some ⟨b, 0, none⟩) := hst.out 7 (by kernel_rfl)
              have h107 : a.tmps.getD 107 undef = .bool false := hdep 107 (by kernel_rfl)
              refine ⟨⟨107, by kernel_rfl, h107⟩, ?_⟩
              clear h107
              have g7 := gd h7
              go_simp
              exact Goes.same hS rfl
            refine EachOp.cons ?_ ?_
            · intro a u hst hS hdep
              have h2 : a.tmps.getD 2 undef = .int .i64 z := hst.out 2 (by kernel_rfl)
              have h107 : a.tmps.getD 107 undef = .bool false := hdep 107 (by kernel_rfl)
              refine ⟨⟨107, by kernel_rfl, h107⟩, ?_⟩
              clear h107
              have g2 := gd h2
              go_simp
              exact Goes.same hS rfl
            refine EachOp.cons ?_ ?_
            · intro a u hst hS hdep
              have h108 : a.tmps.getD 108 undef = .pointer (some ⟨b, 0, none⟩) := hdep 108 (by kernel_rfl)
              have h109 : a.tmps.getD 109 undef = .int .i64 z := hdep 109 (by kernel_rfl)
              have h107 : a.tmps.getD 107 undef = .bool false := hdep 107 (by kernel_rfl)
              refine ⟨⟨107, by kernel_rfl, h107⟩, ?_⟩
              clear h107
              have g108 := gd h108
              have g109 := gd h109
              go_simp
              have h0 := pat_ok z (HPA.out u hS)
              rw [← HP2.out] at h0
              refine h0.mono ?_
              rintro e u' ⟨rfl, _, hb'⟩
              exact Goes.next (kp_trans hS hb') hb' rfl
            refine EachOp.cons ?_ ?_
            · intro a u hst hS hdep
              have h9 : a.tmps.getD 9 undef = .pointer (some ⟨c, 0, none⟩) := hst.out 9 (by kernel_rfl)
              have h107 : a.tmps.getD 107 undef = .bool false := hdep 107 (by kernel_rfl)
              refine ⟨⟨107, by kernel_rfl, h107⟩, ?_⟩
              clear h107
              have g9 := gd h9
              go_simp
              exact Goes.same hS rfl
            refine EachOp.cons ?_ ?_
            · intro a u hst hS hdep
              have h2 : a.tmps.getD 2 undef = .int .i64 z := hst.out 2 (by kernel_rfl)
              have h107 : a.tmps.getD 107 undef = .bool false := hdep 107 (by kernel_rfl)
              refine ⟨⟨107, by kernel_rfl, h107⟩, ?_⟩
              clear h107
              have g2 := gd h2
              go_simp
              exact Goes.same hS rfl
            refine EachOp.cons ?_ ?_
            · intro a u hst hS hdep
              have h111 : a.tmps.getD 111 undef = .pointer (some ⟨c, 0, none⟩) := hdep 111 (by kernel_rfl)
              have h112 : a.tmps.getD 112 undef = .int .i64 z := hdep 112 (by kernel_rfl)
              have h107 : a.tmps.getD 107 undef = .bool false := hdep 107 (by kernel_rfl)
              refine ⟨⟨107, by kernel_rfl, h107⟩, ?_⟩
              clear h107
              have g111 := gd h111
              have g112 := gd h112
              go_simp
              have h0 := rat_ok z (HRA.out u hS)
              rw [← HP2.out] at h0
              refine h0.mono ?_
              rintro e u' ⟨rfl, rfl⟩
              exact Goes.same hS rfl
            refine EachOp.cons ?_ ?_
            · intro a u hst hS hdep
              have h110 : a.tmps.getD 110 undef = .int .i64 p2 := hdep 110 (by kernel_rfl)
              have h113 : a.tmps.getD 113 undef = .int .i64 p2 := hdep 113 (by kernel_rfl)
              have h107 : a.tmps.getD 107 undef = .bool false := hdep 107 (by kernel_rfl)
              refine ⟨⟨107, by kernel_rfl, h107⟩, ?_⟩
              clear h107
              have g110 := gd h110
              have g113 := gd h113
              go_simp
              exact Goes.same hS rfl
            refine EachOp.cons ?_ ?_
            · intro a u hst hS hdep
              have h107 : a.tmps.getD 107 undef = .bool false := hdep 107 (by kernel_rfl)
              have h114 : a.tmps.getD 114 undef = .bool false := hdep 114 (by kernel_rfl)
              refine ⟨trivial, ?_⟩
              have g107 := gd h107
              have g114 := gd h114
              go_simp
              exact Goes.same hS rfl
            refine EachOp.cons ?_ ?_
            · intro a u hst hS hdep
              have h115 : a.tmps.getD 115 undef = .bool false := hdep 115 (by kernel_rfl)
              refine ⟨trivial, ?_⟩
              have g115 := gd h115
              go_simp
              exact Goes.same hS rfl
            refine EachOp.cons ?_ ?_
            · intro a u hst hS hdep
              have h7 : a.tmps.getD 7 undef = .pointer (some ⟨b, 0, none⟩) := hst.out 7 (by kernel_rfl)
              have h116 : a.tmps.getD 116 undef = .bool false := hdep 116 (by kernel_rfl)
              refine ⟨⟨116, by kernel_rfl, h116⟩, ?_⟩
              clear h116
              have g7 := gd h7
              go_simp
              exact Goes.same hS rfl
            refine EachOp.cons ?_ ?_
            · intro a u hst hS hdep
              have h12 : a.tmps.getD 12 undef = .pointer (some ⟨wr.heap.size, 0, none⟩) := hst.out 12 (by kernel_rfl)
              have h116 : a.tmps.getD 116 undef = .bool false := hdep 116 (by kernel_rfl)
              refine ⟨⟨116, by kernel_rfl, h116⟩, ?_⟩
              clear h116
              have g12 := gd h12
              go_simp
              exact Goes.same hS rfl
            refine EachOp.cons ?_ ?_
            · intro a u hst hS hdep
              have h118 : a.tmps.getD 118 undef = .pointer (some ⟨wr.heap.size, 1, none⟩) := hdep 118 (by kernel_rfl)
              have h116 : a.tmps.getD 116 undef = .bool false := hdep 116 (by kernel_rfl)
              refine ⟨⟨116, by kernel_rfl, h116⟩, ?_⟩
              clear h116
              have g118 := gd h118
              have c119 := HCU.out u hS
              go_simp
              exact Goes.same hS rfl
            refine EachOp.cons ?_ ?_
            · intro a u hst hS hdep
              have h117 : a.tmps.getD 117 undef = .pointer (some ⟨b, 0, none⟩) := hdep 117 (by kernel_rfl)
              have h119 : a.tmps.getD 119 undef = .int .i64 x := hdep 119 (by kernel_rfl)
              have h116 : a.tmps.getD 116 undef = .bool false := hdep 116 (by kernel_rfl)
              refine ⟨⟨116, by kernel_rfl, h116⟩, ?_⟩
              clear h116
              have g117 := gd h117
              have g119 := gd h119
              go_simp
              have h0 := pat_ok x (HPA.out u hS)
              rw [← HP3.out] at h0
              refine h0.mono ?_
              rintro e u' ⟨rfl, _, hb'⟩
              exact Goes.next (kp_trans hS hb') hb' rfl
            refine EachOp.cons ?_ ?_
            · intro a u hst hS hdep
              have h9 : a.tmps.getD 9 undef = .pointer (some ⟨c, 0, none⟩) := hst.out 9 (by kernel_rfl)
              have h116 : a.tmps.getD 116 undef = .bool false := hdep 116 (by kernel_rfl)
              refine ⟨⟨116, by kernel_rfl, h116⟩, ?_⟩
              clear h116
              have g9 := gd h9
              go_simp
              exact Goes.same hS rfl
            refine EachOp.cons ?_ ?_
            · intro a u hst hS hdep
              have h12 : a.tmps.getD 12 undef = .pointer (some ⟨wr.heap.size, 0, none⟩) := hst.out 12 (by kernel_rfl)
              have h116 : a.tmps.getD 116 undef = .bool false := hdep 116 (by kernel_rfl)
              refine ⟨⟨116, by kernel_rfl, h116⟩, ?_⟩
              clear h116
              have g12 := gd h12
              go_simp
              exact Goes.same hS rfl
            refine EachOp.cons ?_ ?_
            · intro a u hst hS hdep
              have h122 : a.tmps.getD 122 undef = .pointer (some ⟨wr.heap.size, 1, none⟩) := hdep 122 (by kernel_rfl)
              have h116 : a.tmps.getD 116 undef = .bool false := hdep 116 (by kernel_rfl)
              refine ⟨⟨116, by kernel_rfl, h116⟩, ?_⟩
              clear h116
              have g122 := gd h122
              have c123 := HCU.out u hS
              go_simp
              exact Goes.same hS rfl
            refine EachOp.cons ?_ ?_
            · intro a u hst hS hdep
              have h121 : a.tmps.getD 121 undef = .pointer (some ⟨c, 0, none⟩) := hdep 121 (by kernel_rfl)
              have h123 : a.tmps.getD 123 undef = .int .i64 x := hdep 123 (by kernel_rfl)
              have h116 : a.tmps.getD 116 undef = .bool false := hdep 116 (by kernel_rfl)
              refine ⟨⟨116, by kernel_rfl, h116⟩, ?_⟩
              clear h116
              have g121 := gd h121
              have g123 := gd h123
              go_simp
              have h0 := rat_ok x (HRA.out u hS)
              rw [← HP3.out] at h0
              refine h0.mono ?_
              rintro e u' ⟨rfl, rfl⟩
              exact Goes.same hS rfl
            refine EachOp.cons ?_ ?_
            · intro a u hst hS hdep
              have h120 : a.tmps.getD 120 undef = .int .i64 p3 := hdep 120 (by kernel_rfl)
              have h124 : a.tmps.getD 124 undef = .int .i64 p3 := hdep 124 (by kernel_rfl)
              have h116 : a.tmps.getD 116 undef = .bool false := hdep 116 (by kernel_rfl)
              refine ⟨⟨116, by kernel_rfl, h116⟩, ?_⟩
              clear h116
              have g120 := gd h120
              have g124 := gd h124
              go_simp
              exact Goes.same hS rfl
            refine EachOp.cons ?_ ?_
            · intro a u hst hS hdep
              have h116 : a.tmps.getD 116 undef = .bool false := hdep 116 (by kernel_rfl)
              have h125 : a.tmps.getD 125 undef = .bool false := hdep 125 (by kernel_rfl)
              refine ⟨trivial, ?_⟩
              have g116 := gd h116
              have g125 := gd h125
              go_simp
              exact Goes.same hS rfl
            exact EachOp.nil
          · intro a u hst hS hdep
            have h95 : a.tmps.getD 95 undef = .bool true := hdep 95 (by kernel_rfl)
            have h96 : a.tmps.getD 96 undef = .bool false := hdep 96 (by kernel_rfl)
            have h97 : a.tmps.getD 97 undef = .bool false := hdep 97 (by kernel_rfl)
            have h98 : a.tmps.getD 98 undef = .pointer (some ⟨b, 0, none⟩) := hdep 98 (by kernel_rfl)
            obtain ⟨A99, n99, c99, h99, r99, z99⟩ := hdep 99 (by kernel_rfl)
            have h100 : a.tmps.getD 100 undef = .pointer (some ⟨c, 0, none⟩) := hdep 100 (by kernel_rfl)
            have h101 : a.tmps.getD 101 undef = .pointer (some ⟨c, 0, none⟩) := hdep 101 (by kernel_rfl)
            have h102 : a.tmps.getD 102 undef = .pointer (some ⟨c, 0, none⟩) := hdep 102 (by kernel_rfl)
            have h103 : a.tmps.getD 103 undef = .slice A9 n9 c9 := hdep 103 (by kernel_rfl)
            have h104 : a.tmps.getD 104 undef = .bool true := hdep 104 (by kernel_rfl)
            have h105 : a.tmps.getD 105 undef = .bool false := hdep 105 (by kernel_rfl)
            have h106 : a.tmps.getD 106 undef = .bool false := hdep 106 (by kernel_rfl)
            have h107 : a.tmps.getD 107 undef = .bool false := hdep 107 (by kernel_rfl)
            have h108 : a.tmps.getD 108 undef = .pointer (some ⟨b, 0, none⟩) := hdep 108 (by kernel_rfl)
            have h109 : a.tmps.getD 109 undef = .int .i64 z := hdep 109 (by kernel_rfl)
            have h110 : a.tmps.getD 110 undef = .int .i64 p2 := hdep 110 (by kernel_rfl)
            have h111 : a.tmps.getD 111 undef = .pointer (some ⟨c, 0, none⟩) := hdep 111 (by kernel_rfl)
            have h112 : a.tmps.getD 112 undef = .int .i64 z := hdep 112 (by kernel_rfl)
            have h113 : a.tmps.getD 113 undef = .int .i64 p2 := hdep 113 (by kernel_rfl)
            have h114 : a.tmps.getD 114 undef = .bool false := hdep 114 (by kernel_rfl)
            have h115 : a.tmps.getD 115 undef = .bool false := hdep 115 (by kernel_rfl)
            have h116 : a.tmps.getD 116 undef = .bool false := hdep 116 (by kernel_rfl)
            have h117 : a.tmps.getD 117 undef = .pointer (some ⟨b, 0, none⟩) := hdep 117 (by kernel_rfl)
            have h118 : a.tmps.getD 118 undef = .pointer (some ⟨wr.heap.size, 1, none⟩) := hdep 118 (by kernel_rfl)
            have h119 : a.tmps.getD 119 undef = .int .i64 x := hdep 119 (by kernel_rfl)
            have h120 : a.tmps.getD 120 undef = .int .i64 p3 := hdep 120 (by kernel_rfl)
            have h121 : a.tmps.getD 121 undef = .pointer (some ⟨c, 0, none⟩) := hdep 121 (by kernel_rfl)
            have h122 : a.tmps.getD 122 undef = .pointer (some ⟨wr.heap.size, 1, none⟩) := hdep 122 (by kernel_rfl)
            have h123 : a.tmps.getD 123 undef = .int .i64 x := hdep 123 (by kernel_rfl)
            have h124 : a.tmps.getD 124 undef = .int .i64 p3 := hdep 124 (by kernel_rfl)
            have h125 : a.tmps.getD 125 undef = .bool false := hdep 125 (by kernel_rfl)
            have h126 : a.tmps.getD 126 undef = .bool false := hdep 126 (by kernel_rfl)
            have hfr := hst.frame [(95, .bool true), (96, .bool false), (97, .bool false), (98, .pointer (some ⟨b, 0, none⟩)), (99, .slice A99 n99 c99), (100, .pointer (some ⟨c, 0, none⟩)), (101, .pointer (some ⟨c, 0, none⟩)), (102, .pointer (some ⟨c, 0, none⟩)), (103, .slice A9 n9 c9), (104, .bool true), (105, .bool false), (106, .bool false), (107, .bool false), (108, .pointer (some ⟨b, 0, none⟩)), (109, .int .i64 z), (110, .int .i64 p2), (111, .pointer (some ⟨c, 0, none⟩)), (112, .int .i64 z), (113, .int .i64 p2), (114, .bool false), (115, .bool false), (116, .bool false), (117, .pointer (some ⟨b, 0, none⟩)), (118, .pointer (some ⟨wr.heap.size, 1, none⟩)), (119, .int .i64 x), (120, .int .i64 p3), (121, .pointer (some ⟨c, 0, none⟩)), (122, .pointer (some ⟨wr.heap.size, 1, none⟩)), (123, .int .i64 x), (124, .int .i64 p3), (125, .bool false), (126, .bool false)] (by kernel_rfl) ⟨h95, h96, h97, h98, h99, h100, h101, h102, h103, h104, h105, h106, h107, h108, h109, h110, h111, h112, h113, h114, h115, h116, h117, h118, h119, h120, h121, h122, h123, h124, h125, h126, trivial⟩
            clear hst hdep h95 h96 h97 h98 h99 h100 h101 h102 h103 h104 h105 h106 h107 h108 h109 h110 h111 h112 h113 h114 h115 h116 h117 h118 h119 h120 h121 h122 h123 h124 h125 h126
            subst hfr
            simp only [List.foldl_cons, List.foldl_nil, List.setIfInBounds_toArray, List.set_cons_zero, List.set_cons_succ]
            have HDU : Hid (Duo W (PW b m l2) (RW c m l2) noneB u) := Lib.hid ((HDY.out.less fun _ h => h.elim).next hS)
            clear hS HDY HPA HRA HRN HN9 HCU HP2 HP3 r99 z99
            go_wp2_with fail
            go_roundw
            case rel => exact ⟨k + 1, l2, by omega, by go_num, HDU⟩
            case measure => simp [intOf]; omega
      · have hd0' : (d == 0) = false := by simpa using hd0
        by_cases hd1 : d = 1
        · subst hd1
          obtain ⟨l2, hl2⟩ : ∃ y, y = l.tail := ⟨_, rfl⟩
          obtain ⟨h0, hh0⟩ : ∃ y, y = l.headD 0 := ⟨_, rfl⟩
          obtain ⟨g0, hg0⟩ : ∃ y, y = decide (l ≠ []) := ⟨_, rfl⟩
          have htv : takeW l = .tuple #[.int .i64 h0, .bool g0] := by rw [hh0, hg0]; rfl
          have HTV := Lib.hid htv
          have HL2 := Lib.hid hl2
          have HPT : Hid (Calls Try.prog 11 #[.pointer (some ⟨b, 0, none⟩)] wx fun e w' => e = .returned (.tuple #[.int .i64 h0, .bool g0]) ∧ Duo W (PW b m l2) (RW c m l) (fun k => k = X ∨ noneB k) w' ∧ ∀ k, (k = X ∨ noneB k) → w'.heap[k]? = wx.heap[k]?) := Lib.hid (by
            rw [← htv, hl2]
            exact HDX.out.left fun S h => ptake_ok h)
          clear htv hl2 hh0 hg0 HDX
          go_wp2_with fail
          rw [HWX.out]
          clear HWX
          refine HPT.out.mono ?_
          rintro e w5 ⟨rfl, d5, k5⟩
          have hRT : Calls Try.prog 12 #[.pointer (some ⟨c, 0, none⟩)] w5 fun e w' => e = .returned (.tuple #[.int .i64 h0, .bool g0]) ∧ Duo W (PW b m l2) (RW c m l2) (fun k => k = X ∨ noneB k) w' ∧ ∀ k, (k = X ∨ noneB k) → w'.heap[k]? = w5.heap[k]? := by
            rw [← HTV.out]
            have h0 := d5.right (Y' := RW c m l.tail) (P := Try.prog) (f := 12) (args := #[.pointer (some ⟨c, 0, none⟩)]) (Q := fun e _ => e = .returned (takeW l)) fun S h => rtake_ok h
            rw [← HL2.out] at h0
            exact h0
          have HRT := Lib.hid hRT
          have HC5 : Hid (w5.cell? ⟨X, 1, none⟩ = some (.int .i64 x)) := Lib.hid ((World.cell?_of_block (a := ⟨X, 1, none⟩) (k5 X (.inl rfl))).trans HY1.out)
          clear d5 k5 hRT HPT HTV HL2 HY1
          go_wp2_with fail
          refine HRT.out.mono ?_
          rintro e wy ⟨rfl, d6, k6⟩
          have HDY := Lib.hid d6
          have HC : Hid (wy.cell? ⟨X, 1, none⟩ = some (.int .i64 x)) := Lib.hid ((World.cell?_of_block (a := ⟨X, 1, none⟩) (k6 X (.inl rfl))).trans HC5.out)
          clear d6 k6 HRT HC5
          cases g0
          · go_wp2_with fail
            obtain ⟨S9, T9, h91, h92, _⟩ := HDY.out.at_
            have HPA : Hid (∀ u, Below wy.heap.size wy u → (PW b m l2).p S9 u) := Lib.hid fun u hu => Thing.next h91 hu
            have HRA : Hid (∀ u, Below wy.heap.size wy u → (RW c m l2).p T9 u) := Lib.hid fun u hu => Thing.next h92 hu
            obtain ⟨A9, n9, c9, hb9, hx9, hS9, _, hl9, hm9, _⟩ := RW.at_ h92
            have HRN : Hid (∀ u, Below wy.heap.size wy u → u.cell? ⟨c, 0, none⟩ = some (.slice A9 n9 c9) ∧ NR u A9 n9 l2) := Lib.hid fun u hu => ⟨(cells2t ((hu.block c (hl9 c hS9)).trans hb9)).1, hx9.nr.next hu⟩
            have hn9 : n9 ≤ 12 := by have := hx9.nr.len; omega
            have HN9 := Lib.hid hn9
            have HXL : Hid (X < wy.heap.size) := Lib.hid (HDY.out.nlt X (.inl rfl))
            have HCU : Hid (∀ u, Below wy.heap.size wy u → u.cell? ⟨wr.heap.size, 1, none⟩ = some (.int .i64 x)) := Lib.hid fun u hu => by
              have := (World.cell?_of_block (a := ⟨X, 1, none⟩) (hu.block X HXL.out)).trans HC.out
              rwa [HX.out] at this
            obtain ⟨p2, hp2⟩ : ∃ p, p = atW z l2 := ⟨_, rfl⟩
            obtain ⟨p3, hp3⟩ : ∃ p, p = atW x l2 := ⟨_, rfl⟩
            have HP2 := Lib.hid hp2
            have HP3 := Lib.hid hp3
            clear h91 h92 hb9 hx9 hS9 hl9 hm9 hn9 hp2 hp3 HC HXL
            refine wp_region_specs (S := fun u => Below wy.heap.size wy u) (Sp := [(95, Stb.eq (.bool true)), (96, Stb.eq (.bool false)), (97, Stb.eq (.bool false)), (98, Stb.eq (.pointer (some ⟨b, 0, none⟩))), (99, nrSt l2), (100, Stb.eq (.pointer (some ⟨c, 0, none⟩))), (101, Stb.eq (.pointer (some ⟨c, 0, none⟩))), (102, Stb.eq (.pointer (some ⟨c, 0, none⟩))), (103, Stb.eq (.slice A9 n9 c9)), (104, Stb.eq (.bool true)), (105, Stb.eq (.bool false)), (106, Stb.eq (.bool false)), (107, Stb.eq (.bool false)), (108, Stb.eq (.pointer (some ⟨b, 0, none⟩))), (109, Stb.eq (.int .i64 z)), (110, Stb.eq (.int .i64 p2)), (111, Stb.eq (.pointer (some ⟨c, 0, none⟩))), (112, Stb.eq (.int .i64 z)), (113, Stb.eq (.int .i64 p2)), (114, Stb.eq (.bool false)), (115, Stb.eq (.bool false)), (116, Stb.eq (.bool false)), (117, Stb.eq (.pointer (some ⟨b, 0, none⟩))), (118, Stb.eq (.pointer (some ⟨wr.heap.size, 1, none⟩))), (119, Stb.eq (.int .i64 x)), (120, Stb.eq (.int .i64 p3)), (121, Stb.eq (.pointer (some ⟨c, 0, none⟩))), (122, Stb.eq (.pointer (some ⟨wr.heap.size, 1, none⟩))), (123, Stb.eq (.int .i64 x)), (124, Stb.eq (.int .i64 p3)), (125, Stb.eq (.bool false)), (126, Stb.eq (.bool false))]) (by kernel_rfl) (by kernel_rfl) (kp_drewN _ 1) ?_ ?_
            · refine EachOp.cons ?_ ?_
              · intro a u hst hS hdep
                have h13 : a.tmps.getD 13 undef = .bool true := hst.out 13 (by kernel_rfl)
                refine ⟨trivial, ?_⟩
                have g13 := gd h13
                go_simp
                exact Goes.same hS rfl
              refine EachOp.cons ?_ ?_
              · intro a u hst hS hdep
                have h95 : a.tmps.getD 95 undef = .bool true := hdep 95 (by kernel_rfl)
                refine ⟨trivial, ?_⟩
                have g95 := gd h95
                go_simp
                exact Goes.same hS rfl
              refine EachOp.cons ?_ ?_
              · intro a u hst hS hdep
                have h96 : a.tmps.getD 96 undef = .bool false := hdep 96 (by kernel_rfl)
                refine ⟨trivial, ?_⟩
                have g96 := gd h96
                go_simp
                exact Goes.same hS rfl
              refine EachOp.cons ?_ ?_
              · intro a u hst hS hdep
                have h7 : a.tmps.getD 7 undef = .pointer (some ⟨b, 0, none⟩) := hst.out 7 (by kernel_rfl)
                have h97 : a.tmps.getD 97 undef = .bool false := hdep 97 (by kernel_rfl)
                refine ⟨⟨97, by kernel_rfl, h97⟩, ?_⟩
                clear h97
                have g7 := gd h7
                go_simp
                exact Goes.same hS rfl
              refine EachOp.cons ?_ ?_
              · intro a u hst hS hdep
                have h98 : a.tmps.getD 98 undef = .pointer (some ⟨b, 0, none⟩) := hdep 98 (by kernel_rfl)
                have h97 : a.tmps.getD 97 undef = .bool false := hdep 97 (by kernel_rfl)
                refine ⟨⟨97, by kernel_rfl, h97⟩, ?_⟩
                clear h97
                have g98 := gd h98
                go_simp
                refine (pall_ok (HPA.out u hS)).mono ?_
                rintro e u' ⟨A, n, c, rfl, hx, hn, hb'⟩
                exact Goes.next (kp_trans hS hb') hb' ⟨A, n, c, rfl, hx, hn⟩
              refine EachOp.cons ?_ ?_
              · intro a u hst hS hdep
                have h9 : a.tmps.getD 9 undef = .pointer (some ⟨c, 0, none⟩) := hst.out 9 (by kernel_rfl)
                have h97 : a.tmps.getD 97 undef = .bool false := hdep 97 (by kernel_rfl)
                refine ⟨⟨97, by kernel_rfl, h97⟩, ?_⟩
                clear h97
                have g9 := gd h9
                go_simp
                exact Goes.same hS rfl
              refine EachOp.cons ?_ ?_
              · intro a u hst hS hdep
                have h100 : a.tmps.getD 100 undef = .pointer (some ⟨c, 0, none⟩) := hdep 100 (by kernel_rfl)
                have h97 : a.tmps.getD 97 undef = .bool false := hdep 97 (by kernel_rfl)
                refine ⟨⟨97, by kernel_rfl, h97⟩, ?_⟩
                clear h97
                have g100 := gd h100
                go_simp
                exact Goes.same hS rfl
              refine EachOp.cons ?_ ?_
              · intro a u hst hS hdep
                have h101 : a.tmps.getD 101 undef = .pointer (some ⟨c, 0, none⟩) := hdep 101 (by kernel_rfl)
                have h97 : a.tmps.getD 97 undef = .bool false := hdep 97 (by kernel_rfl)
                refine ⟨⟨97, by kernel_rfl, h97⟩, ?_⟩
                clear h97
                have g101 := gd h101
                go_simp
                exact Goes.same hS rfl
              refine EachOp.cons ?_ ?_
              · intro a u hst hS hdep
                have h102 : a.tmps.getD 102 undef = .pointer (some ⟨c, 0, none⟩) := hdep 102 (by kernel_rfl)
                have h97 : a.tmps.getD 97 undef = .bool false := hdep 97 (by kernel_rfl)
                refine ⟨⟨97, by kernel_rfl, h97⟩, ?_⟩
                clear h97
                have g102 := gd h102
                have c103 := (HRN.out u hS).1
                go_simp
                exact Goes.same hS rfl
              refine EachOp.cons ?_ ?_
              · intro a u hst hS hdep
                obtain ⟨A99, n99, c99, h99, r99, z99⟩ := hdep 99 (by kernel_rfl)
                have h103 : a.tmps.getD 103 undef = .slice A9 n9 c9 := hdep 103 (by kernel_rfl)
                have h97 : a.tmps.getD 97 undef = .bool false := hdep 97 (by kernel_rfl)
                refine ⟨⟨97, by kernel_rfl, h97⟩, ?_⟩
                clear h97
                have g99 := gd h99
                have g103 := gd h103
                go_simp
                refine (wsame_ok A99 A9 n99 n9 c99 c9 l2 l2 u r99 (HRN.out u hS).2 (by omega) (by have := HN9.out; omega) true (Lib.hid (by simp))).mono ?_
                rintro e u' ⟨rfl, _, hb'⟩
                exact Goes.next (kp_trans hS hb') hb' rfl
              refine EachOp.cons ?_ ?_
              · intro a u hst hS hdep
                have h104 : a.tmps.getD 104 undef = .bool true := hdep 104 (by kernel_rfl)
                have h97 : a.tmps.getD 97 undef = .bool false := hdep 97 (by kernel_rfl)
                refine ⟨⟨97, by kernel_rfl, h97⟩, ?_⟩
                clear h97
                have g104 := gd h104
                go_simp
                exact Goes.same hS rfl
              refine EachOp.cons ?_ ?_
              · intro a u hst hS hdep
                have h97 : a.tmps.getD 97 undef = .bool false := hdep 97 (by kernel_rfl)
                have h105 : a.tmps.getD 105 undef = .bool false := hdep 105 (by kernel_rfl)
                refine ⟨trivial, ?_⟩
                have g97 := gd h97
                have g105 := gd h105
                go_simp
                exact Goes.same hS rfl
              refine EachOp.cons ?_ ?_
              · intro a u hst hS hdep
                have h106 : a.tmps.getD 106 undef = .bool false := hdep 106 (by kernel_rfl)
                refine ⟨trivial, ?_⟩
                have g106 := gd h106
                go_simp
                exact Goes.same hS rfl
              refine EachOp.cons ?_ ?_
              · intro a u hst hS hdep
                have h7 : a.tmps.getD 7 undef = .pointer (some ⟨b, 0, none⟩) := hst.out 7 (by kernel_rfl)
                have h107 : a.tmps.getD 107 undef = .bool false := hdep 107 (by kernel_rfl)
                refine ⟨⟨107, by kernel_rfl, h107⟩, ?_⟩
                clear h107
                have g7 := gd h7
                go_simp
                exact Goes.same hS rfl
              refine EachOp.cons ?_ ?_
              · intro a u hst hS hdep
                have h2 : a.tmps.getD 2 undef = .int .i64 z := hst.out 2 (by kernel_rfl)
                have h107 : a.tmps.getD 107 undef = .bool false := hdep 107 (by kernel_rfl)
                refine ⟨⟨107, by kernel_rfl, h107⟩, ?_⟩
                clear h107
                have g2 := gd h2
                go_simp
                exact Goes.same hS rfl
              refine EachOp.cons ?_ ?_
              · intro a u hst hS hdep
                have h108 : a.tmps.getD 108 undef = .pointer (some ⟨b, 0, none⟩) := hdep 108 (by kernel_rfl)
                have h109 : a.tmps.getD 109 undef = .int .i64 z := hdep 109 (by kernel_rfl)
                have h107 : a.tmps.getD 107 undef = .bool false := hdep 107 (by kernel_rfl)
                refine ⟨⟨107, by kernel_rfl, h107⟩, ?_⟩
                clear h107
                have g108 := gd h108
                have g109 := gd h109
                go_simp
                have h0 := pat_ok z (HPA.out u hS)
                rw [← HP2.out] at h0
                refine h0.mono ?_
                rintro e u' ⟨rfl, _, hb'⟩
                exact Goes.next (kp_trans hS hb') hb' rfl
              refine EachOp.cons ?_ ?_
              · intro a u hst hS hdep
                have h9 : a.tmps.getD 9 undef = .pointer (some ⟨c, 0, none⟩) := hst.out 9 (by kernel_rfl)
                have h107 : a.tmps.getD 107 undef = .bool false := hdep 107 (by kernel_rfl)
                refine ⟨⟨107, by kernel_rfl, h107⟩, ?_⟩
                clear h107
                have g9 := gd h9
                go_simp
                exact Goes.same hS rfl
              refine EachOp.cons ?_ ?_
              · intro a u hst hS hdep
                have h2 : a.tmps.getD 2 undef = .int .i64 z := hst.out 2 (by kernel_rfl)
                have h107 : a.tmps.getD 107 undef = .bool false := hdep 107 (by kernel_rfl)
                refine ⟨⟨107, by kernel_rfl, h107⟩, ?_⟩
                clear h107
                have g2 := gd h2
                go_simp
                exact Goes.same hS rfl
              refine EachOp.cons ?_ ?_
              · intro a u hst hS hdep
                have h111 : a.tmps.getD 111 undef = .pointer (some ⟨c, 0, none⟩) := hdep 111 (by kernel_rfl)
                have h112 : a.tmps.getD 112 undef = .int .i64 z := hdep 112 (by kernel_rfl)
                have h107 : a.tmps.getD 107 undef = .bool false := hdep 107 (by kernel_rfl)
                refine ⟨⟨107, by kernel_rfl, h107⟩, ?_⟩
                clear h107
                have g111 := gd h111
                have g112 := gd h112
                go_simp
                have h0 := rat_ok z (HRA.out u hS)
                rw [← HP2.out] at h0
                refine h0.mono ?_
                rintro e u' ⟨rfl, rfl⟩
                exact Goes.same hS rfl
              refine EachOp.cons ?_ ?_
              · intro a u hst hS hdep
                have h110 : a.tmps.getD 110 undef = .int .i64 p2 := hdep 110 (by kernel_rfl)
                have h113 : a.tmps.getD 113 undef = .int .i64 p2 := hdep 113 (by kernel_rfl)
                have h107 : a.tmps.getD 107 undef = .bool false := hdep 107 (by kernel_rfl)
                refine ⟨⟨107, by kernel_rfl, h107⟩, ?_⟩
                clear h107
                have g110 := gd h110
                have g113 := gd h113
                go_simp
                exact Goes.same hS rfl
              refine EachOp.cons ?_ ?_
              · intro a u hst hS hdep
                have h107 : a.tmps.getD 107 undef = .bool false := hdep 107 (by kernel_rfl)
                have h114 : a.tmps.getD 114 undef = .bool false := hdep 114 (by kernel_rfl)
                refine ⟨trivial, ?_⟩
                have g107 := gd h107
                have g114 := gd h114
                go_simp
                exact Goes.same hS rfl
              refine EachOp.cons ?_ ?_
              · intro a u hst hS hdep
                have h115 : a.tmps.getD 115 undef = .bool false := hdep 115 (by kernel_rfl)
                refine ⟨trivial, ?_⟩
                have g115 := gd h115
                go_simp
                exact Goes.same hS rfl
              refine EachOp.cons ?_ ?_
              · intro a u hst hS hdep
                have h7 : a.tmps.getD 7 undef = .pointer (some ⟨b, 0, none⟩) := hst.out 7 (by kernel_rfl)
                have h116 : a.tmps.getD 116 undef = .bool false := hdep 116 (by kernel_rfl)
                refine ⟨⟨116, by kernel_rfl, h116⟩, ?_⟩
                clear h116
                have g7 := gd h7
                go_simp
                exact Goes.same hS rfl
              refine EachOp.cons ?_ ?_
              · intro a u hst hS hdep
                have h12 : a.tmps.getD 12 undef = .pointer (some ⟨wr.heap.size, 0, none⟩) := hst.out 12 (by kernel_rfl)
                have h116 : a.tmps.getD 116 undef = .bool false := hdep 116 (by kernel_rfl)
                refine ⟨⟨116, by kernel_rfl, h116⟩, ?_⟩
                clear h116
                have g12 := gd h12
                go_simp
                exact Goes.same hS rfl
              refine EachOp.cons ?_ ?_
              · intro a u hst hS hdep
                have h118 : a.tmps.getD 118 undef = .pointer (some ⟨wr.heap.size, 1, none⟩) := hdep 118 (by kernel_rfl)
                have h116 : a.tmps.getD 116 undef = .bool false := hdep 116 (by kernel_rfl)
                refine ⟨⟨116, by kernel_rfl, h116⟩, ?_⟩
                clear h116
                have g118 := gd h118
                have c119 := HCU.out u hS
                go_simp
                exact Goes.same hS rfl
              refine EachOp.cons ?_ ?_
              · intro a u hst hS hdep
                have h117 : a.tmps.getD 117 undef = .pointer (some ⟨b, 0, none⟩) := hdep 117 (by kernel_rfl)
                have h119 : a.tmps.getD 119 undef = .int .i64 x := hdep 119 (by kernel_rfl)
                have h116 : a.tmps.getD 116 undef = .bool false := hdep 116 (by kernel_rfl)
                refine ⟨⟨116, by kernel_rfl, h116⟩, ?_⟩
                clear h116
                have g117 := gd h117
                have g119 := gd h119
                go_simp
                have h0 := pat_ok x (HPA.out u hS)
                rw [← HP3.out] at h0
                refine h0.mono ?_
                rintro e u' ⟨rfl, _, hb'⟩
                exact Goes.next (kp_trans hS hb') hb' rfl
              refine EachOp.cons ?_ ?_
              · intro a u hst hS hdep
                have h9 : a.tmps.getD 9 undef = .pointer (some ⟨c, 0, none⟩) := hst.out 9 (by kernel_rfl)
                have h116 : a.tmps.getD 116 undef = .bool false := hdep 116 (by kernel_rfl)
                refine ⟨⟨116, by kernel_rfl, h116⟩, ?_⟩
                clear h116
                have g9 := gd h9
                go_simp
                exact Goes.same hS rfl
              refine EachOp.cons ?_ ?_
              · intro a u hst hS hdep
                have h12 : a.tmps.getD 12 undef = .pointer (some ⟨wr.heap.size, 0, none⟩) := hst.out 12 (by kernel_rfl)
                have h116 : a.tmps.getD 116 undef = .bool false := hdep 116 (by kernel_rfl)
                refine ⟨⟨116, by kernel_rfl, h116⟩, ?_⟩
                clear h116
                have g12 := gd h12
                go_simp
                exact Goes.same hS rfl
              refine EachOp.cons ?_ ?_
              · intro a u hst hS hdep
                have h122 : a.tmps.getD 122 undef = .pointer (some ⟨wr.heap.size, 1, none⟩) := hdep 122 (by kernel_rfl)
                have h116 : a.tmps.getD 116 undef = .bool false := hdep 116 (by kernel_rfl)
                refine ⟨⟨116, by kernel_rfl, h116⟩, ?_⟩
                clear h116
                have g122 := gd h122
                have c123 := HCU.out u hS
                go_simp
                exact Goes.same hS rfl
              refine EachOp.cons ?_ ?_
              · intro a u hst hS hdep
                have h121 : a.tmps.getD 121 undef = .pointer (some ⟨c, 0, none⟩) := hdep 121 (by kernel_rfl)
                have h123 : a.tmps.getD 123 undef = .int .i64 x := hdep 123 (by kernel_rfl)
                have h116 : a.tmps.getD 116 undef = .bool false := hdep 116 (by kernel_rfl)
                refine ⟨⟨116, by kernel_rfl, h116⟩, ?_⟩
                clear h116
                have g121 := gd h121
                have g123 := gd h123
                go_simp
                have h0 := rat_ok x (HRA.out u hS)
                rw [← HP3.out] at h0
                refine h0.mono ?_
                rintro e u' ⟨rfl, rfl⟩
                exact Goes.same hS rfl
              refine EachOp.cons ?_ ?_
              · intro a u hst hS hdep
                have h120 : a.tmps.getD 120 undef = .int .i64 p3 := hdep 120 (by kernel_rfl)
                have h124 : a.tmps.getD 124 undef = .int .i64 p3 := hdep 124 (by kernel_rfl)
                have h116 : a.tmps.getD 116 undef = .bool false := hdep 116 (by kernel_rfl)
                refine ⟨⟨116, by kernel_rfl, h116⟩, ?_⟩
                clear h116
                have g120 := gd h120
                have g124 := gd h124
                go_simp
                exact Goes.same hS rfl
              refine EachOp.cons ?_ ?_
              · intro a u hst hS hdep
                have h116 : a.tmps.getD 116 undef = .bool false := hdep 116 (by kernel_rfl)
                have h125 : a.tmps.getD 125 undef = .bool false := hdep 125 (by kernel_rfl)
                refine ⟨trivial, ?_⟩
                have g116 := gd h116
                have g125 := gd h125
                go_simp
                exact Goes.same hS rfl
              exact EachOp.nil
            · intro a u hst hS hdep
              have h95 : a.tmps.getD 95 undef = .bool true := hdep 95 (by kernel_rfl)
              have h96 : a.tmps.getD 96 undef = .bool false := hdep 96 (by kernel_rfl)
              have h97 : a.tmps.getD 97 undef = .bool false := hdep 97 (by kernel_rfl)
              have h98 : a.tmps.getD 98 undef = .pointer (some ⟨b, 0, none⟩) := hdep 98 (by kernel_rfl)
              obtain ⟨A99, n99, c99, h99, r99, z99⟩ := hdep 99 (by kernel_rfl)
              have h100 : a.tmps.getD 100 undef = .pointer (some ⟨c, 0, none⟩) := hdep 100 (by kernel_rfl)
              have h101 : a.tmps.getD 101 undef = .pointer (some ⟨c, 0, none⟩) := hdep 101 (by kernel_rfl)
              have h102 : a.tmps.getD 102 undef = .pointer (some ⟨c, 0, none⟩) := hdep 102 (by kernel_rfl)
              have h103 : a.tmps.getD 103 undef = .slice A9 n9 c9 := hdep 103 (by kernel_rfl)
              have h104 : a.tmps.getD 104 undef = .bool true := hdep 104 (by kernel_rfl)
              have h105 : a.tmps.getD 105 undef = .bool false := hdep 105 (by kernel_rfl)
              have h106 : a.tmps.getD 106 undef = .bool false := hdep 106 (by kernel_rfl)
              have h107 : a.tmps.getD 107 undef = .bool false := hdep 107 (by kernel_rfl)
              have h108 : a.tmps.getD 108 undef = .pointer (some ⟨b, 0, none⟩) := hdep 108 (by kernel_rfl)
              have h109 : a.tmps.getD 109 undef = .int .i64 z := hdep 109 (by kernel_rfl)
              have h110 : a.tmps.getD 110 undef = .int .i64 p2 := hdep 110 (by kernel_rfl)
              have h111 : a.tmps.getD 111 undef = .pointer (some ⟨c, 0, none⟩) := hdep 111 (by kernel_rfl)
              have h112 : a.tmps.getD 112 undef = .int .i64 z := hdep 112 (by kernel_rfl)
              have h113 : a.tmps.getD 113 undef = .int .i64 p2 := hdep 113 (by kernel_rfl)
              have h114 : a.tmps.getD 114 undef = .bool false := hdep 114 (by kernel_rfl)
              have h115 : a.tmps.getD 115 undef = .bool false := hdep 115 (by kernel_rfl)
              have h116 : a.tmps.getD 116 undef = .bool false := hdep 116 (by kernel_rfl)
              have h117 : a.tmps.getD 117 undef = .pointer (some ⟨b, 0, none⟩) := hdep 117 (by kernel_rfl)
              have h118 : a.tmps.getD 118 undef = .pointer (some ⟨wr.heap.size, 1, none⟩) := hdep 118 (by kernel_rfl)
              have h119 : a.tmps.getD 119 undef = .int .i64 x := hdep 119 (by kernel_rfl)
              have h120 : a.tmps.getD 120 undef = .int .i64 p3 := hdep 120 (by kernel_rfl)
              have h121 : a.tmps.getD 121 undef = .pointer (some ⟨c, 0, none⟩) := hdep 121 (by kernel_rfl)
              have h122 : a.tmps.getD 122 undef = .pointer (some ⟨wr.heap.size, 1, none⟩) := hdep 122 (by kernel_rfl)
              have h123 : a.tmps.getD 123 undef = .int .i64 x := hdep 123 (by kernel_rfl)
              have h124 : a.tmps.getD 124 undef = .int .i64 p3 := hdep 124 (by kernel_rfl)
              have h125 : a.tmps.getD 125 undef = .bool false := hdep 125 (by kernel_rfl)
              have h126 : a.tmps.getD 126 undef = .bool false := hdep 126 (by kernel_rfl)
              have hfr := hst.frame [(95, .bool true), (96, .bool false), (97, .bool false), (98, .pointer (some ⟨b, 0, none⟩)), (99, .slice A99 n99 c99), (100, .pointer (some ⟨c, 0, none⟩)), (101, .pointer (some ⟨c, 0, none⟩)), (102, .pointer (some ⟨c, 0, none⟩)), (103, .slice A9 n9 c9), (104, .bool true), (105, .bool false), (106, .bool false), (107, .bool false), (108, .pointer (some ⟨b, 0, none⟩)), (109, .int .i64 z), (110, .int .i64 p2), (111, .pointer (some ⟨c, 0, none⟩)), (112, .int .i64 z), (113, .int .i64 p2), (114, .bool false), (115, .bool false), (116, .bool false), (117, .pointer (some ⟨b, 0, none⟩)), (118, .pointer (some ⟨wr.heap.size, 1, none⟩)), (119, .int .i64 x), (120, .int .i64 p3), (121, .pointer (some ⟨c, 0, none⟩)), (122, .pointer (some ⟨wr.heap.size, 1, none⟩)), (123, .int .i64 x), (124, .int .i64 p3), (125, .bool false), (126, .bool false)] (by kernel_rfl) ⟨h95, h96, h97, h98, h99, h100, h101, h102, h103, h104, h105, h106, h107, h108, h109, h110, h111, h112, h113, h114, h115, h116, h117, h118, h119, h120, h121, h122, h123, h124, h125, h126, trivial⟩
              clear hst hdep h95 h96 h97 h98 h99 h100 h101 h102 h103 h104 h105 h106 h107 h108 h109 h110 h111 h112 h113 h114 h115 h116 h117 h118 h119 h120 h121 h122 h123 h124 h125 h126
              subst hfr
              simp only [List.foldl_cons, List.foldl_nil, List.setIfInBounds_toArray, List.set_cons_zero, List.set_cons_succ]
              have HDU : Hid (Duo W (PW b m l2) (RW c m l2) noneB u) := Lib.hid ((HDY.out.less fun _ h => h.elim).next hS)
              clear hS HDY HPA HRA HRN HN9 HCU HP2 HP3 r99 z99
              go_wp2_with fail
              go_roundw
              case rel => exact ⟨k + 1, l2, by omega, by go_num, HDU⟩
              case measure => simp [intOf]; omega
          · go_wp2_with fail
            obtain ⟨S9, T9, h91, h92, _⟩ := HDY.out.at_
            have HPA : Hid (∀ u, Below wy.heap.size wy u → (PW b m l2).p S9 u) := Lib.hid fun u hu => Thing.next h91 hu
            have HRA : Hid (∀ u, Below wy.heap.size wy u → (RW c m l2).p T9 u) := Lib.hid fun u hu => Thing.next h92 hu
            obtain ⟨A9, n9, c9, hb9, hx9, hS9, _, hl9, hm9, _⟩ := RW.at_ h92
            have HRN : Hid (∀ u, Below wy.heap.size wy u → u.cell? ⟨c, 0, none⟩ = some (.slice A9 n9 c9) ∧ NR u A9 n9 l2) := Lib.hid fun u hu => ⟨(cells2t ((hu.block c (hl9 c hS9)).trans hb9)).1, hx9.nr.next hu⟩
            have hn9 : n9 ≤ 12 := by have := hx9.nr.len; omega
            have HN9 := Lib.hid hn9
            have HXL : Hid (X < wy.heap.size) := Lib.hid (HDY.out.nlt X (.inl rfl))
            have HCU : Hid (∀ u, Below wy.heap.size wy u → u.cell? ⟨wr.heap.size, 1, none⟩ = some (.int .i64 x)) := Lib.hid fun u hu => by
              have := (World.cell?_of_block (a := ⟨X, 1, none⟩) (hu.block X HXL.out)).trans HC.out
              rwa [HX.out] at this
            obtain ⟨p2, hp2⟩ : ∃ p, p = atW z l2 := ⟨_, rfl⟩
            obtain ⟨p3, hp3⟩ : ∃ p, p = atW x l2 := ⟨_, rfl⟩
            have HP2 := Lib.hid hp2
            have HP3 := Lib.hid hp3
            clear h91 h92 hb9 hx9 hS9 hl9 hm9 hn9 hp2 hp3 HC HXL
            refine wp_region_specs (S := fun u => Below wy.heap.size wy u) (Sp := [(95, Stb.eq (.bool true)), (96, Stb.eq (.bool false)), (97, Stb.eq (.bool false)), (98, Stb.eq (.pointer (some ⟨b, 0, none⟩))), (99, nrSt l2), (100, Stb.eq (.pointer (some ⟨c, 0, none⟩))), (101, Stb.eq (.pointer (some ⟨c, 0, none⟩))), (102, Stb.eq (.pointer (some ⟨c, 0, none⟩))), (103, Stb.eq (.slice A9 n9 c9)), (104, Stb.eq (.bool true)), (105, Stb.eq (.bool false)), (106, Stb.eq (.bool false)), (107, Stb.eq (.bool false)), (108, Stb.eq (.pointer (some ⟨b, 0, none⟩))), (109, Stb.eq (.int .i64 z)), (110, Stb.eq (.int .i64 p2)), (111, Stb.eq (.pointer (some ⟨c, 0, none⟩))), (112, Stb.eq (.int .i64 z)), (113, Stb.eq (.int .i64 p2)), (114, Stb.eq (.bool false)), (115, Stb.eq (.bool false)), (116, Stb.eq (.bool false)), (117, Stb.eq (.pointer (some ⟨b, 0, none⟩))), (118, Stb.eq (.pointer (some ⟨wr.heap.size, 1, none⟩))), (119, Stb.eq (.int .i64 x)), (120, Stb.eq (.int .i64 p3)), (121, Stb.eq (.pointer (some ⟨c, 0, none⟩))), (122, Stb.eq (.pointer (some ⟨wr.heap.size, 1, none⟩))), (123, Stb.eq (.int .i64 x)), (124, Stb.eq (.int .i64 p3)), (125, Stb.eq (.bool false)), (126, Stb.eq (.bool false))]) (by kernel_rfl) (by kernel_rfl) (kp_drewN _ 1) ?_ ?_
            · refine EachOp.cons ?_ ?_
              · intro a u hst hS hdep
                have h13 : a.tmps.getD 13 undef = .bool true := hst.out 13 (by kernel_rfl)
                refine ⟨trivial, ?_⟩
                have g13 := gd h13
                go_simp
                exact Goes.same hS rfl
              refine EachOp.cons ?_ ?_
              · intro a u hst hS hdep
                have h95 : a.tmps.getD 95 undef = .bool true := hdep 95 (by kernel_rfl)
                refine ⟨trivial, ?_⟩
                have g95 := gd h95
                go_simp
                exact Goes.same hS rfl
              refine EachOp.cons ?_ ?_
              · intro a u hst hS hdep
                have h96 : a.tmps.getD 96 undef = .bool false := hdep 96 (by kernel_rfl)
                refine ⟨trivial, ?_⟩
                have g96 := gd h96
                go_simp
                exact Goes.same hS rfl
              refine EachOp.cons ?_ ?_
              · intro a u hst hS hdep
                have h7 : a.tmps.getD 7 undef = .pointer (some ⟨b, 0, none⟩) := hst.out 7 (by kernel_rfl)
                have h97 : a.tmps.getD 97 undef = .bool false := hdep 97 (by kernel_rfl)
                refine ⟨⟨97, by kernel_rfl, h97⟩, ?_⟩
                clear h97
                have g7 := gd h7
                go_simp
                exact Goes.same hS rfl
              refine EachOp.cons ?_ ?_
              · intro a u hst hS hdep
                have h98 : a.tmps.getD 98 undef = .pointer (some ⟨b, 0, none⟩) := hdep 98 (by kernel_rfl)
                have h97 : a.tmps.getD 97 undef = .bool false := hdep 97 (by kernel_rfl)
                refine ⟨⟨97, by kernel_rfl, h97⟩, ?_⟩
                clear h97
                have g98 := gd h98
                go_simp
                refine (pall_ok (HPA.out u hS)).mono ?_
                rintro e u' ⟨A, n, c, rfl, hx, hn, hb'⟩
                exact Goes.next (kp_trans hS hb') hb' ⟨A, n, c, rfl, hx, hn⟩
              refine EachOp.cons ?_ ?_
              · intro a u hst hS hdep
                have h9 : a.tmps.getD 9 undef = .pointer (some ⟨c, 0, none⟩) := hst.out 9 (by kernel_rfl)
                have h97 : a.tmps.getD 97 undef = .bool false := hdep 97 (by kernel_rfl)
                refine ⟨⟨97, by kernel_rfl, h97⟩, ?_⟩
                clear h97
                have g9 := gd h9
                go_simp
                exact Goes.same hS rfl
              refine EachOp.cons ?_ ?_
              · intro a u hst hS hdep
                have h100 : a.tmps.getD 100 undef = .pointer (some ⟨c, 0, none⟩) := hdep 100 (by kernel_rfl)
                have h97 : a.tmps.getD 97 undef = .bool false := hdep 97 (by kernel_rfl)
                refine ⟨⟨97, by kernel_rfl, h97⟩, ?_⟩
                clear h97
                have g100 := gd h100
                go_simp
                exact Goes.same hS rfl
              refine EachOp.cons ?_ ?_
              · intro a u hst hS hdep
                have h101 : a.tmps.getD 101 undef = .pointer (some ⟨c, 0, none⟩) := hdep 101 (by kernel_rfl)
                have h97 : a.tmps.getD 97 undef = .bool false := hdep 97 (by kernel_rfl)
                refine ⟨⟨97, by kernel_rfl, h97⟩, ?_⟩
                clear h97
                have g101 := gd h101
                go_simp
                exact Goes.same hS rfl
              refine EachOp.cons ?_ ?_
              · intro a u hst hS hdep
                have h102 : a.tmps.getD 102 undef = .pointer (some ⟨c, 0, none⟩) := hdep 102 (by kernel_rfl)
                have h97 : a.tmps.getD 97 undef = .bool false := hdep 97 (by kernel_rfl)
                refine ⟨⟨97, by kernel_rfl, h97⟩, ?_⟩
                clear h97
                have g102 := gd h102
                have c103 := (HRN.out u hS).1
                go_simp
                exact Goes.same hS rfl
              refine EachOp.cons ?_ ?_
              · intro a u hst hS hdep
                obtain ⟨A99, n99, c99, h99, r99, z99⟩ := hdep 99 (by kernel_rfl)
                have h103 : a.tmps.getD 103 undef = .slice A9 n9 c9 := hdep 103 (by kernel_rfl)
                have h97 : a.tmps.getD 97 undef = .bool false := hdep 97 (by kernel_rfl)
                refine ⟨⟨97, by kernel_rfl, h97⟩, ?_⟩
                clear h97
                have g99 := gd h99
                have g103 := gd h103
                go_simp
                refine (wsame_ok A99 A9 n99 n9 c99 c9 l2 l2 u r99 (HRN.out u hS).2 (by omega) (by have := HN9.out; omega) true (Lib.hid (by simp))).mono ?_
                rintro e u' ⟨rfl, _, hb'⟩
                exact Goes.next (kp_trans hS hb') hb' rfl
              refine EachOp.cons ?_ ?_
              · intro a u hst hS hdep
                have h104 : a.tmps.getD 104 undef = .bool true := hdep 104 (by kernel_rfl)
                have h97 : a.tmps.getD 97 undef = .bool false := hdep 97 (by kernel_rfl)
                refine ⟨⟨97, by kernel_rfl, h97⟩, ?_⟩
                clear h97
                have g104 := gd h104
                go_simp
                exact Goes.same hS rfl
              refine EachOp.cons ?_ ?_
              · intro a u hst hS hdep
                have h97 : a.tmps.getD 97 undef = .bool false := hdep 97 (by kernel_rfl)
                have h105 : a.tmps.getD 105 undef = .bool false := hdep 105 (by kernel_rfl)
                refine ⟨trivial, ?_⟩
                have g97 := gd h97
                have g105 := gd h105
                go_simp
                exact Goes.same hS rfl
              refine EachOp.cons ?_ ?_
              · intro a u hst hS hdep
                have h106 : a.tmps.getD 106 undef = .bool false := hdep 106 (by kernel_rfl)
                refine ⟨trivial, ?_⟩
                have g106 := gd h106
                go_simp
                exact Goes.same hS rfl
              refine EachOp.cons ?_ ?_
              · intro a u hst hS hdep
                have h7 : a.tmps.getD 7 undef = .pointer (some ⟨b, 0, none⟩) := hst.out 7 (by kernel_rfl)
                have h107 : a.tmps.getD 107 undef = .bool false := hdep 107 (by kernel_rfl)
                refine ⟨⟨107, by kernel_rfl, h107⟩, ?_⟩
                clear h107
                have g7 := gd h7
                go_simp
                exact Goes.same hS rfl
              refine EachOp.cons ?_ ?_
              · intro a u hst hS hdep
                have h2 : a.tmps.getD 2 undef = .int .i64 z := hst.out 2 (by kernel_rfl)
                have h107 : a.tmps.getD 107 undef = .bool false := hdep 107 (by kernel_rfl)
                refine ⟨⟨107, by kernel_rfl, h107⟩, ?_⟩
                clear h107
                have g2 := gd h2
                go_simp
                exact Goes.same hS rfl
              refine EachOp.cons ?_ ?_
              · intro a u hst hS hdep
                have h108 : a.tmps.getD 108 undef = .pointer (some ⟨b, 0, none⟩) := hdep 108 (by kernel_rfl)
                have h109 : a.tmps.getD 109 undef = .int .i64 z := hdep 109 (by kernel_rfl)
                have h107 : a.tmps.getD 107 undef = .bool false := hdep 107 (by kernel_rfl)
                refine ⟨⟨107, by kernel_rfl, h107⟩, ?_⟩
                clear h107
                have g108 := gd h108
                have g109 := gd h109
                go_simp
                have h0 := pat_ok z (HPA.out u hS)
                rw [← HP2.out] at h0
                refine h0.mono ?_
                rintro e u' ⟨rfl, _, hb'⟩
                exact Goes.next (kp_trans hS hb') hb' rfl
              refine EachOp.cons ?_ ?_
              · intro a u hst hS hdep
                have h9 : a.tmps.getD 9 undef = .pointer (some ⟨c, 0, none⟩) := hst.out 9 (by kernel_rfl)
                have h107 : a.tmps.getD 107 undef = .bool false := hdep 107 (by kernel_rfl)
                refine ⟨⟨107, by kernel_rfl, h107⟩, ?_⟩
                clear h107
                have g9 := gd h9
                go_simp
                exact Goes.same hS rfl
              refine EachOp.cons ?_ ?_
              · intro a u hst hS hdep
                have h2 : a.tmps.getD 2 undef = .int .i64 z := hst.out 2 (by kernel_rfl)
                have h107 : a.tmps.getD 107 undef = .bool false := hdep 107 (by kernel_rfl)
                refine ⟨⟨107, by kernel_rfl, h107⟩, ?_⟩
                clear h107
                have g2 := gd h2
                go_simp
                exact Goes.same hS rfl
              refine EachOp.cons ?_ ?_
              · intro a u hst hS hdep
                have h111 : a.tmps.getD 111 undef = .pointer (some ⟨c, 0, none⟩) := hdep 111 (by kernel_rfl)
                have h112 : a.tmps.getD 112 undef = .int .i64 z := hdep 112 (by kernel_rfl)
                have h107 : a.tmps.getD 107 undef = .bool false := hdep 107 (by kernel_rfl)
                refine ⟨⟨107, by kernel_rfl, h107⟩, ?_⟩
                clear h107
                have g111 := gd h111
                have g112 := gd h112
                go_simp
                have h0 := rat_ok z (HRA.out u hS)
                rw [← HP2.out] at h0
                refine h0.mono ?_
                rintro e u' ⟨rfl, rfl⟩
                exact Goes.same hS rfl
              refine EachOp.cons ?_ ?_
              · intro a u hst hS hdep
                have h110 : a.tmps.getD 110 undef = .int .i64 p2 := hdep 110 (by kernel_rfl)
                have h113 : a.tmps.getD 113 undef = .int .i64 p2 := hdep 113 (by kernel_rfl)
                have h107 : a.tmps.getD 107 undef = .bool false := hdep 107 (by kernel_rfl)
                refine ⟨⟨107, by kernel_rfl, h107⟩, ?_⟩
                clear h107
                have g110 := gd h110
                have g113 := gd h113
                go_simp
                exact Goes.same hS rfl
              refine EachOp.cons ?_ ?_
              · intro a u hst hS hdep
                have h107 : a.tmps.getD 107 undef = .bool false := hdep 107 (by kernel_rfl)
                have h114 : a.tmps.getD 114 undef = .bool false := hdep 114 (by kernel_rfl)
                refine ⟨trivial, ?_⟩
                have g107 := gd h107
                have g114 := gd h114
                go_simp
                exact Goes.same hS rfl
              refine EachOp.cons ?_ ?_
              · intro a u hst hS hdep
                have h115 : a.tmps.getD 115 undef = .bool false := hdep 115 (by kernel_rfl)
                refine ⟨trivial, ?_⟩
                have g115 := gd h115
                go_simp
                exact Goes.same hS rfl
              refine EachOp.cons ?_ ?_
              · intro a u hst hS hdep
                have h7 : a.tmps.getD 7 undef = .pointer (some ⟨b, 0, none⟩) := hst.out 7 (by kernel_rfl)
                have h116 : a.tmps.getD 116 undef = .bool false := hdep 116 (by kernel_rfl)
                refine ⟨⟨116, by kernel_rfl, h116⟩, ?_⟩
                clear h116
                have g7 := gd h7
                go_simp
                exact Goes.same hS rfl
              refine EachOp.cons ?_ ?_
              · intro a u hst hS hdep
                have h12 : a.tmps.getD 12 undef = .pointer (some ⟨wr.heap.size, 0, none⟩) := hst.out 12 (by kernel_rfl)
                have h116 : a.tmps.getD 116 undef = .bool false := hdep 116 (by kernel_rfl)
                refine ⟨⟨116, by kernel_rfl, h116⟩, ?_⟩
                clear h116
                have g12 := gd h12
                go_simp
                exact Goes.same hS rfl
              refine EachOp.cons ?_ ?_
              · intro a u hst hS hdep
                have h118 : a.tmps.getD 118 undef = .pointer (some ⟨wr.heap.size, 1, none⟩) := hdep 118 (by kernel_rfl)
                have h116 : a.tmps.getD 116 undef = .bool false := hdep 116 (by kernel_rfl)
                refine ⟨⟨116, by kernel_rfl, h116⟩, ?_⟩
                clear h116
                have g118 := gd h118
                have c119 := HCU.out u hS
                go_simp
                exact Goes.same hS rfl
              refine EachOp.cons ?_ ?_
              · intro a u hst hS hdep
                have h117 : a.tmps.getD 117 undef = .pointer (some ⟨b, 0, none⟩) := hdep 117 (by kernel_rfl)
                have h119 : a.tmps.getD 119 undef = .int .i64 x := hdep 119 (by kernel_rfl)
                have h116 : a.tmps.getD 116 undef = .bool false := hdep 116 (by kernel_rfl)
                refine ⟨⟨116, by kernel_rfl, h116⟩, ?_⟩
                clear h116
                have g117 := gd h117
                have g119 := gd h119
                go_simp
                have h0 := pat_ok x (HPA.out u hS)
                rw [← HP3.out] at h0
                refine h0.mono ?_
                rintro e u' ⟨rfl, _, hb'⟩
                exact Goes.next (kp_trans hS hb') hb' rfl
              refine EachOp.cons ?_ ?_
              · intro a u hst hS hdep
                have h9 : a.tmps.getD 9 undef = .pointer (some ⟨c, 0, none⟩) := hst.out 9 (by kernel_rfl)
                have h116 : a.tmps.getD 116 undef = .bool false := hdep 116 (by kernel_rfl)
                refine ⟨⟨116, by kernel_rfl, h116⟩, ?_⟩
                clear h116
                have g9 := gd h9
                go_simp
                exact Goes.same hS rfl
              refine EachOp.cons ?_ ?_
              · intro a u hst hS hdep
                have h12 : a.tmps.getD 12 undef = .pointer (some ⟨wr.heap.size, 0, none⟩) := hst.out 12 (by kernel_rfl)
                have h116 : a.tmps.getD 116 undef = .bool false := hdep 116 (by kernel_rfl)
                refine ⟨⟨116, by kernel_rfl, h116⟩, ?_⟩
                clear h116
                have g12 := gd h12
                go_simp
                exact Goes.same hS rfl
              refine EachOp.cons ?_ ?_
              · intro a u hst hS hdep
                have h122 : a.tmps.getD 122 undef = .pointer (some ⟨wr.heap.size, 1, none⟩) := hdep 122 (by kernel_rfl)
                have h116 : a.tmps.getD 116 undef = .bool false := hdep 116 (by kernel_rfl)
                refine ⟨⟨116, by kernel_rfl, h116⟩, ?_⟩
                clear h116
                have g122 := gd h122
                have c123 := HCU.out u hS
                go_simp
                exact Goes.same hS rfl
              refine EachOp.cons ?_ ?_
              · intro a u hst hS hdep
                have h121 : a.tmps.getD 121 undef = .pointer (some ⟨c, 0, none⟩) := hdep 121 (by kernel_rfl)
                have h123 : a.tmps.getD 123 undef = .int .i64 x := hdep 123 (by kernel_rfl)
                have h116 : a.tmps.getD 116 undef = .bool false := hdep 116 (by kernel_rfl)
                refine ⟨⟨116, by kernel_rfl, h116⟩, ?_⟩
                clear h116
                have g121 := gd h121
                have g123 := gd h123
                go_simp
                have h0 := rat_ok x (HRA.out u hS)
                rw [← HP3.out] at h0
                refine h0.mono ?_
                rintro e u' ⟨rfl, rfl⟩
                exact Goes.same hS rfl
              refine EachOp.cons ?_ ?_
              · intro a u hst hS hdep
                have h120 : a.tmps.getD 120 undef = .int .i64 p3 := hdep 120 (by kernel_rfl)
                have h124 : a.tmps.getD 124 undef = .int .i64 p3 := hdep 124 (by kernel_rfl)
                have h116 : a.tmps.getD 116 undef = .bool false := hdep 116 (by kernel_rfl)
                refine ⟨⟨116, by kernel_rfl, h116⟩, ?_⟩
                clear h116
                have g120 := gd h120
                have g124 := gd h124
                go_simp
                exact Goes.same hS rfl
              refine EachOp.cons ?_ ?_
              · intro a u hst hS hdep
                have h116 : a.tmps.getD 116 undef = .bool false := hdep 116 (by kernel_rfl)
                have h125 : a.tmps.getD 125 undef = .bool false := hdep 125 (by kernel_rfl)
                refine ⟨trivial, ?_⟩
                have g116 := gd h116
                have g125 := gd h125
                go_simp
                exact Goes.same hS rfl
              exact EachOp.nil
            · intro a u hst hS hdep
              have h95 : a.tmps.getD 95 undef = .bool true := hdep 95 (by kernel_rfl)
              have h96 : a.tmps.getD 96 undef = .bool false := hdep 96 (by kernel_rfl)
              have h97 : a.tmps.getD 97 undef = .bool false := hdep 97 (by kernel_rfl)
              have h98 : a.tmps.getD 98 undef = .pointer (some ⟨b, 0, none⟩) := hdep 98 (by kernel_rfl)
              obtain ⟨A99, n99, c99, h99, r99, z99⟩ := hdep 99 (by kernel_rfl)
              have h100 : a.tmps.getD 100 undef = .pointer (some ⟨c, 0, none⟩) := hdep 100 (by kernel_rfl)
              have h101 : a.tmps.getD 101 undef = .pointer (some ⟨c, 0, none⟩) := hdep 101 (by kernel_rfl)
              have h102 : a.tmps.getD 102 undef = .pointer (some ⟨c, 0, none⟩) := hdep 102 (by kernel_rfl)
              have h103 : a.tmps.getD 103 undef = .slice A9 n9 c9 := hdep 103 (by kernel_rfl)
              have h104 : a.tmps.getD 104 undef = .bool true := hdep 104 (by kernel_rfl)
              have h105 : a.tmps.getD 105 undef = .bool false := hdep 105 (by kernel_rfl)
              have h106 : a.tmps.getD 106 undef = .bool false := hdep 106 (by kernel_rfl)
              have h107 : a.tmps.getD 107 undef = .bool false := hdep 107 (by kernel_rfl)
              have h108 : a.tmps.getD 108 undef = .pointer (some ⟨b, 0, none⟩) := hdep 108 (by kernel_rfl)
              have h109 : a.tmps.getD 109 undef = .int .i64 z := hdep 109 (by kernel_rfl)
              have h110 : a.tmps.getD 110 undef = .int .i64 p2 := hdep 110 (by kernel_rfl)
              have h111 : a.tmps.getD 111 undef = .pointer (some ⟨c, 0, none⟩) := hdep 111 (by kernel_rfl)
              have h112 : a.tmps.getD 112 undef = .int .i64 z := hdep 112 (by kernel_rfl)
              have h113 : a.tmps.getD 113 undef = .int .i64 p2 := hdep 113 (by kernel_rfl)
              have h114 : a.tmps.getD 114 undef = .bool false := hdep 114 (by kernel_rfl)
              have h115 : a.tmps.getD 115 undef = .bool false := hdep 115 (by kernel_rfl)
              have h116 : a.tmps.getD 116 undef = .bool false := hdep 116 (by kernel_rfl)
              have h117 : a.tmps.getD 117 undef = .pointer (some ⟨b, 0, none⟩) := hdep 117 (by kernel_rfl)
              have h118 : a.tmps.getD 118 undef = .pointer (some ⟨wr.heap.size, 1, none⟩) := hdep 118 (by kernel_rfl)
              have h119 : a.tmps.getD 119 undef = .int .i64 x := hdep 119 (by kernel_rfl)
              have h120 : a.tmps.getD 120 undef = .int .i64 p3 := hdep 120 (by kernel_rfl)
              have h121 : a.tmps.getD 121 undef = .pointer (some ⟨c, 0, none⟩) := hdep 121 (by kernel_rfl)
              have h122 : a.tmps.getD 122 undef = .pointer (some ⟨wr.heap.size, 1, none⟩) := hdep 122 (by kernel_rfl)
              have h123 : a.tmps.getD 123 undef = .int .i64 x := hdep 123 (by kernel_rfl)
              have h124 : a.tmps.getD 124 undef = .int .i64 p3 := hdep 124 (by kernel_rfl)
              have h125 : a.tmps.getD 125 undef = .bool false := hdep 125 (by kernel_rfl)
              have h126 : a.tmps.getD 126 undef = .bool false := hdep 126 (by kernel_rfl)
              have hfr := hst.frame [(95, .bool true), (96, .bool false), (97, .bool false), (98, .pointer (some ⟨b, 0, none⟩)), (99, .slice A99 n99 c99), (100, .pointer (some ⟨c, 0, none⟩)), (101, .pointer (some ⟨c, 0, none⟩)), (102, .pointer (some ⟨c, 0, none⟩)), (103, .slice A9 n9 c9), (104, .bool true), (105, .bool false), (106, .bool false), (107, .bool false), (108, .pointer (some ⟨b, 0, none⟩)), (109, .int .i64 z), (110, .int .i64 p2), (111, .pointer (some ⟨c, 0, none⟩)), (112, .int .i64 z), (113, .int .i64 p2), (114, .bool false), (115, .bool false), (116, .bool false), (117, .pointer (some ⟨b, 0, none⟩)), (118, .pointer (some ⟨wr.heap.size, 1, none⟩)), (119, .int .i64 x), (120, .int .i64 p3), (121, .pointer (some ⟨c, 0, none⟩)), (122, .pointer (some ⟨wr.heap.size, 1, none⟩)), (123, .int .i64 x), (124, .int .i64 p3), (125, .bool false), (126, .bool false)] (by kernel_rfl) ⟨h95, h96, h97, h98, h99, h100, h101, h102, h103, h104, h105, h106, h107, h108, h109, h110, h111, h112, h113, h114, h115, h116, h117, h118, h119, h120, h121, h122, h123, h124, h125, h126, trivial⟩
              clear hst hdep h95 h96 h97 h98 h99 h100 h101 h102 h103 h104 h105 h106 h107 h108 h109 h110 h111 h112 h113 h114 h115 h116 h117 h118 h119 h120 h121 h122 h123 h124 h125 h126
              subst hfr
              simp only [List.foldl_cons, List.foldl_nil, List.setIfInBounds_toArray, List.set_cons_zero, List.set_cons_succ]
              have HDU : Hid (Duo W (PW b m l2) (RW c m l2) noneB u) := Lib.hid ((HDY.out.less fun _ h => h.elim).next hS)
              clear hS HDY HPA HRA HRN HN9 HCU HP2 HP3 r99 z99
              go_wp2_with fail
              go_roundw
              case rel => exact ⟨k + 1, l2, by omega, by go_num, HDU⟩
              case measure => simp [intOf]; omega
        · have hd1' : (d == 1) = false := by simpa using hd1
          by_cases hd2 : d = 2
          · subst hd2
            obtain ⟨l2, hl2⟩ : ∃ y, y = dropW x l := ⟨_, rfl⟩
            obtain ⟨pv, hpv⟩ : ∃ y, decide (0 ≤ atW x l) = y := ⟨_, rfl⟩
            have HL2 := Lib.hid hl2
            have HPV := Lib.hid hpv
            obtain ⟨S, T, h1, h2, h3, h4⟩ := HDX.out.at_
            have HSN := Lib.hid h4
            have HNN : Hid (∀ k, (k = X ∨ noneB k) → k < wx.heap.size) := Lib.hid HDX.out.nlt
            have HXN : Hid (X < wx.drew.heap.size ∧ ¬ (S X ∨ T X)) := Lib.hid ⟨HDX.out.nlt X (.inl rfl), fun h => (h4 X h).2 (.inl rfl)⟩
            have HZ : Hid (W.heap.size ≤ wx.heap.size) := Lib.hid HDX.out.low.size
            have HKX : Hid (Below W.heap.size W wx.drew) := Lib.hid HDX.out.low.drew
            have HST : Hid (MidA S T wx.heap.size (PW b m l) (PW b m l2) (RW c m l) (RW c m l2) wx.drew false false wx.drew) := Lib.hid (MidA.start (Thing.drew h1) (Thing.drew h2) h3 (Nat.le_refl _))
            clear hl2 hpv h1 h2 h3 h4
            go_wp2_with fail
            rw [HWX.out]
            clear HWX
            refine wp_region_specs3 (S := fun L u => MidA S T wx.heap.size (PW b m l) (PW b m l2) (RW c m l) (RW c m l2) wx.drew (L 3) (L 7) u) (Bad := fun k => S k ∨ T k) (Sp := [(86, Sta.eq (.pointer (some ⟨b, 0, none⟩))), (87, Sta.eq (.pointer (some ⟨wr.heap.size, 1, none⟩))), (88, Sta.eq (.int .i64 x)), (89, Sta.eq (.bool pv)), (90, Sta.eq (.pointer (some ⟨c, 0, none⟩))), (91, Sta.eq (.pointer (some ⟨wr.heap.size, 1, none⟩))), (92, Sta.eq (.int .i64 x)), (93, Sta.eq (.bool pv)), (94, Sta.eq (.bool true)), (13, Sta.eq (.bool true))]) (by kernel_rfl) (by kernel_rfl) (HST.out) ?_ ?_
            · refine EachOp.cons ?_ ?_
              · intro L a u hL hst hS hdep
                have h7 : a.tmps.getD 7 undef = .pointer (some ⟨b, 0, none⟩) := hst.out 7 (by kernel_rfl)
                refine ⟨trivial, ?_⟩
                have g7 := gd h7
                go_simp
                exact Went.same hS rfl
              refine EachOp.cons ?_ ?_
              · intro L a u hL hst hS hdep
                have h12 : a.tmps.getD 12 undef = .pointer (some ⟨wr.heap.size, 0, none⟩) := hst.out 12 (by kernel_rfl)
                refine ⟨trivial, ?_⟩
                have g12 := gd h12
                go_simp
                exact Went.same hS rfl
              refine EachOp.cons ?_ ?_
              · intro L a u hL hst hS hdep
                have h87 : a.tmps.getD 87 undef = .pointer (some ⟨wr.heap.size, 1, none⟩) := hdep 87 (by kernel_rfl)
                refine ⟨trivial, ?_⟩
                have g87 := gd h87
                have c88 := (MidA.cell hS HXN.out.1 HXN.out.2 1).trans HY1.out
                rw [HX.out] at c88
                go_simp
                exact Went.same hS rfl
              refine EachOp.cons ?_ ?_
              · intro L a u hL hst hS hdep
                have h86 : a.tmps.getD 86 undef = .pointer (some ⟨b, 0, none⟩) := hdep 86 (by kernel_rfl)
                have h88 : a.tmps.getD 88 undef = .int .i64 x := hdep 88 (by kernel_rfl)
                refine ⟨trivial, ?_⟩
                have g86 := gd h86
                have g88 := gd h88
                go_simp
                have hS1 : MidA S T wx.heap.size (PW b m l) (PW b m l2) (RW c m l) (RW c m l2) wx.drew false (L 7) u := by have h := hS; simp only [hL] at h; exact h
                have h0 := pdrop_ok x hS1.getl
                rw [HPV.out, ← HL2.out] at h0
                refine h0.mono ?_
                rintro e u' ⟨rfl, ht⟩
                obtain ⟨t1, t2⟩ := hS1.left ht
                exact Went.next t1 t2 rfl
              refine EachOp.cons ?_ ?_
              · intro L a u hL hst hS hdep
                have h9 : a.tmps.getD 9 undef = .pointer (some ⟨c, 0, none⟩) := hst.out 9 (by kernel_rfl)
                refine ⟨trivial, ?_⟩
                have g9 := gd h9
                go_simp
                exact Went.same hS rfl
              refine EachOp.cons ?_ ?_
              · intro L a u hL hst hS hdep
                have h12 : a.tmps.getD 12 undef = .pointer (some ⟨wr.heap.size, 0, none⟩) := hst.out 12 (by kernel_rfl)
                refine ⟨trivial, ?_⟩
                have g12 := gd h12
                go_simp
                exact Went.same hS rfl
              refine EachOp.cons ?_ ?_
              · intro L a u hL hst hS hdep
                have h91 : a.tmps.getD 91 undef = .pointer (some ⟨wr.heap.size, 1, none⟩) := hdep 91 (by kernel_rfl)
                refine ⟨trivial, ?_⟩
                have g91 := gd h91
                have c92 := (MidA.cell hS HXN.out.1 HXN.out.2 1).trans HY1.out
                rw [HX.out] at c92
                go_simp
                exact Went.same hS rfl
              refine EachOp.cons ?_ ?_
              · intro L a u hL hst hS hdep
                have h90 : a.tmps.getD 90 undef = .pointer (some ⟨c, 0, none⟩) := hdep 90 (by kernel_rfl)
                have h92 : a.tmps.getD 92 undef = .int .i64 x := hdep 92 (by kernel_rfl)
                refine ⟨trivial, ?_⟩
                have g90 := gd h90
                have g92 := gd h92
                go_simp
                have hS1 : MidA S T wx.heap.size (PW b m l) (PW b m l2) (RW c m l) (RW c m l2) wx.drew (L 3) false u := by have h := hS; simp only [hL] at h; exact h
                have h0 := rdrop_ok x hS1.getr
                rw [HPV.out, ← HL2.out] at h0
                refine h0.mono ?_
                rintro e u' ⟨rfl, ht⟩
                obtain ⟨t1, t2⟩ := hS1.right ht
                exact Went.next t1 t2 rfl
              refine EachOp.cons ?_ ?_
              · intro L a u hL hst hS hdep
                have h89 : a.tmps.getD 89 undef = .bool pv := hdep 89 (by kernel_rfl)
                have h93 : a.tmps.getD 93 undef = .bool pv := hdep 93 (by kernel_rfl)
                refine ⟨trivial, ?_⟩
                have g89 := gd h89
                have g93 := gd h93
                go_simp
                exact Went.same hS rfl
              refine EachOp.cons ?_ ?_
              · intro L a u hL hst hS hdep
                have h94 : a.tmps.getD 94 undef = .bool true := hdep 94 (by kernel_rfl)
                refine ⟨trivial, ?_⟩
                have g94 := gd h94
                go_simp
                exact Went.same hS rfl
              exact EachOp.nil
            · intro L a u hLs hst hS hdep
              have h86 : a.tmps.getD 86 undef = .pointer (some ⟨b, 0, none⟩) := hdep 86 (by kernel_rfl)
              have h87 : a.tmps.getD 87 undef = .pointer (some ⟨wr.heap.size, 1, none⟩) := hdep 87 (by kernel_rfl)
              have h88 : a.tmps.getD 88 undef = .int .i64 x := hdep 88 (by kernel_rfl)
              have h89 : a.tmps.getD 89 undef = .bool pv := hdep 89 (by kernel_rfl)
              have h90 : a.tmps.getD 90 undef = .pointer (some ⟨c, 0, none⟩) := hdep 90 (by kernel_rfl)
              have h91 : a.tmps.getD 91 undef = .pointer (some ⟨wr.heap.size, 1, none⟩) := hdep 91 (by kernel_rfl)
              have h92 : a.tmps.getD 92 undef = .int .i64 x := hdep 92 (by kernel_rfl)
              have h93 : a.tmps.getD 93 undef = .bool pv := hdep 93 (by kernel_rfl)
              have h94 : a.tmps.getD 94 undef = .bool true := hdep 94 (by kernel_rfl)
              have h13 : a.tmps.getD 13 undef = .bool true := hdep 13 (by kernel_rfl)
              have hfr := hst.frame [(86, .pointer (some ⟨b, 0, none⟩)), (87, .pointer (some ⟨wr.heap.size, 1, none⟩)), (88, .int .i64 x), (89, .bool pv), (90, .pointer (some ⟨c, 0, none⟩)), (91, .pointer (some ⟨wr.heap.size, 1, none⟩)), (92, .int .i64 x), (93, .bool pv), (94, .bool true), (13, .bool true)] (by kernel_rfl) ⟨h86, h87, h88, h89, h90, h91, h92, h93, h94, h13, trivial⟩
              clear hst hdep h86 h87 h88 h89 h90 h91 h92 h93 h94 h13
              subst hfr
              simp only [List.foldl_cons, List.foldl_nil, List.setIfInBounds_toArray, List.set_cons_zero, List.set_cons_succ]
              have hlp := hLs 3 (by kernel_rfl)
              have hlr := hLs 7 (by kernel_rfl)
              have hS3 : MidA S T wx.heap.size (PW b m l) (PW b m l2) (RW c m l) (RW c m l2) wx.drew true true u := by have h := hS; simp only [hlp, hlr] at h; exact h
              have HC : Hid (u.cell? ⟨X, 1, none⟩ = some (.int .i64 x)) := Lib.hid ((MidA.cell hS3 HXN.out.1 HXN.out.2 1).trans HY1.out)
              have HDY : Hid (Duo W (PW b m l2) (RW c m l2) (fun k => k = X ∨ noneB k) u) := Lib.hid (hS3.done HSN.out HNN.out HZ.out HKX.out)
              clear hS3 hlp hlr hS hLs HST HXN HSN HNN HZ HKX HY1 HDX HPV HL2
              obtain ⟨wy, hwy⟩ : ∃ y, y = u := ⟨_, rfl⟩
              rw [← hwy] at HDY HC
              rw [← hwy]
              clear hwy
              go_wp2_with fail
              obtain ⟨S9, T9, h91, h92, _⟩ := HDY.out.at_
              have HPA : Hid (∀ u, Below wy.heap.size wy u → (PW b m l2).p S9 u) := Lib.hid fun u hu => Thing.next h91 hu
              have HRA : Hid (∀ u, Below wy.heap.size wy u → (RW c m l2).p T9 u) := Lib.hid fun u hu => Thing.next h92 hu
              obtain ⟨A9, n9, c9, hb9, hx9, hS9, _, hl9, hm9, _⟩ := RW.at_ h92
              have HRN : Hid (∀ u, Below wy.heap.size wy u → u.cell? ⟨c, 0, none⟩ = some (.slice A9 n9 c9) ∧ NR u A9 n9 l2) := Lib.hid fun u hu => ⟨(cells2t ((hu.block c (hl9 c hS9)).trans hb9)).1, hx9.nr.next hu⟩
              have hn9 : n9 ≤ 12 := by have := hx9.nr.len; omega
              have HN9 := Lib.hid hn9
              have HXL : Hid (X < wy.heap.size) := Lib.hid (HDY.out.nlt X (.inl rfl))
              have HCU : Hid (∀ u, Below wy.heap.size wy u → u.cell? ⟨wr.heap.size, 1, none⟩ = some (.int .i64 x)) := Lib.hid fun u hu => by
                have := (World.cell?_of_block (a := ⟨X, 1, none⟩) (hu.block X HXL.out)).trans HC.out
                rwa [HX.out] at this
              obtain ⟨p2, hp2⟩ : ∃ p, p = atW z l2 := ⟨_, rfl⟩
              obtain ⟨p3, hp3⟩ : ∃ p, p = atW x l2 := ⟨_, rfl⟩
              have HP2 := Lib.hid hp2
              have HP3 := Lib.hid hp3
              clear h91 h92 hb9 hx9 hS9 hl9 hm9 hn9 hp2 hp3 HC HXL
              refine wp_region_specs (S := fun u => Below wy.heap.size wy u) (Sp := [(95, Stb.eq (.bool true)), (96, Stb.eq (.bool false)), (97, Stb.eq (.bool false)), (98, Stb.eq (.pointer (some ⟨b, 0, none⟩))), (99, nrSt l2), (100, Stb.eq (.pointer (some ⟨c, 0, none⟩))), (101, Stb.eq (.pointer (some ⟨c, 0, none⟩))), (102, Stb.eq (.pointer (some ⟨c, 0, none⟩))), (103, Stb.eq (.slice A9 n9 c9)), (104, Stb.eq (.bool true)), (105, Stb.eq (.bool false)), (106, Stb.eq (.bool false)), (107, Stb.eq (.bool false)), (108, Stb.eq (.pointer (some ⟨b, 0, none⟩))), (109, Stb.eq (.int .i64 z)), (110, Stb.eq (.int .i64 p2)), (111, Stb.eq (.pointer (some ⟨c, 0, none⟩))), (112, Stb.eq (.int .i64 z)), (113, Stb.eq (.int .i64 p2)), (114, Stb.eq (.bool false)), (115, Stb.eq (.bool false)), (116, Stb.eq (.bool false)), (117, Stb.eq (.pointer (some ⟨b, 0, none⟩))), (118, Stb.eq (.pointer (some ⟨wr.heap.size, 1, none⟩))), (119, Stb.eq (.int .i64 x)), (120, Stb.eq (.int .i64 p3)), (121, Stb.eq (.pointer (some ⟨c, 0, none⟩))), (122, Stb.eq (.pointer (some ⟨wr.heap.size, 1, none⟩))), (123, Stb.eq (.int .i64 x)), (124, Stb.eq (.int .i64 p3)), (125, Stb.eq (.bool false)), (126, Stb.eq (.bool false))]) (by kernel_rfl) (by kernel_rfl) (kp_drewN _ 1) ?_ ?_
              · refine EachOp.cons ?_ ?_
                · intro a u hst hS hdep
                  have h13 : a.tmps.getD 13 undef = .bool true := hst.out 13 (by kernel_rfl)
                  refine ⟨trivial, ?_⟩
                  have g13 := gd h13
                  go_simp
                  exact Goes.same hS rfl
                refine EachOp.cons ?_ ?_
                · intro a u hst hS hdep
                  have h95 : a.tmps.getD 95 undef = .bool true := hdep 95 (by kernel_rfl)
                  refine ⟨trivial, ?_⟩
                  have g95 := gd h95
                  go_simp
                  exact Goes.same hS rfl
                refine EachOp.cons ?_ ?_
                · intro a u hst hS hdep
                  have h96 : a.tmps.getD 96 undef = .bool false := hdep 96 (by kernel_rfl)
                  refine ⟨trivial, ?_⟩
                  have g96 := gd h96
                  go_simp
                  exact Goes.same hS rfl
                refine EachOp.cons ?_ ?_
                · intro a u hst hS hdep
                  have h7 : a.tmps.getD 7 undef = .pointer (some ⟨b, 0, none⟩) := hst.out 7 (by kernel_rfl)
                  have h97 : a.tmps.getD 97 undef = .bool false := hdep 97 (by kernel_rfl)
                  refine ⟨⟨97, by kernel_rfl, h97⟩, ?_⟩
                  clear h97
                  have g7 := gd h7
                  go_simp
                  exact Goes.same hS rfl
                refine EachOp.cons ?_ ?_
                · intro a u hst hS hdep
                  have h98 : a.tmps.getD 98 undef = .pointer (some ⟨b, 0, none⟩) := hdep 98 (by kernel_rfl)
                  have h97 : a.tmps.getD 97 undef = .bool false := hdep 97 (by kernel_rfl)
                  refine ⟨⟨97, by kernel_rfl, h97⟩, ?_⟩
                  clear h97
                  have g98 := gd h98
                  go_simp
                  refine (pall_ok (HPA.out u hS)).mono ?_
                  rintro e u' ⟨A, n, c, rfl, hx, hn, hb'⟩
                  exact Goes.next (kp_trans hS hb') hb' ⟨A, n, c, rfl, hx, hn⟩
                refine EachOp.cons ?_ ?_
                · intro a u hst hS hdep
                  have h9 : a.tmps.getD 9 undef = .pointer (some ⟨c, 0, none⟩) := hst.out 9 (by kernel_rfl)
                  have h97 : a.tmps.getD 97 undef = .bool false := hdep 97 (by kernel_rfl)
                  refine ⟨⟨97, by kernel_rfl, h97⟩, ?_⟩
                  clear h97
                  have g9 := gd h9
                  go_simp
                  exact Goes.same hS rfl
                refine EachOp.cons ?_ ?_
                · intro a u hst hS hdep
                  have h100 : a.tmps.getD 100 undef = .pointer (some ⟨c, 0, none⟩) := hdep 100 (by kernel_rfl)
                  have h97 : a.tmps.getD 97 undef = .bool false := hdep 97 (by kernel_rfl)
                  refine ⟨⟨97, by kernel_rfl, h97⟩, ?_⟩
                  clear h97
                  have g100 := gd h100
                  go_simp
                  exact Goes.same hS rfl
                refine EachOp.cons ?_ ?_
                · intro a u hst hS hdep
                  have h101 : a.tmps.getD 101 undef = .pointer (some ⟨c, 0, none⟩) := hdep 101 (by kernel_rfl)
                  have h97 : a.tmps.getD 97 undef = .bool false := hdep 97 (by kernel_rfl)
                  refine ⟨⟨97, by kernel_rfl, h97⟩, ?_⟩
                  clear h97
                  have g101 := gd h101
                  go_simp
                  exact Goes.same hS rfl
                refine EachOp.cons ?_ ?_
                · intro a u hst hS hdep
                  have h102 : a.tmps.getD 102 undef = .pointer (some ⟨c, 0, none⟩) := hdep 102 (by kernel_rfl)
                  have h97 : a.tmps.getD 97 undef = .bool false := hdep 97 (by kernel_rfl)
                  refine ⟨⟨97, by kernel_rfl, h97⟩, ?_⟩
                  clear h97
                  have g102 := gd h102
                  have c103 := (HRN.out u hS).1
                  go_simp
                  exact Goes.same hS rfl
                refine EachOp.cons ?_ ?_
                · intro a u hst hS hdep
                  obtain ⟨A99, n99, c99, h99, r99, z99⟩ := hdep 99 (by kernel_rfl)
                  have h103 : a.tmps.getD 103 undef = .slice A9 n9 c9 := hdep 103 (by kernel_rfl)
                  have h97 : a.tmps.getD 97 undef = .bool false := hdep 97 (by kernel_rfl)
                  refine ⟨⟨97, by kernel_rfl, h97⟩, ?_⟩
                  clear h97
                  have g99 := gd h99
                  have g103 := gd h103
                  go_simp
                  refine (wsame_ok A99 A9 n99 n9 c99 c9 l2 l2 u r99 (HRN.out u hS).2 (by omega) (by have := HN9.out; omega) true (Lib.hid (by simp))).mono ?_
                  rintro e u' ⟨rfl, _, hb'⟩
                  exact Goes.next (kp_trans hS hb') hb' rfl
                refine EachOp.cons ?_ ?_
                · intro a u hst hS hdep
                  have h104 : a.tmps.getD 104 undef = .bool true := hdep 104 (by kernel_rfl)
                  have h97 : a.tmps.getD 97 undef = .bool false := hdep 97 (by kernel_rfl)
                  refine ⟨⟨97, by kernel_rfl, h97⟩, ?_⟩
                  clear h97
                  have g104 := gd h104
                  go_simp
                  exact Goes.same hS rfl
                refine EachOp.cons ?_ ?_
                · intro a u hst hS hdep
                  have h97 : a.tmps.getD 97 undef = .bool false := hdep 97 (by kernel_rfl)
                  have h105 : a.tmps.getD 105 undef = .bool false := hdep 105 (by kernel_rfl)
                  refine ⟨trivial, ?_⟩
                  have g97 := gd h97
                  have g105 := gd h105
                  go_simp
                  exact Goes.same hS rfl
                refine EachOp.cons ?_ ?_
                · intro a u hst hS hdep
                  have h106 : a.tmps.getD 106 undef = .bool false := hdep 106 (by kernel_rfl)
                  refine ⟨trivial, ?_⟩
                  have g106 := gd h106
                  go_simp
                  exact Goes.same hS rfl
                refine EachOp.cons ?_ ?_
                · intro a u hst hS hdep
                  have h7 : a.tmps.getD 7 undef = .pointer (some ⟨b, 0, none⟩) := hst.out 7 (by kernel_rfl)
                  have h107 : a.tmps.getD 107 undef = .bool false := hdep 107 (by kernel_rfl)
                  refine ⟨⟨107, by kernel_rfl, h107⟩, ?_⟩
                  clear h107
                  have g7 := gd h7
                  go_simp
                  exact Goes.same hS rfl
                refine EachOp.cons ?_ ?_
                · intro a u hst hS hdep
                  have h2 : a.tmps.getD 2 undef = .int .i64 z := hst.out 2 (by kernel_rfl)
                  have h107 : a.tmps.getD 107 undef = .bool false := hdep 107 (by kernel_rfl)
                  refine ⟨⟨107, by kernel_rfl, h107⟩, ?_⟩
                  clear h107
                  have g2 := gd h2
                  go_simp
                  exact Goes.same hS rfl
                refine EachOp.cons ?_ ?_
                · intro a u hst hS hdep
                  have h108 : a.tmps.getD 108 undef = .pointer (some ⟨b, 0, none⟩) := hdep 108 (by kernel_rfl)
                  have h109 : a.tmps.getD 109 undef = .int .i64 z := hdep 109 (by kernel_rfl)
                  have h107 : a.tmps.getD 107 undef = .bool false := hdep 107 (by kernel_rfl)
                  refine ⟨⟨107, by kernel_rfl, h107⟩, ?_⟩
                  clear h107
                  have g108 := gd h108
                  have g109 := gd h109
                  go_simp
                  have h0 := pat_ok z (HPA.out u hS)
                  rw [← HP2.out] at h0
                  refine h0.mono ?_
                  rintro e u' ⟨rfl, _, hb'⟩
                  exact Goes.next (kp_trans hS hb') hb' rfl
                refine EachOp.cons ?_ ?_
                · intro a u hst hS hdep
                  have h9 : a.tmps.getD 9 undef = .pointer (some ⟨c, 0, none⟩) := hst.out 9 (by kernel_rfl)
                  have h107 : a.tmps.getD 107 undef = .bool false := hdep 107 (by kernel_rfl)
                  refine ⟨⟨107, by kernel_rfl, h107⟩, ?_⟩
                  clear h107
                  have g9 := gd h9
                  go_simp
                  exact Goes.same hS rfl
                refine EachOp.cons ?_ ?_
                · intro a u hst hS hdep
                  have h2 : a.tmps.getD 2 undef = .int .i64 z := hst.out 2 (by kernel_rfl)
                  have h107 : a.tmps.getD 107 undef = .bool false := hdep 107 (by kernel_rfl)
                  refine ⟨⟨107, by kernel_rfl, h107⟩, ?_⟩
                  clear h107
                  have g2 := gd h2
                  go_simp
                  exact Goes.same hS rfl
                refine EachOp.cons ?_ ?_
                · intro a u hst hS hdep
                  have h111 : a.tmps.getD 111 undef = .pointer (some ⟨c, 0, none⟩) := hdep 111 (by kernel_rfl)
                  have h112 : a.tmps.getD 112 undef = .int .i64 z := hdep 112 (by kernel_rfl)
                  have h107 : a.tmps.getD 107 undef = .bool false := hdep 107 (by kernel_rfl)
                  refine ⟨⟨107, by kernel_rfl, h107⟩, ?_⟩
                  clear h107
                  have g111 := gd h111
                  have g112 := gd h112
                  go_simp
                  have h0 := rat_ok z (HRA.out u hS)
                  rw [← HP2.out] at h0
                  refine h0.mono ?_
                  rintro e u' ⟨rfl, rfl⟩
                  exact Goes.same hS rfl
                refine EachOp.cons ?_ ?_
                · intro a u hst hS hdep
                  have h110 : a.tmps.getD 110 undef = .int .i64 p2 := hdep 110 (by kernel_rfl)
                  have h113 : a.tmps.getD 113 undef = .int .i64 p2 := hdep 113 (by kernel_rfl)
                  have h107 : a.tmps.getD 107 undef = .bool false := hdep 107 (by kernel_rfl)
                  refine ⟨⟨107, by kernel_rfl, h107⟩, ?_⟩
                  clear h107
                  have g110 := gd h110
                  have g113 := gd h113
                  go_simp
                  exact Goes.same hS rfl
                refine EachOp.cons ?_ ?_
                · intro a u hst hS hdep
                  have h107 : a.tmps.getD 107 undef = .bool false := hdep 107 (by kernel_rfl)
                  have h114 : a.tmps.getD 114 undef = .bool false := hdep 114 (by kernel_rfl)
                  refine ⟨trivial, ?_⟩
                  have g107 := gd h107
                  have g114 := gd h114
                  go_simp
                  exact Goes.same hS rfl
                refine EachOp.cons ?_ ?_
                · intro a u hst hS hdep
                  have h115 : a.tmps.getD 115 undef = .bool false := hdep 115 (by kernel_rfl)
                  refine ⟨trivial, ?_⟩
                  have g115 := gd h115
                  go_simp
                  exact Goes.same hS rfl
                refine EachOp.cons ?_ ?_
                · intro a u hst hS hdep
                  have h7 : a.tmps.getD 7 undef = .pointer (some ⟨b, 0, none⟩) := hst.out 7 (by kernel_rfl)
                  have h116 : a.tmps.getD 116 undef = .bool false := hdep 116 (by kernel_rfl)
                  refine ⟨⟨116, by kernel_rfl, h116⟩, ?_⟩
                  clear h116
                  have g7 := gd h7
                  go_simp
                  exact Goes.same hS rfl
                refine EachOp.cons ?_ ?_
                · intro a u hst hS hdep
                  have h12 : a.tmps.getD 12 undef = .pointer (some ⟨wr.heap.size, 0, none⟩) := hst.out 12 (by kernel_rfl)
                  have h116 : a.tmps.getD 116 undef = .bool false := hdep 116 (by kernel_rfl)
                  refine ⟨⟨116, by kernel_rfl, h116⟩, ?_⟩
                  clear h116
                  have g12 := gd h12
                  go_simp
                  exact Goes.same hS rfl
                refine EachOp.cons ?_ ?_
                · intro a u hst hS hdep
                  have h118 : a.tmps.getD 118 undef = .pointer (some ⟨wr.heap.size, 1, none⟩) := hdep 118 (by kernel_rfl)
                  have h116 : a.tmps.getD 116 undef = .bool false := hdep 116 (by kernel_rfl)
                  refine ⟨⟨116, by kernel_rfl, h116⟩, ?_⟩
                  clear h116
                  have g118 := gd h118
                  have c119 := HCU.out u hS
                  go_simp
                  exact Goes.same hS rfl
                refine EachOp.cons ?_ ?_
                · intro a u hst hS hdep
                  have h117 : a.tmps.getD 117 undef = .pointer (some ⟨b, 0, none⟩) := hdep 117 (by kernel_rfl)
                  have h119 : a.tmps.getD 119 undef = .int .i64 x := hdep 119 (by kernel_rfl)
                  have h116 : a.tmps.getD 116 undef = .bool false := hdep 116 (by kernel_rfl)
                  refine ⟨⟨116, by kernel_rfl, h116⟩, ?_⟩
                  clear h116
                  have g117 := gd h117
                  have g119 := gd h119
                  go_simp
                  have h0 := pat_ok x (HPA.out u hS)
                  rw [← HP3.out] at h0
                  refine h0.mono ?_
                  rintro e u' ⟨rfl, _, hb'⟩
                  exact Goes.next (kp_trans hS hb') hb' rfl
                refine EachOp.cons ?_ ?_
                · intro a u hst hS hdep
                  have h9 : a.tmps.getD 9 undef = .pointer (some ⟨c, 0, none⟩) := hst.out 9 (by kernel_rfl)
                  have h116 : a.tmps.getD 116 undef = .bool false := hdep 116 (by kernel_rfl)
                  refine ⟨⟨116, by kernel_rfl, h116⟩, ?_⟩
                  clear h116
                  have g9 := gd h9
                  go_simp
                  exact Goes.same hS rfl
                refine EachOp.cons ?_ ?_
                · intro a u hst hS hdep
                  have h12 : a.tmps.getD 12 undef = .pointer (some ⟨wr.heap.size, 0, none⟩) := hst.out 12 (by kernel_rfl)
                  have h116 : a.tmps.getD 116 undef = .bool false := hdep 116 (by kernel_rfl)
                  refine ⟨⟨116, by kernel_rfl, h116⟩, ?_⟩
                  clear h116
                  have g12 := gd h12
                  go_simp
                  exact Goes.same hS rfl
                refine EachOp.cons ?_ ?_
                · intro a u hst hS hdep
                  have h122 : a.tmps.getD 122 undef = .pointer (some ⟨wr.heap.size, 1, none⟩) := hdep 122 (by kernel_rfl)
                  have h116 : a.tmps.getD 116 undef = .bool false := hdep 116 (by kernel_rfl)
                  refine ⟨⟨116, by kernel_rfl, h116⟩, ?_⟩
                  clear h116
                  have g122 := gd h122
                  have c123 := HCU.out u hS
                  go_simp
                  exact Goes.same hS rfl
                refine EachOp.cons ?_ ?_
                · intro a u hst hS hdep
                  have h121 : a.tmps.getD 121 undef = .pointer (some ⟨c, 0, none⟩) := hdep 121 (by kernel_rfl)
                  have h123 : a.tmps.getD 123 undef = .int .i64 x := hdep 123 (by kernel_rfl)
                  have h116 : a.tmps.getD 116 undef = .bool false := hdep 116 (by kernel_rfl)
                  refine ⟨⟨116, by kernel_rfl, h116⟩, ?_⟩
                  clear h116
                  have g121 := gd h121
                  have g123 := gd h123
                  go_simp
                  have h0 := rat_ok x (HRA.out u hS)
                  rw [← HP3.out] at h0
                  refine h0.mono ?_
                  rintro e u' ⟨rfl, rfl⟩
                  exact Goes.same hS rfl
                refine EachOp.cons ?_ ?_
                · intro a u hst hS hdep
                  have h120 : a.tmps.getD 120 undef = .int .i64 p3 := hdep 120 (by kernel_rfl)
                  have h124 : a.tmps.getD 124 undef = .int .i64 p3 := hdep 124 (by kernel_rfl)
                  have h116 : a.tmps.getD 116 undef = .bool false := hdep 116 (by kernel_rfl)
                  refine ⟨⟨116, by kernel_rfl, h116⟩, ?_⟩
                  clear h116
                  have g120 := gd h120
                  have g124 := gd h124
                  go_simp
                  exact Goes.same hS rfl
                refine EachOp.cons ?_ ?_
                · intro a u hst hS hdep
                  have h116 : a.tmps.getD 116 undef = .bool false := hdep 116 (by kernel_rfl)
                  have h125 : a.tmps.getD 125 undef = .bool false := hdep 125 (by kernel_rfl)
                  refine ⟨trivial, ?_⟩
                  have g116 := gd h116
                  have g125 := gd h125
                  go_simp
                  exact Goes.same hS rfl
                exact EachOp.nil
              · intro a u hst hS hdep
                have h95 : a.tmps.getD 95 undef = .bool true := hdep 95 (by kernel_rfl)
                have h96 : a.tmps.getD 96 undef = .bool false := hdep 96 (by kernel_rfl)
                have h97 : a.tmps.getD 97 undef = .bool false := hdep 97 (by kernel_rfl)
                have h98 : a.tmps.getD 98 undef = .pointer (some ⟨b, 0, none⟩) := hdep 98 (by kernel_rfl)
                obtain ⟨A99, n99, c99, h99, r99, z99⟩ := hdep 99 (by kernel_rfl)
                have h100 : a.tmps.getD 100 undef = .pointer (some ⟨c, 0, none⟩) := hdep 100 (by kernel_rfl)
                have h101 : a.tmps.getD 101 undef = .pointer (some ⟨c, 0, none⟩) := hdep 101 (by kernel_rfl)
                have h102 : a.tmps.getD 102 undef = .pointer (some ⟨c, 0, none⟩) := hdep 102 (by kernel_rfl)
                have h103 : a.tmps.getD 103 undef = .slice A9 n9 c9 := hdep 103 (by kernel_rfl)
                have h104 : a.tmps.getD 104 undef = .bool true := hdep 104 (by kernel_rfl)
                have h105 : a.tmps.getD 105 undef = .bool false := hdep 105 (by kernel_rfl)
                have h106 : a.tmps.getD 106 undef = .bool false := hdep 106 (by kernel_rfl)
                have h107 : a.tmps.getD 107 undef = .bool false := hdep 107 (by kernel_rfl)
                have h108 : a.tmps.getD 108 undef = .pointer (some ⟨b, 0, none⟩) := hdep 108 (by kernel_rfl)
                have h109 : a.tmps.getD 109 undef = .int .i64 z := hdep 109 (by kernel_rfl)
                have h110 : a.tmps.getD 110 undef = .int .i64 p2 := hdep 110 (by kernel_rfl)
                have h111 : a.tmps.getD 111 undef = .pointer (some ⟨c, 0, none⟩) := hdep 111 (by kernel_rfl)
                have h112 : a.tmps.getD 112 undef = .int .i64 z := hdep 112 (by kernel_rfl)
                have h113 : a.tmps.getD 113 undef = .int .i64 p2 := hdep 113 (by kernel_rfl)
                have h114 : a.tmps.getD 114 undef = .bool false := hdep 114 (by kernel_rfl)
                have h115 : a.tmps.getD 115 undef = .bool false := hdep 115 (by kernel_rfl)
                have h116 : a.tmps.getD 116 undef = .bool false := hdep 116 (by kernel_rfl)
                have h117 : a.tmps.getD 117 undef = .pointer (some ⟨b, 0, none⟩) := hdep 117 (by kernel_rfl)
                have h118 : a.tmps.getD 118 undef = .pointer (some ⟨wr.heap.size, 1, none⟩) := hdep 118 (by kernel_rfl)
                have h119 : a.tmps.getD 119 undef = .int .i64 x := hdep 119 (by kernel_rfl)
                have h120 : a.tmps.getD 120 undef = .int .i64 p3 := hdep 120 (by kernel_rfl)
                have h121 : a.tmps.getD 121 undef = .pointer (some ⟨c, 0, none⟩) := hdep 121 (by kernel_rfl)
                have h122 : a.tmps.getD 122 undef = .pointer (some ⟨wr.heap.size, 1, none⟩) := hdep 122 (by kernel_rfl)
                have h123 : a.tmps.getD 123 undef = .int .i64 x := hdep 123 (by kernel_rfl)
                have h124 : a.tmps.getD 124 undef = .int .i64 p3 := hdep 124 (by kernel_rfl)
                have h125 : a.tmps.getD 125 undef = .bool false := hdep 125 (by kernel_rfl)
                have h126 : a.tmps.getD 126 undef = .bool false := hdep 126 (by kernel_rfl)
                have hfr := hst.frame [(95, .bool true), (96, .bool false), (97, .bool false), (98, .pointer (some ⟨b, 0, none⟩)), (99, .slice A99 n99 c99), (100, .pointer (some ⟨c, 0, none⟩)), (101, .pointer (some ⟨c, 0, none⟩)), (102, .pointer (some ⟨c, 0, none⟩)), (103, .slice A9 n9 c9), (104, .bool true), (105, .bool false), (106, .bool false), (107, .bool false), (108, .pointer (some ⟨b, 0, none⟩)), (109, .int .i64 z), (110, .int .i64 p2), (111, .pointer (some ⟨c, 0, none⟩)), (112, .int .i64 z), (113, .int .i64 p2), (114, .bool false), (115, .bool false), (116, .bool false), (117, .pointer (some ⟨b, 0, none⟩)), (118, .pointer (some ⟨wr.heap.size, 1, none⟩)), (119, .int .i64 x), (120, .int .i64 p3), (121, .pointer (some ⟨c, 0, none⟩)), (122, .pointer (some ⟨wr.heap.size, 1, none⟩)), (123, .int .i64 x), (124, .int .i64 p3), (125, .bool false), (126, .bool false)] (by kernel_rfl) ⟨h95, h96, h97, h98, h99, h100, h101, h102, h103, h104, h105, h106, h107, h108, h109, h110, h111, h112, h113, h114, h115, h116, h117, h118, h119, h120, h121, h122, h123, h124, h125, h126, trivial⟩
                clear hst hdep h95 h96 h97 h98 h99 h100 h101 h102 h103 h104 h105 h106 h107 h108 h109 h110 h111 h112 h113 h114 h115 h116 h117 h118 h119 h120 h121 h122 h123 h124 h125 h126
                subst hfr
                simp only [List.foldl_cons, List.foldl_nil, List.setIfInBounds_toArray, List.set_cons_zero, List.set_cons_succ]
                have HDU : Hid (Duo W (PW b m l2) (RW c m l2) noneB u) := Lib.hid ((HDY.out.less fun _ h => h.elim).next hS)
                clear hS HDY HPA HRA HRN HN9 HCU HP2 HP3 r99 z99
                go_wp2_with fail
                go_roundw
                case rel => exact ⟨k + 1, l2, by omega, by go_num, HDU⟩
                case measure => simp [intOf]; omega
          · have hd2' : (d == 2) = false := by simpa using hd2
            clear hd0 hd1 hd2
            have HDY := HDX
            have HC := HY1
            clear HDX HY1
            obtain ⟨l2, hl2⟩ : ∃ y, y = l := ⟨_, rfl⟩
            rw [← hl2] at HDY
            clear hl2
            go_wp2_with fail
            rw [HWX.out]
            obtain ⟨wy, hwy⟩ : ∃ y, y = wx := ⟨_, rfl⟩
            rw [← hwy] at HDY HC
            rw [← hwy]
            clear hwy HWX
            obtain ⟨S9, T9, h91, h92, _⟩ := HDY.out.at_
            have HPA : Hid (∀ u, Below wy.heap.size wy u → (PW b m l2).p S9 u) := Lib.hid fun u hu => Thing.next h91 hu
            have HRA : Hid (∀ u, Below wy.heap.size wy u → (RW c m l2).p T9 u) := Lib.hid fun u hu => Thing.next h92 hu
            obtain ⟨A9, n9, c9, hb9, hx9, hS9, _, hl9, hm9, _⟩ := RW.at_ h92
            have HRN : Hid (∀ u, Below wy.heap.size wy u → u.cell? ⟨c, 0, none⟩ = some (.slice A9 n9 c9) ∧ NR u A9 n9 l2) := Lib.hid fun u hu => ⟨(cells2t ((hu.block c (hl9 c hS9)).trans hb9)).1, hx9.nr.next hu⟩
            have hn9 : n9 ≤ 12 := by have := hx9.nr.len; omega
            have HN9 := Lib.hid hn9
            have HXL : Hid (X < wy.heap.size) := Lib.hid (HDY.out.nlt X (.inl rfl))
            have HCU : Hid (∀ u, Below wy.heap.size wy u → u.cell? ⟨wr.heap.size, 1, none⟩ = some (.int .i64 x)) := Lib.hid fun u hu => by
              have := (World.cell?_of_block (a := ⟨X, 1, none⟩) (hu.block X HXL.out)).trans HC.out
              rwa [HX.out] at this
            obtain ⟨p2, hp2⟩ : ∃ p, p = atW z l2 := ⟨_, rfl⟩
            obtain ⟨p3, hp3⟩ : ∃ p, p = atW x l2 := ⟨_, rfl⟩
            have HP2 := Lib.hid hp2
            have HP3 := Lib.hid hp3
            clear h91 h92 hb9 hx9 hS9 hl9 hm9 hn9 hp2 hp3 HC HXL
            refine wp_region_specs (S := fun u => Below wy.heap.size wy u) (Sp := [(95, Stb.eq (.bool true)), (96, Stb.eq (.bool false)), (97, Stb.eq (.bool false)), (98, Stb.eq (.pointer (some ⟨b, 0, none⟩))), (99, nrSt l2), (100, Stb.eq (.pointer (some ⟨c, 0, none⟩))), (101, Stb.eq (.pointer (some ⟨c, 0, none⟩))), (102, Stb.eq (.pointer (some ⟨c, 0, none⟩))), (103, Stb.eq (.slice A9 n9 c9)), (104, Stb.eq (.bool true)), (105, Stb.eq (.bool false)), (106, Stb.eq (.bool false)), (107, Stb.eq (.bool false)), (108, Stb.eq (.pointer (some ⟨b, 0, none⟩))), (109, Stb.eq (.int .i64 z)), (110, Stb.eq (.int .i64 p2)), (111, Stb.eq (.pointer (some ⟨c, 0, none⟩))), (112, Stb.eq (.int .i64 z)), (113, Stb.eq (.int .i64 p2)), (114, Stb.eq (.bool false)), (115, Stb.eq (.bool false)), (116, Stb.eq (.bool false)), (117, Stb.eq (.pointer (some ⟨b, 0, none⟩))), (118, Stb.eq (.pointer (some ⟨wr.heap.size, 1, none⟩))), (119, Stb.eq (.int .i64 x)), (120, Stb.eq (.int .i64 p3)), (121, Stb.eq (.pointer (some ⟨c, 0, none⟩))), (122, Stb.eq (.pointer (some ⟨wr.heap.size, 1, none⟩))), (123, Stb.eq (.int .i64 x)), (124, Stb.eq (.int .i64 p3)), (125, Stb.eq (.bool false)), (126, Stb.eq (.bool false))]) (by kernel_rfl) (by kernel_rfl) (kp_drewN _ 1) ?_ ?_
            · refine EachOp.cons ?_ ?_
              · intro a u hst hS hdep
                have h13 : a.tmps.getD 13 undef = .bool true := hst.out 13 (by kernel_rfl)
                refine ⟨trivial, ?_⟩
                have g13 := gd h13
                go_simp
                exact Goes.same hS rfl
              refine EachOp.cons ?_ ?_
              · intro a u hst hS hdep
                have h95 : a.tmps.getD 95 undef = .bool true := hdep 95 (by kernel_rfl)
                refine ⟨trivial, ?_⟩
                have g95 := gd h95
                go_simp
                exact Goes.same hS rfl
              refine EachOp.cons ?_ ?_
              · intro a u hst hS hdep
                have h96 : a.tmps.getD 96 undef = .bool false := hdep 96 (by kernel_rfl)
                refine ⟨trivial, ?_⟩
                have g96 := gd h96
                go_simp
                exact Goes.same hS rfl
              refine EachOp.cons ?_ ?_
              · intro a u hst hS hdep
                have h7 : a.tmps.getD 7 undef = .pointer (some ⟨b, 0, none⟩) := hst.out 7 (by kernel_rfl)
                have h97 : a.tmps.getD 97 undef = .bool false := hdep 97 (by kernel_rfl)
                refine ⟨⟨97, by kernel_rfl, h97⟩, ?_⟩
                clear h97
                have g7 := gd h7
                go_simp
                exact Goes.same hS rfl
              refine EachOp.cons ?_ ?_
              · intro a u hst hS hdep
                have h98 : a.tmps.getD 98 undef = .pointer (some ⟨b, 0, none⟩) := hdep 98 (by kernel_rfl)
                have h97 : a.tmps.getD 97 undef = .bool false := hdep 97 (by kernel_rfl)
                refine ⟨⟨97, by kernel_rfl, h97⟩, ?_⟩
                clear h97
                have g98 := gd h98
                go_simp
                refine (pall_ok (HPA.out u hS)).mono ?_
                rintro e u' ⟨A, n, c, rfl, hx, hn, hb'⟩
                exact Goes.next (kp_trans hS hb') hb' ⟨A, n, c, rfl, hx, hn⟩
              refine EachOp.cons ?_ ?_
              · intro a u hst hS hdep
                have h9 : a.tmps.getD 9 undef = .pointer (some ⟨c, 0, none⟩) := hst.out 9 (by kernel_rfl)
                have h97 : a.tmps.getD 97 undef = .bool false := hdep 97 (by kernel_rfl)
                refine ⟨⟨97, by kernel_rfl, h97⟩, ?_⟩
                clear h97
                have g9 := gd h9
                go_simp
                exact Goes.same hS rfl
              refine EachOp.cons ?_ ?_
              · intro a u hst hS hdep
                have h100 : a.tmps.getD 100 undef = .pointer (some ⟨c, 0, none⟩) := hdep 100 (by kernel_rfl)
                have h97 : a.tmps.getD 97 undef = .bool false := hdep 97 (by kernel_rfl)
                refine ⟨⟨97, by kernel_rfl, h97⟩, ?_⟩
                clear h97
                have g100 := gd h100
                go_simp
                exact Goes.same hS rfl
              refine EachOp.cons ?_ ?_
              · intro a u hst hS hdep
                have h101 : a.tmps.getD 101 undef = .pointer (some ⟨c, 0, none⟩) := hdep 101 (by kernel_rfl)
                have h97 : a.tmps.getD 97 undef = .bool false := hdep 97 (by kernel_rfl)
                refine ⟨⟨97, by kernel_rfl, h97⟩, ?_⟩
                clear h97
                have g101 := gd h101
                go_simp
                exact Goes.same hS rfl
              refine EachOp.cons ?_ ?_
              · intro a u hst hS hdep
                have h102 : a.tmps.getD 102 undef = .pointer (some ⟨c, 0, none⟩) := hdep 102 (by kernel_rfl)
                have h97 : a.tmps.getD 97 undef = .bool false := hdep 97 (by kernel_rfl)
                refine ⟨⟨97, by kernel_rfl, h97⟩, ?_⟩
                clear h97
                have g102 := gd h102
                have c103 := (HRN.out u hS).1
                go_simp
                exact Goes.same hS rfl
              refine EachOp.cons ?_ ?_
              · intro a u hst hS hdep
                obtain ⟨A99, n99, c99, h99, r99, z99⟩ := hdep 99 (by kernel_rfl)
                have h103 : a.tmps.getD 103 undef = .slice A9 n9 c9 := hdep 103 (by kernel_rfl)
                have h97 : a.tmps.getD 97 undef = .bool false := hdep 97 (by kernel_rfl)
                refine ⟨⟨97, by kernel_rfl, h97⟩, ?_⟩
                clear h97
                have g99 := gd h99
                have g103 := gd h103
                go_simp
                refine (wsame_ok A99 A9 n99 n9 c99 c9 l2 l2 u r99 (HRN.out u hS).2 (by omega) (by have := HN9.out; omega) true (Lib.hid (by simp))).mono ?_
                rintro e u' ⟨rfl, _, hb'⟩
                exact Goes.next (kp_trans hS hb') hb' rfl
              refine EachOp.cons ?_ ?_
              · intro a u hst hS hdep
                have h104 : a.tmps.getD 104 undef = .bool true := hdep 104 (by kernel_rfl)
                have h97 : a.tmps.getD 97 undef = .bool false := hdep 97 (by kernel_rfl)
                refine ⟨⟨97, by kernel_rfl, h97⟩, ?_⟩
                clear h97
                have g104 := gd h104
                go_simp
                exact Goes.same hS rfl
              refine EachOp.cons ?_ ?_
              · intro a u hst hS hdep
                have h97 : a.tmps.getD 97 undef = .bool false := hdep 97 (by kernel_rfl)
                have h105 : a.tmps.getD 105 undef = .bool false := hdep 105 (by kernel_rfl)
                refine ⟨trivial, ?_⟩
                have g97 := gd h97
                have g105 := gd h105
                go_simp
                exact Goes.same hS rfl
              refine EachOp.cons ?_ ?_
              · intro a u hst hS hdep
                have h106 : a.tmps.getD 106 undef = .bool false := hdep 106 (by kernel_rfl)
                refine ⟨trivial, ?_⟩
                have g106 := gd h106
                go_simp
                exact Goes.same hS rfl
              refine EachOp.cons ?_ ?_
              · intro a u hst hS hdep
                have h7 : a.tmps.getD 7 undef = .pointer (some ⟨b, 0, none⟩) := hst.out 7 (by kernel_rfl)
                have h107 : a.tmps.getD 107 undef = .bool false := hdep 107 (by kernel_rfl)
                refine ⟨⟨107, by kernel_rfl, h107⟩, ?_⟩
                clear h107
                have g7 := gd h7
                go_simp
                exact Goes.same hS rfl
              refine EachOp.cons ?_ ?_
              · intro a u hst hS hdep
                have h2 : a.tmps.getD 2 undef = .int .i64 z := hst.out 2 (by kernel_rfl)
                have h107 : a.tmps.getD 107 undef = .bool false := hdep 107 (by kernel_rfl)
                refine ⟨⟨107, by kernel_rfl, h107⟩, ?_⟩
                clear h107
                have g2 := gd h2
                go_simp
                exact Goes.same hS rfl
              refine EachOp.cons ?_ ?_
              · intro a u hst hS hdep
                have h108 : a.tmps.getD 108 undef = .pointer (some ⟨b, 0, none⟩) := hdep 108 (by kernel_rfl)
                have h109 : a.tmps.getD 109 undef = .int .i64 z := hdep 109 (by kernel_rfl)
                have h107 : a.tmps.getD 107 undef = .bool false := hdep 107 (by kernel_rfl)
                refine ⟨⟨107, by kernel_rfl, h107⟩, ?_⟩
                clear h107
                have g108 := gd h108
                have g109 := gd h109
                go_simp
                have h0 := pat_ok z (HPA.out u hS)
                rw [← HP2.out] at h0
                refine h0.mono ?_
                rintro e u' ⟨rfl, _, hb'⟩
                exact Goes.next (kp_trans hS hb') hb' rfl
              refine EachOp.cons ?_ ?_
              · intro a u hst hS hdep
                have h9 : a.tmps.getD 9 undef = .pointer (some ⟨c, 0, none⟩) := hst.out 9 (by kernel_rfl)
                have h107 : a.tmps.getD 107 undef = .bool false := hdep 107 (by kernel_rfl)
                refine ⟨⟨107, by kernel_rfl, h107⟩, ?_⟩
                clear h107
                have g9 := gd h9
                go_simp
                exact Goes.same hS rfl
              refine EachOp.cons ?_ ?_
              · intro a u hst hS hdep
                have h2 : a.tmps.getD 2 undef = .int .i64 z := hst.out 2 (by kernel_rfl)
                have h107 : a.tmps.getD 107 undef = .bool false := hdep 107 (by kernel_rfl)
                refine ⟨⟨107, by kernel_rfl, h107⟩, ?_⟩
                clear h107
                have g2 := gd h2
                go_simp
                exact Goes.same hS rfl
              refine EachOp.cons ?_ ?_
              · intro a u hst hS hdep
                have h111 : a.tmps.getD 111 undef = .pointer (some ⟨c, 0, none⟩) := hdep 111 (by kernel_rfl)
                have h112 : a.tmps.getD 112 undef = .int .i64 z := hdep 112 (by kernel_rfl)
                have h107 : a.tmps.getD 107 undef = .bool false := hdep 107 (by kernel_rfl)
                refine ⟨⟨107, by kernel_rfl, h107⟩, ?_⟩
                clear h107
                have g111 := gd h111
                have g112 := gd h112
                go_simp
                have h0 := rat_ok z (HRA.out u hS)
                rw [← HP2.out] at h0
                refine h0.mono ?_
                rintro e u' ⟨rfl, rfl⟩
                exact Goes.same hS rfl
              refine EachOp.cons ?_ ?_
              · intro a u hst hS hdep
                have h110 : a.tmps.getD 110 undef = .int .i64 p2 := hdep 110 (by kernel_rfl)
                have h113 : a.tmps.getD 113 undef = .int .i64 p2 := hdep 113 (by kernel_rfl)
                have h107 : a.tmps.getD 107 undef = .bool false := hdep 107 (by kernel_rfl)
                refine ⟨⟨107, by kernel_rfl, h107⟩, ?_⟩
                clear h107
                have g110 := gd h110
                have g113 := gd h113
                go_simp
                exact Goes.same hS rfl
              refine EachOp.cons ?_ ?_
              · intro a u hst hS hdep
                have h107 : a.tmps.getD 107 undef = .bool false := hdep 107 (by kernel_rfl)
                have h114 : a.tmps.getD 114 undef = .bool false := hdep 114 (by kernel_rfl)
                refine ⟨trivial, ?_⟩
                have g107 := gd h107
                have g114 := gd h114
                go_simp
                exact Goes.same hS rfl
              refine EachOp.cons ?_ ?_
              · intro a u hst hS hdep
                have h115 : a.tmps.getD 115 undef = .bool false := hdep 115 (by kernel_rfl)
                refine ⟨trivial, ?_⟩
                have g115 := gd h115
                go_simp
                exact Goes.same hS rfl
              refine EachOp.cons ?_ ?_
              · intro a u hst hS hdep
                have h7 : a.tmps.getD 7 undef = .pointer (some ⟨b, 0, none⟩) := hst.out 7 (by kernel_rfl)
                have h116 : a.tmps.getD 116 undef = .bool false := hdep 116 (by kernel_rfl)
                refine ⟨⟨116, by kernel_rfl, h116⟩, ?_⟩
                clear h116
                have g7 := gd h7
                go_simp
                exact Goes.same hS rfl
              refine EachOp.cons ?_ ?_
              · intro a u hst hS hdep
                have h12 : a.tmps.getD 12 undef = .pointer (some ⟨wr.heap.size, 0, none⟩) := hst.out 12 (by kernel_rfl)
                have h116 : a.tmps.getD 116 undef = .bool false := hdep 116 (by kernel_rfl)
                refine ⟨⟨116, by kernel_rfl, h116⟩, ?_⟩
                clear h116
                have g12 := gd h12
                go_simp
                exact Goes.same hS rfl
              refine EachOp.cons ?_ ?_
              · intro a u hst hS hdep
                have h118 : a.tmps.getD 118 undef = .pointer (some ⟨wr.heap.size, 1, none⟩) := hdep 118 (by kernel_rfl)
                have h116 : a.tmps.getD 116 undef = .bool false := hdep 116 (by kernel_rfl)
                refine ⟨⟨116, by kernel_rfl, h116⟩, ?_⟩
                clear h116
                have g118 := gd h118
                have c119 := HCU.out u hS
                go_simp
                exact Goes.same hS rfl
              refine EachOp.cons ?_ ?_
              · intro a u hst hS hdep
                have h117 : a.tmps.getD 117 undef = .pointer (some ⟨b, 0, none⟩) := hdep 117 (by kernel_rfl)
                have h119 : a.tmps.getD 119 undef = .int .i64 x := hdep 119 (by kernel_rfl)
                have h116 : a.tmps.getD 116 undef = .bool false := hdep 116 (by kernel_rfl)
                refine ⟨⟨116, by kernel_rfl, h116⟩, ?_⟩
                clear h116
                have g117 := gd h117
                have g119 := gd h119
                go_simp
                have h0 := pat_ok x (HPA.out u hS)
                rw [← HP3.out] at h0
                refine h0.mono ?_
                rintro e u' ⟨rfl, _, hb'⟩
                exact Goes.next (kp_trans hS hb') hb' rfl
              refine EachOp.cons ?_ ?_
              · intro a u hst hS hdep
                have h9 : a.tmps.getD 9 undef = .pointer (some ⟨c, 0, none⟩) := hst.out 9 (by kernel_rfl)
                have h116 : a.tmps.getD 116 undef = .bool false := hdep 116 (by kernel_rfl)
                refine ⟨⟨116, by kernel_rfl, h116⟩, ?_⟩
                clear h116
                have g9 := gd h9
                go_simp
                exact Goes.same hS rfl
              refine EachOp.cons ?_ ?_
              · intro a u hst hS hdep
                have h12 : a.tmps.getD 12 undef = .pointer (some ⟨wr.heap.size, 0, none⟩) := hst.out 12 (by kernel_rfl)
                have h116 : a.tmps.getD 116 undef = .bool false := hdep 116 (by kernel_rfl)
                refine ⟨⟨116, by kernel_rfl, h116⟩, ?_⟩
                clear h116
                have g12 := gd h12
                go_simp
                exact Goes.same hS rfl
              refine EachOp.cons ?_ ?_
              · intro a u hst hS hdep
                have h122 : a.tmps.getD 122 undef = .pointer (some ⟨wr.heap.size, 1, none⟩) := hdep 122 (by kernel_rfl)
                have h116 : a.tmps.getD 116 undef = .bool false := hdep 116 (by kernel_rfl)
                refine ⟨⟨116, by kernel_rfl, h116⟩, ?_⟩
                clear h116
                have g122 := gd h122
                have c123 := HCU.out u hS
                go_simp
                exact Goes.same hS rfl
              refine EachOp.cons ?_ ?_
              · intro a u hst hS hdep
                have h121 : a.tmps.getD 121 undef = .pointer (some ⟨c, 0, none⟩) := hdep 121 (by kernel_rfl)
                have h123 : a.tmps.getD 123 undef = .int .i64 x := hdep 123 (by kernel_rfl)
                have h116 : a.tmps.getD 116 undef = .bool false := hdep 116 (by kernel_rfl)
                refine ⟨⟨116, by kernel_rfl, h116⟩, ?_⟩
                clear h116
                have g121 := gd h121
                have g123 := gd h123
                go_simp
                have h0 := rat_ok x (HRA.out u hS)
                rw [← HP3.out] at h0
                refine h0.mono ?_
                rintro e u' ⟨rfl, rfl⟩
                exact Goes.same hS rfl
              refine EachOp.cons ?_ ?_
              · intro a u hst hS hdep
                have h120 : a.tmps.getD 120 undef = .int .i64 p3 := hdep 120 (by kernel_rfl)
                have h124 : a.tmps.getD 124 undef = .int .i64 p3 := hdep 124 (by kernel_rfl)
                have h116 : a.tmps.getD 116 undef = .bool false := hdep 116 (by kernel_rfl)
                refine ⟨⟨116, by kernel_rfl, h116⟩, ?_⟩
                clear h116
                have g120 := gd h120
                have g124 := gd h124
                go_simp
                exact Goes.same hS rfl
              refine EachOp.cons ?_ ?_
              · intro a u hst hS hdep
                have h116 : a.tmps.getD 116 undef = .bool false := hdep 116 (by kernel_rfl)
                have h125 : a.tmps.getD 125 undef = .bool false := hdep 125 (by kernel_rfl)
                refine ⟨trivial, ?_⟩
                have g116 := gd h116
                have g125 := gd h125
                go_simp
                exact Goes.same hS rfl
              exact EachOp.nil
            · intro a u hst hS hdep
              have h95 : a.tmps.getD 95 undef = .bool true := hdep 95 (by kernel_rfl)
              have h96 : a.tmps.getD 96 undef = .bool false := hdep 96 (by kernel_rfl)
              have h97 : a.tmps.getD 97 undef = .bool false := hdep 97 (by kernel_rfl)
              have h98 : a.tmps.getD 98 undef = .pointer (some ⟨b, 0, none⟩) := hdep 98 (by kernel_rfl)
              obtain ⟨A99, n99, c99, h99, r99, z99⟩ := hdep 99 (by kernel_rfl)
              have h100 : a.tmps.getD 100 undef = .pointer (some ⟨c, 0, none⟩) := hdep 100 (by kernel_rfl)
              have h101 : a.tmps.getD 101 undef = .pointer (some ⟨c, 0, none⟩) := hdep 101 (by kernel_rfl)
              have h102 : a.tmps.getD 102 undef = .pointer (some ⟨c, 0, none⟩) := hdep 102 (by kernel_rfl)
              have h103 : a.tmps.getD 103 undef = .slice A9 n9 c9 := hdep 103 (by kernel_rfl)
              have h104 : a.tmps.getD 104 undef = .bool true := hdep 104 (by kernel_rfl)
              have h105 : a.tmps.getD 105 undef = .bool false := hdep 105 (by kernel_rfl)
              have h106 : a.tmps.getD 106 undef = .bool false := hdep 106 (by kernel_rfl)
              have h107 : a.tmps.getD 107 undef = .bool false := hdep 107 (by kernel_rfl)
              have h108 : a.tmps.getD 108 undef = .pointer (some ⟨b, 0, none⟩) := hdep 108 (by kernel_rfl)
              have h109 : a.tmps.getD 109 undef = .int .i64 z := hdep 109 (by kernel_rfl)
              have h110 : a.tmps.getD 110 undef = .int .i64 p2 := hdep 110 (by kernel_rfl)
              have h111 : a.tmps.getD 111 undef = .pointer (some ⟨c, 0, none⟩) := hdep 111 (by kernel_rfl)
              have h112 : a.tmps.getD 112 undef = .int .i64 z := hdep 112 (by kernel_rfl)
              have h113 : a.tmps.getD 113 undef = .int .i64 p2 := hdep 113 (by kernel_rfl)
              have h114 : a.tmps.getD 114 undef = .bool false := hdep 114 (by kernel_rfl)
              have h115 : a.tmps.getD 115 undef = .bool false := hdep 115 (by kernel_rfl)
              have h116 : a.tmps.getD 116 undef = .bool false := hdep 116 (by kernel_rfl)
              have h117 : a.tmps.getD 117 undef = .pointer (some ⟨b, 0, none⟩) := hdep 117 (by kernel_rfl)
              have h118 : a.tmps.getD 118 undef = .pointer (some ⟨wr.heap.size, 1, none⟩) := hdep 118 (by kernel_rfl)
              have h119 : a.tmps.getD 119 undef = .int .i64 x := hdep 119 (by kernel_rfl)
              have h120 : a.tmps.getD 120 undef = .int .i64 p3 := hdep 120 (by kernel_rfl)
              have h121 : a.tmps.getD 121 undef = .pointer (some ⟨c, 0, none⟩) := hdep 121 (by kernel_rfl)
              have h122 : a.tmps.getD 122 undef = .pointer (some ⟨wr.heap.size, 1, none⟩) := hdep 122 (by kernel_rfl)
              have h123 : a.tmps.getD 123 undef = .int .i64 x := hdep 123 (by kernel_rfl)
              have h124 : a.tmps.getD 124 undef = .int .i64 p3 := hdep 124 (by kernel_rfl)
              have h125 : a.tmps.getD 125 undef = .bool false := hdep 125 (by kernel_rfl)
              have h126 : a.tmps.getD 126 undef = .bool false := hdep 126 (by kernel_rfl)
              have hfr := hst.frame [(95, .bool true), (96, .bool false), (97, .bool false), (98, .pointer (some ⟨b, 0, none⟩)), (99, .slice A99 n99 c99), (100, .pointer (some ⟨c, 0, none⟩)), (101, .pointer (some ⟨c, 0, none⟩)), (102, .pointer (some ⟨c, 0, none⟩)), (103, .slice A9 n9 c9), (104, .bool true), (105, .bool false), (106, .bool false), (107, .bool false), (108, .pointer (some ⟨b, 0, none⟩)), (109, .int .i64 z), (110, .int .i64 p2), (111, .pointer (some ⟨c, 0, none⟩)), (112, .int .i64 z), (113, .int .i64 p2), (114, .bool false), (115, .bool false), (116, .bool false), (117, .pointer (some ⟨b, 0, none⟩)), (118, .pointer (some ⟨wr.heap.size, 1, none⟩)), (119, .int .i64 x), (120, .int .i64 p3), (121, .pointer (some ⟨c, 0, none⟩)), (122, .pointer (some ⟨wr.heap.size, 1, none⟩)), (123, .int .i64 x), (124, .int .i64 p3), (125, .bool false), (126, .bool false)] (by kernel_rfl) ⟨h95, h96, h97, h98, h99, h100, h101, h102, h103, h104, h105, h106, h107, h108, h109, h110, h111, h112, h113, h114, h115, h116, h117, h118, h119, h120, h121, h122, h123, h124, h125, h126, trivial⟩
              clear hst hdep h95 h96 h97 h98 h99 h100 h101 h102 h103 h104 h105 h106 h107 h108 h109 h110 h111 h112 h113 h114 h115 h116 h117 h118 h119 h120 h121 h122 h123 h124 h125 h126
              subst hfr
              simp only [List.foldl_cons, List.foldl_nil, List.setIfInBounds_toArray, List.set_cons_zero, List.set_cons_succ]
              have HDU : Hid (Duo W (PW b m l2) (RW c m l2) noneB u) := Lib.hid ((HDY.out.less fun _ h => h.elim).next hS)
              clear hS HDY HPA HRA HRN HN9 HCU HP2 HP3 r99 z99
              go_wp2_with fail
              go_roundw
              case rel => exact ⟨k + 1, l2, by omega, by go_num, HDU⟩
              case measure => simp [intOf]; omega
    · obtain rfl : k = l1 := by omega
      go_wp2_with fail
      go_ret
      exact ⟨rfl, hD.out.low⟩
end Go.Proofs.Ytijemohcengmjaa
