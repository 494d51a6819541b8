/-
  ViewTells, of layer 14: the walk, out of what is asked of the project's view.
-/
import Derived.Test.YtpmkaceeomnijaaViA
import Derived.Test.YtpmkaceeomnijaaReg5
namespace Go.Proofs.Ytpmkaceeomnijaa
open Go.RowKit
set_option maxRecDepth 100000

theorem Solo.make3 {w0 w w' : World} {X : Thing} {N S : Nat → Prop} (hl : Below w0.heap.size w0 w) (hn : ∀ k, N k → k < w.heap.size) (hx : X.p S w') (hS : ∀ k, S k → w.heap.size ≤ k) (hb : Below w.heap.size w w') : Solo w0 X N w' := by
  have hz := hl.size
  exact ⟨⟨S, hx, fun k hk => ⟨by have := hS k hk; omega, fun h => by have := hS k hk; have := hn k h; omega⟩⟩, hl.trans (hb.mono hz), fun k h => Nat.lt_of_lt_of_le (hn k h) hb.size⟩
theorem Solo.duo3 {w0 w w' : World} {X Y : Thing} {N T : Nat → Prop} (h : Solo w0 X N w) (hy : Y.p T w') (hT : ∀ k, T k → w.heap.size ≤ k) (hb : Below w.heap.size w w') : Duo w0 X Y N w' := by
  obtain ⟨⟨S, h1, h2⟩, h3, h4⟩ := h
  have hz := h3.size
  exact ⟨⟨S, T, Thing.next h1 hb, hy, fun k hk hk2 => by have := X.lt h1 k hk; have := hT k hk2; omega, fun k hk => hk.elim (h2 k) fun hk => ⟨by have := hT k hk; omega, fun hN => by have := hT k hk; have := h4 k hN; omega⟩⟩, h3.trans (hb.mono hz), fun k hk => Nat.lt_of_lt_of_le (h4 k hk) hb.size⟩
set_option maxHeartbeats 64000000 in
theorem viewtells_walk {X : Nat → Vw → Thing} (C : ViewC X) (pr : Int) (A1 : Option Addr) (l1 c1 : Nat) (ts : List Pm) (te tp ue up ep pl : Int) (W : World) (hpr : IsI pr) (r1 : PMR W A1 l1 ts) (hy : ∀ x ∈ ts, IsU x.e ∧ IsU x.c ∧ IsI x.p) (hte : IsU te) (htp : IsU tp) (hue : IsU ue) (hup : IsU up) (hep : IsU ep) (hpl : IsU pl) :
    Calls Try.prog 3 #[.int .i64 pr, .slice A1 l1 c1, .agg #[.int .u64 te, .int .u64 tp], .agg #[.int .u64 ue, .int .u64 up], .int .u64 ep, .int .u64 pl] W fun e w' => e = .returned (.bool true) ∧ Below W.heap.size W w' := by
  have HC := Lib.hid C
  obtain ⟨w0, hw0⟩ : ∃ u, (W.alloc (.cells #[.int .u64 te, .int .u64 tp] 25)).alloc (.cells #[.int .u64 ue, .int .u64 up] 25) = u := ⟨_, rfl⟩
  obtain ⟨tb, htb⟩ : ∃ x, W.heap.size = x := ⟨_, rfl⟩
  obtain ⟨ub, hub⟩ : ∃ x, tb + 1 = x := ⟨_, rfl⟩
  have k0 : Below W.heap.size W w0 := hw0 ▸ kp_alloc (kp_new _ _) _
  have b0 : w0.heap[tb]? = some (.cells #[.int .u64 te, .int .u64 tp] 25 (0, 0)) := by
    rw [← htb, ← hw0, heap_alloc_old _ _ (by simp)]
    exact heap_alloc_new W _
  have c0 : w0.heap[ub]? = some (.cells #[.int .u64 ue, .int .u64 up] 25 (0, 0)) := by
    rw [← hub, ← htb, ← hw0]
    have := heap_alloc_new (W.alloc (.cells #[.int .u64 te, .int .u64 tp] 25)) (.cells #[.int .u64 ue, .int .u64 up] 25)
    rwa [World.size_alloc] at this
  have HAW := Lib.hid (awake14_ok C w0)
  have R1 := Lib.hid r1
  have HL := Lib.hid r1.len
  have HY := Lib.hid hy
  have HPR := Lib.hid hpr
  have HU := Lib.hid (And.intro hte (And.intro htp (And.intro hue (And.intro hup (And.intro hep hpl)))))
  have HW0 := Lib.hid hw0
  have HK0 := Lib.hid k0
  have HB0 := Lib.hid b0
  have HC0 := Lib.hid c0
  have HTB := Lib.hid htb
  have HUB := Lib.hid hub
  have HNW : Hid (∀ k, (fun k => k = tb ∨ k = ub ∨ noneB k) k → W.heap.size ≤ k) := Lib.hid fun k hk => by
    rcases hk with rfl | rfl | hk
    · omega
    · omega
    · exact hk.elim
  clear r1 C hy hpr hte htp hue hup hep hpl hw0 k0 b0 c0 htb hub
  have HKR : Hid (∀ (i : Nat) (u : World), KeepT i u u) := Lib.hid fun _ _ => trivial
  go_enter Try.func3, Try.ntmps3
  go_wp2_with fail
  rw [HW0.out, HTB.out, HUB.out]
  refine HAW.out.mono ?_
  rintro e w1 ⟨rfl, k1⟩
  have HK1 := Lib.hid (HK0.out.trans (k1.mono HK0.out.size))
  have HB1 := Lib.hid (keepO HB0.out k1)
  have HC1 := Lib.hid (keepO HC0.out k1)
  clear HAW HW0 HK0 HB0 HC0 k1
  by_cases hbig : 100 < l1
  · have hb2 : (100 : Int) < (l1 : Int) := by omega
    go_wp2_with fail
    go_ret
    exact ⟨rfl, HK1.out⟩
  have hb2 : ¬ (100 : Int) < (l1 : Int) := by omega
  have hl1 : l1 ≤ 100 := by omega
  have HT := Lib.hid (HC.out.new pr w1 HPR.out)
  have HV0 := Lib.hid (VwI.new HPR.out)
  clear hbig
  go_wp2_with fail
  refine HT.out.mono ?_
  rintro e w2 ⟨b, rfl, ⟨S, x2, y2⟩, k2⟩
  clear HT
  have HB2 := Lib.hid (keepO HB1.out k2)
  have HC2 := Lib.hid (keepO HC1.out k2)
  have HS2 : Hid (Solo W (X b (newVw pr)) (fun k => k = tb ∨ k = ub ∨ noneB k) w2) := Lib.hid (Solo.make3 HK1.out (fun k hk => by
    rcases hk with rfl | rfl | hk
    · exact (Array.getElem?_eq_some_iff.1 HB1.out).1
    · exact (Array.getElem?_eq_some_iff.1 HC1.out).1
    · exact hk.elim) x2 y2 k2)
  have HT := Lib.hid (rnew14_ok pr w2)
  clear x2 y2 k2 HK1 HB1 HC1
  go_wp2_with fail
  refine HT.out.mono ?_
  rintro e w3 ⟨rfl, x3, k3⟩
  clear HT
  obtain ⟨r, hr⟩ : ∃ x, w2.heap.size = x := ⟨_, rfl⟩
  have HD3 : Hid (Duo W (X b (newVw pr)) (RV r (newVw pr)) (fun k => k = tb ∨ k = ub ∨ noneB k) w3) := Lib.hid (hr ▸ HS2.out.duo3 x3 (fun k hk => Nat.le_of_eq hk.symm) k3)
  have HB3 := Lib.hid (keepO HB2.out k3)
  have HC3 := Lib.hid (keepO HC2.out k3)
  have HRE := Lib.hid hr
  clear x3 k3 HS2 HB2 HC2 hr
  go_wp2_with fail
  rw [HRE.out]
  go_loopw [15] (fun i wr => ∃ (k : Nat) (v : Vw), k ≤ l1 + 1 ∧ i = .int .i64 k ∧ Hid (VwI k v) ∧ Hid (Duo W (X b v) (RV r v) (fun k => k = tb ∨ k = ub ∨ noneB k) wr) ∧ Hid (wr.heap[tb]? = some (.cells #[.int .u64 te, .int .u64 tp] 25 (0, 0))) ∧ Hid (wr.heap[ub]? = some (.cells #[.int .u64 ue, .int .u64 up] 25 (0, 0)))) (fun i _ => l1 + 1 - (intOf i).toNat)
  case atStart => exact ⟨0, newVw pr, Nat.zero_le _, rfl, HV0, HD3, HB3, HC3⟩
  case round =>
    obtain ⟨k, v, hk, rfl, hv, hd, hbt, hbu⟩ := hrel
    clear HV0 HD3 HB3 HC3
    by_cases hlt : k ≤ l1
    · obtain ⟨⟨ae, ap⟩, ha⟩ : ∃ a, bringF v ⟨te, tp⟩ = a := ⟨_, rfl⟩
      obtain ⟨is, his⟩ : ∃ a, bringB v ⟨te, tp⟩ = a := ⟨_, rfl⟩
      obtain ⟨cv, hcv⟩ : ∃ a, coversB v ⟨te, tp⟩ ep pl = a := ⟨_, rfl⟩
      have hvl : v.l.length ≤ 1000 := Nat.le_trans hv.out.len (by omega)
      have HBR : Hid (∀ u, Below wr.heap.size wr u → Calls Try.prog 9 #[.pointer (some ⟨b, 0, none⟩), .agg #[.int .u64 te, .int .u64 tp]] u fun e w' => e = .returned (.tuple #[.agg #[.int .u64 ae, .int .u64 ap], .bool is]) ∧ Below u.heap.size u w') := Lib.hid fun u hu => by
        obtain ⟨S, T, h1, _⟩ := hd.out.at_
        have := HC.out.bring b v k ⟨te, tp⟩ S u (Thing.next h1 hu) hv.out (by omega) HU.out.1 HU.out.2.1
        rw [ha, his] at this
        exact this
      have HRR : Hid (∀ u, Below wr.heap.size wr u → Calls Try.prog 10 #[.pointer (some ⟨r, 0, none⟩), .agg #[.int .u64 te, .int .u64 tp]] u fun e w' => e = .returned (.tuple #[.agg #[.int .u64 ae, .int .u64 ap], .bool is]) ∧ Below u.heap.size u w') := Lib.hid fun u hu => by
        obtain ⟨S, T, _, h1, _⟩ := hd.out.at_
        have := rbring_ok ⟨te, tp⟩ (Thing.next h1 hu) hvl
        rw [ha, his] at this
        exact this
      have HCV : Hid (∀ u, Below wr.heap.size wr u → Calls Try.prog 11 #[.pointer (some ⟨b, 0, none⟩), .agg #[.int .u64 te, .int .u64 tp], .int .u64 ep, .int .u64 pl] u fun e w' => e = .returned (.bool cv) ∧ Below u.heap.size u w') := Lib.hid fun u hu => by
        obtain ⟨S, T, h1, _⟩ := hd.out.at_
        have := HC.out.covers b v k ⟨te, tp⟩ ep pl S u (Thing.next h1 hu) hv.out (by omega) HU.out.1 HU.out.2.1 HU.out.2.2.2.2.1 HU.out.2.2.2.2.2
        rw [hcv] at this
        exact this
      have HRC : Hid (∀ u, Below wr.heap.size wr u → Calls Try.prog 12 #[.pointer (some ⟨r, 0, none⟩), .agg #[.int .u64 te, .int .u64 tp], .int .u64 ep, .int .u64 pl] u fun e w' => e = .returned (.bool cv) ∧ Below u.heap.size u w') := Lib.hid fun u hu => by
        obtain ⟨S, T, _, h1, _⟩ := hd.out.at_
        have := rcovers_ok ⟨te, tp⟩ ep pl (Thing.next h1 hu) hvl
        rw [hcv] at this
        exact this
      have HEP : Hid (∀ u, Below wr.heap.size wr u → Calls Try.prog 13 #[.pointer (some ⟨b, 0, none⟩)] u fun e w' => e = .returned (.int .u64 v.ep) ∧ Below u.heap.size u w') := Lib.hid fun u hu => by
        obtain ⟨S, T, h1, _⟩ := hd.out.at_
        exact HC.out.epoch b v k S u (Thing.next h1 hu) hv.out
      have HPY : Hid (∀ u, Below wr.heap.size wr u → Calls Try.prog 14 #[.pointer (some ⟨b, 0, none⟩)] u fun e w' => e = .returned (.int .i64 v.pr) ∧ Below u.heap.size u w') := Lib.hid fun u hu => by
        obtain ⟨S, T, h1, _⟩ := hd.out.at_
        exact HC.out.primary b v k S u (Thing.next h1 hu) hv.out
      have HRT : Hid (∀ u, Below wr.heap.size wr u → u.cell? ⟨r, 0, none⟩ = some (.int .u64 v.ep) ∧ u.cell? ⟨r, 1, none⟩ = some (.int .i64 v.pr)) := Lib.hid fun u hu => by
        obtain ⟨S, T, _, h1, _⟩ := hd.out.at_
        exact RV.tops (Thing.next h1 hu)
      clear ha his hcv
      have hkl : (k : Int) ≤ (l1 : Int) := by omega
      obtain ⟨q0, _⟩ := cellsAt hbt.out 0 (v := .int .u64 te) rfl
      obtain ⟨q1, _⟩ := cellsAt hbt.out 1 (v := .int .u64 tp) rfl
      go_wp2_with fail
      refine (HBR.out wr (Below.refl _ _)).mono ?_
      rintro e w4 ⟨rfl, k4⟩
      have HB4 := Lib.hid (keepO hbt.out k4)
      obtain ⟨q0, _⟩ := cellsAt HB4.out 0 (v := .int .u64 te) rfl
      obtain ⟨q1, _⟩ := cellsAt HB4.out 1 (v := .int .u64 tp) rfl
      have hlb : tb < w4.heap.size := (Array.getElem?_eq_some_iff.1 HB4.out).1
      obtain ⟨w5, hw5⟩ : ∃ u, w4.alloc (.cells #[.int .u64 ae, .int .u64 ap] 25) = u := ⟨_, rfl⟩
      obtain ⟨xb, hxb⟩ : ∃ x, w4.heap.size = x := ⟨_, rfl⟩
      have HX5 : Hid (w5.heap[xb]? = some (.cells #[.int .u64 ae, .int .u64 ap] 25 (0, 0))) := Lib.hid (by rw [← hxb, ← hw5]; exact heap_alloc_new w4 _)
      have HK5 : Hid (Below wr.heap.size wr w5) := Lib.hid (k4.trans ((hw5 ▸ kp_new w4 _ : Below w4.heap.size w4 w5).mono k4.size))
      have HW5 := Lib.hid hw5
      have HXB := Lib.hid hxb
      clear k4 HB4 hw5 hxb
      go_wp2_with fail
      rw [HW5.out, HXB.out]
      refine (HRR.out w5 HK5.out).mono ?_
      rintro e w6 ⟨rfl, k6⟩
      obtain ⟨w7, hw7⟩ : ∃ u, w6.alloc (.cells #[.int .u64 ae, .int .u64 ap] 33) = u := ⟨_, rfl⟩
      obtain ⟨yb, hyb⟩ : ∃ x, w6.heap.size = x := ⟨_, rfl⟩
      have HY7 : Hid (w7.heap[yb]? = some (.cells #[.int .u64 ae, .int .u64 ap] 33 (0, 0))) := Lib.hid (by rw [← hyb, ← hw7]; exact heap_alloc_new w6 _)
      have q7 : Below w5.heap.size w5 w7 := k6.trans ((hw7 ▸ kp_new w6 _ : Below w6.heap.size w6 w7).mono k6.size)
      have HX7 := Lib.hid (keepO HX5.out q7)
      have HK7 := Lib.hid (HK5.out.trans (q7.mono HK5.out.size))
      have HW7 := Lib.hid hw7
      have HYB := Lib.hid hyb
      have HDD : Hid (∀ u, Below w7.heap.size w7 u → (u.cell? ⟨tb, 0, none⟩ = some (.int .u64 te) ∧ u.cell? ⟨tb, 1, none⟩ = some (.int .u64 tp)) ∧ (u.cell? ⟨xb, 0, none⟩ = some (.int .u64 ae) ∧ u.cell? ⟨xb, 1, none⟩ = some (.int .u64 ap)) ∧ (u.cell? ⟨yb, 0, none⟩ = some (.int .u64 ae) ∧ u.cell? ⟨yb, 1, none⟩ = some (.int .u64 ap)) ∧ Below wr.heap.size wr u) := Lib.hid fun u hu => by
        have hwu := HK7.out.trans (hu.mono HK7.out.size)
        have e1 := keepO hbt.out hwu
        have e2 := keepO HX7.out hu
        have e3 := keepO HY7.out hu
        exact ⟨⟨(cellsAt e1 0 rfl).1, (cellsAt e1 1 rfl).1⟩, ⟨(cellsAt e2 0 rfl).1, (cellsAt e2 1 rfl).1⟩, ⟨(cellsAt e3 0 rfl).1, (cellsAt e3 1 rfl).1⟩, hwu⟩
      clear k6 HX5 HK5 q7 hw7 hyb HW5 HXB HBR HRR q0 q1 hlb
      go_wp2_with fail
      rw [HW7.out, HYB.out]
      clear HW7 HYB
      refine wp_region_specs (S := fun u => Below w7.heap.size w7 u) (Sp := [(47, Stb.eq (.agg #[.int .u64 ae, .int .u64 ap])), (48, Stb.eq (.agg #[.int .u64 ae, .int .u64 ap])), (49, Stb.eq (.bool false)), (50, Stb.eq (.bool false)), (51, Stb.eq (.bool is)), (52, Stb.eq (.bool is)), (53, Stb.eq (.bool false)), (54, Stb.eq (.bool false)), (55, Stb.eq (.bool false)), (56, Stb.eq (.pointer (some ⟨b, 0, none⟩))), (57, Stb.eq (.agg #[.int .u64 te, .int .u64 tp])), (58, Stb.eq (.int .u64 ep)), (59, Stb.eq (.int .u64 pl)), (60, Stb.eq (.bool cv)), (61, Stb.eq (.pointer (some ⟨r, 0, none⟩))), (62, Stb.eq (.agg #[.int .u64 te, .int .u64 tp])), (63, Stb.eq (.int .u64 ep)), (64, Stb.eq (.int .u64 pl)), (65, Stb.eq (.bool cv)), (66, Stb.eq (.bool false)), (67, Stb.eq (.bool false)), (68, Stb.eq (.bool false)), (69, Stb.eq (.pointer (some ⟨b, 0, none⟩))), (70, Stb.eq (.int .u64 v.ep)), (71, Stb.eq (.pointer (some ⟨r, 0, none⟩))), (72, Stb.eq (.pointer (some ⟨r, 0, none⟩))), (73, Stb.eq (.pointer (some ⟨r, 0, none⟩))), (74, Stb.eq (.int .u64 v.ep)), (75, Stb.eq (.bool false)), (76, Stb.eq (.bool false)), (77, Stb.eq (.bool false)), (78, Stb.eq (.pointer (some ⟨b, 0, none⟩))), (79, Stb.eq (.int .i64 v.pr)), (80, Stb.eq (.pointer (some ⟨r, 0, none⟩))), (81, Stb.eq (.pointer (some ⟨r, 0, none⟩))), (82, Stb.eq (.pointer (some ⟨r, 1, none⟩))), (83, Stb.eq (.int .i64 v.pr)), (84, Stb.eq (.bool false)), (85, Stb.eq (.bool false))]) (by kernel_rfl) (by kernel_rfl) (kp_drewN _ 1) ?_ ?_
      · refine EachOp.cons ?_ ?_
        · intro a u hst hS hdep
          have h16 : a.tmps.getD 16 undef = .pointer (some ⟨xb, 0, none⟩) := hst.out 16 (by kernel_rfl)
          refine ⟨trivial, ?_⟩
          have g16 := gd h16
          obtain ⟨⟨x0, x1⟩, ⟨y0, y1⟩, ⟨z0, z1⟩, hwu⟩ := HDD.out u hS
          go_simp
          exact Goes.same hS rfl
        refine EachOp.cons ?_ ?_
        · intro a u hst hS hdep
          have h18 : a.tmps.getD 18 undef = .pointer (some ⟨yb, 0, none⟩) := hst.out 18 (by kernel_rfl)
          refine ⟨trivial, ?_⟩
          have g18 := gd h18
          obtain ⟨⟨x0, x1⟩, ⟨y0, y1⟩, ⟨z0, z1⟩, hwu⟩ := HDD.out u hS
          go_simp
          exact Goes.same hS rfl
        refine EachOp.cons ?_ ?_
        · intro a u hst hS hdep
          have h47 : a.tmps.getD 47 undef = .agg #[.int .u64 ae, .int .u64 ap] := hdep 47 (by kernel_rfl)
          have h48 : a.tmps.getD 48 undef = .agg #[.int .u64 ae, .int .u64 ap] := hdep 48 (by kernel_rfl)
          refine ⟨trivial, ?_⟩
          have g47 := gd h47
          have g48 := gd h48
          go_simp
          exact Goes.same hS rfl
        refine EachOp.cons ?_ ?_
        · intro a u hst hS hdep
          have h49 : a.tmps.getD 49 undef = .bool false := hdep 49 (by kernel_rfl)
          refine ⟨trivial, ?_⟩
          have g49 := gd h49
          go_simp
          exact Goes.same hS rfl
        refine EachOp.cons ?_ ?_
        · intro a u hst hS hdep
          have h17 : a.tmps.getD 17 undef = .bool is := hst.out 17 (by kernel_rfl)
          have h50 : a.tmps.getD 50 undef = .bool false := hdep 50 (by kernel_rfl)
          refine ⟨⟨50, by kernel_rfl, h50⟩, ?_⟩
          clear h50
          have g17 := gd h17
          go_simp
          exact Goes.same hS rfl
        refine EachOp.cons ?_ ?_
        · intro a u hst hS hdep
          have h19 : a.tmps.getD 19 undef = .bool is := hst.out 19 (by kernel_rfl)
          have h50 : a.tmps.getD 50 undef = .bool false := hdep 50 (by kernel_rfl)
          refine ⟨⟨50, by kernel_rfl, h50⟩, ?_⟩
          clear h50
          have g19 := gd h19
          go_simp
          exact Goes.same hS rfl
        refine EachOp.cons ?_ ?_
        · intro a u hst hS hdep
          have h51 : a.tmps.getD 51 undef = .bool is := hdep 51 (by kernel_rfl)
          have h52 : a.tmps.getD 52 undef = .bool is := hdep 52 (by kernel_rfl)
          have h50 : a.tmps.getD 50 undef = .bool false := hdep 50 (by kernel_rfl)
          refine ⟨⟨50, by kernel_rfl, h50⟩, ?_⟩
          clear h50
          have g51 := gd h51
          have g52 := gd h52
          have hii : (is != is) = false := by simp
          go_simp
          exact Goes.same hS rfl
        refine EachOp.cons ?_ ?_
        · intro a u hst hS hdep
          have h50 : a.tmps.getD 50 undef = .bool false := hdep 50 (by kernel_rfl)
          have h53 : a.tmps.getD 53 undef = .bool false := hdep 53 (by kernel_rfl)
          refine ⟨trivial, ?_⟩
          have g50 := gd h50
          have g53 := gd h53
          go_simp
          exact Goes.same hS rfl
        refine EachOp.cons ?_ ?_
        · intro a u hst hS hdep
          have h54 : a.tmps.getD 54 undef = .bool false := hdep 54 (by kernel_rfl)
          refine ⟨trivial, ?_⟩
          have g54 := gd h54
          go_simp
          exact Goes.same hS rfl
        refine EachOp.cons ?_ ?_
        · intro a u hst hS hdep
          have h13 : a.tmps.getD 13 undef = .pointer (some ⟨b, 0, none⟩) := hst.out 13 (by kernel_rfl)
          have h55 : a.tmps.getD 55 undef = .bool false := hdep 55 (by kernel_rfl)
          refine ⟨⟨55, by kernel_rfl, h55⟩, ?_⟩
          clear h55
          have g13 := gd h13
          go_simp
          exact Goes.same hS rfl
        refine EachOp.cons ?_ ?_
        · intro a u hst hS hdep
          have h8 : a.tmps.getD 8 undef = .pointer (some ⟨tb, 0, none⟩) := hst.out 8 (by kernel_rfl)
          have h55 : a.tmps.getD 55 undef = .bool false := hdep 55 (by kernel_rfl)
          refine ⟨⟨55, by kernel_rfl, h55⟩, ?_⟩
          clear h55
          have g8 := gd h8
          obtain ⟨⟨x0, x1⟩, ⟨y0, y1⟩, ⟨z0, z1⟩, hwu⟩ := HDD.out u hS
          go_simp
          exact Goes.same hS rfl
        refine EachOp.cons ?_ ?_
        · intro a u hst hS hdep
          have h4 : a.tmps.getD 4 undef = .int .u64 ep := hst.out 4 (by kernel_rfl)
          have h55 : a.tmps.getD 55 undef = .bool false := hdep 55 (by kernel_rfl)
          refine ⟨⟨55, by kernel_rfl, h55⟩, ?_⟩
          clear h55
          have g4 := gd h4
          go_simp
          exact Goes.same hS rfl
        refine EachOp.cons ?_ ?_
        · intro a u hst hS hdep
          have h5 : a.tmps.getD 5 undef = .int .u64 pl := hst.out 5 (by kernel_rfl)
          have h55 : a.tmps.getD 55 undef = .bool false := hdep 55 (by kernel_rfl)
          refine ⟨⟨55, by kernel_rfl, h55⟩, ?_⟩
          clear h55
          have g5 := gd h5
          go_simp
          exact Goes.same hS rfl
        refine EachOp.cons ?_ ?_
        · intro a u hst hS hdep
          have h56 : a.tmps.getD 56 undef = .pointer (some ⟨b, 0, none⟩) := hdep 56 (by kernel_rfl)
          have h57 : a.tmps.getD 57 undef = .agg #[.int .u64 te, .int .u64 tp] := hdep 57 (by kernel_rfl)
          have h58 : a.tmps.getD 58 undef = .int .u64 ep := hdep 58 (by kernel_rfl)
          have h59 : a.tmps.getD 59 undef = .int .u64 pl := hdep 59 (by kernel_rfl)
          have h55 : a.tmps.getD 55 undef = .bool false := hdep 55 (by kernel_rfl)
          refine ⟨⟨55, by kernel_rfl, h55⟩, ?_⟩
          clear h55
          have g56 := gd h56
          have g57 := gd h57
          have g58 := gd h58
          have g59 := gd h59
          go_simp
          refine (HCV.out u (HDD.out u hS).2.2.2).mono ?_
          rintro e u' ⟨rfl, hb'⟩
          exact Goes.next (kp_trans hS hb') hb' rfl
        refine EachOp.cons ?_ ?_
        · intro a u hst hS hdep
          have h14 : a.tmps.getD 14 undef = .pointer (some ⟨r, 0, none⟩) := hst.out 14 (by kernel_rfl)
          have h55 : a.tmps.getD 55 undef = .bool false := hdep 55 (by kernel_rfl)
          refine ⟨⟨55, by kernel_rfl, h55⟩, ?_⟩
          clear h55
          have g14 := gd h14
          go_simp
          exact Goes.same hS rfl
        refine EachOp.cons ?_ ?_
        · intro a u hst hS hdep
          have h8 : a.tmps.getD 8 undef = .pointer (some ⟨tb, 0, none⟩) := hst.out 8 (by kernel_rfl)
          have h55 : a.tmps.getD 55 undef = .bool false := hdep 55 (by kernel_rfl)
          refine ⟨⟨55, by kernel_rfl, h55⟩, ?_⟩
          clear h55
          have g8 := gd h8
          obtain ⟨⟨x0, x1⟩, ⟨y0, y1⟩, ⟨z0, z1⟩, hwu⟩ := HDD.out u hS
          go_simp
          exact Goes.same hS rfl
        refine EachOp.cons ?_ ?_
        · intro a u hst hS hdep
          have h4 : a.tmps.getD 4 undef = .int .u64 ep := hst.out 4 (by kernel_rfl)
          have h55 : a.tmps.getD 55 undef = .bool false := hdep 55 (by kernel_rfl)
          refine ⟨⟨55, by kernel_rfl, h55⟩, ?_⟩
          clear h55
          have g4 := gd h4
          go_simp
          exact Goes.same hS rfl
        refine EachOp.cons ?_ ?_
        · intro a u hst hS hdep
          have h5 : a.tmps.getD 5 undef = .int .u64 pl := hst.out 5 (by kernel_rfl)
          have h55 : a.tmps.getD 55 undef = .bool false := hdep 55 (by kernel_rfl)
          refine ⟨⟨55, by kernel_rfl, h55⟩, ?_⟩
          clear h55
          have g5 := gd h5
          go_simp
          exact Goes.same hS rfl
        refine EachOp.cons ?_ ?_
        · intro a u hst hS hdep
          have h61 : a.tmps.getD 61 undef = .pointer (some ⟨r, 0, none⟩) := hdep 61 (by kernel_rfl)
          have h62 : a.tmps.getD 62 undef = .agg #[.int .u64 te, .int .u64 tp] := hdep 62 (by kernel_rfl)
          have h63 : a.tmps.getD 63 undef = .int .u64 ep := hdep 63 (by kernel_rfl)
          have h64 : a.tmps.getD 64 undef = .int .u64 pl := hdep 64 (by kernel_rfl)
          have h55 : a.tmps.getD 55 undef = .bool false := hdep 55 (by kernel_rfl)
          refine ⟨⟨55, by kernel_rfl, h55⟩, ?_⟩
          clear h55
          have g61 := gd h61
          have g62 := gd h62
          have g63 := gd h63
          have g64 := gd h64
          go_simp
          refine (HRC.out u (HDD.out u hS).2.2.2).mono ?_
          rintro e u' ⟨rfl, hb'⟩
          exact Goes.next (kp_trans hS hb') hb' rfl
        refine EachOp.cons ?_ ?_
        · intro a u hst hS hdep
          have h60 : a.tmps.getD 60 undef = .bool cv := hdep 60 (by kernel_rfl)
          have h65 : a.tmps.getD 65 undef = .bool cv := hdep 65 (by kernel_rfl)
          have h55 : a.tmps.getD 55 undef = .bool false := hdep 55 (by kernel_rfl)
          refine ⟨⟨55, by kernel_rfl, h55⟩, ?_⟩
          clear h55
          have g60 := gd h60
          have g65 := gd h65
          have hii : (cv != cv) = false := by simp
          go_simp
          exact Goes.same hS rfl
        refine EachOp.cons ?_ ?_
        · intro a u hst hS hdep
          have h55 : a.tmps.getD 55 undef = .bool false := hdep 55 (by kernel_rfl)
          have h66 : a.tmps.getD 66 undef = .bool false := hdep 66 (by kernel_rfl)
          refine ⟨trivial, ?_⟩
          have g55 := gd h55
          have g66 := gd h66
          go_simp
          exact Goes.same hS rfl
        refine EachOp.cons ?_ ?_
        · intro a u hst hS hdep
          have h67 : a.tmps.getD 67 undef = .bool false := hdep 67 (by kernel_rfl)
          refine ⟨trivial, ?_⟩
          have g67 := gd h67
          go_simp
          exact Goes.same hS rfl
        refine EachOp.cons ?_ ?_
        · intro a u hst hS hdep
          have h13 : a.tmps.getD 13 undef = .pointer (some ⟨b, 0, none⟩) := hst.out 13 (by kernel_rfl)
          have h68 : a.tmps.getD 68 undef = .bool false := hdep 68 (by kernel_rfl)
          refine ⟨⟨68, by kernel_rfl, h68⟩, ?_⟩
          clear h68
          have g13 := gd h13
          go_simp
          exact Goes.same hS rfl
        refine EachOp.cons ?_ ?_
        · intro a u hst hS hdep
          have h69 : a.tmps.getD 69 undef = .pointer (some ⟨b, 0, none⟩) := hdep 69 (by kernel_rfl)
          have h68 : a.tmps.getD 68 undef = .bool false := hdep 68 (by kernel_rfl)
          refine ⟨⟨68, by kernel_rfl, h68⟩, ?_⟩
          clear h68
          have g69 := gd h69
          go_simp
          refine (HEP.out u (HDD.out u hS).2.2.2).mono ?_
          rintro e u' ⟨rfl, hb'⟩
          exact Goes.next (kp_trans hS hb') hb' rfl
        refine EachOp.cons ?_ ?_
        · intro a u hst hS hdep
          have h14 : a.tmps.getD 14 undef = .pointer (some ⟨r, 0, none⟩) := hst.out 14 (by kernel_rfl)
          have h68 : a.tmps.getD 68 undef = .bool false := hdep 68 (by kernel_rfl)
          refine ⟨⟨68, by kernel_rfl, h68⟩, ?_⟩
          clear h68
          have g14 := gd h14
          go_simp
          exact Goes.same hS rfl
        refine EachOp.cons ?_ ?_
        · intro a u hst hS hdep
          have h71 : a.tmps.getD 71 undef = .pointer (some ⟨r, 0, none⟩) := hdep 71 (by kernel_rfl)
          have h68 : a.tmps.getD 68 undef = .bool false := hdep 68 (by kernel_rfl)
          refine ⟨⟨68, by kernel_rfl, h68⟩, ?_⟩
          clear h68
          have g71 := gd h71
          go_simp
          exact Goes.same hS rfl
        refine EachOp.cons ?_ ?_
        · intro a u hst hS hdep
          have h72 : a.tmps.getD 72 undef = .pointer (some ⟨r, 0, none⟩) := hdep 72 (by kernel_rfl)
          have h68 : a.tmps.getD 68 undef = .bool false := hdep 68 (by kernel_rfl)
          refine ⟨⟨68, by kernel_rfl, h68⟩, ?_⟩
          clear h68
          have g72 := gd h72
          go_simp
          exact Goes.same hS rfl
        refine EachOp.cons ?_ ?_
        · intro a u hst hS hdep
          have h73 : a.tmps.getD 73 undef = .pointer (some ⟨r, 0, none⟩) := hdep 73 (by kernel_rfl)
          have h68 : a.tmps.getD 68 undef = .bool false := hdep 68 (by kernel_rfl)
          refine ⟨⟨68, by kernel_rfl, h68⟩, ?_⟩
          clear h68
          have g73 := gd h73
          obtain ⟨g0, g1⟩ := HRT.out u (HDD.out u hS).2.2.2
          go_simp
          exact Goes.same hS rfl
        refine EachOp.cons ?_ ?_
        · intro a u hst hS hdep
          have h70 : a.tmps.getD 70 undef = .int .u64 v.ep := hdep 70 (by kernel_rfl)
          have h74 : a.tmps.getD 74 undef = .int .u64 v.ep := hdep 74 (by kernel_rfl)
          have h68 : a.tmps.getD 68 undef = .bool false := hdep 68 (by kernel_rfl)
          refine ⟨⟨68, by kernel_rfl, h68⟩, ?_⟩
          clear h68
          have g70 := gd h70
          have g74 := gd h74
          go_simp
          exact Goes.same hS rfl
        refine EachOp.cons ?_ ?_
        · intro a u hst hS hdep
          have h68 : a.tmps.getD 68 undef = .bool false := hdep 68 (by kernel_rfl)
          have h75 : a.tmps.getD 75 undef = .bool false := hdep 75 (by kernel_rfl)
          refine ⟨trivial, ?_⟩
          have g68 := gd h68
          have g75 := gd h75
          go_simp
          exact Goes.same hS rfl
        refine EachOp.cons ?_ ?_
        · intro a u hst hS hdep
          have h76 : a.tmps.getD 76 undef = .bool false := hdep 76 (by kernel_rfl)
          refine ⟨trivial, ?_⟩
          have g76 := gd h76
          go_simp
          exact Goes.same hS rfl
        refine EachOp.cons ?_ ?_
        · intro a u hst hS hdep
          have h13 : a.tmps.getD 13 undef = .pointer (some ⟨b, 0, none⟩) := hst.out 13 (by kernel_rfl)
          have h77 : a.tmps.getD 77 undef = .bool false := hdep 77 (by kernel_rfl)
          refine ⟨⟨77, by kernel_rfl, h77⟩, ?_⟩
          clear h77
          have g13 := gd h13
          go_simp
          exact Goes.same hS rfl
        refine EachOp.cons ?_ ?_
        · intro a u hst hS hdep
          have h78 : a.tmps.getD 78 undef = .pointer (some ⟨b, 0, none⟩) := hdep 78 (by kernel_rfl)
          have h77 : a.tmps.getD 77 undef = .bool false := hdep 77 (by kernel_rfl)
          refine ⟨⟨77, by kernel_rfl, h77⟩, ?_⟩
          clear h77
          have g78 := gd h78
          go_simp
          refine (HPY.out u (HDD.out u hS).2.2.2).mono ?_
          rintro e u' ⟨rfl, hb'⟩
          exact Goes.next (kp_trans hS hb') hb' rfl
        refine EachOp.cons ?_ ?_
        · intro a u hst hS hdep
          have h14 : a.tmps.getD 14 undef = .pointer (some ⟨r, 0, none⟩) := hst.out 14 (by kernel_rfl)
          have h77 : a.tmps.getD 77 undef = .bool false := hdep 77 (by kernel_rfl)
          refine ⟨⟨77, by kernel_rfl, h77⟩, ?_⟩
          clear h77
          have g14 := gd h14
          go_simp
          exact Goes.same hS rfl
        refine EachOp.cons ?_ ?_
        · intro a u hst hS hdep
          have h80 : a.tmps.getD 80 undef = .pointer (some ⟨r, 0, none⟩) := hdep 80 (by kernel_rfl)
          have h77 : a.tmps.getD 77 undef = .bool false := hdep 77 (by kernel_rfl)
          refine ⟨⟨77, by kernel_rfl, h77⟩, ?_⟩
          clear h77
          have g80 := gd h80
          go_simp
          exact Goes.same hS rfl
        refine EachOp.cons ?_ ?_
        · intro a u hst hS hdep
          have h81 : a.tmps.getD 81 undef = .pointer (some ⟨r, 0, none⟩) := hdep 81 (by kernel_rfl)
          have h77 : a.tmps.getD 77 undef = .bool false := hdep 77 (by kernel_rfl)
          refine ⟨⟨77, by kernel_rfl, h77⟩, ?_⟩
          clear h77
          have g81 := gd h81
          go_simp
          exact Goes.same hS rfl
        refine EachOp.cons ?_ ?_
        · intro a u hst hS hdep
          have h82 : a.tmps.getD 82 undef = .pointer (some ⟨r, 1, none⟩) := hdep 82 (by kernel_rfl)
          have h77 : a.tmps.getD 77 undef = .bool false := hdep 77 (by kernel_rfl)
          refine ⟨⟨77, by kernel_rfl, h77⟩, ?_⟩
          clear h77
          have g82 := gd h82
          obtain ⟨g0, g1⟩ := HRT.out u (HDD.out u hS).2.2.2
          go_simp
          exact Goes.same hS rfl
        refine EachOp.cons ?_ ?_
        · intro a u hst hS hdep
          have h79 : a.tmps.getD 79 undef = .int .i64 v.pr := hdep 79 (by kernel_rfl)
          have h83 : a.tmps.getD 83 undef = .int .i64 v.pr := hdep 83 (by kernel_rfl)
          have h77 : a.tmps.getD 77 undef = .bool false := hdep 77 (by kernel_rfl)
          refine ⟨⟨77, by kernel_rfl, h77⟩, ?_⟩
          clear h77
          have g79 := gd h79
          have g83 := gd h83
          go_simp
          exact Goes.same hS rfl
        refine EachOp.cons ?_ ?_
        · intro a u hst hS hdep
          have h77 : a.tmps.getD 77 undef = .bool false := hdep 77 (by kernel_rfl)
          have h84 : a.tmps.getD 84 undef = .bool false := hdep 84 (by kernel_rfl)
          refine ⟨trivial, ?_⟩
          have g77 := gd h77
          have g84 := gd h84
          go_simp
          exact Goes.same hS rfl
        exact EachOp.nil
      · intro a u hst hS hdep
        have h47 : a.tmps.getD 47 undef = .agg #[.int .u64 ae, .int .u64 ap] := hdep 47 (by kernel_rfl)
        have h48 : a.tmps.getD 48 undef = .agg #[.int .u64 ae, .int .u64 ap] := hdep 48 (by kernel_rfl)
        have h49 : a.tmps.getD 49 undef = .bool false := hdep 49 (by kernel_rfl)
        have h50 : a.tmps.getD 50 undef = .bool false := hdep 50 (by kernel_rfl)
        have h51 : a.tmps.getD 51 undef = .bool is := hdep 51 (by kernel_rfl)
        have h52 : a.tmps.getD 52 undef = .bool is := hdep 52 (by kernel_rfl)
        have h53 : a.tmps.getD 53 undef = .bool false := hdep 53 (by kernel_rfl)
        have h54 : a.tmps.getD 54 undef = .bool false := hdep 54 (by kernel_rfl)
        have h55 : a.tmps.getD 55 undef = .bool false := hdep 55 (by kernel_rfl)
        have h56 : a.tmps.getD 56 undef = .pointer (some ⟨b, 0, none⟩) := hdep 56 (by kernel_rfl)
        have h57 : a.tmps.getD 57 undef = .agg #[.int .u64 te, .int .u64 tp] := hdep 57 (by kernel_rfl)
        have h58 : a.tmps.getD 58 undef = .int .u64 ep := hdep 58 (by kernel_rfl)
        have h59 : a.tmps.getD 59 undef = .int .u64 pl := hdep 59 (by kernel_rfl)
        have h60 : a.tmps.getD 60 undef = .bool cv := hdep 60 (by kernel_rfl)
        have h61 : a.tmps.getD 61 undef = .pointer (some ⟨r, 0, none⟩) := hdep 61 (by kernel_rfl)
        have h62 : a.tmps.getD 62 undef = .agg #[.int .u64 te, .int .u64 tp] := hdep 62 (by kernel_rfl)
        have h63 : a.tmps.getD 63 undef = .int .u64 ep := hdep 63 (by kernel_rfl)
        have h64 : a.tmps.getD 64 undef = .int .u64 pl := hdep 64 (by kernel_rfl)
        have h65 : a.tmps.getD 65 undef = .bool cv := hdep 65 (by kernel_rfl)
        have h66 : a.tmps.getD 66 undef = .bool false := hdep 66 (by kernel_rfl)
        have h67 : a.tmps.getD 67 undef = .bool false := hdep 67 (by kernel_rfl)
        have h68 : a.tmps.getD 68 undef = .bool false := hdep 68 (by kernel_rfl)
        have h69 : a.tmps.getD 69 undef = .pointer (some ⟨b, 0, none⟩) := hdep 69 (by kernel_rfl)
        have h70 : a.tmps.getD 70 undef = .int .u64 v.ep := hdep 70 (by kernel_rfl)
        have h71 : a.tmps.getD 71 undef = .pointer (some ⟨r, 0, none⟩) := hdep 71 (by kernel_rfl)
        have h72 : a.tmps.getD 72 undef = .pointer (some ⟨r, 0, none⟩) := hdep 72 (by kernel_rfl)
        have h73 : a.tmps.getD 73 undef = .pointer (some ⟨r, 0, none⟩) := hdep 73 (by kernel_rfl)
        have h74 : a.tmps.getD 74 undef = .int .u64 v.ep := hdep 74 (by kernel_rfl)
        have h75 : a.tmps.getD 75 undef = .bool false := hdep 75 (by kernel_rfl)
        have h76 : a.tmps.getD 76 undef = .bool false := hdep 76 (by kernel_rfl)
        have h77 : a.tmps.getD 77 undef = .bool false := hdep 77 (by kernel_rfl)
        have h78 : a.tmps.getD 78 undef = .pointer (some ⟨b, 0, none⟩) := hdep 78 (by kernel_rfl)
        have h79 : a.tmps.getD 79 undef = .int .i64 v.pr := hdep 79 (by kernel_rfl)
        have h80 : a.tmps.getD 80 undef = .pointer (some ⟨r, 0, none⟩) := hdep 80 (by kernel_rfl)
        have h81 : a.tmps.getD 81 undef = .pointer (some ⟨r, 0, none⟩) := hdep 81 (by kernel_rfl)
        have h82 : a.tmps.getD 82 undef = .pointer (some ⟨r, 1, none⟩) := hdep 82 (by kernel_rfl)
        have h83 : a.tmps.getD 83 undef = .int .i64 v.pr := hdep 83 (by kernel_rfl)
        have h84 : a.tmps.getD 84 undef = .bool false := hdep 84 (by kernel_rfl)
        have h85 : a.tmps.getD 85 undef = .bool false := hdep 85 (by kernel_rfl)
        have hfr := hst.frame [(47, .agg #[.int .u64 ae, .int .u64 ap]), (48, .agg #[.int .u64 ae, .int .u64 ap]), (49, .bool false), (50, .bool false), (51, .bool is), (52, .bool is), (53, .bool false), (54, .bool false), (55, .bool false), (56, .pointer (some ⟨b, 0, none⟩)), (57, .agg #[.int .u64 te, .int .u64 tp]), (58, .int .u64 ep), (59, .int .u64 pl), (60, .bool cv), (61, .pointer (some ⟨r, 0, none⟩)), (62, .agg #[.int .u64 te, .int .u64 tp]), (63, .int .u64 ep), (64, .int .u64 pl), (65, .bool cv), (66, .bool false), (67, .bool false), (68, .bool false), (69, .pointer (some ⟨b, 0, none⟩)), (70, .int .u64 v.ep), (71, .pointer (some ⟨r, 0, none⟩)), (72, .pointer (some ⟨r, 0, none⟩)), (73, .pointer (some ⟨r, 0, none⟩)), (74, .int .u64 v.ep), (75, .bool false), (76, .bool false), (77, .bool false), (78, .pointer (some ⟨b, 0, none⟩)), (79, .int .i64 v.pr), (80, .pointer (some ⟨r, 0, none⟩)), (81, .pointer (some ⟨r, 0, none⟩)), (82, .pointer (some ⟨r, 1, none⟩)), (83, .int .i64 v.pr), (84, .bool false), (85, .bool false)] (by kernel_rfl) ⟨h47, h48, h49, h50, h51, h52, h53, h54, h55, h56, h57, h58, h59, h60, h61, h62, h63, h64, h65, h66, h67, h68, h69, h70, h71, h72, h73, h74, h75, h76, h77, h78, h79, h80, h81, h82, h83, h84, h85, trivial⟩
        clear hst hdep h47 h48 h49 h50 h51 h52 h53 h54 h55 h56 h57 h58 h59 h60 h61 h62 h63 h64 h65 h66 h67 h68 h69 h70 h71 h72 h73 h74 h75 h76 h77 h78 h79 h80 h81 h82 h83 h84 h85
        subst hfr
        simp only [List.foldl_cons, List.foldl_nil, List.setIfInBounds_toArray, List.set_cons_zero, List.set_cons_succ]
        have HDU := Lib.hid (hd.out.next (HDD.out u hS).2.2.2)
        have HBU := Lib.hid (keepO hbt.out (HDD.out u hS).2.2.2)
        have HCU := Lib.hid (keepO hbu.out (HDD.out u hS).2.2.2)
        clear HDD hS HCV HRC HEP HPY HRT hd hbt hbu HX7 HY7 HK7
        obtain ⟨wx, hwx⟩ : ∃ x, x = u := ⟨u, rfl⟩
        subst hwx
        obtain ⟨S, T, hs, hr, hst, hne⟩ := HDU.out.at_
        by_cases hkn : k < l1
        · have hkt : k < ts.length := by rw [HL.out]; exact hkn
          obtain ⟨ad, rfl, hab, hcc⟩ := R1.out.at_ hkt
          obtain ⟨g1, g2, g3⟩ := HY.out ts[k] (List.getElem_mem hkt)
          generalize ts[k] = t at *
          have HCC := Lib.hid hcc
          obtain ⟨lb, hlb⟩ : ∃ x, decide (v.ep < t.e) = x := ⟨_, rfl⟩
          obtain ⟨v', hv'⟩ : ∃ x, learnC v t = x := ⟨_, rfl⟩
          have HV2 := Lib.hid (hv.out.learn g1 g2 g3)
          rw [hv'] at HV2
          have HL1 : Hid (∀ u, (X b v).p S u → Calls Try.prog 15 #[.pointer (some ⟨b, 0, none⟩), .int .u64 t.e, .int .i64 t.p, .int .u64 t.c] u fun e w' => e = .returned (.bool lb) ∧ Turn (X b v') S u w') := Lib.hid fun u hu => by
            have := HC.out.learn b v k t S u hu hv.out (by omega) g1 g2 g3
            rw [hlb, hv'] at this
            exact this
          have HL2 : Hid (∀ u, (RV r v).p T u → Calls Try.prog 16 #[.pointer (some ⟨r, 0, none⟩), .int .u64 t.e, .int .i64 t.p, .int .u64 t.c] u fun e w' => e = .returned (.bool lb) ∧ Turn (RV r v') T u w') := Lib.hid fun u hu => by
            have := rlearn_ok t hu hvl
            rw [hlb, hv'] at this
            exact this
          have HST : Hid (MidA S T wx.heap.size (X b v) (X b v') (RV r v) (RV r v') wx.drew false false wx.drew ∧ Below W.heap.size W wx.drew) := Lib.hid ⟨MidA.start (Thing.drew hs) (Thing.drew hr) hst (Nat.le_refl _), HDU.out.low.drew⟩
          have HNE := Lib.hid hne
          have HLO := Lib.hid HDU.out.low
          have HNL := Lib.hid HDU.out.nlt
          have hi0 : (0 : Int) ≤ (k : Int) := by omega
          have hi1 : (k : Int) < (l1 : Int) := by omega
          clear hcc hlb hv' g1 g2 g3 hs hr hst hne HDU hvl
          go_wp2_with fail
          refine wp_region_specs5 (S := fun L u => MidA S T wx.heap.size (X b v) (X b v') (RV r v) (RV r v') wx.drew (L 21) (L 38) u ∧ Below W.heap.size W u) (Kp := KeepT) (Sp := [(86, Sti.eq (.int .i64 k)), (87, Sti.eq (.slice (some ad) l1 c1)), (88, Sti.eq (.int .i64 l1)), (89, Sti.eq (.bool true)), (90, Sti.eq (.bool true)), (91, Sti.eq (.pointer (some ⟨b, 0, none⟩))), (92, Sti.eq (.slice (some ad) l1 c1)), (93, Sti.eq (.int .i64 k)), (94, Sti.eq (.pointer (some (ad.add (k * 3))))), (95, Sti.eq (.pointer (some (ad.add (k * 3))))), (96, Sti.eq (.int .u64 t.e)), (97, Sti.eq (.slice (some ad) l1 c1)), (98, Sti.eq (.int .i64 k)), (99, Sti.eq (.pointer (some (ad.add (k * 3))))), (100, Sti.eq (.pointer (some ⟨(ad.add (k * 3)).block, (ad.add (k * 3)).off + 2, none⟩))), (101, Sti.eq (.int .i64 t.p)), (102, Sti.eq (.slice (some ad) l1 c1)), (103, Sti.eq (.int .i64 k)), (104, Sti.eq (.pointer (some (ad.add (k * 3))))), (105, Sti.eq (.pointer (some ⟨(ad.add (k * 3)).block, (ad.add (k * 3)).off + 1, none⟩))), (106, Sti.eq (.int .u64 t.c)), (107, Sti.eq (.bool lb)), (108, Sti.eq (.pointer (some ⟨r, 0, none⟩))), (109, Sti.eq (.slice (some ad) l1 c1)), (110, Sti.eq (.int .i64 k)), (111, Sti.eq (.pointer (some (ad.add (k * 3))))), (112, Sti.eq (.pointer (some (ad.add (k * 3))))), (113, Sti.eq (.int .u64 t.e)), (114, Sti.eq (.slice (some ad) l1 c1)), (115, Sti.eq (.int .i64 k)), (116, Sti.eq (.pointer (some (ad.add (k * 3))))), (117, Sti.eq (.pointer (some ⟨(ad.add (k * 3)).block, (ad.add (k * 3)).off + 2, none⟩))), (118, Sti.eq (.int .i64 t.p)), (119, Sti.eq (.slice (some ad) l1 c1)), (120, Sti.eq (.int .i64 k)), (121, Sti.eq (.pointer (some (ad.add (k * 3))))), (122, Sti.eq (.pointer (some ⟨(ad.add (k * 3)).block, (ad.add (k * 3)).off + 1, none⟩))), (123, Sti.eq (.int .u64 t.c)), (124, Sti.eq (.bool lb)), (125, Sti.eq (.bool false)), (126, Sti.eq (.bool false))]) (by kernel_rfl) (by kernel_rfl) (by kernel_rfl) (HST.out) ?_ ?_
          · refine EachOp.cons ?_ ?_
            · intro L a u hL hst hS hdep hq
              have h15 : a.tmps.getD 15 undef = .int .i64 k := hst.out 15 (by kernel_rfl)
              refine .inl ⟨trivial, ?_⟩
              have g15 := gd h15
              go_simp
              exact Went4.same (HKR.out _ _) hS rfl
            refine EachOp.cons ?_ ?_
            · intro L a u hL hst hS hdep hq
              have h1 : a.tmps.getD 1 undef = .slice (some ad) l1 c1 := hst.out 1 (by kernel_rfl)
              refine .inl ⟨trivial, ?_⟩
              have g1 := gd h1
              go_simp
              exact Went4.same (HKR.out _ _) hS rfl
            refine EachOp.cons ?_ ?_
            · intro L a u hL hst hS hdep hq
              have h87 : a.tmps.getD 87 undef = .slice (some ad) l1 c1 := hdep 87 (by kernel_rfl)
              refine .inl ⟨trivial, ?_⟩
              have g87 := gd h87
              go_simp
              exact Went4.same (HKR.out _ _) hS rfl
            refine EachOp.cons ?_ ?_
            · intro L a u hL hst hS hdep hq
              have h86 : a.tmps.getD 86 undef = .int .i64 k := hdep 86 (by kernel_rfl)
              have h88 : a.tmps.getD 88 undef = .int .i64 l1 := hdep 88 (by kernel_rfl)
              refine .inl ⟨trivial, ?_⟩
              have g86 := gd h86
              have g88 := gd h88
              go_simp
              exact Went4.same (HKR.out _ _) hS rfl
            refine EachOp.cons ?_ ?_
            · intro L a u hL hst hS hdep hq
              have h89 : a.tmps.getD 89 undef = .bool true := hdep 89 (by kernel_rfl)
              refine .inl ⟨trivial, ?_⟩
              have g89 := gd h89
              go_simp
              exact Went4.same (HKR.out _ _) hS rfl
            refine EachOp.cons ?_ ?_
            · intro L a u hL hst hS hdep hq
              have h13 : a.tmps.getD 13 undef = .pointer (some ⟨b, 0, none⟩) := hst.out 13 (by kernel_rfl)
              have h90 : a.tmps.getD 90 undef = .bool true := hdep 90 (by kernel_rfl)
              refine .inl ⟨⟨90, by kernel_rfl, h90⟩, ?_⟩
              clear h90
              have g13 := gd h13
              go_simp
              exact Went4.same (HKR.out _ _) hS rfl
            refine EachOp.cons ?_ ?_
            · intro L a u hL hst hS hdep hq
              have h1 : a.tmps.getD 1 undef = .slice (some ad) l1 c1 := hst.out 1 (by kernel_rfl)
              have h90 : a.tmps.getD 90 undef = .bool true := hdep 90 (by kernel_rfl)
              refine .inl ⟨⟨90, by kernel_rfl, h90⟩, ?_⟩
              clear h90
              have g1 := gd h1
              go_simp
              exact Went4.same (HKR.out _ _) hS rfl
            refine EachOp.cons ?_ ?_
            · intro L a u hL hst hS hdep hq
              have h15 : a.tmps.getD 15 undef = .int .i64 k := hst.out 15 (by kernel_rfl)
              have h90 : a.tmps.getD 90 undef = .bool true := hdep 90 (by kernel_rfl)
              refine .inl ⟨⟨90, by kernel_rfl, h90⟩, ?_⟩
              clear h90
              have g15 := gd h15
              go_simp
              exact Went4.same (HKR.out _ _) hS rfl
            refine EachOp.cons ?_ ?_
            · intro L a u hL hst hS hdep hq
              have h92 : a.tmps.getD 92 undef = .slice (some ad) l1 c1 := hdep 92 (by kernel_rfl)
              have h93 : a.tmps.getD 93 undef = .int .i64 k := hdep 93 (by kernel_rfl)
              have h90 : a.tmps.getD 90 undef = .bool true := hdep 90 (by kernel_rfl)
              refine .inl ⟨⟨90, by kernel_rfl, h90⟩, ?_⟩
              clear h90
              have g92 := gd h92
              have g93 := gd h93
              go_simp
              exact Went4.same (HKR.out _ _) hS rfl
            refine EachOp.cons ?_ ?_
            · intro L a u hL hst hS hdep hq
              have h94 : a.tmps.getD 94 undef = .pointer (some (ad.add (k * 3))) := hdep 94 (by kernel_rfl)
              have h90 : a.tmps.getD 90 undef = .bool true := hdep 90 (by kernel_rfl)
              refine .inl ⟨⟨90, by kernel_rfl, h90⟩, ?_⟩
              clear h90
              have g94 := gd h94
              go_simp
              exact Went4.same (HKR.out _ _) hS rfl
            refine EachOp.cons ?_ ?_
            · intro L a u hL hst hS hdep hq
              have h95 : a.tmps.getD 95 undef = .pointer (some (ad.add (k * 3))) := hdep 95 (by kernel_rfl)
              have h90 : a.tmps.getD 90 undef = .bool true := hdep 90 (by kernel_rfl)
              refine .inl ⟨⟨90, by kernel_rfl, h90⟩, ?_⟩
              clear h90
              have g95 := gd h95
              obtain ⟨d0, d1, d2⟩ := HCC.out u hS.2
              go_simp
              exact Went4.same (HKR.out _ _) hS rfl
            refine EachOp.cons ?_ ?_
            · intro L a u hL hst hS hdep hq
              have h1 : a.tmps.getD 1 undef = .slice (some ad) l1 c1 := hst.out 1 (by kernel_rfl)
              have h90 : a.tmps.getD 90 undef = .bool true := hdep 90 (by kernel_rfl)
              refine .inl ⟨⟨90, by kernel_rfl, h90⟩, ?_⟩
              clear h90
              have g1 := gd h1
              go_simp
              exact Went4.same (HKR.out _ _) hS rfl
            refine EachOp.cons ?_ ?_
            · intro L a u hL hst hS hdep hq
              have h15 : a.tmps.getD 15 undef = .int .i64 k := hst.out 15 (by kernel_rfl)
              have h90 : a.tmps.getD 90 undef = .bool true := hdep 90 (by kernel_rfl)
              refine .inl ⟨⟨90, by kernel_rfl, h90⟩, ?_⟩
              clear h90
              have g15 := gd h15
              go_simp
              exact Went4.same (HKR.out _ _) hS rfl
            refine EachOp.cons ?_ ?_
            · intro L a u hL hst hS hdep hq
              have h97 : a.tmps.getD 97 undef = .slice (some ad) l1 c1 := hdep 97 (by kernel_rfl)
              have h98 : a.tmps.getD 98 undef = .int .i64 k := hdep 98 (by kernel_rfl)
              have h90 : a.tmps.getD 90 undef = .bool true := hdep 90 (by kernel_rfl)
              refine .inl ⟨⟨90, by kernel_rfl, h90⟩, ?_⟩
              clear h90
              have g97 := gd h97
              have g98 := gd h98
              go_simp
              exact Went4.same (HKR.out _ _) hS rfl
            refine EachOp.cons ?_ ?_
            · intro L a u hL hst hS hdep hq
              have h99 : a.tmps.getD 99 undef = .pointer (some (ad.add (k * 3))) := hdep 99 (by kernel_rfl)
              have h90 : a.tmps.getD 90 undef = .bool true := hdep 90 (by kernel_rfl)
              refine .inl ⟨⟨90, by kernel_rfl, h90⟩, ?_⟩
              clear h90
              have g99 := gd h99
              go_simp
              exact Went4.same (HKR.out _ _) hS rfl
            refine EachOp.cons ?_ ?_
            · intro L a u hL hst hS hdep hq
              have h100 : a.tmps.getD 100 undef = .pointer (some ⟨(ad.add (k * 3)).block, (ad.add (k * 3)).off + 2, none⟩) := hdep 100 (by kernel_rfl)
              have h90 : a.tmps.getD 90 undef = .bool true := hdep 90 (by kernel_rfl)
              refine .inl ⟨⟨90, by kernel_rfl, h90⟩, ?_⟩
              clear h90
              have g100 := gd h100
              obtain ⟨d0, d1, d2⟩ := HCC.out u hS.2
              go_simp
              exact Went4.same (HKR.out _ _) hS rfl
            refine EachOp.cons ?_ ?_
            · intro L a u hL hst hS hdep hq
              have h1 : a.tmps.getD 1 undef = .slice (some ad) l1 c1 := hst.out 1 (by kernel_rfl)
              have h90 : a.tmps.getD 90 undef = .bool true := hdep 90 (by kernel_rfl)
              refine .inl ⟨⟨90, by kernel_rfl, h90⟩, ?_⟩
              clear h90
              have g1 := gd h1
              go_simp
              exact Went4.same (HKR.out _ _) hS rfl
            refine EachOp.cons ?_ ?_
            · intro L a u hL hst hS hdep hq
              have h15 : a.tmps.getD 15 undef = .int .i64 k := hst.out 15 (by kernel_rfl)
              have h90 : a.tmps.getD 90 undef = .bool true := hdep 90 (by kernel_rfl)
              refine .inl ⟨⟨90, by kernel_rfl, h90⟩, ?_⟩
              clear h90
              have g15 := gd h15
              go_simp
              exact Went4.same (HKR.out _ _) hS rfl
            refine EachOp.cons ?_ ?_
            · intro L a u hL hst hS hdep hq
              have h102 : a.tmps.getD 102 undef = .slice (some ad) l1 c1 := hdep 102 (by kernel_rfl)
              have h103 : a.tmps.getD 103 undef = .int .i64 k := hdep 103 (by kernel_rfl)
              have h90 : a.tmps.getD 90 undef = .bool true := hdep 90 (by kernel_rfl)
              refine .inl ⟨⟨90, by kernel_rfl, h90⟩, ?_⟩
              clear h90
              have g102 := gd h102
              have g103 := gd h103
              go_simp
              exact Went4.same (HKR.out _ _) hS rfl
            refine EachOp.cons ?_ ?_
            · intro L a u hL hst hS hdep hq
              have h104 : a.tmps.getD 104 undef = .pointer (some (ad.add (k * 3))) := hdep 104 (by kernel_rfl)
              have h90 : a.tmps.getD 90 undef = .bool true := hdep 90 (by kernel_rfl)
              refine .inl ⟨⟨90, by kernel_rfl, h90⟩, ?_⟩
              clear h90
              have g104 := gd h104
              go_simp
              exact Went4.same (HKR.out _ _) hS rfl
            refine EachOp.cons ?_ ?_
            · intro L a u hL hst hS hdep hq
              have h105 : a.tmps.getD 105 undef = .pointer (some ⟨(ad.add (k * 3)).block, (ad.add (k * 3)).off + 1, none⟩) := hdep 105 (by kernel_rfl)
              have h90 : a.tmps.getD 90 undef = .bool true := hdep 90 (by kernel_rfl)
              refine .inl ⟨⟨90, by kernel_rfl, h90⟩, ?_⟩
              clear h90
              have g105 := gd h105
              obtain ⟨d0, d1, d2⟩ := HCC.out u hS.2
              go_simp
              exact Went4.same (HKR.out _ _) hS rfl
            refine EachOp.cons ?_ ?_
            · intro L a u hL hst hS hdep hq
              have h91 : a.tmps.getD 91 undef = .pointer (some ⟨b, 0, none⟩) := hdep 91 (by kernel_rfl)
              have h96 : a.tmps.getD 96 undef = .int .u64 t.e := hdep 96 (by kernel_rfl)
              have h101 : a.tmps.getD 101 undef = .int .i64 t.p := hdep 101 (by kernel_rfl)
              have h106 : a.tmps.getD 106 undef = .int .u64 t.c := hdep 106 (by kernel_rfl)
              have h90 : a.tmps.getD 90 undef = .bool true := hdep 90 (by kernel_rfl)
              refine .inl ⟨⟨90, by kernel_rfl, h90⟩, ?_⟩
              clear h90
              have g91 := gd h91
              have g96 := gd h96
              have g101 := gd h101
              have g106 := gd h106
              go_simp
              have hS1 : MidA S T wx.heap.size (X b v) (X b v') (RV r v) (RV r v') wx.drew false (L 38) u := by have h := hS.1; simp only [hL] at h; exact h
              refine (HL1.out u hS1.getl).mono ?_
              rintro e u' ⟨rfl, ht⟩
              obtain ⟨t1, t2⟩ := hS1.left ht
              exact Went4.next ⟨t1, hS.2.trans (t2.below (fun k hk => (HNE.out k hk).1) hS.2.size)⟩ trivial rfl
            refine EachOp.cons ?_ ?_
            · intro L a u hL hst hS hdep hq
              have h14 : a.tmps.getD 14 undef = .pointer (some ⟨r, 0, none⟩) := hst.out 14 (by kernel_rfl)
              have h90 : a.tmps.getD 90 undef = .bool true := hdep 90 (by kernel_rfl)
              refine .inl ⟨⟨90, by kernel_rfl, h90⟩, ?_⟩
              clear h90
              have g14 := gd h14
              go_simp
              exact Went4.same (HKR.out _ _) hS rfl
            refine EachOp.cons ?_ ?_
            · intro L a u hL hst hS hdep hq
              have h1 : a.tmps.getD 1 undef = .slice (some ad) l1 c1 := hst.out 1 (by kernel_rfl)
              have h90 : a.tmps.getD 90 undef = .bool true := hdep 90 (by kernel_rfl)
              refine .inl ⟨⟨90, by kernel_rfl, h90⟩, ?_⟩
              clear h90
              have g1 := gd h1
              go_simp
              exact Went4.same (HKR.out _ _) hS rfl
            refine EachOp.cons ?_ ?_
            · intro L a u hL hst hS hdep hq
              have h15 : a.tmps.getD 15 undef = .int .i64 k := hst.out 15 (by kernel_rfl)
              have h90 : a.tmps.getD 90 undef = .bool true := hdep 90 (by kernel_rfl)
              refine .inl ⟨⟨90, by kernel_rfl, h90⟩, ?_⟩
              clear h90
              have g15 := gd h15
              go_simp
              exact Went4.same (HKR.out _ _) hS rfl
            refine EachOp.cons ?_ ?_
            · intro L a u hL hst hS hdep hq
              have h109 : a.tmps.getD 109 undef = .slice (some ad) l1 c1 := hdep 109 (by kernel_rfl)
              have h110 : a.tmps.getD 110 undef = .int .i64 k := hdep 110 (by kernel_rfl)
              have h90 : a.tmps.getD 90 undef = .bool true := hdep 90 (by kernel_rfl)
              refine .inl ⟨⟨90, by kernel_rfl, h90⟩, ?_⟩
              clear h90
              have g109 := gd h109
              have g110 := gd h110
              go_simp
              exact Went4.same (HKR.out _ _) hS rfl
            refine EachOp.cons ?_ ?_
            · intro L a u hL hst hS hdep hq
              have h111 : a.tmps.getD 111 undef = .pointer (some (ad.add (k * 3))) := hdep 111 (by kernel_rfl)
              have h90 : a.tmps.getD 90 undef = .bool true := hdep 90 (by kernel_rfl)
              refine .inl ⟨⟨90, by kernel_rfl, h90⟩, ?_⟩
              clear h90
              have g111 := gd h111
              go_simp
              exact Went4.same (HKR.out _ _) hS rfl
            refine EachOp.cons ?_ ?_
            · intro L a u hL hst hS hdep hq
              have h112 : a.tmps.getD 112 undef = .pointer (some (ad.add (k * 3))) := hdep 112 (by kernel_rfl)
              have h90 : a.tmps.getD 90 undef = .bool true := hdep 90 (by kernel_rfl)
              refine .inl ⟨⟨90, by kernel_rfl, h90⟩, ?_⟩
              clear h90
              have g112 := gd h112
              obtain ⟨d0, d1, d2⟩ := HCC.out u hS.2
              go_simp
              exact Went4.same (HKR.out _ _) hS rfl
            refine EachOp.cons ?_ ?_
            · intro L a u hL hst hS hdep hq
              have h1 : a.tmps.getD 1 undef = .slice (some ad) l1 c1 := hst.out 1 (by kernel_rfl)
              have h90 : a.tmps.getD 90 undef = .bool true := hdep 90 (by kernel_rfl)
              refine .inl ⟨⟨90, by kernel_rfl, h90⟩, ?_⟩
              clear h90
              have g1 := gd h1
              go_simp
              exact Went4.same (HKR.out _ _) hS rfl
            refine EachOp.cons ?_ ?_
            · intro L a u hL hst hS hdep hq
              have h15 : a.tmps.getD 15 undef = .int .i64 k := hst.out 15 (by kernel_rfl)
              have h90 : a.tmps.getD 90 undef = .bool true := hdep 90 (by kernel_rfl)
              refine .inl ⟨⟨90, by kernel_rfl, h90⟩, ?_⟩
              clear h90
              have g15 := gd h15
              go_simp
              exact Went4.same (HKR.out _ _) hS rfl
            refine EachOp.cons ?_ ?_
            · intro L a u hL hst hS hdep hq
              have h114 : a.tmps.getD 114 undef = .slice (some ad) l1 c1 := hdep 114 (by kernel_rfl)
              have h115 : a.tmps.getD 115 undef = .int .i64 k := hdep 115 (by kernel_rfl)
              have h90 : a.tmps.getD 90 undef = .bool true := hdep 90 (by kernel_rfl)
              refine .inl ⟨⟨90, by kernel_rfl, h90⟩, ?_⟩
              clear h90
              have g114 := gd h114
              have g115 := gd h115
              go_simp
              exact Went4.same (HKR.out _ _) hS rfl
            refine EachOp.cons ?_ ?_
            · intro L a u hL hst hS hdep hq
              have h116 : a.tmps.getD 116 undef = .pointer (some (ad.add (k * 3))) := hdep 116 (by kernel_rfl)
              have h90 : a.tmps.getD 90 undef = .bool true := hdep 90 (by kernel_rfl)
              refine .inl ⟨⟨90, by kernel_rfl, h90⟩, ?_⟩
              clear h90
              have g116 := gd h116
              go_simp
              exact Went4.same (HKR.out _ _) hS rfl
            refine EachOp.cons ?_ ?_
            · intro L a u hL hst hS hdep hq
              have h117 : a.tmps.getD 117 undef = .pointer (some ⟨(ad.add (k * 3)).block, (ad.add (k * 3)).off + 2, none⟩) := hdep 117 (by kernel_rfl)
              have h90 : a.tmps.getD 90 undef = .bool true := hdep 90 (by kernel_rfl)
              refine .inl ⟨⟨90, by kernel_rfl, h90⟩, ?_⟩
              clear h90
              have g117 := gd h117
              obtain ⟨d0, d1, d2⟩ := HCC.out u hS.2
              go_simp
              exact Went4.same (HKR.out _ _) hS rfl
            refine EachOp.cons ?_ ?_
            · intro L a u hL hst hS hdep hq
              have h1 : a.tmps.getD 1 undef = .slice (some ad) l1 c1 := hst.out 1 (by kernel_rfl)
              have h90 : a.tmps.getD 90 undef = .bool true := hdep 90 (by kernel_rfl)
              refine .inl ⟨⟨90, by kernel_rfl, h90⟩, ?_⟩
              clear h90
              have g1 := gd h1
              go_simp
              exact Went4.same (HKR.out _ _) hS rfl
            refine EachOp.cons ?_ ?_
            · intro L a u hL hst hS hdep hq
              have h15 : a.tmps.getD 15 undef = .int .i64 k := hst.out 15 (by kernel_rfl)
              have h90 : a.tmps.getD 90 undef = .bool true := hdep 90 (by kernel_rfl)
              refine .inl ⟨⟨90, by kernel_rfl, h90⟩, ?_⟩
              clear h90
              have g15 := gd h15
              go_simp
              exact Went4.same (HKR.out _ _) hS rfl
            refine EachOp.cons ?_ ?_
            · intro L a u hL hst hS hdep hq
              have h119 : a.tmps.getD 119 undef = .slice (some ad) l1 c1 := hdep 119 (by kernel_rfl)
              have h120 : a.tmps.getD 120 undef = .int .i64 k := hdep 120 (by kernel_rfl)
              have h90 : a.tmps.getD 90 undef = .bool true := hdep 90 (by kernel_rfl)
              refine .inl ⟨⟨90, by kernel_rfl, h90⟩, ?_⟩
              clear h90
              have g119 := gd h119
              have g120 := gd h120
              go_simp
              exact Went4.same (HKR.out _ _) hS rfl
            refine EachOp.cons ?_ ?_
            · intro L a u hL hst hS hdep hq
              have h121 : a.tmps.getD 121 undef = .pointer (some (ad.add (k * 3))) := hdep 121 (by kernel_rfl)
              have h90 : a.tmps.getD 90 undef = .bool true := hdep 90 (by kernel_rfl)
              refine .inl ⟨⟨90, by kernel_rfl, h90⟩, ?_⟩
              clear h90
              have g121 := gd h121
              go_simp
              exact Went4.same (HKR.out _ _) hS rfl
            refine EachOp.cons ?_ ?_
            · intro L a u hL hst hS hdep hq
              have h122 : a.tmps.getD 122 undef = .pointer (some ⟨(ad.add (k * 3)).block, (ad.add (k * 3)).off + 1, none⟩) := hdep 122 (by kernel_rfl)
              have h90 : a.tmps.getD 90 undef = .bool true := hdep 90 (by kernel_rfl)
              refine .inl ⟨⟨90, by kernel_rfl, h90⟩, ?_⟩
              clear h90
              have g122 := gd h122
              obtain ⟨d0, d1, d2⟩ := HCC.out u hS.2
              go_simp
              exact Went4.same (HKR.out _ _) hS rfl
            refine EachOp.cons ?_ ?_
            · intro L a u hL hst hS hdep hq
              have h108 : a.tmps.getD 108 undef = .pointer (some ⟨r, 0, none⟩) := hdep 108 (by kernel_rfl)
              have h113 : a.tmps.getD 113 undef = .int .u64 t.e := hdep 113 (by kernel_rfl)
              have h118 : a.tmps.getD 118 undef = .int .i64 t.p := hdep 118 (by kernel_rfl)
              have h123 : a.tmps.getD 123 undef = .int .u64 t.c := hdep 123 (by kernel_rfl)
              have h90 : a.tmps.getD 90 undef = .bool true := hdep 90 (by kernel_rfl)
              refine .inl ⟨⟨90, by kernel_rfl, h90⟩, ?_⟩
              clear h90
              have g108 := gd h108
              have g113 := gd h113
              have g118 := gd h118
              have g123 := gd h123
              go_simp
              have hS1 : MidA S T wx.heap.size (X b v) (X b v') (RV r v) (RV r v') wx.drew (L 21) false u := by have h := hS.1; simp only [hL] at h; exact h
              refine (HL2.out u hS1.getr).mono ?_
              rintro e u' ⟨rfl, ht⟩
              obtain ⟨t1, t2⟩ := hS1.right ht
              exact Went4.next ⟨t1, hS.2.trans (t2.below (fun k hk => (HNE.out k hk).1) hS.2.size)⟩ trivial rfl
            refine EachOp.cons ?_ ?_
            · intro L a u hL hst hS hdep hq
              have h107 : a.tmps.getD 107 undef = .bool lb := hdep 107 (by kernel_rfl)
              have h124 : a.tmps.getD 124 undef = .bool lb := hdep 124 (by kernel_rfl)
              have h90 : a.tmps.getD 90 undef = .bool true := hdep 90 (by kernel_rfl)
              refine .inl ⟨⟨90, by kernel_rfl, h90⟩, ?_⟩
              clear h90
              have g107 := gd h107
              have g124 := gd h124
              have hii : (lb != lb) = false := by simp
              go_simp
              exact Went4.same (HKR.out _ _) hS rfl
            refine EachOp.cons ?_ ?_
            · intro L a u hL hst hS hdep hq
              have h90 : a.tmps.getD 90 undef = .bool true := hdep 90 (by kernel_rfl)
              have h125 : a.tmps.getD 125 undef = .bool false := hdep 125 (by kernel_rfl)
              refine .inl ⟨trivial, ?_⟩
              have g90 := gd h90
              have g125 := gd h125
              go_simp
              exact Went4.same (HKR.out _ _) hS rfl
            exact EachOp.nil
          · intro L a u hLs hst hS hdep
            have h86 : a.tmps.getD 86 undef = .int .i64 k := hdep 86 (by kernel_rfl)
            have h87 : a.tmps.getD 87 undef = .slice (some ad) l1 c1 := hdep 87 (by kernel_rfl)
            have h88 : a.tmps.getD 88 undef = .int .i64 l1 := hdep 88 (by kernel_rfl)
            have h89 : a.tmps.getD 89 undef = .bool true := hdep 89 (by kernel_rfl)
            have h90 : a.tmps.getD 90 undef = .bool true := hdep 90 (by kernel_rfl)
            have h91 : a.tmps.getD 91 undef = .pointer (some ⟨b, 0, none⟩) := hdep 91 (by kernel_rfl)
            have h92 : a.tmps.getD 92 undef = .slice (some ad) l1 c1 := hdep 92 (by kernel_rfl)
            have h93 : a.tmps.getD 93 undef = .int .i64 k := hdep 93 (by kernel_rfl)
            have h94 : a.tmps.getD 94 undef = .pointer (some (ad.add (k * 3))) := hdep 94 (by kernel_rfl)
            have h95 : a.tmps.getD 95 undef = .pointer (some (ad.add (k * 3))) := hdep 95 (by kernel_rfl)
            have h96 : a.tmps.getD 96 undef = .int .u64 t.e := hdep 96 (by kernel_rfl)
            have h97 : a.tmps.getD 97 undef = .slice (some ad) l1 c1 := hdep 97 (by kernel_rfl)
            have h98 : a.tmps.getD 98 undef = .int .i64 k := hdep 98 (by kernel_rfl)
            have h99 : a.tmps.getD 99 undef = .pointer (some (ad.add (k * 3))) := hdep 99 (by kernel_rfl)
            have h100 : a.tmps.getD 100 undef = .pointer (some ⟨(ad.add (k * 3)).block, (ad.add (k * 3)).off + 2, none⟩) := hdep 100 (by kernel_rfl)
            have h101 : a.tmps.getD 101 undef = .int .i64 t.p := hdep 101 (by kernel_rfl)
            have h102 : a.tmps.getD 102 undef = .slice (some ad) l1 c1 := hdep 102 (by kernel_rfl)
            have h103 : a.tmps.getD 103 undef = .int .i64 k := hdep 103 (by kernel_rfl)
            have h104 : a.tmps.getD 104 undef = .pointer (some (ad.add (k * 3))) := hdep 104 (by kernel_rfl)
            have h105 : a.tmps.getD 105 undef = .pointer (some ⟨(ad.add (k * 3)).block, (ad.add (k * 3)).off + 1, none⟩) := hdep 105 (by kernel_rfl)
            have h106 : a.tmps.getD 106 undef = .int .u64 t.c := hdep 106 (by kernel_rfl)
            have h107 : a.tmps.getD 107 undef = .bool lb := hdep 107 (by kernel_rfl)
            have h108 : a.tmps.getD 108 undef = .pointer (some ⟨r, 0, none⟩) := hdep 108 (by kernel_rfl)
            have h109 : a.tmps.getD 109 undef = .slice (some ad) l1 c1 := hdep 109 (by kernel_rfl)
            have h110 : a.tmps.getD 110 undef = .int .i64 k := hdep 110 (by kernel_rfl)
            have h111 : a.tmps.getD 111 undef = .pointer (some (ad.add (k * 3))) := hdep 111 (by kernel_rfl)
            have h112 : a.tmps.getD 112 undef = .pointer (some (ad.add (k * 3))) := hdep 112 (by kernel_rfl)
            have h113 : a.tmps.getD 113 undef = .int .u64 t.e := hdep 113 (by kernel_rfl)
            have h114 : a.tmps.getD 114 undef = .slice (some ad) l1 c1 := hdep 114 (by kernel_rfl)
            have h115 : a.tmps.getD 115 undef = .int .i64 k := hdep 115 (by kernel_rfl)
            have h116 : a.tmps.getD 116 undef = .pointer (some (ad.add (k * 3))) := hdep 116 (by kernel_rfl)
            have h117 : a.tmps.getD 117 undef = .pointer (some ⟨(ad.add (k * 3)).block, (ad.add (k * 3)).off + 2, none⟩) := hdep 117 (by kernel_rfl)
            have h118 : a.tmps.getD 118 undef = .int .i64 t.p := hdep 118 (by kernel_rfl)
            have h119 : a.tmps.getD 119 undef = .slice (some ad) l1 c1 := hdep 119 (by kernel_rfl)
            have h120 : a.tmps.getD 120 undef = .int .i64 k := hdep 120 (by kernel_rfl)
            have h121 : a.tmps.getD 121 undef = .pointer (some (ad.add (k * 3))) := hdep 121 (by kernel_rfl)
            have h122 : a.tmps.getD 122 undef = .pointer (some ⟨(ad.add (k * 3)).block, (ad.add (k * 3)).off + 1, none⟩) := hdep 122 (by kernel_rfl)
            have h123 : a.tmps.getD 123 undef = .int .u64 t.c := hdep 123 (by kernel_rfl)
            have h124 : a.tmps.getD 124 undef = .bool lb := hdep 124 (by kernel_rfl)
            have h125 : a.tmps.getD 125 undef = .bool false := hdep 125 (by kernel_rfl)
            have h126 : a.tmps.getD 126 undef = .bool false := hdep 126 (by kernel_rfl)
            have hfr := hst.frame [(86, .int .i64 k), (87, .slice (some ad) l1 c1), (88, .int .i64 l1), (89, .bool true), (90, .bool true), (91, .pointer (some ⟨b, 0, none⟩)), (92, .slice (some ad) l1 c1), (93, .int .i64 k), (94, .pointer (some (ad.add (k * 3)))), (95, .pointer (some (ad.add (k * 3)))), (96, .int .u64 t.e), (97, .slice (some ad) l1 c1), (98, .int .i64 k), (99, .pointer (some (ad.add (k * 3)))), (100, .pointer (some ⟨(ad.add (k * 3)).block, (ad.add (k * 3)).off + 2, none⟩)), (101, .int .i64 t.p), (102, .slice (some ad) l1 c1), (103, .int .i64 k), (104, .pointer (some (ad.add (k * 3)))), (105, .pointer (some ⟨(ad.add (k * 3)).block, (ad.add (k * 3)).off + 1, none⟩)), (106, .int .u64 t.c), (107, .bool lb), (108, .pointer (some ⟨r, 0, none⟩)), (109, .slice (some ad) l1 c1), (110, .int .i64 k), (111, .pointer (some (ad.add (k * 3)))), (112, .pointer (some (ad.add (k * 3)))), (113, .int .u64 t.e), (114, .slice (some ad) l1 c1), (115, .int .i64 k), (116, .pointer (some (ad.add (k * 3)))), (117, .pointer (some ⟨(ad.add (k * 3)).block, (ad.add (k * 3)).off + 2, none⟩)), (118, .int .i64 t.p), (119, .slice (some ad) l1 c1), (120, .int .i64 k), (121, .pointer (some (ad.add (k * 3)))), (122, .pointer (some ⟨(ad.add (k * 3)).block, (ad.add (k * 3)).off + 1, none⟩)), (123, .int .u64 t.c), (124, .bool lb), (125, .bool false), (126, .bool false)] (by kernel_rfl) ⟨h86, h87, h88, h89, h90, h91, h92, h93, h94, h95, h96, h97, h98, h99, h100, h101, h102, h103, h104, h105, h106, h107, h108, h109, h110, h111, h112, h113, h114, h115, h116, h117, h118, h119, h120, h121, h122, h123, h124, h125, h126, trivial⟩
            clear hst hdep h86 h87 h88 h89 h90 h91 h92 h93 h94 h95 h96 h97 h98 h99 h100 h101 h102 h103 h104 h105 h106 h107 h108 h109 h110 h111 h112 h113 h114 h115 h116 h117 h118 h119 h120 h121 h122 h123 h124 h125 h126
            subst hfr
            simp only [List.foldl_cons, List.foldl_nil, List.setIfInBounds_toArray, List.set_cons_zero, List.set_cons_succ]
            have hlp := hLs 21 (by kernel_rfl)
            have hlr := hLs 38 (by kernel_rfl)
            have hS3 : MidA S T wx.heap.size (X b v) (X b v') (RV r v) (RV r v') wx.drew true true u := by have h := hS.1; simp only [hlp, hlr] at h; exact h
            have hDZ : Duo W (X b v') (RV r v') (fun k => k = tb ∨ k = ub ∨ noneB k) u := hS3.done HNE.out HNL.out HLO.out.size (HLO.out.drew)
            have HDZ := Lib.hid hDZ
            have HBZ : Hid (u.heap[tb]? = some (.cells #[.int .u64 te, .int .u64 tp] 25 (0, 0))) := Lib.hid ((hS3.off.block tb (Array.getElem?_eq_some_iff.1 HBU.out).1 fun e => (HNE.out _ e).2 (.inl rfl)).trans HBU.out)
            have HCZ : Hid (u.heap[ub]? = some (.cells #[.int .u64 ue, .int .u64 up] 25 (0, 0))) := Lib.hid ((hS3.off.block ub (Array.getElem?_eq_some_iff.1 HCU.out).1 fun e => (HNE.out _ e).2 (.inr (.inl rfl))).trans HCU.out)
            clear hS3 hDZ hlp hlr hS hLs HST HNE HLO HNL HL1 HL2 HCC HBU HCU
            go_wp2_with fail
            go_roundw
            case rel => exact ⟨k + 1, v', by omega, by go_num, HV2, HDZ, HBZ, HCZ⟩
            case measure => simp [intOf]; omega
        · have HDZ := HDU
          have hi1 : ¬ (k : Int) < (l1 : Int) := by omega
          clear hs hr hst hne HDU hvl
          go_wp2_with fail
          refine wp_region_specs2 (S := fun u => Below wx.heap.size wx u) (Sp := [(86, Stb.eq (.int .i64 k)), (87, Stb.eq (.slice A1 l1 c1)), (88, Stb.eq (.int .i64 l1)), (89, Stb.eq (.bool false)), (90, Stb.eq (.bool false)), (91, Stb.eq (undef)), (92, Stb.eq (undef)), (93, Stb.eq (undef)), (94, Stb.eq (undef)), (95, Stb.eq (undef)), (96, Stb.eq (undef)), (97, Stb.eq (undef)), (98, Stb.eq (undef)), (99, Stb.eq (undef)), (100, Stb.eq (undef)), (101, Stb.eq (undef)), (102, Stb.eq (undef)), (103, Stb.eq (undef)), (104, Stb.eq (undef)), (105, Stb.eq (undef)), (106, Stb.eq (undef)), (107, Stb.eq (undef)), (108, Stb.eq (undef)), (109, Stb.eq (undef)), (110, Stb.eq (undef)), (111, Stb.eq (undef)), (112, Stb.eq (undef)), (113, Stb.eq (undef)), (114, Stb.eq (undef)), (115, Stb.eq (undef)), (116, Stb.eq (undef)), (117, Stb.eq (undef)), (118, Stb.eq (undef)), (119, Stb.eq (undef)), (120, Stb.eq (undef)), (121, Stb.eq (undef)), (122, Stb.eq (undef)), (123, Stb.eq (undef)), (124, Stb.eq (undef)), (125, Stb.eq (undef)), (126, Stb.eq (.bool false))]) (by kernel_rfl) (by kernel_rfl) (kp_drewN _ 1) ?_ ?_
          · refine EachOp.cons ?_ ?_
            · intro a u hst hS hdep
              have h15 : a.tmps.getD 15 undef = .int .i64 k := hst.out 15 (by kernel_rfl)
              refine .inl ⟨trivial, ?_⟩
              have g15 := gd h15
              go_simp
              exact Goes.same hS rfl
            refine EachOp.cons ?_ ?_
            · intro a u hst hS hdep
              have h1 : a.tmps.getD 1 undef = .slice A1 l1 c1 := hst.out 1 (by kernel_rfl)
              refine .inl ⟨trivial, ?_⟩
              have g1 := gd h1
              go_simp
              exact Goes.same hS rfl
            refine EachOp.cons ?_ ?_
            · intro a u hst hS hdep
              have h87 : a.tmps.getD 87 undef = .slice A1 l1 c1 := hdep 87 (by kernel_rfl)
              refine .inl ⟨trivial, ?_⟩
              have g87 := gd h87
              go_simp
              exact Goes.same hS rfl
            refine EachOp.cons ?_ ?_
            · intro a u hst hS hdep
              have h86 : a.tmps.getD 86 undef = .int .i64 k := hdep 86 (by kernel_rfl)
              have h88 : a.tmps.getD 88 undef = .int .i64 l1 := hdep 88 (by kernel_rfl)
              refine .inl ⟨trivial, ?_⟩
              have g86 := gd h86
              have g88 := gd h88
              go_simp
              exact Goes.same hS rfl
            refine EachOp.cons ?_ ?_
            · intro a u hst hS hdep
              have h89 : a.tmps.getD 89 undef = .bool false := hdep 89 (by kernel_rfl)
              refine .inl ⟨trivial, ?_⟩
              have g89 := gd h89
              go_simp
              exact Goes.same hS rfl
            refine EachOp.cons ?_ ?_
            · intro a u hst hS hdep
              have h90 : a.tmps.getD 90 undef = .bool false := hdep 90 (by kernel_rfl)
              exact .inr ⟨⟨90, by kernel_rfl, h90⟩, hS, fun t e => by injection e with e; subst e; rfl⟩
            refine EachOp.cons ?_ ?_
            · intro a u hst hS hdep
              have h90 : a.tmps.getD 90 undef = .bool false := hdep 90 (by kernel_rfl)
              exact .inr ⟨⟨90, by kernel_rfl, h90⟩, hS, fun t e => by injection e with e; subst e; rfl⟩
            refine EachOp.cons ?_ ?_
            · intro a u hst hS hdep
              have h90 : a.tmps.getD 90 undef = .bool false := hdep 90 (by kernel_rfl)
              exact .inr ⟨⟨90, by kernel_rfl, h90⟩, hS, fun t e => by injection e with e; subst e; rfl⟩
            refine EachOp.cons ?_ ?_
            · intro a u hst hS hdep
              have h90 : a.tmps.getD 90 undef = .bool false := hdep 90 (by kernel_rfl)
              exact .inr ⟨⟨90, by kernel_rfl, h90⟩, hS, fun t e => by injection e with e; subst e; rfl⟩
            refine EachOp.cons ?_ ?_
            · intro a u hst hS hdep
              have h90 : a.tmps.getD 90 undef = .bool false := hdep 90 (by kernel_rfl)
              exact .inr ⟨⟨90, by kernel_rfl, h90⟩, hS, fun t e => by injection e with e; subst e; rfl⟩
            refine EachOp.cons ?_ ?_
            · intro a u hst hS hdep
              have h90 : a.tmps.getD 90 undef = .bool false := hdep 90 (by kernel_rfl)
              exact .inr ⟨⟨90, by kernel_rfl, h90⟩, hS, fun t e => by injection e with e; subst e; rfl⟩
            refine EachOp.cons ?_ ?_
            · intro a u hst hS hdep
              have h90 : a.tmps.getD 90 undef = .bool false := hdep 90 (by kernel_rfl)
              exact .inr ⟨⟨90, by kernel_rfl, h90⟩, hS, fun t e => by injection e with e; subst e; rfl⟩
            refine EachOp.cons ?_ ?_
            · intro a u hst hS hdep
              have h90 : a.tmps.getD 90 undef = .bool false := hdep 90 (by kernel_rfl)
              exact .inr ⟨⟨90, by kernel_rfl, h90⟩, hS, fun t e => by injection e with e; subst e; rfl⟩
            refine EachOp.cons ?_ ?_
            · intro a u hst hS hdep
              have h90 : a.tmps.getD 90 undef = .bool false := hdep 90 (by kernel_rfl)
              exact .inr ⟨⟨90, by kernel_rfl, h90⟩, hS, fun t e => by injection e with e; subst e; rfl⟩
            refine EachOp.cons ?_ ?_
            · intro a u hst hS hdep
              have h90 : a.tmps.getD 90 undef = .bool false := hdep 90 (by kernel_rfl)
              exact .inr ⟨⟨90, by kernel_rfl, h90⟩, hS, fun t e => by injection e with e; subst e; rfl⟩
            refine EachOp.cons ?_ ?_
            · intro a u hst hS hdep
              have h90 : a.tmps.getD 90 undef = .bool false := hdep 90 (by kernel_rfl)
              exact .inr ⟨⟨90, by kernel_rfl, h90⟩, hS, fun t e => by injection e with e; subst e; rfl⟩
            refine EachOp.cons ?_ ?_
            · intro a u hst hS hdep
              have h90 : a.tmps.getD 90 undef = .bool false := hdep 90 (by kernel_rfl)
              exact .inr ⟨⟨90, by kernel_rfl, h90⟩, hS, fun t e => by injection e with e; subst e; rfl⟩
            refine EachOp.cons ?_ ?_
            · intro a u hst hS hdep
              have h90 : a.tmps.getD 90 undef = .bool false := hdep 90 (by kernel_rfl)
              exact .inr ⟨⟨90, by kernel_rfl, h90⟩, hS, fun t e => by injection e with e; subst e; rfl⟩
            refine EachOp.cons ?_ ?_
            · intro a u hst hS hdep
              have h90 : a.tmps.getD 90 undef = .bool false := hdep 90 (by kernel_rfl)
              exact .inr ⟨⟨90, by kernel_rfl, h90⟩, hS, fun t e => by injection e with e; subst e; rfl⟩
            refine EachOp.cons ?_ ?_
            · intro a u hst hS hdep
              have h90 : a.tmps.getD 90 undef = .bool false := hdep 90 (by kernel_rfl)
              exact .inr ⟨⟨90, by kernel_rfl, h90⟩, hS, fun t e => by injection e with e; subst e; rfl⟩
            refine EachOp.cons ?_ ?_
            · intro a u hst hS hdep
              have h90 : a.tmps.getD 90 undef = .bool false := hdep 90 (by kernel_rfl)
              exact .inr ⟨⟨90, by kernel_rfl, h90⟩, hS, fun t e => by injection e with e; subst e; rfl⟩
            refine EachOp.cons ?_ ?_
            · intro a u hst hS hdep
              have h90 : a.tmps.getD 90 undef = .bool false := hdep 90 (by kernel_rfl)
              exact .inr ⟨⟨90, by kernel_rfl, h90⟩, hS, fun t e => by injection e with e; subst e; rfl⟩
            refine EachOp.cons ?_ ?_
            · intro a u hst hS hdep
              have h90 : a.tmps.getD 90 undef = .bool false := hdep 90 (by kernel_rfl)
              exact .inr ⟨⟨90, by kernel_rfl, h90⟩, hS, fun t e => by injection e with e; subst e; rfl⟩
            refine EachOp.cons ?_ ?_
            · intro a u hst hS hdep
              have h90 : a.tmps.getD 90 undef = .bool false := hdep 90 (by kernel_rfl)
              exact .inr ⟨⟨90, by kernel_rfl, h90⟩, hS, fun t e => by injection e with e; subst e; rfl⟩
            refine EachOp.cons ?_ ?_
            · intro a u hst hS hdep
              have h90 : a.tmps.getD 90 undef = .bool false := hdep 90 (by kernel_rfl)
              exact .inr ⟨⟨90, by kernel_rfl, h90⟩, hS, fun t e => by injection e with e; subst e; rfl⟩
            refine EachOp.cons ?_ ?_
            · intro a u hst hS hdep
              have h90 : a.tmps.getD 90 undef = .bool false := hdep 90 (by kernel_rfl)
              exact .inr ⟨⟨90, by kernel_rfl, h90⟩, hS, fun t e => by injection e with e; subst e; rfl⟩
            refine EachOp.cons ?_ ?_
            · intro a u hst hS hdep
              have h90 : a.tmps.getD 90 undef = .bool false := hdep 90 (by kernel_rfl)
              exact .inr ⟨⟨90, by kernel_rfl, h90⟩, hS, fun t e => by injection e with e; subst e; rfl⟩
            refine EachOp.cons ?_ ?_
            · intro a u hst hS hdep
              have h90 : a.tmps.getD 90 undef = .bool false := hdep 90 (by kernel_rfl)
              exact .inr ⟨⟨90, by kernel_rfl, h90⟩, hS, fun t e => by injection e with e; subst e; rfl⟩
            refine EachOp.cons ?_ ?_
            · intro a u hst hS hdep
              have h90 : a.tmps.getD 90 undef = .bool false := hdep 90 (by kernel_rfl)
              exact .inr ⟨⟨90, by kernel_rfl, h90⟩, hS, fun t e => by injection e with e; subst e; rfl⟩
            refine EachOp.cons ?_ ?_
            · intro a u hst hS hdep
              have h90 : a.tmps.getD 90 undef = .bool false := hdep 90 (by kernel_rfl)
              exact .inr ⟨⟨90, by kernel_rfl, h90⟩, hS, fun t e => by injection e with e; subst e; rfl⟩
            refine EachOp.cons ?_ ?_
            · intro a u hst hS hdep
              have h90 : a.tmps.getD 90 undef = .bool false := hdep 90 (by kernel_rfl)
              exact .inr ⟨⟨90, by kernel_rfl, h90⟩, hS, fun t e => by injection e with e; subst e; rfl⟩
            refine EachOp.cons ?_ ?_
            · intro a u hst hS hdep
              have h90 : a.tmps.getD 90 undef = .bool false := hdep 90 (by kernel_rfl)
              exact .inr ⟨⟨90, by kernel_rfl, h90⟩, hS, fun t e => by injection e with e; subst e; rfl⟩
            refine EachOp.cons ?_ ?_
            · intro a u hst hS hdep
              have h90 : a.tmps.getD 90 undef = .bool false := hdep 90 (by kernel_rfl)
              exact .inr ⟨⟨90, by kernel_rfl, h90⟩, hS, fun t e => by injection e with e; subst e; rfl⟩
            refine EachOp.cons ?_ ?_
            · intro a u hst hS hdep
              have h90 : a.tmps.getD 90 undef = .bool false := hdep 90 (by kernel_rfl)
              exact .inr ⟨⟨90, by kernel_rfl, h90⟩, hS, fun t e => by injection e with e; subst e; rfl⟩
            refine EachOp.cons ?_ ?_
            · intro a u hst hS hdep
              have h90 : a.tmps.getD 90 undef = .bool false := hdep 90 (by kernel_rfl)
              exact .inr ⟨⟨90, by kernel_rfl, h90⟩, hS, fun t e => by injection e with e; subst e; rfl⟩
            refine EachOp.cons ?_ ?_
            · intro a u hst hS hdep
              have h90 : a.tmps.getD 90 undef = .bool false := hdep 90 (by kernel_rfl)
              exact .inr ⟨⟨90, by kernel_rfl, h90⟩, hS, fun t e => by injection e with e; subst e; rfl⟩
            refine EachOp.cons ?_ ?_
            · intro a u hst hS hdep
              have h90 : a.tmps.getD 90 undef = .bool false := hdep 90 (by kernel_rfl)
              exact .inr ⟨⟨90, by kernel_rfl, h90⟩, hS, fun t e => by injection e with e; subst e; rfl⟩
            refine EachOp.cons ?_ ?_
            · intro a u hst hS hdep
              have h90 : a.tmps.getD 90 undef = .bool false := hdep 90 (by kernel_rfl)
              exact .inr ⟨⟨90, by kernel_rfl, h90⟩, hS, fun t e => by injection e with e; subst e; rfl⟩
            refine EachOp.cons ?_ ?_
            · intro a u hst hS hdep
              have h90 : a.tmps.getD 90 undef = .bool false := hdep 90 (by kernel_rfl)
              exact .inr ⟨⟨90, by kernel_rfl, h90⟩, hS, fun t e => by injection e with e; subst e; rfl⟩
            refine EachOp.cons ?_ ?_
            · intro a u hst hS hdep
              have h90 : a.tmps.getD 90 undef = .bool false := hdep 90 (by kernel_rfl)
              exact .inr ⟨⟨90, by kernel_rfl, h90⟩, hS, fun t e => by injection e with e; subst e; rfl⟩
            refine EachOp.cons ?_ ?_
            · intro a u hst hS hdep
              have h90 : a.tmps.getD 90 undef = .bool false := hdep 90 (by kernel_rfl)
              have h125 : a.tmps.getD 125 undef = undef := hdep 125 (by kernel_rfl)
              refine .inl ⟨trivial, ?_⟩
              have g90 := gd h90
              have g125 := gd h125
              go_simp
              exact Goes.same hS rfl
            exact EachOp.nil
          · intro a u hst hS hdep
            have h86 : a.tmps.getD 86 undef = .int .i64 k := hdep 86 (by kernel_rfl)
            have h87 : a.tmps.getD 87 undef = .slice A1 l1 c1 := hdep 87 (by kernel_rfl)
            have h88 : a.tmps.getD 88 undef = .int .i64 l1 := hdep 88 (by kernel_rfl)
            have h89 : a.tmps.getD 89 undef = .bool false := hdep 89 (by kernel_rfl)
            have h90 : a.tmps.getD 90 undef = .bool false := hdep 90 (by kernel_rfl)
            have h91 : a.tmps.getD 91 undef = undef := hdep 91 (by kernel_rfl)
            have h92 : a.tmps.getD 92 undef = undef := hdep 92 (by kernel_rfl)
            have h93 : a.tmps.getD 93 undef = undef := hdep 93 (by kernel_rfl)
            have h94 : a.tmps.getD 94 undef = undef := hdep 94 (by kernel_rfl)
            have h95 : a.tmps.getD 95 undef = undef := hdep 95 (by kernel_rfl)
            have h96 : a.tmps.getD 96 undef = undef := hdep 96 (by kernel_rfl)
            have h97 : a.tmps.getD 97 undef = undef := hdep 97 (by kernel_rfl)
            have h98 : a.tmps.getD 98 undef = undef := hdep 98 (by kernel_rfl)
            have h99 : a.tmps.getD 99 undef = undef := hdep 99 (by kernel_rfl)
            have h100 : a.tmps.getD 100 undef = undef := hdep 100 (by kernel_rfl)
            have h101 : a.tmps.getD 101 undef = undef := hdep 101 (by kernel_rfl)
            have h102 : a.tmps.getD 102 undef = undef := hdep 102 (by kernel_rfl)
            have h103 : a.tmps.getD 103 undef = undef := hdep 103 (by kernel_rfl)
            have h104 : a.tmps.getD 104 undef = undef := hdep 104 (by kernel_rfl)
            have h105 : a.tmps.getD 105 undef = undef := hdep 105 (by kernel_rfl)
            have h106 : a.tmps.getD 106 undef = undef := hdep 106 (by kernel_rfl)
            have h107 : a.tmps.getD 107 undef = undef := hdep 107 (by kernel_rfl)
            have h108 : a.tmps.getD 108 undef = undef := hdep 108 (by kernel_rfl)
            have h109 : a.tmps.getD 109 undef = undef := hdep 109 (by kernel_rfl)
            have h110 : a.tmps.getD 110 undef = undef := hdep 110 (by kernel_rfl)
            have h111 : a.tmps.getD 111 undef = undef := hdep 111 (by kernel_rfl)
            have h112 : a.tmps.getD 112 undef = undef := hdep 112 (by kernel_rfl)
            have h113 : a.tmps.getD 113 undef = undef := hdep 113 (by kernel_rfl)
            have h114 : a.tmps.getD 114 undef = undef := hdep 114 (by kernel_rfl)
            have h115 : a.tmps.getD 115 undef = undef := hdep 115 (by kernel_rfl)
            have h116 : a.tmps.getD 116 undef = undef := hdep 116 (by kernel_rfl)
            have h117 : a.tmps.getD 117 undef = undef := hdep 117 (by kernel_rfl)
            have h118 : a.tmps.getD 118 undef = undef := hdep 118 (by kernel_rfl)
            have h119 : a.tmps.getD 119 undef = undef := hdep 119 (by kernel_rfl)
            have h120 : a.tmps.getD 120 undef = undef := hdep 120 (by kernel_rfl)
            have h121 : a.tmps.getD 121 undef = undef := hdep 121 (by kernel_rfl)
            have h122 : a.tmps.getD 122 undef = undef := hdep 122 (by kernel_rfl)
            have h123 : a.tmps.getD 123 undef = undef := hdep 123 (by kernel_rfl)
            have h124 : a.tmps.getD 124 undef = undef := hdep 124 (by kernel_rfl)
            have h125 : a.tmps.getD 125 undef = undef := hdep 125 (by kernel_rfl)
            have h126 : a.tmps.getD 126 undef = .bool false := hdep 126 (by kernel_rfl)
            have hfr := hst.frame [(86, .int .i64 k), (87, .slice A1 l1 c1), (88, .int .i64 l1), (89, .bool false), (90, .bool false), (91, undef), (92, undef), (93, undef), (94, undef), (95, undef), (96, undef), (97, undef), (98, undef), (99, undef), (100, undef), (101, undef), (102, undef), (103, undef), (104, undef), (105, undef), (106, undef), (107, undef), (108, undef), (109, undef), (110, undef), (111, undef), (112, undef), (113, undef), (114, undef), (115, undef), (116, undef), (117, undef), (118, undef), (119, undef), (120, undef), (121, undef), (122, undef), (123, undef), (124, undef), (125, undef), (126, .bool false)] (by kernel_rfl) ⟨h86, h87, h88, h89, h90, h91, h92, h93, h94, h95, h96, h97, h98, h99, h100, h101, h102, h103, h104, h105, h106, h107, h108, h109, h110, h111, h112, h113, h114, h115, h116, h117, h118, h119, h120, h121, h122, h123, h124, h125, h126, trivial⟩
            clear hst hdep h86 h87 h88 h89 h90 h91 h92 h93 h94 h95 h96 h97 h98 h99 h100 h101 h102 h103 h104 h105 h106 h107 h108 h109 h110 h111 h112 h113 h114 h115 h116 h117 h118 h119 h120 h121 h122 h123 h124 h125 h126
            subst hfr
            simp only [List.foldl_cons, List.foldl_nil, List.setIfInBounds_toArray, List.set_cons_zero, List.set_cons_succ]
            have HDW := Lib.hid (HDZ.out.next hS)
            have HBZ := Lib.hid (keepO HBU.out hS)
            have HCZ := Lib.hid (keepO HCU.out hS)
            clear hS HDZ HBU HCU
            go_wp2_with fail
            go_roundw
            case rel => exact ⟨k + 1, v, by omega, by go_num, Lib.hid (hv.out.more (Nat.le_succ k)), HDW, HBZ, HCZ⟩
            case measure => simp [intOf]; omega
    · obtain rfl : k = l1 + 1 := by omega
      have hkl : ¬ ((l1 + 1 : Nat) : Int) ≤ (l1 : Int) := by omega
      obtain ⟨⟨le, lp⟩, hla⟩ : ∃ a, laterF ⟨te, tp⟩ ⟨ue, up⟩ = a := ⟨_, rfl⟩
      have H1 : Hid (∀ u, Calls Try.prog 17 #[.agg #[.int .u64 te, .int .u64 tp], .agg #[.int .u64 ue, .int .u64 up]] u fun e w' => e = .returned (.agg #[.int .u64 le, .int .u64 lp]) ∧ Below u.heap.size u w') := Lib.hid fun u => by
        have := HC.out.later ⟨te, tp⟩ ⟨ue, up⟩ u HU.out.1 HU.out.2.1 HU.out.2.2.1 HU.out.2.2.2.1
        rw [hla] at this
        exact this
      have H2 : Hid (∀ u, Calls Try.prog 18 #[.agg #[.int .u64 te, .int .u64 tp], .agg #[.int .u64 ue, .int .u64 up]] u fun e w' => e = .returned (.agg #[.int .u64 le, .int .u64 lp]) ∧ Below u.heap.size u w') := Lib.hid fun u => by
        have := rlater_ok ⟨te, tp⟩ ⟨ue, up⟩ u
        rw [hla] at this
        exact this
      obtain ⟨wz, hwz⟩ : ∃ x, x = wr := ⟨wr, rfl⟩
      subst hwz
      have HDD : Hid (∀ u, Below wz.heap.size wz u → (u.cell? ⟨tb, 0, none⟩ = some (.int .u64 te) ∧ u.cell? ⟨tb, 1, none⟩ = some (.int .u64 tp)) ∧ u.cell? ⟨ub, 0, none⟩ = some (.int .u64 ue) ∧ u.cell? ⟨ub, 1, none⟩ = some (.int .u64 up)) := Lib.hid fun u hu => by
        have e1 := keepO hbt.out hu
        have e2 := keepO hbu.out hu
        exact ⟨⟨(cellsAt e1 0 rfl).1, (cellsAt e1 1 rfl).1⟩, (cellsAt e2 0 rfl).1, (cellsAt e2 1 rfl).1⟩
      clear hla
      go_wp2_with fail
      refine wp_region_specs (S := fun u => Below wz.heap.size wz u) (Sp := [(127, Stb.eq (.agg #[.int .u64 te, .int .u64 tp])), (128, Stb.eq (.agg #[.int .u64 ue, .int .u64 up])), (129, Stb.eq (.agg #[.int .u64 le, .int .u64 lp])), (130, Stb.eq (.agg #[.int .u64 te, .int .u64 tp])), (131, Stb.eq (.agg #[.int .u64 ue, .int .u64 up])), (132, Stb.eq (.agg #[.int .u64 le, .int .u64 lp])), (133, Stb.eq (.bool true)), (12, Stb.eq (.bool true))]) (by kernel_rfl) (by kernel_rfl) (kp_drewN _ 1) ?_ ?_
      · refine EachOp.cons ?_ ?_
        · intro a u hst hS hdep
          have h8 : a.tmps.getD 8 undef = .pointer (some ⟨tb, 0, none⟩) := hst.out 8 (by kernel_rfl)
          refine ⟨trivial, ?_⟩
          have g8 := gd h8
          obtain ⟨⟨x0, x1⟩, y0, y1⟩ := HDD.out u hS
          go_simp
          exact Goes.same hS rfl
        refine EachOp.cons ?_ ?_
        · intro a u hst hS hdep
          have h9 : a.tmps.getD 9 undef = .pointer (some ⟨ub, 0, none⟩) := hst.out 9 (by kernel_rfl)
          refine ⟨trivial, ?_⟩
          have g9 := gd h9
          obtain ⟨⟨x0, x1⟩, y0, y1⟩ := HDD.out u hS
          go_simp
          exact Goes.same hS rfl
        refine EachOp.cons ?_ ?_
        · intro a u hst hS hdep
          have h127 : a.tmps.getD 127 undef = .agg #[.int .u64 te, .int .u64 tp] := hdep 127 (by kernel_rfl)
          have h128 : a.tmps.getD 128 undef = .agg #[.int .u64 ue, .int .u64 up] := hdep 128 (by kernel_rfl)
          refine ⟨trivial, ?_⟩
          have g127 := gd h127
          have g128 := gd h128
          go_simp
          refine (H1.out u).mono ?_
          rintro e u' ⟨rfl, hb'⟩
          exact Goes.next (kp_trans hS hb') hb' rfl
        refine EachOp.cons ?_ ?_
        · intro a u hst hS hdep
          have h8 : a.tmps.getD 8 undef = .pointer (some ⟨tb, 0, none⟩) := hst.out 8 (by kernel_rfl)
          refine ⟨trivial, ?_⟩
          have g8 := gd h8
          obtain ⟨⟨x0, x1⟩, y0, y1⟩ := HDD.out u hS
          go_simp
          exact Goes.same hS rfl
        refine EachOp.cons ?_ ?_
        · intro a u hst hS hdep
          have h9 : a.tmps.getD 9 undef = .pointer (some ⟨ub, 0, none⟩) := hst.out 9 (by kernel_rfl)
          refine ⟨trivial, ?_⟩
          have g9 := gd h9
          obtain ⟨⟨x0, x1⟩, y0, y1⟩ := HDD.out u hS
          go_simp
          exact Goes.same hS rfl
        refine EachOp.cons ?_ ?_
        · intro a u hst hS hdep
          have h130 : a.tmps.getD 130 undef = .agg #[.int .u64 te, .int .u64 tp] := hdep 130 (by kernel_rfl)
          have h131 : a.tmps.getD 131 undef = .agg #[.int .u64 ue, .int .u64 up] := hdep 131 (by kernel_rfl)
          refine ⟨trivial, ?_⟩
          have g130 := gd h130
          have g131 := gd h131
          go_simp
          refine (H2.out u).mono ?_
          rintro e u' ⟨rfl, hb'⟩
          exact Goes.next (kp_trans hS hb') hb' rfl
        refine EachOp.cons ?_ ?_
        · intro a u hst hS hdep
          have h129 : a.tmps.getD 129 undef = .agg #[.int .u64 le, .int .u64 lp] := hdep 129 (by kernel_rfl)
          have h132 : a.tmps.getD 132 undef = .agg #[.int .u64 le, .int .u64 lp] := hdep 132 (by kernel_rfl)
          refine ⟨trivial, ?_⟩
          have g129 := gd h129
          have g132 := gd h132
          go_simp
          exact Goes.same hS rfl
        refine EachOp.cons ?_ ?_
        · intro a u hst hS hdep
          have h133 : a.tmps.getD 133 undef = .bool true := hdep 133 (by kernel_rfl)
          refine ⟨trivial, ?_⟩
          have g133 := gd h133
          go_simp
          exact Goes.same hS rfl
        exact EachOp.nil
      · intro a u hst hS hdep
        have h127 : a.tmps.getD 127 undef = .agg #[.int .u64 te, .int .u64 tp] := hdep 127 (by kernel_rfl)
        have h128 : a.tmps.getD 128 undef = .agg #[.int .u64 ue, .int .u64 up] := hdep 128 (by kernel_rfl)
        have h129 : a.tmps.getD 129 undef = .agg #[.int .u64 le, .int .u64 lp] := hdep 129 (by kernel_rfl)
        have h130 : a.tmps.getD 130 undef = .agg #[.int .u64 te, .int .u64 tp] := hdep 130 (by kernel_rfl)
        have h131 : a.tmps.getD 131 undef = .agg #[.int .u64 ue, .int .u64 up] := hdep 131 (by kernel_rfl)
        have h132 : a.tmps.getD 132 undef = .agg #[.int .u64 le, .int .u64 lp] := hdep 132 (by kernel_rfl)
        have h133 : a.tmps.getD 133 undef = .bool true := hdep 133 (by kernel_rfl)
        have h12 : a.tmps.getD 12 undef = .bool true := hdep 12 (by kernel_rfl)
        have hfr := hst.frame [(127, .agg #[.int .u64 te, .int .u64 tp]), (128, .agg #[.int .u64 ue, .int .u64 up]), (129, .agg #[.int .u64 le, .int .u64 lp]), (130, .agg #[.int .u64 te, .int .u64 tp]), (131, .agg #[.int .u64 ue, .int .u64 up]), (132, .agg #[.int .u64 le, .int .u64 lp]), (133, .bool true), (12, .bool true)] (by kernel_rfl) ⟨h127, h128, h129, h130, h131, h132, h133, h12, trivial⟩
        clear hst hdep h127 h128 h129 h130 h131 h132 h133 h12
        subst hfr
        simp only [List.foldl_cons, List.foldl_nil, List.setIfInBounds_toArray, List.set_cons_zero, List.set_cons_succ]
        go_wp2_with fail
        go_ret
        exact ⟨rfl, hd.out.low.trans (hS.mono hd.out.low.size)⟩
end Go.Proofs.Ytpmkaceeomnijaa
