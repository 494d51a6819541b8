/-
  ViewOrder, of layer 14: the walk, out of what is asked of the project's view.
-/
import Derived.Test.YtpmkaceeomnijaaViA
import Derived.Test.YtpmkaceeomnijaaReg2
namespace Go.Proofs.Ytpmkaceeomnijaa
open Go.RowKit
set_option maxRecDepth 100000

set_option maxHeartbeats 16000000 in
theorem vieworder_walk {X : Nat → Vw → Thing} (C : ViewC X) (pr : Int) (A1 : Option Addr) (l1 c1 : Nat) (ts : List Pm) (ep a b at_ pl : Int) (W : World) (hpr : IsI pr) (r1 : PMR W A1 l1 ts) (hy : ∀ x ∈ ts, IsU x.e ∧ IsU x.c ∧ IsI x.p) (hep : IsU ep) (ha : IsU a) (hb : IsU b) (hat : IsU at_) (hpl : IsU pl) :
    Calls Try.prog 5 #[.int .i64 pr, .slice A1 l1 c1, .int .u64 ep, .int .u64 a, .int .u64 b, .int .u64 at_, .int .u64 pl] W fun e w' => e = .returned (.bool true) ∧ Below W.heap.size W w' := by
  have HC := Lib.hid C
  have HAW := Lib.hid (awake14_ok C W)
  have R1 := Lib.hid r1
  have HY := Lib.hid hy
  have HU := Lib.hid (And.intro hep (And.intro hat hpl))
  have HPR := Lib.hid hpr
  obtain ⟨x, hmn, hx⟩ : ∃ x : Int, (∀ (u : World) (ts : Array TypeId) (ty : TypeId), (Builtin.min_ ts ty #[.int .u64 a, .int .u64 b]).run Try.prog u = .ok (.int .u64 x) u) ∧ x = (if b < a then b else a) := ⟨_, fun u ts ty => run_min_int2 (P := Try.prog) (w := u) ts ty .u64 .u64 a b, rfl⟩
  obtain ⟨y, hmx, hy'⟩ : ∃ y : Int, (∀ (u : World) (ts : Array TypeId) (ty : TypeId), (Builtin.max_ ts ty #[.int .u64 a, .int .u64 b]).run Try.prog u = .ok (.int .u64 y) u) ∧ y = (if b > a then b else a) := ⟨_, fun u ts ty => run_max_int2 (P := Try.prog) (w := u) ts ty .u64 .u64 a b, rfl⟩
  have hxy : x ≤ y := by rw [hx, hy']; split <;> split <;> omega
  have hux : IsU x := by rw [hx]; split <;> assumption
  have huy : IsU y := by rw [hy']; split <;> assumption
  have HXY := Lib.hid (And.intro hxy (And.intro hux huy))
  clear r1 C hy hep ha hb hat hpl hx hy' hxy hux huy hpr
  go_enter Try.func5, Try.ntmps5
  go_wp2_with fail
  refine HAW.out.mono ?_
  rintro e w1 ⟨rfl, k1⟩
  have HK1 := Lib.hid k1
  clear HAW k1
  by_cases hbig : 100 < l1
  · have hb2 : (100 : Int) < (l1 : Int) := by omega
    go_wp2_with fail
    go_ret
    exact ⟨rfl, HK1.out⟩
  have hb2 : ¬ (100 : Int) < (l1 : Int) := by omega
  have HLL : Hid (l1 ≤ 100) := Lib.hid (by omega)
  have HT := Lib.hid (learned_ok HC.out pr A1 l1 c1 ts w1 HPR.out (R1.out.next (HK1.out.mono (Nat.le_refl _))) (by omega) HY.out)
  clear hbig
  go_wp2_with fail
  refine HT.out.mono ?_
  rintro e w2 ⟨bv, rfl, s2, hv2⟩
  have HV := Lib.hid (hv2.more HLL.out)
  generalize learnsC (newVw pr) ts = v at *
  have HS2 : Hid (Below W.heap.size W w2 ∧ ∃ S, (X bv v).p S w2) := Lib.hid ⟨HK1.out.trans (s2.low.mono HK1.out.size), by obtain ⟨S, h, _⟩ := s2.at_; exact ⟨S, h⟩⟩
  obtain ⟨w3, hw3⟩ : ∃ u, (w2.alloc (.cells #[.int .u64 ep, .int .u64 x] 25)).alloc (.cells #[.int .u64 ep, .int .u64 y] 25) = u := ⟨_, rfl⟩
  have k3 : Below w2.heap.size w2 w3 := hw3 ▸ kp_alloc (kp_new _ _) _
  have hz3 : w2.heap.size + 2 = w3.heap.size := by rw [← hw3]; simp
  have b0 : w3.heap[w2.heap.size]? = some (.cells #[.int .u64 ep, .int .u64 x] 25 (0, 0)) := by
    rw [← hw3, heap_alloc_old _ _ (by simp)]
    exact heap_alloc_new w2 _
  have b1 : w3.heap[w2.heap.size + 1]? = some (.cells #[.int .u64 ep, .int .u64 y] 25 (0, 0)) := by
    rw [← hw3]
    have := heap_alloc_new (w2.alloc (.cells #[.int .u64 ep, .int .u64 x] 25)) (.cells #[.int .u64 ep, .int .u64 y] 25)
    rwa [World.size_alloc] at this
  obtain ⟨bx, hbx⟩ : ∃ z, w2.heap.size = z := ⟨_, rfl⟩
  have HB : Hid (∀ u, Below w3.heap.size w3 u → (u.cell? ⟨bx, 0, none⟩ = some (.int .u64 ep) ∧ u.cell? ⟨bx, 1, none⟩ = some (.int .u64 x)) ∧ u.cell? ⟨bx + 1, 0, none⟩ = some (.int .u64 ep) ∧ u.cell? ⟨bx + 1, 1, none⟩ = some (.int .u64 y)) := Lib.hid fun u hu => by
    have d0 := (hu.block _ (by omega)).trans b0
    have d1 := (hu.block _ (by omega)).trans b1
    rw [hbx] at d0 d1
    exact ⟨⟨(cellsAt d0 0 rfl).1, (cellsAt d0 1 rfl).1⟩, (cellsAt d1 0 rfl).1, (cellsAt d1 1 rfl).1⟩
  have HF : Hid (∀ u, Below w3.heap.size w3 u → ∃ S, (X bv v).p S u) := Lib.hid fun u hu => by
    obtain ⟨S, h⟩ := HS2.out.2
    exact ⟨S, Thing.next (Thing.next h k3) hu⟩
  have HK3 : Hid (Below W.heap.size W w3) := Lib.hid (HS2.out.1.trans (k3.mono HS2.out.1.size))
  have HW3 := Lib.hid hw3
  have HBX := Lib.hid hbx
  have HLB : Hid (bx + 1 < w3.heap.size) := Lib.hid (by omega)
  obtain ⟨⟨ue, up⟩, hu1⟩ : ∃ z, bringF v ⟨ep, x⟩ = z := ⟨_, rfl⟩
  obtain ⟨⟨ve, vp⟩, hu2⟩ : ∃ z, bringF v ⟨ep, y⟩ = z := ⟨_, rfl⟩
  obtain ⟨one, ho⟩ : ∃ z, bringB v ⟨ep, x⟩ = z := ⟨_, rfl⟩
  obtain ⟨two, ht⟩ : ∃ z, bringB v ⟨ep, y⟩ = z := ⟨_, rfl⟩
  obtain ⟨cx, hcx⟩ : ∃ z, coversB v ⟨ep, x⟩ at_ pl = z := ⟨_, rfl⟩
  obtain ⟨cy, hcy⟩ : ∃ z, coversB v ⟨ep, y⟩ at_ pl = z := ⟨_, rfl⟩
  have H1 : Hid (∀ u, Below w3.heap.size w3 u → Calls Try.prog 9 #[.pointer (some ⟨bv, 0, none⟩), .agg #[.int .u64 ep, .int .u64 x]] u fun e w' => e = .returned (.tuple #[.agg #[.int .u64 ue, .int .u64 up], .bool one]) ∧ Below u.heap.size u w') := Lib.hid fun u hu => by
    obtain ⟨S, h⟩ := HF.out u hu
    have := HC.out.bring bv v _ ⟨ep, x⟩ S u h HV.out (by decide) HU.out.1 HXY.out.2.1
    rw [hu1, ho] at this
    exact this
  have H2 : Hid (∀ u, Below w3.heap.size w3 u → Calls Try.prog 9 #[.pointer (some ⟨bv, 0, none⟩), .agg #[.int .u64 ep, .int .u64 y]] u fun e w' => e = .returned (.tuple #[.agg #[.int .u64 ve, .int .u64 vp], .bool two]) ∧ Below u.heap.size u w') := Lib.hid fun u hu => by
    obtain ⟨S, h⟩ := HF.out u hu
    have := HC.out.bring bv v _ ⟨ep, y⟩ S u h HV.out (by decide) HU.out.1 HXY.out.2.2
    rw [hu2, ht] at this
    exact this
  have H3 : Hid (∀ u, Below w3.heap.size w3 u → Calls Try.prog 11 #[.pointer (some ⟨bv, 0, none⟩), .agg #[.int .u64 ep, .int .u64 y], .int .u64 at_, .int .u64 pl] u fun e w' => e = .returned (.bool cy) ∧ Below u.heap.size u w') := Lib.hid fun u hu => by
    obtain ⟨S, h⟩ := HF.out u hu
    have := HC.out.covers bv v _ ⟨ep, y⟩ at_ pl S u h HV.out (by decide) HU.out.1 HXY.out.2.2 HU.out.2.1 HU.out.2.2
    rw [hcy] at this
    exact this
  have H4 : Hid (∀ u, Below w3.heap.size w3 u → Calls Try.prog 11 #[.pointer (some ⟨bv, 0, none⟩), .agg #[.int .u64 ep, .int .u64 x], .int .u64 at_, .int .u64 pl] u fun e w' => e = .returned (.bool cx) ∧ Below u.heap.size u w') := Lib.hid fun u hu => by
    obtain ⟨S, h⟩ := HF.out u hu
    have := HC.out.covers bv v _ ⟨ep, x⟩ at_ pl S u h HV.out (by decide) HU.out.1 HXY.out.2.1 HU.out.2.1 HU.out.2.2
    rw [hcx] at this
    exact this
  have H5 : Hid (∀ u, Calls Try.prog 17 #[.agg #[.int .u64 ep, .int .u64 x], .agg #[.int .u64 ep, .int .u64 y]] u fun e w' => e = .returned (.agg #[.int .u64 ep, .int .u64 y]) ∧ Below u.heap.size u w') := Lib.hid fun u => by
    have := HC.out.later ⟨ep, x⟩ ⟨ep, y⟩ u HU.out.1 HXY.out.2.1 HU.out.1 HXY.out.2.2
    rw [(later_order HXY.out.1).1] at this
    exact this
  have H6 : Hid (∀ u, Calls Try.prog 17 #[.agg #[.int .u64 ep, .int .u64 y], .agg #[.int .u64 ep, .int .u64 x]] u fun e w' => e = .returned (.agg #[.int .u64 ep, .int .u64 y]) ∧ Below u.heap.size u w') := Lib.hid fun u => by
    have := HC.out.later ⟨ep, y⟩ ⟨ep, x⟩ u HU.out.1 HXY.out.2.2 HU.out.1 HXY.out.2.1
    rw [(later_order HXY.out.1).2] at this
    exact this
  have HOT : Hid (two = true → one = true) := Lib.hid fun h => by rw [← ho]; exact bring_order HXY.out.1 (ht.trans h)
  have HCT : Hid (cy = true → cx = true) := Lib.hid fun h => by rw [← hcx]; exact covers_order HXY.out.1 (hcy.trans h)
  clear HT s2 hv2 HS2 k3 hz3 b0 b1 hw3 hu1 hu2 ho ht hcx hcy HF HV HU HXY hbx
  have HT := Lib.hid (H1.out w3 (Below.refl _ _))
  go_wp2_with fail
  rw [HW3.out, HBX.out]
  refine HT.out.mono ?_
  rintro e w4 ⟨rfl, k4⟩
  clear HT
  have k5 := k4.trans ((kp_new w4 (.cells #[.int .u64 ue, .int .u64 up] 25)).mono k4.size)
  obtain ⟨_, y0, y1⟩ := HB.out w4 k4
  have hlb : bx + 1 < w4.heap.size := Nat.lt_of_lt_of_le HLB.out k4.size
  have HT := Lib.hid (H2.out _ k5)
  have HK5 := Lib.hid k5
  clear H1 H2 k4 k5 HW3
  go_wp2_with fail
  refine HT.out.mono ?_
  rintro e w6 ⟨rfl, k6⟩
  clear HT
  have k7 := HK5.out.trans ((k6.trans ((kp_new w6 (.cells #[.int .u64 ve, .int .u64 vp] 25)).mono k6.size)).mono HK5.out.size)
  have k6' := HK5.out.trans (k6.mono HK5.out.size)
  obtain ⟨_, y0, y1⟩ := HB.out w6 k6'
  have hlb : bx + 1 < w6.heap.size := Nat.lt_of_lt_of_le HLB.out k6'.size
  have HK7 := Lib.hid k7
  have HT := Lib.hid (H3.out _ k7)
  clear HK5 k6 k7 k6' H3
  have hno : (!one && two) = false := by
    cases two with
    | false => simp
    | true => rw [HOT.out rfl]; rfl
  cases one with
  | false =>
    obtain rfl : two = false := by simpa using hno
    clear hno
    go_wp2_with fail
    refine HT.out.mono ?_
    rintro e w8 ⟨rfl, k8⟩
    clear HT
    have k9 := HK7.out.trans (k8.mono HK7.out.size)
    obtain ⟨⟨x0, x1⟩, y0, y1⟩ := HB.out w8 k9
    have HK9 := Lib.hid k9
    have HT := Lib.hid (H4.out _ k9)
    clear HK7 k8 k9 H4
    cases cy with
    | true =>
      obtain rfl : cx = true := HCT.out rfl
      go_wp2_with fail
      refine HT.out.mono ?_
      rintro e wa ⟨rfl, ka⟩
      have HKA := Lib.hid (HK9.out.trans (ka.mono HK9.out.size))
      clear HK9 ka x0 x1 y0 y1 HT
      go_wp2_with fail
      refine wp_region_specs (S := fun u => Below wa.heap.size wa u) (Sp := [(72, Stb.eq (.agg #[.int .u64 ep, .int .u64 x])), (73, Stb.eq (.agg #[.int .u64 ep, .int .u64 y])), (74, Stb.eq (.agg #[.int .u64 ep, .int .u64 y])), (75, Stb.eq (.agg #[.int .u64 ep, .int .u64 y])), (76, Stb.eq (.bool true)), (77, Stb.eq (.bool true)), (78, Stb.eq (.agg #[.int .u64 ep, .int .u64 y])), (79, Stb.eq (.agg #[.int .u64 ep, .int .u64 x])), (80, Stb.eq (.agg #[.int .u64 ep, .int .u64 y])), (81, Stb.eq (.agg #[.int .u64 ep, .int .u64 y])), (82, Stb.eq (.bool true)), (83, Stb.eq (.bool true)), (14, Stb.eq (.bool true))]) (by kernel_rfl) (by kernel_rfl) (kp_drewN _ 1) ?_ ?_
      · refine EachOp.cons ?_ ?_
        · intro a u hst hS hdep
          have h16 : a.tmps.getD 16 undef = .pointer (some ⟨bx, 0, none⟩) := hst.out 16 (by kernel_rfl)
          refine ⟨trivial, ?_⟩
          have g16 := gd h16
          obtain ⟨⟨x0, x1⟩, y0, y1⟩ := HB.out u (HKA.out.trans (hS.mono HKA.out.size))
          go_simp
          exact Goes.same hS rfl
        refine EachOp.cons ?_ ?_
        · intro a u hst hS hdep
          have h17 : a.tmps.getD 17 undef = .pointer (some ⟨bx + 1, 0, none⟩) := hst.out 17 (by kernel_rfl)
          refine ⟨trivial, ?_⟩
          have g17 := gd h17
          obtain ⟨⟨x0, x1⟩, y0, y1⟩ := HB.out u (HKA.out.trans (hS.mono HKA.out.size))
          go_simp
          exact Goes.same hS rfl
        refine EachOp.cons ?_ ?_
        · intro a u hst hS hdep
          have h72 : a.tmps.getD 72 undef = .agg #[.int .u64 ep, .int .u64 x] := hdep 72 (by kernel_rfl)
          have h73 : a.tmps.getD 73 undef = .agg #[.int .u64 ep, .int .u64 y] := hdep 73 (by kernel_rfl)
          refine ⟨trivial, ?_⟩
          have g72 := gd h72
          have g73 := gd h73
          go_simp
          refine (H5.out u).mono ?_
          rintro e u' ⟨rfl, hb'⟩
          exact Goes.next (kp_trans hS hb') hb' rfl
        refine EachOp.cons ?_ ?_
        · intro a u hst hS hdep
          have h17 : a.tmps.getD 17 undef = .pointer (some ⟨bx + 1, 0, none⟩) := hst.out 17 (by kernel_rfl)
          refine ⟨trivial, ?_⟩
          have g17 := gd h17
          obtain ⟨⟨x0, x1⟩, y0, y1⟩ := HB.out u (HKA.out.trans (hS.mono HKA.out.size))
          go_simp
          exact Goes.same hS rfl
        refine EachOp.cons ?_ ?_
        · intro a u hst hS hdep
          have h74 : a.tmps.getD 74 undef = .agg #[.int .u64 ep, .int .u64 y] := hdep 74 (by kernel_rfl)
          have h75 : a.tmps.getD 75 undef = .agg #[.int .u64 ep, .int .u64 y] := hdep 75 (by kernel_rfl)
          refine ⟨trivial, ?_⟩
          have g74 := gd h74
          have g75 := gd h75
          go_simp
          exact Goes.same hS rfl
        refine EachOp.cons ?_ ?_
        · intro a u hst hS hdep
          have h76 : a.tmps.getD 76 undef = .bool true := hdep 76 (by kernel_rfl)
          refine ⟨trivial, ?_⟩
          have g76 := gd h76
          go_simp
          exact Goes.same hS rfl
        refine EachOp.cons ?_ ?_
        · intro a u hst hS hdep
          have h17 : a.tmps.getD 17 undef = .pointer (some ⟨bx + 1, 0, none⟩) := hst.out 17 (by kernel_rfl)
          have h77 : a.tmps.getD 77 undef = .bool true := hdep 77 (by kernel_rfl)
          refine ⟨⟨77, by kernel_rfl, h77⟩, ?_⟩
          clear h77
          have g17 := gd h17
          obtain ⟨⟨x0, x1⟩, y0, y1⟩ := HB.out u (HKA.out.trans (hS.mono HKA.out.size))
          go_simp
          exact Goes.same hS rfl
        refine EachOp.cons ?_ ?_
        · intro a u hst hS hdep
          have h16 : a.tmps.getD 16 undef = .pointer (some ⟨bx, 0, none⟩) := hst.out 16 (by kernel_rfl)
          have h77 : a.tmps.getD 77 undef = .bool true := hdep 77 (by kernel_rfl)
          refine ⟨⟨77, by kernel_rfl, h77⟩, ?_⟩
          clear h77
          have g16 := gd h16
          obtain ⟨⟨x0, x1⟩, y0, y1⟩ := HB.out u (HKA.out.trans (hS.mono HKA.out.size))
          go_simp
          exact Goes.same hS rfl
        refine EachOp.cons ?_ ?_
        · intro a u hst hS hdep
          have h78 : a.tmps.getD 78 undef = .agg #[.int .u64 ep, .int .u64 y] := hdep 78 (by kernel_rfl)
          have h79 : a.tmps.getD 79 undef = .agg #[.int .u64 ep, .int .u64 x] := hdep 79 (by kernel_rfl)
          have h77 : a.tmps.getD 77 undef = .bool true := hdep 77 (by kernel_rfl)
          refine ⟨⟨77, by kernel_rfl, h77⟩, ?_⟩
          clear h77
          have g78 := gd h78
          have g79 := gd h79
          go_simp
          refine (H6.out u).mono ?_
          rintro e u' ⟨rfl, hb'⟩
          exact Goes.next (kp_trans hS hb') hb' rfl
        refine EachOp.cons ?_ ?_
        · intro a u hst hS hdep
          have h17 : a.tmps.getD 17 undef = .pointer (some ⟨bx + 1, 0, none⟩) := hst.out 17 (by kernel_rfl)
          have h77 : a.tmps.getD 77 undef = .bool true := hdep 77 (by kernel_rfl)
          refine ⟨⟨77, by kernel_rfl, h77⟩, ?_⟩
          clear h77
          have g17 := gd h17
          obtain ⟨⟨x0, x1⟩, y0, y1⟩ := HB.out u (HKA.out.trans (hS.mono HKA.out.size))
          go_simp
          exact Goes.same hS rfl
        refine EachOp.cons ?_ ?_
        · intro a u hst hS hdep
          have h80 : a.tmps.getD 80 undef = .agg #[.int .u64 ep, .int .u64 y] := hdep 80 (by kernel_rfl)
          have h81 : a.tmps.getD 81 undef = .agg #[.int .u64 ep, .int .u64 y] := hdep 81 (by kernel_rfl)
          have h77 : a.tmps.getD 77 undef = .bool true := hdep 77 (by kernel_rfl)
          refine ⟨⟨77, by kernel_rfl, h77⟩, ?_⟩
          clear h77
          have g80 := gd h80
          have g81 := gd h81
          go_simp
          exact Goes.same hS rfl
        refine EachOp.cons ?_ ?_
        · intro a u hst hS hdep
          have h77 : a.tmps.getD 77 undef = .bool true := hdep 77 (by kernel_rfl)
          have h82 : a.tmps.getD 82 undef = .bool true := hdep 82 (by kernel_rfl)
          refine ⟨trivial, ?_⟩
          have g77 := gd h77
          have g82 := gd h82
          go_simp
          exact Goes.same hS rfl
        refine EachOp.cons ?_ ?_
        · intro a u hst hS hdep
          have h83 : a.tmps.getD 83 undef = .bool true := hdep 83 (by kernel_rfl)
          refine ⟨trivial, ?_⟩
          have g83 := gd h83
          go_simp
          exact Goes.same hS rfl
        exact EachOp.nil
      · intro a u hst hS hdep
        have h72 : a.tmps.getD 72 undef = .agg #[.int .u64 ep, .int .u64 x] := hdep 72 (by kernel_rfl)
        have h73 : a.tmps.getD 73 undef = .agg #[.int .u64 ep, .int .u64 y] := hdep 73 (by kernel_rfl)
        have h74 : a.tmps.getD 74 undef = .agg #[.int .u64 ep, .int .u64 y] := hdep 74 (by kernel_rfl)
        have h75 : a.tmps.getD 75 undef = .agg #[.int .u64 ep, .int .u64 y] := hdep 75 (by kernel_rfl)
        have h76 : a.tmps.getD 76 undef = .bool true := hdep 76 (by kernel_rfl)
        have h77 : a.tmps.getD 77 undef = .bool true := hdep 77 (by kernel_rfl)
        have h78 : a.tmps.getD 78 undef = .agg #[.int .u64 ep, .int .u64 y] := hdep 78 (by kernel_rfl)
        have h79 : a.tmps.getD 79 undef = .agg #[.int .u64 ep, .int .u64 x] := hdep 79 (by kernel_rfl)
        have h80 : a.tmps.getD 80 undef = .agg #[.int .u64 ep, .int .u64 y] := hdep 80 (by kernel_rfl)
        have h81 : a.tmps.getD 81 undef = .agg #[.int .u64 ep, .int .u64 y] := hdep 81 (by kernel_rfl)
        have h82 : a.tmps.getD 82 undef = .bool true := hdep 82 (by kernel_rfl)
        have h83 : a.tmps.getD 83 undef = .bool true := hdep 83 (by kernel_rfl)
        have h14 : a.tmps.getD 14 undef = .bool true := hdep 14 (by kernel_rfl)
        have hfr := hst.frame [(72, .agg #[.int .u64 ep, .int .u64 x]), (73, .agg #[.int .u64 ep, .int .u64 y]), (74, .agg #[.int .u64 ep, .int .u64 y]), (75, .agg #[.int .u64 ep, .int .u64 y]), (76, .bool true), (77, .bool true), (78, .agg #[.int .u64 ep, .int .u64 y]), (79, .agg #[.int .u64 ep, .int .u64 x]), (80, .agg #[.int .u64 ep, .int .u64 y]), (81, .agg #[.int .u64 ep, .int .u64 y]), (82, .bool true), (83, .bool true), (14, .bool true)] (by kernel_rfl) ⟨h72, h73, h74, h75, h76, h77, h78, h79, h80, h81, h82, h83, h14, trivial⟩
        clear hst hdep h72 h73 h74 h75 h76 h77 h78 h79 h80 h81 h82 h83 h14
        subst hfr
        simp only [List.foldl_cons, List.foldl_nil, List.setIfInBounds_toArray, List.set_cons_zero, List.set_cons_succ]
        go_wp2_with fail
        go_ret
        exact ⟨rfl, HK3.out.trans ((HKA.out.trans (hS.mono HKA.out.size)).mono HK3.out.size)⟩
    | false =>
      have HKA := HK9
      clear HK9 x0 x1 y0 y1 HT
      go_wp2_with fail
      refine wp_region_specs (S := fun u => Below w8.heap.size w8 u) (Sp := [(72, Stb.eq (.agg #[.int .u64 ep, .int .u64 x])), (73, Stb.eq (.agg #[.int .u64 ep, .int .u64 y])), (74, Stb.eq (.agg #[.int .u64 ep, .int .u64 y])), (75, Stb.eq (.agg #[.int .u64 ep, .int .u64 y])), (76, Stb.eq (.bool true)), (77, Stb.eq (.bool true)), (78, Stb.eq (.agg #[.int .u64 ep, .int .u64 y])), (79, Stb.eq (.agg #[.int .u64 ep, .int .u64 x])), (80, Stb.eq (.agg #[.int .u64 ep, .int .u64 y])), (81, Stb.eq (.agg #[.int .u64 ep, .int .u64 y])), (82, Stb.eq (.bool true)), (83, Stb.eq (.bool true)), (14, Stb.eq (.bool true))]) (by kernel_rfl) (by kernel_rfl) (kp_drewN _ 1) ?_ ?_
      · refine EachOp.cons ?_ ?_
        · intro a u hst hS hdep
          have h16 : a.tmps.getD 16 undef = .pointer (some ⟨bx, 0, none⟩) := hst.out 16 (by kernel_rfl)
          refine ⟨trivial, ?_⟩
          have g16 := gd h16
          obtain ⟨⟨x0, x1⟩, y0, y1⟩ := HB.out u (HKA.out.trans (hS.mono HKA.out.size))
          go_simp
          exact Goes.same hS rfl
        refine EachOp.cons ?_ ?_
        · intro a u hst hS hdep
          have h17 : a.tmps.getD 17 undef = .pointer (some ⟨bx + 1, 0, none⟩) := hst.out 17 (by kernel_rfl)
          refine ⟨trivial, ?_⟩
          have g17 := gd h17
          obtain ⟨⟨x0, x1⟩, y0, y1⟩ := HB.out u (HKA.out.trans (hS.mono HKA.out.size))
          go_simp
          exact Goes.same hS rfl
        refine EachOp.cons ?_ ?_
        · intro a u hst hS hdep
          have h72 : a.tmps.getD 72 undef = .agg #[.int .u64 ep, .int .u64 x] := hdep 72 (by kernel_rfl)
          have h73 : a.tmps.getD 73 undef = .agg #[.int .u64 ep, .int .u64 y] := hdep 73 (by kernel_rfl)
          refine ⟨trivial, ?_⟩
          have g72 := gd h72
          have g73 := gd h73
          go_simp
          refine (H5.out u).mono ?_
          rintro e u' ⟨rfl, hb'⟩
          exact Goes.next (kp_trans hS hb') hb' rfl
        refine EachOp.cons ?_ ?_
        · intro a u hst hS hdep
          have h17 : a.tmps.getD 17 undef = .pointer (some ⟨bx + 1, 0, none⟩) := hst.out 17 (by kernel_rfl)
          refine ⟨trivial, ?_⟩
          have g17 := gd h17
          obtain ⟨⟨x0, x1⟩, y0, y1⟩ := HB.out u (HKA.out.trans (hS.mono HKA.out.size))
          go_simp
          exact Goes.same hS rfl
        refine EachOp.cons ?_ ?_
        · intro a u hst hS hdep
          have h74 : a.tmps.getD 74 undef = .agg #[.int .u64 ep, .int .u64 y] := hdep 74 (by kernel_rfl)
          have h75 : a.tmps.getD 75 undef = .agg #[.int .u64 ep, .int .u64 y] := hdep 75 (by kernel_rfl)
          refine ⟨trivial, ?_⟩
          have g74 := gd h74
          have g75 := gd h75
          go_simp
          exact Goes.same hS rfl
        refine EachOp.cons ?_ ?_
        · intro a u hst hS hdep
          have h76 : a.tmps.getD 76 undef = .bool true := hdep 76 (by kernel_rfl)
          refine ⟨trivial, ?_⟩
          have g76 := gd h76
          go_simp
          exact Goes.same hS rfl
        refine EachOp.cons ?_ ?_
        · intro a u hst hS hdep
          have h17 : a.tmps.getD 17 undef = .pointer (some ⟨bx + 1, 0, none⟩) := hst.out 17 (by kernel_rfl)
          have h77 : a.tmps.getD 77 undef = .bool true := hdep 77 (by kernel_rfl)
          refine ⟨⟨77, by kernel_rfl, h77⟩, ?_⟩
          clear h77
          have g17 := gd h17
          obtain ⟨⟨x0, x1⟩, y0, y1⟩ := HB.out u (HKA.out.trans (hS.mono HKA.out.size))
          go_simp
          exact Goes.same hS rfl
        refine EachOp.cons ?_ ?_
        · intro a u hst hS hdep
          have h16 : a.tmps.getD 16 undef = .pointer (some ⟨bx, 0, none⟩) := hst.out 16 (by kernel_rfl)
          have h77 : a.tmps.getD 77 undef = .bool true := hdep 77 (by kernel_rfl)
          refine ⟨⟨77, by kernel_rfl, h77⟩, ?_⟩
          clear h77
          have g16 := gd h16
          obtain ⟨⟨x0, x1⟩, y0, y1⟩ := HB.out u (HKA.out.trans (hS.mono HKA.out.size))
          go_simp
          exact Goes.same hS rfl
        refine EachOp.cons ?_ ?_
        · intro a u hst hS hdep
          have h78 : a.tmps.getD 78 undef = .agg #[.int .u64 ep, .int .u64 y] := hdep 78 (by kernel_rfl)
          have h79 : a.tmps.getD 79 undef = .agg #[.int .u64 ep, .int .u64 x] := hdep 79 (by kernel_rfl)
          have h77 : a.tmps.getD 77 undef = .bool true := hdep 77 (by kernel_rfl)
          refine ⟨⟨77, by kernel_rfl, h77⟩, ?_⟩
          clear h77
          have g78 := gd h78
          have g79 := gd h79
          go_simp
          refine (H6.out u).mono ?_
          rintro e u' ⟨rfl, hb'⟩
          exact Goes.next (kp_trans hS hb') hb' rfl
        refine EachOp.cons ?_ ?_
        · intro a u hst hS hdep
          have h17 : a.tmps.getD 17 undef = .pointer (some ⟨bx + 1, 0, none⟩) := hst.out 17 (by kernel_rfl)
          have h77 : a.tmps.getD 77 undef = .bool true := hdep 77 (by kernel_rfl)
          refine ⟨⟨77, by kernel_rfl, h77⟩, ?_⟩
          clear h77
          have g17 := gd h17
          obtain ⟨⟨x0, x1⟩, y0, y1⟩ := HB.out u (HKA.out.trans (hS.mono HKA.out.size))
          go_simp
          exact Goes.same hS rfl
        refine EachOp.cons ?_ ?_
        · intro a u hst hS hdep
          have h80 : a.tmps.getD 80 undef = .agg #[.int .u64 ep, .int .u64 y] := hdep 80 (by kernel_rfl)
          have h81 : a.tmps.getD 81 undef = .agg #[.int .u64 ep, .int .u64 y] := hdep 81 (by kernel_rfl)
          have h77 : a.tmps.getD 77 undef = .bool true := hdep 77 (by kernel_rfl)
          refine ⟨⟨77, by kernel_rfl, h77⟩, ?_⟩
          clear h77
          have g80 := gd h80
          have g81 := gd h81
          go_simp
          exact Goes.same hS rfl
        refine EachOp.cons ?_ ?_
        · intro a u hst hS hdep
          have h77 : a.tmps.getD 77 undef = .bool true := hdep 77 (by kernel_rfl)
          have h82 : a.tmps.getD 82 undef = .bool true := hdep 82 (by kernel_rfl)
          refine ⟨trivial, ?_⟩
          have g77 := gd h77
          have g82 := gd h82
          go_simp
          exact Goes.same hS rfl
        refine EachOp.cons ?_ ?_
        · intro a u hst hS hdep
          have h83 : a.tmps.getD 83 undef = .bool true := hdep 83 (by kernel_rfl)
          refine ⟨trivial, ?_⟩
          have g83 := gd h83
          go_simp
          exact Goes.same hS rfl
        exact EachOp.nil
      · intro a u hst hS hdep
        have h72 : a.tmps.getD 72 undef = .agg #[.int .u64 ep, .int .u64 x] := hdep 72 (by kernel_rfl)
        have h73 : a.tmps.getD 73 undef = .agg #[.int .u64 ep, .int .u64 y] := hdep 73 (by kernel_rfl)
        have h74 : a.tmps.getD 74 undef = .agg #[.int .u64 ep, .int .u64 y] := hdep 74 (by kernel_rfl)
        have h75 : a.tmps.getD 75 undef = .agg #[.int .u64 ep, .int .u64 y] := hdep 75 (by kernel_rfl)
        have h76 : a.tmps.getD 76 undef = .bool true := hdep 76 (by kernel_rfl)
        have h77 : a.tmps.getD 77 undef = .bool true := hdep 77 (by kernel_rfl)
        have h78 : a.tmps.getD 78 undef = .agg #[.int .u64 ep, .int .u64 y] := hdep 78 (by kernel_rfl)
        have h79 : a.tmps.getD 79 undef = .agg #[.int .u64 ep, .int .u64 x] := hdep 79 (by kernel_rfl)
        have h80 : a.tmps.getD 80 undef = .agg #[.int .u64 ep, .int .u64 y] := hdep 80 (by kernel_rfl)
        have h81 : a.tmps.getD 81 undef = .agg #[.int .u64 ep, .int .u64 y] := hdep 81 (by kernel_rfl)
        have h82 : a.tmps.getD 82 undef = .bool true := hdep 82 (by kernel_rfl)
        have h83 : a.tmps.getD 83 undef = .bool true := hdep 83 (by kernel_rfl)
        have h14 : a.tmps.getD 14 undef = .bool true := hdep 14 (by kernel_rfl)
        have hfr := hst.frame [(72, .agg #[.int .u64 ep, .int .u64 x]), (73, .agg #[.int .u64 ep, .int .u64 y]), (74, .agg #[.int .u64 ep, .int .u64 y]), (75, .agg #[.int .u64 ep, .int .u64 y]), (76, .bool true), (77, .bool true), (78, .agg #[.int .u64 ep, .int .u64 y]), (79, .agg #[.int .u64 ep, .int .u64 x]), (80, .agg #[.int .u64 ep, .int .u64 y]), (81, .agg #[.int .u64 ep, .int .u64 y]), (82, .bool true), (83, .bool true), (14, .bool true)] (by kernel_rfl) ⟨h72, h73, h74, h75, h76, h77, h78, h79, h80, h81, h82, h83, h14, trivial⟩
        clear hst hdep h72 h73 h74 h75 h76 h77 h78 h79 h80 h81 h82 h83 h14
        subst hfr
        simp only [List.foldl_cons, List.foldl_nil, List.setIfInBounds_toArray, List.set_cons_zero, List.set_cons_succ]
        go_wp2_with fail
        go_ret
        exact ⟨rfl, HK3.out.trans ((HKA.out.trans (hS.mono HKA.out.size)).mono HK3.out.size)⟩
  | true =>
    clear hno
    go_wp2_with fail
    refine HT.out.mono ?_
    rintro e w8 ⟨rfl, k8⟩
    clear HT
    have k9 := HK7.out.trans (k8.mono HK7.out.size)
    obtain ⟨⟨x0, x1⟩, y0, y1⟩ := HB.out w8 k9
    have HK9 := Lib.hid k9
    have HT := Lib.hid (H4.out _ k9)
    clear HK7 k8 k9 H4
    cases cy with
    | true =>
      obtain rfl : cx = true := HCT.out rfl
      go_wp2_with fail
      refine HT.out.mono ?_
      rintro e wa ⟨rfl, ka⟩
      have HKA := Lib.hid (HK9.out.trans (ka.mono HK9.out.size))
      clear HK9 ka x0 x1 y0 y1 HT
      go_wp2_with fail
      refine wp_region_specs (S := fun u => Below wa.heap.size wa u) (Sp := [(72, Stb.eq (.agg #[.int .u64 ep, .int .u64 x])), (73, Stb.eq (.agg #[.int .u64 ep, .int .u64 y])), (74, Stb.eq (.agg #[.int .u64 ep, .int .u64 y])), (75, Stb.eq (.agg #[.int .u64 ep, .int .u64 y])), (76, Stb.eq (.bool true)), (77, Stb.eq (.bool true)), (78, Stb.eq (.agg #[.int .u64 ep, .int .u64 y])), (79, Stb.eq (.agg #[.int .u64 ep, .int .u64 x])), (80, Stb.eq (.agg #[.int .u64 ep, .int .u64 y])), (81, Stb.eq (.agg #[.int .u64 ep, .int .u64 y])), (82, Stb.eq (.bool true)), (83, Stb.eq (.bool true)), (14, Stb.eq (.bool true))]) (by kernel_rfl) (by kernel_rfl) (kp_drewN _ 1) ?_ ?_
      · refine EachOp.cons ?_ ?_
        · intro a u hst hS hdep
          have h16 : a.tmps.getD 16 undef = .pointer (some ⟨bx, 0, none⟩) := hst.out 16 (by kernel_rfl)
          refine ⟨trivial, ?_⟩
          have g16 := gd h16
          obtain ⟨⟨x0, x1⟩, y0, y1⟩ := HB.out u (HKA.out.trans (hS.mono HKA.out.size))
          go_simp
          exact Goes.same hS rfl
        refine EachOp.cons ?_ ?_
        · intro a u hst hS hdep
          have h17 : a.tmps.getD 17 undef = .pointer (some ⟨bx + 1, 0, none⟩) := hst.out 17 (by kernel_rfl)
          refine ⟨trivial, ?_⟩
          have g17 := gd h17
          obtain ⟨⟨x0, x1⟩, y0, y1⟩ := HB.out u (HKA.out.trans (hS.mono HKA.out.size))
          go_simp
          exact Goes.same hS rfl
        refine EachOp.cons ?_ ?_
        · intro a u hst hS hdep
          have h72 : a.tmps.getD 72 undef = .agg #[.int .u64 ep, .int .u64 x] := hdep 72 (by kernel_rfl)
          have h73 : a.tmps.getD 73 undef = .agg #[.int .u64 ep, .int .u64 y] := hdep 73 (by kernel_rfl)
          refine ⟨trivial, ?_⟩
          have g72 := gd h72
          have g73 := gd h73
          go_simp
          refine (H5.out u).mono ?_
          rintro e u' ⟨rfl, hb'⟩
          exact Goes.next (kp_trans hS hb') hb' rfl
        refine EachOp.cons ?_ ?_
        · intro a u hst hS hdep
          have h17 : a.tmps.getD 17 undef = .pointer (some ⟨bx + 1, 0, none⟩) := hst.out 17 (by kernel_rfl)
          refine ⟨trivial, ?_⟩
          have g17 := gd h17
          obtain ⟨⟨x0, x1⟩, y0, y1⟩ := HB.out u (HKA.out.trans (hS.mono HKA.out.size))
          go_simp
          exact Goes.same hS rfl
        refine EachOp.cons ?_ ?_
        · intro a u hst hS hdep
          have h74 : a.tmps.getD 74 undef = .agg #[.int .u64 ep, .int .u64 y] := hdep 74 (by kernel_rfl)
          have h75 : a.tmps.getD 75 undef = .agg #[.int .u64 ep, .int .u64 y] := hdep 75 (by kernel_rfl)
          refine ⟨trivial, ?_⟩
          have g74 := gd h74
          have g75 := gd h75
          go_simp
          exact Goes.same hS rfl
        refine EachOp.cons ?_ ?_
        · intro a u hst hS hdep
          have h76 : a.tmps.getD 76 undef = .bool true := hdep 76 (by kernel_rfl)
          refine ⟨trivial, ?_⟩
          have g76 := gd h76
          go_simp
          exact Goes.same hS rfl
        refine EachOp.cons ?_ ?_
        · intro a u hst hS hdep
          have h17 : a.tmps.getD 17 undef = .pointer (some ⟨bx + 1, 0, none⟩) := hst.out 17 (by kernel_rfl)
          have h77 : a.tmps.getD 77 undef = .bool true := hdep 77 (by kernel_rfl)
          refine ⟨⟨77, by kernel_rfl, h77⟩, ?_⟩
          clear h77
          have g17 := gd h17
          obtain ⟨⟨x0, x1⟩, y0, y1⟩ := HB.out u (HKA.out.trans (hS.mono HKA.out.size))
          go_simp
          exact Goes.same hS rfl
        refine EachOp.cons ?_ ?_
        · intro a u hst hS hdep
          have h16 : a.tmps.getD 16 undef = .pointer (some ⟨bx, 0, none⟩) := hst.out 16 (by kernel_rfl)
          have h77 : a.tmps.getD 77 undef = .bool true := hdep 77 (by kernel_rfl)
          refine ⟨⟨77, by kernel_rfl, h77⟩, ?_⟩
          clear h77
          have g16 := gd h16
          obtain ⟨⟨x0, x1⟩, y0, y1⟩ := HB.out u (HKA.out.trans (hS.mono HKA.out.size))
          go_simp
          exact Goes.same hS rfl
        refine EachOp.cons ?_ ?_
        · intro a u hst hS hdep
          have h78 : a.tmps.getD 78 undef = .agg #[.int .u64 ep, .int .u64 y] := hdep 78 (by kernel_rfl)
          have h79 : a.tmps.getD 79 undef = .agg #[.int .u64 ep, .int .u64 x] := hdep 79 (by kernel_rfl)
          have h77 : a.tmps.getD 77 undef = .bool true := hdep 77 (by kernel_rfl)
          refine ⟨⟨77, by kernel_rfl, h77⟩, ?_⟩
          clear h77
          have g78 := gd h78
          have g79 := gd h79
          go_simp
          refine (H6.out u).mono ?_
          rintro e u' ⟨rfl, hb'⟩
          exact Goes.next (kp_trans hS hb') hb' rfl
        refine EachOp.cons ?_ ?_
        · intro a u hst hS hdep
          have h17 : a.tmps.getD 17 undef = .pointer (some ⟨bx + 1, 0, none⟩) := hst.out 17 (by kernel_rfl)
          have h77 : a.tmps.getD 77 undef = .bool true := hdep 77 (by kernel_rfl)
          refine ⟨⟨77, by kernel_rfl, h77⟩, ?_⟩
          clear h77
          have g17 := gd h17
          obtain ⟨⟨x0, x1⟩, y0, y1⟩ := HB.out u (HKA.out.trans (hS.mono HKA.out.size))
          go_simp
          exact Goes.same hS rfl
        refine EachOp.cons ?_ ?_
        · intro a u hst hS hdep
          have h80 : a.tmps.getD 80 undef = .agg #[.int .u64 ep, .int .u64 y] := hdep 80 (by kernel_rfl)
          have h81 : a.tmps.getD 81 undef = .agg #[.int .u64 ep, .int .u64 y] := hdep 81 (by kernel_rfl)
          have h77 : a.tmps.getD 77 undef = .bool true := hdep 77 (by kernel_rfl)
          refine ⟨⟨77, by kernel_rfl, h77⟩, ?_⟩
          clear h77
          have g80 := gd h80
          have g81 := gd h81
          go_simp
          exact Goes.same hS rfl
        refine EachOp.cons ?_ ?_
        · intro a u hst hS hdep
          have h77 : a.tmps.getD 77 undef = .bool true := hdep 77 (by kernel_rfl)
          have h82 : a.tmps.getD 82 undef = .bool true := hdep 82 (by kernel_rfl)
          refine ⟨trivial, ?_⟩
          have g77 := gd h77
          have g82 := gd h82
          go_simp
          exact Goes.same hS rfl
        refine EachOp.cons ?_ ?_
        · intro a u hst hS hdep
          have h83 : a.tmps.getD 83 undef = .bool true := hdep 83 (by kernel_rfl)
          refine ⟨trivial, ?_⟩
          have g83 := gd h83
          go_simp
          exact Goes.same hS rfl
        exact EachOp.nil
      · intro a u hst hS hdep
        have h72 : a.tmps.getD 72 undef = .agg #[.int .u64 ep, .int .u64 x] := hdep 72 (by kernel_rfl)
        have h73 : a.tmps.getD 73 undef = .agg #[.int .u64 ep, .int .u64 y] := hdep 73 (by kernel_rfl)
        have h74 : a.tmps.getD 74 undef = .agg #[.int .u64 ep, .int .u64 y] := hdep 74 (by kernel_rfl)
        have h75 : a.tmps.getD 75 undef = .agg #[.int .u64 ep, .int .u64 y] := hdep 75 (by kernel_rfl)
        have h76 : a.tmps.getD 76 undef = .bool true := hdep 76 (by kernel_rfl)
        have h77 : a.tmps.getD 77 undef = .bool true := hdep 77 (by kernel_rfl)
        have h78 : a.tmps.getD 78 undef = .agg #[.int .u64 ep, .int .u64 y] := hdep 78 (by kernel_rfl)
        have h79 : a.tmps.getD 79 undef = .agg #[.int .u64 ep, .int .u64 x] := hdep 79 (by kernel_rfl)
        have h80 : a.tmps.getD 80 undef = .agg #[.int .u64 ep, .int .u64 y] := hdep 80 (by kernel_rfl)
        have h81 : a.tmps.getD 81 undef = .agg #[.int .u64 ep, .int .u64 y] := hdep 81 (by kernel_rfl)
        have h82 : a.tmps.getD 82 undef = .bool true := hdep 82 (by kernel_rfl)
        have h83 : a.tmps.getD 83 undef = .bool true := hdep 83 (by kernel_rfl)
        have h14 : a.tmps.getD 14 undef = .bool true := hdep 14 (by kernel_rfl)
        have hfr := hst.frame [(72, .agg #[.int .u64 ep, .int .u64 x]), (73, .agg #[.int .u64 ep, .int .u64 y]), (74, .agg #[.int .u64 ep, .int .u64 y]), (75, .agg #[.int .u64 ep, .int .u64 y]), (76, .bool true), (77, .bool true), (78, .agg #[.int .u64 ep, .int .u64 y]), (79, .agg #[.int .u64 ep, .int .u64 x]), (80, .agg #[.int .u64 ep, .int .u64 y]), (81, .agg #[.int .u64 ep, .int .u64 y]), (82, .bool true), (83, .bool true), (14, .bool true)] (by kernel_rfl) ⟨h72, h73, h74, h75, h76, h77, h78, h79, h80, h81, h82, h83, h14, trivial⟩
        clear hst hdep h72 h73 h74 h75 h76 h77 h78 h79 h80 h81 h82 h83 h14
        subst hfr
        simp only [List.foldl_cons, List.foldl_nil, List.setIfInBounds_toArray, List.set_cons_zero, List.set_cons_succ]
        go_wp2_with fail
        go_ret
        exact ⟨rfl, HK3.out.trans ((HKA.out.trans (hS.mono HKA.out.size)).mono HK3.out.size)⟩
    | false =>
      have HKA := HK9
      clear HK9 x0 x1 y0 y1 HT
      go_wp2_with fail
      refine wp_region_specs (S := fun u => Below w8.heap.size w8 u) (Sp := [(72, Stb.eq (.agg #[.int .u64 ep, .int .u64 x])), (73, Stb.eq (.agg #[.int .u64 ep, .int .u64 y])), (74, Stb.eq (.agg #[.int .u64 ep, .int .u64 y])), (75, Stb.eq (.agg #[.int .u64 ep, .int .u64 y])), (76, Stb.eq (.bool true)), (77, Stb.eq (.bool true)), (78, Stb.eq (.agg #[.int .u64 ep, .int .u64 y])), (79, Stb.eq (.agg #[.int .u64 ep, .int .u64 x])), (80, Stb.eq (.agg #[.int .u64 ep, .int .u64 y])), (81, Stb.eq (.agg #[.int .u64 ep, .int .u64 y])), (82, Stb.eq (.bool true)), (83, Stb.eq (.bool true)), (14, Stb.eq (.bool true))]) (by kernel_rfl) (by kernel_rfl) (kp_drewN _ 1) ?_ ?_
      · refine EachOp.cons ?_ ?_
        · intro a u hst hS hdep
          have h16 : a.tmps.getD 16 undef = .pointer (some ⟨bx, 0, none⟩) := hst.out 16 (by kernel_rfl)
          refine ⟨trivial, ?_⟩
          have g16 := gd h16
          obtain ⟨⟨x0, x1⟩, y0, y1⟩ := HB.out u (HKA.out.trans (hS.mono HKA.out.size))
          go_simp
          exact Goes.same hS rfl
        refine EachOp.cons ?_ ?_
        · intro a u hst hS hdep
          have h17 : a.tmps.getD 17 undef = .pointer (some ⟨bx + 1, 0, none⟩) := hst.out 17 (by kernel_rfl)
          refine ⟨trivial, ?_⟩
          have g17 := gd h17
          obtain ⟨⟨x0, x1⟩, y0, y1⟩ := HB.out u (HKA.out.trans (hS.mono HKA.out.size))
          go_simp
          exact Goes.same hS rfl
        refine EachOp.cons ?_ ?_
        · intro a u hst hS hdep
          have h72 : a.tmps.getD 72 undef = .agg #[.int .u64 ep, .int .u64 x] := hdep 72 (by kernel_rfl)
          have h73 : a.tmps.getD 73 undef = .agg #[.int .u64 ep, .int .u64 y] := hdep 73 (by kernel_rfl)
          refine ⟨trivial, ?_⟩
          have g72 := gd h72
          have g73 := gd h73
          go_simp
          refine (H5.out u).mono ?_
          rintro e u' ⟨rfl, hb'⟩
          exact Goes.next (kp_trans hS hb') hb' rfl
        refine EachOp.cons ?_ ?_
        · intro a u hst hS hdep
          have h17 : a.tmps.getD 17 undef = .pointer (some ⟨bx + 1, 0, none⟩) := hst.out 17 (by kernel_rfl)
          refine ⟨trivial, ?_⟩
          have g17 := gd h17
          obtain ⟨⟨x0, x1⟩, y0, y1⟩ := HB.out u (HKA.out.trans (hS.mono HKA.out.size))
          go_simp
          exact Goes.same hS rfl
        refine EachOp.cons ?_ ?_
        · intro a u hst hS hdep
          have h74 : a.tmps.getD 74 undef = .agg #[.int .u64 ep, .int .u64 y] := hdep 74 (by kernel_rfl)
          have h75 : a.tmps.getD 75 undef = .agg #[.int .u64 ep, .int .u64 y] := hdep 75 (by kernel_rfl)
          refine ⟨trivial, ?_⟩
          have g74 := gd h74
          have g75 := gd h75
          go_simp
          exact Goes.same hS rfl
        refine EachOp.cons ?_ ?_
        · intro a u hst hS hdep
          have h76 : a.tmps.getD 76 undef = .bool true := hdep 76 (by kernel_rfl)
          refine ⟨trivial, ?_⟩
          have g76 := gd h76
          go_simp
          exact Goes.same hS rfl
        refine EachOp.cons ?_ ?_
        · intro a u hst hS hdep
          have h17 : a.tmps.getD 17 undef = .pointer (some ⟨bx + 1, 0, none⟩) := hst.out 17 (by kernel_rfl)
          have h77 : a.tmps.getD 77 undef = .bool true := hdep 77 (by kernel_rfl)
          refine ⟨⟨77, by kernel_rfl, h77⟩, ?_⟩
          clear h77
          have g17 := gd h17
          obtain ⟨⟨x0, x1⟩, y0, y1⟩ := HB.out u (HKA.out.trans (hS.mono HKA.out.size))
          go_simp
          exact Goes.same hS rfl
        refine EachOp.cons ?_ ?_
        · intro a u hst hS hdep
          have h16 : a.tmps.getD 16 undef = .pointer (some ⟨bx, 0, none⟩) := hst.out 16 (by kernel_rfl)
          have h77 : a.tmps.getD 77 undef = .bool true := hdep 77 (by kernel_rfl)
          refine ⟨⟨77, by kernel_rfl, h77⟩, ?_⟩
          clear h77
          have g16 := gd h16
          obtain ⟨⟨x0, x1⟩, y0, y1⟩ := HB.out u (HKA.out.trans (hS.mono HKA.out.size))
          go_simp
          exact Goes.same hS rfl
        refine EachOp.cons ?_ ?_
        · intro a u hst hS hdep
          have h78 : a.tmps.getD 78 undef = .agg #[.int .u64 ep, .int .u64 y] := hdep 78 (by kernel_rfl)
          have h79 : a.tmps.getD 79 undef = .agg #[.int .u64 ep, .int .u64 x] := hdep 79 (by kernel_rfl)
          have h77 : a.tmps.getD 77 undef = .bool true := hdep 77 (by kernel_rfl)
          refine ⟨⟨77, by kernel_rfl, h77⟩, ?_⟩
          clear h77
          have g78 := gd h78
          have g79 := gd h79
          go_simp
          refine (H6.out u).mono ?_
          rintro e u' ⟨rfl, hb'⟩
          exact Goes.next (kp_trans hS hb') hb' rfl
        refine EachOp.cons ?_ ?_
        · intro a u hst hS hdep
          have h17 : a.tmps.getD 17 undef = .pointer (some ⟨bx + 1, 0, none⟩) := hst.out 17 (by kernel_rfl)
          have h77 : a.tmps.getD 77 undef = .bool true := hdep 77 (by kernel_rfl)
          refine ⟨⟨77, by kernel_rfl, h77⟩, ?_⟩
          clear h77
          have g17 := gd h17
          obtain ⟨⟨x0, x1⟩, y0, y1⟩ := HB.out u (HKA.out.trans (hS.mono HKA.out.size))
          go_simp
          exact Goes.same hS rfl
        refine EachOp.cons ?_ ?_
        · intro a u hst hS hdep
          have h80 : a.tmps.getD 80 undef = .agg #[.int .u64 ep, .int .u64 y] := hdep 80 (by kernel_rfl)
          have h81 : a.tmps.getD 81 undef = .agg #[.int .u64 ep, .int .u64 y] := hdep 81 (by kernel_rfl)
          have h77 : a.tmps.getD 77 undef = .bool true := hdep 77 (by kernel_rfl)
          refine ⟨⟨77, by kernel_rfl, h77⟩, ?_⟩
          clear h77
          have g80 := gd h80
          have g81 := gd h81
          go_simp
          exact Goes.same hS rfl
        refine EachOp.cons ?_ ?_
        · intro a u hst hS hdep
          have h77 : a.tmps.getD 77 undef = .bool true := hdep 77 (by kernel_rfl)
          have h82 : a.tmps.getD 82 undef = .bool true := hdep 82 (by kernel_rfl)
          refine ⟨trivial, ?_⟩
          have g77 := gd h77
          have g82 := gd h82
          go_simp
          exact Goes.same hS rfl
        refine EachOp.cons ?_ ?_
        · intro a u hst hS hdep
          have h83 : a.tmps.getD 83 undef = .bool true := hdep 83 (by kernel_rfl)
          refine ⟨trivial, ?_⟩
          have g83 := gd h83
          go_simp
          exact Goes.same hS rfl
        exact EachOp.nil
      · intro a u hst hS hdep
        have h72 : a.tmps.getD 72 undef = .agg #[.int .u64 ep, .int .u64 x] := hdep 72 (by kernel_rfl)
        have h73 : a.tmps.getD 73 undef = .agg #[.int .u64 ep, .int .u64 y] := hdep 73 (by kernel_rfl)
        have h74 : a.tmps.getD 74 undef = .agg #[.int .u64 ep, .int .u64 y] := hdep 74 (by kernel_rfl)
        have h75 : a.tmps.getD 75 undef = .agg #[.int .u64 ep, .int .u64 y] := hdep 75 (by kernel_rfl)
        have h76 : a.tmps.getD 76 undef = .bool true := hdep 76 (by kernel_rfl)
        have h77 : a.tmps.getD 77 undef = .bool true := hdep 77 (by kernel_rfl)
        have h78 : a.tmps.getD 78 undef = .agg #[.int .u64 ep, .int .u64 y] := hdep 78 (by kernel_rfl)
        have h79 : a.tmps.getD 79 undef = .agg #[.int .u64 ep, .int .u64 x] := hdep 79 (by kernel_rfl)
        have h80 : a.tmps.getD 80 undef = .agg #[.int .u64 ep, .int .u64 y] := hdep 80 (by kernel_rfl)
        have h81 : a.tmps.getD 81 undef = .agg #[.int .u64 ep, .int .u64 y] := hdep 81 (by kernel_rfl)
        have h82 : a.tmps.getD 82 undef = .bool true := hdep 82 (by kernel_rfl)
        have h83 : a.tmps.getD 83 undef = .bool true := hdep 83 (by kernel_rfl)
        have h14 : a.tmps.getD 14 undef = .bool true := hdep 14 (by kernel_rfl)
        have hfr := hst.frame [(72, .agg #[.int .u64 ep, .int .u64 x]), (73, .agg #[.int .u64 ep, .int .u64 y]), (74, .agg #[.int .u64 ep, .int .u64 y]), (75, .agg #[.int .u64 ep, .int .u64 y]), (76, .bool true), (77, .bool true), (78, .agg #[.int .u64 ep, .int .u64 y]), (79, .agg #[.int .u64 ep, .int .u64 x]), (80, .agg #[.int .u64 ep, .int .u64 y]), (81, .agg #[.int .u64 ep, .int .u64 y]), (82, .bool true), (83, .bool true), (14, .bool true)] (by kernel_rfl) ⟨h72, h73, h74, h75, h76, h77, h78, h79, h80, h81, h82, h83, h14, trivial⟩
        clear hst hdep h72 h73 h74 h75 h76 h77 h78 h79 h80 h81 h82 h83 h14
        subst hfr
        simp only [List.foldl_cons, List.foldl_nil, List.setIfInBounds_toArray, List.set_cons_zero, List.set_cons_succ]
        go_wp2_with fail
        go_ret
        exact ⟨rfl, HK3.out.trans ((HKA.out.trans (hS.mono HKA.out.size)).mono HK3.out.size)⟩
end Go.Proofs.Ytpmkaceeomnijaa
