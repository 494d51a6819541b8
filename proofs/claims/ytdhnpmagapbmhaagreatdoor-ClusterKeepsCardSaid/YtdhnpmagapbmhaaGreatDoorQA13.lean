/-
  Contracts and plain functions that the law stands on, part 13 of 19.
-/
import Derived.Test.YtdhnpmagapbmhaaGreatDoorQA12
namespace Go.Proofs.YtdhnpmagapbmhaaGreatDoor
/- Layer 16: the law's own calls: they answer so. -/
section
open Go.RowKit
set_option maxRecDepth 100000

/-- a row of two, a reply without a node -/
def slc16 : Stl KeepT := ⟨fun _ v _ => ∃ A d, v = .slice A 2 d, fun _ _ _ _ _ _ h _ => h⟩
def rpl16 : Stl KeepT := ⟨fun _ v _ => ∃ A m d, v = .agg #[.int .i64 6, .int .u64 0, .int .u64 0, .slice A m d], fun _ _ _ _ _ _ h _ => h⟩
section
variable {X : Nat → Cu → Thing} {w : World}
set_option maxHeartbeats 16000000 in
theorem awake16_ok (C : ClusterC X) (hL : Lw w) :
    Calls Tryz.prog 8 #[] w fun e w' => e = .returned (.bool true) ∧ Below w.heap.size w w' := by
  have HC := Lib.hid C
  have HLW := Lib.hid hL
  have HI : Hid (∀ n : Int, -9223372036854775808 ≤ n → n ≤ 9223372036854775807 → I64n n) := Lib.hid fun _ a b => ⟨a, b⟩
  have HU : Hid (U64n 1) := Lib.hid ⟨by decide, by decide⟩
  have HN := Lib.hid (C.new 2 w hL (by decide) (by decide))
  clear C hL
  go_enter Tryz.func8, Tryz.ntmps8
  go_wp2_with fail
  refine HN.out.mono ?_
  rintro e w1 ⟨b, rfl, ⟨S, x1, y1⟩, k1⟩
  have H1 : Hid (St15 w (X b cu16_0) T0 [] [] [] [] w1) := Lib.hid (St15.alone (Below.refl _ _) x1 y1 k1)
  have HQ := Lib.hid (H1.out.crun HC.out HLW.out cu16_i0 (by decide) 0 1 1 false tx16_foo (by unfold Sm tx16_foo; decide) (HI.out _ (by decide) (by decide)) (HI.out _ (by decide) (by decide)) HU.out)
  rw [cu16_foo] at HQ
  clear HN x1 y1 k1
  go_wp2_with fail
  refine HQ.out.mono ?_
  rintro e w2 ⟨A2, m2, d2, rfl, h2⟩
  obtain ⟨w3, hw3⟩ : ∃ u, w2.alloc (.cells #[.int .i64 0, .int .u64 1, .int .u64 1, .slice A2 m2 d2] 73) = u := ⟨_, rfl⟩
  obtain ⟨t3, ht3⟩ : ∃ y, w2.heap.size = y := ⟨_, rfl⟩
  have H3 := Lib.hid (h2.bare.mark _ hw3 ht3)
  have HW3 := Lib.hid hw3
  have HT3 := Lib.hid ht3
  have HQ2 := Lib.hid (H3.out.clag HC.out cu16_i1 1 (HI.out _ (by decide) (by decide)))
  rw [cu16_lag] at HQ2
  clear HQ h2 hw3 ht3 H1
  unfold rpV
  dsimp only
  go_wp2_with fail
  rw [HW3.out, HT3.out]
  refine HQ2.out.mono ?_
  rintro e w4 ⟨rfl, h4⟩
  have H4 := Lib.hid h4
  have HQ := Lib.hid (H4.out.ccopy HC.out cu16_i1 (by decide) 1 5 (HI.out _ (by decide) (by decide)) (HI.out _ (by decide) (by decide)))
  rw [cu16_cpy] at HQ
  clear h4 HQ2 H3 HW3 HT3
  go_wp2_with fail
  refine HQ.out.mono ?_
  rintro e w5 ⟨rfl, h5⟩
  have H5 := Lib.hid h5
  have HQ2 := Lib.hid (H5.out.crun HC.out HLW.out cu16_i2 (by decide) 0 1 1 false tx16_bar (by unfold Sm tx16_bar; decide) (HI.out _ (by decide) (by decide)) (HI.out _ (by decide) (by decide)) HU.out)
  rw [cu16_bar] at HQ2
  clear h5 H4 HQ
  go_wp2_with fail
  refine HQ2.out.mono ?_
  rintro e w6 ⟨A6, m6, d6, rfl, h6⟩
  have H6 := Lib.hid h6.bare
  have HQ := Lib.hid (H6.out.cpro HC.out cu16_i3 (by decide) 1 (HI.out _ (by decide) (by decide)))
  rw [cu16_pro] at HQ
  clear h6 H5 HQ2
  go_wp2_with fail
  refine HQ.out.mono ?_
  rintro e w7 ⟨rfl, h7⟩
  obtain ⟨w8, hw8⟩ : ∃ u, w7.alloc (.cells #[.int .u64 2, .int .i64 1, .int .u64 1] 45) = u := ⟨_, rfl⟩
  obtain ⟨t8, ht8⟩ : ∃ y, w7.heap.size = y := ⟨_, rfl⟩
  have H8 := Lib.hid (h7.mark _ hw8 ht8)
  have HW8 := Lib.hid hw8
  have HT8 := Lib.hid ht8
  have HQ2 := Lib.hid (H8.out.cpro HC.out cu16_i4 (by decide) 1 (HI.out _ (by decide) (by decide)))
  rw [cu16_pro1] at HQ2
  clear HQ h7 hw8 ht8 H6
  dsimp only
  go_wp2_with fail
  rw [HW8.out, HT8.out]
  refine HQ2.out.mono ?_
  rintro e w9 ⟨rfl, h9⟩
  obtain ⟨wa, hwa⟩ : ∃ u, w9.alloc (.cells #[.int .u64 0, .int .i64 0, .int .u64 0] 45) = u := ⟨_, rfl⟩
  obtain ⟨t9, ht9⟩ : ∃ y, w9.heap.size = y := ⟨_, rfl⟩
  have HA := Lib.hid (h9.mark _ hwa ht9)
  have HWA := Lib.hid hwa
  have HT9 := Lib.hid ht9
  have HQ := Lib.hid (HA.out.cpro HC.out cu16_i4 (by decide) 2 (HI.out _ (by decide) (by decide)))
  rw [cu16_pro2] at HQ
  clear HQ2 h9 hwa ht9 H8 HW8 HT8
  dsimp only
  go_wp2_with fail
  rw [HWA.out, HT9.out]
  refine HQ.out.mono ?_
  rintro e wb ⟨rfl, hb⟩
  obtain ⟨wc, hwc⟩ : ∃ u, wb.alloc (.cells #[.int .u64 0, .int .i64 0, .int .u64 0] 45) = u := ⟨_, rfl⟩
  obtain ⟨tb, htb⟩ : ∃ y, wb.heap.size = y := ⟨_, rfl⟩
  have HB := Lib.hid (hb.mark _ hwc htb)
  have HWC := Lib.hid hwc
  have HTB := Lib.hid htb
  obtain ⟨GN, hGN⟩ : ∃ G : World → Prop, ∀ u, G u ↔ St15 w (X b cu16_4) T0 [] [(tb, .cells #[.int .u64 0, .int .i64 0, .int .u64 0] 45 (0, 0)), (t9, .cells #[.int .u64 0, .int .i64 0, .int .u64 0] 45 (0, 0)), (t8, .cells #[.int .u64 2, .int .i64 1, .int .u64 1] 45 (0, 0)), (t3, .cells #[.int .i64 0, .int .u64 1, .int .u64 1, .slice A2 m2 d2] 73 (0, 0))] [] [] u := ⟨_, fun _ => Iff.rfl⟩
  have HCE : Hid (∀ u, GN u → u.cell? ⟨t3, 0, none⟩ = some (.int .i64 0) ∧ u.cell? ⟨t3, 2, none⟩ = some (.int .u64 1) ∧ u.cell? ⟨t8, 0, none⟩ = some (.int .u64 2) ∧ u.cell? ⟨t8, 1, none⟩ = some (.int .i64 1) ∧ u.cell? ⟨t8, 2, none⟩ = some (.int .u64 1)) := Lib.hid fun u hu => by
    have h := (hGN u).1 hu
    have m3 := h.at_ (.tail _ (.tail _ (.tail _ (.head _))))
    have m8 := h.at_ (.tail _ (.tail _ (.head _)))
    exact ⟨(cellsAt m3 0 rfl).1, (cellsAt m3 2 rfl).1, (cellsAt m8 0 rfl).1, (cellsAt m8 1 rfl).1, (cellsAt m8 2 rfl).1⟩
  have HGN := Lib.hid hGN
  have HEQ : Hid (∀ u, (binOp .eql 45 (.agg #[.int .u64 2, .int .i64 1, .int .u64 1]) (.agg #[.int .u64 2, .int .i64 1, .int .u64 1])).run Tryz.prog u = .ok (.bool true) u) := Lib.hid fun u => by kernel_rfl
  have HFL : Hid (∀ (A : Option Addr) (m d : Nat) u, (Instr.field 73 (.agg #[.int .i64 6, .int .u64 0, .int .u64 0, .slice A m d]) 0).run Tryz.prog u = .ok (.int .i64 6) u) := Lib.hid fun A m d u => by kernel_rfl
  have HKR : Hid (∀ (i : Nat) (u : World), KeepT i u u) := Lib.hid fun _ _ => trivial
  clear HQ hb hwc htb HA HWA HT9 hGN
  dsimp only
  go_wp2_with fail
  rw [HWC.out, HTB.out]
  refine wp_region_specs6 (S := fun _ u => GN u) (Kp := KeepT) (Sp := [(45, Stl.eq (.pointer (some ⟨t3, 0, none⟩))), (46, Stl.eq (.int .i64 0)), (47, Stl.eq (.bool true)), (48, Stl.eq (.bool true)), (49, Stl.eq (.pointer (some ⟨t3, 2, none⟩))), (50, Stl.eq (.int .u64 1)), (51, Stl.eq (.bool true)), (52, Stl.eq (.bool true)), (53, Stl.eq (.bool true)), (54, Stl.eq (.int .u64 1)), (55, Stl.eq (.bool true)), (56, Stl.eq (.bool true)), (57, Stl.eq (.bool true)), (58, Stl.eq (.int .i64 1)), (59, Stl.eq (.bool true)), (60, Stl.eq (.bool true)), (61, Stl.eq (.bool true)), (62, Stl.eq (.agg #[.int .u64 2, .int .i64 1, .int .u64 1])), (63, Stl.eq (.agg #[.int .u64 2, .int .i64 1, .int .u64 1])), (64, Stl.eq (.bool true)), (65, Stl.eq (.bool true)), (66, Stl.eq (.bool true)), (67, Stl.eq (.int .i64 0)), (68, Stl.eq (.bool true)), (69, Stl.eq (.bool true)), (70, Stl.eq (.bool true)), (71, Stl.eq (.int .i64 7)), (72, Stl.eq (.bool true)), (73, Stl.eq (.bool true)), (74, Stl.eq (.bool true)), (75, Stl.eq (.int .i64 6)), (76, Stl.eq (.bool true)), (77, Stl.eq (.bool true)), (78, Stl.eq (.bool true)), (79, Stl.eq (.pointer (some ⟨b, 0, none⟩))), (80, Stl.eq (.int .i64 2)), (81, Stl.eq (.bool true)), (82, Stl.eq (.bool true)), (83, Stl.eq (.bool true)), (84, Stl.eq (.pointer (some ⟨b, 0, none⟩))), (85, Stl.eq (.agg #[.int .u64 2, .int .i64 1, .int .u64 1])), (86, Stl.eq (.agg #[.int .u64 2, .int .i64 1, .int .u64 1])), (87, Stl.eq (.bool true)), (88, Stl.eq (.bool true)), (89, Stl.eq (.bool true)), (90, Stl.eq (.pointer (some ⟨b, 0, none⟩))), (91, Stl.eq (.bool true)), (92, Stl.eq (.bool true)), (93, Stl.eq (.bool true)), (94, Stl.eq (.pointer (some ⟨b, 0, none⟩))), (95, Stl.eq (.int .u64 1)), (96, Stl.eq (.bool true)), (97, Stl.eq (.bool true)), (98, Stl.eq (.bool true)), (99, Stl.eq (.pointer (some ⟨b, 0, none⟩))), (100, slc16), (101, Stl.eq (.int .i64 2)), (102, Stl.eq (.bool true)), (103, Stl.eq (.bool true)), (104, Stl.eq (.bool true)), (105, Stl.eq (.pointer (some ⟨b, 0, none⟩))), (106, rpl16), (107, Stl.eq (.int .i64 6)), (108, Stl.eq (.bool true)), (109, Stl.eq (.bool true)), (110, Stl.eq (.bool true)), (111, Stl.eq (.pointer (some ⟨b, 0, none⟩))), (112, Stl.eq (.bool false)), (113, Stl.eq (.bool true)), (114, Stl.eq (.bool true)), (0, Stl.eq (.bool true))]) (by kernel_rfl) (by kernel_rfl) ((HGN.out _).2 (HB.out.next (kp_drewN wc 1))) ?_ ?_
  · refine EachOp.cons ?_ ?_
    · intro L a u hL hst hS hdep hq hno
      have h3 : a.tmps.getD 3 undef = .pointer (some ⟨t3, 0, none⟩) := hst.out 3 (by kernel_rfl)
      refine .inl ⟨trivial, ?_⟩
      have g3 := gd h3
      go_simp
      exact Went6.same (HKR.out _ _) hS rfl
    refine EachOp.cons ?_ ?_
    · intro L a u hL hst hS hdep hq hno
      have h45 : a.tmps.getD 45 undef = .pointer (some ⟨t3, 0, none⟩) := hdep 45 (by kernel_rfl)
      refine .inl ⟨trivial, ?_⟩
      have g45 := gd h45
      obtain ⟨r0, r2, p0, p1, p2⟩ := HCE.out u hS
      go_simp
      exact Went6.same (HKR.out _ _) hS rfl
    refine EachOp.cons ?_ ?_
    · intro L a u hL hst hS hdep hq hno
      have h46 : a.tmps.getD 46 undef = .int .i64 0 := hdep 46 (by kernel_rfl)
      refine .inl ⟨trivial, ?_⟩
      have g46 := gd h46
      go_simp
      exact Went6.same (HKR.out _ _) hS rfl
    refine EachOp.cons ?_ ?_
    · intro L a u hL hst hS hdep hq hno
      have h47 : a.tmps.getD 47 undef = .bool true := hdep 47 (by kernel_rfl)
      refine .inl ⟨trivial, ?_⟩
      have g47 := gd h47
      go_simp
      exact Went6.same (HKR.out _ _) hS rfl
    refine EachOp.cons ?_ ?_
    · intro L a u hL hst hS hdep hq hno
      have h3 : a.tmps.getD 3 undef = .pointer (some ⟨t3, 0, none⟩) := hst.out 3 (by kernel_rfl)
      have h48 : a.tmps.getD 48 undef = .bool true := hdep 48 (by kernel_rfl)
      refine .inl ⟨⟨48, by kernel_rfl, h48⟩, ?_⟩
      clear h48
      have g3 := gd h3
      go_simp
      exact Went6.same (HKR.out _ _) hS rfl
    refine EachOp.cons ?_ ?_
    · intro L a u hL hst hS hdep hq hno
      have h49 : a.tmps.getD 49 undef = .pointer (some ⟨t3, 2, none⟩) := hdep 49 (by kernel_rfl)
      have h48 : a.tmps.getD 48 undef = .bool true := hdep 48 (by kernel_rfl)
      refine .inl ⟨⟨48, by kernel_rfl, h48⟩, ?_⟩
      clear h48
      have g49 := gd h49
      obtain ⟨r0, r2, p0, p1, p2⟩ := HCE.out u hS
      go_simp
      exact Went6.same (HKR.out _ _) hS rfl
    refine EachOp.cons ?_ ?_
    · intro L a u hL hst hS hdep hq hno
      have h50 : a.tmps.getD 50 undef = .int .u64 1 := hdep 50 (by kernel_rfl)
      have h48 : a.tmps.getD 48 undef = .bool true := hdep 48 (by kernel_rfl)
      refine .inl ⟨⟨48, by kernel_rfl, h48⟩, ?_⟩
      clear h48
      have g50 := gd h50
      go_simp
      exact Went6.same (HKR.out _ _) hS rfl
    refine EachOp.cons ?_ ?_
    · intro L a u hL hst hS hdep hq hno
      have h48 : a.tmps.getD 48 undef = .bool true := hdep 48 (by kernel_rfl)
      have h51 : a.tmps.getD 51 undef = .bool true := hdep 51 (by kernel_rfl)
      refine .inl ⟨trivial, ?_⟩
      have g48 := gd h48
      have g51 := gd h51
      go_simp
      exact Went6.same (HKR.out _ _) hS rfl
    refine EachOp.cons ?_ ?_
    · intro L a u hL hst hS hdep hq hno
      have h52 : a.tmps.getD 52 undef = .bool true := hdep 52 (by kernel_rfl)
      refine .inl ⟨trivial, ?_⟩
      have g52 := gd h52
      go_simp
      exact Went6.same (HKR.out _ _) hS rfl
    refine EachOp.cons ?_ ?_
    · intro L a u hL hst hS hdep hq hno
      have h4 : a.tmps.getD 4 undef = .int .u64 1 := hst.out 4 (by kernel_rfl)
      have h53 : a.tmps.getD 53 undef = .bool true := hdep 53 (by kernel_rfl)
      refine .inl ⟨⟨53, by kernel_rfl, h53⟩, ?_⟩
      clear h53
      have g4 := gd h4
      go_simp
      exact Went6.same (HKR.out _ _) hS rfl
    refine EachOp.cons ?_ ?_
    · intro L a u hL hst hS hdep hq hno
      have h54 : a.tmps.getD 54 undef = .int .u64 1 := hdep 54 (by kernel_rfl)
      have h53 : a.tmps.getD 53 undef = .bool true := hdep 53 (by kernel_rfl)
      refine .inl ⟨⟨53, by kernel_rfl, h53⟩, ?_⟩
      clear h53
      have g54 := gd h54
      go_simp
      exact Went6.same (HKR.out _ _) hS rfl
    refine EachOp.cons ?_ ?_
    · intro L a u hL hst hS hdep hq hno
      have h53 : a.tmps.getD 53 undef = .bool true := hdep 53 (by kernel_rfl)
      have h55 : a.tmps.getD 55 undef = .bool true := hdep 55 (by kernel_rfl)
      refine .inl ⟨trivial, ?_⟩
      have g53 := gd h53
      have g55 := gd h55
      go_simp
      exact Went6.same (HKR.out _ _) hS rfl
    refine EachOp.cons ?_ ?_
    · intro L a u hL hst hS hdep hq hno
      have h56 : a.tmps.getD 56 undef = .bool true := hdep 56 (by kernel_rfl)
      refine .inl ⟨trivial, ?_⟩
      have g56 := gd h56
      go_simp
      exact Went6.same (HKR.out _ _) hS rfl
    refine EachOp.cons ?_ ?_
    · intro L a u hL hst hS hdep hq hno
      have h5 : a.tmps.getD 5 undef = .int .i64 1 := hst.out 5 (by kernel_rfl)
      have h57 : a.tmps.getD 57 undef = .bool true := hdep 57 (by kernel_rfl)
      refine .inl ⟨⟨57, by kernel_rfl, h57⟩, ?_⟩
      clear h57
      have g5 := gd h5
      go_simp
      exact Went6.same (HKR.out _ _) hS rfl
    refine EachOp.cons ?_ ?_
    · intro L a u hL hst hS hdep hq hno
      have h58 : a.tmps.getD 58 undef = .int .i64 1 := hdep 58 (by kernel_rfl)
      have h57 : a.tmps.getD 57 undef = .bool true := hdep 57 (by kernel_rfl)
      refine .inl ⟨⟨57, by kernel_rfl, h57⟩, ?_⟩
      clear h57
      have g58 := gd h58
      go_simp
      exact Went6.same (HKR.out _ _) hS rfl
    refine EachOp.cons ?_ ?_
    · intro L a u hL hst hS hdep hq hno
      have h57 : a.tmps.getD 57 undef = .bool true := hdep 57 (by kernel_rfl)
      have h59 : a.tmps.getD 59 undef = .bool true := hdep 59 (by kernel_rfl)
      refine .inl ⟨trivial, ?_⟩
      have g57 := gd h57
      have g59 := gd h59
      go_simp
      exact Went6.same (HKR.out _ _) hS rfl
    refine EachOp.cons ?_ ?_
    · intro L a u hL hst hS hdep hq hno
      have h60 : a.tmps.getD 60 undef = .bool true := hdep 60 (by kernel_rfl)
      refine .inl ⟨trivial, ?_⟩
      have g60 := gd h60
      go_simp
      exact Went6.same (HKR.out _ _) hS rfl
    refine EachOp.cons ?_ ?_
    · intro L a u hL hst hS hdep hq hno
      have h6 : a.tmps.getD 6 undef = .pointer (some ⟨t8, 0, none⟩) := hst.out 6 (by kernel_rfl)
      have h61 : a.tmps.getD 61 undef = .bool true := hdep 61 (by kernel_rfl)
      refine .inl ⟨⟨61, by kernel_rfl, h61⟩, ?_⟩
      clear h61
      have g6 := gd h6
      obtain ⟨r0, r2, p0, p1, p2⟩ := HCE.out u hS
      go_simp
      exact Went6.same (HKR.out _ _) hS rfl
    refine EachOp.cons ?_ ?_
    · intro L a u hL hst hS hdep hq hno
      have h61 : a.tmps.getD 61 undef = .bool true := hdep 61 (by kernel_rfl)
      refine .inl ⟨⟨61, by kernel_rfl, h61⟩, ?_⟩
      clear h61
      go_simp
      exact Went6.same (HKR.out _ _) hS rfl
    refine EachOp.cons ?_ ?_
    · intro L a u hL hst hS hdep hq hno
      have h62 : a.tmps.getD 62 undef = .agg #[.int .u64 2, .int .i64 1, .int .u64 1] := hdep 62 (by kernel_rfl)
      have h63 : a.tmps.getD 63 undef = .agg #[.int .u64 2, .int .i64 1, .int .u64 1] := hdep 63 (by kernel_rfl)
      have h61 : a.tmps.getD 61 undef = .bool true := hdep 61 (by kernel_rfl)
      refine .inl ⟨⟨61, by kernel_rfl, h61⟩, ?_⟩
      clear h61
      have g62 := gd h62
      have g63 := gd h63
      have hE := HEQ.out u
      go_simp
      exact Went6.same (HKR.out _ _) hS rfl
    refine EachOp.cons ?_ ?_
    · intro L a u hL hst hS hdep hq hno
      have h61 : a.tmps.getD 61 undef = .bool true := hdep 61 (by kernel_rfl)
      have h64 : a.tmps.getD 64 undef = .bool true := hdep 64 (by kernel_rfl)
      refine .inl ⟨trivial, ?_⟩
      have g61 := gd h61
      have g64 := gd h64
      go_simp
      exact Went6.same (HKR.out _ _) hS rfl
    refine EachOp.cons ?_ ?_
    · intro L a u hL hst hS hdep hq hno
      have h65 : a.tmps.getD 65 undef = .bool true := hdep 65 (by kernel_rfl)
      refine .inl ⟨trivial, ?_⟩
      have g65 := gd h65
      go_simp
      exact Went6.same (HKR.out _ _) hS rfl
    refine EachOp.cons ?_ ?_
    · intro L a u hL hst hS hdep hq hno
      have h7 : a.tmps.getD 7 undef = .int .i64 0 := hst.out 7 (by kernel_rfl)
      have h66 : a.tmps.getD 66 undef = .bool true := hdep 66 (by kernel_rfl)
      refine .inl ⟨⟨66, by kernel_rfl, h66⟩, ?_⟩
      clear h66
      have g7 := gd h7
      go_simp
      exact Went6.same (HKR.out _ _) hS rfl
    refine EachOp.cons ?_ ?_
    · intro L a u hL hst hS hdep hq hno
      have h67 : a.tmps.getD 67 undef = .int .i64 0 := hdep 67 (by kernel_rfl)
      have h66 : a.tmps.getD 66 undef = .bool true := hdep 66 (by kernel_rfl)
      refine .inl ⟨⟨66, by kernel_rfl, h66⟩, ?_⟩
      clear h66
      have g67 := gd h67
      go_simp
      exact Went6.same (HKR.out _ _) hS rfl
    refine EachOp.cons ?_ ?_
    · intro L a u hL hst hS hdep hq hno
      have h66 : a.tmps.getD 66 undef = .bool true := hdep 66 (by kernel_rfl)
      have h68 : a.tmps.getD 68 undef = .bool true := hdep 68 (by kernel_rfl)
      refine .inl ⟨trivial, ?_⟩
      have g66 := gd h66
      have g68 := gd h68
      go_simp
      exact Went6.same (HKR.out _ _) hS rfl
    refine EachOp.cons ?_ ?_
    · intro L a u hL hst hS hdep hq hno
      have h69 : a.tmps.getD 69 undef = .bool true := hdep 69 (by kernel_rfl)
      refine .inl ⟨trivial, ?_⟩
      have g69 := gd h69
      go_simp
      exact Went6.same (HKR.out _ _) hS rfl
    refine EachOp.cons ?_ ?_
    · intro L a u hL hst hS hdep hq hno
      have h9 : a.tmps.getD 9 undef = .int .i64 7 := hst.out 9 (by kernel_rfl)
      have h70 : a.tmps.getD 70 undef = .bool true := hdep 70 (by kernel_rfl)
      refine .inl ⟨⟨70, by kernel_rfl, h70⟩, ?_⟩
      clear h70
      have g9 := gd h9
      go_simp
      exact Went6.same (HKR.out _ _) hS rfl
    refine EachOp.cons ?_ ?_
    · intro L a u hL hst hS hdep hq hno
      have h71 : a.tmps.getD 71 undef = .int .i64 7 := hdep 71 (by kernel_rfl)
      have h70 : a.tmps.getD 70 undef = .bool true := hdep 70 (by kernel_rfl)
      refine .inl ⟨⟨70, by kernel_rfl, h70⟩, ?_⟩
      clear h70
      have g71 := gd h71
      go_simp
      exact Went6.same (HKR.out _ _) hS rfl
    refine EachOp.cons ?_ ?_
    · intro L a u hL hst hS hdep hq hno
      have h70 : a.tmps.getD 70 undef = .bool true := hdep 70 (by kernel_rfl)
      have h72 : a.tmps.getD 72 undef = .bool true := hdep 72 (by kernel_rfl)
      refine .inl ⟨trivial, ?_⟩
      have g70 := gd h70
      have g72 := gd h72
      go_simp
      exact Went6.same (HKR.out _ _) hS rfl
    refine EachOp.cons ?_ ?_
    · intro L a u hL hst hS hdep hq hno
      have h73 : a.tmps.getD 73 undef = .bool true := hdep 73 (by kernel_rfl)
      refine .inl ⟨trivial, ?_⟩
      have g73 := gd h73
      go_simp
      exact Went6.same (HKR.out _ _) hS rfl
    refine EachOp.cons ?_ ?_
    · intro L a u hL hst hS hdep hq hno
      have h11 : a.tmps.getD 11 undef = .int .i64 6 := hst.out 11 (by kernel_rfl)
      have h74 : a.tmps.getD 74 undef = .bool true := hdep 74 (by kernel_rfl)
      refine .inl ⟨⟨74, by kernel_rfl, h74⟩, ?_⟩
      clear h74
      have g11 := gd h11
      go_simp
      exact Went6.same (HKR.out _ _) hS rfl
    refine EachOp.cons ?_ ?_
    · intro L a u hL hst hS hdep hq hno
      have h75 : a.tmps.getD 75 undef = .int .i64 6 := hdep 75 (by kernel_rfl)
      have h74 : a.tmps.getD 74 undef = .bool true := hdep 74 (by kernel_rfl)
      refine .inl ⟨⟨74, by kernel_rfl, h74⟩, ?_⟩
      clear h74
      have g75 := gd h75
      go_simp
      exact Went6.same (HKR.out _ _) hS rfl
    refine EachOp.cons ?_ ?_
    · intro L a u hL hst hS hdep hq hno
      have h74 : a.tmps.getD 74 undef = .bool true := hdep 74 (by kernel_rfl)
      have h76 : a.tmps.getD 76 undef = .bool true := hdep 76 (by kernel_rfl)
      refine .inl ⟨trivial, ?_⟩
      have g74 := gd h74
      have g76 := gd h76
      go_simp
      exact Went6.same (HKR.out _ _) hS rfl
    refine EachOp.cons ?_ ?_
    · intro L a u hL hst hS hdep hq hno
      have h77 : a.tmps.getD 77 undef = .bool true := hdep 77 (by kernel_rfl)
      refine .inl ⟨trivial, ?_⟩
      have g77 := gd h77
      go_simp
      exact Went6.same (HKR.out _ _) hS rfl
    refine EachOp.cons ?_ ?_
    · intro L a u hL hst hS hdep hq hno
      have h1 : a.tmps.getD 1 undef = .pointer (some ⟨b, 0, none⟩) := hst.out 1 (by kernel_rfl)
      have h78 : a.tmps.getD 78 undef = .bool true := hdep 78 (by kernel_rfl)
      refine .inl ⟨⟨78, by kernel_rfl, h78⟩, ?_⟩
      clear h78
      have g1 := gd h1
      go_simp
      exact Went6.same (HKR.out _ _) hS rfl
    refine EachOp.cons ?_ ?_
    · intro L a u hL hst hS hdep hq hno
      have h79 : a.tmps.getD 79 undef = .pointer (some ⟨b, 0, none⟩) := hdep 79 (by kernel_rfl)
      have h78 : a.tmps.getD 78 undef = .bool true := hdep 78 (by kernel_rfl)
      refine .inl ⟨⟨78, by kernel_rfl, h78⟩, ?_⟩
      clear h78
      have g79 := gd h79
      go_simp
      have hs := (HGN.out u).1 hS
      refine (hs.cmany HC.out cu16_i4).mono ?_
      rintro e' u' ⟨rfl, h2⟩
      exact Went6.next ((HGN.out _).2 (h2)) trivial rfl
    refine EachOp.cons ?_ ?_
    · intro L a u hL hst hS hdep hq hno
      have h80 : a.tmps.getD 80 undef = .int .i64 2 := hdep 80 (by kernel_rfl)
      have h78 : a.tmps.getD 78 undef = .bool true := hdep 78 (by kernel_rfl)
      refine .inl ⟨⟨78, by kernel_rfl, h78⟩, ?_⟩
      clear h78
      have g80 := gd h80
      go_simp
      exact Went6.same (HKR.out _ _) hS rfl
    refine EachOp.cons ?_ ?_
    · intro L a u hL hst hS hdep hq hno
      have h78 : a.tmps.getD 78 undef = .bool true := hdep 78 (by kernel_rfl)
      have h81 : a.tmps.getD 81 undef = .bool true := hdep 81 (by kernel_rfl)
      refine .inl ⟨trivial, ?_⟩
      have g78 := gd h78
      have g81 := gd h81
      go_simp
      exact Went6.same (HKR.out _ _) hS rfl
    refine EachOp.cons ?_ ?_
    · intro L a u hL hst hS hdep hq hno
      have h82 : a.tmps.getD 82 undef = .bool true := hdep 82 (by kernel_rfl)
      refine .inl ⟨trivial, ?_⟩
      have g82 := gd h82
      go_simp
      exact Went6.same (HKR.out _ _) hS rfl
    refine EachOp.cons ?_ ?_
    · intro L a u hL hst hS hdep hq hno
      have h1 : a.tmps.getD 1 undef = .pointer (some ⟨b, 0, none⟩) := hst.out 1 (by kernel_rfl)
      have h83 : a.tmps.getD 83 undef = .bool true := hdep 83 (by kernel_rfl)
      refine .inl ⟨⟨83, by kernel_rfl, h83⟩, ?_⟩
      clear h83
      have g1 := gd h1
      go_simp
      exact Went6.same (HKR.out _ _) hS rfl
    refine EachOp.cons ?_ ?_
    · intro L a u hL hst hS hdep hq hno
      have h84 : a.tmps.getD 84 undef = .pointer (some ⟨b, 0, none⟩) := hdep 84 (by kernel_rfl)
      have h83 : a.tmps.getD 83 undef = .bool true := hdep 83 (by kernel_rfl)
      refine .inl ⟨⟨83, by kernel_rfl, h83⟩, ?_⟩
      clear h83
      have g84 := gd h84
      go_simp
      have hs := (HGN.out u).1 hS
      refine (hs.cnew HC.out cu16_i4).mono ?_
      rintro e' u' ⟨rfl, h2⟩
      exact Went6.next ((HGN.out _).2 (h2)) trivial rfl
    refine EachOp.cons ?_ ?_
    · intro L a u hL hst hS hdep hq hno
      have h6 : a.tmps.getD 6 undef = .pointer (some ⟨t8, 0, none⟩) := hst.out 6 (by kernel_rfl)
      have h83 : a.tmps.getD 83 undef = .bool true := hdep 83 (by kernel_rfl)
      refine .inl ⟨⟨83, by kernel_rfl, h83⟩, ?_⟩
      clear h83
      have g6 := gd h6
      obtain ⟨r0, r2, p0, p1, p2⟩ := HCE.out u hS
      go_simp
      exact Went6.same (HKR.out _ _) hS rfl
    refine EachOp.cons ?_ ?_
    · intro L a u hL hst hS hdep hq hno
      have h85 : a.tmps.getD 85 undef = .agg #[.int .u64 2, .int .i64 1, .int .u64 1] := hdep 85 (by kernel_rfl)
      have h86 : a.tmps.getD 86 undef = .agg #[.int .u64 2, .int .i64 1, .int .u64 1] := hdep 86 (by kernel_rfl)
      have h83 : a.tmps.getD 83 undef = .bool true := hdep 83 (by kernel_rfl)
      refine .inl ⟨⟨83, by kernel_rfl, h83⟩, ?_⟩
      clear h83
      have g85 := gd h85
      have g86 := gd h86
      have hE := HEQ.out u
      go_simp
      exact Went6.same (HKR.out _ _) hS rfl
    refine EachOp.cons ?_ ?_
    · intro L a u hL hst hS hdep hq hno
      have h83 : a.tmps.getD 83 undef = .bool true := hdep 83 (by kernel_rfl)
      have h87 : a.tmps.getD 87 undef = .bool true := hdep 87 (by kernel_rfl)
      refine .inl ⟨trivial, ?_⟩
      have g83 := gd h83
      have g87 := gd h87
      go_simp
      exact Went6.same (HKR.out _ _) hS rfl
    refine EachOp.cons ?_ ?_
    · intro L a u hL hst hS hdep hq hno
      have h88 : a.tmps.getD 88 undef = .bool true := hdep 88 (by kernel_rfl)
      refine .inl ⟨trivial, ?_⟩
      have g88 := gd h88
      go_simp
      exact Went6.same (HKR.out _ _) hS rfl
    refine EachOp.cons ?_ ?_
    · intro L a u hL hst hS hdep hq hno
      have h1 : a.tmps.getD 1 undef = .pointer (some ⟨b, 0, none⟩) := hst.out 1 (by kernel_rfl)
      have h89 : a.tmps.getD 89 undef = .bool true := hdep 89 (by kernel_rfl)
      refine .inl ⟨⟨89, by kernel_rfl, h89⟩, ?_⟩
      clear h89
      have g1 := gd h1
      go_simp
      exact Went6.same (HKR.out _ _) hS rfl
    refine EachOp.cons ?_ ?_
    · intro L a u hL hst hS hdep hq hno
      have h90 : a.tmps.getD 90 undef = .pointer (some ⟨b, 0, none⟩) := hdep 90 (by kernel_rfl)
      have h89 : a.tmps.getD 89 undef = .bool true := hdep 89 (by kernel_rfl)
      refine .inl ⟨⟨89, by kernel_rfl, h89⟩, ?_⟩
      clear h89
      have g90 := gd h90
      go_simp
      have hs := (HGN.out u).1 hS
      refine (hs.cld HC.out cu16_i4 1 (HI.out _ (by decide) (by decide))).mono ?_
      rintro e' u' ⟨rfl, h2⟩
      exact Went6.next ((HGN.out _).2 (h2)) trivial rfl
    refine EachOp.cons ?_ ?_
    · intro L a u hL hst hS hdep hq hno
      have h89 : a.tmps.getD 89 undef = .bool true := hdep 89 (by kernel_rfl)
      have h91 : a.tmps.getD 91 undef = .bool true := hdep 91 (by kernel_rfl)
      refine .inl ⟨trivial, ?_⟩
      have g89 := gd h89
      have g91 := gd h91
      go_simp
      exact Went6.same (HKR.out _ _) hS rfl
    refine EachOp.cons ?_ ?_
    · intro L a u hL hst hS hdep hq hno
      have h92 : a.tmps.getD 92 undef = .bool true := hdep 92 (by kernel_rfl)
      refine .inl ⟨trivial, ?_⟩
      have g92 := gd h92
      go_simp
      exact Went6.same (HKR.out _ _) hS rfl
    refine EachOp.cons ?_ ?_
    · intro L a u hL hst hS hdep hq hno
      have h1 : a.tmps.getD 1 undef = .pointer (some ⟨b, 0, none⟩) := hst.out 1 (by kernel_rfl)
      have h93 : a.tmps.getD 93 undef = .bool true := hdep 93 (by kernel_rfl)
      refine .inl ⟨⟨93, by kernel_rfl, h93⟩, ?_⟩
      clear h93
      have g1 := gd h1
      go_simp
      exact Went6.same (HKR.out _ _) hS rfl
    refine EachOp.cons ?_ ?_
    · intro L a u hL hst hS hdep hq hno
      have h94 : a.tmps.getD 94 undef = .pointer (some ⟨b, 0, none⟩) := hdep 94 (by kernel_rfl)
      have h93 : a.tmps.getD 93 undef = .bool true := hdep 93 (by kernel_rfl)
      refine .inl ⟨⟨93, by kernel_rfl, h93⟩, ?_⟩
      clear h93
      have g94 := gd h94
      go_simp
      have hs := (HGN.out u).1 hS
      refine (hs.cep HC.out cu16_i4 0 (HI.out _ (by decide) (by decide))).mono ?_
      rintro e' u' ⟨rfl, h2⟩
      exact Went6.next ((HGN.out _).2 (h2)) trivial rfl
    refine EachOp.cons ?_ ?_
    · intro L a u hL hst hS hdep hq hno
      have h95 : a.tmps.getD 95 undef = .int .u64 1 := hdep 95 (by kernel_rfl)
      have h93 : a.tmps.getD 93 undef = .bool true := hdep 93 (by kernel_rfl)
      refine .inl ⟨⟨93, by kernel_rfl, h93⟩, ?_⟩
      clear h93
      have g95 := gd h95
      go_simp
      exact Went6.same (HKR.out _ _) hS rfl
    refine EachOp.cons ?_ ?_
    · intro L a u hL hst hS hdep hq hno
      have h93 : a.tmps.getD 93 undef = .bool true := hdep 93 (by kernel_rfl)
      have h96 : a.tmps.getD 96 undef = .bool true := hdep 96 (by kernel_rfl)
      refine .inl ⟨trivial, ?_⟩
      have g93 := gd h93
      have g96 := gd h96
      go_simp
      exact Went6.same (HKR.out _ _) hS rfl
    refine EachOp.cons ?_ ?_
    · intro L a u hL hst hS hdep hq hno
      have h97 : a.tmps.getD 97 undef = .bool true := hdep 97 (by kernel_rfl)
      refine .inl ⟨trivial, ?_⟩
      have g97 := gd h97
      go_simp
      exact Went6.same (HKR.out _ _) hS rfl
    refine EachOp.cons ?_ ?_
    · intro L a u hL hst hS hdep hq hno
      have h1 : a.tmps.getD 1 undef = .pointer (some ⟨b, 0, none⟩) := hst.out 1 (by kernel_rfl)
      have h98 : a.tmps.getD 98 undef = .bool true := hdep 98 (by kernel_rfl)
      refine .inl ⟨⟨98, by kernel_rfl, h98⟩, ?_⟩
      clear h98
      have g1 := gd h1
      go_simp
      exact Went6.same (HKR.out _ _) hS rfl
    refine EachOp.cons ?_ ?_
    · intro L a u hL hst hS hdep hq hno
      have h99 : a.tmps.getD 99 undef = .pointer (some ⟨b, 0, none⟩) := hdep 99 (by kernel_rfl)
      have h98 : a.tmps.getD 98 undef = .bool true := hdep 98 (by kernel_rfl)
      refine .inl ⟨⟨98, by kernel_rfl, h98⟩, ?_⟩
      clear h98
      have g99 := gd h99
      go_simp
      have hs := (HGN.out u).1 hS
      refine (hs.clog HC.out cu16_i4 0 (HI.out _ (by decide) (by decide))).mono ?_
      rintro e' u' ⟨A2, m2, d2, ⟨rfl, _⟩, h2⟩
      obtain rfl : 2 = m2 := (h2.lr (.head _)).len
      exact Went6.next ((HGN.out _).2 (h2.bare)) trivial ⟨_, _, rfl⟩
    refine EachOp.cons ?_ ?_
    · intro L a u hL hst hS hdep hq hno
      obtain ⟨A100, d100, h100⟩ := hdep 100 (by kernel_rfl)
      have h98 : a.tmps.getD 98 undef = .bool true := hdep 98 (by kernel_rfl)
      refine .inl ⟨⟨98, by kernel_rfl, h98⟩, ?_⟩
      clear h98
      have g100 := gd h100
      go_simp
      exact Went6.same (HKR.out _ _) hS rfl
    refine EachOp.cons ?_ ?_
    · intro L a u hL hst hS hdep hq hno
      have h101 : a.tmps.getD 101 undef = .int .i64 2 := hdep 101 (by kernel_rfl)
      have h98 : a.tmps.getD 98 undef = .bool true := hdep 98 (by kernel_rfl)
      refine .inl ⟨⟨98, by kernel_rfl, h98⟩, ?_⟩
      clear h98
      have g101 := gd h101
      go_simp
      exact Went6.same (HKR.out _ _) hS rfl
    refine EachOp.cons ?_ ?_
    · intro L a u hL hst hS hdep hq hno
      have h98 : a.tmps.getD 98 undef = .bool true := hdep 98 (by kernel_rfl)
      have h102 : a.tmps.getD 102 undef = .bool true := hdep 102 (by kernel_rfl)
      refine .inl ⟨trivial, ?_⟩
      have g98 := gd h98
      have g102 := gd h102
      go_simp
      exact Went6.same (HKR.out _ _) hS rfl
    refine EachOp.cons ?_ ?_
    · intro L a u hL hst hS hdep hq hno
      have h103 : a.tmps.getD 103 undef = .bool true := hdep 103 (by kernel_rfl)
      refine .inl ⟨trivial, ?_⟩
      have g103 := gd h103
      go_simp
      exact Went6.same (HKR.out _ _) hS rfl
    refine EachOp.cons ?_ ?_
    · intro L a u hL hst hS hdep hq hno
      have h1 : a.tmps.getD 1 undef = .pointer (some ⟨b, 0, none⟩) := hst.out 1 (by kernel_rfl)
      have h104 : a.tmps.getD 104 undef = .bool true := hdep 104 (by kernel_rfl)
      refine .inl ⟨⟨104, by kernel_rfl, h104⟩, ?_⟩
      clear h104
      have g1 := gd h1
      go_simp
      exact Went6.same (HKR.out _ _) hS rfl
    refine EachOp.cons ?_ ?_
    · intro L a u hL hst hS hdep hq hno
      have h105 : a.tmps.getD 105 undef = .pointer (some ⟨b, 0, none⟩) := hdep 105 (by kernel_rfl)
      have h104 : a.tmps.getD 104 undef = .bool true := hdep 104 (by kernel_rfl)
      refine .inl ⟨⟨104, by kernel_rfl, h104⟩, ?_⟩
      clear h104
      have g105 := gd h105
      go_simp
      have hs := (HGN.out u).1 hS
      have hq := hs.crun HC.out HLW.out cu16_i4 (by decide) 5 1 1 true ⟨#[]⟩ (by unfold Sm; decide) (HI.out _ (by decide) (by decide)) (HI.out _ (by decide) (by decide)) HU.out
      rw [cu16_none] at hq
      refine hq.mono ?_
      rintro e' u' ⟨A2, m2, d2, rfl, h2⟩
      exact Went6.next ((HGN.out _).2 h2.bare) trivial ⟨_, _, _, rfl⟩
    refine EachOp.cons ?_ ?_
    · intro L a u hL hst hS hdep hq hno
      obtain ⟨A106, m106, d106, h106⟩ := hdep 106 (by kernel_rfl)
      have h104 : a.tmps.getD 104 undef = .bool true := hdep 104 (by kernel_rfl)
      refine .inl ⟨⟨104, by kernel_rfl, h104⟩, ?_⟩
      clear h104
      have g106 := gd h106
      have hfl := HFL.out A106 m106 d106 u
      go_simp
      exact Went6.same (HKR.out _ _) hS rfl
    refine EachOp.cons ?_ ?_
    · intro L a u hL hst hS hdep hq hno
      have h107 : a.tmps.getD 107 undef = .int .i64 6 := hdep 107 (by kernel_rfl)
      have h104 : a.tmps.getD 104 undef = .bool true := hdep 104 (by kernel_rfl)
      refine .inl ⟨⟨104, by kernel_rfl, h104⟩, ?_⟩
      clear h104
      have g107 := gd h107
      go_simp
      exact Went6.same (HKR.out _ _) hS rfl
    refine EachOp.cons ?_ ?_
    · intro L a u hL hst hS hdep hq hno
      have h104 : a.tmps.getD 104 undef = .bool true := hdep 104 (by kernel_rfl)
      have h108 : a.tmps.getD 108 undef = .bool true := hdep 108 (by kernel_rfl)
      refine .inl ⟨trivial, ?_⟩
      have g104 := gd h104
      have g108 := gd h108
      go_simp
      exact Went6.same (HKR.out _ _) hS rfl
    refine EachOp.cons ?_ ?_
    · intro L a u hL hst hS hdep hq hno
      have h109 : a.tmps.getD 109 undef = .bool true := hdep 109 (by kernel_rfl)
      refine .inl ⟨trivial, ?_⟩
      have g109 := gd h109
      go_simp
      exact Went6.same (HKR.out _ _) hS rfl
    refine EachOp.cons ?_ ?_
    · intro L a u hL hst hS hdep hq hno
      have h1 : a.tmps.getD 1 undef = .pointer (some ⟨b, 0, none⟩) := hst.out 1 (by kernel_rfl)
      have h110 : a.tmps.getD 110 undef = .bool true := hdep 110 (by kernel_rfl)
      refine .inl ⟨⟨110, by kernel_rfl, h110⟩, ?_⟩
      clear h110
      have g1 := gd h1
      go_simp
      exact Went6.same (HKR.out _ _) hS rfl
    refine EachOp.cons ?_ ?_
    · intro L a u hL hst hS hdep hq hno
      have h111 : a.tmps.getD 111 undef = .pointer (some ⟨b, 0, none⟩) := hdep 111 (by kernel_rfl)
      have h110 : a.tmps.getD 110 undef = .bool true := hdep 110 (by kernel_rfl)
      refine .inl ⟨⟨110, by kernel_rfl, h110⟩, ?_⟩
      clear h110
      have g111 := gd h111
      go_simp
      have hs := (HGN.out u).1 hS
      have hq := hs.ccls HC.out cu16_i4 (by decide) 0 1 (HI.out _ (by decide) (by decide)) (HI.out _ (by decide) (by decide))
      rw [cu16_cls0] at hq
      refine hq.mono ?_
      rintro e' u' ⟨rfl, h2⟩
      exact Went6.next ((HGN.out _).2 h2) trivial rfl
    refine EachOp.cons ?_ ?_
    · intro L a u hL hst hS hdep hq hno
      have h112 : a.tmps.getD 112 undef = .bool false := hdep 112 (by kernel_rfl)
      have h110 : a.tmps.getD 110 undef = .bool true := hdep 110 (by kernel_rfl)
      refine .inl ⟨⟨110, by kernel_rfl, h110⟩, ?_⟩
      clear h110
      have g112 := gd h112
      go_simp
      exact Went6.same (HKR.out _ _) hS rfl
    refine EachOp.cons ?_ ?_
    · intro L a u hL hst hS hdep hq hno
      have h110 : a.tmps.getD 110 undef = .bool true := hdep 110 (by kernel_rfl)
      have h113 : a.tmps.getD 113 undef = .bool true := hdep 113 (by kernel_rfl)
      refine .inl ⟨trivial, ?_⟩
      have g110 := gd h110
      have g113 := gd h113
      go_simp
      exact Went6.same (HKR.out _ _) hS rfl
    refine EachOp.cons ?_ ?_
    · intro L a u hL hst hS hdep hq hno
      have h114 : a.tmps.getD 114 undef = .bool true := hdep 114 (by kernel_rfl)
      refine .inl ⟨trivial, ?_⟩
      have g114 := gd h114
      go_simp
      exact Went6.same (HKR.out _ _) hS rfl
    exact EachOp.nil
  · intro L a u hLs hst hS hdep
    have h45 : a.tmps.getD 45 undef = .pointer (some ⟨t3, 0, none⟩) := hdep 45 (by kernel_rfl)
    have h46 : a.tmps.getD 46 undef = .int .i64 0 := hdep 46 (by kernel_rfl)
    have h47 : a.tmps.getD 47 undef = .bool true := hdep 47 (by kernel_rfl)
    have h48 : a.tmps.getD 48 undef = .bool true := hdep 48 (by kernel_rfl)
    have h49 : a.tmps.getD 49 undef = .pointer (some ⟨t3, 2, none⟩) := hdep 49 (by kernel_rfl)
    have h50 : a.tmps.getD 50 undef = .int .u64 1 := hdep 50 (by kernel_rfl)
    have h51 : a.tmps.getD 51 undef = .bool true := hdep 51 (by kernel_rfl)
    have h52 : a.tmps.getD 52 undef = .bool true := hdep 52 (by kernel_rfl)
    have h53 : a.tmps.getD 53 undef = .bool true := hdep 53 (by kernel_rfl)
    have h54 : a.tmps.getD 54 undef = .int .u64 1 := hdep 54 (by kernel_rfl)
    have h55 : a.tmps.getD 55 undef = .bool true := hdep 55 (by kernel_rfl)
    have h56 : a.tmps.getD 56 undef = .bool true := hdep 56 (by kernel_rfl)
    have h57 : a.tmps.getD 57 undef = .bool true := hdep 57 (by kernel_rfl)
    have h58 : a.tmps.getD 58 undef = .int .i64 1 := hdep 58 (by kernel_rfl)
    have h59 : a.tmps.getD 59 undef = .bool true := hdep 59 (by kernel_rfl)
    have h60 : a.tmps.getD 60 undef = .bool true := hdep 60 (by kernel_rfl)
    have h61 : a.tmps.getD 61 undef = .bool true := hdep 61 (by kernel_rfl)
    have h62 : a.tmps.getD 62 undef = .agg #[.int .u64 2, .int .i64 1, .int .u64 1] := hdep 62 (by kernel_rfl)
    have h63 : a.tmps.getD 63 undef = .agg #[.int .u64 2, .int .i64 1, .int .u64 1] := hdep 63 (by kernel_rfl)
    have h64 : a.tmps.getD 64 undef = .bool true := hdep 64 (by kernel_rfl)
    have h65 : a.tmps.getD 65 undef = .bool true := hdep 65 (by kernel_rfl)
    have h66 : a.tmps.getD 66 undef = .bool true := hdep 66 (by kernel_rfl)
    have h67 : a.tmps.getD 67 undef = .int .i64 0 := hdep 67 (by kernel_rfl)
    have h68 : a.tmps.getD 68 undef = .bool true := hdep 68 (by kernel_rfl)
    have h69 : a.tmps.getD 69 undef = .bool true := hdep 69 (by kernel_rfl)
    have h70 : a.tmps.getD 70 undef = .bool true := hdep 70 (by kernel_rfl)
    have h71 : a.tmps.getD 71 undef = .int .i64 7 := hdep 71 (by kernel_rfl)
    have h72 : a.tmps.getD 72 undef = .bool true := hdep 72 (by kernel_rfl)
    have h73 : a.tmps.getD 73 undef = .bool true := hdep 73 (by kernel_rfl)
    have h74 : a.tmps.getD 74 undef = .bool true := hdep 74 (by kernel_rfl)
    have h75 : a.tmps.getD 75 undef = .int .i64 6 := hdep 75 (by kernel_rfl)
    have h76 : a.tmps.getD 76 undef = .bool true := hdep 76 (by kernel_rfl)
    have h77 : a.tmps.getD 77 undef = .bool true := hdep 77 (by kernel_rfl)
    have h78 : a.tmps.getD 78 undef = .bool true := hdep 78 (by kernel_rfl)
    have h79 : a.tmps.getD 79 undef = .pointer (some ⟨b, 0, none⟩) := hdep 79 (by kernel_rfl)
    have h80 : a.tmps.getD 80 undef = .int .i64 2 := hdep 80 (by kernel_rfl)
    have h81 : a.tmps.getD 81 undef = .bool true := hdep 81 (by kernel_rfl)
    have h82 : a.tmps.getD 82 undef = .bool true := hdep 82 (by kernel_rfl)
    have h83 : a.tmps.getD 83 undef = .bool true := hdep 83 (by kernel_rfl)
    have h84 : a.tmps.getD 84 undef = .pointer (some ⟨b, 0, none⟩) := hdep 84 (by kernel_rfl)
    have h85 : a.tmps.getD 85 undef = .agg #[.int .u64 2, .int .i64 1, .int .u64 1] := hdep 85 (by kernel_rfl)
    have h86 : a.tmps.getD 86 undef = .agg #[.int .u64 2, .int .i64 1, .int .u64 1] := hdep 86 (by kernel_rfl)
    have h87 : a.tmps.getD 87 undef = .bool true := hdep 87 (by kernel_rfl)
    have h88 : a.tmps.getD 88 undef = .bool true := hdep 88 (by kernel_rfl)
    have h89 : a.tmps.getD 89 undef = .bool true := hdep 89 (by kernel_rfl)
    have h90 : a.tmps.getD 90 undef = .pointer (some ⟨b, 0, none⟩) := hdep 90 (by kernel_rfl)
    have h91 : a.tmps.getD 91 undef = .bool true := hdep 91 (by kernel_rfl)
    have h92 : a.tmps.getD 92 undef = .bool true := hdep 92 (by kernel_rfl)
    have h93 : a.tmps.getD 93 undef = .bool true := hdep 93 (by kernel_rfl)
    have h94 : a.tmps.getD 94 undef = .pointer (some ⟨b, 0, none⟩) := hdep 94 (by kernel_rfl)
    have h95 : a.tmps.getD 95 undef = .int .u64 1 := hdep 95 (by kernel_rfl)
    have h96 : a.tmps.getD 96 undef = .bool true := hdep 96 (by kernel_rfl)
    have h97 : a.tmps.getD 97 undef = .bool true := hdep 97 (by kernel_rfl)
    have h98 : a.tmps.getD 98 undef = .bool true := hdep 98 (by kernel_rfl)
    have h99 : a.tmps.getD 99 undef = .pointer (some ⟨b, 0, none⟩) := hdep 99 (by kernel_rfl)
    obtain ⟨A100, d100, h100⟩ := hdep 100 (by kernel_rfl)
    have h101 : a.tmps.getD 101 undef = .int .i64 2 := hdep 101 (by kernel_rfl)
    have h102 : a.tmps.getD 102 undef = .bool true := hdep 102 (by kernel_rfl)
    have h103 : a.tmps.getD 103 undef = .bool true := hdep 103 (by kernel_rfl)
    have h104 : a.tmps.getD 104 undef = .bool true := hdep 104 (by kernel_rfl)
    have h105 : a.tmps.getD 105 undef = .pointer (some ⟨b, 0, none⟩) := hdep 105 (by kernel_rfl)
    obtain ⟨A106, m106, d106, h106⟩ := hdep 106 (by kernel_rfl)
    have h107 : a.tmps.getD 107 undef = .int .i64 6 := hdep 107 (by kernel_rfl)
    have h108 : a.tmps.getD 108 undef = .bool true := hdep 108 (by kernel_rfl)
    have h109 : a.tmps.getD 109 undef = .bool true := hdep 109 (by kernel_rfl)
    have h110 : a.tmps.getD 110 undef = .bool true := hdep 110 (by kernel_rfl)
    have h111 : a.tmps.getD 111 undef = .pointer (some ⟨b, 0, none⟩) := hdep 111 (by kernel_rfl)
    have h112 : a.tmps.getD 112 undef = .bool false := hdep 112 (by kernel_rfl)
    have h113 : a.tmps.getD 113 undef = .bool true := hdep 113 (by kernel_rfl)
    have h114 : a.tmps.getD 114 undef = .bool true := hdep 114 (by kernel_rfl)
    have h0 : a.tmps.getD 0 undef = .bool true := hdep 0 (by kernel_rfl)
    have hfr := hst.frame [(45, .pointer (some ⟨t3, 0, none⟩)), (46, .int .i64 0), (47, .bool true), (48, .bool true), (49, .pointer (some ⟨t3, 2, none⟩)), (50, .int .u64 1), (51, .bool true), (52, .bool true), (53, .bool true), (54, .int .u64 1), (55, .bool true), (56, .bool true), (57, .bool true), (58, .int .i64 1), (59, .bool true), (60, .bool true), (61, .bool true), (62, .agg #[.int .u64 2, .int .i64 1, .int .u64 1]), (63, .agg #[.int .u64 2, .int .i64 1, .int .u64 1]), (64, .bool true), (65, .bool true), (66, .bool true), (67, .int .i64 0), (68, .bool true), (69, .bool true), (70, .bool true), (71, .int .i64 7), (72, .bool true), (73, .bool true), (74, .bool true), (75, .int .i64 6), (76, .bool true), (77, .bool true), (78, .bool true), (79, .pointer (some ⟨b, 0, none⟩)), (80, .int .i64 2), (81, .bool true), (82, .bool true), (83, .bool true), (84, .pointer (some ⟨b, 0, none⟩)), (85, .agg #[.int .u64 2, .int .i64 1, .int .u64 1]), (86, .agg #[.int .u64 2, .int .i64 1, .int .u64 1]), (87, .bool true), (88, .bool true), (89, .bool true), (90, .pointer (some ⟨b, 0, none⟩)), (91, .bool true), (92, .bool true), (93, .bool true), (94, .pointer (some ⟨b, 0, none⟩)), (95, .int .u64 1), (96, .bool true), (97, .bool true), (98, .bool true), (99, .pointer (some ⟨b, 0, none⟩)), (100, .slice A100 2 d100), (101, .int .i64 2), (102, .bool true), (103, .bool true), (104, .bool true), (105, .pointer (some ⟨b, 0, none⟩)), (106, .agg #[.int .i64 6, .int .u64 0, .int .u64 0, .slice A106 m106 d106]), (107, .int .i64 6), (108, .bool true), (109, .bool true), (110, .bool true), (111, .pointer (some ⟨b, 0, none⟩)), (112, .bool false), (113, .bool true), (114, .bool true), (0, .bool true)] (by kernel_rfl) ⟨h45, h46, h47, h48, h49, h50, h51, h52, h53, h54, h55, h56, h57, h58, h59, h60, h61, h62, h63, h64, h65, h66, h67, h68, h69, h70, h71, h72, h73, h74, h75, h76, h77, h78, h79, h80, h81, h82, h83, h84, h85, h86, h87, h88, h89, h90, h91, h92, h93, h94, h95, h96, h97, h98, h99, h100, h101, h102, h103, h104, h105, h106, h107, h108, h109, h110, h111, h112, h113, h114, h0, trivial⟩
    clear hst hdep h45 h46 h47 h48 h49 h50 h51 h52 h53 h54 h55 h56 h57 h58 h59 h60 h61 h62 h63 h64 h65 h66 h67 h68 h69 h70 h71 h72 h73 h74 h75 h76 h77 h78 h79 h80 h81 h82 h83 h84 h85 h86 h87 h88 h89 h90 h91 h92 h93 h94 h95 h96 h97 h98 h99 h100 h101 h102 h103 h104 h105 h106 h107 h108 h109 h110 h111 h112 h113 h114 h0
    subst hfr
    simp only [List.foldl_cons, List.foldl_nil, List.setIfInBounds_toArray, List.set_cons_zero, List.set_cons_succ]
    have HJ := Lib.hid ((HGN.out u).1 hS).low
    clear hS hLs
    go_wp2_with fail
    go_ret
    exact ⟨rfl, HJ.out⟩
end
end
end Go.Proofs.YtdhnpmagapbmhaaGreatDoor
