/-
  Contracts and plain functions that the law stands on, part 21 of 24.
-/
import Derived.Test.YtdhnpmagapbmhaaGreatDoorQD20
import Derived.Lib.SliceRun
import Derived.Deep.Cut
namespace Go.Proofs.YtdhnpmagapbmhaaGreatDoor
/- Layer 16: the law's own calls: they answer so. -/
section
open Go.RowKit
set_option maxRecDepth 100000
def slc16 : Stl KeepT := ⟨fun _ v _ => ∃ A d, v = .slice A 2 d, fun _ _ _ _ _ _ h _ => h⟩
def rpl16 : Stl KeepT := ⟨fun _ v _ => ∃ A m d, v = .agg #[.int .i64 6, .int .u64 0, .int .u64 0, .slice A m d], fun _ _ _ _ _ _ h _ => h⟩
section
variable {X : Nat → Cu → Thing} {w : World}
set_option maxHeartbeats 16000000 in
theorem awake16_ok (C : ClusterC X) (hL : Lw w) :
 Calls Tryz.prog 8 #[] w fun e w' => e = .returned (.bool true) ∧ Below w.heap.size w w' := by
 have HC := hid C; have HLW := hid hL; have HI : Hid (∀ n : Int, -9223372036854775808 ≤ n → n ≤ 9223372036854775807 → I64n n) := hid fun _ a b => ⟨a, b⟩; have HU : Hid (U64n 1) := hid ⟨by decide, by decide⟩; have HN := hid (C.new 2 w hL (by decide) (by decide)); clear C hL; go_enter Tryz.func8, Tryz.ntmps8; go_wp2_with fail; refine HN.out.mono ?_; rintro e w1 ⟨b, rfl, ⟨S, x1, y1⟩, k1⟩; have H1 : Hid (St15 w (X b cu16_0) T0 [] [] [] [] w1) := hid (St15.alone (Below.refl _ _) x1 y1 k1); have HQ := hid (H1.out.crun HC.out HLW.out cu16_i0 (by decide) 0 1 1 false tx16_foo (by unfold Sm tx16_foo; decide) (HI.out _ (by decide) (by decide)) (HI.out _ (by decide) (by decide)) HU.out); rw [cu16_foo] at HQ; clear HN x1 y1 k1; go_wp2_with fail; refine HQ.out.mono ?_; rintro e w2 ⟨A2, m2, d2, rfl, h2⟩; obtain ⟨w3, hw3⟩ : ∃ u, w2.alloc (.cells #[.int .i64 0, .int .u64 1, .int .u64 1, .slice A2 m2 d2] 73) = u := ⟨_, rfl⟩; obtain ⟨t3, ht3⟩ : ∃ y, w2.heap.size = y := ⟨_, rfl⟩; have H3 := hid (h2.bare.mark _ hw3 ht3); have HW3 := hid hw3; have HT3 := hid ht3; have HQ2 := hid (H3.out.clag HC.out cu16_i1 1 (HI.out _ (by decide) (by decide))); rw [cu16_lag] at HQ2; clear HQ h2 hw3 ht3 H1; unfold rpV; dsimp only; go_wp2_with fail; rw [HW3.out, HT3.out]; refine HQ2.out.mono ?_; rintro e w4 ⟨rfl, h4⟩; have H4 := hid h4; have HQ := hid (H4.out.ccopy HC.out cu16_i1 (by decide) 1 5 (HI.out _ (by decide) (by decide)) (HI.out _ (by decide) (by decide))); rw [cu16_cpy] at HQ; clear h4 HQ2 H3 HW3 HT3; go_wp2_with fail; refine HQ.out.mono ?_; rintro e w5 ⟨rfl, h5⟩; have H5 := hid h5; have HQ2 := hid (H5.out.crun HC.out HLW.out cu16_i2 (by decide) 0 1 1 false tx16_bar (by unfold Sm tx16_bar; decide) (HI.out _ (by decide) (by decide)) (HI.out _ (by decide) (by decide)) HU.out); rw [cu16_bar] at HQ2; clear h5 H4 HQ; go_wp2_with fail; refine HQ2.out.mono ?_; rintro e w6 ⟨A6, m6, d6, rfl, h6⟩; have H6 := hid h6.bare; have HQ := hid (H6.out.cpro HC.out cu16_i3 (by decide) 1 (HI.out _ (by decide) (by decide))); rw [cu16_pro] at HQ; clear h6 H5 HQ2; go_wp2_with fail; refine HQ.out.mono ?_; rintro e w7 ⟨rfl, h7⟩; obtain ⟨w8, hw8⟩ : ∃ u, w7.alloc (.cells #[.int .u64 2, .int .i64 1, .int .u64 1] 45) = u := ⟨_, rfl⟩; obtain ⟨t8, ht8⟩ : ∃ y, w7.heap.size = y := ⟨_, rfl⟩; have H8 := hid (h7.mark _ hw8 ht8); have HW8 := hid hw8; have HT8 := hid ht8; have HQ2 := hid (H8.out.cpro HC.out cu16_i4 (by decide) 1 (HI.out _ (by decide) (by decide))); rw [cu16_pro1] at HQ2; clear HQ h7 hw8 ht8 H6; dsimp only; go_wp2_with fail; rw [HW8.out, HT8.out]; refine HQ2.out.mono ?_; rintro e w9 ⟨rfl, h9⟩; obtain ⟨wa, hwa⟩ : ∃ u, w9.alloc (.cells #[.int .u64 0, .int .i64 0, .int .u64 0] 45) = u := ⟨_, rfl⟩; obtain ⟨t9, ht9⟩ : ∃ y, w9.heap.size = y := ⟨_, rfl⟩; have HA := hid (h9.mark _ hwa ht9); have HWA := hid hwa; have HT9 := hid ht9; have HQ := hid (HA.out.cpro HC.out cu16_i4 (by decide) 2 (HI.out _ (by decide) (by decide)))
 rw [cu16_pro2] at HQ; clear HQ2 h9 hwa ht9 H8 HW8 HT8; dsimp only; go_wp2_with fail; rw [HWA.out, HT9.out]; refine HQ.out.mono ?_; rintro e wb ⟨rfl, hb⟩; obtain ⟨wc, hwc⟩ : ∃ u, wb.alloc (.cells #[.int .u64 0, .int .i64 0, .int .u64 0] 45) = u := ⟨_, rfl⟩; obtain ⟨tb, htb⟩ : ∃ y, wb.heap.size = y := ⟨_, rfl⟩; have HB := hid (hb.mark _ hwc htb); have HWC := hid hwc; have HTB := hid htb; obtain ⟨GN, hGN⟩ : ∃ G : World → Prop, ∀ u, G u ↔ St15 w (X b cu16_4) T0 [] [(tb, .cells #[.int .u64 0, .int .i64 0, .int .u64 0] 45 (0, 0)), (t9, .cells #[.int .u64 0, .int .i64 0, .int .u64 0] 45 (0, 0)), (t8, .cells #[.int .u64 2, .int .i64 1, .int .u64 1] 45 (0, 0)), (t3, .cells #[.int .i64 0, .int .u64 1, .int .u64 1, .slice A2 m2 d2] 73 (0, 0))] [] [] u := ⟨_, fun _ => Iff.rfl⟩
 have HCE : Hid (∀ u, GN u → u.cell? ⟨t3, 0, none⟩ = some (.int .i64 0) ∧ u.cell? ⟨t3, 2, none⟩ = some (.int .u64 1) ∧ u.cell? ⟨t8, 0, none⟩ = some (.int .u64 2) ∧ u.cell? ⟨t8, 1, none⟩ = some (.int .i64 1) ∧ u.cell? ⟨t8, 2, none⟩ = some (.int .u64 1)) := hid fun u hu => by
  have h := (hGN u).1 hu; have m3 := h.at_ (.tail _ (.tail _ (.tail _ (.head _)))); have m8 := h.at_ (.tail _ (.tail _ (.head _))); exact ⟨(cellsAt m3 0 rfl).1, (cellsAt m3 2 rfl).1, (cellsAt m8 0 rfl).1, (cellsAt m8 1 rfl).1, (cellsAt m8 2 rfl).1⟩
 have HGN := hid hGN; have HEQ : Hid (∀ u, (binOp .eql 45 (.agg #[.int .u64 2, .int .i64 1, .int .u64 1]) (.agg #[.int .u64 2, .int .i64 1, .int .u64 1])).run Tryz.prog u = .ok (.bool true) u) := hid fun u => by kernel_rfl
 have HFL : Hid (∀ (A : Option Addr) (m d : Nat) u, (Instr.field 73 (.agg #[.int .i64 6, .int .u64 0, .int .u64 0, .slice A m d]) 0).run Tryz.prog u = .ok (.int .i64 6) u) := hid fun A m d u => by kernel_rfl
 have HKR : Hid (∀ (i : Nat) (u : World), KeepT i u u) := hid fun _ _ => trivial; clear HQ hb hwc htb HA HWA HT9 hGN; dsimp only; go_wp2_with fail; rw [HWC.out, HTB.out]; refine wp_region_specs6 (S := fun _ u => GN u) (Kp := KeepT) (Sp := [(45, Stl.eq (.pointer (some ⟨t3, 0, none⟩))), (46, Stl.eq (.int .i64 0)), (47, Stl.eq (.bool true)), (48, Stl.eq (.bool true)), (49, Stl.eq (.pointer (some ⟨t3, 2, none⟩))), (50, Stl.eq (.int .u64 1)), (51, Stl.eq (.bool true)), (52, Stl.eq (.bool true)), (53, Stl.eq (.bool true)), (54, Stl.eq (.int .u64 1)), (55, Stl.eq (.bool true)), (56, Stl.eq (.bool true)), (57, Stl.eq (.bool true)), (58, Stl.eq (.int .i64 1)), (59, Stl.eq (.bool true)), (60, Stl.eq (.bool true)), (61, Stl.eq (.bool true)), (62, Stl.eq (.agg #[.int .u64 2, .int .i64 1, .int .u64 1])), (63, Stl.eq (.agg #[.int .u64 2, .int .i64 1, .int .u64 1])), (64, Stl.eq (.bool true)), (65, Stl.eq (.bool true)), (66, Stl.eq (.bool true)), (67, Stl.eq (.int .i64 0)), (68, Stl.eq (.bool true)), (69, Stl.eq (.bool true)), (70, Stl.eq (.bool true)), (71, Stl.eq (.int .i64 7)), (72, Stl.eq (.bool true)), (73, Stl.eq (.bool true)), (74, Stl.eq (.bool true)), (75, Stl.eq (.int .i64 6)), (76, Stl.eq (.bool true)), (77, Stl.eq (.bool true)), (78, Stl.eq (.bool true)), (79, Stl.eq (.pointer (some ⟨b, 0, none⟩))), (80, Stl.eq (.int .i64 2)), (81, Stl.eq (.bool true)), (82, Stl.eq (.bool true)), (83, Stl.eq (.bool true)), (84, Stl.eq (.pointer (some ⟨b, 0, none⟩))), (85, Stl.eq (.agg #[.int .u64 2, .int .i64 1, .int .u64 1])), (86, Stl.eq (.agg #[.int .u64 2, .int .i64 1, .int .u64 1])), (87, Stl.eq (.bool true)), (88, Stl.eq (.bool true)), (89, Stl.eq (.bool true)), (90, Stl.eq (.pointer (some ⟨b, 0, none⟩))), (91, Stl.eq (.bool true)), (92, Stl.eq (.bool true)), (93, Stl.eq (.bool true)), (94, Stl.eq (.pointer (some ⟨b, 0, none⟩))), (95, Stl.eq (.int .u64 1)), (96, Stl.eq (.bool true)), (97, Stl.eq (.bool true)), (98, Stl.eq (.bool true)), (99, Stl.eq (.pointer (some ⟨b, 0, none⟩))), (100, slc16), (101, Stl.eq (.int .i64 2)), (102, Stl.eq (.bool true)), (103, Stl.eq (.bool true)), (104, Stl.eq (.bool true)), (105, Stl.eq (.pointer (some ⟨b, 0, none⟩))), (106, rpl16), (107, Stl.eq (.int .i64 6)), (108, Stl.eq (.bool true)), (109, Stl.eq (.bool true)), (110, Stl.eq (.bool true)), (111, Stl.eq (.pointer (some ⟨b, 0, none⟩))), (112, Stl.eq (.bool false)), (113, Stl.eq (.bool true)), (114, Stl.eq (.bool true)), (0, Stl.eq (.bool true))]) (by kernel_rfl) (by kernel_rfl) ((HGN.out _).2 (HB.out.next (kp_drewN wc 1))) ?_ ?_
 · refine .cons ?_ ?_
   · intro L a u hL hst hS hdep hq hno; refine .inl ⟨trivial, ?_⟩; have g3 := gd (v := .pointer (some ⟨t3, 0, none⟩)) (hst.out 3 (by kernel_rfl)); go_simp; exact Went6.same (HKR.out _ _) hS rfl
   refine .cons ?_ ?_
   · intro L a u hL hst hS hdep hq hno; refine .inl ⟨trivial, ?_⟩; have g45 := gd (hdep 45); obtain ⟨r0, r2, p0, p1, p2⟩ := HCE.out u hS; go_simp; exact Went6.same (HKR.out _ _) hS rfl
   refine .cons ?_ ?_
   · intro L a u hL hst hS hdep hq hno; refine .inl ⟨trivial, ?_⟩; have g46 := gd (hdep 46); go_simp; exact Went6.same (HKR.out _ _) hS rfl
   refine .cons ?_ ?_
   · intro L a u hL hst hS hdep hq hno; refine .inl ⟨trivial, ?_⟩; have g47 := gd (hdep 47); go_simp; exact Went6.same (HKR.out _ _) hS rfl
   refine .cons ?_ ?_
   · intro L a u hL hst hS hdep hq hno; refine .inl ⟨⟨48, by kernel_rfl, hdep 48⟩, ?_⟩; have g3 := gd (v := .pointer (some ⟨t3, 0, none⟩)) (hst.out 3 (by kernel_rfl)); go_simp; exact Went6.same (HKR.out _ _) hS rfl
   refine .cons ?_ ?_
   · intro L a u hL hst hS hdep hq hno; refine .inl ⟨⟨48, by kernel_rfl, hdep 48⟩, ?_⟩; have g49 := gd (hdep 49); obtain ⟨r0, r2, p0, p1, p2⟩ := HCE.out u hS; go_simp; exact Went6.same (HKR.out _ _) hS rfl
   refine .cons ?_ ?_
   · intro L a u hL hst hS hdep hq hno; refine .inl ⟨⟨48, by kernel_rfl, hdep 48⟩, ?_⟩; have g50 := gd (hdep 50); go_simp; exact Went6.same (HKR.out _ _) hS rfl
   refine .cons ?_ ?_
   · intro L a u hL hst hS hdep hq hno; refine .inl ⟨trivial, ?_⟩; have g48 := gd (hdep 48); have g51 := gd (hdep 51); go_simp; exact Went6.same (HKR.out _ _) hS rfl
   refine .cons ?_ ?_
   · intro L a u hL hst hS hdep hq hno; refine .inl ⟨trivial, ?_⟩; have g52 := gd (hdep 52); go_simp; exact Went6.same (HKR.out _ _) hS rfl
   refine .cons ?_ ?_
   · intro L a u hL hst hS hdep hq hno; refine .inl ⟨⟨53, by kernel_rfl, hdep 53⟩, ?_⟩; have g4 := gd (v := .int .u64 1) (hst.out 4 (by kernel_rfl)); go_simp; exact Went6.same (HKR.out _ _) hS rfl
   refine .cons ?_ ?_
   · intro L a u hL hst hS hdep hq hno; refine .inl ⟨⟨53, by kernel_rfl, hdep 53⟩, ?_⟩; have g54 := gd (hdep 54); go_simp; exact Went6.same (HKR.out _ _) hS rfl
   refine .cons ?_ ?_
   · intro L a u hL hst hS hdep hq hno; refine .inl ⟨trivial, ?_⟩; have g53 := gd (hdep 53); have g55 := gd (hdep 55); go_simp; exact Went6.same (HKR.out _ _) hS rfl
   refine .cons ?_ ?_
   · intro L a u hL hst hS hdep hq hno; refine .inl ⟨trivial, ?_⟩; have g56 := gd (hdep 56); go_simp; exact Went6.same (HKR.out _ _) hS rfl
   refine .cons ?_ ?_
   · intro L a u hL hst hS hdep hq hno; refine .inl ⟨⟨57, by kernel_rfl, hdep 57⟩, ?_⟩; have g5 := gd (v := .int .i64 1) (hst.out 5 (by kernel_rfl)); go_simp; exact Went6.same (HKR.out _ _) hS rfl
   refine .cons ?_ ?_
   · intro L a u hL hst hS hdep hq hno; refine .inl ⟨⟨57, by kernel_rfl, hdep 57⟩, ?_⟩; have g58 := gd (hdep 58); go_simp; exact Went6.same (HKR.out _ _) hS rfl
   refine .cons ?_ ?_
   · intro L a u hL hst hS hdep hq hno; refine .inl ⟨trivial, ?_⟩; have g57 := gd (hdep 57); have g59 := gd (hdep 59); go_simp; exact Went6.same (HKR.out _ _) hS rfl
   refine .cons ?_ ?_
   · intro L a u hL hst hS hdep hq hno; refine .inl ⟨trivial, ?_⟩; have g60 := gd (hdep 60); go_simp; exact Went6.same (HKR.out _ _) hS rfl
   refine .cons ?_ ?_
   · intro L a u hL hst hS hdep hq hno; refine .inl ⟨⟨61, by kernel_rfl, hdep 61⟩, ?_⟩; have g6 := gd (v := .pointer (some ⟨t8, 0, none⟩)) (hst.out 6 (by kernel_rfl)); obtain ⟨r0, r2, p0, p1, p2⟩ := HCE.out u hS; go_simp; exact Went6.same (HKR.out _ _) hS rfl
   refine .cons ?_ ?_
   · intro L a u hL hst hS hdep hq hno; refine .inl ⟨⟨61, by kernel_rfl, hdep 61⟩, ?_⟩; go_simp; exact Went6.same (HKR.out _ _) hS rfl
   refine .cons ?_ ?_
   · intro L a u hL hst hS hdep hq hno; refine .inl ⟨⟨61, by kernel_rfl, hdep 61⟩, ?_⟩; have g62 := gd (hdep 62); have g63 := gd (hdep 63); have hE := HEQ.out u; go_simp; exact Went6.same (HKR.out _ _) hS rfl
   refine .cons ?_ ?_
   · intro L a u hL hst hS hdep hq hno; refine .inl ⟨trivial, ?_⟩; have g61 := gd (hdep 61); have g64 := gd (hdep 64); go_simp; exact Went6.same (HKR.out _ _) hS rfl
   refine .cons ?_ ?_
   · intro L a u hL hst hS hdep hq hno; refine .inl ⟨trivial, ?_⟩; have g65 := gd (hdep 65); go_simp; exact Went6.same (HKR.out _ _) hS rfl
   refine .cons ?_ ?_
   · intro L a u hL hst hS hdep hq hno; refine .inl ⟨⟨66, by kernel_rfl, hdep 66⟩, ?_⟩; have g7 := gd (v := .int .i64 0) (hst.out 7 (by kernel_rfl)); go_simp; exact Went6.same (HKR.out _ _) hS rfl
   refine .cons ?_ ?_
   · intro L a u hL hst hS hdep hq hno; refine .inl ⟨⟨66, by kernel_rfl, hdep 66⟩, ?_⟩; have g67 := gd (hdep 67); go_simp; exact Went6.same (HKR.out _ _) hS rfl
   refine .cons ?_ ?_
   · intro L a u hL hst hS hdep hq hno; refine .inl ⟨trivial, ?_⟩; have g66 := gd (hdep 66); have g68 := gd (hdep 68); go_simp; exact Went6.same (HKR.out _ _) hS rfl
   refine .cons ?_ ?_
   · intro L a u hL hst hS hdep hq hno; refine .inl ⟨trivial, ?_⟩; have g69 := gd (hdep 69); go_simp; exact Went6.same (HKR.out _ _) hS rfl
   refine .cons ?_ ?_
   · intro L a u hL hst hS hdep hq hno; refine .inl ⟨⟨70, by kernel_rfl, hdep 70⟩, ?_⟩; have g9 := gd (v := .int .i64 7) (hst.out 9 (by kernel_rfl)); go_simp; exact Went6.same (HKR.out _ _) hS rfl
   refine .cons ?_ ?_
   · intro L a u hL hst hS hdep hq hno; refine .inl ⟨⟨70, by kernel_rfl, hdep 70⟩, ?_⟩; have g71 := gd (hdep 71); go_simp; exact Went6.same (HKR.out _ _) hS rfl
   refine .cons ?_ ?_
   · intro L a u hL hst hS hdep hq hno; refine .inl ⟨trivial, ?_⟩; have g70 := gd (hdep 70); have g72 := gd (hdep 72); go_simp; exact Went6.same (HKR.out _ _) hS rfl
   refine .cons ?_ ?_
   · intro L a u hL hst hS hdep hq hno; refine .inl ⟨trivial, ?_⟩; have g73 := gd (hdep 73); go_simp; exact Went6.same (HKR.out _ _) hS rfl
   refine .cons ?_ ?_
   · intro L a u hL hst hS hdep hq hno; refine .inl ⟨⟨74, by kernel_rfl, hdep 74⟩, ?_⟩; have g11 := gd (v := .int .i64 6) (hst.out 11 (by kernel_rfl)); go_simp; exact Went6.same (HKR.out _ _) hS rfl
   refine .cons ?_ ?_
   · intro L a u hL hst hS hdep hq hno; refine .inl ⟨⟨74, by kernel_rfl, hdep 74⟩, ?_⟩; have g75 := gd (hdep 75); go_simp; exact Went6.same (HKR.out _ _) hS rfl
   refine .cons ?_ ?_
   · intro L a u hL hst hS hdep hq hno; refine .inl ⟨trivial, ?_⟩; have g74 := gd (hdep 74); have g76 := gd (hdep 76); go_simp; exact Went6.same (HKR.out _ _) hS rfl
   refine .cons ?_ ?_
   · intro L a u hL hst hS hdep hq hno; refine .inl ⟨trivial, ?_⟩; have g77 := gd (hdep 77); go_simp; exact Went6.same (HKR.out _ _) hS rfl
   refine .cons ?_ ?_
   · intro L a u hL hst hS hdep hq hno; refine .inl ⟨⟨78, by kernel_rfl, hdep 78⟩, ?_⟩; have g1 := gd (v := .pointer (some ⟨b, 0, none⟩)) (hst.out 1 (by kernel_rfl)); go_simp; exact Went6.same (HKR.out _ _) hS rfl
   refine .cons ?_ ?_
   · intro L a u hL hst hS hdep hq hno; refine .inl ⟨⟨78, by kernel_rfl, hdep 78⟩, ?_⟩; have g79 := gd (hdep 79); go_simp; have hs := (HGN.out u).1 hS; refine (hs.cmany HC.out cu16_i4).mono ?_; rintro e' u' ⟨rfl, h2⟩; exact Went6.next ((HGN.out _).2 (h2)) trivial rfl
   refine .cons ?_ ?_
   · intro L a u hL hst hS hdep hq hno; refine .inl ⟨⟨78, by kernel_rfl, hdep 78⟩, ?_⟩; have g80 := gd (hdep 80); go_simp; exact Went6.same (HKR.out _ _) hS rfl
   refine .cons ?_ ?_
   · intro L a u hL hst hS hdep hq hno; refine .inl ⟨trivial, ?_⟩; have g78 := gd (hdep 78); have g81 := gd (hdep 81); go_simp; exact Went6.same (HKR.out _ _) hS rfl
   refine .cons ?_ ?_
   · intro L a u hL hst hS hdep hq hno; refine .inl ⟨trivial, ?_⟩; have g82 := gd (hdep 82); go_simp; exact Went6.same (HKR.out _ _) hS rfl
   refine .cons ?_ ?_
   · intro L a u hL hst hS hdep hq hno; refine .inl ⟨⟨83, by kernel_rfl, hdep 83⟩, ?_⟩; have g1 := gd (v := .pointer (some ⟨b, 0, none⟩)) (hst.out 1 (by kernel_rfl)); go_simp; exact Went6.same (HKR.out _ _) hS rfl
   refine .cons ?_ ?_
   · intro L a u hL hst hS hdep hq hno; refine .inl ⟨⟨83, by kernel_rfl, hdep 83⟩, ?_⟩; have g84 := gd (hdep 84); go_simp; have hs := (HGN.out u).1 hS; refine (hs.cnew HC.out cu16_i4).mono ?_; rintro e' u' ⟨rfl, h2⟩; exact Went6.next ((HGN.out _).2 (h2)) trivial rfl
   refine .cons ?_ ?_
   · intro L a u hL hst hS hdep hq hno; refine .inl ⟨⟨83, by kernel_rfl, hdep 83⟩, ?_⟩; have g6 := gd (v := .pointer (some ⟨t8, 0, none⟩)) (hst.out 6 (by kernel_rfl)); obtain ⟨r0, r2, p0, p1, p2⟩ := HCE.out u hS; go_simp; exact Went6.same (HKR.out _ _) hS rfl
   refine .cons ?_ ?_
   · intro L a u hL hst hS hdep hq hno; refine .inl ⟨⟨83, by kernel_rfl, hdep 83⟩, ?_⟩; have g85 := gd (hdep 85); have g86 := gd (hdep 86); have hE := HEQ.out u; go_simp; exact Went6.same (HKR.out _ _) hS rfl
   refine .cons ?_ ?_
   · intro L a u hL hst hS hdep hq hno; refine .inl ⟨trivial, ?_⟩; have g83 := gd (hdep 83); have g87 := gd (hdep 87); go_simp; exact Went6.same (HKR.out _ _) hS rfl
   refine .cons ?_ ?_
   · intro L a u hL hst hS hdep hq hno; refine .inl ⟨trivial, ?_⟩; have g88 := gd (hdep 88); go_simp; exact Went6.same (HKR.out _ _) hS rfl
   refine .cons ?_ ?_
   · intro L a u hL hst hS hdep hq hno; refine .inl ⟨⟨89, by kernel_rfl, hdep 89⟩, ?_⟩; have g1 := gd (v := .pointer (some ⟨b, 0, none⟩)) (hst.out 1 (by kernel_rfl)); go_simp; exact Went6.same (HKR.out _ _) hS rfl
   refine .cons ?_ ?_
   · intro L a u hL hst hS hdep hq hno; refine .inl ⟨⟨89, by kernel_rfl, hdep 89⟩, ?_⟩; have g90 := gd (hdep 90); go_simp; have hs := (HGN.out u).1 hS; refine (hs.cld HC.out cu16_i4 1 (HI.out _ (by decide) (by decide))).mono ?_; rintro e' u' ⟨rfl, h2⟩; exact Went6.next ((HGN.out _).2 (h2)) trivial rfl
   refine .cons ?_ ?_
   · intro L a u hL hst hS hdep hq hno; refine .inl ⟨trivial, ?_⟩; have g89 := gd (hdep 89); have g91 := gd (hdep 91); go_simp; exact Went6.same (HKR.out _ _) hS rfl
   refine .cons ?_ ?_
   · intro L a u hL hst hS hdep hq hno; refine .inl ⟨trivial, ?_⟩; have g92 := gd (hdep 92); go_simp; exact Went6.same (HKR.out _ _) hS rfl
   refine .cons ?_ ?_
   · intro L a u hL hst hS hdep hq hno; refine .inl ⟨⟨93, by kernel_rfl, hdep 93⟩, ?_⟩; have g1 := gd (v := .pointer (some ⟨b, 0, none⟩)) (hst.out 1 (by kernel_rfl)); go_simp; exact Went6.same (HKR.out _ _) hS rfl
   refine .cons ?_ ?_
   · intro L a u hL hst hS hdep hq hno; refine .inl ⟨⟨93, by kernel_rfl, hdep 93⟩, ?_⟩; have g94 := gd (hdep 94); go_simp; have hs := (HGN.out u).1 hS; refine (hs.cep HC.out cu16_i4 0 (HI.out _ (by decide) (by decide))).mono ?_; rintro e' u' ⟨rfl, h2⟩; exact Went6.next ((HGN.out _).2 (h2)) trivial rfl
   refine .cons ?_ ?_
   · intro L a u hL hst hS hdep hq hno; refine .inl ⟨⟨93, by kernel_rfl, hdep 93⟩, ?_⟩; have g95 := gd (hdep 95); go_simp; exact Went6.same (HKR.out _ _) hS rfl
   refine .cons ?_ ?_
   · intro L a u hL hst hS hdep hq hno; refine .inl ⟨trivial, ?_⟩; have g93 := gd (hdep 93); have g96 := gd (hdep 96); go_simp; exact Went6.same (HKR.out _ _) hS rfl
   refine .cons ?_ ?_
   · intro L a u hL hst hS hdep hq hno; refine .inl ⟨trivial, ?_⟩; have g97 := gd (hdep 97); go_simp; exact Went6.same (HKR.out _ _) hS rfl
   refine .cons ?_ ?_
   · intro L a u hL hst hS hdep hq hno; refine .inl ⟨⟨98, by kernel_rfl, hdep 98⟩, ?_⟩; have g1 := gd (v := .pointer (some ⟨b, 0, none⟩)) (hst.out 1 (by kernel_rfl)); go_simp; exact Went6.same (HKR.out _ _) hS rfl
   refine .cons ?_ ?_
   · intro L a u hL hst hS hdep hq hno; refine .inl ⟨⟨98, by kernel_rfl, hdep 98⟩, ?_⟩; have g99 := gd (hdep 99); go_simp; have hs := (HGN.out u).1 hS; refine (hs.clog HC.out cu16_i4 0 (HI.out _ (by decide) (by decide))).mono ?_; rintro e' u' ⟨A2, m2, d2, ⟨rfl, _⟩, h2⟩; obtain rfl : 2 = m2 := (h2.lr (.head _)).len; exact Went6.next ((HGN.out _).2 (h2.bare)) trivial ⟨_, _, rfl⟩
   refine .cons ?_ ?_
   · intro L a u hL hst hS hdep hq hno; obtain ⟨A100, d100, h100⟩ := hdep 100; refine .inl ⟨⟨98, by kernel_rfl, hdep 98⟩, ?_⟩; have g100 := gd h100; go_simp; exact Went6.same (HKR.out _ _) hS rfl
   refine .cons ?_ ?_
   · intro L a u hL hst hS hdep hq hno; refine .inl ⟨⟨98, by kernel_rfl, hdep 98⟩, ?_⟩; have g101 := gd (hdep 101); go_simp; exact Went6.same (HKR.out _ _) hS rfl
   refine .cons ?_ ?_
   · intro L a u hL hst hS hdep hq hno; refine .inl ⟨trivial, ?_⟩; have g98 := gd (hdep 98); have g102 := gd (hdep 102); go_simp; exact Went6.same (HKR.out _ _) hS rfl
   refine .cons ?_ ?_
   · intro L a u hL hst hS hdep hq hno; refine .inl ⟨trivial, ?_⟩; have g103 := gd (hdep 103); go_simp; exact Went6.same (HKR.out _ _) hS rfl
   refine .cons ?_ ?_
   · intro L a u hL hst hS hdep hq hno; refine .inl ⟨⟨104, by kernel_rfl, hdep 104⟩, ?_⟩; have g1 := gd (v := .pointer (some ⟨b, 0, none⟩)) (hst.out 1 (by kernel_rfl)); go_simp; exact Went6.same (HKR.out _ _) hS rfl
   refine .cons ?_ ?_
   · intro L a u hL hst hS hdep hq hno; refine .inl ⟨⟨104, by kernel_rfl, hdep 104⟩, ?_⟩; have g105 := gd (hdep 105); go_simp; have hs := (HGN.out u).1 hS; have hq := hs.crun HC.out HLW.out cu16_i4 (by decide) 5 1 1 true ⟨#[]⟩ (by unfold Sm; decide) (HI.out _ (by decide) (by decide)) (HI.out _ (by decide) (by decide)) HU.out; rw [cu16_none] at hq; refine hq.mono ?_; rintro e' u' ⟨A2, m2, d2, rfl, h2⟩; exact Went6.next ((HGN.out _).2 h2.bare) trivial ⟨_, _, _, rfl⟩
   refine .cons ?_ ?_
   · intro L a u hL hst hS hdep hq hno; obtain ⟨A106, m106, d106, h106⟩ := hdep 106; refine .inl ⟨⟨104, by kernel_rfl, hdep 104⟩, ?_⟩; have g106 := gd h106; have hfl := HFL.out A106 m106 d106 u; go_simp; exact Went6.same (HKR.out _ _) hS rfl
   refine .cons ?_ ?_
   · intro L a u hL hst hS hdep hq hno; refine .inl ⟨⟨104, by kernel_rfl, hdep 104⟩, ?_⟩; have g107 := gd (hdep 107); go_simp; exact Went6.same (HKR.out _ _) hS rfl
   refine .cons ?_ ?_
   · intro L a u hL hst hS hdep hq hno; refine .inl ⟨trivial, ?_⟩; have g104 := gd (hdep 104); have g108 := gd (hdep 108); go_simp; exact Went6.same (HKR.out _ _) hS rfl
   refine .cons ?_ ?_
   · intro L a u hL hst hS hdep hq hno; refine .inl ⟨trivial, ?_⟩; have g109 := gd (hdep 109); go_simp; exact Went6.same (HKR.out _ _) hS rfl
   refine .cons ?_ ?_
   · intro L a u hL hst hS hdep hq hno; refine .inl ⟨⟨110, by kernel_rfl, hdep 110⟩, ?_⟩; have g1 := gd (v := .pointer (some ⟨b, 0, none⟩)) (hst.out 1 (by kernel_rfl)); go_simp; exact Went6.same (HKR.out _ _) hS rfl
   refine .cons ?_ ?_
   · intro L a u hL hst hS hdep hq hno; refine .inl ⟨⟨110, by kernel_rfl, hdep 110⟩, ?_⟩; have g111 := gd (hdep 111); go_simp; have hs := (HGN.out u).1 hS; have hq := hs.ccls HC.out cu16_i4 (by decide) 0 1 (HI.out _ (by decide) (by decide)) (HI.out _ (by decide) (by decide)); rw [cu16_cls0] at hq; refine hq.mono ?_; rintro e' u' ⟨rfl, h2⟩; exact Went6.next ((HGN.out _).2 h2) trivial rfl
   refine .cons ?_ ?_
   · intro L a u hL hst hS hdep hq hno; refine .inl ⟨⟨110, by kernel_rfl, hdep 110⟩, ?_⟩; have g112 := gd (hdep 112); go_simp; exact Went6.same (HKR.out _ _) hS rfl
   refine .cons ?_ ?_
   · intro L a u hL hst hS hdep hq hno; refine .inl ⟨trivial, ?_⟩; have g110 := gd (hdep 110); have g113 := gd (hdep 113); go_simp; exact Went6.same (HKR.out _ _) hS rfl
   refine .cons ?_ ?_
   · intro L a u hL hst hS hdep hq hno; refine .inl ⟨trivial, ?_⟩; have g114 := gd (hdep 114); go_simp; exact Went6.same (HKR.out _ _) hS rfl
   exact EachOp.nil
 · intro L a u hLs hst hS hdep; have h45 : a.tmps.getD 45 undef = .pointer (some ⟨t3, 0, none⟩) := hdep 45; have h46 : a.tmps.getD 46 undef = .int .i64 0 := hdep 46; have h47 : a.tmps.getD 47 undef = .bool true := hdep 47; have h48 : a.tmps.getD 48 undef = .bool true := hdep 48; have h49 : a.tmps.getD 49 undef = .pointer (some ⟨t3, 2, none⟩) := hdep 49; have h50 : a.tmps.getD 50 undef = .int .u64 1 := hdep 50; have h51 : a.tmps.getD 51 undef = .bool true := hdep 51; have h52 : a.tmps.getD 52 undef = .bool true := hdep 52; have h53 : a.tmps.getD 53 undef = .bool true := hdep 53; have h54 : a.tmps.getD 54 undef = .int .u64 1 := hdep 54; have h55 : a.tmps.getD 55 undef = .bool true := hdep 55; have h56 : a.tmps.getD 56 undef = .bool true := hdep 56; have h57 : a.tmps.getD 57 undef = .bool true := hdep 57; have h58 : a.tmps.getD 58 undef = .int .i64 1 := hdep 58; have h59 : a.tmps.getD 59 undef = .bool true := hdep 59; have h60 : a.tmps.getD 60 undef = .bool true := hdep 60; have h61 : a.tmps.getD 61 undef = .bool true := hdep 61; have h62 : a.tmps.getD 62 undef = .agg #[.int .u64 2, .int .i64 1, .int .u64 1] := hdep 62; have h63 : a.tmps.getD 63 undef = .agg #[.int .u64 2, .int .i64 1, .int .u64 1] := hdep 63; have h64 : a.tmps.getD 64 undef = .bool true := hdep 64; have h65 : a.tmps.getD 65 undef = .bool true := hdep 65; have h66 : a.tmps.getD 66 undef = .bool true := hdep 66; have h67 : a.tmps.getD 67 undef = .int .i64 0 := hdep 67; have h68 : a.tmps.getD 68 undef = .bool true := hdep 68; have h69 : a.tmps.getD 69 undef = .bool true := hdep 69; have h70 : a.tmps.getD 70 undef = .bool true := hdep 70; have h71 : a.tmps.getD 71 undef = .int .i64 7 := hdep 71; have h72 : a.tmps.getD 72 undef = .bool true := hdep 72; have h73 : a.tmps.getD 73 undef = .bool true := hdep 73; have h74 : a.tmps.getD 74 undef = .bool true := hdep 74; have h75 : a.tmps.getD 75 undef = .int .i64 6 := hdep 75; have h76 : a.tmps.getD 76 undef = .bool true := hdep 76; have h77 : a.tmps.getD 77 undef = .bool true := hdep 77; have h78 : a.tmps.getD 78 undef = .bool true := hdep 78; have h79 : a.tmps.getD 79 undef = .pointer (some ⟨b, 0, none⟩) := hdep 79; have h80 : a.tmps.getD 80 undef = .int .i64 2 := hdep 80; have h81 : a.tmps.getD 81 undef = .bool true := hdep 81; have h82 : a.tmps.getD 82 undef = .bool true := hdep 82; have h83 : a.tmps.getD 83 undef = .bool true := hdep 83
   have h84 : a.tmps.getD 84 undef = .pointer (some ⟨b, 0, none⟩) := hdep 84; have h85 : a.tmps.getD 85 undef = .agg #[.int .u64 2, .int .i64 1, .int .u64 1] := hdep 85; have h86 : a.tmps.getD 86 undef = .agg #[.int .u64 2, .int .i64 1, .int .u64 1] := hdep 86; have h87 : a.tmps.getD 87 undef = .bool true := hdep 87; have h88 : a.tmps.getD 88 undef = .bool true := hdep 88; have h89 : a.tmps.getD 89 undef = .bool true := hdep 89; have h90 : a.tmps.getD 90 undef = .pointer (some ⟨b, 0, none⟩) := hdep 90; have h91 : a.tmps.getD 91 undef = .bool true := hdep 91; have h92 : a.tmps.getD 92 undef = .bool true := hdep 92; have h93 : a.tmps.getD 93 undef = .bool true := hdep 93; have h94 : a.tmps.getD 94 undef = .pointer (some ⟨b, 0, none⟩) := hdep 94; have h95 : a.tmps.getD 95 undef = .int .u64 1 := hdep 95; have h96 : a.tmps.getD 96 undef = .bool true := hdep 96; have h97 : a.tmps.getD 97 undef = .bool true := hdep 97; have h98 : a.tmps.getD 98 undef = .bool true := hdep 98; have h99 : a.tmps.getD 99 undef = .pointer (some ⟨b, 0, none⟩) := hdep 99; obtain ⟨A100, d100, h100⟩ := hdep 100; have h101 : a.tmps.getD 101 undef = .int .i64 2 := hdep 101; have h102 : a.tmps.getD 102 undef = .bool true := hdep 102; have h103 : a.tmps.getD 103 undef = .bool true := hdep 103; have h104 : a.tmps.getD 104 undef = .bool true := hdep 104; have h105 : a.tmps.getD 105 undef = .pointer (some ⟨b, 0, none⟩) := hdep 105; obtain ⟨A106, m106, d106, h106⟩ := hdep 106; have h107 : a.tmps.getD 107 undef = .int .i64 6 := hdep 107; have h108 : a.tmps.getD 108 undef = .bool true := hdep 108; have h109 : a.tmps.getD 109 undef = .bool true := hdep 109; have h110 : a.tmps.getD 110 undef = .bool true := hdep 110; have h111 : a.tmps.getD 111 undef = .pointer (some ⟨b, 0, none⟩) := hdep 111; have h112 : a.tmps.getD 112 undef = .bool false := hdep 112; have h113 : a.tmps.getD 113 undef = .bool true := hdep 113; have h114 : a.tmps.getD 114 undef = .bool true := hdep 114; have h0 : a.tmps.getD 0 undef = .bool true := hdep 0; have hfr := hst.frame [(45, .pointer (some ⟨t3, 0, none⟩)), (46, .int .i64 0), (47, .bool true), (48, .bool true), (49, .pointer (some ⟨t3, 2, none⟩)), (50, .int .u64 1), (51, .bool true), (52, .bool true), (53, .bool true), (54, .int .u64 1), (55, .bool true), (56, .bool true), (57, .bool true), (58, .int .i64 1), (59, .bool true), (60, .bool true), (61, .bool true), (62, .agg #[.int .u64 2, .int .i64 1, .int .u64 1]), (63, .agg #[.int .u64 2, .int .i64 1, .int .u64 1]), (64, .bool true), (65, .bool true), (66, .bool true), (67, .int .i64 0), (68, .bool true), (69, .bool true), (70, .bool true), (71, .int .i64 7), (72, .bool true), (73, .bool true), (74, .bool true), (75, .int .i64 6), (76, .bool true), (77, .bool true), (78, .bool true), (79, .pointer (some ⟨b, 0, none⟩)), (80, .int .i64 2), (81, .bool true), (82, .bool true), (83, .bool true), (84, .pointer (some ⟨b, 0, none⟩)), (85, .agg #[.int .u64 2, .int .i64 1, .int .u64 1]), (86, .agg #[.int .u64 2, .int .i64 1, .int .u64 1]), (87, .bool true), (88, .bool true), (89, .bool true), (90, .pointer (some ⟨b, 0, none⟩)), (91, .bool true), (92, .bool true), (93, .bool true), (94, .pointer (some ⟨b, 0, none⟩)), (95, .int .u64 1), (96, .bool true), (97, .bool true), (98, .bool true), (99, .pointer (some ⟨b, 0, none⟩)), (100, .slice A100 2 d100), (101, .int .i64 2), (102, .bool true), (103, .bool true), (104, .bool true), (105, .pointer (some ⟨b, 0, none⟩)), (106, .agg #[.int .i64 6, .int .u64 0, .int .u64 0, .slice A106 m106 d106]), (107, .int .i64 6), (108, .bool true), (109, .bool true), (110, .bool true), (111, .pointer (some ⟨b, 0, none⟩)), (112, .bool false), (113, .bool true), (114, .bool true), (0, .bool true)] (by kernel_rfl) ⟨h45, h46, h47, h48, h49, h50, h51, h52, h53, h54, h55, h56, h57, h58, h59, h60, h61, h62, h63, h64, h65, h66, h67, h68, h69, h70, h71, h72, h73, h74, h75, h76, h77, h78, h79, h80, h81, h82, h83, h84, h85, h86, h87, h88, h89, h90, h91, h92, h93, h94, h95, h96, h97, h98, h99, h100, h101, h102, h103, h104, h105, h106, h107, h108, h109, h110, h111, h112, h113, h114, h0, trivial⟩
   clear hst hdep h45 h46 h47 h48 h49 h50 h51 h52 h53 h54 h55 h56 h57 h58 h59 h60 h61 h62 h63 h64 h65 h66 h67 h68 h69 h70 h71 h72 h73 h74 h75 h76 h77 h78 h79 h80 h81 h82 h83 h84 h85 h86 h87 h88 h89 h90 h91 h92 h93 h94 h95 h96 h97 h98 h99 h100 h101 h102 h103 h104 h105 h106 h107 h108 h109 h110 h111 h112 h113 h114 h0; subst hfr; simp only [List.foldl_cons, List.foldl_nil, List.setIfInBounds_toArray, List.set_cons_zero, List.set_cons_succ]; have HJ := hid ((HGN.out u).1 hS).low; clear hS hLs; go_wp2_with fail; go_ret; exact ⟨rfl, HJ.out⟩
end
end

/- A cluster, plain: what was written and no promotion cut stands; what is read is told by the epoch and the place; what is copied in parts (no function of the program is named here). -/
section
open Go.RowKit
set_option maxRecDepth 100000
structure Wr16 where
 x : Lg
 e : Int
 p : Int
instance : Inhabited Wr16 := ⟨⟨default, 0, 0⟩⟩
section
variable {k : Nat} {c : Cu} {ps : List Pr16} {ws : List Wr16}
end
structure Sv16 where
 e : Int
 p : Int
 ts : List ByteArray
instance : Inhabited Sv16 := ⟨⟨0, 0, []⟩⟩
section
variable {s : ByteArray} {k : Nat} {c : Cu} {L : Int → List Lg} {ss : List Sv16}
end
end

/- Layer 16: what the laws' walks share: a row cut at its end, rows that a region told, what stands beside a call. -/
section
open Go.RowKit
set_option maxRecDepth 100000
section
variable {w0 w : World} {X Y : Thing} {ps : List (Nat × (Nat → Nat))} {l : List (Nat × Obj)} {rs : List (Option Addr × Nat × List Lg)} {xs : List (Option Addr × Nat × List ByteArray)}
theorem St15.fst (h : St15 w0 X Y ps l rs xs w) : ∃ S T : Nat → Prop, X.p S w ∧ Y.p T w := by
 obtain ⟨N, ⟨⟨S, T, h1, h2, _⟩, _⟩, _⟩ := h; exact ⟨S, T, h1, h2⟩
end
end

/- Layer 16: a row that a law itself makes longer, beside a cluster, as the second thing; what is served. -/
section
open Go.RowKit
set_option maxRecDepth 100000
section
variable {w0 w w' : World} {X Y Y' : Thing} {ps : List (Nat × (Nat → Nat))} {l : List (Nat × Obj)} {rs : List (Option Addr × Nat × List Lg)} {xs : List (Option Addr × Nat × List ByteArray)}
theorem St15.snd (h : St15 w0 X Y ps l rs xs w) : ∃ T : Nat → Prop, Y.p T w := by
 obtain ⟨S, T, _, h2⟩ := h.fst; exact ⟨T, h2⟩
variable {T : TypeId} {size : Nat} {A : Option Addr} {n c : Nat} {vs : List Value}
end
structure SvL where
 e : Int
 p : Int
 A : Option Addr
 m : Nat
 d : Nat
 ts : List ByteArray
instance : Inhabited SvL := ⟨⟨0, 0, none, 0, 0, []⟩⟩
end

/- Layer 16: two things as one; rows of any elements as things; what an act leaves of writes and promotions. -/
section
open Go.RowKit
set_option maxRecDepth 100000
section
variable {A A' B B' : Thing} {S : Nat → Prop} {w w' : World}
end
section
variable {w0 w : World} {X Y Z : Thing} {ps : List (Nat × (Nat → Nat))} {l : List (Nat × Obj)} {rs : List (Option Addr × Nat × List Lg)} {xs : List (Option Addr × Nat × List ByteArray)}
end
theorem neq_went (T : TypeId) (hT : T = 69) (k k' : Int) (t t' : ByteArray) (w : World) : (binOp .neq T (.agg #[.int .u64 k, .string t]) (.agg #[.int .u64 k', .string t'])).run Tryz.prog w = .ok (.bool (!decide ((⟨k, t⟩ : Lg) = ⟨k', t'⟩))) w := by
 subst hT; have hf : (Tryz.prog.fieldsOf 69) = (match Tryz.prog.underlying 69 with | some (.struct fs) => fs | _ => #[]) := rfl; have hu := Tryz.underlying69; rw [hu] at hf; rw [run_neq_struct, run_equalIn_agg (P := Tryz.prog) w 9999 _ _ _ (by rw [hf]; exact hu) (by kernel_rfl), hf]; have h9 := Tryz.underlying9; have hz9 := Tryz.sizeOf9; have ha9 := Tryz.isAgg9; have h8 := Tryz.underlying32; have hz8 := Tryz.sizeOf32; have ha8 := Tryz.isAgg32; have p1 : ∀ (x : Int) (u : ByteArray) (w : World), (part 32 #[.int .u64 x, .string u] 0).run Tryz.prog w = .ok (.int .u64 x) w := fun x u w => by simp [part, hz8, ha8]
 have p2 : ∀ (x : Int) (u : ByteArray) (w : World), (part 9 #[.int .u64 x, .string u] 1).run Tryz.prog w = .ok (.string u) w := fun x u w => by simp [part, hz9, ha9]
 have e1 : ∀ (x y : Int) (w : World), (Op.equalIn 9999 32 (.int .u64 x) (.int .u64 y)).run Tryz.prog w = .ok (x == y) w := fun x y w => run_equalIn_int w 9998 32 .u64 .u64 x y h8; have e2 : ∀ (x y : ByteArray) (w : World), (Op.equalIn 9999 9 (.string x) (.string y)).run Tryz.prog w = .ok (x.toList == y.toList) w := fun x y w => run_equalIn_string w 9998 9 x y h9; have ht : t.toList = t'.toList ↔ t = t' := ⟨bytes_ext, fun h => by rw [h]⟩; by_cases h1 : k = k'
 · by_cases h2 : t = t'
   · simp [Op.eqFields, p1, p2, e1, e2, h1, h2]
   · simp [Op.eqFields, p1, p2, e1, e2, ht, h1, h2]
 · simp [Op.eqFields, p1, p2, e1, e2, h1]
section
variable {k : Nat} {c : Cu} {ps : List Pr16} {ws : List Wr16}
end
end

/- The landed cluster: begin, alike, Copy: contracts. -/
section
open Go.RowKit
set_option maxRecDepth 100000
def prP (p : Pr16) : Value := .agg #[.int .u64 p.e, .int .i64 p.p, .int .u64 p.c]
section
variable {b : Nat} {c : Cu} {g cap : Nat} {bs : Nat → Nat} {T S : Nat → Prop} {w w' : World} {k : Nat} {R : Value → World → Prop}
theorem PUx.retop (h : PUx b c g cap bs T S w) (p : Pr16) (ht : w'.heap[b]? = some (.cells #[.slice (some ⟨g, 0, none⟩) c.n cap, .int .u64 p.e, .int .i64 p.p, .int .u64 p.c] 86 (0, 0))) (ho : Off (fun k => k = b) w w') : PUx b ⟨c.n, c.ns, p⟩ g cap bs T S w' :=
 { h with
  top := ht
  pt := fun i hi => (World.cell?_of_block (a := ⟨g, i, none⟩) (ho.block g (h.lt g h.sg) h.gb)).trans (h.pt i hi)
  nd := Thing.off h.nd ho fun _ e e2 => h.tb (e2 ▸ e)
  lt := fun k e => Nat.lt_of_lt_of_le (h.lt k e) ho.size }
set_option maxHeartbeats 4000000 in
theorem pbegin16_ok (p : Pr16) (h : PUx b c g cap bs T S w) (hp : c.Is p.p) :
 Calls Tryz.prog 33 #[.pointer (some ⟨b, 0, none⟩), prP p] w fun e w' => e = .returned (.tuple #[]) ∧ Turn (PU b ⟨c.n, upd3 c.ns p.p.toNat (leadNd (c.at p.p) p.e), p⟩) S w w' := by
 obtain ⟨w1, hw1⟩ : ∃ u, w.alloc (.cells #[.int .u64 p.e, .int .i64 p.p, .int .u64 p.c] 45) = u := ⟨_, rfl⟩; have k1 : Below w.heap.size w w1 := hw1 ▸ kp_new w _; have b1 : w1.heap[w.heap.size]? = some (.cells #[.int .u64 p.e, .int .i64 p.p, .int .u64 p.c] 45 (0, 0)) := hw1 ▸ alloc_at rfl _ _; have hx1 := h.later w1 k1; have hbl := h.lt b h.sb; obtain ⟨w2, hw2⟩ : ∃ u, ((w1.setCell ⟨b, 1, none⟩ (.int .u64 p.e)).setCell ⟨b, 2, none⟩ (.int .i64 p.p)).setCell ⟨b, 3, none⟩ (.int .u64 p.c) = u := ⟨_, rfl⟩
 have ht2 : w2.heap[b]? = some (.cells #[.slice (some ⟨g, 0, none⟩) c.n cap, .int .u64 p.e, .int .i64 p.p, .int .u64 p.c] 86 (0, 0)) := by
  rw [← hw2]; exact heap_setCell_same _ b 3 _ _ (.int .u64 p.c) (heap_setCell_same _ b 2 _ _ (.int .i64 p.p) (heap_setCell_same w1 b 1 _ _ (.int .u64 p.e) hx1.top))
 have ho2 : Off (fun k => k = b) w1 w2 := by
  rw [← hw2]; exact (((Off.refl (fun k => k = b) w1).setCell (p := ⟨b, 1, none⟩) (.inl rfl) _).setCell (p := ⟨b, 2, none⟩) (.inl rfl) _).setCell (p := ⟨b, 3, none⟩) (.inl rfl) _
 have hx2 := hx1.retop p ht2 ho2; have b2 : w2.heap[w.heap.size]? = some (.cells #[.int .u64 p.e, .int .i64 p.p, .int .u64 p.c] 45 (0, 0)) := (ho2.block _ (Array.getElem?_eq_some_iff.1 b1).1 (by omega)).trans b1; have HOW : Hid (Off S w w2) := hid ((Off.of S k1).trans ho2 fun i hi => .inl (hi ▸ h.sb)); obtain ⟨d0, _⟩ := hx2.tops; have hp2 := hx2.ptr (n := p.p) hp; obtain ⟨_, f1⟩ := cellsAt hx1.top 1 (v := .int .u64 c.pm.e) rfl; obtain ⟨_, f2⟩ := cellsAt hx1.top 2 (v := .int .i64 c.pm.p) rfl; obtain ⟨_, f3⟩ := cellsAt hx1.top 3 (v := .int .u64 c.pm.c) rfl; obtain ⟨_, e1, e2, e3⟩ := hx1.tops; obtain ⟨v1, _⟩ := cellsAt b1 0 (v := .int .u64 p.e) rfl; obtain ⟨v2, _⟩ := cellsAt b1 1 (v := .int .i64 p.p) rfl; obtain ⟨v3, _⟩ := cellsAt b1 2 (v := .int .u64 p.c) rfl; obtain ⟨z1, _⟩ := cellsAt b2 0 (v := .int .u64 p.e) rfl; obtain ⟨z2, _⟩ := cellsAt b2 1 (v := .int .i64 p.p) rfl
 have HL : Hid (∀ u, Below w2.heap.size w2 u → Calls Tryz.prog 61 #[.pointer (some ⟨bs p.p.toNat, 0, none⟩), .int .u64 p.e] u fun e w' => (∃ v, e = .returned v) ∧ Turn (PU b ⟨c.n, upd3 c.ns p.p.toNat (leadNd (c.at p.p) p.e), p⟩) S w w') := hid fun u hu => by
  have hxu := hx2.later u hu; refine (Many.op (x := leadNd (c.at p.p) p.e) (Q := fun e _ => ∃ v, e = .returned v) hxu.nd hp.lt.1 fun S' hS' => (plead15_ok p.e hS').mono fun _ _ ⟨he, ht⟩ => ⟨⟨_, he⟩, ht⟩).mono ?_; rintro e w' ⟨he, ht⟩; exact ⟨he, Turn.over (S' := S) (fun _ h => .inl h) (HOW.out.trans (Off.of S hu) fun _ h => .inl h) (hxu.turn ht)⟩
 have hi0 : 0 ≤ p.p := hp.1; have hi1 : p.p < (c.n : Int) := hp.2; have r0 : w2.drew.cell? ⟨b, 0, none⟩ = some (.slice (some ⟨g, 0, none⟩) c.n cap) := d0; have r1 : w2.drew.cell? ⟨g, p.p.toNat, none⟩ = some (.pointer (some ⟨bs p.p.toNat, 0, none⟩)) := hp2; have r2 : w2.drew.cell? ⟨w.heap.size, 0, none⟩ = some (.int .u64 p.e) := z1; have r3 : w2.drew.cell? ⟨w.heap.size, 1, none⟩ = some (.int .i64 p.p) := z2; have HW1 := hid hw1; have HW2 := hid hw2; unfold prP; clear h hx1 hx2 hw1 hw2 k1 b1 b2 ht2 ho2; go_enter Tryz.func33, Tryz.ntmps33
 go_upto_region 1 with fail
 rw [HW1.out]; go_wp2_with fail; rw [HW2.out]; clear e1 e2 e3 f1 f2 f3 v1 v2 v3; go_region_law (go_simp; go_at_call 61; refine (HL.out _ (kp_drewN w2 1)).mono ?_; rintro e w3 ⟨⟨v, rfl⟩, hr⟩; have HR := hid hr; clear hr)
 all_goals
  go_wp2_with fail; go_end0; exact ⟨rfl, HR.out⟩
set_option maxHeartbeats 4000000 in
theorem palike16_ok (A A' : Option Addr) (n n' c c' : Nat) (xs ys : List Lg) (w : World) (hx : LR w A n xs) (hy : LR w A' n' ys) (hn : n ≤ 1000000) :
 Calls Tryz.prog 58 #[.slice A n c, .slice A' n' c'] w fun e w' => e = .returned (.int .u64 (sameLg xs ys)) ∧ ∃ m, w' = w.drewN m := by
 have hlx := hid hx.len; have hly := hid hy.len
 obtain ⟨z, hmn, hz⟩ : ∃ z : Nat, (∀ (u : World) (ts : Array TypeId) (ty : TypeId), (Builtin.min_ ts ty #[.int .i64 (n : Int), .int .i64 (n' : Int)]).run Tryz.prog u = .ok (.int .i64 (z : Int)) u) ∧ z = min n n' := ⟨_, fun u ts ty => by
  rw [run_min_int2 (P := Tryz.prog) (w := u) ts ty .i64 .i64 (n : Int) n']; congr 2
  split <;> omega, rfl⟩
 have HZ := hid hz; have hzn : z ≤ 1000000 := by omega
 have hwz : IntKind.u64.wrap (z : Int) = (z : Int) := by rw [IntKind.wrap_u64]; omega
 clear hz; go_enter Tryz.func58, Tryz.ntmps58; go_wp2_with fail
 go_loopw [6, 13] (fun o i wr => ∃ k m : Nat, k ≤ z ∧ i = .int .i64 k ∧ Hid (xs.take k = ys.take k) ∧ wr = w.drewN m) (fun _ i _ => z - (intOf i).toNat)
 case atStart => exact ⟨0, 0, Nat.zero_le _, rfl, hid (by simp), rfl⟩
 case round =>
  obtain ⟨k, m, hk, rfl, he, hw⟩ := hrel; have hx' : LR wr A n xs := by subst hw; exact hx.next (kp_drewN _ _)
  have hy' : LR wr A' n' ys := by subst hw; exact hy.next (kp_drewN _ _)
  have HW := hid hw; clear hw hx hy; by_cases hlt : k < z
  · have hkn : k < n := by have := HZ.out; omega
    have hkn' : k < n' := by have := HZ.out; omega
    have hkx : k < xs.length := by rw [hlx.out]; omega
    have hky : k < ys.length := by rw [hly.out]; omega
    have hwk : IntKind.u64.wrap (k : Int) = (k : Int) := by rw [IntKind.wrap_u64]; omega
    obtain ⟨ad, rfl, _, hc⟩ := hx'.at_ hkx; obtain ⟨ad', rfl, _, hc'⟩ := hy'.at_ hky; obtain ⟨c0, c1⟩ := hc _ (Below.refl _ _); obtain ⟨d0, d1⟩ := hc' _ (Below.refl _ _); clear hc hc' hx' hy'; have hE := fun u => neq_went 69 rfl xs[k].e ys[k].e xs[k].t ys[k].t u; have hi0 : (0 : Int) ≤ (k : Int) := by omega
    have hi1 : (k : Int) < (n : Int) := by omega
    have hi2 : (k : Int) < (n' : Int) := by omega
    have hi3 : (k : Int) < (z : Int) := by omega
    by_cases hee : xs[k] = ys[k]
    · have hsn : Hid (xs.take (k + 1) = ys.take (k + 1)) := hid (take_same6 hkx hky he.out hee); have hd : decide ((⟨xs[k].e, xs[k].t⟩ : Lg) = ⟨ys[k].e, ys[k].t⟩) = true := decide_eq_true (by exact hee); rw [hd] at hE; clear hee hd; generalize xs[k].e = x at *; generalize ys[k].e = y at *; generalize xs[k].t = s at *; generalize ys[k].t = t at *; go_wp2_with fail; go_quiet (fail); go_wp2_with fail; go_roundw
      case rel => exact ⟨k + 1, m + nq, by omega, by go_num, hsn, by rw [HW.out, World.drewN_drewN]⟩
      case measure => simp [intOf]; omega
    · have hS : Hid (sameLg xs ys = k) := hid (sameLg_of (Nat.le_of_lt hkx) (Nat.le_of_lt hky) he.out fun _ _ => hee); have hd : decide ((⟨xs[k].e, xs[k].t⟩ : Lg) = ⟨ys[k].e, ys[k].t⟩) = false := decide_eq_false (by exact hee); rw [hd] at hE; clear hee hd; generalize xs[k].e = x at *; generalize ys[k].e = y at *; generalize xs[k].t = s at *; generalize ys[k].t = t at *; go_wp2_with fail; go_quiet (fail); go_wp2_with fail; go_ret; exact ⟨by rw [hS.out]; rfl, m + nq, by rw [HW.out, World.drewN_drewN]⟩
  · obtain rfl : k = z := by omega
    have hS : Hid (sameLg xs ys = k) := hid (sameLg_of (by rw [hlx.out]; have := HZ.out; omega) (by rw [hly.out]; have := HZ.out; omega) he.out fun ha hb => by
     rw [hlx.out] at ha; rw [hly.out] at hb; have := HZ.out
     omega)
    have hi3 : ¬ (k : Int) < (k : Int) := by omega
    go_wp2_with fail; go_ret; exact ⟨by rw [hS.out]; rfl, m, HW.out⟩
set_option maxHeartbeats 4000000 in
theorem pcopy1_ok (a x y : Nat) (m : Int) (h : PUx b c g cap bs T S w) (hp : c.Is c.pm.p) (y1 : w.cell? ⟨x, 0, none⟩ = some (.pointer (some ⟨b, 0, none⟩))) (y2 : w.cell? ⟨y, 0, none⟩ = some (.int .i64 m))
 (HQ : ∀ u, Below w.heap.size w u → Calls Tryz.prog 56 #[.pointer (some ⟨a, 0, none⟩), .pointer (some ⟨bs c.pm.p.toNat, 0, none⟩), .int .i64 m] u fun e w' => ∃ v, e = .returned v ∧ R v w') :
 Calls Tryz.prog 55 #[.pointer (some ⟨a, 0, none⟩), .pointer (some ⟨x, 0, none⟩), .pointer (some ⟨y, 0, none⟩)] w fun e w' => ∃ v, e = .returned v ∧ R v w' := by
 obtain ⟨c0, _, c2, _⟩ := h.tops; have hpp := h.ptr hp; have hi0 : 0 ≤ c.pm.p := hp.1; have hi1 : c.pm.p < (c.n : Int) := hp.2; have HH := hid HQ; have d0 : w.drew.cell? ⟨b, 0, none⟩ = some (.slice (some ⟨g, 0, none⟩) c.n cap) := c0; have d2 : w.drew.cell? ⟨b, 2, none⟩ = some (.int .i64 c.pm.p) := c2; have d3 : w.drew.cell? ⟨g, c.pm.p.toNat, none⟩ = some (.pointer (some ⟨bs c.pm.p.toNat, 0, none⟩)) := hpp; have z1 : w.drew.cell? ⟨x, 0, none⟩ = some (.pointer (some ⟨b, 0, none⟩)) := y1; have z2 : w.drew.cell? ⟨y, 0, none⟩ = some (.int .i64 m) := y2; clear h HQ hp; generalize c.pm.p = p at *; go_enter Tryz.func55, Tryz.ntmps55; go_wp2_with fail; go_region_law (go_simp; go_at_call 56; refine (HH.out _ (kp_drewN w 1)).mono ?_; rintro e w3 ⟨v, rfl, hr⟩; have HR := hid hr; clear hr)
 all_goals
  go_wp2_with fail; go_ret; exact ⟨v, rfl, HR.out⟩
set_option maxHeartbeats 4000000 in
theorem pcopy16_ok (n m : Int) (h : (PU b c).p S w) (hI : CuI k c) :
 Calls Tryz.prog 29 #[.pointer (some ⟨b, 0, none⟩), .int .i64 n, .int .i64 m] w fun e w' => e = .returned (.int .i64 (cpyCu c n m).1) ∧ Turn (PU b (cpyCu c n m).2) S w w' := by
 have HT := hid h; obtain ⟨g, cap, bs, T, hx⟩ := h; obtain ⟨w1, hw1⟩ : ∃ u, (w.alloc (.cells #[.pointer (some ⟨b, 0, none⟩)] 25)).alloc (.cells #[.int .i64 m] 3) = u := ⟨_, rfl⟩; have k1 : Below w.heap.size w w1 := hw1 ▸ kp_alloc (kp_new w _) _; have b0 : w1.heap[w.heap.size]? = some (.cells #[.pointer (some ⟨b, 0, none⟩)] 25 (0, 0)) := hw1 ▸ alloc_keep (alloc_at rfl _ _); have b1 : w1.heap[w.heap.size + 1]? = some (.cells #[.int .i64 m] 3 (0, 0)) := hw1 ▸ alloc_at (by simp) _ _; have y1 := (cellsAt b0 0 (v := .pointer (some ⟨b, 0, none⟩)) rfl).1; have y2 := (cellsAt b1 0 (v := .int .i64 m) rfl).1; have hx1 := hx.later w1 k1; obtain ⟨_, _, c2, _⟩ := hx1.tops; rw [← hw1] at c2; have HW1 := hid hw1; have HK1 := hid k1; by_cases hpn : n = c.pm.p
 · rw [show cpyCu c n m = (0, c) from by unfold cpyCu; rw [if_pos (.inr hpn)]]; rw [← hpn] at c2; clear hw1 k1 b0 b1 hx hx1 hpn; go_enter Tryz.func29, Tryz.ntmps29; go_wp2_with fail; rw [HW1.out]; go_ret; exact ⟨rfl, Turn.same HT.out HK1.out⟩
 have hbn : (n == c.pm.p) = false := by simpa using hpn
 by_cases hn : c.Is n
 · rw [show cpyCu c n m = ((copyNd (c.at n) c.first m).1, c.put n (copyNd (c.at n) c.first m).2) from by unfold cpyCu; rw [if_neg (fun h => h.elim (fun e => e hn) hpn)]]
   have HQ := hid (askCp_ok (R := fun v w' => v = .int .i64 (copyNd (c.at n) c.first m).1 ∧ Turn (PU b (c.put n (copyNd (c.at n) c.first m).2)) S w w') n w.heap.size (w.heap.size + 1) hx1 hn (pcopy1_ok _ _ _ m hx1 hI.is y1 y2 fun u hu =>
    (Many.op2 (x := (copyNd (c.at n) c.first m).2) (Q := fun e _ => e = .returned (.int .i64 (copyNd (c.at n) c.first m).1)) (hx1.later u hu).nd hn.lt.1 hI.is.lt.1 (hn.ne hI.is hpn) fun S' T' hS' hT' hd => pcopy15_ok m hS' hT' hd (hI.nd _) (hI.nd _)).mono fun _ _ ⟨he, ht⟩ => ⟨_, he, rfl, ((hx1.later u hu).turn ht).ahead (k1.trans (hu.mono k1.size))⟩))
   generalize copyNd (c.at n) c.first m = q at *; generalize c.pm.p = p at *; clear hw1 k1 b0 b1 hx hx1 hpn; go_enter Tryz.func29, Tryz.ntmps29; go_wp2_with fail; rw [HW1.out]; refine HQ.out.mono ?_; rintro e w2 ⟨v, rfl, rfl, ht⟩; have HTU := hid ht; clear ht; go_wp2_with fail; go_ret; exact ⟨rfl, HTU.out⟩
 · rw [show cpyCu c n m = (0, c) from by unfold cpyCu; rw [if_pos (.inl hn)]]; have HQ := hid (askCp_no n w.heap.size (w.heap.size + 1) hx1 hn); clear hw1 k1 b0 b1 hx hx1 hpn; go_enter Tryz.func29, Tryz.ntmps29; go_wp2_with fail; rw [HW1.out]; refine HQ.out.mono ?_; rintro e w2 ⟨rfl, rfl⟩; go_wp2_with fail; go_ret; exact ⟨rfl, Turn.same HT.out HK1.out⟩
end
end

/- The landed cluster: Promote: contract. -/
section
open Go.RowKit
set_option maxRecDepth 100000
def prZ : Obj := .cells #[.int .u64 0, .int .i64 0, .int .u64 0] 45 (0, 0)
structure ProS (b : Nat) (c : Cu) (S : Nat → Prop) (w : World) (S1 : Nat → Prop) (u : World) : Prop where
 p : (PU b c).p S1 u
 sub : ∀ k, S1 k → S k ∨ w.heap.size + 2 ≤ k
 off : Off S w u
 hz : w.heap.size + 2 ≤ u.heap.size
 rb : u.heap[w.heap.size]? = some prZ
 tb : u.heap[w.heap.size + 1]? = some (.cells #[.int .u64 c.pm.e, .int .i64 c.pm.p, .int .u64 c.pm.c] 45 (0, 0))
section
variable {b : Nat} {c c' : Cu} {S S1 : Nat → Prop} {w u u' : World} {k : Nat} {A : Option Addr}
theorem ProS.beside (h : ProS b c S w S1 u) (hS : ∀ k, S k → k < w.heap.size) {i : Nat} (hi : i < 2) : ¬ S1 (w.heap.size + i) := fun e => by
 rcases h.sub _ e with e | e
 · have := hS _ e; omega
 · omega
theorem ProS.next (h : ProS b c S w S1 u) (hb : Below u.heap.size u u') : ProS b c S w S1 u' :=
 have hz := h.hz
 ⟨Thing.next h.p hb, h.sub, h.off.trans (Off.of S hb) fun _ h => .inl h, Nat.le_trans hz hb.size, (hb.block _ (by omega)).trans h.rb, (hb.block _ (by omega)).trans h.tb⟩
theorem ProS.told (h : ProS b c S w S1 u) (hS : ∀ k, S k → k < w.heap.size) (ht : Told1 (PU b c) S1 A u u') : ∃ S2, ProS b c S w S2 u' ∧ (∀ ad, A = some ad → u.heap.size ≤ ad.block ∧ ad.block < u'.heap.size ∧ ¬ S2 ad.block) ∧ Off S1 u u' := by
 obtain ⟨⟨S2, h1, h2, h3⟩, h4⟩ := ht; have hz := h.hz; refine ⟨S2, ⟨h1, fun k e => (h2 k e).elim (fun e => h.sub k e) fun e => .inr (by omega), h.off.trans h4 fun i hi => (h.sub i hi).imp id fun e => by omega, Nat.le_trans hz h4.size, (h4.block _ (by omega) (h.beside hS (i := 0) (by decide))).trans h.rb, (h4.block _ (by omega) (h.beside hS (i := 1) (by decide))).trans h.tb⟩, h3, h4⟩
theorem ProS.turn (h : ProS b c S w S1 u) (hS : ∀ k, S k → k < w.heap.size) (ht : Turn (PU b c') S1 u u') : u'.heap[w.heap.size]? = some prZ ∧ (∃ S2, (PU b c').p S2 u') ∧ ∀ u'', Off (fun k => k = w.heap.size) u' u'' → Turn (PU b c') S w u'' := by
 have hz := h.hz; have hof := ht.off; refine ⟨(hof.block _ (by omega) (h.beside hS (i := 0) (by decide))).trans h.rb, ?_, fun u'' ho => ?_⟩
 · obtain ⟨⟨S2, h1, _⟩, _⟩ := ht; exact ⟨S2, h1⟩
 obtain ⟨⟨S2, h1, h2⟩, _⟩ := ht; refine ⟨⟨S2, Thing.off h1 ho fun k e e2 => ?_, fun k e => (h2 k e).elim (fun e => (h.sub k e).imp id fun e => by omega) fun e => .inr (by omega)⟩, (h.off.trans hof fun i hi => (h.sub i hi).imp id fun e => by omega).trans ho fun i hi => .inr (Nat.le_of_eq hi.symm)⟩; subst e2; rcases h2 _ e with e | e
 · exact h.beside hS (i := 0) (by decide) e
 · omega
theorem ProS.cells (h : ProS b c S w S1 u) : u.cell? ⟨w.heap.size + 1, 0, none⟩ = some (.int .u64 c.pm.e) ∧ u.cell? ⟨w.heap.size + 1, 1, none⟩ = some (.int .i64 c.pm.p) := ⟨(cellsAt h.tb 0 rfl).1, (cellsAt h.tb 1 rfl).1⟩
theorem LR.past1 {l : List Lg} {m : Nat} (h : LR u A m l) (hA : ∀ ad, A = some ad → ad.block < u.heap.size ∧ ¬ S1 ad.block) (ho : Off S1 u u') : LR u' A m l := h.off ho.size fun ad e => ho.block _ (hA ad e).1 (hA ad e).2
set_option maxHeartbeats 8000000 in
theorem ppro16_ok (n : Int) (h : (PU b c).p S w) (hI : CuI k c) (hk : k ≤ 800) :
 Calls Tryz.prog 30 #[.pointer (some ⟨b, 0, none⟩), .int .i64 n] w fun e w' => e = .returned (.tuple #[prP (proCu c n).1.1, .int .i64 (proCu c n).1.2]) ∧ Turn (PU b (proCu c n).2) S w w' := by
 have HT := hid h; have HS := hid fun k => (PU b c).lt h k; obtain ⟨g, cap, bs, T, hx⟩ := h; obtain ⟨w1, hw1⟩ : ∃ u, (w.alloc (.cells #[.int .u64 0, .int .i64 0, .int .u64 0] 45)).alloc (.cells #[.int .u64 c.pm.e, .int .i64 c.pm.p, .int .u64 c.pm.c] 45) = u := ⟨_, rfl⟩; have k1 : Below w.heap.size w w1 := hw1 ▸ kp_alloc (kp_new w _) _; have b0 : w1.heap[w.heap.size]? = some prZ := hw1 ▸ alloc_keep (alloc_at rfl _ _); have b1 : w1.heap[w.heap.size + 1]? = some (.cells #[.int .u64 c.pm.e, .int .i64 c.pm.p, .int .u64 c.pm.c] 45 (0, 0)) := hw1 ▸ alloc_at (by simp) _ _; have hx1 := hx.later w1 k1; obtain ⟨_, e1, e2, e3⟩ := (hx.later _ (kp_new w (.cells #[.int .u64 0, .int .i64 0, .int .u64 0] 45))).tops; have hP1 : ProS b c S w S w1 := ⟨⟨_, _, _, _, hx1⟩, fun _ h => .inl h, Off.of S k1, by rw [← hw1]; simp, b0, b1⟩; have HIS := hid (phas_ok n hx1); have HW1 := hid hw1; have HK1 := hid k1; have HB0 := hid b0; have HP1 := hid hP1; obtain ⟨_, v1⟩ := hP1.cells; by_cases hn : c.Is n
 rotate_left
 · have hr : proCu c n = ((⟨0, 0, 0⟩, 6), c) := by unfold proCu; rw [if_pos hn]
   rw [hr]; rw [decide_eq_false hn] at HIS; unfold prZ at b0; obtain ⟨s0, q0⟩ := cellsAt b0 0 (v := .int .u64 0) rfl; obtain ⟨s1, q1⟩ := cellsAt b0 1 (v := .int .i64 0) rfl; obtain ⟨s2, q2⟩ := cellsAt b0 2 (v := .int .u64 0) rfl; clear hr k1 hw1 b0 b1 hx1 hx hP1; go_enter Tryz.func30, Tryz.ntmps30; go_wp2_with fail; rw [HW1.out]; refine HIS.out.mono ?_; rintro e w2 ⟨rfl, rfl⟩; go_wp2_with fail; refine bodyPost_ret (v := .tuple #[prP ⟨0, 0, 0⟩, .int .i64 6]) ?_ rfl ⟨rfl, ?_⟩
   · rw [results_ct16 rfl]; unfold prP; go_simp
   · exact Turn.same HT.out (((HK1.out.setCell (Nat.le_refl _) _).setCell (Nat.le_refl _) _).setCell (Nat.le_refl _) _)
 rw [decide_eq_true hn] at HIS; by_cases hp : n = c.pm.p
 · have hr : proCu c n = ((⟨0, 0, 0⟩, 7), c) := by unfold proCu; rw [if_neg (Decidable.not_not.2 hn), if_pos hp]
   rw [hr]; unfold prZ at b0; obtain ⟨s0, q0⟩ := cellsAt b0 0 (v := .int .u64 0) rfl; obtain ⟨s1, q1⟩ := cellsAt b0 1 (v := .int .i64 0) rfl; obtain ⟨s2, q2⟩ := cellsAt b0 2 (v := .int .u64 0) rfl; have hbn : (n == c.pm.p) = true := by simpa using hp
   clear hr k1 hw1 b0 b1 hx1 hx hP1 hp; go_enter Tryz.func30, Tryz.ntmps30; go_wp2_with fail; rw [HW1.out]; refine HIS.out.mono ?_; rintro e w2 ⟨rfl, rfl⟩; go_wp2_with fail; refine bodyPost_ret (v := .tuple #[prP ⟨0, 0, 0⟩, .int .i64 7]) ?_ rfl ⟨rfl, ?_⟩
   · rw [results_ct16 rfl]; unfold prP; go_simp
   · exact Turn.same HT.out (((HK1.out.setCell (Nat.le_refl _) _).setCell (Nat.le_refl _) _).setCell (Nat.le_refl _) _)
 have hr : proCu c n = ((nextPm c n, 0), ⟨c.n, upd3 c.ns n.toNat (leadNd (c.at n) (c.pm.e + 1)), nextPm c n⟩) := by unfold proCu; rw [if_neg (Decidable.not_not.2 hn), if_neg hp]
 rw [hr]; have hbn : (n == c.pm.p) = false := by simpa using hp
 have hwe : IntKind.u64.wrap (c.pm.e + 1) = c.pm.e + 1 := by have := hI.e1; have := hI.ek; rw [IntKind.wrap_u64]; omega
 obtain ⟨v0, _⟩ := hP1.cells; have d0 : w1.drew.cell? ⟨w.heap.size + 1, 0, none⟩ = some (.int .u64 c.pm.e) := v0; have d1 : w1.drew.cell? ⟨w.heap.size + 1, 1, none⟩ = some (.int .i64 c.pm.p) := v1; have HPD := hid (hP1.next (kp_drewN w1 1))
 have HL1 : Hid (Calls Tryz.prog 21 #[.pointer (some ⟨b, 0, none⟩), .int .i64 n] w1.drew fun e u' => ∃ A m d S2, e = .returned (.slice A m d) ∧ Hid (ProS b c S w S2 u') ∧ Hid (LR u' A m (c.at n).lg ∧ ∀ ad, A = some ad → ad.block < u'.heap.size ∧ ¬ S2 ad.block)) := hid ((plog16_ok n HPD.out.p hI).mono fun e u' ⟨A, m, d, he, _, h2, h3⟩ => by
  obtain ⟨S2, k1, k2, _⟩ := HPD.out.told HS.out h3; refine ⟨A, m, d, S2, he, hid k1, hid ⟨?_, fun ad e => (k2 ad e).2⟩⟩; unfold lgCu at h2; rw [if_pos hn] at h2
  exact h2)
 have HL2 : Hid (∀ S1 u A1 m1, Hid (ProS b c S w S1 u) → Hid (LR u A1 m1 (c.at n).lg ∧ ∀ ad, A1 = some ad → ad.block < u.heap.size ∧ ¬ S1 ad.block) → Calls Tryz.prog 21 #[.pointer (some ⟨b, 0, none⟩), .int .i64 c.pm.p] u fun e u' => ∃ A m d S2, e = .returned (.slice A m d) ∧ Hid (ProS b c S w S2 u') ∧ Hid (LR u' A1 m1 (c.at n).lg ∧ LR u' A m c.first.lg)) := hid fun S1 u A1 m1 hp hl => (plog16_ok c.pm.p hp.out.p hI).mono fun e u' ⟨A, m, d, he, _, h2, h3⟩ => by
  obtain ⟨S2, k1, _, k3⟩ := hp.out.told HS.out h3; refine ⟨A, m, d, S2, he, hid k1, hid ⟨hl.out.1.past1 hl.out.2 k3, ?_⟩⟩; unfold lgCu at h2; rw [if_pos hI.is] at h2; exact h2
 have HAL : Hid (∀ u A1 m1 d1 A2 m2 d2, Hid (LR u A1 m1 (c.at n).lg ∧ LR u A2 m2 c.first.lg) → Calls Tryz.prog 58 #[.slice A1 m1 d1, .slice A2 m2 d2] u fun e u' => e = .returned (.int .u64 (sameLg (c.at n).lg c.first.lg)) ∧ Below u.heap.size u u') := hid fun u A1 m1 d1 A2 m2 d2 hl => (palike16_ok A1 A2 m1 m2 d1 d2 _ _ u hl.out.1 hl.out.2 (by have := hl.out.1.len; have := (hI.nd n.toNat).lg; unfold Cu.at at *; omega)).mono fun _ _ ⟨h1, m, h2⟩ => ⟨h1, h2 ▸ kp_drewN u m⟩
 have HBG : Hid (∀ S1 u, Hid (ProS b c S w S1 u) → Calls Tryz.prog 33 #[.pointer (some ⟨b, 0, none⟩), .agg #[.int .u64 (c.pm.e + 1), .int .i64 n, .int .u64 (sameLg (c.at n).lg c.first.lg)]] u fun e u' => (∃ v, e = .returned v) ∧ Hid (Turn (PU b ⟨c.n, upd3 c.ns n.toNat (leadNd (c.at n) (c.pm.e + 1)), nextPm c n⟩) S1 u u')) := hid fun S1 u hp => by
  obtain ⟨g, cap, bs, T, hx⟩ := hp.out.p; exact (pbegin16_ok (nextPm c n) hx hn).mono fun _ _ ⟨h1, h2⟩ => ⟨⟨_, h1⟩, hid h2⟩
 obtain ⟨sm, hsm⟩ : ∃ z : Nat, sameLg (c.at n).lg c.first.lg = z := ⟨_, rfl⟩; have hnx : nextPm c n = ⟨c.pm.e + 1, n, sm⟩ := by unfold nextPm; rw [hsm]
 rw [hsm] at HAL HBG; rw [hnx] at HBG ⊢; unfold prP; obtain ⟨ns', hns⟩ : ∃ z, upd3 c.ns n.toNat (leadNd (c.at n) (c.pm.e + 1)) = z := ⟨_, rfl⟩; rw [hns] at HBG ⊢; obtain ⟨pe, hpe⟩ : ∃ z, c.pm.e + 1 = z := ⟨_, rfl⟩; rw [hpe] at HBG ⊢; have hwe2 : IntKind.u64.wrap (c.pm.e + 1) = pe := hwe.trans hpe; clear hwe; clear hr k1 hw1 b0 b1 hx1 hx hP1 hp hsm hnx hns hpe HPD HP1; go_enter Tryz.func30, Tryz.ntmps30; go_wp2_with fail; rw [HW1.out]; refine HIS.out.mono ?_; rintro e w2 ⟨rfl, rfl⟩; go_wp2_with fail
 go_region_law (first
  | (go_simp; go_at_call 21; with_reducible refine HL1.out.mono ?_; rintro e u1 ⟨A1, m1, d1, S1, rfl, HS1, HR1⟩; have HM2 := hid (HL2.out S1 u1 A1 m1 HS1 HR1); obtain ⟨g0, g1⟩ := HS1.out.cells; clear HL1 HL2 HR1)
  | (go_simp; go_at_call 21; with_reducible refine HM2.out.mono ?_; rintro e u2 ⟨A2, m2, d2, S2, rfl, HS2, HR2⟩; have HMA := hid (HAL.out u2 A1 m1 d1 A2 m2 d2 HR2); obtain ⟨h0, h1⟩ := HS2.out.cells; clear HM2 HAL HR2 HS1)
  | (go_simp; go_at_call 58; with_reducible refine HMA.out.mono ?_; rintro e u3 ⟨rfl, k3⟩; have HS3 := hid (HS2.out.next k3); have HMB := hid (HBG.out S2 u3 HS3); obtain ⟨i0, i1⟩ := HS3.out.cells; clear HMA HBG HS2 k3)
  | (go_simp; go_at_call 33; with_reducible refine HMB.out.mono ?_; rintro e u4 ⟨⟨v, rfl⟩, HT4⟩; clear HMB))
 all_goals
  obtain ⟨j0, ⟨S4, g4, cap4, bs4, T4, hx4⟩, j2⟩ := HS3.out.turn HS.out HT4.out; have HJ2 := hid j2; unfold prZ at j0; obtain ⟨s0, q0⟩ := cellsAt j0 0 (v := .int .u64 0) rfl; obtain ⟨s1, q1⟩ := cellsAt j0 1 (v := .int .i64 0) rfl; obtain ⟨s2, q2⟩ := cellsAt j0 2 (v := .int .u64 0) rfl; obtain ⟨_, y1, y2, y3⟩ := hx4.tops; clear j0 j2 hx4; go_wp2_with fail; refine bodyPost_ret (v := .tuple #[.agg #[.int .u64 pe, .int .i64 n, .int .u64 sm], .int .i64 0]) ?_ rfl ⟨rfl, ?_⟩
  · rw [results_ct16 rfl]; go_simp
  · exact HJ2.out _ ((((Off.refl (fun k => k = w.heap.size) u4).setCell (p := ⟨w.heap.size, 0, none⟩) (.inl rfl) _).setCell (p := ⟨w.heap.size, 1, none⟩) (.inl rfl) _).setCell (p := ⟨w.heap.size, 2, none⟩) (.inl rfl) _)
end
end
end Go.Proofs.YtdhnpmagapbmhaaGreatDoor
