/-
  Contracts and plain functions that the law stands on, part 20 of 24.
-/
import Derived.Test.YtdhnpmagapbmhaaGreatDoorQD19
import Derived.Deep.Cut
namespace Go.Proofs.YtdhnpmagapbmhaaGreatDoor
/- Layer 16: the law's do, over ClusterC: contract. -/
section
open Go.RowKit
set_option maxRecDepth 100000
theorem Told1.ahead {Y : Thing} {S : Nat → Prop} {A : Option Addr} {w u w' : World} (ht : Told1 Y S A u w') (hb : Below w.heap.size w u) : Told1 Y S A w w' := by
 obtain ⟨⟨S', h1, h2, h4⟩, h3⟩ := ht; exact ⟨⟨S', h1, fun k hk => (h2 k hk).imp id fun e => Nat.le_trans hb.size e, fun ad hA => ⟨Nat.le_trans hb.size (h4 ad hA).1, (h4 ad hA).2⟩⟩, (Off.of S hb).trans h3 fun i hi => .inl hi⟩
theorem epX_u {k : Nat} {c : Cu} {x : Ac7} (hI : CuI k c) (hx : x.Fine) : U64n (epX c x) := by
 unfold epX epCu; split
 · split
   · exact ⟨(hI.nd _).e0, (hI.nd _).eu⟩
   · exact ⟨by decide, by decide⟩
 · exact hx.e
section
variable {X : Nat → Cu → Thing} {b : Nat} {c : Cu} {S : Nat → Prop} {w : World} {k : Nat}
set_option maxHeartbeats 4000000 in
theorem ldo16_ok (C : ClusterC X) (hL : Lw w) (x : Ac7) (h : (X b c).p S w) (hI : CuI k c) (hk : k ≤ 800) (hx : x.Fine) (ht : Sm x.t) :
 Calls Tryz.prog 12 #[.pointer (some ⟨b, 0, none⟩), .agg #[.int .i64 x.d, .int .i64 x.nd, .int .i64 x.c, .int .i64 x.m, .int .u64 x.e, .bool x.rd, .string x.t]] w fun e w' => ∃ (A' : Option Addr) (m' d' : Nat), e = .returned (toV16 (actCu c x).1 A' m' d') ∧ XR w' A' m' (actCu c x).1.r.ts ∧ Told1 (X b (actCu c x).2) S A' w w' := by
 obtain ⟨w3, hw3⟩ : ∃ u, ((w.alloc (acP x)).alloc toZ16).alloc toZ16 = u := ⟨_, rfl⟩; have k3 : Below w.heap.size w w3 := hw3 ▸ kp_alloc (kp_alloc (kp_new _ _) _) _; obtain ⟨xb, hxb⟩ : ∃ b, w.heap.size = b := ⟨_, rfl⟩; have hz3 : w3.heap.size = xb + 3 := by rw [← hw3, ← hxb]; simp
 have bx : w3.heap[xb]? = some (acP x) := by
  rw [← hxb, ← hw3, heap_alloc_old _ _ (by simp; omega), heap_alloc_old _ _ (by simp)]; exact heap_alloc_new w _
 have b4 : w3.heap[xb + 1]? = some toZ16 := by
  rw [← hxb, ← hw3, heap_alloc_old _ _ (by simp)]; have := heap_alloc_new (w.alloc (acP x)) toZ16; rwa [World.size_alloc] at this
 have b5 : w3.heap[xb + 1 + 1]? = some toZ16 := by
  rw [← hxb, ← hw3]; have := heap_alloc_new ((w.alloc (acP x)).alloc toZ16) toZ16; rwa [World.size_alloc, World.size_alloc] at this
 have hsz : ∀ k, S k → k < w.heap.size := (X b c).lt h; have h3 := Thing.next h k3; have HT3 := hid h3; have HK3 := hid k3; have HW3 := hid hw3; have HXB := hid hxb; have HB4 := hid b4; have HB5 := hid b5; have HBX := hid bx; have HZ3 := hid hz3; have HS := hid hsz
 have HLO : Hid (∀ u, Below w3.heap.size w3 u → u.cell? ⟨xb, 0, none⟩ = some (.int .i64 x.d) ∧ u.cell? ⟨xb, 1, none⟩ = some (.int .i64 x.nd) ∧ u.cell? ⟨xb, 2, none⟩ = some (.int .i64 x.c) ∧ u.cell? ⟨xb, 3, none⟩ = some (.int .i64 x.m) ∧ u.cell? ⟨xb, 4, none⟩ = some (.int .u64 x.e) ∧ u.cell? ⟨xb, 5, none⟩ = some (.bool x.rd) ∧ u.cell? ⟨xb, 6, none⟩ = some (.string x.t)) := hid fun u hu => by
  have h1 := (hu.block xb (by have := HZ3.out; omega)).trans HBX.out; unfold acP at h1; exact ⟨(cellsAt h1 0 rfl).1, (cellsAt h1 1 rfl).1, (cellsAt h1 2 rfl).1, (cellsAt h1 3 rfl).1, (cellsAt h1 4 rfl).1, (cellsAt h1 5 rfl).1, (cellsAt h1 6 rfl).1⟩
 unfold acP toZ16 at HW3; clear h k3 hw3 hxb b4 b5 hz3 bx hsz; by_cases h1 : x.d = 1
 · have ha : actCu c x = (⟨noRp, (clsCu c x.nd x.c).1, noPr, 0, 0⟩, (clsCu c x.nd x.c).2) := by
    unfold actCu; rw [if_neg (by omega), if_pos h1]
   rw [ha]; have HQ := hid (C.close b c k x.nd x.c S w3 h3 hI hk hx.nd hx.c); obtain ⟨x0, x1, x2, x3, x4, x5, x6⟩ := HLO.out w3 (Below.refl _ _); rw [h1] at x0; have HW4 : Hid (((w.alloc (.cells #[.int .i64 1, .int .i64 x.nd, .int .i64 x.c, .int .i64 x.m, .int .u64 x.e, .bool x.rd, .string x.t] 34)).alloc (.cells #[.int .i64 0, .int .u64 0, .int .u64 0, .slice none 0 0, .bool false, .int .u64 0, .int .i64 0, .int .u64 0, .int .i64 0, .int .i64 0] 41)).alloc (.cells #[.int .i64 0, .int .u64 0, .int .u64 0, .slice none 0 0, .bool false, .int .u64 0, .int .i64 0, .int .u64 0, .int .i64 0, .int .i64 0] 41) = w3) := hid (by have z := HW3.out; rw [h1] at z; exact z); clear ha; go_enter Tryz.func12, Tryz.ntmps12; rw [h1]; go_wp2_with fail; rw [HW4.out, HXB.out]; refine HQ.out.mono ?_; rintro e w5 ⟨rfl, ht⟩
   replace ht := ht.none
   have c5 : w5.heap[xb + 1 + 1]? = some toZ16 := (ht.off.block _ (by have := HZ3.out; omega) (fun e => by have := HS.out _ e; have := HXB.out; omega)).trans HB5.out; have c4 : w5.heap[xb + 1]? = some toZ16 := (ht.off.block _ (by have := HZ3.out; omega) (fun e => by have := HS.out _ e; have := HXB.out; omega)).trans HB4.out; have HTT := hid ht; have HZ5 := hid ht.off.size; have HC4 := hid c4; have HC5 := hid c5; clear ht; unfold toZ16 at c4 c5; have hlt5 : xb + 1 + 1 < w5.heap.size := (Array.getElem?_eq_some_iff.1 c5).1; obtain ⟨u0, p0⟩ := cellsAt c5 0 (v := .int .i64 0) rfl; obtain ⟨s0, q0⟩ := cellsAt c4 0 (v := .int .i64 0) rfl; obtain ⟨u1, p1⟩ := cellsAt c5 1 (v := .int .u64 0) rfl; obtain ⟨s1, q1⟩ := cellsAt c4 1 (v := .int .u64 0) rfl; obtain ⟨u2, p2⟩ := cellsAt c5 2 (v := .int .u64 0) rfl; obtain ⟨s2, q2⟩ := cellsAt c4 2 (v := .int .u64 0) rfl; obtain ⟨u3, p3⟩ := cellsAt c5 3 (v := .slice none 0 0) rfl; obtain ⟨s3, q3⟩ := cellsAt c4 3 (v := .slice none 0 0) rfl; obtain ⟨u4, p4⟩ := cellsAt c5 4 (v := .bool false) rfl; obtain ⟨s4, q4⟩ := cellsAt c4 4 (v := .bool false) rfl; obtain ⟨u5, p5⟩ := cellsAt c5 5 (v := .int .u64 0) rfl; obtain ⟨s5, q5⟩ := cellsAt c4 5 (v := .int .u64 0) rfl; obtain ⟨u6, p6⟩ := cellsAt c5 6 (v := .int .i64 0) rfl; obtain ⟨s6, q6⟩ := cellsAt c4 6 (v := .int .i64 0) rfl; obtain ⟨u7, p7⟩ := cellsAt c5 7 (v := .int .u64 0) rfl; obtain ⟨s7, q7⟩ := cellsAt c4 7 (v := .int .u64 0) rfl; obtain ⟨u8, p8⟩ := cellsAt c5 8 (v := .int .i64 0) rfl; obtain ⟨s8, q8⟩ := cellsAt c4 8 (v := .int .i64 0) rfl; obtain ⟨u9, p9⟩ := cellsAt c5 9 (v := .int .i64 0) rfl; obtain ⟨s9, q9⟩ := cellsAt c4 9 (v := .int .i64 0) rfl; clear c5 c4; go_wp2_with fail; refine bodyPost_ret (v := toV16 ⟨noRp, (clsCu c x.nd x.c).1, noPr, 0, 0⟩ none 0 0) ?_ rfl ⟨none, 0, 0, rfl, ?_, ?_⟩
   · rw [results_cell1 rfl]; unfold toV16 noRp noPr; go_simp
   · exact XR.nil _
   · exact Told1.behind HXB.out HZ3.out HK3.out HS.out HTT.out (Off.wide (S := fun k => k = xb + 1 ∨ k = xb + 1 + 1) (Off.setCell (p := ⟨xb + 1, 9, none⟩) (Off.setCell (p := ⟨xb + 1, 8, none⟩) (Off.setCell (p := ⟨xb + 1, 7, none⟩) (Off.setCell (p := ⟨xb + 1, 6, none⟩) (Off.setCell (p := ⟨xb + 1, 5, none⟩) (Off.setCell (p := ⟨xb + 1, 4, none⟩) (Off.setCell (p := ⟨xb + 1, 3, none⟩) (Off.setCell (p := ⟨xb + 1, 2, none⟩) (Off.setCell (p := ⟨xb + 1, 1, none⟩) (Off.setCell (p := ⟨xb + 1, 0, none⟩) (Off.setCell (p := ⟨xb + 1 + 1, 4, none⟩) (Off.refl (fun k => k = xb + 1 ∨ k = xb + 1 + 1) w5) (.inl (.inr rfl)) _) (.inl (.inl rfl)) _) (.inl (.inl rfl)) _) (.inl (.inl rfl)) _) (.inl (.inl rfl)) _) (.inl (.inl rfl)) _) (.inl (.inl rfl)) _) (.inl (.inl rfl)) _) (.inl (.inl rfl)) _) (.inl (.inl rfl)) _) (.inl (.inl rfl)) _) fun k hk => by omega)
 by_cases h2 : x.d = 2
 · have ha : actCu c x = (⟨noRp, false, (proCu c x.nd).1.1, (proCu c x.nd).1.2, 0⟩, (proCu c x.nd).2) := by
    unfold actCu; rw [if_neg (by omega), if_neg h1, if_pos h2]
   rw [ha]; have HQ := hid (C.promote b c k x.nd S w3 h3 hI hk hx.nd); obtain ⟨x0, x1, x2, x3, x4, x5, x6⟩ := HLO.out w3 (Below.refl _ _); generalize hR : proCu c x.nd = R at HQ ⊢; clear hR; rw [h2] at x0; have HW4 : Hid (((w.alloc (.cells #[.int .i64 2, .int .i64 x.nd, .int .i64 x.c, .int .i64 x.m, .int .u64 x.e, .bool x.rd, .string x.t] 34)).alloc (.cells #[.int .i64 0, .int .u64 0, .int .u64 0, .slice none 0 0, .bool false, .int .u64 0, .int .i64 0, .int .u64 0, .int .i64 0, .int .i64 0] 41)).alloc (.cells #[.int .i64 0, .int .u64 0, .int .u64 0, .slice none 0 0, .bool false, .int .u64 0, .int .i64 0, .int .u64 0, .int .i64 0, .int .i64 0] 41) = w3) := hid (by have z := HW3.out; rw [h2] at z; exact z); clear ha; go_enter Tryz.func12, Tryz.ntmps12; rw [h2]; go_wp2_with fail; rw [HW4.out, HXB.out]; refine HQ.out.mono ?_; rintro e w5 ⟨rfl, ht⟩
   replace ht := ht.none
   go_upto_region 14 with fail
   obtain ⟨w6, hw6⟩ : ∃ u, w5.alloc (.cells #[.int .u64 R.1.1.e, .int .i64 R.1.1.p, .int .u64 R.1.1.c] 45) = u := ⟨_, rfl⟩; obtain ⟨pb, hpb⟩ : ∃ y, w5.heap.size = y := ⟨_, rfl⟩; have k6 : Below w5.heap.size w5 w6 := hw6 ▸ kp_new w5 _; have bn : w6.heap[pb]? = some (.cells #[.int .u64 R.1.1.e, .int .i64 R.1.1.p, .int .u64 R.1.1.c] 45 (0, 0)) := by rw [← hw6, ← hpb]; exact heap_alloc_new w5 _
   have n0 := (cellsAt bn 0 rfl).1; have n1 := (cellsAt bn 1 rfl).1; have n2 := (cellsAt bn 2 rfl).1; rw [hw6, hpb]
   replace ht := ht.below k6
   clear hw6 hpb bn; have c5 : w6.heap[xb + 1 + 1]? = some toZ16 := (ht.off.block _ (by have := HZ3.out; omega) (fun e => by have := HS.out _ e; have := HXB.out; omega)).trans HB5.out; have c4 : w6.heap[xb + 1]? = some toZ16 := (ht.off.block _ (by have := HZ3.out; omega) (fun e => by have := HS.out _ e; have := HXB.out; omega)).trans HB4.out; have HTT := hid ht; have HZ5 := hid ht.off.size; have HC4 := hid c4; have HC5 := hid c5; clear ht; unfold toZ16 at c4 c5; have hlt5 : xb + 1 + 1 < w6.heap.size := (Array.getElem?_eq_some_iff.1 c5).1; obtain ⟨u0, p0⟩ := cellsAt c5 0 (v := .int .i64 0) rfl; obtain ⟨s0, q0⟩ := cellsAt c4 0 (v := .int .i64 0) rfl; obtain ⟨u1, p1⟩ := cellsAt c5 1 (v := .int .u64 0) rfl; obtain ⟨s1, q1⟩ := cellsAt c4 1 (v := .int .u64 0) rfl; obtain ⟨u2, p2⟩ := cellsAt c5 2 (v := .int .u64 0) rfl; obtain ⟨s2, q2⟩ := cellsAt c4 2 (v := .int .u64 0) rfl; obtain ⟨u3, p3⟩ := cellsAt c5 3 (v := .slice none 0 0) rfl; obtain ⟨s3, q3⟩ := cellsAt c4 3 (v := .slice none 0 0) rfl; obtain ⟨u4, p4⟩ := cellsAt c5 4 (v := .bool false) rfl; obtain ⟨s4, q4⟩ := cellsAt c4 4 (v := .bool false) rfl; obtain ⟨u5, p5⟩ := cellsAt c5 5 (v := .int .u64 0) rfl; obtain ⟨s5, q5⟩ := cellsAt c4 5 (v := .int .u64 0) rfl; obtain ⟨u6, p6⟩ := cellsAt c5 6 (v := .int .i64 0) rfl; obtain ⟨s6, q6⟩ := cellsAt c4 6 (v := .int .i64 0) rfl; obtain ⟨u7, p7⟩ := cellsAt c5 7 (v := .int .u64 0) rfl; obtain ⟨s7, q7⟩ := cellsAt c4 7 (v := .int .u64 0) rfl; obtain ⟨u8, p8⟩ := cellsAt c5 8 (v := .int .i64 0) rfl; obtain ⟨s8, q8⟩ := cellsAt c4 8 (v := .int .i64 0) rfl; obtain ⟨u9, p9⟩ := cellsAt c5 9 (v := .int .i64 0) rfl; obtain ⟨s9, q9⟩ := cellsAt c4 9 (v := .int .i64 0) rfl; clear c5 c4; go_wp2_with fail; refine bodyPost_ret (v := toV16 ⟨noRp, false, R.1.1, R.1.2, 0⟩ none 0 0) ?_ rfl ⟨none, 0, 0, rfl, ?_, ?_⟩
   · rw [results_cell1 rfl]; unfold toV16 noRp; go_simp
   · exact XR.nil _
   · exact Told1.behind HXB.out HZ3.out HK3.out HS.out HTT.out (Off.wide (S := fun k => k = xb + 1 ∨ k = xb + 1 + 1) (Off.setCell (p := ⟨xb + 1, 9, none⟩) (Off.setCell (p := ⟨xb + 1, 8, none⟩) (Off.setCell (p := ⟨xb + 1, 7, none⟩) (Off.setCell (p := ⟨xb + 1, 6, none⟩) (Off.setCell (p := ⟨xb + 1, 5, none⟩) (Off.setCell (p := ⟨xb + 1, 4, none⟩) (Off.setCell (p := ⟨xb + 1, 3, none⟩) (Off.setCell (p := ⟨xb + 1, 2, none⟩) (Off.setCell (p := ⟨xb + 1, 1, none⟩) (Off.setCell (p := ⟨xb + 1, 0, none⟩) (Off.setCell (p := ⟨xb + 1 + 1, 8, none⟩) (Off.setCell (p := ⟨xb + 1 + 1, 7, none⟩) (Off.setCell (p := ⟨xb + 1 + 1, 6, none⟩) (Off.setCell (p := ⟨xb + 1 + 1, 5, none⟩) (Off.refl (fun k => k = xb + 1 ∨ k = xb + 1 + 1) w6) (.inl (.inr rfl)) _) (.inl (.inr rfl)) _) (.inl (.inr rfl)) _) (.inl (.inr rfl)) _) (.inl (.inl rfl)) _) (.inl (.inl rfl)) _) (.inl (.inl rfl)) _) (.inl (.inl rfl)) _) (.inl (.inl rfl)) _) (.inl (.inl rfl)) _) (.inl (.inl rfl)) _) (.inl (.inl rfl)) _) (.inl (.inl rfl)) _) (.inl (.inl rfl)) _) fun k hk => by omega)
 by_cases h0 : x.d = 0
 · have ha : actCu c x = (⟨(runCu c x.nd x.c (epX c x) x.rd x.t).1, false, noPr, 0, 0⟩, (runCu c x.nd x.c (epX c x) x.rd x.t).2) := by
    unfold actCu; rw [if_pos h0]
   rw [ha]
   have HQ : Hid (∀ u, Below w3.heap.size w3 u → Calls Tryz.prog 27 #[.pointer (some ⟨b, 0, none⟩), .int .i64 x.nd, .int .i64 x.c, .int .u64 (epX c x), .bool x.rd, .string x.t] u fun e' w' => ∃ A m d, e' = .returned (rpV (runCu c x.nd x.c (epX c x) x.rd x.t).1 A m d) ∧ XR w' A m (runCu c x.nd x.c (epX c x) x.rd x.t).1.ts ∧ Told1 (X b (runCu c x.nd x.c (epX c x) x.rd x.t).2) S A w3 w') := hid fun u hu =>
    (C.run b c k x.nd x.c (epX c x) x.rd x.t S u ((hL.next HK3.out).next hu) (Thing.next HT3.out hu) hI hk ht hx.nd hx.c (epX_u hI hx)).mono fun _ _ ⟨A, m, d, h1, h2, h3⟩ => ⟨A, m, d, h1, h2, h3.ahead hu⟩
   by_cases he : x.e = 0
   · have HEP := hid (C.epoch b c k x.nd S w3 HT3.out hI hx.nd); have hepx : epX c x = epCu c x.nd := by unfold epX; rw [if_pos he]
     rw [hepx] at HQ ⊢; clear hepx; generalize hR : runCu c x.nd x.c (epCu c x.nd) x.rd x.t = R at HQ ⊢; clear hR; obtain ⟨x0, x1, x2, x3, x4, x5, x6⟩ := HLO.out w3 (Below.refl _ _); rw [he] at x4; rw [h0] at x0; have HW4 : Hid (((w.alloc (.cells #[.int .i64 0, .int .i64 x.nd, .int .i64 x.c, .int .i64 x.m, .int .u64 0, .bool x.rd, .string x.t] 34)).alloc (.cells #[.int .i64 0, .int .u64 0, .int .u64 0, .slice none 0 0, .bool false, .int .u64 0, .int .i64 0, .int .u64 0, .int .i64 0, .int .i64 0] 41)).alloc (.cells #[.int .i64 0, .int .u64 0, .int .u64 0, .slice none 0 0, .bool false, .int .u64 0, .int .i64 0, .int .u64 0, .int .i64 0, .int .i64 0] 41) = w3) := hid (by have z := HW3.out; rw [h0, he] at z; exact z); clear ha; go_enter Tryz.func12, Tryz.ntmps12; rw [h0, he]; go_wp2_with fail; rw [HW4.out, HXB.out]; refine HEP.out.mono ?_; rintro e w4 ⟨rfl, k4⟩; have K4 := hid k4; clear k4 x0 x1 x2 x3 x4 x5 x6; obtain ⟨x0, x1, x2, x3, x4, x5, x6⟩ := HLO.out w4 K4.out; rw [h0] at x0; go_wp2_with fail; refine (HQ.out w4 K4.out).mono ?_; rintro e w5 ⟨A, m, d, rfl, hr, ht⟩; unfold rpV; dsimp only
     go_upto_region 9 with fail
     obtain ⟨w6, hw6⟩ : ∃ u, w5.alloc (.cells #[.int .i64 R.1.e, .int .u64 R.1.ep, .int .u64 R.1.pl, .slice A m d] 73) = u := ⟨_, rfl⟩; obtain ⟨pb, hpb⟩ : ∃ y, w5.heap.size = y := ⟨_, rfl⟩; have k6 : Below w5.heap.size w5 w6 := hw6 ▸ kp_new w5 _; have bn : w6.heap[pb]? = some (.cells #[.int .i64 R.1.e, .int .u64 R.1.ep, .int .u64 R.1.pl, .slice A m d] 73 (0, 0)) := by rw [← hw6, ← hpb]; exact heap_alloc_new w5 _
     have n0 := (cellsAt bn 0 rfl).1; have n1 := (cellsAt bn 1 rfl).1; have n2 := (cellsAt bn 2 rfl).1; have n3 := (cellsAt bn 3 rfl).1; rw [hw6, hpb]
     replace ht := ht.below k6
     replace hr := hr.next k6
     clear hw6 hpb bn; have c5 : w6.heap[xb + 1 + 1]? = some toZ16 := (ht.off.block _ (by have := HZ3.out; omega) (fun e => by have := HS.out _ e; have := HXB.out; omega)).trans HB5.out; have c4 : w6.heap[xb + 1]? = some toZ16 := (ht.off.block _ (by have := HZ3.out; omega) (fun e => by have := HS.out _ e; have := HXB.out; omega)).trans HB4.out; have HTT := hid ht; have HZ5 := hid ht.off.size; have HC4 := hid c4; have HC5 := hid c5; clear ht; unfold toZ16 at c4 c5; have hlt5 : xb + 1 + 1 < w6.heap.size := (Array.getElem?_eq_some_iff.1 c5).1; obtain ⟨u0, p0⟩ := cellsAt c5 0 (v := .int .i64 0) rfl; obtain ⟨s0, q0⟩ := cellsAt c4 0 (v := .int .i64 0) rfl; obtain ⟨u1, p1⟩ := cellsAt c5 1 (v := .int .u64 0) rfl; obtain ⟨s1, q1⟩ := cellsAt c4 1 (v := .int .u64 0) rfl; obtain ⟨u2, p2⟩ := cellsAt c5 2 (v := .int .u64 0) rfl; obtain ⟨s2, q2⟩ := cellsAt c4 2 (v := .int .u64 0) rfl; obtain ⟨u3, p3⟩ := cellsAt c5 3 (v := .slice none 0 0) rfl; obtain ⟨s3, q3⟩ := cellsAt c4 3 (v := .slice none 0 0) rfl; obtain ⟨u4, p4⟩ := cellsAt c5 4 (v := .bool false) rfl; obtain ⟨s4, q4⟩ := cellsAt c4 4 (v := .bool false) rfl; obtain ⟨u5, p5⟩ := cellsAt c5 5 (v := .int .u64 0) rfl; obtain ⟨s5, q5⟩ := cellsAt c4 5 (v := .int .u64 0) rfl; obtain ⟨u6, p6⟩ := cellsAt c5 6 (v := .int .i64 0) rfl; obtain ⟨s6, q6⟩ := cellsAt c4 6 (v := .int .i64 0) rfl; obtain ⟨u7, p7⟩ := cellsAt c5 7 (v := .int .u64 0) rfl; obtain ⟨s7, q7⟩ := cellsAt c4 7 (v := .int .u64 0) rfl; obtain ⟨u8, p8⟩ := cellsAt c5 8 (v := .int .i64 0) rfl; obtain ⟨s8, q8⟩ := cellsAt c4 8 (v := .int .i64 0) rfl; obtain ⟨u9, p9⟩ := cellsAt c5 9 (v := .int .i64 0) rfl; obtain ⟨s9, q9⟩ := cellsAt c4 9 (v := .int .i64 0) rfl; clear c5 c4; have HR := hid hr; clear hr; go_wp2_with fail; refine bodyPost_ret (v := toV16 ⟨R.1, false, noPr, 0, 0⟩ A m d) ?_ rfl ⟨A, m, d, rfl, ?_, ?_⟩
     · rw [results_cell1 rfl]; unfold toV16 noPr; go_simp
     · exact HR.out.past16 HC4.out HC5.out (Off.setCell (p := ⟨xb + 1, 9, none⟩) (Off.setCell (p := ⟨xb + 1, 8, none⟩) (Off.setCell (p := ⟨xb + 1, 7, none⟩) (Off.setCell (p := ⟨xb + 1, 6, none⟩) (Off.setCell (p := ⟨xb + 1, 5, none⟩) (Off.setCell (p := ⟨xb + 1, 4, none⟩) (Off.setCell (p := ⟨xb + 1, 3, none⟩) (Off.setCell (p := ⟨xb + 1, 2, none⟩) (Off.setCell (p := ⟨xb + 1, 1, none⟩) (Off.setCell (p := ⟨xb + 1, 0, none⟩) (Off.setCell (p := ⟨xb + 1 + 1, 3, none⟩) (Off.setCell (p := ⟨xb + 1 + 1, 2, none⟩) (Off.setCell (p := ⟨xb + 1 + 1, 1, none⟩) (Off.setCell (p := ⟨xb + 1 + 1, 0, none⟩) (Off.refl (fun k => k = xb + 1 ∨ k = xb + 1 + 1) w6) (.inl (.inr rfl)) _) (.inl (.inr rfl)) _) (.inl (.inr rfl)) _) (.inl (.inr rfl)) _) (.inl (.inl rfl)) _) (.inl (.inl rfl)) _) (.inl (.inl rfl)) _) (.inl (.inl rfl)) _) (.inl (.inl rfl)) _) (.inl (.inl rfl)) _) (.inl (.inl rfl)) _) (.inl (.inl rfl)) _) (.inl (.inl rfl)) _) (.inl (.inl rfl)) _)
     · exact Told1.behind HXB.out HZ3.out HK3.out HS.out HTT.out (Off.wide (S := fun k => k = xb + 1 ∨ k = xb + 1 + 1) (Off.setCell (p := ⟨xb + 1, 9, none⟩) (Off.setCell (p := ⟨xb + 1, 8, none⟩) (Off.setCell (p := ⟨xb + 1, 7, none⟩) (Off.setCell (p := ⟨xb + 1, 6, none⟩) (Off.setCell (p := ⟨xb + 1, 5, none⟩) (Off.setCell (p := ⟨xb + 1, 4, none⟩) (Off.setCell (p := ⟨xb + 1, 3, none⟩) (Off.setCell (p := ⟨xb + 1, 2, none⟩) (Off.setCell (p := ⟨xb + 1, 1, none⟩) (Off.setCell (p := ⟨xb + 1, 0, none⟩) (Off.setCell (p := ⟨xb + 1 + 1, 3, none⟩) (Off.setCell (p := ⟨xb + 1 + 1, 2, none⟩) (Off.setCell (p := ⟨xb + 1 + 1, 1, none⟩) (Off.setCell (p := ⟨xb + 1 + 1, 0, none⟩) (Off.refl (fun k => k = xb + 1 ∨ k = xb + 1 + 1) w6) (.inl (.inr rfl)) _) (.inl (.inr rfl)) _) (.inl (.inr rfl)) _) (.inl (.inr rfl)) _) (.inl (.inl rfl)) _) (.inl (.inl rfl)) _) (.inl (.inl rfl)) _) (.inl (.inl rfl)) _) (.inl (.inl rfl)) _) (.inl (.inl rfl)) _) (.inl (.inl rfl)) _) (.inl (.inl rfl)) _) (.inl (.inl rfl)) _) (.inl (.inl rfl)) _) fun k hk => by omega)
   · have hepx : epX c x = x.e := by unfold epX; rw [if_neg he]
     have he' : (x.e == 0) = false := by simpa using he
     rw [hepx] at HQ ⊢; clear hepx; generalize hR : runCu c x.nd x.c x.e x.rd x.t = R at HQ ⊢; clear hR; obtain ⟨x0, x1, x2, x3, x4, x5, x6⟩ := HLO.out w3 (Below.refl _ _); rw [h0] at x0; have HW4 : Hid (((w.alloc (.cells #[.int .i64 0, .int .i64 x.nd, .int .i64 x.c, .int .i64 x.m, .int .u64 x.e, .bool x.rd, .string x.t] 34)).alloc (.cells #[.int .i64 0, .int .u64 0, .int .u64 0, .slice none 0 0, .bool false, .int .u64 0, .int .i64 0, .int .u64 0, .int .i64 0, .int .i64 0] 41)).alloc (.cells #[.int .i64 0, .int .u64 0, .int .u64 0, .slice none 0 0, .bool false, .int .u64 0, .int .i64 0, .int .u64 0, .int .i64 0, .int .i64 0] 41) = w3) := hid (by have z := HW3.out; rw [h0] at z; exact z); clear ha; go_enter Tryz.func12, Tryz.ntmps12; rw [h0]; go_wp2_with fail; rw [HW4.out, HXB.out]; refine (HQ.out w3 (Below.refl _ _)).mono ?_; rintro e w5 ⟨A, m, d, rfl, hr, ht⟩; unfold rpV; dsimp only
     go_upto_region 9 with fail
     obtain ⟨w6, hw6⟩ : ∃ u, w5.alloc (.cells #[.int .i64 R.1.e, .int .u64 R.1.ep, .int .u64 R.1.pl, .slice A m d] 73) = u := ⟨_, rfl⟩; obtain ⟨pb, hpb⟩ : ∃ y, w5.heap.size = y := ⟨_, rfl⟩; have k6 : Below w5.heap.size w5 w6 := hw6 ▸ kp_new w5 _; have bn : w6.heap[pb]? = some (.cells #[.int .i64 R.1.e, .int .u64 R.1.ep, .int .u64 R.1.pl, .slice A m d] 73 (0, 0)) := by rw [← hw6, ← hpb]; exact heap_alloc_new w5 _
     have n0 := (cellsAt bn 0 rfl).1; have n1 := (cellsAt bn 1 rfl).1; have n2 := (cellsAt bn 2 rfl).1; have n3 := (cellsAt bn 3 rfl).1; rw [hw6, hpb]
     replace ht := ht.below k6
     replace hr := hr.next k6
     clear hw6 hpb bn; have c5 : w6.heap[xb + 1 + 1]? = some toZ16 := (ht.off.block _ (by have := HZ3.out; omega) (fun e => by have := HS.out _ e; have := HXB.out; omega)).trans HB5.out; have c4 : w6.heap[xb + 1]? = some toZ16 := (ht.off.block _ (by have := HZ3.out; omega) (fun e => by have := HS.out _ e; have := HXB.out; omega)).trans HB4.out; have HTT := hid ht; have HZ5 := hid ht.off.size; have HC4 := hid c4; have HC5 := hid c5; clear ht; unfold toZ16 at c4 c5; have hlt5 : xb + 1 + 1 < w6.heap.size := (Array.getElem?_eq_some_iff.1 c5).1; obtain ⟨u0, p0⟩ := cellsAt c5 0 (v := .int .i64 0) rfl; obtain ⟨s0, q0⟩ := cellsAt c4 0 (v := .int .i64 0) rfl; obtain ⟨u1, p1⟩ := cellsAt c5 1 (v := .int .u64 0) rfl; obtain ⟨s1, q1⟩ := cellsAt c4 1 (v := .int .u64 0) rfl; obtain ⟨u2, p2⟩ := cellsAt c5 2 (v := .int .u64 0) rfl; obtain ⟨s2, q2⟩ := cellsAt c4 2 (v := .int .u64 0) rfl; obtain ⟨u3, p3⟩ := cellsAt c5 3 (v := .slice none 0 0) rfl; obtain ⟨s3, q3⟩ := cellsAt c4 3 (v := .slice none 0 0) rfl; obtain ⟨u4, p4⟩ := cellsAt c5 4 (v := .bool false) rfl; obtain ⟨s4, q4⟩ := cellsAt c4 4 (v := .bool false) rfl; obtain ⟨u5, p5⟩ := cellsAt c5 5 (v := .int .u64 0) rfl; obtain ⟨s5, q5⟩ := cellsAt c4 5 (v := .int .u64 0) rfl; obtain ⟨u6, p6⟩ := cellsAt c5 6 (v := .int .i64 0) rfl; obtain ⟨s6, q6⟩ := cellsAt c4 6 (v := .int .i64 0) rfl; obtain ⟨u7, p7⟩ := cellsAt c5 7 (v := .int .u64 0) rfl; obtain ⟨s7, q7⟩ := cellsAt c4 7 (v := .int .u64 0) rfl; obtain ⟨u8, p8⟩ := cellsAt c5 8 (v := .int .i64 0) rfl; obtain ⟨s8, q8⟩ := cellsAt c4 8 (v := .int .i64 0) rfl; obtain ⟨u9, p9⟩ := cellsAt c5 9 (v := .int .i64 0) rfl; obtain ⟨s9, q9⟩ := cellsAt c4 9 (v := .int .i64 0) rfl; clear c5 c4; have HR := hid hr; clear hr; go_wp2_with fail; refine bodyPost_ret (v := toV16 ⟨R.1, false, noPr, 0, 0⟩ A m d) ?_ rfl ⟨A, m, d, rfl, ?_, ?_⟩
     · rw [results_cell1 rfl]; unfold toV16 noPr; go_simp
     · exact HR.out.past16 HC4.out HC5.out (Off.setCell (p := ⟨xb + 1, 9, none⟩) (Off.setCell (p := ⟨xb + 1, 8, none⟩) (Off.setCell (p := ⟨xb + 1, 7, none⟩) (Off.setCell (p := ⟨xb + 1, 6, none⟩) (Off.setCell (p := ⟨xb + 1, 5, none⟩) (Off.setCell (p := ⟨xb + 1, 4, none⟩) (Off.setCell (p := ⟨xb + 1, 3, none⟩) (Off.setCell (p := ⟨xb + 1, 2, none⟩) (Off.setCell (p := ⟨xb + 1, 1, none⟩) (Off.setCell (p := ⟨xb + 1, 0, none⟩) (Off.setCell (p := ⟨xb + 1 + 1, 3, none⟩) (Off.setCell (p := ⟨xb + 1 + 1, 2, none⟩) (Off.setCell (p := ⟨xb + 1 + 1, 1, none⟩) (Off.setCell (p := ⟨xb + 1 + 1, 0, none⟩) (Off.refl (fun k => k = xb + 1 ∨ k = xb + 1 + 1) w6) (.inl (.inr rfl)) _) (.inl (.inr rfl)) _) (.inl (.inr rfl)) _) (.inl (.inr rfl)) _) (.inl (.inl rfl)) _) (.inl (.inl rfl)) _) (.inl (.inl rfl)) _) (.inl (.inl rfl)) _) (.inl (.inl rfl)) _) (.inl (.inl rfl)) _) (.inl (.inl rfl)) _) (.inl (.inl rfl)) _) (.inl (.inl rfl)) _) (.inl (.inl rfl)) _)
     · exact Told1.behind HXB.out HZ3.out HK3.out HS.out HTT.out (Off.wide (S := fun k => k = xb + 1 ∨ k = xb + 1 + 1) (Off.setCell (p := ⟨xb + 1, 9, none⟩) (Off.setCell (p := ⟨xb + 1, 8, none⟩) (Off.setCell (p := ⟨xb + 1, 7, none⟩) (Off.setCell (p := ⟨xb + 1, 6, none⟩) (Off.setCell (p := ⟨xb + 1, 5, none⟩) (Off.setCell (p := ⟨xb + 1, 4, none⟩) (Off.setCell (p := ⟨xb + 1, 3, none⟩) (Off.setCell (p := ⟨xb + 1, 2, none⟩) (Off.setCell (p := ⟨xb + 1, 1, none⟩) (Off.setCell (p := ⟨xb + 1, 0, none⟩) (Off.setCell (p := ⟨xb + 1 + 1, 3, none⟩) (Off.setCell (p := ⟨xb + 1 + 1, 2, none⟩) (Off.setCell (p := ⟨xb + 1 + 1, 1, none⟩) (Off.setCell (p := ⟨xb + 1 + 1, 0, none⟩) (Off.refl (fun k => k = xb + 1 ∨ k = xb + 1 + 1) w6) (.inl (.inr rfl)) _) (.inl (.inr rfl)) _) (.inl (.inr rfl)) _) (.inl (.inr rfl)) _) (.inl (.inl rfl)) _) (.inl (.inl rfl)) _) (.inl (.inl rfl)) _) (.inl (.inl rfl)) _) (.inl (.inl rfl)) _) (.inl (.inl rfl)) _) (.inl (.inl rfl)) _) (.inl (.inl rfl)) _) (.inl (.inl rfl)) _) (.inl (.inl rfl)) _) fun k hk => by omega)
 · have ha : actCu c x = (⟨noRp, false, noPr, 0, (cpyCu c x.nd x.m).1⟩, (cpyCu c x.nd x.m).2) := by
    unfold actCu; rw [if_neg h0, if_neg h1, if_neg h2]
   rw [ha]; have HQ := hid (C.copy b c k x.nd x.m S w3 h3 hI hk hx.nd hx.m); obtain ⟨x0, x1, x2, x3, x4, x5, x6⟩ := HLO.out w3 (Below.refl _ _); have g0 : (x.d == 0) = false := by simpa using h0
   have g1 : (x.d == 1) = false := by simpa using h1
   have g2 : (x.d == 2) = false := by simpa using h2
   clear ha; go_enter Tryz.func12, Tryz.ntmps12; go_wp2_with fail; rw [HW3.out, HXB.out]; refine HQ.out.mono ?_; rintro e w5 ⟨rfl, ht⟩
   replace ht := ht.none
   have c5 : w5.heap[xb + 1 + 1]? = some toZ16 := (ht.off.block _ (by have := HZ3.out; omega) (fun e => by have := HS.out _ e; have := HXB.out; omega)).trans HB5.out; have c4 : w5.heap[xb + 1]? = some toZ16 := (ht.off.block _ (by have := HZ3.out; omega) (fun e => by have := HS.out _ e; have := HXB.out; omega)).trans HB4.out; have HTT := hid ht; have HZ5 := hid ht.off.size; have HC4 := hid c4; have HC5 := hid c5; clear ht; unfold toZ16 at c4 c5; have hlt5 : xb + 1 + 1 < w5.heap.size := (Array.getElem?_eq_some_iff.1 c5).1; obtain ⟨u0, p0⟩ := cellsAt c5 0 (v := .int .i64 0) rfl; obtain ⟨s0, q0⟩ := cellsAt c4 0 (v := .int .i64 0) rfl; obtain ⟨u1, p1⟩ := cellsAt c5 1 (v := .int .u64 0) rfl; obtain ⟨s1, q1⟩ := cellsAt c4 1 (v := .int .u64 0) rfl; obtain ⟨u2, p2⟩ := cellsAt c5 2 (v := .int .u64 0) rfl; obtain ⟨s2, q2⟩ := cellsAt c4 2 (v := .int .u64 0) rfl; obtain ⟨u3, p3⟩ := cellsAt c5 3 (v := .slice none 0 0) rfl; obtain ⟨s3, q3⟩ := cellsAt c4 3 (v := .slice none 0 0) rfl; obtain ⟨u4, p4⟩ := cellsAt c5 4 (v := .bool false) rfl; obtain ⟨s4, q4⟩ := cellsAt c4 4 (v := .bool false) rfl; obtain ⟨u5, p5⟩ := cellsAt c5 5 (v := .int .u64 0) rfl; obtain ⟨s5, q5⟩ := cellsAt c4 5 (v := .int .u64 0) rfl; obtain ⟨u6, p6⟩ := cellsAt c5 6 (v := .int .i64 0) rfl; obtain ⟨s6, q6⟩ := cellsAt c4 6 (v := .int .i64 0) rfl; obtain ⟨u7, p7⟩ := cellsAt c5 7 (v := .int .u64 0) rfl; obtain ⟨s7, q7⟩ := cellsAt c4 7 (v := .int .u64 0) rfl; obtain ⟨u8, p8⟩ := cellsAt c5 8 (v := .int .i64 0) rfl; obtain ⟨s8, q8⟩ := cellsAt c4 8 (v := .int .i64 0) rfl; obtain ⟨u9, p9⟩ := cellsAt c5 9 (v := .int .i64 0) rfl; obtain ⟨s9, q9⟩ := cellsAt c4 9 (v := .int .i64 0) rfl; clear c5 c4; go_wp2_with fail; refine bodyPost_ret (v := toV16 ⟨noRp, false, noPr, 0, (cpyCu c x.nd x.m).1⟩ none 0 0) ?_ rfl ⟨none, 0, 0, rfl, ?_, ?_⟩
   · rw [results_cell1 rfl]; unfold toV16 noRp noPr; go_simp
   · exact XR.nil _
   · exact Told1.behind HXB.out HZ3.out HK3.out HS.out HTT.out (Off.wide (S := fun k => k = xb + 1 ∨ k = xb + 1 + 1) (Off.setCell (p := ⟨xb + 1, 9, none⟩) (Off.setCell (p := ⟨xb + 1, 8, none⟩) (Off.setCell (p := ⟨xb + 1, 7, none⟩) (Off.setCell (p := ⟨xb + 1, 6, none⟩) (Off.setCell (p := ⟨xb + 1, 5, none⟩) (Off.setCell (p := ⟨xb + 1, 4, none⟩) (Off.setCell (p := ⟨xb + 1, 3, none⟩) (Off.setCell (p := ⟨xb + 1, 2, none⟩) (Off.setCell (p := ⟨xb + 1, 1, none⟩) (Off.setCell (p := ⟨xb + 1, 0, none⟩) (Off.setCell (p := ⟨xb + 1 + 1, 9, none⟩) (Off.refl (fun k => k = xb + 1 ∨ k = xb + 1 + 1) w5) (.inl (.inr rfl)) _) (.inl (.inl rfl)) _) (.inl (.inl rfl)) _) (.inl (.inl rfl)) _) (.inl (.inl rfl)) _) (.inl (.inl rfl)) _) (.inl (.inl rfl)) _) (.inl (.inl rfl)) _) (.inl (.inl rfl)) _) (.inl (.inl rfl)) _) (.inl (.inl rfl)) _) fun k hk => by omega)
end
end

/- Layer 15: where a region stands in which two do an act, each once, and what they tell is laid into new blocks. -/
section
open Go.RowKit
set_option maxRecDepth 100000
section
variable {X : Nat → Nd → Thing} {w : World}
end
theorem flat2_len : ∀ (l : List Kv), (l.flatMap fun p => [p.k, p.v]).length = l.length * 2
 | [] => rfl
 | x :: r => by
   have := flat2_len r; simp only [List.flatMap_cons, List.length_append, List.length_cons, List.length_nil] at this ⊢; omega
theorem reads15_short (d : Int) (k : ByteArray) (l : List Kv) : (readsF d k l).length ≤ 20 := by
 unfold readsF; split
 · split <;> simp
 split
 · unfold firstsF; rw [flat2_len, List.length_take]; omega
 · simp
theorem run_ts (n : Nd) (c e : Int) (rd : Bool) (s : ByteArray) : (runNd n c e rd s).1.ts.length ≤ 20 := by
 unfold runNd; split
 · simp
 split
 · simp
 · exact reads15_short _ _ _
section
variable {W : World} {X0 X1 Y0 Y1 : Thing} {ps : List (Nat × (Nat → Nat))} {t6 : Nat} {act : Obj} {tt : To15} {f g p q : Bool} {va vb wa wb : Value} {l : List (Nat × Obj)} {xs : List (Option Addr × Nat × List ByteArray)} {u u' : World} {A : Option Addr} {m d : Nat}
variable {sa sb pa pb : Nat} {L : Nat → Bool} {T : Nat → Value}
end
end

/- Layer 16: where a law's walk stands: the moves of a cluster (XNoF's St15). -/
section
open Go.RowKit
set_option maxRecDepth 100000
section
variable {X : Nat → Cu → Thing} {w0 w : World} {Y : Thing} {b k : Nat} {c : Cu} {ps : List (Nat × (Nat → Nat))} {l : List (Nat × Obj)} {rs : List (Option Addr × Nat × List Lg)} {xs : List (Option Addr × Nat × List ByteArray)}
theorem St15.cact (h : St15 w0 (X b c) Y ps l rs xs w) (C : ClusterC X) (hL : Lw w0) {x : Ac7} (hI : CuI k c) (hk : k ≤ 800) (hx : x.Fine) (ht : Sm x.t) :
 Calls Tryz.prog 12 #[.pointer (some ⟨b, 0, none⟩), .agg #[.int .i64 x.d, .int .i64 x.nd, .int .i64 x.c, .int .i64 x.m, .int .u64 x.e, .bool x.rd, .string x.t]] w fun e w' => ∃ (A' : Option Addr) (m' d' : Nat), e = .returned (toV16 (actCu c x).1 A' m' d') ∧ St15 w0 (X b (actCu c x).2) Y ps l rs ((A', m', (actCu c x).1.r.ts) :: xs) w' :=
 h.toldX (X' := X b (actCu c x).2) (Q := fun e A' m' d' => e = .returned (toV16 (actCu c x).1 A' m' d')) fun _ hS => (ldo16_ok C (hL.next h.low) x hS hI hk hx ht).mono fun _ _ ⟨A', m', d', he, hr, ht⟩ => ⟨A', m', d', ⟨he, hr⟩, ht⟩
theorem St15.crun (h : St15 w0 (X b c) Y ps l rs xs w) (C : ClusterC X) (hL : Lw w0) (hI : CuI k c) (hk : k ≤ 800) (n cn e : Int) (rd : Bool) (s : ByteArray) (hs : Sm s) (hn : I64n n) (hc : I64n cn) (he : U64n e) :
 Calls Tryz.prog 27 #[.pointer (some ⟨b, 0, none⟩), .int .i64 n, .int .i64 cn, .int .u64 e, .bool rd, .string s] w fun e' w' => ∃ A m d, e' = .returned (rpV (runCu c n cn e rd s).1 A m d) ∧ St15 w0 (X b (runCu c n cn e rd s).2) Y ps l rs ((A, m, (runCu c n cn e rd s).1.ts) :: xs) w' :=
 h.toldX (Q := fun e' A m d => e' = .returned (rpV (runCu c n cn e rd s).1 A m d)) fun S hS => (C.run b c k n cn e rd s S w (hL.next h.low) hS hI hk hs hn hc he).mono fun _ _ ⟨A, m, d, h1, h2, h3⟩ => ⟨A, m, d, ⟨h1, h2⟩, h3⟩
theorem St15.clog (h : St15 w0 (X b c) Y ps l rs xs w) (C : ClusterC X) (hI : CuI k c) (n : Int) (hn : I64n n) :
 Calls Tryz.prog 21 #[.pointer (some ⟨b, 0, none⟩), .int .i64 n] w fun e w' => ∃ A m d, (e = .returned (.slice A m d) ∧ m ≤ d) ∧ St15 w0 (X b c) Y ps l ((A, m, lgCu c n) :: rs) xs w' :=
 h.toldL (Q := fun e A m d => e = .returned (.slice A m d) ∧ m ≤ d) fun S hS => (C.log b c k n S w hS hI hn).mono fun _ _ ⟨A, m, d, h1, h2, h3, h4⟩ => ⟨A, m, d, ⟨⟨h1, h2⟩, h3⟩, h4⟩
theorem St15.cep (h : St15 w0 (X b c) Y ps l rs xs w) (C : ClusterC X) (hI : CuI k c) (n : Int) (hn : I64n n) :
 Calls Tryz.prog 17 #[.pointer (some ⟨b, 0, none⟩), .int .i64 n] w fun e w' => e = .returned (.int .u64 (epCu c n)) ∧ St15 w0 (X b c) Y ps l rs xs w' :=
 h.asks (Q := fun e _ => e = .returned (.int .u64 (epCu c n))) fun S hS => C.epoch b c k n S w hS hI hn
theorem St15.cld (h : St15 w0 (X b c) Y ps l rs xs w) (C : ClusterC X) (hI : CuI k c) (n : Int) (hn : I64n n) :
 Calls Tryz.prog 18 #[.pointer (some ⟨b, 0, none⟩), .int .i64 n] w fun e w' => e = .returned (.bool (ldCu c n)) ∧ St15 w0 (X b c) Y ps l rs xs w' :=
 h.asks (Q := fun e _ => e = .returned (.bool (ldCu c n))) fun S hS => C.leads b c k n S w hS hI hn
theorem St15.cnew (h : St15 w0 (X b c) Y ps l rs xs w) (C : ClusterC X) (hI : CuI k c) :
 Calls Tryz.prog 15 #[.pointer (some ⟨b, 0, none⟩)] w fun e w' => e = .returned (.agg #[.int .u64 c.pm.e, .int .i64 c.pm.p, .int .u64 c.pm.c]) ∧ St15 w0 (X b c) Y ps l rs xs w' :=
 h.asks (Q := fun e _ => e = .returned (.agg #[.int .u64 c.pm.e, .int .i64 c.pm.p, .int .u64 c.pm.c])) fun S hS => C.newest b c k S w hS hI
theorem St15.cmany (h : St15 w0 (X b c) Y ps l rs xs w) (C : ClusterC X) (hI : CuI k c) :
 Calls Tryz.prog 16 #[.pointer (some ⟨b, 0, none⟩)] w fun e w' => e = .returned (.int .i64 c.n) ∧ St15 w0 (X b c) Y ps l rs xs w' :=
 h.asks (Q := fun e _ => e = .returned (.int .i64 c.n)) fun S hS => C.nodes b c k S w hS hI
theorem St15.clag (h : St15 w0 (X b c) Y ps l rs xs w) (C : ClusterC X) (hI : CuI k c) (n : Int) (hn : I64n n) :
 Calls Tryz.prog 22 #[.pointer (some ⟨b, 0, none⟩), .int .i64 n] w fun e w' => e = .returned (.int .u64 (lagCu c n)) ∧ St15 w0 (X b c) Y ps l rs xs w' :=
 h.left (Q := fun e _ => e = .returned (.int .u64 (lagCu c n))) fun S hS => C.lag b c k n S w hS hI hn
theorem St15.ccopy (h : St15 w0 (X b c) Y ps l rs xs w) (C : ClusterC X) (hI : CuI k c) (hk : k ≤ 800) (n m : Int) (hn : I64n n) (hm : I64n m) :
 Calls Tryz.prog 29 #[.pointer (some ⟨b, 0, none⟩), .int .i64 n, .int .i64 m] w fun e w' => e = .returned (.int .i64 (cpyCu c n m).1) ∧ St15 w0 (X b (cpyCu c n m).2) Y ps l rs xs w' :=
 h.left (Q := fun e _ => e = .returned (.int .i64 (cpyCu c n m).1)) fun S hS => C.copy b c k n m S w hS hI hk hn hm
theorem St15.cpro (h : St15 w0 (X b c) Y ps l rs xs w) (C : ClusterC X) (hI : CuI k c) (hk : k ≤ 800) (n : Int) (hn : I64n n) :
 Calls Tryz.prog 30 #[.pointer (some ⟨b, 0, none⟩), .int .i64 n] w fun e w' => e = .returned (.tuple #[.agg #[.int .u64 (proCu c n).1.1.e, .int .i64 (proCu c n).1.1.p, .int .u64 (proCu c n).1.1.c], .int .i64 (proCu c n).1.2]) ∧ St15 w0 (X b (proCu c n).2) Y ps l rs xs w' :=
 h.left (Q := fun e _ => e = .returned (.tuple #[.agg #[.int .u64 (proCu c n).1.1.e, .int .i64 (proCu c n).1.1.p, .int .u64 (proCu c n).1.1.c], .int .i64 (proCu c n).1.2])) fun S hS => C.promote b c k n S w hS hI hk hn
theorem St15.ccls (h : St15 w0 (X b c) Y ps l rs xs w) (C : ClusterC X) (hI : CuI k c) (hk : k ≤ 800) (n cn : Int) (hn : I64n n) (hc : I64n cn) :
 Calls Tryz.prog 31 #[.pointer (some ⟨b, 0, none⟩), .int .i64 n, .int .i64 cn] w fun e w' => e = .returned (.bool (clsCu c n cn).1) ∧ St15 w0 (X b (clsCu c n cn).2) Y ps l rs xs w' :=
 h.left (Q := fun e _ => e = .returned (.bool (clsCu c n cn).1)) fun S hS => C.close b c k n cn S w hS hI hk hn hc
theorem St15.bare (h : St15 w0 (X b c) Y ps l rs xs w) : St15 w0 (X b c) Y ps l [] [] w := h.less (fun _ h => h) (fun _ h => h) (fun _ h => nomatch h) (fun _ h => nomatch h)
end
theorem St15.alone {w0 w w' : World} {X : Thing} {S : Nat → Prop} (hl : Below w0.heap.size w0 w) (hx : X.p S w') (hS : ∀ k, S k → w.heap.size ≤ k) (hb : Below w.heap.size w w') : St15 w0 X T0 [] [] [] [] w' :=
 St15.make ((Solo.make hl hx hS hb).duo (T0.none w') (fun _ h => h.elim) (Below.refl _ _))
end

/- Layer 16, plain: what the law's own calls say. -/
section
open Go.RowKit
set_option maxRecDepth 100000
theorem lex16_foo : lexF [102, 111, 111] = some [(1, [70, 79, 79])] := by
 rw [lexF_tok (k := 1) (t := [70, 79, 79]) (n := 3) (by simp) (by kernel_rfl) (by decide)]; simp only [List.drop_succ_cons, List.drop_zero]; rw [lexF_nil]; rfl
theorem lex16_bar : lexF [98, 97, 114] = some [(1, [66, 65, 82])] := by
 rw [lexF_tok (k := 1) (t := [66, 65, 82]) (n := 3) (by simp) (by kernel_rfl) (by decide)]; simp only [List.drop_succ_cons, List.drop_zero]; rw [lexF_nil]; rfl
def tx16_foo : ByteArray := ⟨#[102, 111, 111]⟩
def tx16_bar : ByteArray := ⟨#[98, 97, 114]⟩
theorem cls16_foo : clsT tx16_foo = 7 := by
 unfold clsT tx16_foo; rw [classA_lex lex16_foo (by decide)]
 kernel_rfl
theorem cls16_bar : clsT tx16_bar = 7 := by
 unfold clsT tx16_bar; rw [classA_lex lex16_bar (by decide)]
 kernel_rfl
def cu16_0 : Cu := newCu 2
def cu16_1 : Cu := cu16_0.put 0 ⟨1, true, [⟨1, tx16_foo⟩], []⟩
def cu16_2 : Cu := cu16_1.put 1 ⟨1, false, [⟨1, tx16_foo⟩], []⟩
def cu16_3 : Cu := cu16_2.put 0 ⟨1, true, [⟨1, tx16_foo⟩, ⟨1, tx16_bar⟩], []⟩
def cu16_4 : Cu := ⟨2, upd3 cu16_3.ns 1 ⟨2, true, [⟨1, tx16_foo⟩], []⟩, ⟨2, 1, 1⟩⟩
theorem cu16_foo : runCu cu16_0 0 1 1 false tx16_foo = (⟨0, 1, 1, []⟩, cu16_1) := by
 unfold runCu; rw [if_neg (by decide)]; show ((runNd ⟨1, true, [], []⟩ 1 1 false tx16_foo).1, cu16_0.put 0 (runNd ⟨1, true, [], []⟩ 1 1 false tx16_foo).2) = _; unfold runNd whyNd; rw [cls16_foo]; rfl
theorem cu16_lag : lagCu cu16_1 1 = 1 := rfl
theorem cu16_cpy : cpyCu cu16_1 1 5 = (1, cu16_2) := rfl
theorem cu16_bar : runCu cu16_2 0 1 1 false tx16_bar = (⟨0, 1, 2, []⟩, cu16_3) := by
 unfold runCu; rw [if_neg (by decide)]; show ((runNd ⟨1, true, [⟨1, tx16_foo⟩], []⟩ 1 1 false tx16_bar).1, cu16_2.put 0 (runNd ⟨1, true, [⟨1, tx16_foo⟩], []⟩ 1 1 false tx16_bar).2) = _; unfold runNd whyNd; rw [cls16_bar]; rfl
theorem cu16_pro : proCu cu16_3 1 = ((⟨2, 1, 1⟩, 0), cu16_4) := rfl
theorem cu16_pro1 : proCu cu16_4 1 = ((⟨0, 0, 0⟩, 7), cu16_4) := rfl
theorem cu16_pro2 : proCu cu16_4 2 = ((⟨0, 0, 0⟩, 6), cu16_4) := rfl
theorem cu16_none (s : ByteArray) : runCu cu16_4 5 1 1 true s = (⟨6, 0, 0, []⟩, cu16_4) := rfl
theorem cu16_cls0 : clsCu cu16_4 0 1 = (false, cu16_4) := by
 unfold clsCu; rw [if_neg (by decide)]; refine Prod.ext rfl ?_; show (⟨2, upd3 cu16_4.ns 0 (cu16_4.ns 0), ⟨2, 1, 1⟩⟩ : Cu) = cu16_4
 have h : upd3 cu16_4.ns 0 (cu16_4.ns 0) = cu16_4.ns := funext fun j => by
  unfold upd3; split
  · rename_i e; rw [e]
  · rfl
 rw [h]; rfl
theorem cu16_i0 : CuI 0 cu16_0 := CuI.new (by decide) (by decide)
theorem cu16_i1 : CuI 1 cu16_1 := by
 have h := cu16_i0.run (n := 0) (cn := 1) (e := 1) (rd := false) (s := tx16_foo) (by unfold Sm tx16_foo; decide) ⟨by decide, by decide⟩; rwa [cu16_foo] at h
theorem cu16_i2 : CuI 2 cu16_2 := by
 have h := cu16_i1.copy 1 5; rwa [cu16_cpy] at h
theorem cu16_i3 : CuI 3 cu16_3 := by
 have h := cu16_i2.run (n := 0) (cn := 1) (e := 1) (rd := false) (s := tx16_bar) (by unfold Sm tx16_bar; decide) ⟨by decide, by decide⟩; rwa [cu16_bar] at h
theorem cu16_i4 : CuI 4 cu16_4 := by
 have h := cu16_i3.promote (by decide) 1; rwa [cu16_pro] at h
end
end Go.Proofs.YtdhnpmagapbmhaaGreatDoor
