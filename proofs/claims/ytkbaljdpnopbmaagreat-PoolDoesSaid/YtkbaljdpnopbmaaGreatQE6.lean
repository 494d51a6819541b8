/-
  Contracts and plain functions that the law stands on, part 6 of 6.
-/
import Derived.Test.YtkbaljdpnopbmaaGreatQE5
import Derived.Deep.RegionWith
namespace Go.Proofs.YtkbaljdpnopbmaaGreat
/- An act on a pool, the document's: contract. -/
section
open Go.RowKit
set_option maxRecDepth 100000

section
variable {b : Nat} {mo idl m : Int} {p : Pl} {S : Nat → Prop} {w : World}
set_option maxHeartbeats 8000000 in
theorem ownp_ok (t : Act6) (h : (RP b mo idl m p).p S w) :
    Calls Tryz.prog 8 #[.pointer (some ⟨b, 0, none⟩), .agg #[.int .i64 t.d, .int .i64 t.ss, .int .i64 t.id, .int .u64 t.ep, .int .u64 t.now, .int .u64 t.n]] w fun e w' => e = .returned (told6V (doT mo idl m t p)) ∧ Turn (RP b mo idl m (doP mo idl m t p)) S w w' := by
  have HW : Hid (∀ o1 o2 o3, (RP b mo idl m p).p S (((w.alloc o1).alloc o2).alloc o3)) := Lib.hid fun o1 o2 o3 => Thing.next h (kp_alloc (kp_alloc (kp_alloc (Below.refl _ w) o1) o2) o3)
  have H := Lib.hid h
  clear h
  obtain ⟨d, ss, id, ep, now, n⟩ := t
  dsimp only
  by_cases h0 : d = 0
  · subst h0
    have hA : doT mo idl m ⟨0, ss, id, ep, now, n⟩ p = ⟨(acqP mo m ss ep now p).2.1, 0, 0, false, (acqP mo m ss ep now p).2.2⟩ := rfl
    have hC : doP mo idl m ⟨0, ss, id, ep, now, n⟩ p = (acqP mo m ss ep now p).1 := rfl
    rw [hA, hC]
    clear hA hC 
    have HC : Hid (∀ o1 o2 o3, Calls Tryz.prog _ _ (((w.alloc o1).alloc o2).alloc o3) _) := Lib.hid fun o1 o2 o3 => racq_ok ss ep now (HW.out o1 o2 o3)
    generalize (acqP mo m ss ep now p).2.1 = va at *
    generalize (acqP mo m ss ep now p).2.2 = ve at *
    go_enter Tryz.func8, Tryz.ntmps8
    go_wp2_with fail
    refine (HC.out _ _ _).mono ?_
    rintro e w4 ⟨rfl, ht⟩
    obtain ⟨_, b1, b2⟩ := loc3 ht ((RP b mo idl m p).lt H.out)
    obtain ⟨m0, z0⟩ := cellsAt b1 0 (v := .int .i64 0) rfl
    obtain ⟨q0, y0⟩ := cellsAt b2 0 (v := .int .i64 0) rfl
    obtain ⟨m1, z1⟩ := cellsAt b1 1 (v := .int .i64 0) rfl
    obtain ⟨q1, y1⟩ := cellsAt b2 1 (v := .int .i64 0) rfl
    obtain ⟨m2, z2⟩ := cellsAt b1 2 (v := .int .u64 0) rfl
    obtain ⟨q2, y2⟩ := cellsAt b2 2 (v := .int .u64 0) rfl
    obtain ⟨m3, z3⟩ := cellsAt b1 3 (v := .bool false) rfl
    obtain ⟨q3, y3⟩ := cellsAt b2 3 (v := .bool false) rfl
    obtain ⟨m4, z4⟩ := cellsAt b1 4 (v := .int .i64 0) rfl
    obtain ⟨q4, y4⟩ := cellsAt b2 4 (v := .int .i64 0) rfl
    have HT := Lib.hid ht
    clear ht b1 b2 HW HC
    go_wp2_with fail
    refine bodyPost_ret (v := told6V ⟨va, 0, 0, false, ve⟩) ?_ rfl ⟨rfl, turn3 H.out HT.out ((((((((Off.refl (fun k => w.heap.size ≤ k ∧ k < w.heap.size + 3) _).setCell (.inl ⟨by simp; omega, by simp⟩) _).setCell (.inl ⟨by simp; omega, by simp⟩) _).setCell (p := ⟨w.heap.size + 1, 0, none⟩) (.inl ⟨Nat.le_succ _, by show w.heap.size + 1 < w.heap.size + 3; omega⟩) _).setCell (p := ⟨w.heap.size + 1, 1, none⟩) (.inl ⟨Nat.le_succ _, by show w.heap.size + 1 < w.heap.size + 3; omega⟩) _).setCell (p := ⟨w.heap.size + 1, 2, none⟩) (.inl ⟨Nat.le_succ _, by show w.heap.size + 1 < w.heap.size + 3; omega⟩) _).setCell (p := ⟨w.heap.size + 1, 3, none⟩) (.inl ⟨Nat.le_succ _, by show w.heap.size + 1 < w.heap.size + 3; omega⟩) _).setCell (p := ⟨w.heap.size + 1, 4, none⟩) (.inl ⟨Nat.le_succ _, by show w.heap.size + 1 < w.heap.size + 3; omega⟩) _)⟩
    rw [results_cell1 rfl]
    unfold told6V
    go_simp
  · have e0 : (d == 0) = false := by simpa using h0
    by_cases h1 : d = 1
    · subst h1
      have hA : doT mo idl m ⟨1, ss, id, ep, now, n⟩ p = ⟨(serveP mo ep now p).2.1, (serveP mo ep now p).2.2.1, 0, (serveP mo ep now p).2.2.2, 0⟩ := rfl
      have hC : doP mo idl m ⟨1, ss, id, ep, now, n⟩ p = (serveP mo ep now p).1 := rfl
      rw [hA, hC]
      clear hA hC h0
      have HC : Hid (∀ o1 o2 o3, Calls Tryz.prog _ _ (((w.alloc o1).alloc o2).alloc o3) _) := Lib.hid fun o1 o2 o3 => rserve_ok ep now (HW.out o1 o2 o3)
      generalize (serveP mo ep now p).2.1 = va at *
      generalize (serveP mo ep now p).2.2.1 = vb at *
      generalize (serveP mo ep now p).2.2.2 = vi at *
      go_enter Tryz.func8, Tryz.ntmps8
      go_wp2_with fail
      refine (HC.out _ _ _).mono ?_
      rintro e w4 ⟨rfl, ht⟩
      obtain ⟨_, b1, b2⟩ := loc3 ht ((RP b mo idl m p).lt H.out)
      obtain ⟨m0, z0⟩ := cellsAt b1 0 (v := .int .i64 0) rfl
      obtain ⟨q0, y0⟩ := cellsAt b2 0 (v := .int .i64 0) rfl
      obtain ⟨m1, z1⟩ := cellsAt b1 1 (v := .int .i64 0) rfl
      obtain ⟨q1, y1⟩ := cellsAt b2 1 (v := .int .i64 0) rfl
      obtain ⟨m2, z2⟩ := cellsAt b1 2 (v := .int .u64 0) rfl
      obtain ⟨q2, y2⟩ := cellsAt b2 2 (v := .int .u64 0) rfl
      obtain ⟨m3, z3⟩ := cellsAt b1 3 (v := .bool false) rfl
      obtain ⟨q3, y3⟩ := cellsAt b2 3 (v := .bool false) rfl
      obtain ⟨m4, z4⟩ := cellsAt b1 4 (v := .int .i64 0) rfl
      obtain ⟨q4, y4⟩ := cellsAt b2 4 (v := .int .i64 0) rfl
      have HT := Lib.hid ht
      clear ht b1 b2 HW HC
      go_wp2_with fail
      refine bodyPost_ret (v := told6V ⟨va, vb, 0, vi, 0⟩) ?_ rfl ⟨rfl, turn3 H.out HT.out (((((((((Off.refl (fun k => w.heap.size ≤ k ∧ k < w.heap.size + 3) _).setCell (.inl ⟨by simp; omega, by simp⟩) _).setCell (.inl ⟨by simp; omega, by simp⟩) _).setCell (.inl ⟨by simp; omega, by simp⟩) _).setCell (p := ⟨w.heap.size + 1, 0, none⟩) (.inl ⟨Nat.le_succ _, by show w.heap.size + 1 < w.heap.size + 3; omega⟩) _).setCell (p := ⟨w.heap.size + 1, 1, none⟩) (.inl ⟨Nat.le_succ _, by show w.heap.size + 1 < w.heap.size + 3; omega⟩) _).setCell (p := ⟨w.heap.size + 1, 2, none⟩) (.inl ⟨Nat.le_succ _, by show w.heap.size + 1 < w.heap.size + 3; omega⟩) _).setCell (p := ⟨w.heap.size + 1, 3, none⟩) (.inl ⟨Nat.le_succ _, by show w.heap.size + 1 < w.heap.size + 3; omega⟩) _).setCell (p := ⟨w.heap.size + 1, 4, none⟩) (.inl ⟨Nat.le_succ _, by show w.heap.size + 1 < w.heap.size + 3; omega⟩) _)⟩
      rw [results_cell1 rfl]
      unfold told6V
      go_simp
    · have e1 : (d == 1) = false := by simpa using h1
      by_cases h2 : d = 2
      · subst h2
        have hA : doT mo idl m ⟨2, ss, id, ep, now, n⟩ p = ⟨0, 0, 0, decide (0 ≤ atW ss p.row), 0⟩ := rfl
        have hC : doP mo idl m ⟨2, ss, id, ep, now, n⟩ p = { p with row := dropW ss p.row } := rfl
        rw [hA, hC]
        clear hA hC h0 h1
        have HC : Hid (∀ o1 o2 o3, ∃ (rb : Nat) (SR : Nat → Prop), ∀ u, Below (((w.alloc o1).alloc o2).alloc o3).heap.size (((w.alloc o1).alloc o2).alloc o3) u → u.cell? ⟨b, 2, none⟩ = some (.pointer (some ⟨rb, 0, none⟩)) ∧ (RW rb m p.row).p SR u ∧ ∀ row' w', Turn (RW rb m row') SR u w' → Turn (RP b mo idl m { p with row := row' }) S u w') := Lib.hid fun o1 o2 o3 => RP.roww (HW.out o1 o2 o3)
        obtain ⟨rb, SR, hur⟩ := HC.out (.cells #[.int .i64 2, .int .i64 ss, .int .i64 id, .int .u64 ep, .int .u64 now, .int .u64 n] 33) (.cells #[.int .i64 0, .int .i64 0, .int .u64 0, .bool false, .int .i64 0] 35) (.cells #[.int .i64 0, .int .i64 0, .int .u64 0, .bool false, .int .i64 0] 35)
        have HUR := Lib.hid hur
        have hk3 := kp_alloc (kp_alloc (kp_alloc (Below.refl _ w) (.cells #[.int .i64 2, .int .i64 ss, .int .i64 id, .int .u64 ep, .int .u64 now, .int .u64 n] 33)) (.cells #[.int .i64 0, .int .i64 0, .int .u64 0, .bool false, .int .i64 0] 35)) (.cells #[.int .i64 0, .int .i64 0, .int .u64 0, .bool false, .int .i64 0] 35)
        obtain ⟨w3, hw3⟩ : ∃ u, ((w.alloc (.cells #[.int .i64 2, .int .i64 ss, .int .i64 id, .int .u64 ep, .int .u64 now, .int .u64 n] 33)).alloc (.cells #[.int .i64 0, .int .i64 0, .int .u64 0, .bool false, .int .i64 0] 35)).alloc (.cells #[.int .i64 0, .int .i64 0, .int .u64 0, .bool false, .int .i64 0] 35) = u := ⟨_, rfl⟩
        have HW3 := Lib.hid hw3
        have hb3 := (Turn.here (HW.out (.cells #[.int .i64 2, .int .i64 ss, .int .i64 id, .int .u64 ep, .int .u64 now, .int .u64 n] 33) (.cells #[.int .i64 0, .int .i64 0, .int .u64 0, .bool false, .int .i64 0] 35) (.cells #[.int .i64 0, .int .i64 0, .int .u64 0, .bool false, .int .i64 0] 35)))
        obtain ⟨ba, _, _⟩ := loc3 hb3 ((RP b mo idl m p).lt H.out)
        rw [hw3] at HUR hb3 ba
        obtain ⟨xs1, _⟩ := cellsAt ba 1 (v := .int .i64 ss) rfl
        obtain ⟨xs0, _⟩ := cellsAt ba 0 (v := .int .i64 2) rfl
        obtain ⟨c2, _⟩ := HUR.out w3 (Below.refl _ _)
        have HDR : Hid (∀ u, Below w3.heap.size w3 u → Calls Tryz.prog 29 #[.pointer (some ⟨rb, 0, none⟩), .int .i64 ss] u fun e w' => e = .returned (.bool (decide (0 ≤ atW ss p.row))) ∧ Turn (RP b mo idl m { p with row := dropW ss p.row }) S w3 w') := Lib.hid fun u hu => (rdrop_ok ss (HUR.out u hu).2.1).mono fun e w' ⟨h1, h2⟩ => ⟨h1, Turn.comp (S' := S) (fun k h => .inl h) (Off.of S hu) ((HUR.out u hu).2.2 _ w' h2)⟩
        generalize decide (0 ≤ atW ss p.row) = vi at *
        generalize dropW ss p.row = row2 at *
        clear HC hur hb3 ba hk3 hw3 HUR
        go_enter Tryz.func8, Tryz.ntmps8
        go_wp2_with fail
        rw [HW3.out]
        go_region_with (go_at_call 29; refine (HDR.out _ (Below.refl _ w3).drew).mono ?_; rintro e w4 ⟨rfl, ht⟩; have ht2 := ht; rw [← HW3.out] at ht2; obtain ⟨_, b1, b2⟩ := loc3 ht2 ((RP b mo idl m p).lt H.out); obtain ⟨m0, z0⟩ := cellsAt b1 0 (v := .int .i64 0) rfl; obtain ⟨q0, y0⟩ := cellsAt b2 0 (v := .int .i64 0) rfl; obtain ⟨m1, z1⟩ := cellsAt b1 1 (v := .int .i64 0) rfl; obtain ⟨q1, y1⟩ := cellsAt b2 1 (v := .int .i64 0) rfl; obtain ⟨m2, z2⟩ := cellsAt b1 2 (v := .int .u64 0) rfl; obtain ⟨q2, y2⟩ := cellsAt b2 2 (v := .int .u64 0) rfl; obtain ⟨m3, z3⟩ := cellsAt b1 3 (v := .bool false) rfl; obtain ⟨q3, y3⟩ := cellsAt b2 3 (v := .bool false) rfl; obtain ⟨m4, z4⟩ := cellsAt b1 4 (v := .int .i64 0) rfl; obtain ⟨q4, y4⟩ := cellsAt b2 4 (v := .int .i64 0) rfl; have HT := Lib.hid ht2; clear ht ht2 b1 b2)
        all_goals
          go_wp2_with fail
          refine bodyPost_ret (v := told6V ⟨0, 0, 0, vi, 0⟩) ?_ rfl ⟨rfl, turn3 H.out HT.out (((((((Off.refl (fun k => w.heap.size ≤ k ∧ k < w.heap.size + 3) _).setCell (.inl ⟨by simp; omega, by simp⟩) _).setCell (p := ⟨w.heap.size + 1, 0, none⟩) (.inl ⟨Nat.le_succ _, by show w.heap.size + 1 < w.heap.size + 3; omega⟩) _).setCell (p := ⟨w.heap.size + 1, 1, none⟩) (.inl ⟨Nat.le_succ _, by show w.heap.size + 1 < w.heap.size + 3; omega⟩) _).setCell (p := ⟨w.heap.size + 1, 2, none⟩) (.inl ⟨Nat.le_succ _, by show w.heap.size + 1 < w.heap.size + 3; omega⟩) _).setCell (p := ⟨w.heap.size + 1, 3, none⟩) (.inl ⟨Nat.le_succ _, by show w.heap.size + 1 < w.heap.size + 3; omega⟩) _).setCell (p := ⟨w.heap.size + 1, 4, none⟩) (.inl ⟨Nat.le_succ _, by show w.heap.size + 1 < w.heap.size + 3; omega⟩) _)⟩
          rw [results_cell1 rfl]
          unfold told6V
          go_simp
      · have e2 : (d == 2) = false := by simpa using h2
        by_cases h3 : d = 3
        · subst h3
          have hA : doT mo idl m ⟨3, ss, id, ep, now, n⟩ p = ⟨0, 0, 0, false, (sendP id n p).2⟩ := rfl
          have hC : doP mo idl m ⟨3, ss, id, ep, now, n⟩ p = (sendP id n p).1 := rfl
          rw [hA, hC]
          clear hA hC h0 h1 h2
          have HC : Hid (∀ o1 o2 o3, Calls Tryz.prog _ _ (((w.alloc o1).alloc o2).alloc o3) _) := Lib.hid fun o1 o2 o3 => rpsend_ok id n (HW.out o1 o2 o3)
          generalize (sendP id n p).2 = ve at *
          go_enter Tryz.func8, Tryz.ntmps8
          go_wp2_with fail
          refine (HC.out _ _ _).mono ?_
          rintro e w4 ⟨rfl, ht⟩
          obtain ⟨_, b1, b2⟩ := loc3 ht ((RP b mo idl m p).lt H.out)
          obtain ⟨m0, z0⟩ := cellsAt b1 0 (v := .int .i64 0) rfl
          obtain ⟨q0, y0⟩ := cellsAt b2 0 (v := .int .i64 0) rfl
          obtain ⟨m1, z1⟩ := cellsAt b1 1 (v := .int .i64 0) rfl
          obtain ⟨q1, y1⟩ := cellsAt b2 1 (v := .int .i64 0) rfl
          obtain ⟨m2, z2⟩ := cellsAt b1 2 (v := .int .u64 0) rfl
          obtain ⟨q2, y2⟩ := cellsAt b2 2 (v := .int .u64 0) rfl
          obtain ⟨m3, z3⟩ := cellsAt b1 3 (v := .bool false) rfl
          obtain ⟨q3, y3⟩ := cellsAt b2 3 (v := .bool false) rfl
          obtain ⟨m4, z4⟩ := cellsAt b1 4 (v := .int .i64 0) rfl
          obtain ⟨q4, y4⟩ := cellsAt b2 4 (v := .int .i64 0) rfl
          have HT := Lib.hid ht
          clear ht b1 b2 HW HC
          go_wp2_with fail
          refine bodyPost_ret (v := told6V ⟨0, 0, 0, false, ve⟩) ?_ rfl ⟨rfl, turn3 H.out HT.out (((((((Off.refl (fun k => w.heap.size ≤ k ∧ k < w.heap.size + 3) _).setCell (.inl ⟨by simp; omega, by simp⟩) _).setCell (p := ⟨w.heap.size + 1, 0, none⟩) (.inl ⟨Nat.le_succ _, by show w.heap.size + 1 < w.heap.size + 3; omega⟩) _).setCell (p := ⟨w.heap.size + 1, 1, none⟩) (.inl ⟨Nat.le_succ _, by show w.heap.size + 1 < w.heap.size + 3; omega⟩) _).setCell (p := ⟨w.heap.size + 1, 2, none⟩) (.inl ⟨Nat.le_succ _, by show w.heap.size + 1 < w.heap.size + 3; omega⟩) _).setCell (p := ⟨w.heap.size + 1, 3, none⟩) (.inl ⟨Nat.le_succ _, by show w.heap.size + 1 < w.heap.size + 3; omega⟩) _).setCell (p := ⟨w.heap.size + 1, 4, none⟩) (.inl ⟨Nat.le_succ _, by show w.heap.size + 1 < w.heap.size + 3; omega⟩) _)⟩
          rw [results_cell1 rfl]
          unfold told6V
          go_simp
        · have e3 : (d == 3) = false := by simpa using h3
          by_cases h4 : d = 4
          · subst h4
            have hA : doT mo idl m ⟨4, ss, id, ep, now, n⟩ p = ⟨0, 0, 0, (replyP id n p).2, 0⟩ := rfl
            have hC : doP mo idl m ⟨4, ss, id, ep, now, n⟩ p = (replyP id n p).1 := rfl
            rw [hA, hC]
            clear hA hC h0 h1 h2 h3
            have HC : Hid (∀ o1 o2 o3, Calls Tryz.prog _ _ (((w.alloc o1).alloc o2).alloc o3) _) := Lib.hid fun o1 o2 o3 => rpreply_ok id n (HW.out o1 o2 o3)
            generalize (replyP id n p).2 = vi at *
            go_enter Tryz.func8, Tryz.ntmps8
            go_wp2_with fail
            refine (HC.out _ _ _).mono ?_
            rintro e w4 ⟨rfl, ht⟩
            obtain ⟨_, b1, b2⟩ := loc3 ht ((RP b mo idl m p).lt H.out)
            obtain ⟨m0, z0⟩ := cellsAt b1 0 (v := .int .i64 0) rfl
            obtain ⟨q0, y0⟩ := cellsAt b2 0 (v := .int .i64 0) rfl
            obtain ⟨m1, z1⟩ := cellsAt b1 1 (v := .int .i64 0) rfl
            obtain ⟨q1, y1⟩ := cellsAt b2 1 (v := .int .i64 0) rfl
            obtain ⟨m2, z2⟩ := cellsAt b1 2 (v := .int .u64 0) rfl
            obtain ⟨q2, y2⟩ := cellsAt b2 2 (v := .int .u64 0) rfl
            obtain ⟨m3, z3⟩ := cellsAt b1 3 (v := .bool false) rfl
            obtain ⟨q3, y3⟩ := cellsAt b2 3 (v := .bool false) rfl
            obtain ⟨m4, z4⟩ := cellsAt b1 4 (v := .int .i64 0) rfl
            obtain ⟨q4, y4⟩ := cellsAt b2 4 (v := .int .i64 0) rfl
            have HT := Lib.hid ht
            clear ht b1 b2 HW HC
            go_wp2_with fail
            refine bodyPost_ret (v := told6V ⟨0, 0, 0, vi, 0⟩) ?_ rfl ⟨rfl, turn3 H.out HT.out (((((((Off.refl (fun k => w.heap.size ≤ k ∧ k < w.heap.size + 3) _).setCell (.inl ⟨by simp; omega, by simp⟩) _).setCell (p := ⟨w.heap.size + 1, 0, none⟩) (.inl ⟨Nat.le_succ _, by show w.heap.size + 1 < w.heap.size + 3; omega⟩) _).setCell (p := ⟨w.heap.size + 1, 1, none⟩) (.inl ⟨Nat.le_succ _, by show w.heap.size + 1 < w.heap.size + 3; omega⟩) _).setCell (p := ⟨w.heap.size + 1, 2, none⟩) (.inl ⟨Nat.le_succ _, by show w.heap.size + 1 < w.heap.size + 3; omega⟩) _).setCell (p := ⟨w.heap.size + 1, 3, none⟩) (.inl ⟨Nat.le_succ _, by show w.heap.size + 1 < w.heap.size + 3; omega⟩) _).setCell (p := ⟨w.heap.size + 1, 4, none⟩) (.inl ⟨Nat.le_succ _, by show w.heap.size + 1 < w.heap.size + 3; omega⟩) _)⟩
            rw [results_cell1 rfl]
            unfold told6V
            go_simp
          · have e4 : (d == 4) = false := by simpa using h4
            by_cases h5 : d = 5
            · subst h5
              have hA : doT mo idl m ⟨5, ss, id, ep, now, n⟩ p = ⟨0, 0, 0, (soilP id p).2, 0⟩ := rfl
              have hC : doP mo idl m ⟨5, ss, id, ep, now, n⟩ p = (soilP id p).1 := rfl
              rw [hA, hC]
              clear hA hC h0 h1 h2 h3 h4
              have HC : Hid (∀ o1 o2 o3, Calls Tryz.prog _ _ (((w.alloc o1).alloc o2).alloc o3) _) := Lib.hid fun o1 o2 o3 => rpsoil_ok id (HW.out o1 o2 o3)
              generalize (soilP id p).2 = vi at *
              go_enter Tryz.func8, Tryz.ntmps8
              go_wp2_with fail
              refine (HC.out _ _ _).mono ?_
              rintro e w4 ⟨rfl, ht⟩
              obtain ⟨_, b1, b2⟩ := loc3 ht ((RP b mo idl m p).lt H.out)
              obtain ⟨m0, z0⟩ := cellsAt b1 0 (v := .int .i64 0) rfl
              obtain ⟨q0, y0⟩ := cellsAt b2 0 (v := .int .i64 0) rfl
              obtain ⟨m1, z1⟩ := cellsAt b1 1 (v := .int .i64 0) rfl
              obtain ⟨q1, y1⟩ := cellsAt b2 1 (v := .int .i64 0) rfl
              obtain ⟨m2, z2⟩ := cellsAt b1 2 (v := .int .u64 0) rfl
              obtain ⟨q2, y2⟩ := cellsAt b2 2 (v := .int .u64 0) rfl
              obtain ⟨m3, z3⟩ := cellsAt b1 3 (v := .bool false) rfl
              obtain ⟨q3, y3⟩ := cellsAt b2 3 (v := .bool false) rfl
              obtain ⟨m4, z4⟩ := cellsAt b1 4 (v := .int .i64 0) rfl
              obtain ⟨q4, y4⟩ := cellsAt b2 4 (v := .int .i64 0) rfl
              have HT := Lib.hid ht
              clear ht b1 b2 HW HC
              go_wp2_with fail
              refine bodyPost_ret (v := told6V ⟨0, 0, 0, vi, 0⟩) ?_ rfl ⟨rfl, turn3 H.out HT.out (((((((Off.refl (fun k => w.heap.size ≤ k ∧ k < w.heap.size + 3) _).setCell (.inl ⟨by simp; omega, by simp⟩) _).setCell (p := ⟨w.heap.size + 1, 0, none⟩) (.inl ⟨Nat.le_succ _, by show w.heap.size + 1 < w.heap.size + 3; omega⟩) _).setCell (p := ⟨w.heap.size + 1, 1, none⟩) (.inl ⟨Nat.le_succ _, by show w.heap.size + 1 < w.heap.size + 3; omega⟩) _).setCell (p := ⟨w.heap.size + 1, 2, none⟩) (.inl ⟨Nat.le_succ _, by show w.heap.size + 1 < w.heap.size + 3; omega⟩) _).setCell (p := ⟨w.heap.size + 1, 3, none⟩) (.inl ⟨Nat.le_succ _, by show w.heap.size + 1 < w.heap.size + 3; omega⟩) _).setCell (p := ⟨w.heap.size + 1, 4, none⟩) (.inl ⟨Nat.le_succ _, by show w.heap.size + 1 < w.heap.size + 3; omega⟩) _)⟩
              rw [results_cell1 rfl]
              unfold told6V
              go_simp
            · have e5 : (d == 5) = false := by simpa using h5
              by_cases h6 : d = 6
              · subst h6
                have hA : doT mo idl m ⟨6, ss, id, ep, now, n⟩ p = ⟨0, 0, 0, (releaseP id now p).2, 0⟩ := rfl
                have hC : doP mo idl m ⟨6, ss, id, ep, now, n⟩ p = (releaseP id now p).1 := rfl
                rw [hA, hC]
                clear hA hC h0 h1 h2 h3 h4 h5
                have HC : Hid (∀ o1 o2 o3, Calls Tryz.prog _ _ (((w.alloc o1).alloc o2).alloc o3) _) := Lib.hid fun o1 o2 o3 => rprelease_ok id now (HW.out o1 o2 o3)
                generalize (releaseP id now p).2 = vi at *
                go_enter Tryz.func8, Tryz.ntmps8
                go_wp2_with fail
                refine (HC.out _ _ _).mono ?_
                rintro e w4 ⟨rfl, ht⟩
                obtain ⟨_, b1, b2⟩ := loc3 ht ((RP b mo idl m p).lt H.out)
                obtain ⟨m0, z0⟩ := cellsAt b1 0 (v := .int .i64 0) rfl
                obtain ⟨q0, y0⟩ := cellsAt b2 0 (v := .int .i64 0) rfl
                obtain ⟨m1, z1⟩ := cellsAt b1 1 (v := .int .i64 0) rfl
                obtain ⟨q1, y1⟩ := cellsAt b2 1 (v := .int .i64 0) rfl
                obtain ⟨m2, z2⟩ := cellsAt b1 2 (v := .int .u64 0) rfl
                obtain ⟨q2, y2⟩ := cellsAt b2 2 (v := .int .u64 0) rfl
                obtain ⟨m3, z3⟩ := cellsAt b1 3 (v := .bool false) rfl
                obtain ⟨q3, y3⟩ := cellsAt b2 3 (v := .bool false) rfl
                obtain ⟨m4, z4⟩ := cellsAt b1 4 (v := .int .i64 0) rfl
                obtain ⟨q4, y4⟩ := cellsAt b2 4 (v := .int .i64 0) rfl
                have HT := Lib.hid ht
                clear ht b1 b2 HW HC
                go_wp2_with fail
                refine bodyPost_ret (v := told6V ⟨0, 0, 0, vi, 0⟩) ?_ rfl ⟨rfl, turn3 H.out HT.out (((((((Off.refl (fun k => w.heap.size ≤ k ∧ k < w.heap.size + 3) _).setCell (.inl ⟨by simp; omega, by simp⟩) _).setCell (p := ⟨w.heap.size + 1, 0, none⟩) (.inl ⟨Nat.le_succ _, by show w.heap.size + 1 < w.heap.size + 3; omega⟩) _).setCell (p := ⟨w.heap.size + 1, 1, none⟩) (.inl ⟨Nat.le_succ _, by show w.heap.size + 1 < w.heap.size + 3; omega⟩) _).setCell (p := ⟨w.heap.size + 1, 2, none⟩) (.inl ⟨Nat.le_succ _, by show w.heap.size + 1 < w.heap.size + 3; omega⟩) _).setCell (p := ⟨w.heap.size + 1, 3, none⟩) (.inl ⟨Nat.le_succ _, by show w.heap.size + 1 < w.heap.size + 3; omega⟩) _).setCell (p := ⟨w.heap.size + 1, 4, none⟩) (.inl ⟨Nat.le_succ _, by show w.heap.size + 1 < w.heap.size + 3; omega⟩) _)⟩
                rw [results_cell1 rfl]
                unfold told6V
                go_simp
              · have e6 : (d == 6) = false := by simpa using h6
                by_cases h7 : d = 7
                · subst h7
                  have hA : doT mo idl m ⟨7, ss, id, ep, now, n⟩ p = ⟨(breakP id p).2.2.1, 0, (breakP id p).2.1, (breakP id p).2.2.2, 0⟩ := rfl
                  have hC : doP mo idl m ⟨7, ss, id, ep, now, n⟩ p = (breakP id p).1 := rfl
                  rw [hA, hC]
                  clear hA hC h0 h1 h2 h3 h4 h5 h6
                  have HC : Hid (∀ o1 o2 o3, Calls Tryz.prog _ _ (((w.alloc o1).alloc o2).alloc o3) _) := Lib.hid fun o1 o2 o3 => rpbreak_ok id (HW.out o1 o2 o3)
                  generalize (breakP id p).2.1 = vn at *
                  generalize (breakP id p).2.2.1 = va at *
                  generalize (breakP id p).2.2.2 = vi at *
                  go_enter Tryz.func8, Tryz.ntmps8
                  go_wp2_with fail
                  refine (HC.out _ _ _).mono ?_
                  rintro e w4 ⟨rfl, ht⟩
                  obtain ⟨_, b1, b2⟩ := loc3 ht ((RP b mo idl m p).lt H.out)
                  obtain ⟨m0, z0⟩ := cellsAt b1 0 (v := .int .i64 0) rfl
                  obtain ⟨q0, y0⟩ := cellsAt b2 0 (v := .int .i64 0) rfl
                  obtain ⟨m1, z1⟩ := cellsAt b1 1 (v := .int .i64 0) rfl
                  obtain ⟨q1, y1⟩ := cellsAt b2 1 (v := .int .i64 0) rfl
                  obtain ⟨m2, z2⟩ := cellsAt b1 2 (v := .int .u64 0) rfl
                  obtain ⟨q2, y2⟩ := cellsAt b2 2 (v := .int .u64 0) rfl
                  obtain ⟨m3, z3⟩ := cellsAt b1 3 (v := .bool false) rfl
                  obtain ⟨q3, y3⟩ := cellsAt b2 3 (v := .bool false) rfl
                  obtain ⟨m4, z4⟩ := cellsAt b1 4 (v := .int .i64 0) rfl
                  obtain ⟨q4, y4⟩ := cellsAt b2 4 (v := .int .i64 0) rfl
                  have HT := Lib.hid ht
                  clear ht b1 b2 HW HC
                  go_wp2_with fail
                  refine bodyPost_ret (v := told6V ⟨va, 0, vn, vi, 0⟩) ?_ rfl ⟨rfl, turn3 H.out HT.out (((((((((Off.refl (fun k => w.heap.size ≤ k ∧ k < w.heap.size + 3) _).setCell (.inl ⟨by simp; omega, by simp⟩) _).setCell (.inl ⟨by simp; omega, by simp⟩) _).setCell (.inl ⟨by simp; omega, by simp⟩) _).setCell (p := ⟨w.heap.size + 1, 0, none⟩) (.inl ⟨Nat.le_succ _, by show w.heap.size + 1 < w.heap.size + 3; omega⟩) _).setCell (p := ⟨w.heap.size + 1, 1, none⟩) (.inl ⟨Nat.le_succ _, by show w.heap.size + 1 < w.heap.size + 3; omega⟩) _).setCell (p := ⟨w.heap.size + 1, 2, none⟩) (.inl ⟨Nat.le_succ _, by show w.heap.size + 1 < w.heap.size + 3; omega⟩) _).setCell (p := ⟨w.heap.size + 1, 3, none⟩) (.inl ⟨Nat.le_succ _, by show w.heap.size + 1 < w.heap.size + 3; omega⟩) _).setCell (p := ⟨w.heap.size + 1, 4, none⟩) (.inl ⟨Nat.le_succ _, by show w.heap.size + 1 < w.heap.size + 3; omega⟩) _)⟩
                  rw [results_cell1 rfl]
                  unfold told6V
                  go_simp
                · have e7 : (d == 7) = false := by simpa using h7
                  by_cases h8 : d = 8
                  · subst h8
                    have hA : doT mo idl m ⟨8, ss, id, ep, now, n⟩ p = ⟨0, 0, 0, false, 0⟩ := rfl
                    have hC : doP mo idl m ⟨8, ss, id, ep, now, n⟩ p = drainP ep p := rfl
                    rw [hA, hC]
                    clear hA hC h0 h1 h2 h3 h4 h5 h6 h7
                    have HC : Hid (∀ o1 o2 o3, Calls Tryz.prog _ _ (((w.alloc o1).alloc o2).alloc o3) _) := Lib.hid fun o1 o2 o3 => rpdrain_ok ep (HW.out o1 o2 o3)
                    go_enter Tryz.func8, Tryz.ntmps8
                    go_wp2_with fail
                    refine (HC.out _ _ _).mono ?_
                    rintro e w4 ⟨rfl, ht⟩
                    obtain ⟨_, b1, b2⟩ := loc3 ht ((RP b mo idl m p).lt H.out)
                    obtain ⟨m0, z0⟩ := cellsAt b1 0 (v := .int .i64 0) rfl
                    obtain ⟨q0, y0⟩ := cellsAt b2 0 (v := .int .i64 0) rfl
                    obtain ⟨m1, z1⟩ := cellsAt b1 1 (v := .int .i64 0) rfl
                    obtain ⟨q1, y1⟩ := cellsAt b2 1 (v := .int .i64 0) rfl
                    obtain ⟨m2, z2⟩ := cellsAt b1 2 (v := .int .u64 0) rfl
                    obtain ⟨q2, y2⟩ := cellsAt b2 2 (v := .int .u64 0) rfl
                    obtain ⟨m3, z3⟩ := cellsAt b1 3 (v := .bool false) rfl
                    obtain ⟨q3, y3⟩ := cellsAt b2 3 (v := .bool false) rfl
                    obtain ⟨m4, z4⟩ := cellsAt b1 4 (v := .int .i64 0) rfl
                    obtain ⟨q4, y4⟩ := cellsAt b2 4 (v := .int .i64 0) rfl
                    have HT := Lib.hid ht
                    clear ht b1 b2 HW HC
                    go_wp2_with fail
                    refine bodyPost_ret (v := told6V ⟨0, 0, 0, false, 0⟩) ?_ rfl ⟨rfl, turn3 H.out HT.out ((((((Off.refl (fun k => w.heap.size ≤ k ∧ k < w.heap.size + 3) _).setCell (p := ⟨w.heap.size + 1, 0, none⟩) (.inl ⟨Nat.le_succ _, by show w.heap.size + 1 < w.heap.size + 3; omega⟩) _).setCell (p := ⟨w.heap.size + 1, 1, none⟩) (.inl ⟨Nat.le_succ _, by show w.heap.size + 1 < w.heap.size + 3; omega⟩) _).setCell (p := ⟨w.heap.size + 1, 2, none⟩) (.inl ⟨Nat.le_succ _, by show w.heap.size + 1 < w.heap.size + 3; omega⟩) _).setCell (p := ⟨w.heap.size + 1, 3, none⟩) (.inl ⟨Nat.le_succ _, by show w.heap.size + 1 < w.heap.size + 3; omega⟩) _).setCell (p := ⟨w.heap.size + 1, 4, none⟩) (.inl ⟨Nat.le_succ _, by show w.heap.size + 1 < w.heap.size + 3; omega⟩) _)⟩
                    rw [results_cell1 rfl]
                    unfold told6V
                    go_simp
                  · have e8 : (d == 8) = false := by simpa using h8
                    by_cases h9 : d = 9
                    · subst h9
                      have hA : doT mo idl m ⟨9, ss, id, ep, now, n⟩ p = ⟨(reapP idl now p).2, 0, 0, false, 0⟩ := rfl
                      have hC : doP mo idl m ⟨9, ss, id, ep, now, n⟩ p = (reapP idl now p).1 := rfl
                      rw [hA, hC]
                      clear hA hC h0 h1 h2 h3 h4 h5 h6 h7 h8
                      have HC : Hid (∀ o1 o2 o3, Calls Tryz.prog _ _ (((w.alloc o1).alloc o2).alloc o3) _) := Lib.hid fun o1 o2 o3 => rpreap_ok now (HW.out o1 o2 o3)
                      generalize (reapP idl now p).2 = va at *
                      go_enter Tryz.func8, Tryz.ntmps8
                      go_wp2_with fail
                      refine (HC.out _ _ _).mono ?_
                      rintro e w4 ⟨rfl, ht⟩
                      obtain ⟨_, b1, b2⟩ := loc3 ht ((RP b mo idl m p).lt H.out)
                      obtain ⟨m0, z0⟩ := cellsAt b1 0 (v := .int .i64 0) rfl
                      obtain ⟨q0, y0⟩ := cellsAt b2 0 (v := .int .i64 0) rfl
                      obtain ⟨m1, z1⟩ := cellsAt b1 1 (v := .int .i64 0) rfl
                      obtain ⟨q1, y1⟩ := cellsAt b2 1 (v := .int .i64 0) rfl
                      obtain ⟨m2, z2⟩ := cellsAt b1 2 (v := .int .u64 0) rfl
                      obtain ⟨q2, y2⟩ := cellsAt b2 2 (v := .int .u64 0) rfl
                      obtain ⟨m3, z3⟩ := cellsAt b1 3 (v := .bool false) rfl
                      obtain ⟨q3, y3⟩ := cellsAt b2 3 (v := .bool false) rfl
                      obtain ⟨m4, z4⟩ := cellsAt b1 4 (v := .int .i64 0) rfl
                      obtain ⟨q4, y4⟩ := cellsAt b2 4 (v := .int .i64 0) rfl
                      have HT := Lib.hid ht
                      clear ht b1 b2 HW HC
                      go_wp2_with fail
                      refine bodyPost_ret (v := told6V ⟨va, 0, 0, false, 0⟩) ?_ rfl ⟨rfl, turn3 H.out HT.out (((((((Off.refl (fun k => w.heap.size ≤ k ∧ k < w.heap.size + 3) _).setCell (.inl ⟨by simp; omega, by simp⟩) _).setCell (p := ⟨w.heap.size + 1, 0, none⟩) (.inl ⟨Nat.le_succ _, by show w.heap.size + 1 < w.heap.size + 3; omega⟩) _).setCell (p := ⟨w.heap.size + 1, 1, none⟩) (.inl ⟨Nat.le_succ _, by show w.heap.size + 1 < w.heap.size + 3; omega⟩) _).setCell (p := ⟨w.heap.size + 1, 2, none⟩) (.inl ⟨Nat.le_succ _, by show w.heap.size + 1 < w.heap.size + 3; omega⟩) _).setCell (p := ⟨w.heap.size + 1, 3, none⟩) (.inl ⟨Nat.le_succ _, by show w.heap.size + 1 < w.heap.size + 3; omega⟩) _).setCell (p := ⟨w.heap.size + 1, 4, none⟩) (.inl ⟨Nat.le_succ _, by show w.heap.size + 1 < w.heap.size + 3; omega⟩) _)⟩
                      rw [results_cell1 rfl]
                      unfold told6V
                      go_simp
                    · have e9 : (d == 9) = false := by simpa using h9
                      have hA : doT mo idl m ⟨d, ss, id, ep, now, n⟩ p = ⟨0, 0, 0, false, 0⟩ := by simp [doT, h0, h1, h2, h3, h4, h5, h6, h7, h8, h9]
                      have hC : doP mo idl m ⟨d, ss, id, ep, now, n⟩ p = p := by simp [doP, h0, h1, h2, h3, h4, h5, h6, h7, h8, h9]
                      rw [hA, hC]
                      clear hA hC h0 h1 h2 h3 h4 h5 h6 h7 h8 h9
                      go_enter Tryz.func8, Tryz.ntmps8
                      have ht := Turn.here (HW.out (.cells #[.int .i64 d, .int .i64 ss, .int .i64 id, .int .u64 ep, .int .u64 now, .int .u64 n] 33) (.cells #[.int .i64 0, .int .i64 0, .int .u64 0, .bool false, .int .i64 0] 35) (.cells #[.int .i64 0, .int .i64 0, .int .u64 0, .bool false, .int .i64 0] 35))
                      obtain ⟨_, b1, b2⟩ := loc3 ht ((RP b mo idl m p).lt H.out)
                      obtain ⟨m0, z0⟩ := cellsAt b1 0 (v := .int .i64 0) rfl
                      obtain ⟨q0, y0⟩ := cellsAt b2 0 (v := .int .i64 0) rfl
                      obtain ⟨m1, z1⟩ := cellsAt b1 1 (v := .int .i64 0) rfl
                      obtain ⟨q1, y1⟩ := cellsAt b2 1 (v := .int .i64 0) rfl
                      obtain ⟨m2, z2⟩ := cellsAt b1 2 (v := .int .u64 0) rfl
                      obtain ⟨q2, y2⟩ := cellsAt b2 2 (v := .int .u64 0) rfl
                      obtain ⟨m3, z3⟩ := cellsAt b1 3 (v := .bool false) rfl
                      obtain ⟨q3, y3⟩ := cellsAt b2 3 (v := .bool false) rfl
                      obtain ⟨m4, z4⟩ := cellsAt b1 4 (v := .int .i64 0) rfl
                      obtain ⟨q4, y4⟩ := cellsAt b2 4 (v := .int .i64 0) rfl
                      have HT := Lib.hid ht
                      clear ht b1 b2 HW
                      go_wp2_with fail
                      refine bodyPost_ret (v := told6V ⟨0, 0, 0, false, 0⟩) ?_ rfl ⟨rfl, turn3 H.out HT.out (Off.refl (fun k => w.heap.size ≤ k ∧ k < w.heap.size + 3) _)⟩
                      rw [results_cell1 rfl]
                      unfold told6V
                      go_simp
end
end

/- A region that draws its order, gone through once an operation: each operation keeps what it keeps (Kp), and a slot's fact need not outlive operations that are done ahead of it. -/
section
open Go.RowKit

/-- a fact of a value, kept by each operation that is not free of it -/
structure Sti (Kp : Nat → World → World → Prop) where
  p : Value → World → Prop
  free : Nat → Bool
  st : ∀ i v u u', free i = false → p v u → Kp i u u' → p v u'
def Sti.any (Kp : Nat → World → World → Prop) : Sti Kp := ⟨fun _ _ => True, fun _ => false, fun _ _ _ _ _ _ _ => trivial⟩
/-- the value is known -/
def Sti.eq {Kp : Nat → World → World → Prop} (c : Value) : Sti Kp := ⟨fun v _ => v = c, fun _ => false, fun _ _ _ _ _ h _ => h⟩
def Sti.find {Kp : Nat → World → World → Prop} : List (Nat × Sti Kp) → Nat → Sti Kp
  | [], _ => Sti.any Kp
  | (t, s) :: r, u => bif Nat.beq t u then s else Sti.find r u
/-- an operation waits for another; for another, in some steps -/
def depB (ops : Array Oper) (i j : Nat) : Bool := match ops[i]? with
  | some o => o.after.any fun e => Region.binds .any e && e.on == j
  | none => false
def needB (ops : Array Oper) : Nat → Nat → Nat → Bool
  | 0, i, j => depB ops i j
  | f + 1, i, j => depB ops i j || (List.range ops.size).any fun k => depB ops i k && needB ops f k j
theorem needB_done {ops : Array Oper} {L : Nat → Bool} (hcl : ∀ k j, L k = true → depB ops k j = true → L j = true) : ∀ (f i j : Nat), (∀ k, depB ops i k = true → L k = true) → needB ops f i j = true → L j = true
  | 0, _, _, hi, h => hi _ h
  | f + 1, i, j, hi, h => by
    unfold needB at h
    rcases Bool.or_eq_true_iff.1 h with h | h
    · exact hi _ h
    · obtain ⟨k, _, hk⟩ := List.any_eq_true.1 h
      obtain ⟨h1, h2⟩ := Bool.and_eq_true_iff.1 hk
      exact needB_done hcl f k j (fun q hq => hcl k q (hi k h1) hq) h2
/-- what is free of a slot's fact is that operation itself, or is done ahead of it -/
def freeOk (ops : Array Oper) (free : Nat → Nat → Bool) : Bool := ops.toList.zipIdx.all fun x => match x.1.dst with
  | some d => (List.range ops.size).all fun i => !(free d i) || i == x.2 || needB ops 12 x.2 i
  | none => true
section
variable {P : Program} {ops : Array Oper} {Q : Exit → Act → World → Prop}

/-- what one operation leaves -/
def Went4 (S : (Nat → Bool) → World → Prop) {Kp : Nat → World → World → Prop} (Sp : Nat → Sti Kp) (L : Nat → Bool) (i : Nat) (a : Act) (d : Option Tmp) (w : World) (a' : Act) (w' : World) : Prop :=
  ∃ v, a' = a.put d v ∧ S (doneB L i) w' ∧ Kp i w w' ∧ ∀ t, d = some t → (Sp t).p v w'
theorem Went4.same {S : (Nat → Bool) → World → Prop} {Kp : Nat → World → World → Prop} {Sp : Nat → Sti Kp} {L : Nat → Bool} {i : Nat} {a : Act} {t : Nat} {w : World} {v : Value} (hr : Kp i w w) (hS : S (doneB L i) w) (h : (Sp t).p v w)  : Went4 S Sp L i a (some t) w { tmps := a.tmps.setIfInBounds t v, defers := a.defers } w :=
  ⟨v, rfl, hS, hr, fun _ e => by injection e with e; subst e; exact h⟩
theorem Went4.next {S : (Nat → Bool) → World → Prop} {Kp : Nat → World → World → Prop} {Sp : Nat → Sti Kp} {L : Nat → Bool} {i : Nat} {a : Act} {t : Nat} {w w' : World} {v : Value} (hS : S (doneB L i) w') (hb : Kp i w w') (h : (Sp t).p v w')  : Went4 S Sp L i a (some t) w { tmps := a.tmps.setIfInBounds t v, defers := a.defers } w' :=
  ⟨v, rfl, hS, hb, fun _ e => by injection e with e; subst e; exact h⟩

/-- what is asked of one operation -/
def OkOp4 (P : Program) (ops : Array Oper) (Q : Exit → Act → World → Prop) (S : (Nat → Bool) → World → Prop) {Kp : Nat → World → World → Prop} (Sp : Nat → Sti Kp) (a0 : Act) (i : Nat) (o : Oper) : Prop :=
  ∀ L a w, L i = false → StandI ops i a0 a → S L w → (∀ t, (waitsFor ops o).contains t = true → (Sp t).p (a.tmps.getD t undef) w) → (∀ f j, needB ops f i j = true → L j = true) →
    Wants ops a o ∧ o.wp P a w (Went4 S Sp L i a o.dst w) Q

theorem wpAny_specs4 (S : (Nat → Bool) → World → Prop) {Kp : Nat → World → World → Prop} (Sp : Nat → Sti Kp) (a0 : Act) (hok : regOk ops a0.tmps.size = true) (hfr : freeOk ops (fun d i => (Sp d).free i) = true)
    (each : EachOp (OkOp4 P ops Q S Sp a0) 0 ops.toList)
    (fin : ∀ L a w, (∀ j, j < ops.size → L j = true) → Stand ops a0 a → S L w → (∀ t, (dstsOf ops).contains t = true → (Sp t).p (a.tmps.getD t undef) w) → Q .normal a w) :
    ∀ (fuel : Nat) (listed : Array Bool) (a : Act) (w : World), listed.size = ops.size → ((List.range ops.size).filter fun i => !listed.getD i true).length ≤ fuel →
      Stand ops a0 a → S (fun j => listed.getD j false) w → (∀ i d, listed.getD i false = true → dstOf ops i = some d → (Sp d).p (a.tmps.getD d undef) w) →
      (∀ j d, j < ops.size → listed.getD j false = false → dstOf ops j = some d → a.tmps.getD d undef = a0.tmps.getD d undef) →
      (∀ j o, listed.getD j false = true → ops[j]? = some o → ∀ e ∈ o.after, Region.binds .any e = true → listed.getD e.on false = true) → wpAny P .any ops Q fuel listed a w := by
  simp only [regOk, Bool.and_eq_true, List.all_eq_true, decide_eq_true_eq] at hok
  obtain ⟨⟨⟨hdst, hlen⟩, hnd⟩, hlow⟩ := hok
  have hdst' : ∀ o ∈ ops.toList, ∃ d, o.dst = some d ∧ d < a0.tmps.size := fun o ho => by
    have := hdst o ho
    split at this
    · rename_i d hd; exact ⟨d, hd, by simpa using this⟩
    · cases this
  have hget := dsts_getElem (ops := ops) (fun o ho => (hdst' o ho).imp fun d h => h.1)
  have hinj : ∀ i j d, dstOf ops i = some d → dstOf ops j = some d → i = j := fun i j d hi hj => by
    rw [← hget] at hi hj
    obtain ⟨hi1, hi2⟩ := List.getElem?_eq_some_iff.1 hi
    obtain ⟨hj1, hj2⟩ := List.getElem?_eq_some_iff.1 hj
    have hp := List.pairwise_iff_getElem.1 hnd
    rcases Nat.lt_trichotomy i j with h | h | h
    · exact absurd (hi2.trans hj2.symm) (hp i j hi1 hj1 h)
    · exact h
    · exact absurd (hj2.trans hi2.symm) (hp j i hj1 hi1 h)
  have hready0 : ∀ listed : Array Bool, listed.size = ops.size → Region.ready .any ops listed = [] → ∀ i, i < ops.size → listed.getD i false = true := by
    intro listed hsz hr i
    induction i using Nat.strongRecOn with
    | _ i ih =>
      intro hi
      cases hl : listed.getD i false with
      | true => rfl
      | false =>
        exfalso
        have hl2 : listed.getD i true = false := by
          rw [Array.getD_eq_getD_getElem?, Array.getElem?_eq_getElem (by omega)] at hl ⊢; simpa using hl
        have hm : i ∈ Region.ready .any ops listed := by
          unfold Region.ready
          rw [List.mem_filter]
          refine ⟨List.mem_range.2 hi, ?_⟩
          rw [hl2, Array.getElem?_eq_getElem hi]
          simp only [Bool.not_false, Bool.true_and, Option.map_some, Option.getD_some, Array.all_eq_true_iff_forall_mem]
          intro e he
          have h1 := hlow (ops[i], i) (by rw [List.mem_zipIdx_iff_getElem?]; simp [hi])
          simp only [Array.all_eq_true_iff_forall_mem] at h1
          have h2 := h1 e he
          cases hb : Region.binds .any e with
          | false => simp
          | true =>
            rw [hb] at h2
            have h3 : e.on < i := by simpa using h2
            simp [ih e.on h3 (by omega)]
        rw [hr] at hm
        cases hm
  have hfin : ∀ listed a w, listed.size = ops.size → Stand ops a0 a → S (fun j => listed.getD j false) w → (∀ i d, listed.getD i false = true → dstOf ops i = some d → (Sp d).p (a.tmps.getD d undef) w) → Region.ready .any ops listed = [] → Q .normal a w := by
    intro listed a w hsz hst hS hsp hr
    refine fin _ a w (hready0 listed hsz hr) hst hS fun t ht => ?_
    obtain ⟨i, hi, he⟩ := List.mem_iff_getElem.1 (List.contains_iff_mem.1 ht)
    have hd : dstOf ops i = some t := by rw [← hget, List.getElem?_eq_getElem hi, he]
    exact hsp i t (hready0 listed hsz hr i (by omega)) hd
  intro fuel
  induction fuel with
  | zero =>
    intro listed a w hsz hc hst hS hsp _ _
    have hr : Region.ready .any ops listed = [] := by
      have h0 : ((List.range ops.size).filter fun i => !listed.getD i true) = [] := List.eq_nil_of_length_eq_zero (by omega)
      unfold Region.ready
      rw [List.filter_eq_nil_iff] at h0 ⊢
      intro i hi
      have := h0 i hi
      simp only [Bool.not_eq_true] at this ⊢
      rw [this, Bool.false_and]
    exact ⟨hr, hfin listed a w hsz hst hS hsp hr⟩
  | succ fuel ih =>
    intro listed a w hsz hc hst hS hsp hun0 hcl
    refine ⟨hfin listed a w hsz hst hS hsp, fun i hi => ?_⟩
    unfold Region.ready at hi
    rw [List.mem_filter, List.mem_range] at hi
    obtain ⟨hilt, hi2⟩ := hi
    rw [Array.getElem?_eq_getElem hilt] at hi2
    simp only [Bool.and_eq_true, Option.map_some, Option.getD_some, Array.all_eq_true_iff_forall_mem] at hi2
    obtain ⟨hun, hdeps⟩ := hi2
    obtain ⟨d, hd, hdl⟩ := hdst' ops[i] (by simp)
    have hdi : dstOf ops i = some d := by unfold dstOf; rw [Array.getElem?_eq_getElem hilt]; exact hd
    have hthis := each.at_ i ops[i] (by simp [hilt])
    rw [Nat.zero_add] at hthis
    have hni : listed.getD i false = false := by
      have hl : listed.getD i true = false := by simpa using hun
      rw [Array.getD_eq_getD_getElem?, Array.getElem?_eq_getElem (by omega)] at hl ⊢
      simpa using hl
    have hold : ∀ t, (laterOf ops i).contains t = true → a.tmps.getD t undef = a0.tmps.getD t undef := fun t ht => by
      unfold laterOf at ht
      obtain ⟨o, ho, hot⟩ := List.mem_filterMap.1 (List.contains_iff_mem.1 ht)
      rw [List.mem_filter] at ho
      obtain ⟨j, hj, hje⟩ := List.mem_iff_getElem.1 ho.1
      have hj' : j < ops.size := by simpa using hj
      have hjo : ops[j]? = some o := by rw [Array.getElem?_eq_getElem hj', ← hje]; simp
      have hdj : dstOf ops j = some t := by unfold dstOf; rw [hjo]; exact hot
      refine hun0 j t hj' ?_ hdj
      rw [Bool.eq_false_iff]
      intro hlj
      obtain ⟨e, he, h2⟩ := Array.any_eq_true'.1 ho.2
      simp only [Bool.and_eq_true, beq_iff_eq] at h2
      have := hcl j o hlj hjo e he h2.1
      rw [h2.2, hni] at this
      cases this
    obtain ⟨hw, hwp⟩ := hthis _ a w hni ⟨hst, hold⟩ hS (fun t ht => by
      unfold waitsFor at ht
      obtain ⟨e, he, het⟩ := List.mem_filterMap.1 (List.contains_iff_mem.1 ht)
      rw [List.mem_filter] at he
      have := hdeps e (by simpa using he.1)
      rw [he.2] at this
      exact hsp e.on t (by simpa using this) het) (fun f j hj => needB_done (L := fun j => listed.getD j false) (fun k q hk hq => by
        unfold depB at hq
        cases hko : ops[k]? with
        | none => rw [hko] at hq; cases hq
        | some o =>
          rw [hko] at hq
          obtain ⟨e, he, h3⟩ := Array.any_eq_true'.1 hq
          simp only [Bool.and_eq_true, beq_iff_eq] at h3
          have h4 := hcl k o hk hko e he h3.1
          rw [h3.2] at h4
          exact h4) f i j (fun k hk => by
        unfold depB at hk
        rw [Array.getElem?_eq_getElem hilt] at hk
        obtain ⟨e, he, h3⟩ := Array.any_eq_true'.1 hk
        simp only [Bool.and_eq_true, beq_iff_eq] at h3
        have h4 := hdeps e he
        rw [h3.1, h3.2] at h4
        simpa using h4) hj)
    unfold wpOp
    simp only [Array.getElem?_eq_getElem hilt, wants hw, if_true]
    refine .inl (Oper.wp_mono ?_ hwp)
    rintro a' w' ⟨v, rfl, hS', hb, hsp'⟩
    have hval : ((a.put (ops[i]).dst v).tmps.getD d undef) = v := by
      rw [hd]
      simp only [Act.put]
      rw [Array.getD_eq_getD_getElem?, Array.getElem?_setIfInBounds_self_of_lt (by rw [hst.size]; exact hdl)]
      rfl
    have hoth : ∀ t, t ≠ d → (a.put (ops[i]).dst v).tmps.getD t undef = a.tmps.getD t undef := fun t ht => by
      rw [hd]
      simp only [Act.put]
      rw [Array.getD_eq_getD_getElem?, Array.getD_eq_getD_getElem?, Array.getElem?_setIfInBounds_ne (fun h => ht h.symm)]
    have hset : ∀ j, j ≠ i → (listed.setIfInBounds i true).getD j false = listed.getD j false := fun j hji => by
      rw [Array.getD_eq_getD_getElem?, Array.getElem?_setIfInBounds_ne (fun h => hji h.symm), ← Array.getD_eq_getD_getElem?]
    have hseti : (listed.setIfInBounds i true).getD i false = true := by
      rw [Array.getD_eq_getD_getElem?, Array.getElem?_setIfInBounds_self_of_lt (by omega)]; rfl
    refine ih _ _ _ (by simp [hsz]) ?_ ⟨by rw [hd]; simp [Act.put, hst.size], by rw [hd]; simp [Act.put, hst.defers], fun t ht => ?_⟩ (by rw [doneB_ext (L := fun j => listed.getD j false) (i := i) (M := fun j => (listed.setIfInBounds i true).getD j false) hseti hset]; exact hS') (fun j dj hj hdj => ?_) (fun j dj hj hlj hdj => ?_) (fun j o hlj hjo e he hb2 => ?_)
    · have hl : listed.getD i true = false := by simpa using hun
      have := filter_lt (l := List.range ops.size) (p := fun j => !listed.getD j true) (q := fun j => !(listed.setIfInBounds i true).getD j true) (fun x hx => by
        by_cases hxi : i = x
        · subst hxi
          rw [Array.getD_eq_getD_getElem?, Array.getElem?_setIfInBounds_self_of_lt (by omega)] at hx
          simp at hx
        · rw [Array.getD_eq_getD_getElem?, Array.getElem?_setIfInBounds_ne hxi, ← Array.getD_eq_getD_getElem?] at hx
          exact hx) (i := i) (List.mem_range.2 hilt) (by simp [hl]) (by
          rw [Array.getD_eq_getD_getElem?, Array.getElem?_setIfInBounds_self_of_lt (by omega)]; simp)
      omega
    · rw [hoth t, hst.out t ht]
      rintro rfl
      have : (dstsOf ops).contains t = true := List.contains_iff_mem.2 (List.mem_of_getElem? (by rw [hget, hdi]))
      rw [this] at ht
      cases ht
    · by_cases hji : j = i
      · subst hji
        rw [hdi] at hdj
        injection hdj with hdj
        subst hdj
        rw [hval]
        exact hsp' d hd
      · have hne : dj ≠ d := fun e => hji (hinj j i d (e ▸ hdj) hdi)
        rw [hoth dj hne]
        rw [Array.getD_eq_getD_getElem?, Array.getElem?_setIfInBounds_ne (fun h => hji h.symm), ← Array.getD_eq_getD_getElem?] at hj
        refine (Sp dj).st _ _ _ _ ?_ (hsp j dj hj hdj) hb
        cases hfi : (Sp dj).free i with
        | false => rfl
        | true =>
          exfalso
          have hjl : j < ops.size := by
            apply Classical.byContradiction
            intro hn
            unfold dstOf at hdj
            rw [Array.getElem?_eq_none (by omega)] at hdj
            cases hdj
          have hjo : ops[j]? = some ops[j] := Array.getElem?_eq_getElem hjl
          have hdj' : (ops[j]).dst = some dj := by
            unfold dstOf at hdj
            rw [hjo] at hdj
            exact hdj
          have h1 := List.all_eq_true.1 hfr (ops[j], j) (by rw [List.mem_zipIdx_iff_getElem?]; simp [hjl])
          dsimp only at h1
          rw [hdj'] at h1
          have h2 := List.all_eq_true.1 h1 i (List.mem_range.2 hilt)
          rw [hfi] at h2
          simp only [Bool.not_true, Bool.false_or, Bool.or_eq_true, beq_iff_eq] at h2
          rcases h2 with h2 | h2
          · exact hji h2.symm
          · have h4 := needB_done (L := fun q => listed.getD q false) (fun k q hk hq => by
              unfold depB at hq
              cases hko : ops[k]? with
              | none => rw [hko] at hq; cases hq
              | some o =>
                rw [hko] at hq
                obtain ⟨e, he, h3⟩ := Array.any_eq_true'.1 hq
                simp only [Bool.and_eq_true, beq_iff_eq] at h3
                have h4 := hcl k o hk hko e he h3.1
                rw [h3.2] at h4
                exact h4) 12 j i (fun k hk => by
              unfold depB at hk
              rw [hjo] at hk
              obtain ⟨e, he, h3⟩ := Array.any_eq_true'.1 hk
              simp only [Bool.and_eq_true, beq_iff_eq] at h3
              have h4 := hcl j ops[j] hj hjo e he h3.1
              rw [h3.2] at h4
              exact h4) h2
            have h5 : listed.getD i false = true := h4
            rw [hni] at h5
            cases h5
    · have hji : j ≠ i := fun h => by rw [h, hseti] at hlj; cases hlj
      rw [hset j hji] at hlj
      rw [hoth dj (fun e => hji (hinj j i d (e ▸ hdj) hdi))]
      exact hun0 j dj hj hlj hdj
    · have hon : listed.getD e.on false = true := by
        by_cases hji : j = i
        · subst hji
          rw [Array.getElem?_eq_getElem hilt] at hjo
          injection hjo with hjo
          subst hjo
          have := hdeps e he
          rw [hb2] at this
          simpa using this
        · rw [hset j hji] at hlj
          exact hcl j o hlj hjo e he hb2
      by_cases hei : e.on = i
      · rw [hei]; exact hseti
      · rw [hset _ hei]; exact hon

theorem wp_region_specs4 {id : Nat} {a0 : Act} {w0 : World} (S : (Nat → Bool) → World → Prop) {Kp : Nat → World → World → Prop} (Sp : List (Nat × Sti Kp)) (hm : P.follows .mixedOrders = true) (hok : regOk ops a0.tmps.size = true) (hfr : freeOk ops (fun d i => (Sti.find Sp d).free i) = true) (hS : S (fun _ => false) w0.drew)
    (each : EachOp (OkOp4 P ops Q S (Sti.find Sp) a0) 0 ops.toList)
    (fin : ∀ L a w, (∀ j, Nat.blt j ops.size = true → L j = true) → Stand ops a0 a → S L w → (∀ t, (dstsOf ops).contains t = true → (Sti.find Sp t).p (a.tmps.getD t undef) w) → Q .normal a w) :
    (Code.region id ops true).wp P Q a0 w0 :=
  wp_region_any hm (wpAny_specs4 S (Sti.find Sp) a0 hok hfr each (fun L a w hL => fin L a w fun j hj => hL j (Nat.le_of_ble_eq_true hj)) _ _ _ _ (by simp) (by
    refine Nat.le_trans (List.length_filter_le _ _) (by simp)) ⟨rfl, rfl, fun _ _ => rfl⟩ (by rw [show (fun j => (Array.replicate ops.size false).getD j false) = fun _ => false from by funext j; rw [Array.getD_eq_getD_getElem?, Array.getElem?_replicate]; split <;> rfl]; exact hS) (fun i d h => by
    exfalso
    rw [Array.getD_eq_getD_getElem?, Array.getElem?_replicate] at h
    split at h <;> simp at h) (fun _ _ _ _ _ => rfl) (fun j o h => by
    exfalso
    rw [Array.getD_eq_getD_getElem?, Array.getElem?_replicate] at h
    split at h <;> simp at h))
end
end

/- The document's layer 10: Conns; the law's infos: contracts. -/
section
open Go.RowKit
set_option maxRecDepth 100000

theorem infoH_next (l : List Hd) (k : Nat) (h : k < l.length) : inC ((l.take (k + 1)).map infoH) = inC ((l.take k).map infoH) ++ (infoH l[k]).cells := by
  rw [List.take_succ_eq_append_getElem h, List.map_append, inC_append]
  simp [inC]
section
variable {b : Nat} {mo idl m : Int} {p : Pl} {S : Nat → Prop} {w : World}
set_option maxHeartbeats 8000000 in
theorem rconns_ok (h : (RP b mo idl m p).p S w) :
    Calls Tryz.prog 12 #[.pointer (some ⟨b, 0, none⟩)] w fun e w' => ∃ A c, e = .returned (.slice A p.l.length c) ∧ w'.ownsRow w.heap.size 75 6 (.slice A p.l.length c) p.l.length (inC (p.l.map infoH)) ∧ Below w.heap.size w w' := by
  have H := Lib.hid h
  obtain ⟨N, hN⟩ : ∃ N, p.l.length = N := ⟨_, rfl⟩
  have HN := Lib.hid hN
  obtain ⟨A0, cc0, c30, h6⟩ := RP.len h
  rw [hN] at c30 h6
  rw [hN]
  have hn6 : N ≤ 6 := h6
  have kw := Lib.hid (kp_new w (.cells #[] 75))
  have HO0 : Hid ((w.alloc (.cells #[] 75)).ownsRow w.heap.size 75 6 (.slice (some ⟨w.heap.size, 0, none⟩) 0 0) 0 (inC ((p.l.take 0).map infoH))) := Lib.hid (own_new_s w w.heap.size 6 75 0 [] rfl (Nat.le_refl _) (Nat.zero_le _))
  obtain ⟨i0, hi, hz0, hz1, hz2⟩ := info_parts rinfinfo
  clear h hN h6
  go_enter Tryz.func12, Tryz.ntmps12
  go_wp2_with fail
  go_loopw [3, 4] (fun o i wr => ∃ (k e : Nat) (D : Option Addr), k ≤ N ∧ i = .int .i64 k ∧ o = .slice D k e ∧ Hid (wr.ownsRow w.heap.size 75 6 (.slice D k e) k (inC ((p.l.take k).map infoH))) ∧ Hid (Below w.heap.size w wr)) (fun _ i _ => N - (intOf i).toNat)
  case atStart => exact ⟨0, 0, _, Nat.zero_le _, rfl, rfl, HO0, kw⟩
  case round =>
    obtain ⟨k, e, D, hk, rfl, rfl, ho, hb⟩ := hrel
    have hp := Thing.next H.out hb.out
    obtain ⟨A1, cc1, c31, _⟩ := RP.len hp
    rw [HN.out] at c31
    have hwr : w.heap.size ≤ wr.heap.size := hb.out.size
    by_cases hlt : k < N
    · have hkl : k < p.l.length := by rw [HN.out]; exact hlt
      obtain ⟨g, cc, ca, _, hu⟩ := RP.get H.out hkl
      have hca : ca < w.heap.size := (RC ca _ _).lt (hu w (Below.refl _ _)).2.2.2.2.2.2.1 ca rfl
      obtain ⟨_, _, q3, q0, q1, q2, _, _⟩ := hu wr hb.out
      rw [HN.out] at q3
      obtain ⟨rfl, rfl⟩ : A1 = some ⟨g, 0, none⟩ ∧ cc1 = cc := by
        rw [c31] at q3
        simp only [Option.some.injEq, Value.slice.injEq, true_and] at q3
        exact q3
      clear q3
      have HNX := Lib.hid (infoH_next p.l k hkl)
      have hcu : ∀ u, Below wr.heap.size wr u → (RC ca p.l[k].ep p.l[k].c).p (fun k => k = ca) u := fun u hb2 => (hu u (hb.out.trans (hb2.mono hwr))).2.2.2.2.2.2.1
      clear hu hp
      have HI : Hid (infoH p.l[k] = ⟨p.l[k].id, p.l[k].c.s, p.l[k].c.o, p.l[k].ep, p.l[k].c.f, p.l[k].t⟩) := Lib.hid rfl
      generalize p.l[k] = hd at *
      obtain ⟨id, ep, pc, t⟩ := hd
      dsimp only at q0 q1 q2 hcu HI
      obtain ⟨⟨r0, r1, r2, r3, _, _⟩, _⟩ := rcell (RC.at_ (hcu _ (kp_new wr (.cells #[.int .i64 id, .pointer (some ⟨ca, 0, none⟩), .int .u64 t] 81)))).1
      clear hcu
      generalize pc.s = s at *
      generalize pc.o = o at *
      generalize pc.f = f at *
      have y0 : (wr.alloc (.cells #[.int .i64 id, .pointer (some ⟨ca, 0, none⟩), .int .u64 t] 81)).cell? ⟨wr.heap.size, 0, none⟩ = some (.int .i64 id) := by simp
      have y1 : (wr.alloc (.cells #[.int .i64 id, .pointer (some ⟨ca, 0, none⟩), .int .u64 t] 81)).cell? ⟨wr.heap.size, 1, none⟩ = some (.pointer (some ⟨ca, 0, none⟩)) := by simp
      have y2 : (wr.alloc (.cells #[.int .i64 id, .pointer (some ⟨ca, 0, none⟩), .int .u64 t] 81)).cell? ⟨wr.heap.size, 2, none⟩ = some (.int .u64 t) := by simp
      have kx := kp_new wr (.cells #[.int .i64 id, .pointer (some ⟨ca, 0, none⟩), .int .u64 t] 81)
      have HOW := Lib.hid (ho.out.alloc (.cells #[.int .i64 id, .pointer (some ⟨ca, 0, none⟩), .int .u64 t] 81))
      have HKX := Lib.hid (kp_alloc hb.out (.cells #[.int .i64 id, .pointer (some ⟨ca, 0, none⟩), .int .u64 t] 81))
      obtain ⟨XS, hXS⟩ : ∃ y, inC ((p.l.take k).map infoH) = y := ⟨_, rfl⟩
      rw [hXS] at HNX HOW
      obtain ⟨wx, hwx⟩ : ∃ u, wr.alloc (.cells #[.int .i64 id, .pointer (some ⟨ca, 0, none⟩), .int .u64 t] 81) = u := ⟨_, rfl⟩
      rw [hwx] at r0 r1 r2 r3 y0 y1 y2 HOW HKX
      have HWX := Lib.hid hwx
      have hlw := HOW.out.lt
      have HOB : Hid (∀ j, (Value.slice D k e).ownBlock = some j → j < wx.heap.size) := Lib.hid fun j e => (hlw j e).2
      have HOL : Hid (∀ j, (Value.slice D k e).ownBlock = some j → w.heap.size ≤ j) := Lib.hid fun j e => (hlw j e).1
      have HWZ : Hid (w.heap.size ≤ wx.heap.size) := Lib.hid HKX.out.size
      have hawr : ∀ j, (Value.slice D k e).ownBlock = some j → j < wr.heap.size := fun j e => (ho.out.lt j e).2
      have hxs : wr.heap.size < wx.heap.size := by rw [← hwx]; simp
      have hax : ca < wx.heap.size ∧ (Value.slice D k e).ownBlock ≠ some ca := ⟨by have := HWZ.out; omega, fun e => by have := HOL.out ca e; omega⟩
      have HCU : Hid (∀ u, Off (fun j => (Value.slice D k e).ownBlock = some j) wx u → u.cell? ⟨wr.heap.size, 0, none⟩ = some (.int .i64 id) ∧ u.cell? ⟨wr.heap.size, 1, none⟩ = some (.pointer (some ⟨ca, 0, none⟩)) ∧ u.cell? ⟨wr.heap.size, 2, none⟩ = some (.int .u64 t) ∧ u.cell? ⟨ca, 0, none⟩ = some (.int .u64 ep) ∧ u.cell? ⟨ca, 1, none⟩ = some (.int .i64 s) ∧ u.cell? ⟨ca, 2, none⟩ = some (.int .i64 o) ∧ u.cell? ⟨ca, 3, none⟩ = some (.int .u64 f)) := Lib.hid fun u hu => by
        have hX : u.heap[wr.heap.size]? = wx.heap[wr.heap.size]? := hu.block _ hxs fun e => by have := hawr _ e; omega
        have hA : u.heap[ca]? = wx.heap[ca]? := hu.block _ hax.1 hax.2
        exact ⟨(World.cell?_of_block (a := ⟨wr.heap.size, 0, none⟩) hX).trans y0, (World.cell?_of_block (a := ⟨wr.heap.size, 1, none⟩) hX).trans y1, (World.cell?_of_block (a := ⟨wr.heap.size, 2, none⟩) hX).trans y2, (World.cell?_of_block (a := ⟨ca, 0, none⟩) hA).trans r0, (World.cell?_of_block (a := ⟨ca, 1, none⟩) hA).trans r1, (World.cell?_of_block (a := ⟨ca, 2, none⟩) hA).trans r2, (World.cell?_of_block (a := ⟨ca, 3, none⟩) hA).trans r3⟩
      have HKR : Hid (∀ (i : Nat) (u : World), (bif Nat.beq i 27 then Off (fun j => (Value.slice D k e).ownBlock = some j) u u else Below u.heap.size u u)) := Lib.hid fun i u => by
        cases Nat.beq i 27 with
        | true => exact Off.refl _ _
        | false => exact Below.refl _ _
      have HS0 : Hid (Off (fun j => (Value.slice D k e).ownBlock = some j) wx wx.drew ∧ (wx.drew.ownsRow w.heap.size 75 6 (.slice D k e) k XS)) := Lib.hid ⟨(Off.refl _ _).drew, HOW.out.drew⟩
      clear hXS hwx ho kx hlw hawr hxs hax hca HOW y0 y1 y2 r0 r1 r2 r3
      go_wp2_with fail
      rw [HWX.out]
      clear HWX
      have YY := HCU.out wx (Off.refl _ _)
      obtain ⟨y0, y1, y2, _⟩ := YY
      go_wp2_with fail
      refine wp_region_specs4 (S := fun L u => Off (fun j => (Value.slice D k e).ownBlock = some j) wx u ∧ (L 27 = false → u.ownsRow w.heap.size 75 6 (.slice D k e) k XS)) (Kp := fun i u u' => bif Nat.beq i 27 then Off (fun j => (Value.slice D k e).ownBlock = some j) u u' else Below u.heap.size u u') (Sp := [(23, Sti.eq (.slice D k e)), (24, Sti.eq (.pointer (some ⟨wr.heap.size, 0, none⟩))), (25, Sti.eq (.int .i64 id)), (26, Sti.eq (.pointer (some ⟨wr.heap.size, 1, none⟩))), (27, Sti.eq (.pointer (some ⟨ca, 0, none⟩))), (28, Sti.eq (.pointer (some ⟨ca, 0, none⟩))), (29, Sti.eq (.pointer (some ⟨ca, 1, none⟩))), (30, Sti.eq (.int .i64 s)), (31, Sti.eq (.pointer (some ⟨wr.heap.size, 1, none⟩))), (32, Sti.eq (.pointer (some ⟨ca, 0, none⟩))), (33, Sti.eq (.pointer (some ⟨ca, 0, none⟩))), (34, Sti.eq (.pointer (some ⟨ca, 2, none⟩))), (35, Sti.eq (.int .i64 o)), (36, Sti.eq (.pointer (some ⟨wr.heap.size, 1, none⟩))), (37, Sti.eq (.pointer (some ⟨ca, 0, none⟩))), (38, Sti.eq (.pointer (some ⟨ca, 0, none⟩))), (39, Sti.eq (.pointer (some ⟨ca, 0, none⟩))), (40, Sti.eq (.int .u64 ep)), (41, Sti.eq (.pointer (some ⟨wr.heap.size, 1, none⟩))), (42, Sti.eq (.pointer (some ⟨ca, 0, none⟩))), (43, Sti.eq (.pointer (some ⟨ca, 0, none⟩))), (44, Sti.eq (.pointer (some ⟨ca, 3, none⟩))), (45, Sti.eq (.int .u64 f)), (46, Sti.eq (.pointer (some ⟨wr.heap.size, 2, none⟩))), (47, Sti.eq (.int .u64 t)), (48, Sti.eq (.agg #[.int .i64 id, .int .i64 s, .int .i64 o, .int .u64 ep, .int .u64 f, .int .u64 t])), (49, ⟨fun v u => ∃ g, v = .slice (some ⟨g, 0, none⟩) 1 1 ∧ wx.heap.size ≤ g ∧ Rd u (g + 1) (some ⟨g, 0, none⟩) [.int .i64 id, .int .i64 s, .int .i64 o, .int .u64 ep, .int .u64 f, .int .u64 t] ∧ g < u.heap.size, fun _ => false, fun i v u u' _ h hk => by
              obtain ⟨g, h1, h2, h3, h4⟩ := h
              have hb : u'.heap[g]? = u.heap[g]? ∧ u.heap.size ≤ u'.heap.size := by
                revert hk
                cases Nat.beq i 27 with
                | true => exact fun hk => ⟨hk.block g h4 fun e => by have := HOB.out g e; omega, hk.size⟩
                | false => exact fun hk => ⟨hk.block g h4, hk.size⟩
              refine ⟨g, h1, h2, ?_, by omega⟩
              rcases h3 with h3 | ⟨ad, h5, h6, h7⟩
              · exact .inl h3
              · injection h5 with h5
                subst h5
                refine .inr ⟨_, rfl, h6, fun j x hx => ?_⟩
                exact (World.cell?_of_block (a := (⟨g, 0, none⟩ : Addr).add j) (by rw [add_block]; exact hb.1)).trans (h7 j x hx)⟩), (50, ⟨fun v u => ∃ D3 e3, v = .slice D3 (k + 1) e3 ∧ u.ownsRow w.heap.size 75 6 (.slice D3 (k + 1) e3) (k + 1) (XS ++ [.int .i64 id, .int .i64 s, .int .i64 o, .int .u64 ep, .int .u64 f, .int .u64 t]), fun i => Nat.beq i 27, fun i v u u' hf h hk => by
              obtain ⟨D3, e3, h1, h2⟩ := h
              revert hk
              rw [show Nat.beq i 27 = false from hf]
              exact fun hk => ⟨D3, e3, h1, own_below_s h2 hk (Nat.le_refl _)⟩⟩), (3, ⟨fun v u => ∃ D3 e3, v = .slice D3 (k + 1) e3 ∧ u.ownsRow w.heap.size 75 6 (.slice D3 (k + 1) e3) (k + 1) (XS ++ [.int .i64 id, .int .i64 s, .int .i64 o, .int .u64 ep, .int .u64 f, .int .u64 t]), fun i => Nat.beq i 27, fun i v u u' hf h hk => by
              obtain ⟨D3, e3, h1, h2⟩ := h
              revert hk
              rw [show Nat.beq i 27 = false from hf]
              exact fun hk => ⟨D3, e3, h1, own_below_s h2 hk (Nat.le_refl _)⟩⟩)]) (by kernel_rfl) (by kernel_rfl) (by kernel_rfl) (⟨HS0.out.1, fun _ => HS0.out.2⟩) ?_ ?_
      · refine EachOp.cons ?_ ?_
        · intro L a u hL hst hS hdep hq
          have h3 : a.tmps.getD 3 undef = .slice D k e := hst.old 3 (by kernel_rfl)
          refine ⟨trivial, ?_⟩
          have g3 := gd h3
          go_simp
          exact Went4.same (HKR.out _ _) hS rfl
        refine EachOp.cons ?_ ?_
        · intro L a u hL hst hS hdep hq
          have h5 : a.tmps.getD 5 undef = .pointer (some ⟨wr.heap.size, 0, none⟩) := hst.out 5 (by kernel_rfl)
          refine ⟨trivial, ?_⟩
          have g5 := gd h5
          go_simp
          exact Went4.same (HKR.out _ _) hS rfl
        refine EachOp.cons ?_ ?_
        · intro L a u hL hst hS hdep hq
          have h24 : a.tmps.getD 24 undef = .pointer (some ⟨wr.heap.size, 0, none⟩) := hdep 24 (by kernel_rfl)
          refine ⟨trivial, ?_⟩
          have g24 := gd h24
          obtain ⟨cc0, cc1, cc2, cc3, cc4, cc5, cc6⟩ := HCU.out u hS.1
          go_simp
          exact Went4.same (HKR.out _ _) hS rfl
        refine EachOp.cons ?_ ?_
        · intro L a u hL hst hS hdep hq
          have h5 : a.tmps.getD 5 undef = .pointer (some ⟨wr.heap.size, 0, none⟩) := hst.out 5 (by kernel_rfl)
          refine ⟨trivial, ?_⟩
          have g5 := gd h5
          go_simp
          exact Went4.same (HKR.out _ _) hS rfl
        refine EachOp.cons ?_ ?_
        · intro L a u hL hst hS hdep hq
          have h26 : a.tmps.getD 26 undef = .pointer (some ⟨wr.heap.size, 1, none⟩) := hdep 26 (by kernel_rfl)
          refine ⟨trivial, ?_⟩
          have g26 := gd h26
          obtain ⟨cc0, cc1, cc2, cc3, cc4, cc5, cc6⟩ := HCU.out u hS.1
          go_simp
          exact Went4.same (HKR.out _ _) hS rfl
        refine EachOp.cons ?_ ?_
        · intro L a u hL hst hS hdep hq
          have h27 : a.tmps.getD 27 undef = .pointer (some ⟨ca, 0, none⟩) := hdep 27 (by kernel_rfl)
          refine ⟨trivial, ?_⟩
          have g27 := gd h27
          go_simp
          exact Went4.same (HKR.out _ _) hS rfl
        refine EachOp.cons ?_ ?_
        · intro L a u hL hst hS hdep hq
          have h28 : a.tmps.getD 28 undef = .pointer (some ⟨ca, 0, none⟩) := hdep 28 (by kernel_rfl)
          refine ⟨trivial, ?_⟩
          have g28 := gd h28
          go_simp
          exact Went4.same (HKR.out _ _) hS rfl
        refine EachOp.cons ?_ ?_
        · intro L a u hL hst hS hdep hq
          have h29 : a.tmps.getD 29 undef = .pointer (some ⟨ca, 1, none⟩) := hdep 29 (by kernel_rfl)
          refine ⟨trivial, ?_⟩
          have g29 := gd h29
          obtain ⟨cc0, cc1, cc2, cc3, cc4, cc5, cc6⟩ := HCU.out u hS.1
          go_simp
          exact Went4.same (HKR.out _ _) hS rfl
        refine EachOp.cons ?_ ?_
        · intro L a u hL hst hS hdep hq
          have h5 : a.tmps.getD 5 undef = .pointer (some ⟨wr.heap.size, 0, none⟩) := hst.out 5 (by kernel_rfl)
          refine ⟨trivial, ?_⟩
          have g5 := gd h5
          go_simp
          exact Went4.same (HKR.out _ _) hS rfl
        refine EachOp.cons ?_ ?_
        · intro L a u hL hst hS hdep hq
          have h31 : a.tmps.getD 31 undef = .pointer (some ⟨wr.heap.size, 1, none⟩) := hdep 31 (by kernel_rfl)
          refine ⟨trivial, ?_⟩
          have g31 := gd h31
          obtain ⟨cc0, cc1, cc2, cc3, cc4, cc5, cc6⟩ := HCU.out u hS.1
          go_simp
          exact Went4.same (HKR.out _ _) hS rfl
        refine EachOp.cons ?_ ?_
        · intro L a u hL hst hS hdep hq
          have h32 : a.tmps.getD 32 undef = .pointer (some ⟨ca, 0, none⟩) := hdep 32 (by kernel_rfl)
          refine ⟨trivial, ?_⟩
          have g32 := gd h32
          go_simp
          exact Went4.same (HKR.out _ _) hS rfl
        refine EachOp.cons ?_ ?_
        · intro L a u hL hst hS hdep hq
          have h33 : a.tmps.getD 33 undef = .pointer (some ⟨ca, 0, none⟩) := hdep 33 (by kernel_rfl)
          refine ⟨trivial, ?_⟩
          have g33 := gd h33
          go_simp
          exact Went4.same (HKR.out _ _) hS rfl
        refine EachOp.cons ?_ ?_
        · intro L a u hL hst hS hdep hq
          have h34 : a.tmps.getD 34 undef = .pointer (some ⟨ca, 2, none⟩) := hdep 34 (by kernel_rfl)
          refine ⟨trivial, ?_⟩
          have g34 := gd h34
          obtain ⟨cc0, cc1, cc2, cc3, cc4, cc5, cc6⟩ := HCU.out u hS.1
          go_simp
          exact Went4.same (HKR.out _ _) hS rfl
        refine EachOp.cons ?_ ?_
        · intro L a u hL hst hS hdep hq
          have h5 : a.tmps.getD 5 undef = .pointer (some ⟨wr.heap.size, 0, none⟩) := hst.out 5 (by kernel_rfl)
          refine ⟨trivial, ?_⟩
          have g5 := gd h5
          go_simp
          exact Went4.same (HKR.out _ _) hS rfl
        refine EachOp.cons ?_ ?_
        · intro L a u hL hst hS hdep hq
          have h36 : a.tmps.getD 36 undef = .pointer (some ⟨wr.heap.size, 1, none⟩) := hdep 36 (by kernel_rfl)
          refine ⟨trivial, ?_⟩
          have g36 := gd h36
          obtain ⟨cc0, cc1, cc2, cc3, cc4, cc5, cc6⟩ := HCU.out u hS.1
          go_simp
          exact Went4.same (HKR.out _ _) hS rfl
        refine EachOp.cons ?_ ?_
        · intro L a u hL hst hS hdep hq
          have h37 : a.tmps.getD 37 undef = .pointer (some ⟨ca, 0, none⟩) := hdep 37 (by kernel_rfl)
          refine ⟨trivial, ?_⟩
          have g37 := gd h37
          go_simp
          exact Went4.same (HKR.out _ _) hS rfl
        refine EachOp.cons ?_ ?_
        · intro L a u hL hst hS hdep hq
          have h38 : a.tmps.getD 38 undef = .pointer (some ⟨ca, 0, none⟩) := hdep 38 (by kernel_rfl)
          refine ⟨trivial, ?_⟩
          have g38 := gd h38
          go_simp
          exact Went4.same (HKR.out _ _) hS rfl
        refine EachOp.cons ?_ ?_
        · intro L a u hL hst hS hdep hq
          have h39 : a.tmps.getD 39 undef = .pointer (some ⟨ca, 0, none⟩) := hdep 39 (by kernel_rfl)
          refine ⟨trivial, ?_⟩
          have g39 := gd h39
          obtain ⟨cc0, cc1, cc2, cc3, cc4, cc5, cc6⟩ := HCU.out u hS.1
          go_simp
          exact Went4.same (HKR.out _ _) hS rfl
        refine EachOp.cons ?_ ?_
        · intro L a u hL hst hS hdep hq
          have h5 : a.tmps.getD 5 undef = .pointer (some ⟨wr.heap.size, 0, none⟩) := hst.out 5 (by kernel_rfl)
          refine ⟨trivial, ?_⟩
          have g5 := gd h5
          go_simp
          exact Went4.same (HKR.out _ _) hS rfl
        refine EachOp.cons ?_ ?_
        · intro L a u hL hst hS hdep hq
          have h41 : a.tmps.getD 41 undef = .pointer (some ⟨wr.heap.size, 1, none⟩) := hdep 41 (by kernel_rfl)
          refine ⟨trivial, ?_⟩
          have g41 := gd h41
          obtain ⟨cc0, cc1, cc2, cc3, cc4, cc5, cc6⟩ := HCU.out u hS.1
          go_simp
          exact Went4.same (HKR.out _ _) hS rfl
        refine EachOp.cons ?_ ?_
        · intro L a u hL hst hS hdep hq
          have h42 : a.tmps.getD 42 undef = .pointer (some ⟨ca, 0, none⟩) := hdep 42 (by kernel_rfl)
          refine ⟨trivial, ?_⟩
          have g42 := gd h42
          go_simp
          exact Went4.same (HKR.out _ _) hS rfl
        refine EachOp.cons ?_ ?_
        · intro L a u hL hst hS hdep hq
          have h43 : a.tmps.getD 43 undef = .pointer (some ⟨ca, 0, none⟩) := hdep 43 (by kernel_rfl)
          refine ⟨trivial, ?_⟩
          have g43 := gd h43
          go_simp
          exact Went4.same (HKR.out _ _) hS rfl
        refine EachOp.cons ?_ ?_
        · intro L a u hL hst hS hdep hq
          have h44 : a.tmps.getD 44 undef = .pointer (some ⟨ca, 3, none⟩) := hdep 44 (by kernel_rfl)
          refine ⟨trivial, ?_⟩
          have g44 := gd h44
          obtain ⟨cc0, cc1, cc2, cc3, cc4, cc5, cc6⟩ := HCU.out u hS.1
          go_simp
          exact Went4.same (HKR.out _ _) hS rfl
        refine EachOp.cons ?_ ?_
        · intro L a u hL hst hS hdep hq
          have h5 : a.tmps.getD 5 undef = .pointer (some ⟨wr.heap.size, 0, none⟩) := hst.out 5 (by kernel_rfl)
          refine ⟨trivial, ?_⟩
          have g5 := gd h5
          go_simp
          exact Went4.same (HKR.out _ _) hS rfl
        refine EachOp.cons ?_ ?_
        · intro L a u hL hst hS hdep hq
          have h46 : a.tmps.getD 46 undef = .pointer (some ⟨wr.heap.size, 2, none⟩) := hdep 46 (by kernel_rfl)
          refine ⟨trivial, ?_⟩
          have g46 := gd h46
          obtain ⟨cc0, cc1, cc2, cc3, cc4, cc5, cc6⟩ := HCU.out u hS.1
          go_simp
          exact Went4.same (HKR.out _ _) hS rfl
        refine EachOp.cons ?_ ?_
        · intro L a u hL hst hS hdep hq
          have h25 : a.tmps.getD 25 undef = .int .i64 id := hdep 25 (by kernel_rfl)
          have h30 : a.tmps.getD 30 undef = .int .i64 s := hdep 30 (by kernel_rfl)
          have h35 : a.tmps.getD 35 undef = .int .i64 o := hdep 35 (by kernel_rfl)
          have h40 : a.tmps.getD 40 undef = .int .u64 ep := hdep 40 (by kernel_rfl)
          have h45 : a.tmps.getD 45 undef = .int .u64 f := hdep 45 (by kernel_rfl)
          have h47 : a.tmps.getD 47 undef = .int .u64 t := hdep 47 (by kernel_rfl)
          refine ⟨trivial, ?_⟩
          have g25 := gd h25
          have g30 := gd h30
          have g35 := gd h35
          have g40 := gd h40
          have g45 := gd h45
          have g47 := gd h47
          go_simp
          exact Went4.same (HKR.out _ _) hS rfl
        refine EachOp.cons ?_ ?_
        · intro L a u hL hst hS hdep hq
          have h48 : a.tmps.getD 48 undef = .agg #[.int .i64 id, .int .i64 s, .int .i64 o, .int .u64 ep, .int .u64 f, .int .u64 t] := hdep 48 (by kernel_rfl)
          refine ⟨trivial, ?_⟩
          have g48 := gd h48
          go_simp
          have kp := kp_new u (.cells #[.int .i64 id, .int .i64 s, .int .i64 o, .int .u64 ep, .int .u64 f, .int .u64 t] 75)
          refine Went4.next (Kp := fun i u u' => bif Nat.beq i 27 then Off (fun j => (Value.slice D k e).ownBlock = some j) u u' else Below u.heap.size u u') ⟨hS.1.trans (Off.of (fun _ => False) kp) (fun _ h => h.elim), fun h => (hS.2 h).alloc _⟩ kp ⟨u.heap.size, rfl, hS.1.size, Rd.new u 75 [.int .i64 id, .int .i64 s, .int .i64 o, .int .u64 ep, .int .u64 f, .int .u64 t], by simp⟩
        refine EachOp.cons ?_ ?_
        · intro L a u hL hst hS hdep hq
          have h23 : a.tmps.getD 23 undef = .slice D k e := hdep 23 (by kernel_rfl)
          obtain ⟨b49, h49, w49, r49, z49⟩ := hdep 49 (by kernel_rfl)
          refine ⟨trivial, ?_⟩
          have g23 := gd h23
          have g49 := gd h49
          refine wp_append_rds (.tmp 23) (.tmp 49) _ rfl w.heap.size 75 i0 _ 6 48 Tryz.underlying39 hi hz0 hz1 hz2 rfl (by omega) (.slice D k e) k _ h23 (hS.2 hL) _ _ 1 1 [.int .i64 id, .int .i64 s, .int .i64 o, .int .u64 ep, .int .u64 f, .int .u64 t] h49 rfl r49 (by simp [Value.oneCell']) (by unfold maxLen; omega) (by omega) (by have := hS.1.size; have := HWZ.out; omega) ?_
          intro v3 w3 hown3 hg3
          obtain ⟨D3, e3, rfl, _, _⟩ := own_form_s hown3
          have ho3 : Off (fun j => (Value.slice D k e).ownBlock = some j) u w3 := ⟨hg3.os, hg3.tape, hg3.output, hg3.size, fun j hj hn => hg3.block j hj fun e => hn e.symm⟩
          exact ⟨_, rfl, ⟨hS.1.trans ho3 (fun _ h => .inl h), fun h => by cases h⟩, ho3, fun t ht => by injection ht with ht; subst ht; exact ⟨D3, e3, rfl, hown3⟩⟩
        refine EachOp.cons ?_ ?_
        · intro L a u hL hst hS hdep hq
          obtain ⟨D50, e50, h50, o50⟩ := hdep 50 (by kernel_rfl)
          refine ⟨trivial, ?_⟩
          have g50 := gd h50
          go_simp
          first | exact Went4.same (HKR.out _ _) hS ⟨D50, e50, rfl, o50⟩ | exact Went4.same (HKR.out _ _) hS ⟨⟨D50, e50, rfl⟩, o50⟩
        exact EachOp.nil
      · intro L a u hLs hst hS hdep
        have h23 : a.tmps.getD 23 undef = .slice D k e := hdep 23 (by kernel_rfl)
        have h24 : a.tmps.getD 24 undef = .pointer (some ⟨wr.heap.size, 0, none⟩) := hdep 24 (by kernel_rfl)
        have h25 : a.tmps.getD 25 undef = .int .i64 id := hdep 25 (by kernel_rfl)
        have h26 : a.tmps.getD 26 undef = .pointer (some ⟨wr.heap.size, 1, none⟩) := hdep 26 (by kernel_rfl)
        have h27 : a.tmps.getD 27 undef = .pointer (some ⟨ca, 0, none⟩) := hdep 27 (by kernel_rfl)
        have h28 : a.tmps.getD 28 undef = .pointer (some ⟨ca, 0, none⟩) := hdep 28 (by kernel_rfl)
        have h29 : a.tmps.getD 29 undef = .pointer (some ⟨ca, 1, none⟩) := hdep 29 (by kernel_rfl)
        have h30 : a.tmps.getD 30 undef = .int .i64 s := hdep 30 (by kernel_rfl)
        have h31 : a.tmps.getD 31 undef = .pointer (some ⟨wr.heap.size, 1, none⟩) := hdep 31 (by kernel_rfl)
        have h32 : a.tmps.getD 32 undef = .pointer (some ⟨ca, 0, none⟩) := hdep 32 (by kernel_rfl)
        have h33 : a.tmps.getD 33 undef = .pointer (some ⟨ca, 0, none⟩) := hdep 33 (by kernel_rfl)
        have h34 : a.tmps.getD 34 undef = .pointer (some ⟨ca, 2, none⟩) := hdep 34 (by kernel_rfl)
        have h35 : a.tmps.getD 35 undef = .int .i64 o := hdep 35 (by kernel_rfl)
        have h36 : a.tmps.getD 36 undef = .pointer (some ⟨wr.heap.size, 1, none⟩) := hdep 36 (by kernel_rfl)
        have h37 : a.tmps.getD 37 undef = .pointer (some ⟨ca, 0, none⟩) := hdep 37 (by kernel_rfl)
        have h38 : a.tmps.getD 38 undef = .pointer (some ⟨ca, 0, none⟩) := hdep 38 (by kernel_rfl)
        have h39 : a.tmps.getD 39 undef = .pointer (some ⟨ca, 0, none⟩) := hdep 39 (by kernel_rfl)
        have h40 : a.tmps.getD 40 undef = .int .u64 ep := hdep 40 (by kernel_rfl)
        have h41 : a.tmps.getD 41 undef = .pointer (some ⟨wr.heap.size, 1, none⟩) := hdep 41 (by kernel_rfl)
        have h42 : a.tmps.getD 42 undef = .pointer (some ⟨ca, 0, none⟩) := hdep 42 (by kernel_rfl)
        have h43 : a.tmps.getD 43 undef = .pointer (some ⟨ca, 0, none⟩) := hdep 43 (by kernel_rfl)
        have h44 : a.tmps.getD 44 undef = .pointer (some ⟨ca, 3, none⟩) := hdep 44 (by kernel_rfl)
        have h45 : a.tmps.getD 45 undef = .int .u64 f := hdep 45 (by kernel_rfl)
        have h46 : a.tmps.getD 46 undef = .pointer (some ⟨wr.heap.size, 2, none⟩) := hdep 46 (by kernel_rfl)
        have h47 : a.tmps.getD 47 undef = .int .u64 t := hdep 47 (by kernel_rfl)
        have h48 : a.tmps.getD 48 undef = .agg #[.int .i64 id, .int .i64 s, .int .i64 o, .int .u64 ep, .int .u64 f, .int .u64 t] := hdep 48 (by kernel_rfl)
        obtain ⟨b49, h49, w49, r49, z49⟩ := hdep 49 (by kernel_rfl)
        obtain ⟨D50, e50, h50, o50⟩ := hdep 50 (by kernel_rfl)
        obtain ⟨D3, e3, h3, o3⟩ := hdep 3 (by kernel_rfl)
        have hfr := hst.frame [(23, .slice D k e), (24, .pointer (some ⟨wr.heap.size, 0, none⟩)), (25, .int .i64 id), (26, .pointer (some ⟨wr.heap.size, 1, none⟩)), (27, .pointer (some ⟨ca, 0, none⟩)), (28, .pointer (some ⟨ca, 0, none⟩)), (29, .pointer (some ⟨ca, 1, none⟩)), (30, .int .i64 s), (31, .pointer (some ⟨wr.heap.size, 1, none⟩)), (32, .pointer (some ⟨ca, 0, none⟩)), (33, .pointer (some ⟨ca, 0, none⟩)), (34, .pointer (some ⟨ca, 2, none⟩)), (35, .int .i64 o), (36, .pointer (some ⟨wr.heap.size, 1, none⟩)), (37, .pointer (some ⟨ca, 0, none⟩)), (38, .pointer (some ⟨ca, 0, none⟩)), (39, .pointer (some ⟨ca, 0, none⟩)), (40, .int .u64 ep), (41, .pointer (some ⟨wr.heap.size, 1, none⟩)), (42, .pointer (some ⟨ca, 0, none⟩)), (43, .pointer (some ⟨ca, 0, none⟩)), (44, .pointer (some ⟨ca, 3, none⟩)), (45, .int .u64 f), (46, .pointer (some ⟨wr.heap.size, 2, none⟩)), (47, .int .u64 t), (48, .agg #[.int .i64 id, .int .i64 s, .int .i64 o, .int .u64 ep, .int .u64 f, .int .u64 t]), (49, .slice (some ⟨b49, 0, none⟩) 1 1), (50, .slice D50 (k + 1) e50), (3, .slice D3 (k + 1) e3)] (by kernel_rfl) ⟨h23, h24, h25, h26, h27, h28, h29, h30, h31, h32, h33, h34, h35, h36, h37, h38, h39, h40, h41, h42, h43, h44, h45, h46, h47, h48, h49, h50, h3, trivial⟩
        clear hst hdep h23 h24 h25 h26 h27 h28 h29 h30 h31 h32 h33 h34 h35 h36 h37 h38 h39 h40 h41 h42 h43 h44 h45 h46 h47 h48 h49 h50 h3
        subst hfr
        simp only [List.foldl_cons, List.foldl_nil, List.setIfInBounds_toArray, List.set_cons_zero, List.set_cons_succ]
        have HO3 := Lib.hid o3
        have HK3 : Hid (Below w.heap.size w u) := Lib.hid (HKX.out.trans (hS.1.below (fun j e => HOL.out j e) HWZ.out))
        clear hS hLs o3 o50 r49 w49 z49
        go_wp2_with fail
        go_roundw
        case rel =>
          refine ⟨k + 1, e3, D3, by omega, by go_num, rfl, Lib.hid ?_, HK3⟩
          rw [HNX.out, HI.out]
          exact HO3.out
        case measure => simp [intOf]; omega
    · obtain rfl : k = N := by omega
      rw [List.take_of_length_le (by rw [HN.out]; exact Nat.le_refl _)] at ho
      clear hp
      go_wp2_with fail
      go_ret
      exact ⟨D, e, rfl, ho.out, hb.out⟩
end
end

/- The law's infos, of layer 10: contract. -/
section
open Go.RowKit
set_option maxRecDepth 100000

set_option maxHeartbeats 4000000 in
theorem infos_ok (A : Option Addr) (n c : Nat) (xs : List Inf) (w : World) (hx : IR w A n xs) (hn : n ≤ 1000) :
    Calls Tryz.prog 10 #[.slice A n c] w fun e w' => ∃ B d, e = .returned (.slice B n d) ∧ w'.ownsRow w.heap.size 75 6 (.slice B n d) n (inC xs) ∧ Below w.heap.size w w' := by
  have HX := Lib.hid hx
  have HL := Lib.hid hx.len
  have kw := Lib.hid (kp_new w (.cells #[] 75))
  have HO0 : Hid ((w.alloc (.cells #[] 75)).ownsRow w.heap.size 75 6 (.slice (some ⟨w.heap.size, 0, none⟩) 0 0) 0 (inC (xs.take 0))) := Lib.hid (own_new_s w w.heap.size 6 75 0 [] rfl (Nat.le_refl _) (Nat.zero_le _))
  obtain ⟨i0, hi, hz0, hz1, hz2⟩ := info_parts rinfinfo
  clear hx
  go_enter Tryz.func10, Tryz.ntmps10
  go_wp2_with fail
  go_loopw [3, 9] (fun o i wr => ∃ (k e : Nat) (D : Option Addr), k ≤ n ∧ i = .int .i64 k ∧ o = .slice D k e ∧ Hid (wr.ownsRow w.heap.size 75 6 (.slice D k e) k (inC (xs.take k))) ∧ Hid (Below w.heap.size w wr)) (fun _ i _ => n - (intOf i).toNat)
  case atStart => exact ⟨0, 0, _, Nat.zero_le _, rfl, rfl, HO0, kw⟩
  case round =>
    obtain ⟨k, e, D, hk, rfl, rfl, ho, hb⟩ := hrel
    have hwr : w.heap.size ≤ wr.heap.size := hb.out.size
    by_cases hlt : k < n
    · have hkl : k < xs.length := by rw [HL.out]; exact hlt
      obtain ⟨ad, rfl, _, hc⟩ := HX.out.at_ hkl
      obtain ⟨x0, x1, x2, x3, x4, x5⟩ := hc wr hb.out
      have HNX := Lib.hid (inC_next xs k hkl)
      clear hc
      generalize xs[k] = hd at *
      obtain ⟨id, s, o, ep, f, t⟩ := hd
      dsimp only at x0 x1 x2 x3 x4 x5
      have HI : Hid ((⟨id, s, o, ep, f, t⟩ : Inf).cells = [.int .i64 id, .int .i64 s, .int .i64 o, .int .u64 ep, .int .u64 f, .int .u64 t]) := Lib.hid rfl
      have HO1 := Lib.hid ((ho.out.alloc (.cells #[.int .i64 id, .int .i64 s, .int .i64 o, .int .u64 ep, .int .u64 f, .int .u64 t] 61)).alloc (.cells #[.int .i64 id, .int .i64 s, .int .i64 o, .int .u64 ep, .int .u64 f, .int .u64 t] 75))
      have HSRC : Hid (Rd ((wr.alloc (.cells #[.int .i64 id, .int .i64 s, .int .i64 o, .int .u64 ep, .int .u64 f, .int .u64 t] 61)).alloc (.cells #[.int .i64 id, .int .i64 s, .int .i64 o, .int .u64 ep, .int .u64 f, .int .u64 t] 75)) (wr.heap.size + 1 + 1) (some ⟨wr.heap.size + 1, 0, none⟩) [.int .i64 id, .int .i64 s, .int .i64 o, .int .u64 ep, .int .u64 f, .int .u64 t]) := Lib.hid (by
        have h0 := Rd.new (wr.alloc (.cells #[.int .i64 id, .int .i64 s, .int .i64 o, .int .u64 ep, .int .u64 f, .int .u64 t] 61)) 75 [.int .i64 id, .int .i64 s, .int .i64 o, .int .u64 ep, .int .u64 f, .int .u64 t]
        have e0 : (wr.alloc (.cells #[.int .i64 id, .int .i64 s, .int .i64 o, .int .u64 ep, .int .u64 f, .int .u64 t] 61)).heap.size = wr.heap.size + 1 := by simp
        rw [e0] at h0
        exact h0)
      have KA := Lib.hid (kp_alloc (kp_alloc hb.out (.cells #[.int .i64 id, .int .i64 s, .int .i64 o, .int .u64 ep, .int .u64 f, .int .u64 t] 61)) (.cells #[.int .i64 id, .int .i64 s, .int .i64 o, .int .u64 ep, .int .u64 f, .int .u64 t] 75))
      have HSW := Lib.hid KA.out.size
      clear ho
      go_wp2_with (at_builtin; refine wpList_append_rds rfl _ _ _ rfl w.heap.size 75 i0 _ 6 48 Tryz.underlying39 hi hz0 hz1 hz2 rfl (by omega) _ k _ rfl HO1.out _ _ _ _ [.int .i64 id, .int .i64 s, .int .i64 o, .int .u64 ep, .int .u64 f, .int .u64 t] rfl rfl HSRC.out (by simp [Value.oneCell']) (by unfold maxLen; omega) (by omega) HSW.out ?_; intro v3 w3 hown3 hg3; obtain ⟨D3, e3, rfl, _, _⟩ := own_form_s hown3; have HO3 := Lib.hid hown3; have HK3 := Lib.hid (KA.out.trans (below_own_s HO1.out hg3 HSW.out)); clear hown3 hg3)
      go_roundw
      case rel =>
        refine ⟨k + 1, e3, D3, by omega, by go_num, rfl, Lib.hid ?_, HK3⟩
        rw [HNX.out, HI.out]
        exact HO3.out
      case measure => simp [intOf]; omega
    · obtain rfl : k = n := by omega
      rw [List.take_of_length_le (by rw [HL.out]; exact Nat.le_refl _)] at ho
      go_wp2_with fail
      go_ret
      exact ⟨D, e, rfl, ho.out, hb.out⟩
end

/- The document's layer 8: Same: contract; the calls whose answers the document fixes. -/
section
open Go.RowKit
set_option maxRecDepth 100000

set_option maxHeartbeats 4000000 in
theorem wsame_ok (A B : Option Addr) (n k c d : Nat) (xs ys : List Int) (w : World) (hx : NR w A n xs) (hy : NR w B k ys) (hn : n ≤ 1000) (hk : k ≤ 1000) (bo : Bool) (hbo : Hid (decide (xs = ys) = bo)) :
    Calls Tryz.prog 13 #[.slice A n c, .slice B k d] w fun e w' => e = .returned (.bool bo) ∧ w'.heap = w.heap ∧ Below w.heap.size w w' := by
  have HX := Lib.hid hx
  have HY := Lib.hid hy
  have hlx := hx.len
  have hly := hy.len
  clear hx hy
  by_cases hnk : n = k
  · subst hnk
    have HLX := Lib.hid hlx
    have HLY := Lib.hid hly
    clear hlx hly
    go_enter Tryz.func13, Tryz.ntmps13
    go_wp2_with fail
    go_loopw [5] (fun i wr => ∃ q : Nat, q ≤ n ∧ i = .int .i64 q ∧ Hid (∀ j (hj : j < xs.length) (hj2 : j < ys.length), j < q → xs[j] = ys[j]) ∧ Hid (wr.heap = w.heap ∧ Below w.heap.size w wr)) (fun i _ => n - (intOf i).toNat)
    case atStart => exact ⟨0, Nat.zero_le _, rfl, Lib.hid (fun j _ _ h => absurd h (Nat.not_lt_zero _)), Lib.hid ⟨rfl, Below.refl _ _⟩⟩
    case round =>
      obtain ⟨q, hq, rfl, he, hw⟩ := hrel
      by_cases hlt : q < n
      · have hqx : q < xs.length := by rw [HLX.out]; exact hlt
        have hqy : q < ys.length := by rw [HLY.out]; exact hlt
        obtain ⟨ax, rfl, _, cx⟩ := HX.out.at_ hqx
        obtain ⟨ay, rfl, _, cy⟩ := HY.out.at_ hqy
        have d1 := cx wr hw.out.2
        have d2 := cy wr hw.out.2
        clear cx cy
        have hi0 : (0 : Int) ≤ (q : Int) := by omega
        have hi1 : (q : Int) < (n : Int) := by omega
        by_cases hxy : xs[q] = ys[q]
        · have hq1 : (xs[q] == ys[q]) = true := by rw [hxy]; simp
          have he2 : Hid (∀ j (hj : j < xs.length) (hj2 : j < ys.length), j < q + 1 → xs[j] = ys[j]) := Lib.hid fun j hj hj2 hjq => by
            by_cases h : j = q
            · subst h; exact hxy
            · exact he.out j hj hj2 (by omega)
          clear he hxy
          generalize xs[q] = x at *
          generalize ys[q] = y at *
          go_wp2_with fail
          go_quiet (fail)
          go_wp2_with fail
          go_roundw
          case rel => exact ⟨q + 1, by omega, by go_num, he2, Lib.hid ⟨hw.out.1, kp_trans hw.out.2 (kp_drewN _ _)⟩⟩
          case measure => simp [intOf]; omega
        · have hq1 : (xs[q] == ys[q]) = false := by simpa using hxy
          have hb : bo = false := by
            rw [← hbo.out]
            exact decide_eq_false fun h => hxy (by subst h; rfl)
          subst hb
          clear he hxy
          generalize xs[q] = x at *
          generalize ys[q] = y at *
          go_wp2_with fail
          go_quiet (fail)
          go_wp2_with fail
          go_ret
          exact ⟨rfl, hw.out.1, kp_trans hw.out.2 (kp_drewN _ _)⟩
      · obtain rfl : q = n := by omega
        have hb : bo = true := by
          rw [← hbo.out]
          exact decide_eq_true (List.ext_getElem (by rw [HLX.out, HLY.out]) fun j h1 h2 => he.out j h1 h2 (by have := HLX.out; omega))
        subst hb
        clear he
        go_wp2_with fail
        go_ret
        exact ⟨rfl, hw.out.1, hw.out.2⟩
  · have hb : bo = false := by
      rw [← hbo.out]
      exact decide_eq_false fun h => hnk (by subst h; omega)
    subst hb
    have hne : ((n : Int) == (k : Int)) = false := by simp; omega
    clear hlx hly hbo
    go_enter Tryz.func13, Tryz.ntmps13
    go_wp2_with fail
    go_ret
    exact ⟨rfl, rfl, Below.refl _ _⟩
end

/- PoolDoes, of layer 10: the walk. -/
section
open Go.RowKit
set_option maxRecDepth 100000

def fr25 (i : Nat) : Bool := i == 2 || i == 5
abbrev Kp10 (i : Nat) (u u' : World) : Prop := fr25 i = false → Below u.heap.size u u'
def irSti (l : List Inf) : Sti Kp10 := ⟨fun v u => ∃ A n c, v = .slice A n c ∧ IR u A n l ∧ n ≤ 1000, fr25, fun _ _ _ _ hf ⟨A, n, c, h, r, z⟩ hb => ⟨A, n, c, h, r.next (hb hf), z⟩⟩
def nrSti (l : List Int) : Sti Kp10 := ⟨fun v u => ∃ A n c, v = .slice A n c ∧ NR u A n l ∧ n ≤ 1000, fr25, fun _ _ _ _ hf ⟨A, n, c, h, r, z⟩ hb => ⟨A, n, c, h, r.next (hb hf), z⟩⟩
def rwSti (m : Int) (l : List Int) : Sti Kp10 := ⟨fun v u => ∃ (rb : Nat) (S : Nat → Prop), v = .pointer (some ⟨rb, 0, none⟩) ∧ (RW rb m l).p S u, fr25, fun _ _ _ _ hf ⟨rb, S, h, r⟩ hb => ⟨rb, S, h, Thing.next r (hb hf)⟩⟩

set_option maxHeartbeats 32000000 in
theorem pooldoes_walk (mo m idl : Int) (A1 : Option Addr) (l1 c1 : Nat) (ts : List Act6) (W : World) (r1 : AZ W A1 l1 ts) :
    Calls Tryz.prog 3 #[.int .i64 mo, .int .i64 m, .int .u64 idl, .slice A1 l1 c1] W fun e w' => e = .returned (.bool true) ∧ Below W.heap.size W w' := by
  have HAW := Lib.hid (awake10_ok W)
  have R1 := Lib.hid r1
  have HN1 := Lib.hid r1.len
  clear r1
  go_enter Tryz.func3, Tryz.ntmps3
  go_wp2_with fail
  refine HAW.out.mono ?_
  rintro e w1 ⟨rfl, k1⟩
  have HK1 := Lib.hid k1
  clear HAW k1
  by_cases hbig : 100 < l1
  · have hb : (100 : Int) < (l1 : Int) := by omega
    go_wp2_with fail
    go_ret
    exact ⟨rfl, HK1.out⟩
  have hl1 : l1 ≤ 100 := by omega
  have hb : ¬ (100 : Int) < (l1 : Int) := by omega
  clear hbig
  by_cases hg : 1 ≤ mo ∧ mo ≤ 6 ∧ 0 ≤ m ∧ m ≤ 12 ∧ idl ≠ 0
  rotate_left
  · have HB := Lib.hid (ppnew_bad mo m idl w1 hg)
    have HB2 := Lib.hid (rpnew_bad mo m idl (by unfold newOk; omega) w1)
    clear hg
    go_wp2_with fail
    refine HB.out.mono ?_
    rintro e w2 ⟨rfl, rfl⟩
    clear HB
    go_wp2_with fail
    refine HB2.out.mono ?_
    rintro e w3 ⟨rfl, k3⟩
    have HK3 := Lib.hid (HK1.out.trans (k3.mono HK1.out.size))
    clear HB2 k3
    go_wp2_with fail
    go_ret
    exact ⟨rfl, HK3.out⟩
  obtain ⟨g1, g2, g3, g4, g5⟩ := hg
  have HP1 := Lib.hid (ppnew_good mo m idl w1 g1 g2 g3 g4 g5)
  have HK0 := Lib.hid (KInv.new (mo := mo) (m := m) (by omega) g3)
  have HOK : Hid (newOk mo m idl) := Lib.hid (by unfold newOk; omega)
  clear g5
  go_wp2_with fail
  refine HP1.out.mono ?_
  rintro e w2 ⟨b, S2, rfl, p2, q2, k2⟩
  have HS2 : Hid (Solo W (PP b mo idl m ⟨[], [], 0⟩) noneB w2) := Lib.hid (Solo.make HK1.out p2 q2 k2)
  have HP2 := Lib.hid (rpnew_good mo m idl HOK.out w2)
  clear p2 q2 k2 HP1 HK1 HOK
  go_wp2_with fail
  refine HP2.out.mono ?_
  rintro e w3 ⟨r, rfl, p3, k3⟩
  have HD3 : Hid (Duo W (PP b mo idl m ⟨[], [], 0⟩) (RP r mo idl m ⟨[], [], 0⟩) noneB w3) := Lib.hid (HS2.out.duo p3 (fun k h => h.1) k3)
  clear p3 k3 HP2 HS2
  go_wp2_with fail
  go_loopw [48] (fun i wr => ∃ (k : Nat) (p : Pl), k ≤ l1 ∧ i = .int .i64 k ∧ Hid (KInv mo m k p) ∧ Hid (Duo W (PP b mo idl m p) (RP r mo idl m p) noneB wr)) (fun i _ => l1 - (intOf i).toNat)
  case atStart => exact ⟨0, _, Nat.zero_le _, rfl, HK0, HD3⟩
  case round =>
    obtain ⟨k, p, hk, rfl, HK, hD⟩ := hrel
    clear HK0 HD3
    by_cases hlt : k < l1
    · have hkl : k < ts.length := by rw [HN1.out]; exact hlt
      obtain ⟨ad, rfl, _, hcc⟩ := R1.out.at_ hkl
      obtain ⟨x0, x1, x2, x3, x4, x5⟩ := hcc wr hD.out.low
      clear hcc
      generalize ts[k] = t at *
      have HKN := Lib.hid (HK.out.do (by omega) idl t)
      have hDX := hD.out.mark (.cells #[.int .i64 t.d, .int .i64 t.ss, .int .i64 t.id, .int .u64 t.ep, .int .u64 t.now, .int .u64 t.n] 33)
      have hba := heap_alloc_new wr (.cells #[.int .i64 t.d, .int .i64 t.ss, .int .i64 t.id, .int .u64 t.ep, .int .u64 t.now, .int .u64 t.n] 33)
      obtain ⟨wx, hwx⟩ : ∃ u, wr.alloc (.cells #[.int .i64 t.d, .int .i64 t.ss, .int .i64 t.id, .int .u64 t.ep, .int .u64 t.now, .int .u64 t.n] 33) = u := ⟨_, rfl⟩
      rw [hwx] at hDX hba
      obtain ⟨X, hX⟩ : ∃ X, X = wr.heap.size := ⟨_, rfl⟩
      rw [← hX] at hDX hba
      have HX := Lib.hid hX
      have HWX := Lib.hid hwx
      have HBA := Lib.hid hba
      have HDX := Lib.hid hDX
      clear hDX hba hwx hD hX
      obtain ⟨p4, hp4⟩ : ∃ y, doP mo idl m t p = y := ⟨_, rfl⟩
      obtain ⟨ta, tb, tn, ti, te, hpv⟩ : ∃ a b n i e, told6V (doT mo idl m t p) = .agg #[.int .i64 a, .int .i64 b, .int .u64 n, .bool i, .int .i64 e] := ⟨_, _, _, _, _, rfl⟩
      rw [hp4] at HKN
      have HP4 := Lib.hid hp4
      have HPV := Lib.hid hpv
      obtain ⟨S, T, h1, h2, h3, h4⟩ := HDX.out.at_
      have HSN := Lib.hid h4
      have HNN : Hid (∀ k, (k = X ∨ noneB k) → k < wx.heap.size) := Lib.hid HDX.out.nlt
      have HXN : Hid (X < wx.drew.heap.size ∧ ¬ (S X ∨ T X)) := Lib.hid ⟨HDX.out.nlt X (.inl rfl), fun h => (h4 X h).2 (.inl rfl)⟩
      have HZ : Hid (W.heap.size ≤ wx.heap.size) := Lib.hid HDX.out.low.size
      have HKX : Hid (Below W.heap.size W wx.drew) := Lib.hid HDX.out.low.drew
      have HST : Hid (MidA S T wx.heap.size (PP b mo idl m p) (PP b mo idl m p4) (RP r mo idl m p) (RP r mo idl m p4) wx.drew false false wx.drew) := Lib.hid (MidA.start (Thing.drew h1) (Thing.drew h2) h3 (Nat.le_refl _))
      have HKR : Hid (∀ i u, Kp10 i u u) := Lib.hid fun _ _ _ => Below.refl _ _
      clear hp4 hpv h1 h2 h3 h4
      go_wp2_with fail
      rw [HWX.out]
      clear HWX
      refine wp_region_specs4 (S := fun L u => MidA S T wx.heap.size (PP b mo idl m p) (PP b mo idl m p4) (RP r mo idl m p) (RP r mo idl m p4) wx.drew (L 2) (L 5) u) (Kp := Kp10) (Sp := [(52, Sti.eq (.pointer (some ⟨b, 0, none⟩))), (53, Sti.eq (.agg #[.int .i64 t.d, .int .i64 t.ss, .int .i64 t.id, .int .u64 t.ep, .int .u64 t.now, .int .u64 t.n])), (54, Sti.eq (.agg #[.int .i64 ta, .int .i64 tb, .int .u64 tn, .bool ti, .int .i64 te])), (55, Sti.eq (.pointer (some ⟨r, 0, none⟩))), (56, Sti.eq (.agg #[.int .i64 t.d, .int .i64 t.ss, .int .i64 t.id, .int .u64 t.ep, .int .u64 t.now, .int .u64 t.n])), (57, Sti.eq (.agg #[.int .i64 ta, .int .i64 tb, .int .u64 tn, .bool ti, .int .i64 te])), (58, Sti.eq (.bool false)), (59, Sti.eq (.bool false)), (60, Sti.eq (.pointer (some ⟨b, 0, none⟩))), (61, irSti (p4.l.map infoH)), (62, irSti (p4.l.map infoH)), (63, Sti.eq (.pointer (some ⟨r, 0, none⟩))), (64, irSti (p4.l.map infoH)), (65, Sti.eq (.bool true)), (66, Sti.eq (.bool false)), (67, Sti.eq (.bool false)), (68, Sti.eq (.bool false)), (69, Sti.eq (.pointer (some ⟨b, 0, none⟩))), (70, nrSti p4.row), (71, Sti.eq (.pointer (some ⟨r, 0, none⟩))), (72, Sti.eq (.pointer (some ⟨r, 0, none⟩))), (73, Sti.eq (.pointer (some ⟨r, 2, none⟩))), (74, rwSti m p4.row), (75, rwSti m p4.row), (76, rwSti m p4.row), (77, nrSti p4.row), (78, Sti.eq (.bool true)), (79, Sti.eq (.bool false)), (80, Sti.eq (.bool false))]) (by kernel_rfl) (by kernel_rfl) (by kernel_rfl) (HST.out) ?_ ?_
      · refine EachOp.cons ?_ ?_
        · intro L a u hL hst hS hdep hq
          have h9 : a.tmps.getD 9 undef = .pointer (some ⟨b, 0, none⟩) := hst.out 9 (by kernel_rfl)
          refine ⟨trivial, ?_⟩
          have g9 := gd h9
          go_simp
          exact Went4.same (HKR.out _ _) hS rfl
        refine EachOp.cons ?_ ?_
        · intro L a u hL hst hS hdep hq
          have h14 : a.tmps.getD 14 undef = .pointer (some ⟨wr.heap.size, 0, none⟩) := hst.out 14 (by kernel_rfl)
          refine ⟨trivial, ?_⟩
          have g14 := gd h14
          have hxu : u.heap[X]? = some (.cells #[.int .i64 t.d, .int .i64 t.ss, .int .i64 t.id, .int .u64 t.ep, .int .u64 t.now, .int .u64 t.n] 33) := (hS.off.block X HXN.out.1 HXN.out.2).trans HBA.out
          rw [HX.out] at hxu
          obtain ⟨y0, _⟩ := cellsAt hxu 0 (v := .int .i64 t.d) rfl
          obtain ⟨y1, _⟩ := cellsAt hxu 1 (v := .int .i64 t.ss) rfl
          obtain ⟨y2, _⟩ := cellsAt hxu 2 (v := .int .i64 t.id) rfl
          obtain ⟨y3, _⟩ := cellsAt hxu 3 (v := .int .u64 t.ep) rfl
          obtain ⟨y4, _⟩ := cellsAt hxu 4 (v := .int .u64 t.now) rfl
          obtain ⟨y5, _⟩ := cellsAt hxu 5 (v := .int .u64 t.n) rfl
          clear hxu
          go_simp
          exact Went4.same (HKR.out _ _) hS rfl
        refine EachOp.cons ?_ ?_
        · intro L a u hL hst hS hdep hq
          have h52 : a.tmps.getD 52 undef = .pointer (some ⟨b, 0, none⟩) := hdep 52 (by kernel_rfl)
          have h53 : a.tmps.getD 53 undef = .agg #[.int .i64 t.d, .int .i64 t.ss, .int .i64 t.id, .int .u64 t.ep, .int .u64 t.now, .int .u64 t.n] := hdep 53 (by kernel_rfl)
          refine ⟨trivial, ?_⟩
          have g52 := gd h52
          have g53 := gd h53
          go_simp
          have hS1 : MidA S T wx.heap.size (PP b mo idl m p) (PP b mo idl m p4) (RP r mo idl m p) (RP r mo idl m p4) wx.drew false (L 5) u := by have h := hS; simp only [hL] at h; exact h
          have h0 := dop_ok t HK.out (by omega) hS1.getl
          rw [HPV.out, HP4.out] at h0
          refine h0.mono ?_
          rintro e u' ⟨rfl, ht⟩
          obtain ⟨t1, t2⟩ := hS1.left ht
          exact Went4.next t1 (fun h => absurd h (by decide)) rfl
        refine EachOp.cons ?_ ?_
        · intro L a u hL hst hS hdep hq
          have h11 : a.tmps.getD 11 undef = .pointer (some ⟨r, 0, none⟩) := hst.out 11 (by kernel_rfl)
          refine ⟨trivial, ?_⟩
          have g11 := gd h11
          go_simp
          exact Went4.same (HKR.out _ _) hS rfl
        refine EachOp.cons ?_ ?_
        · intro L a u hL hst hS hdep hq
          have h14 : a.tmps.getD 14 undef = .pointer (some ⟨wr.heap.size, 0, none⟩) := hst.out 14 (by kernel_rfl)
          refine ⟨trivial, ?_⟩
          have g14 := gd h14
          have hxu : u.heap[X]? = some (.cells #[.int .i64 t.d, .int .i64 t.ss, .int .i64 t.id, .int .u64 t.ep, .int .u64 t.now, .int .u64 t.n] 33) := (hS.off.block X HXN.out.1 HXN.out.2).trans HBA.out
          rw [HX.out] at hxu
          obtain ⟨y0, _⟩ := cellsAt hxu 0 (v := .int .i64 t.d) rfl
          obtain ⟨y1, _⟩ := cellsAt hxu 1 (v := .int .i64 t.ss) rfl
          obtain ⟨y2, _⟩ := cellsAt hxu 2 (v := .int .i64 t.id) rfl
          obtain ⟨y3, _⟩ := cellsAt hxu 3 (v := .int .u64 t.ep) rfl
          obtain ⟨y4, _⟩ := cellsAt hxu 4 (v := .int .u64 t.now) rfl
          obtain ⟨y5, _⟩ := cellsAt hxu 5 (v := .int .u64 t.n) rfl
          clear hxu
          go_simp
          exact Went4.same (HKR.out _ _) hS rfl
        refine EachOp.cons ?_ ?_
        · intro L a u hL hst hS hdep hq
          have h55 : a.tmps.getD 55 undef = .pointer (some ⟨r, 0, none⟩) := hdep 55 (by kernel_rfl)
          have h56 : a.tmps.getD 56 undef = .agg #[.int .i64 t.d, .int .i64 t.ss, .int .i64 t.id, .int .u64 t.ep, .int .u64 t.now, .int .u64 t.n] := hdep 56 (by kernel_rfl)
          refine ⟨trivial, ?_⟩
          have g55 := gd h55
          have g56 := gd h56
          go_simp
          have hS1 : MidA S T wx.heap.size (PP b mo idl m p) (PP b mo idl m p4) (RP r mo idl m p) (RP r mo idl m p4) wx.drew (L 2) false u := by have h := hS; simp only [hL] at h; exact h
          have h0 := ownp_ok t hS1.getr
          rw [HPV.out, HP4.out] at h0
          refine h0.mono ?_
          rintro e u' ⟨rfl, ht⟩
          obtain ⟨t1, t2⟩ := hS1.right ht
          exact Went4.next t1 (fun h => absurd h (by decide)) rfl
        refine EachOp.cons ?_ ?_
        · intro L a u hL hst hS hdep hq
          have h54 : a.tmps.getD 54 undef = .agg #[.int .i64 ta, .int .i64 tb, .int .u64 tn, .bool ti, .int .i64 te] := hdep 54 (by kernel_rfl)
          have h57 : a.tmps.getD 57 undef = .agg #[.int .i64 ta, .int .i64 tb, .int .u64 tn, .bool ti, .int .i64 te] := hdep 57 (by kernel_rfl)
          refine ⟨trivial, ?_⟩
          have g54 := gd h54
          have g57 := gd h57
          go_simp
          exact Went4.same (HKR.out _ _) hS rfl
        refine EachOp.cons ?_ ?_
        · intro L a u hL hst hS hdep hq
          have h58 : a.tmps.getD 58 undef = .bool false := hdep 58 (by kernel_rfl)
          refine ⟨trivial, ?_⟩
          have g58 := gd h58
          go_simp
          exact Went4.same (HKR.out _ _) hS rfl
        refine EachOp.cons ?_ ?_
        · intro L a u hL hst hS hdep hq
          have h9 : a.tmps.getD 9 undef = .pointer (some ⟨b, 0, none⟩) := hst.out 9 (by kernel_rfl)
          have h59 : a.tmps.getD 59 undef = .bool false := hdep 59 (by kernel_rfl)
          refine ⟨⟨59, by kernel_rfl, h59⟩, ?_⟩
          clear h59
          have g9 := gd h9
          go_simp
          exact Went4.same (HKR.out _ _) hS rfl
        refine EachOp.cons ?_ ?_
        · intro L a u hL hst hS hdep hq
          have h60 : a.tmps.getD 60 undef = .pointer (some ⟨b, 0, none⟩) := hdep 60 (by kernel_rfl)
          have h59 : a.tmps.getD 59 undef = .bool false := hdep 59 (by kernel_rfl)
          refine ⟨⟨59, by kernel_rfl, h59⟩, ?_⟩
          clear h59
          have g60 := gd h60
          have e2 : L 2 = true := hq 20 2 (by kernel_rfl)
          have e5 : L 5 = true := hq 20 5 (by kernel_rfl)
          have hSd : MidA S T wx.heap.size (PP b mo idl m p) (PP b mo idl m p4) (RP r mo idl m p) (RP r mo idl m p4) wx.drew true true u := by have h := hS; simp only [e2, e5] at h; exact h
          obtain ⟨_, _, S9, T9, _, _, hx9, hy9, _⟩ := hSd
          have hpp : (PP b mo idl m p4).p S9 u := hx9
          clear hx9 hy9 e2 e5
          go_simp
          refine (pconns_ok hpp).mono ?_
          rintro e u' ⟨A, n, c, rfl, ho, hn, hb⟩
          exact Went4.next (hS.next hb) (fun _ => hb) ⟨A, n, c, rfl, IR.of_own ho, by omega⟩
        refine EachOp.cons ?_ ?_
        · intro L a u hL hst hS hdep hq
          obtain ⟨A61, n61, c61, h61, r61, z61⟩ := hdep 61 (by kernel_rfl)
          have h59 : a.tmps.getD 59 undef = .bool false := hdep 59 (by kernel_rfl)
          refine ⟨⟨59, by kernel_rfl, h59⟩, ?_⟩
          clear h59
          have g61 := gd h61
          go_simp
          refine (infos_ok A61 n61 c61 _ u r61 z61).mono ?_
          rintro e u' ⟨A, c, rfl, ho, hb⟩
          exact Went4.next (hS.next hb) (fun _ => hb) ⟨A, n61, c, rfl, IR.of_own ho, z61⟩
        refine EachOp.cons ?_ ?_
        · intro L a u hL hst hS hdep hq
          have h11 : a.tmps.getD 11 undef = .pointer (some ⟨r, 0, none⟩) := hst.out 11 (by kernel_rfl)
          have h59 : a.tmps.getD 59 undef = .bool false := hdep 59 (by kernel_rfl)
          refine ⟨⟨59, by kernel_rfl, h59⟩, ?_⟩
          clear h59
          have g11 := gd h11
          go_simp
          exact Went4.same (HKR.out _ _) hS rfl
        refine EachOp.cons ?_ ?_
        · intro L a u hL hst hS hdep hq
          have h63 : a.tmps.getD 63 undef = .pointer (some ⟨r, 0, none⟩) := hdep 63 (by kernel_rfl)
          have h59 : a.tmps.getD 59 undef = .bool false := hdep 59 (by kernel_rfl)
          refine ⟨⟨59, by kernel_rfl, h59⟩, ?_⟩
          clear h59
          have g63 := gd h63
          have e2 : L 2 = true := hq 20 2 (by kernel_rfl)
          have e5 : L 5 = true := hq 20 5 (by kernel_rfl)
          have hSd : MidA S T wx.heap.size (PP b mo idl m p) (PP b mo idl m p4) (RP r mo idl m p) (RP r mo idl m p4) wx.drew true true u := by have h := hS; simp only [e2, e5] at h; exact h
          obtain ⟨_, _, S9, T9, _, _, hx9, hy9, _⟩ := hSd
          have hrp : (RP r mo idl m p4).p T9 u := hy9
          clear hx9 hy9 e2 e5
          go_simp
          refine (rconns_ok hrp).mono ?_
          rintro e u' ⟨A, c, rfl, ho, hb⟩
          exact Went4.next (hS.next hb) (fun _ => hb) ⟨A, p4.l.length, c, rfl, IR.of_own ho, by have := HKN.out.inv.few; omega⟩
        refine EachOp.cons ?_ ?_
        · intro L a u hL hst hS hdep hq
          obtain ⟨A62, n62, c62, h62, r62, z62⟩ := hdep 62 (by kernel_rfl)
          obtain ⟨A64, n64, c64, h64, r64, z64⟩ := hdep 64 (by kernel_rfl)
          have h59 : a.tmps.getD 59 undef = .bool false := hdep 59 (by kernel_rfl)
          refine ⟨⟨59, by kernel_rfl, h59⟩, ?_⟩
          clear h59
          have g62 := gd h62
          have g64 := gd h64
          go_simp
          refine (rsame10_ok A62 A64 n62 n64 c62 c64 _ _ u r62 r64 z62 z64 true (Lib.hid (by simp))).mono ?_
          rintro e u' ⟨rfl, hb⟩
          exact Went4.next (hS.next hb) (fun _ => hb) rfl
        refine EachOp.cons ?_ ?_
        · intro L a u hL hst hS hdep hq
          have h65 : a.tmps.getD 65 undef = .bool true := hdep 65 (by kernel_rfl)
          have h59 : a.tmps.getD 59 undef = .bool false := hdep 59 (by kernel_rfl)
          refine ⟨⟨59, by kernel_rfl, h59⟩, ?_⟩
          clear h59
          have g65 := gd h65
          go_simp
          exact Went4.same (HKR.out _ _) hS rfl
        refine EachOp.cons ?_ ?_
        · intro L a u hL hst hS hdep hq
          have h59 : a.tmps.getD 59 undef = .bool false := hdep 59 (by kernel_rfl)
          have h66 : a.tmps.getD 66 undef = .bool false := hdep 66 (by kernel_rfl)
          refine ⟨trivial, ?_⟩
          have g59 := gd h59
          have g66 := gd h66
          go_simp
          exact Went4.same (HKR.out _ _) hS rfl
        refine EachOp.cons ?_ ?_
        · intro L a u hL hst hS hdep hq
          have h67 : a.tmps.getD 67 undef = .bool false := hdep 67 (by kernel_rfl)
          refine ⟨trivial, ?_⟩
          have g67 := gd h67
          go_simp
          exact Went4.same (HKR.out _ _) hS rfl
        refine EachOp.cons ?_ ?_
        · intro L a u hL hst hS hdep hq
          have h9 : a.tmps.getD 9 undef = .pointer (some ⟨b, 0, none⟩) := hst.out 9 (by kernel_rfl)
          have h68 : a.tmps.getD 68 undef = .bool false := hdep 68 (by kernel_rfl)
          refine ⟨⟨68, by kernel_rfl, h68⟩, ?_⟩
          clear h68
          have g9 := gd h9
          go_simp
          exact Went4.same (HKR.out _ _) hS rfl
        refine EachOp.cons ?_ ?_
        · intro L a u hL hst hS hdep hq
          have h69 : a.tmps.getD 69 undef = .pointer (some ⟨b, 0, none⟩) := hdep 69 (by kernel_rfl)
          have h68 : a.tmps.getD 68 undef = .bool false := hdep 68 (by kernel_rfl)
          refine ⟨⟨68, by kernel_rfl, h68⟩, ?_⟩
          clear h68
          have g69 := gd h69
          have e2 : L 2 = true := hq 20 2 (by kernel_rfl)
          have e5 : L 5 = true := hq 20 5 (by kernel_rfl)
          have hSd : MidA S T wx.heap.size (PP b mo idl m p) (PP b mo idl m p4) (RP r mo idl m p) (RP r mo idl m p4) wx.drew true true u := by have h := hS; simp only [e2, e5] at h; exact h
          obtain ⟨_, _, S9, T9, _, _, hx9, hy9, _⟩ := hSd
          have hpp : (PP b mo idl m p4).p S9 u := hx9
          clear hx9 hy9 e2 e5
          go_simp
          refine (pwaiting_own hpp).mono ?_
          rintro e u' ⟨A, n, c, rfl, ho, hn, hb⟩
          exact Went4.next (hS.next hb) (fun _ => hb) ⟨A, n, c, rfl, NR.of_own ho, by omega⟩
        refine EachOp.cons ?_ ?_
        · intro L a u hL hst hS hdep hq
          have h11 : a.tmps.getD 11 undef = .pointer (some ⟨r, 0, none⟩) := hst.out 11 (by kernel_rfl)
          have h68 : a.tmps.getD 68 undef = .bool false := hdep 68 (by kernel_rfl)
          refine ⟨⟨68, by kernel_rfl, h68⟩, ?_⟩
          clear h68
          have g11 := gd h11
          go_simp
          exact Went4.same (HKR.out _ _) hS rfl
        refine EachOp.cons ?_ ?_
        · intro L a u hL hst hS hdep hq
          have h71 : a.tmps.getD 71 undef = .pointer (some ⟨r, 0, none⟩) := hdep 71 (by kernel_rfl)
          have h68 : a.tmps.getD 68 undef = .bool false := hdep 68 (by kernel_rfl)
          refine ⟨⟨68, by kernel_rfl, h68⟩, ?_⟩
          clear h68
          have g71 := gd h71
          go_simp
          exact Went4.same (HKR.out _ _) hS rfl
        refine EachOp.cons ?_ ?_
        · intro L a u hL hst hS hdep hq
          have h72 : a.tmps.getD 72 undef = .pointer (some ⟨r, 0, none⟩) := hdep 72 (by kernel_rfl)
          have h68 : a.tmps.getD 68 undef = .bool false := hdep 68 (by kernel_rfl)
          refine ⟨⟨68, by kernel_rfl, h68⟩, ?_⟩
          clear h68
          have g72 := gd h72
          go_simp
          exact Went4.same (HKR.out _ _) hS rfl
        refine EachOp.cons ?_ ?_
        · intro L a u hL hst hS hdep hq
          have h73 : a.tmps.getD 73 undef = .pointer (some ⟨r, 2, none⟩) := hdep 73 (by kernel_rfl)
          have h68 : a.tmps.getD 68 undef = .bool false := hdep 68 (by kernel_rfl)
          refine ⟨⟨68, by kernel_rfl, h68⟩, ?_⟩
          clear h68
          have g73 := gd h73
          have e2 : L 2 = true := hq 20 2 (by kernel_rfl)
          have e5 : L 5 = true := hq 20 5 (by kernel_rfl)
          have hSd : MidA S T wx.heap.size (PP b mo idl m p) (PP b mo idl m p4) (RP r mo idl m p) (RP r mo idl m p4) wx.drew true true u := by have h := hS; simp only [e2, e5] at h; exact h
          obtain ⟨_, _, S9, T9, _, _, hx9, hy9, _⟩ := hSd
          have hrp : (RP r mo idl m p4).p T9 u := hy9
          clear hx9 hy9 e2 e5
          obtain ⟨rb, SR, hu⟩ := RP.roww hrp
          obtain ⟨q2, hrw, _⟩ := hu u (Below.refl _ _)
          clear hu hrp
          go_simp
          exact Went4.same (HKR.out _ _) hS ⟨rb, SR, rfl, hrw⟩
        refine EachOp.cons ?_ ?_
        · intro L a u hL hst hS hdep hq
          obtain ⟨rb74, S74, h74, r74⟩ := hdep 74 (by kernel_rfl)
          have h68 : a.tmps.getD 68 undef = .bool false := hdep 68 (by kernel_rfl)
          refine ⟨⟨68, by kernel_rfl, h68⟩, ?_⟩
          clear h68
          have g74 := gd h74
          go_simp
          exact Went4.same (HKR.out _ _) hS ⟨rb74, S74, rfl, r74⟩
        refine EachOp.cons ?_ ?_
        · intro L a u hL hst hS hdep hq
          obtain ⟨rb75, S75, h75, r75⟩ := hdep 75 (by kernel_rfl)
          have h68 : a.tmps.getD 68 undef = .bool false := hdep 68 (by kernel_rfl)
          refine ⟨⟨68, by kernel_rfl, h68⟩, ?_⟩
          clear h68
          have g75 := gd h75
          go_simp
          exact Went4.same (HKR.out _ _) hS ⟨rb75, S75, rfl, r75⟩
        refine EachOp.cons ?_ ?_
        · intro L a u hL hst hS hdep hq
          obtain ⟨rb76, S76, h76, r76⟩ := hdep 76 (by kernel_rfl)
          have h68 : a.tmps.getD 68 undef = .bool false := hdep 68 (by kernel_rfl)
          refine ⟨⟨68, by kernel_rfl, h68⟩, ?_⟩
          clear h68
          have g76 := gd h76
          obtain ⟨A, n, c, hb7, hx7, _⟩ := RW.at_ r76
          obtain ⟨q0, _⟩ := cellsAt hb7 0 (v := .slice A n c) rfl
          clear hb7
          go_simp
          exact Went4.same (HKR.out _ _) hS ⟨A, n, c, rfl, hx7.nr, by have := hx7.nr.len; have := HKN.out.inv.room; omega⟩
        refine EachOp.cons ?_ ?_
        · intro L a u hL hst hS hdep hq
          obtain ⟨A70, n70, c70, h70, r70, z70⟩ := hdep 70 (by kernel_rfl)
          obtain ⟨A77, n77, c77, h77, r77, z77⟩ := hdep 77 (by kernel_rfl)
          have h68 : a.tmps.getD 68 undef = .bool false := hdep 68 (by kernel_rfl)
          refine ⟨⟨68, by kernel_rfl, h68⟩, ?_⟩
          clear h68
          have g70 := gd h70
          have g77 := gd h77
          go_simp
          refine (wsame_ok A70 A77 n70 n77 c70 c77 _ _ u r70 r77 z70 z77 true (Lib.hid (by simp))).mono ?_
          rintro e u' ⟨rfl, _, hb⟩
          exact Went4.next (hS.next hb) (fun _ => hb) rfl
        refine EachOp.cons ?_ ?_
        · intro L a u hL hst hS hdep hq
          have h78 : a.tmps.getD 78 undef = .bool true := hdep 78 (by kernel_rfl)
          have h68 : a.tmps.getD 68 undef = .bool false := hdep 68 (by kernel_rfl)
          refine ⟨⟨68, by kernel_rfl, h68⟩, ?_⟩
          clear h68
          have g78 := gd h78
          go_simp
          exact Went4.same (HKR.out _ _) hS rfl
        refine EachOp.cons ?_ ?_
        · intro L a u hL hst hS hdep hq
          have h68 : a.tmps.getD 68 undef = .bool false := hdep 68 (by kernel_rfl)
          have h79 : a.tmps.getD 79 undef = .bool false := hdep 79 (by kernel_rfl)
          refine ⟨trivial, ?_⟩
          have g68 := gd h68
          have g79 := gd h79
          go_simp
          exact Went4.same (HKR.out _ _) hS rfl
        exact EachOp.nil
      · intro L a u hLs hst hS hdep
        have h52 : a.tmps.getD 52 undef = .pointer (some ⟨b, 0, none⟩) := hdep 52 (by kernel_rfl)
        have h53 : a.tmps.getD 53 undef = .agg #[.int .i64 t.d, .int .i64 t.ss, .int .i64 t.id, .int .u64 t.ep, .int .u64 t.now, .int .u64 t.n] := hdep 53 (by kernel_rfl)
        have h54 : a.tmps.getD 54 undef = .agg #[.int .i64 ta, .int .i64 tb, .int .u64 tn, .bool ti, .int .i64 te] := hdep 54 (by kernel_rfl)
        have h55 : a.tmps.getD 55 undef = .pointer (some ⟨r, 0, none⟩) := hdep 55 (by kernel_rfl)
        have h56 : a.tmps.getD 56 undef = .agg #[.int .i64 t.d, .int .i64 t.ss, .int .i64 t.id, .int .u64 t.ep, .int .u64 t.now, .int .u64 t.n] := hdep 56 (by kernel_rfl)
        have h57 : a.tmps.getD 57 undef = .agg #[.int .i64 ta, .int .i64 tb, .int .u64 tn, .bool ti, .int .i64 te] := hdep 57 (by kernel_rfl)
        have h58 : a.tmps.getD 58 undef = .bool false := hdep 58 (by kernel_rfl)
        have h59 : a.tmps.getD 59 undef = .bool false := hdep 59 (by kernel_rfl)
        have h60 : a.tmps.getD 60 undef = .pointer (some ⟨b, 0, none⟩) := hdep 60 (by kernel_rfl)
        obtain ⟨A61, n61, c61, h61, r61, z61⟩ := hdep 61 (by kernel_rfl)
        obtain ⟨A62, n62, c62, h62, r62, z62⟩ := hdep 62 (by kernel_rfl)
        have h63 : a.tmps.getD 63 undef = .pointer (some ⟨r, 0, none⟩) := hdep 63 (by kernel_rfl)
        obtain ⟨A64, n64, c64, h64, r64, z64⟩ := hdep 64 (by kernel_rfl)
        have h65 : a.tmps.getD 65 undef = .bool true := hdep 65 (by kernel_rfl)
        have h66 : a.tmps.getD 66 undef = .bool false := hdep 66 (by kernel_rfl)
        have h67 : a.tmps.getD 67 undef = .bool false := hdep 67 (by kernel_rfl)
        have h68 : a.tmps.getD 68 undef = .bool false := hdep 68 (by kernel_rfl)
        have h69 : a.tmps.getD 69 undef = .pointer (some ⟨b, 0, none⟩) := hdep 69 (by kernel_rfl)
        obtain ⟨A70, n70, c70, h70, r70, z70⟩ := hdep 70 (by kernel_rfl)
        have h71 : a.tmps.getD 71 undef = .pointer (some ⟨r, 0, none⟩) := hdep 71 (by kernel_rfl)
        have h72 : a.tmps.getD 72 undef = .pointer (some ⟨r, 0, none⟩) := hdep 72 (by kernel_rfl)
        have h73 : a.tmps.getD 73 undef = .pointer (some ⟨r, 2, none⟩) := hdep 73 (by kernel_rfl)
        obtain ⟨rb74, S74, h74, r74⟩ := hdep 74 (by kernel_rfl)
        obtain ⟨rb75, S75, h75, r75⟩ := hdep 75 (by kernel_rfl)
        obtain ⟨rb76, S76, h76, r76⟩ := hdep 76 (by kernel_rfl)
        obtain ⟨A77, n77, c77, h77, r77, z77⟩ := hdep 77 (by kernel_rfl)
        have h78 : a.tmps.getD 78 undef = .bool true := hdep 78 (by kernel_rfl)
        have h79 : a.tmps.getD 79 undef = .bool false := hdep 79 (by kernel_rfl)
        have h80 : a.tmps.getD 80 undef = .bool false := hdep 80 (by kernel_rfl)
        have hfr := hst.frame [(52, .pointer (some ⟨b, 0, none⟩)), (53, .agg #[.int .i64 t.d, .int .i64 t.ss, .int .i64 t.id, .int .u64 t.ep, .int .u64 t.now, .int .u64 t.n]), (54, .agg #[.int .i64 ta, .int .i64 tb, .int .u64 tn, .bool ti, .int .i64 te]), (55, .pointer (some ⟨r, 0, none⟩)), (56, .agg #[.int .i64 t.d, .int .i64 t.ss, .int .i64 t.id, .int .u64 t.ep, .int .u64 t.now, .int .u64 t.n]), (57, .agg #[.int .i64 ta, .int .i64 tb, .int .u64 tn, .bool ti, .int .i64 te]), (58, .bool false), (59, .bool false), (60, .pointer (some ⟨b, 0, none⟩)), (61, .slice A61 n61 c61), (62, .slice A62 n62 c62), (63, .pointer (some ⟨r, 0, none⟩)), (64, .slice A64 n64 c64), (65, .bool true), (66, .bool false), (67, .bool false), (68, .bool false), (69, .pointer (some ⟨b, 0, none⟩)), (70, .slice A70 n70 c70), (71, .pointer (some ⟨r, 0, none⟩)), (72, .pointer (some ⟨r, 0, none⟩)), (73, .pointer (some ⟨r, 2, none⟩)), (74, .pointer (some ⟨rb74, 0, none⟩)), (75, .pointer (some ⟨rb75, 0, none⟩)), (76, .pointer (some ⟨rb76, 0, none⟩)), (77, .slice A77 n77 c77), (78, .bool true), (79, .bool false), (80, .bool false)] (by kernel_rfl) ⟨h52, h53, h54, h55, h56, h57, h58, h59, h60, h61, h62, h63, h64, h65, h66, h67, h68, h69, h70, h71, h72, h73, h74, h75, h76, h77, h78, h79, h80, trivial⟩
        clear hst hdep h52 h53 h54 h55 h56 h57 h58 h59 h60 h61 h62 h63 h64 h65 h66 h67 h68 h69 h70 h71 h72 h73 h74 h75 h76 h77 h78 h79 h80
        subst hfr
        simp only [List.foldl_cons, List.foldl_nil, List.setIfInBounds_toArray, List.set_cons_zero, List.set_cons_succ]
        have hlp := hLs 2 (by kernel_rfl)
        have hlr := hLs 5 (by kernel_rfl)
        have hS3 : MidA S T wx.heap.size (PP b mo idl m p) (PP b mo idl m p4) (RP r mo idl m p) (RP r mo idl m p4) wx.drew true true u := by have h := hS; simp only [hlp, hlr] at h; exact h
        have HDY : Hid (Duo W (PP b mo idl m p4) (RP r mo idl m p4) noneB u) := Lib.hid ((hS3.done HSN.out HNN.out HZ.out HKX.out).less fun _ h => .inr h)
        clear hS3 hlp hlr hS hLs HST HXN HSN HNN HZ HKX HDX HPV HBA
        go_wp2_with fail
        go_roundw
        case rel => exact ⟨k + 1, p4, by omega, by go_num, HKN, HDY⟩
        case measure => simp [intOf]; omega
    · have HLW := Lib.hid hD.out.low
      clear hD
      go_wp2_with fail
      go_ret
      exact ⟨rfl, HLW.out⟩
end
end Go.Proofs.YtkbaljdpnopbmaaGreat
