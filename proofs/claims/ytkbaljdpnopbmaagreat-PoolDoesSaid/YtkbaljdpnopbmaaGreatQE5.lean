/-
  Contracts and plain functions that the law stands on, part 5 of 6.
-/
import Derived.Test.YtkbaljdpnopbmaaGreatQE4
import Derived.ProofKit
import Derived.OpenShut
import Derived.JoinedCond
import Derived.Deep.Slices
import Derived.Lib.SmallJoins
import Derived.SizedLaws
namespace Go.Proofs.YtkbaljdpnopbmaaGreat
/- An act on a pool, the project's: contract. -/
section
open Go.RowKit
set_option maxRecDepth 100000

section
variable {b : Nat} {mo idl m : Int} {k : Nat} {p : Pl} {S : Nat → Prop} {w : World}
set_option maxHeartbeats 8000000 in
theorem dop_ok (t : Act6) (hk : KInv mo m k p) (h1000 : k ≤ 1000) (h : (PP b mo idl m p).p S w) :
    Calls Tryz.prog 7 #[.pointer (some ⟨b, 0, none⟩), .agg #[.int .i64 t.d, .int .i64 t.ss, .int .i64 t.id, .int .u64 t.ep, .int .u64 t.now, .int .u64 t.n]] w fun e w' => e = .returned (told6V (doT mo idl m t p)) ∧ Turn (PP b mo idl m (doP mo idl m t p)) S w w' := by
  have HW : Hid (∀ o1 o2 o3, (PP b mo idl m p).p S (((w.alloc o1).alloc o2).alloc o3)) := Lib.hid fun o1 o2 o3 => Thing.next h (kp_alloc (kp_alloc (kp_alloc (Below.refl _ w) o1) o2) o3)
  have H := Lib.hid h
  clear h
  obtain ⟨d, ss, id, ep, now, n⟩ := t
  dsimp only
  by_cases h0 : d = 0
  · subst h0
    have hA : doT mo idl m ⟨0, ss, id, ep, now, n⟩ p = ⟨(acqP mo m ss ep now p).2.1, 0, 0, false, (acqP mo m ss ep now p).2.2⟩ := rfl
    have hC : doP mo idl m ⟨0, ss, id, ep, now, n⟩ p = (acqP mo m ss ep now p).1 := rfl
    rw [hA, hC]
    clear hA hC 
    have HC : Hid (∀ o1 o2 o3, Calls Tryz.prog _ _ (((w.alloc o1).alloc o2).alloc o3) _) := Lib.hid fun o1 o2 o3 => pacq_ok ss ep now hk h1000 (HW.out o1 o2 o3)
    generalize (acqP mo m ss ep now p).2.1 = va at *
    generalize (acqP mo m ss ep now p).2.2 = ve at *
    go_enter Tryz.func7, Tryz.ntmps7
    go_wp2_with fail
    refine (HC.out _ _ _).mono ?_
    rintro e w4 ⟨rfl, ht⟩
    obtain ⟨_, b1, b2⟩ := loc3 ht ((PP b mo idl m p).lt H.out)
    obtain ⟨m0, z0⟩ := cellsAt b1 0 (v := .int .i64 0) rfl
    obtain ⟨q0, y0⟩ := cellsAt b2 0 (v := .int .i64 0) rfl
    obtain ⟨m1, z1⟩ := cellsAt b1 1 (v := .int .i64 0) rfl
    obtain ⟨q1, y1⟩ := cellsAt b2 1 (v := .int .i64 0) rfl
    obtain ⟨m2, z2⟩ := cellsAt b1 2 (v := .int .u64 0) rfl
    obtain ⟨q2, y2⟩ := cellsAt b2 2 (v := .int .u64 0) rfl
    obtain ⟨m3, z3⟩ := cellsAt b1 3 (v := .bool false) rfl
    obtain ⟨q3, y3⟩ := cellsAt b2 3 (v := .bool false) rfl
    obtain ⟨m4, z4⟩ := cellsAt b1 4 (v := .int .i64 0) rfl
    obtain ⟨q4, y4⟩ := cellsAt b2 4 (v := .int .i64 0) rfl
    have HT := Lib.hid ht
    clear ht b1 b2 HW HC
    go_wp2_with fail
    refine bodyPost_ret (v := told6V ⟨va, 0, 0, false, ve⟩) ?_ rfl ⟨rfl, turn3 H.out HT.out ((((((((Off.refl (fun k => w.heap.size ≤ k ∧ k < w.heap.size + 3) _).setCell (.inl ⟨by simp; omega, by simp⟩) _).setCell (.inl ⟨by simp; omega, by simp⟩) _).setCell (p := ⟨w.heap.size + 1, 0, none⟩) (.inl ⟨Nat.le_succ _, by show w.heap.size + 1 < w.heap.size + 3; omega⟩) _).setCell (p := ⟨w.heap.size + 1, 1, none⟩) (.inl ⟨Nat.le_succ _, by show w.heap.size + 1 < w.heap.size + 3; omega⟩) _).setCell (p := ⟨w.heap.size + 1, 2, none⟩) (.inl ⟨Nat.le_succ _, by show w.heap.size + 1 < w.heap.size + 3; omega⟩) _).setCell (p := ⟨w.heap.size + 1, 3, none⟩) (.inl ⟨Nat.le_succ _, by show w.heap.size + 1 < w.heap.size + 3; omega⟩) _).setCell (p := ⟨w.heap.size + 1, 4, none⟩) (.inl ⟨Nat.le_succ _, by show w.heap.size + 1 < w.heap.size + 3; omega⟩) _)⟩
    rw [results_cell1 rfl]
    unfold told6V
    go_simp
  · have e0 : (d == 0) = false := by simpa using h0
    by_cases h1 : d = 1
    · subst h1
      have hA : doT mo idl m ⟨1, ss, id, ep, now, n⟩ p = ⟨(serveP mo ep now p).2.1, (serveP mo ep now p).2.2.1, 0, (serveP mo ep now p).2.2.2, 0⟩ := rfl
      have hC : doP mo idl m ⟨1, ss, id, ep, now, n⟩ p = (serveP mo ep now p).1 := rfl
      rw [hA, hC]
      clear hA hC h0
      have HC : Hid (∀ o1 o2 o3, Calls Tryz.prog _ _ (((w.alloc o1).alloc o2).alloc o3) _) := Lib.hid fun o1 o2 o3 => pserve_ok ep now hk h1000 (HW.out o1 o2 o3)
      generalize (serveP mo ep now p).2.1 = va at *
      generalize (serveP mo ep now p).2.2.1 = vb at *
      generalize (serveP mo ep now p).2.2.2 = vi at *
      go_enter Tryz.func7, Tryz.ntmps7
      go_wp2_with fail
      refine (HC.out _ _ _).mono ?_
      rintro e w4 ⟨rfl, ht⟩
      obtain ⟨_, b1, b2⟩ := loc3 ht ((PP b mo idl m p).lt H.out)
      obtain ⟨m0, z0⟩ := cellsAt b1 0 (v := .int .i64 0) rfl
      obtain ⟨q0, y0⟩ := cellsAt b2 0 (v := .int .i64 0) rfl
      obtain ⟨m1, z1⟩ := cellsAt b1 1 (v := .int .i64 0) rfl
      obtain ⟨q1, y1⟩ := cellsAt b2 1 (v := .int .i64 0) rfl
      obtain ⟨m2, z2⟩ := cellsAt b1 2 (v := .int .u64 0) rfl
      obtain ⟨q2, y2⟩ := cellsAt b2 2 (v := .int .u64 0) rfl
      obtain ⟨m3, z3⟩ := cellsAt b1 3 (v := .bool false) rfl
      obtain ⟨q3, y3⟩ := cellsAt b2 3 (v := .bool false) rfl
      obtain ⟨m4, z4⟩ := cellsAt b1 4 (v := .int .i64 0) rfl
      obtain ⟨q4, y4⟩ := cellsAt b2 4 (v := .int .i64 0) rfl
      have HT := Lib.hid ht
      clear ht b1 b2 HW HC
      go_wp2_with fail
      refine bodyPost_ret (v := told6V ⟨va, vb, 0, vi, 0⟩) ?_ rfl ⟨rfl, turn3 H.out HT.out (((((((((Off.refl (fun k => w.heap.size ≤ k ∧ k < w.heap.size + 3) _).setCell (.inl ⟨by simp; omega, by simp⟩) _).setCell (.inl ⟨by simp; omega, by simp⟩) _).setCell (.inl ⟨by simp; omega, by simp⟩) _).setCell (p := ⟨w.heap.size + 1, 0, none⟩) (.inl ⟨Nat.le_succ _, by show w.heap.size + 1 < w.heap.size + 3; omega⟩) _).setCell (p := ⟨w.heap.size + 1, 1, none⟩) (.inl ⟨Nat.le_succ _, by show w.heap.size + 1 < w.heap.size + 3; omega⟩) _).setCell (p := ⟨w.heap.size + 1, 2, none⟩) (.inl ⟨Nat.le_succ _, by show w.heap.size + 1 < w.heap.size + 3; omega⟩) _).setCell (p := ⟨w.heap.size + 1, 3, none⟩) (.inl ⟨Nat.le_succ _, by show w.heap.size + 1 < w.heap.size + 3; omega⟩) _).setCell (p := ⟨w.heap.size + 1, 4, none⟩) (.inl ⟨Nat.le_succ _, by show w.heap.size + 1 < w.heap.size + 3; omega⟩) _)⟩
      rw [results_cell1 rfl]
      unfold told6V
      go_simp
    · have e1 : (d == 1) = false := by simpa using h1
      by_cases h2 : d = 2
      · subst h2
        have hA : doT mo idl m ⟨2, ss, id, ep, now, n⟩ p = ⟨0, 0, 0, decide (0 ≤ atW ss p.row), 0⟩ := rfl
        have hC : doP mo idl m ⟨2, ss, id, ep, now, n⟩ p = { p with row := dropW ss p.row } := rfl
        rw [hA, hC]
        clear hA hC h0 h1
        have HC : Hid (∀ o1 o2 o3, Calls Tryz.prog _ _ (((w.alloc o1).alloc o2).alloc o3) _) := Lib.hid fun o1 o2 o3 => pleave_ok ss (HW.out o1 o2 o3)
        generalize decide (0 ≤ atW ss p.row) = vi at *
        go_enter Tryz.func7, Tryz.ntmps7
        go_wp2_with fail
        refine (HC.out _ _ _).mono ?_
        rintro e w4 ⟨rfl, ht⟩
        obtain ⟨_, b1, b2⟩ := loc3 ht ((PP b mo idl m p).lt H.out)
        obtain ⟨m0, z0⟩ := cellsAt b1 0 (v := .int .i64 0) rfl
        obtain ⟨q0, y0⟩ := cellsAt b2 0 (v := .int .i64 0) rfl
        obtain ⟨m1, z1⟩ := cellsAt b1 1 (v := .int .i64 0) rfl
        obtain ⟨q1, y1⟩ := cellsAt b2 1 (v := .int .i64 0) rfl
        obtain ⟨m2, z2⟩ := cellsAt b1 2 (v := .int .u64 0) rfl
        obtain ⟨q2, y2⟩ := cellsAt b2 2 (v := .int .u64 0) rfl
        obtain ⟨m3, z3⟩ := cellsAt b1 3 (v := .bool false) rfl
        obtain ⟨q3, y3⟩ := cellsAt b2 3 (v := .bool false) rfl
        obtain ⟨m4, z4⟩ := cellsAt b1 4 (v := .int .i64 0) rfl
        obtain ⟨q4, y4⟩ := cellsAt b2 4 (v := .int .i64 0) rfl
        have HT := Lib.hid ht
        clear ht b1 b2 HW HC
        go_wp2_with fail
        refine bodyPost_ret (v := told6V ⟨0, 0, 0, vi, 0⟩) ?_ rfl ⟨rfl, turn3 H.out HT.out (((((((Off.refl (fun k => w.heap.size ≤ k ∧ k < w.heap.size + 3) _).setCell (.inl ⟨by simp; omega, by simp⟩) _).setCell (p := ⟨w.heap.size + 1, 0, none⟩) (.inl ⟨Nat.le_succ _, by show w.heap.size + 1 < w.heap.size + 3; omega⟩) _).setCell (p := ⟨w.heap.size + 1, 1, none⟩) (.inl ⟨Nat.le_succ _, by show w.heap.size + 1 < w.heap.size + 3; omega⟩) _).setCell (p := ⟨w.heap.size + 1, 2, none⟩) (.inl ⟨Nat.le_succ _, by show w.heap.size + 1 < w.heap.size + 3; omega⟩) _).setCell (p := ⟨w.heap.size + 1, 3, none⟩) (.inl ⟨Nat.le_succ _, by show w.heap.size + 1 < w.heap.size + 3; omega⟩) _).setCell (p := ⟨w.heap.size + 1, 4, none⟩) (.inl ⟨Nat.le_succ _, by show w.heap.size + 1 < w.heap.size + 3; omega⟩) _)⟩
        rw [results_cell1 rfl]
        unfold told6V
        go_simp
      · have e2 : (d == 2) = false := by simpa using h2
        by_cases h3 : d = 3
        · subst h3
          have hA : doT mo idl m ⟨3, ss, id, ep, now, n⟩ p = ⟨0, 0, 0, false, (sendP id n p).2⟩ := rfl
          have hC : doP mo idl m ⟨3, ss, id, ep, now, n⟩ p = (sendP id n p).1 := rfl
          rw [hA, hC]
          clear hA hC h0 h1 h2
          have HC : Hid (∀ o1 o2 o3, Calls Tryz.prog _ _ (((w.alloc o1).alloc o2).alloc o3) _) := Lib.hid fun o1 o2 o3 => ppsend_ok id n hk (HW.out o1 o2 o3)
          generalize (sendP id n p).2 = ve at *
          go_enter Tryz.func7, Tryz.ntmps7
          go_wp2_with fail
          refine (HC.out _ _ _).mono ?_
          rintro e w4 ⟨rfl, ht⟩
          obtain ⟨_, b1, b2⟩ := loc3 ht ((PP b mo idl m p).lt H.out)
          obtain ⟨m0, z0⟩ := cellsAt b1 0 (v := .int .i64 0) rfl
          obtain ⟨q0, y0⟩ := cellsAt b2 0 (v := .int .i64 0) rfl
          obtain ⟨m1, z1⟩ := cellsAt b1 1 (v := .int .i64 0) rfl
          obtain ⟨q1, y1⟩ := cellsAt b2 1 (v := .int .i64 0) rfl
          obtain ⟨m2, z2⟩ := cellsAt b1 2 (v := .int .u64 0) rfl
          obtain ⟨q2, y2⟩ := cellsAt b2 2 (v := .int .u64 0) rfl
          obtain ⟨m3, z3⟩ := cellsAt b1 3 (v := .bool false) rfl
          obtain ⟨q3, y3⟩ := cellsAt b2 3 (v := .bool false) rfl
          obtain ⟨m4, z4⟩ := cellsAt b1 4 (v := .int .i64 0) rfl
          obtain ⟨q4, y4⟩ := cellsAt b2 4 (v := .int .i64 0) rfl
          have HT := Lib.hid ht
          clear ht b1 b2 HW HC
          go_wp2_with fail
          refine bodyPost_ret (v := told6V ⟨0, 0, 0, false, ve⟩) ?_ rfl ⟨rfl, turn3 H.out HT.out (((((((Off.refl (fun k => w.heap.size ≤ k ∧ k < w.heap.size + 3) _).setCell (.inl ⟨by simp; omega, by simp⟩) _).setCell (p := ⟨w.heap.size + 1, 0, none⟩) (.inl ⟨Nat.le_succ _, by show w.heap.size + 1 < w.heap.size + 3; omega⟩) _).setCell (p := ⟨w.heap.size + 1, 1, none⟩) (.inl ⟨Nat.le_succ _, by show w.heap.size + 1 < w.heap.size + 3; omega⟩) _).setCell (p := ⟨w.heap.size + 1, 2, none⟩) (.inl ⟨Nat.le_succ _, by show w.heap.size + 1 < w.heap.size + 3; omega⟩) _).setCell (p := ⟨w.heap.size + 1, 3, none⟩) (.inl ⟨Nat.le_succ _, by show w.heap.size + 1 < w.heap.size + 3; omega⟩) _).setCell (p := ⟨w.heap.size + 1, 4, none⟩) (.inl ⟨Nat.le_succ _, by show w.heap.size + 1 < w.heap.size + 3; omega⟩) _)⟩
          rw [results_cell1 rfl]
          unfold told6V
          go_simp
        · have e3 : (d == 3) = false := by simpa using h3
          by_cases h4 : d = 4
          · subst h4
            have hA : doT mo idl m ⟨4, ss, id, ep, now, n⟩ p = ⟨0, 0, 0, (replyP id n p).2, 0⟩ := rfl
            have hC : doP mo idl m ⟨4, ss, id, ep, now, n⟩ p = (replyP id n p).1 := rfl
            rw [hA, hC]
            clear hA hC h0 h1 h2 h3
            have HC : Hid (∀ o1 o2 o3, Calls Tryz.prog _ _ (((w.alloc o1).alloc o2).alloc o3) _) := Lib.hid fun o1 o2 o3 => ppreply_ok id n hk (HW.out o1 o2 o3)
            generalize (replyP id n p).2 = vi at *
            go_enter Tryz.func7, Tryz.ntmps7
            go_wp2_with fail
            refine (HC.out _ _ _).mono ?_
            rintro e w4 ⟨rfl, ht⟩
            obtain ⟨_, b1, b2⟩ := loc3 ht ((PP b mo idl m p).lt H.out)
            obtain ⟨m0, z0⟩ := cellsAt b1 0 (v := .int .i64 0) rfl
            obtain ⟨q0, y0⟩ := cellsAt b2 0 (v := .int .i64 0) rfl
            obtain ⟨m1, z1⟩ := cellsAt b1 1 (v := .int .i64 0) rfl
            obtain ⟨q1, y1⟩ := cellsAt b2 1 (v := .int .i64 0) rfl
            obtain ⟨m2, z2⟩ := cellsAt b1 2 (v := .int .u64 0) rfl
            obtain ⟨q2, y2⟩ := cellsAt b2 2 (v := .int .u64 0) rfl
            obtain ⟨m3, z3⟩ := cellsAt b1 3 (v := .bool false) rfl
            obtain ⟨q3, y3⟩ := cellsAt b2 3 (v := .bool false) rfl
            obtain ⟨m4, z4⟩ := cellsAt b1 4 (v := .int .i64 0) rfl
            obtain ⟨q4, y4⟩ := cellsAt b2 4 (v := .int .i64 0) rfl
            have HT := Lib.hid ht
            clear ht b1 b2 HW HC
            go_wp2_with fail
            refine bodyPost_ret (v := told6V ⟨0, 0, 0, vi, 0⟩) ?_ rfl ⟨rfl, turn3 H.out HT.out (((((((Off.refl (fun k => w.heap.size ≤ k ∧ k < w.heap.size + 3) _).setCell (.inl ⟨by simp; omega, by simp⟩) _).setCell (p := ⟨w.heap.size + 1, 0, none⟩) (.inl ⟨Nat.le_succ _, by show w.heap.size + 1 < w.heap.size + 3; omega⟩) _).setCell (p := ⟨w.heap.size + 1, 1, none⟩) (.inl ⟨Nat.le_succ _, by show w.heap.size + 1 < w.heap.size + 3; omega⟩) _).setCell (p := ⟨w.heap.size + 1, 2, none⟩) (.inl ⟨Nat.le_succ _, by show w.heap.size + 1 < w.heap.size + 3; omega⟩) _).setCell (p := ⟨w.heap.size + 1, 3, none⟩) (.inl ⟨Nat.le_succ _, by show w.heap.size + 1 < w.heap.size + 3; omega⟩) _).setCell (p := ⟨w.heap.size + 1, 4, none⟩) (.inl ⟨Nat.le_succ _, by show w.heap.size + 1 < w.heap.size + 3; omega⟩) _)⟩
            rw [results_cell1 rfl]
            unfold told6V
            go_simp
          · have e4 : (d == 4) = false := by simpa using h4
            by_cases h5 : d = 5
            · subst h5
              have hA : doT mo idl m ⟨5, ss, id, ep, now, n⟩ p = ⟨0, 0, 0, (soilP id p).2, 0⟩ := rfl
              have hC : doP mo idl m ⟨5, ss, id, ep, now, n⟩ p = (soilP id p).1 := rfl
              rw [hA, hC]
              clear hA hC h0 h1 h2 h3 h4
              have HC : Hid (∀ o1 o2 o3, Calls Tryz.prog _ _ (((w.alloc o1).alloc o2).alloc o3) _) := Lib.hid fun o1 o2 o3 => ppsoil_ok id hk (HW.out o1 o2 o3)
              generalize (soilP id p).2 = vi at *
              go_enter Tryz.func7, Tryz.ntmps7
              go_wp2_with fail
              refine (HC.out _ _ _).mono ?_
              rintro e w4 ⟨rfl, ht⟩
              obtain ⟨_, b1, b2⟩ := loc3 ht ((PP b mo idl m p).lt H.out)
              obtain ⟨m0, z0⟩ := cellsAt b1 0 (v := .int .i64 0) rfl
              obtain ⟨q0, y0⟩ := cellsAt b2 0 (v := .int .i64 0) rfl
              obtain ⟨m1, z1⟩ := cellsAt b1 1 (v := .int .i64 0) rfl
              obtain ⟨q1, y1⟩ := cellsAt b2 1 (v := .int .i64 0) rfl
              obtain ⟨m2, z2⟩ := cellsAt b1 2 (v := .int .u64 0) rfl
              obtain ⟨q2, y2⟩ := cellsAt b2 2 (v := .int .u64 0) rfl
              obtain ⟨m3, z3⟩ := cellsAt b1 3 (v := .bool false) rfl
              obtain ⟨q3, y3⟩ := cellsAt b2 3 (v := .bool false) rfl
              obtain ⟨m4, z4⟩ := cellsAt b1 4 (v := .int .i64 0) rfl
              obtain ⟨q4, y4⟩ := cellsAt b2 4 (v := .int .i64 0) rfl
              have HT := Lib.hid ht
              clear ht b1 b2 HW HC
              go_wp2_with fail
              refine bodyPost_ret (v := told6V ⟨0, 0, 0, vi, 0⟩) ?_ rfl ⟨rfl, turn3 H.out HT.out (((((((Off.refl (fun k => w.heap.size ≤ k ∧ k < w.heap.size + 3) _).setCell (.inl ⟨by simp; omega, by simp⟩) _).setCell (p := ⟨w.heap.size + 1, 0, none⟩) (.inl ⟨Nat.le_succ _, by show w.heap.size + 1 < w.heap.size + 3; omega⟩) _).setCell (p := ⟨w.heap.size + 1, 1, none⟩) (.inl ⟨Nat.le_succ _, by show w.heap.size + 1 < w.heap.size + 3; omega⟩) _).setCell (p := ⟨w.heap.size + 1, 2, none⟩) (.inl ⟨Nat.le_succ _, by show w.heap.size + 1 < w.heap.size + 3; omega⟩) _).setCell (p := ⟨w.heap.size + 1, 3, none⟩) (.inl ⟨Nat.le_succ _, by show w.heap.size + 1 < w.heap.size + 3; omega⟩) _).setCell (p := ⟨w.heap.size + 1, 4, none⟩) (.inl ⟨Nat.le_succ _, by show w.heap.size + 1 < w.heap.size + 3; omega⟩) _)⟩
              rw [results_cell1 rfl]
              unfold told6V
              go_simp
            · have e5 : (d == 5) = false := by simpa using h5
              by_cases h6 : d = 6
              · subst h6
                have hA : doT mo idl m ⟨6, ss, id, ep, now, n⟩ p = ⟨0, 0, 0, (releaseP id now p).2, 0⟩ := rfl
                have hC : doP mo idl m ⟨6, ss, id, ep, now, n⟩ p = (releaseP id now p).1 := rfl
                rw [hA, hC]
                clear hA hC h0 h1 h2 h3 h4 h5
                have HC : Hid (∀ o1 o2 o3, Calls Tryz.prog _ _ (((w.alloc o1).alloc o2).alloc o3) _) := Lib.hid fun o1 o2 o3 => pprelease_ok id now hk (HW.out o1 o2 o3)
                generalize (releaseP id now p).2 = vi at *
                go_enter Tryz.func7, Tryz.ntmps7
                go_wp2_with fail
                refine (HC.out _ _ _).mono ?_
                rintro e w4 ⟨rfl, ht⟩
                obtain ⟨_, b1, b2⟩ := loc3 ht ((PP b mo idl m p).lt H.out)
                obtain ⟨m0, z0⟩ := cellsAt b1 0 (v := .int .i64 0) rfl
                obtain ⟨q0, y0⟩ := cellsAt b2 0 (v := .int .i64 0) rfl
                obtain ⟨m1, z1⟩ := cellsAt b1 1 (v := .int .i64 0) rfl
                obtain ⟨q1, y1⟩ := cellsAt b2 1 (v := .int .i64 0) rfl
                obtain ⟨m2, z2⟩ := cellsAt b1 2 (v := .int .u64 0) rfl
                obtain ⟨q2, y2⟩ := cellsAt b2 2 (v := .int .u64 0) rfl
                obtain ⟨m3, z3⟩ := cellsAt b1 3 (v := .bool false) rfl
                obtain ⟨q3, y3⟩ := cellsAt b2 3 (v := .bool false) rfl
                obtain ⟨m4, z4⟩ := cellsAt b1 4 (v := .int .i64 0) rfl
                obtain ⟨q4, y4⟩ := cellsAt b2 4 (v := .int .i64 0) rfl
                have HT := Lib.hid ht
                clear ht b1 b2 HW HC
                go_wp2_with fail
                refine bodyPost_ret (v := told6V ⟨0, 0, 0, vi, 0⟩) ?_ rfl ⟨rfl, turn3 H.out HT.out (((((((Off.refl (fun k => w.heap.size ≤ k ∧ k < w.heap.size + 3) _).setCell (.inl ⟨by simp; omega, by simp⟩) _).setCell (p := ⟨w.heap.size + 1, 0, none⟩) (.inl ⟨Nat.le_succ _, by show w.heap.size + 1 < w.heap.size + 3; omega⟩) _).setCell (p := ⟨w.heap.size + 1, 1, none⟩) (.inl ⟨Nat.le_succ _, by show w.heap.size + 1 < w.heap.size + 3; omega⟩) _).setCell (p := ⟨w.heap.size + 1, 2, none⟩) (.inl ⟨Nat.le_succ _, by show w.heap.size + 1 < w.heap.size + 3; omega⟩) _).setCell (p := ⟨w.heap.size + 1, 3, none⟩) (.inl ⟨Nat.le_succ _, by show w.heap.size + 1 < w.heap.size + 3; omega⟩) _).setCell (p := ⟨w.heap.size + 1, 4, none⟩) (.inl ⟨Nat.le_succ _, by show w.heap.size + 1 < w.heap.size + 3; omega⟩) _)⟩
                rw [results_cell1 rfl]
                unfold told6V
                go_simp
              · have e6 : (d == 6) = false := by simpa using h6
                by_cases h7 : d = 7
                · subst h7
                  have hA : doT mo idl m ⟨7, ss, id, ep, now, n⟩ p = ⟨(breakP id p).2.2.1, 0, (breakP id p).2.1, (breakP id p).2.2.2, 0⟩ := rfl
                  have hC : doP mo idl m ⟨7, ss, id, ep, now, n⟩ p = (breakP id p).1 := rfl
                  rw [hA, hC]
                  clear hA hC h0 h1 h2 h3 h4 h5 h6
                  have HC : Hid (∀ o1 o2 o3, Calls Tryz.prog _ _ (((w.alloc o1).alloc o2).alloc o3) _) := Lib.hid fun o1 o2 o3 => ppbreak_ok id hk (HW.out o1 o2 o3)
                  generalize (breakP id p).2.1 = vn at *
                  generalize (breakP id p).2.2.1 = va at *
                  generalize (breakP id p).2.2.2 = vi at *
                  go_enter Tryz.func7, Tryz.ntmps7
                  go_wp2_with fail
                  refine (HC.out _ _ _).mono ?_
                  rintro e w4 ⟨rfl, ht⟩
                  obtain ⟨_, b1, b2⟩ := loc3 ht ((PP b mo idl m p).lt H.out)
                  obtain ⟨m0, z0⟩ := cellsAt b1 0 (v := .int .i64 0) rfl
                  obtain ⟨q0, y0⟩ := cellsAt b2 0 (v := .int .i64 0) rfl
                  obtain ⟨m1, z1⟩ := cellsAt b1 1 (v := .int .i64 0) rfl
                  obtain ⟨q1, y1⟩ := cellsAt b2 1 (v := .int .i64 0) rfl
                  obtain ⟨m2, z2⟩ := cellsAt b1 2 (v := .int .u64 0) rfl
                  obtain ⟨q2, y2⟩ := cellsAt b2 2 (v := .int .u64 0) rfl
                  obtain ⟨m3, z3⟩ := cellsAt b1 3 (v := .bool false) rfl
                  obtain ⟨q3, y3⟩ := cellsAt b2 3 (v := .bool false) rfl
                  obtain ⟨m4, z4⟩ := cellsAt b1 4 (v := .int .i64 0) rfl
                  obtain ⟨q4, y4⟩ := cellsAt b2 4 (v := .int .i64 0) rfl
                  have HT := Lib.hid ht
                  clear ht b1 b2 HW HC
                  go_wp2_with fail
                  refine bodyPost_ret (v := told6V ⟨va, 0, vn, vi, 0⟩) ?_ rfl ⟨rfl, turn3 H.out HT.out (((((((((Off.refl (fun k => w.heap.size ≤ k ∧ k < w.heap.size + 3) _).setCell (.inl ⟨by simp; omega, by simp⟩) _).setCell (.inl ⟨by simp; omega, by simp⟩) _).setCell (.inl ⟨by simp; omega, by simp⟩) _).setCell (p := ⟨w.heap.size + 1, 0, none⟩) (.inl ⟨Nat.le_succ _, by show w.heap.size + 1 < w.heap.size + 3; omega⟩) _).setCell (p := ⟨w.heap.size + 1, 1, none⟩) (.inl ⟨Nat.le_succ _, by show w.heap.size + 1 < w.heap.size + 3; omega⟩) _).setCell (p := ⟨w.heap.size + 1, 2, none⟩) (.inl ⟨Nat.le_succ _, by show w.heap.size + 1 < w.heap.size + 3; omega⟩) _).setCell (p := ⟨w.heap.size + 1, 3, none⟩) (.inl ⟨Nat.le_succ _, by show w.heap.size + 1 < w.heap.size + 3; omega⟩) _).setCell (p := ⟨w.heap.size + 1, 4, none⟩) (.inl ⟨Nat.le_succ _, by show w.heap.size + 1 < w.heap.size + 3; omega⟩) _)⟩
                  rw [results_cell1 rfl]
                  unfold told6V
                  go_simp
                · have e7 : (d == 7) = false := by simpa using h7
                  by_cases h8 : d = 8
                  · subst h8
                    have hA : doT mo idl m ⟨8, ss, id, ep, now, n⟩ p = ⟨0, 0, 0, false, 0⟩ := rfl
                    have hC : doP mo idl m ⟨8, ss, id, ep, now, n⟩ p = drainP ep p := rfl
                    rw [hA, hC]
                    clear hA hC h0 h1 h2 h3 h4 h5 h6 h7
                    have HC : Hid (∀ o1 o2 o3, Calls Tryz.prog _ _ (((w.alloc o1).alloc o2).alloc o3) _) := Lib.hid fun o1 o2 o3 => ppdrain_ok ep (HW.out o1 o2 o3)
                    go_enter Tryz.func7, Tryz.ntmps7
                    go_wp2_with fail
                    refine (HC.out _ _ _).mono ?_
                    rintro e w4 ⟨rfl, ht⟩
                    obtain ⟨_, b1, b2⟩ := loc3 ht ((PP b mo idl m p).lt H.out)
                    obtain ⟨m0, z0⟩ := cellsAt b1 0 (v := .int .i64 0) rfl
                    obtain ⟨q0, y0⟩ := cellsAt b2 0 (v := .int .i64 0) rfl
                    obtain ⟨m1, z1⟩ := cellsAt b1 1 (v := .int .i64 0) rfl
                    obtain ⟨q1, y1⟩ := cellsAt b2 1 (v := .int .i64 0) rfl
                    obtain ⟨m2, z2⟩ := cellsAt b1 2 (v := .int .u64 0) rfl
                    obtain ⟨q2, y2⟩ := cellsAt b2 2 (v := .int .u64 0) rfl
                    obtain ⟨m3, z3⟩ := cellsAt b1 3 (v := .bool false) rfl
                    obtain ⟨q3, y3⟩ := cellsAt b2 3 (v := .bool false) rfl
                    obtain ⟨m4, z4⟩ := cellsAt b1 4 (v := .int .i64 0) rfl
                    obtain ⟨q4, y4⟩ := cellsAt b2 4 (v := .int .i64 0) rfl
                    have HT := Lib.hid ht
                    clear ht b1 b2 HW HC
                    go_wp2_with fail
                    refine bodyPost_ret (v := told6V ⟨0, 0, 0, false, 0⟩) ?_ rfl ⟨rfl, turn3 H.out HT.out ((((((Off.refl (fun k => w.heap.size ≤ k ∧ k < w.heap.size + 3) _).setCell (p := ⟨w.heap.size + 1, 0, none⟩) (.inl ⟨Nat.le_succ _, by show w.heap.size + 1 < w.heap.size + 3; omega⟩) _).setCell (p := ⟨w.heap.size + 1, 1, none⟩) (.inl ⟨Nat.le_succ _, by show w.heap.size + 1 < w.heap.size + 3; omega⟩) _).setCell (p := ⟨w.heap.size + 1, 2, none⟩) (.inl ⟨Nat.le_succ _, by show w.heap.size + 1 < w.heap.size + 3; omega⟩) _).setCell (p := ⟨w.heap.size + 1, 3, none⟩) (.inl ⟨Nat.le_succ _, by show w.heap.size + 1 < w.heap.size + 3; omega⟩) _).setCell (p := ⟨w.heap.size + 1, 4, none⟩) (.inl ⟨Nat.le_succ _, by show w.heap.size + 1 < w.heap.size + 3; omega⟩) _)⟩
                    rw [results_cell1 rfl]
                    unfold told6V
                    go_simp
                  · have e8 : (d == 8) = false := by simpa using h8
                    by_cases h9 : d = 9
                    · subst h9
                      have hA : doT mo idl m ⟨9, ss, id, ep, now, n⟩ p = ⟨(reapP idl now p).2, 0, 0, false, 0⟩ := rfl
                      have hC : doP mo idl m ⟨9, ss, id, ep, now, n⟩ p = (reapP idl now p).1 := rfl
                      rw [hA, hC]
                      clear hA hC h0 h1 h2 h3 h4 h5 h6 h7 h8
                      have HC : Hid (∀ o1 o2 o3, Calls Tryz.prog _ _ (((w.alloc o1).alloc o2).alloc o3) _) := Lib.hid fun o1 o2 o3 => ppreap_ok now hk (HW.out o1 o2 o3)
                      generalize (reapP idl now p).2 = va at *
                      go_enter Tryz.func7, Tryz.ntmps7
                      go_wp2_with fail
                      refine (HC.out _ _ _).mono ?_
                      rintro e w4 ⟨rfl, ht⟩
                      obtain ⟨_, b1, b2⟩ := loc3 ht ((PP b mo idl m p).lt H.out)
                      obtain ⟨m0, z0⟩ := cellsAt b1 0 (v := .int .i64 0) rfl
                      obtain ⟨q0, y0⟩ := cellsAt b2 0 (v := .int .i64 0) rfl
                      obtain ⟨m1, z1⟩ := cellsAt b1 1 (v := .int .i64 0) rfl
                      obtain ⟨q1, y1⟩ := cellsAt b2 1 (v := .int .i64 0) rfl
                      obtain ⟨m2, z2⟩ := cellsAt b1 2 (v := .int .u64 0) rfl
                      obtain ⟨q2, y2⟩ := cellsAt b2 2 (v := .int .u64 0) rfl
                      obtain ⟨m3, z3⟩ := cellsAt b1 3 (v := .bool false) rfl
                      obtain ⟨q3, y3⟩ := cellsAt b2 3 (v := .bool false) rfl
                      obtain ⟨m4, z4⟩ := cellsAt b1 4 (v := .int .i64 0) rfl
                      obtain ⟨q4, y4⟩ := cellsAt b2 4 (v := .int .i64 0) rfl
                      have HT := Lib.hid ht
                      clear ht b1 b2 HW HC
                      go_wp2_with fail
                      refine bodyPost_ret (v := told6V ⟨va, 0, 0, false, 0⟩) ?_ rfl ⟨rfl, turn3 H.out HT.out (((((((Off.refl (fun k => w.heap.size ≤ k ∧ k < w.heap.size + 3) _).setCell (.inl ⟨by simp; omega, by simp⟩) _).setCell (p := ⟨w.heap.size + 1, 0, none⟩) (.inl ⟨Nat.le_succ _, by show w.heap.size + 1 < w.heap.size + 3; omega⟩) _).setCell (p := ⟨w.heap.size + 1, 1, none⟩) (.inl ⟨Nat.le_succ _, by show w.heap.size + 1 < w.heap.size + 3; omega⟩) _).setCell (p := ⟨w.heap.size + 1, 2, none⟩) (.inl ⟨Nat.le_succ _, by show w.heap.size + 1 < w.heap.size + 3; omega⟩) _).setCell (p := ⟨w.heap.size + 1, 3, none⟩) (.inl ⟨Nat.le_succ _, by show w.heap.size + 1 < w.heap.size + 3; omega⟩) _).setCell (p := ⟨w.heap.size + 1, 4, none⟩) (.inl ⟨Nat.le_succ _, by show w.heap.size + 1 < w.heap.size + 3; omega⟩) _)⟩
                      rw [results_cell1 rfl]
                      unfold told6V
                      go_simp
                    · have e9 : (d == 9) = false := by simpa using h9
                      have hA : doT mo idl m ⟨d, ss, id, ep, now, n⟩ p = ⟨0, 0, 0, false, 0⟩ := by simp [doT, h0, h1, h2, h3, h4, h5, h6, h7, h8, h9]
                      have hC : doP mo idl m ⟨d, ss, id, ep, now, n⟩ p = p := by simp [doP, h0, h1, h2, h3, h4, h5, h6, h7, h8, h9]
                      rw [hA, hC]
                      clear hA hC h0 h1 h2 h3 h4 h5 h6 h7 h8 h9
                      go_enter Tryz.func7, Tryz.ntmps7
                      have ht := Turn.here (HW.out (.cells #[.int .i64 d, .int .i64 ss, .int .i64 id, .int .u64 ep, .int .u64 now, .int .u64 n] 33) (.cells #[.int .i64 0, .int .i64 0, .int .u64 0, .bool false, .int .i64 0] 35) (.cells #[.int .i64 0, .int .i64 0, .int .u64 0, .bool false, .int .i64 0] 35))
                      obtain ⟨_, b1, b2⟩ := loc3 ht ((PP b mo idl m p).lt H.out)
                      obtain ⟨m0, z0⟩ := cellsAt b1 0 (v := .int .i64 0) rfl
                      obtain ⟨q0, y0⟩ := cellsAt b2 0 (v := .int .i64 0) rfl
                      obtain ⟨m1, z1⟩ := cellsAt b1 1 (v := .int .i64 0) rfl
                      obtain ⟨q1, y1⟩ := cellsAt b2 1 (v := .int .i64 0) rfl
                      obtain ⟨m2, z2⟩ := cellsAt b1 2 (v := .int .u64 0) rfl
                      obtain ⟨q2, y2⟩ := cellsAt b2 2 (v := .int .u64 0) rfl
                      obtain ⟨m3, z3⟩ := cellsAt b1 3 (v := .bool false) rfl
                      obtain ⟨q3, y3⟩ := cellsAt b2 3 (v := .bool false) rfl
                      obtain ⟨m4, z4⟩ := cellsAt b1 4 (v := .int .i64 0) rfl
                      obtain ⟨q4, y4⟩ := cellsAt b2 4 (v := .int .i64 0) rfl
                      have HT := Lib.hid ht
                      clear ht b1 b2 HW
                      go_wp2_with fail
                      refine bodyPost_ret (v := told6V ⟨0, 0, 0, false, 0⟩) ?_ rfl ⟨rfl, turn3 H.out HT.out (Off.refl (fun k => w.heap.size ≤ k ∧ k < w.heap.size + 3) _)⟩
                      rw [results_cell1 rfl]
                      unfold told6V
                      go_simp
end
end

/- Layer 10: the calls whose answers the document fixes. -/
section
open Go.RowKit
set_option maxRecDepth 100000

/-- a block that a call made, none of the thing's -/
theorem Solo.beside {w0 w w' : World} {X : Thing} {N : Nat → Prop} {g : Nat} (h : Solo w0 X N w) (hb : Below w.heap.size w w') (hg : w.heap.size ≤ g) (hg' : g < w'.heap.size) : Solo w0 X (fun k => k = g ∨ N k) w' := by
  obtain ⟨⟨S, h1, h2⟩, h3, h4⟩ := h
  refine ⟨⟨S, Thing.next h1 hb, fun k hk => ⟨(h2 k hk).1, fun e => e.elim (fun e => by have := X.lt h1 k hk; omega) (h2 k hk).2⟩⟩, h3.trans (hb.mono h3.size), fun k hk => ?_⟩
  rcases hk with rfl | hk
  · exact hg'
  · have := h4 k hk
    have := hb.size
    omega
def aw1 : Pl := ⟨[⟨1, 1, .lent 5 0 false 0, 0⟩], [], 1⟩
def aw2 : Pl := ⟨[⟨1, 1, .lent 5 0 false 0, 0⟩], [6], 1⟩
def aw4 : Pl := ⟨[⟨1, 1, .lent 5 9 false 1, 0⟩], [6], 1⟩
def aw5 : Pl := ⟨[⟨1, 1, .lent 5 0 false 1, 0⟩], [6], 1⟩
def aw6 : Pl := ⟨[⟨1, 1, .idle false 1, 2⟩], [6], 1⟩
def aw7 : Pl := ⟨[⟨1, 1, .lent 6 0 false 1, 2⟩], [], 1⟩
theorem aw_inv : KInv 1 1 0 ⟨[], [], 0⟩ ∧ KInv 1 1 1 aw1 ∧ KInv 1 1 2 aw2 ∧ KInv 1 1 3 aw2 ∧ KInv 1 1 4 aw4 ∧ KInv 1 1 5 aw5 ∧ KInv 1 1 6 aw6 := by
  have k0 := KInv.new (mo := 1) (m := 1) (by omega) (by omega)
  have k1 : KInv 1 1 1 aw1 := k0.do (by omega) 5 ⟨0, 5, 0, 1, 0, 0⟩
  have k2 : KInv 1 1 2 aw2 := k1.do (by omega) 5 ⟨0, 6, 0, 1, 0, 0⟩
  have k3 : KInv 1 1 3 aw2 := k2.do (by omega) 5 ⟨0, 7, 0, 1, 0, 0⟩
  have k4 : KInv 1 1 4 aw4 := k3.do (by omega) 5 ⟨3, 0, 1, 0, 0, 9⟩
  have k5 : KInv 1 1 5 aw5 := k4.do (by omega) 5 ⟨4, 0, 1, 0, 0, 9⟩
  have k6 : KInv 1 1 6 aw6 := k5.do (by omega) 5 ⟨6, 0, 1, 0, 2, 0⟩
  exact ⟨k0, k1, k2, k3, k4, k5, k6⟩
theorem eql_info_same (w : World) : (binOp .eql 61 (.agg #[.int .i64 1, .int .i64 2, .int .i64 5, .int .u64 1, .int .u64 9, .int .u64 0]) (.agg #[.int .i64 1, .int .i64 2, .int .i64 5, .int .u64 1, .int .u64 9, .int .u64 0])).run Tryz.prog w = .ok (.bool true) w := by kernel_rfl

set_option maxHeartbeats 8000000 in
theorem awake10_ok (w : World) :
    Calls Tryz.prog 4 #[] w fun e w' => e = .returned (.bool true) ∧ Below w.heap.size w w' := by
  obtain ⟨k0, k1, k2, k3, k4, k5, k6⟩ := aw_inv
  have K0 := Lib.hid k0
  have K1 := Lib.hid k1
  have K2 := Lib.hid k2
  have K3 := Lib.hid k3
  have K4 := Lib.hid k4
  have K5 := Lib.hid k5
  have K6 := Lib.hid k6
  clear k0 k1 k2 k3 k4 k5 k6
  have HN := Lib.hid (ppnew_good 1 1 5 w (by omega) (by omega) (by omega) (by omega) (by omega))
  have HEQ := eql_info_same
  go_enter Tryz.func4, Tryz.ntmps4
  go_wp2_with fail
  refine HN.out.mono ?_
  rintro e w1 ⟨b, S1, rfl, p1, q1, l1⟩
  have S1 : Hid (Solo w (PP b 1 5 1 ⟨[], [], 0⟩) noneB w1) := Lib.hid (Solo.make (Below.refl _ _) p1 q1 l1)
  clear p1 q1 l1 HN
  have P1 : Hid (Calls Tryz.prog 15 #[.pointer (some ⟨b, 0, none⟩), .int .i64 5, .int .u64 1, .int .u64 0] w1 fun e w' => e = .returned (.tuple #[.int .i64 1, .int .i64 0]) ∧ Solo w (PP b 1 5 1 aw1) noneB w') := Lib.hid ((S1.out.op (Y := PP b 1 5 1 aw1) (Q := fun e _ => e = .returned (.tuple #[.int .i64 1, .int .i64 0])) fun S hp => pacq_ok 5 1 0 K0.out (by omega) hp).mono fun _ _ ⟨h1, h2, _⟩ => ⟨h1, h2⟩)
  clear S1
  go_wp2_with fail
  refine P1.out.mono ?_
  rintro e w2 ⟨rfl, s2⟩
  have P2 : Hid (Calls Tryz.prog 15 #[.pointer (some ⟨b, 0, none⟩), .int .i64 6, .int .u64 1, .int .u64 0] w2 fun e w' => e = .returned (.tuple #[.int .i64 0, .int .i64 13]) ∧ Solo w (PP b 1 5 1 aw2) noneB w') := Lib.hid ((s2.op (Y := PP b 1 5 1 aw2) (Q := fun e _ => e = .returned (.tuple #[.int .i64 0, .int .i64 13])) fun S hp => pacq_ok 6 1 0 K1.out (by omega) hp).mono fun _ _ ⟨h1, h2, _⟩ => ⟨h1, h2⟩)
  clear s2 P1
  go_wp2_with fail
  refine P2.out.mono ?_
  rintro e w3 ⟨rfl, s3⟩
  have P3 : Hid (Calls Tryz.prog 15 #[.pointer (some ⟨b, 0, none⟩), .int .i64 7, .int .u64 1, .int .u64 0] w3 fun e w' => e = .returned (.tuple #[.int .i64 0, .int .i64 5]) ∧ Solo w (PP b 1 5 1 aw2) noneB w') := Lib.hid ((s3.op (Y := PP b 1 5 1 aw2) (Q := fun e _ => e = .returned (.tuple #[.int .i64 0, .int .i64 5])) fun S hp => pacq_ok 7 1 0 K2.out (by omega) hp).mono fun _ _ ⟨h1, h2, _⟩ => ⟨h1, h2⟩)
  clear s3 P2
  go_wp2_with fail
  refine P3.out.mono ?_
  rintro e w4 ⟨rfl, s4⟩
  have P4 : Hid (Calls Tryz.prog 16 #[.pointer (some ⟨b, 0, none⟩), .int .i64 1, .int .u64 9] w4 fun e w' => e = .returned (.int .i64 0) ∧ Solo w (PP b 1 5 1 aw4) noneB w') := Lib.hid ((s4.op (Y := PP b 1 5 1 aw4) (Q := fun e _ => e = .returned (.int .i64 0)) fun S hp => ppsend_ok 1 9 K3.out hp).mono fun _ _ ⟨h1, h2, _⟩ => ⟨h1, h2⟩)
  clear s4 P3
  go_wp2_with fail
  refine P4.out.mono ?_
  rintro e w5 ⟨rfl, s5⟩
  have P5 : Hid (Calls Tryz.prog 11 #[.pointer (some ⟨b, 0, none⟩)] w5 fun e w' => ∃ g c : Nat, e = .returned (.slice (some ⟨g, 0, none⟩) 1 c) ∧ Solo w (PP b 1 5 1 aw4) (fun k => k = g ∨ noneB k) w' ∧ w'.cell? ⟨g, 0, none⟩ = some (.int .i64 1) ∧ w'.cell? ⟨g, 1, none⟩ = some (.int .i64 2) ∧ w'.cell? ⟨g, 2, none⟩ = some (.int .i64 5) ∧ w'.cell? ⟨g, 3, none⟩ = some (.int .u64 1) ∧ w'.cell? ⟨g, 4, none⟩ = some (.int .u64 9) ∧ w'.cell? ⟨g, 5, none⟩ = some (.int .u64 0)) := Lib.hid (by
    obtain ⟨S5, hp5, _⟩ := s5.at_
    refine (pconns_ok hp5).mono ?_
    rintro e w' ⟨A, n, c, rfl, ho, _, hb⟩
    have hn : n = 1 := by have := ho.1; rw [inC_length] at this; simp only [aw4, List.map_cons, List.map_nil, List.length_singleton] at this; omega
    subst hn
    rcases ho.2 with ⟨_, h0⟩ | ⟨g, cap, cur, hv, hg, hh, _⟩
    · omega
    · injection hv with hA _ _
      subst hA
      have hcell := fun j u hu => ho.cells (g := g) rfl j u hu
      have hadd : ∀ j : Nat, (⟨g, 0, none⟩ : Addr).add j = ⟨g, j, none⟩ := fun j => by unfold Addr.add; split <;> simp_all
      refine ⟨g, c, rfl, s5.beside hb hg (Array.getElem?_eq_some_iff.1 hh).1, ?_, ?_, ?_, ?_, ?_, ?_⟩
      · rw [← hadd 0]; exact hcell 0 _ rfl
      · rw [← hadd 1]; exact hcell 1 _ rfl
      · rw [← hadd 2]; exact hcell 2 _ rfl
      · rw [← hadd 3]; exact hcell 3 _ rfl
      · rw [← hadd 4]; exact hcell 4 _ rfl
      · rw [← hadd 5]; exact hcell 5 _ rfl)
  clear s5 P4
  go_wp2_with fail
  refine P5.out.mono ?_
  rintro e w6 ⟨g, c, rfl, s6, c0, c1, c2, c3, c4, c5⟩
  have kc : ∀ u u' : World, (∀ k, (k = g ∨ noneB k) → u'.heap[k]? = u.heap[k]?) → ∀ j, u'.cell? ⟨g, j, none⟩ = u.cell? ⟨g, j, none⟩ := fun _ _ h j => World.cell?_of_block (a := ⟨g, j, none⟩) (h g (.inl rfl))
  have KC := Lib.hid kc
  clear kc
  have P6 : Hid (Calls Tryz.prog 17 #[.pointer (some ⟨b, 0, none⟩), .int .i64 1, .int .u64 9] w6 fun e w' => e = .returned (.bool true) ∧ Solo w (PP b 1 5 1 aw5) (fun k => k = g ∨ noneB k) w' ∧ ∀ k, (k = g ∨ noneB k) → w'.heap[k]? = w6.heap[k]?) := Lib.hid (s6.op (Y := PP b 1 5 1 aw5) (Q := fun e _ => e = .returned (.bool true)) fun S hp => ppreply_ok 1 9 K4.out hp)
  clear s6 P5
  go_wp2_with fail
  refine P6.out.mono ?_
  rintro e w7 ⟨rfl, s7, h7⟩
  have x7 := KC.out w6 w7 h7
  rw [← x7] at c0 c1 c2 c3 c4 c5
  clear x7 h7
  have P7 : Hid (Calls Tryz.prog 18 #[.pointer (some ⟨b, 0, none⟩), .int .i64 1, .int .u64 2] w7 fun e w' => e = .returned (.bool true) ∧ Solo w (PP b 1 5 1 aw6) (fun k => k = g ∨ noneB k) w' ∧ ∀ k, (k = g ∨ noneB k) → w'.heap[k]? = w7.heap[k]?) := Lib.hid (s7.op (Y := PP b 1 5 1 aw6) (Q := fun e _ => e = .returned (.bool true)) fun S hp => pprelease_ok 1 2 K5.out hp)
  clear s7 P6
  go_wp2_with fail
  refine P7.out.mono ?_
  rintro e w8 ⟨rfl, s8, h8⟩
  have x8 := KC.out w7 w8 h8
  rw [← x8] at c0 c1 c2 c3 c4 c5
  clear x8 h8
  have P8 : Hid (Calls Tryz.prog 19 #[.pointer (some ⟨b, 0, none⟩), .int .u64 1, .int .u64 3] w8 fun e w' => e = .returned (.tuple #[.int .i64 6, .int .i64 1, .bool true]) ∧ Solo w (PP b 1 5 1 aw7) (fun k => k = g ∨ noneB k) w' ∧ ∀ k, (k = g ∨ noneB k) → w'.heap[k]? = w8.heap[k]?) := Lib.hid (s8.op (Y := PP b 1 5 1 aw7) (Q := fun e _ => e = .returned (.tuple #[.int .i64 6, .int .i64 1, .bool true])) fun S hp => pserve_ok 1 3 K6.out (by omega) hp)
  clear s8 P7
  go_wp2_with fail
  refine P8.out.mono ?_
  rintro e w9 ⟨rfl, s9, h9⟩
  have x9 := KC.out w8 w9 h9
  rw [← x9] at c0 c1 c2 c3 c4 c5
  clear x9 h9
  have P9 : Hid (Calls Tryz.prog 14 #[.pointer (some ⟨b, 0, none⟩)] w9 fun e w' => ∃ A c, e = .returned (.slice A 0 c) ∧ Below w.heap.size w w') := Lib.hid (by
    obtain ⟨S9, hp9, _⟩ := s9.at_
    refine (pwaiting_ok hp9).mono ?_
    rintro e w' ⟨A, n, c, rfl, hr, _, hb⟩
    have hn : n = 0 := by have := hr.len; simpa [aw7] using this.symm
    subst hn
    exact ⟨A, c, rfl, s9.low.trans (hb.mono s9.low.size)⟩)
  clear s9 P8
  go_wp2_with fail
  refine P9.out.mono ?_
  rintro e w10 ⟨A, c', rfl, hb⟩
  have HB := Lib.hid hb
  clear hb P9
  go_wp2_with fail
  go_ret
  exact ⟨rfl, HB.out⟩
end

/- From a walk to a law's row: arguments opened, and shut behind a call that left alone what was there before it. -/
section
open Go.RowKit Go.ChangeShapes Go.WideShapes Go.ChangeAt

theorem own0 : ownKnob Tryz.prog.godebug = none := by kernel_rfl
theorem laid0 : laidOutB Tryz.prog = true := by kernel_rfl

section
variable {H : Type} {enc : TypeId × Value → H} {P : Program}
theorem trodAll_later {W W' : World} (hl : laidOutB P = true) (hb : Below W.heap.size W W') : ∀ (ts : List TypeId) (vs : List Value) (ds : List (DataW H)) (ps : List MemPlace),
    (∀ t ∈ ts, P.readableRec t = true ∧ t < P.types.size) → DataW.TrodAll enc P W 0 (fun _ => true) true ts vs ds ps → (∀ x ∈ ps, x.block < W.heap.size) →
    DataW.TrodAll enc P W' 0 (fun b => decide (b < W.heap.size)) true ts vs ds ps
  | [], vs, ds, ps, _, h, _ => by
    cases vs <;> cases ds <;> simp [DataW.TrodAll] at h ⊢
    exact h
  | t :: ts, vs, ds, ps, ht, h, hlt => by
    obtain ⟨v, vs', d, ds', p, q, rfl, rfl, rfl, h1, h2⟩ := trodAll_cons h
    have h3 := Below.trod hl (ht t (by simp)).1 (ht t (by simp)).2 h1 hb (fun x hx => hlt x (by simp [hx]))
    have h4 := trodAll_later hl hb ts vs' ds' q (fun u hu => ht u (by simp [hu])) h2 (fun x hx => hlt x (by simp [hx]))
    exact trodAll_cons_mk h3 h4

/-- a law that answers true, and leaves alone what was there -/
theorem law_post {f : Func} {s : ChangeSpec} {tb : TypeId} {W W' : World} {args : Array Value} {ds gs : List (DataW H)} {before : List MemPlace}
    (hl : laidOutB P = true) (hts : ∀ t ∈ f.params.toList, P.readableRec t = true ∧ t < P.types.size) (hv : s.vars = []) (hrt : f.resultTypes = #[tb]) (htb : P.underlying tb = some .bool)
    (hW : DataW.Whole enc P f.params.toList s.vars false W args.toList ds gs before) (hfn : s.fn H (ds ++ gs) = { results := [.lit (.bool true)], args := ds })
    (hb : Below W.heap.size W W') : s.post enc P f false true false false W args (.bool true) W' := by
  have hlt : ∀ p ∈ before, p.block < W.heap.size := fun p hp => hW.lt p hp
  have hW' := hW
  obtain ⟨p, q, hA, hV, rfl, _, _⟩ := hW
  rw [hv] at hV
  obtain ⟨rfl, rfl⟩ := trodVars_none hV
  refine ⟨ds, [], p ++ [], [], p, [], hW', ?_, ?_, ?_, World.keptBut_mono (fun x hx => ⟨hx, .inr (.inl (by simpa using hx))⟩) (hb.frame (· ∈ p ++ [])), fun h => by cases h⟩
  · rw [hfn, hrt]
    exact trodAll_mk1 (shut_bool htb true)
  · rw [hfn]
    exact trodAll_later hl hb _ _ _ _ hts hA (fun x hx => hlt x (by simp [hx]))
  · rw [hfn, hv]
    simp [DataW.TrodVars]

theorem mapM_getD (zs : List Int) (h : ∀ n ∈ zs, (Lit.int .u8 n).wf = true) : (zs.map fun n => bv (UInt8.ofNat n.toNat)) = zs.map (Value.int .u8) := by
  apply List.map_congr_left
  intro n hn
  have hw := h n hn
  simp [Lit.wf, IntKind.min, IntKind.max, IntKind.signed, IntKind.bits] at hw
  simp only [bv, UInt8.toNat_ofNat']
  congr 1
  omega

/-- an argument that is a slice of bytes -/
theorem open_bytes {r : Reach} {b0 : Nat} {W : World} {t e : TypeId} {v : Value} {d : DataW H} {ps : List MemPlace} (ht : P.underlying t = some (.slice e)) (he : P.underlying e = some (.int .u8)) (hc : P.cellsOf e = 1)
    (hval : Value.okWide P W r b0 t v) (h : DataW.Trod enc P W 0 (fun _ => true) true t v d ps) :
    ∃ A l c bs, v = .slice A l c ∧ Sl W W.heap.size A l c bs ∧ c ≤ 9223372036854775807 := by
  obtain ⟨a, l, c, rfl⟩ := okWide_slice ht hval
  obtain ⟨fuel, hf⟩ := h
  rcases open_ints ht he hc hf with ⟨hcs, _⟩ | ⟨ad, len, cap, zs, hcs, _, hle, hmax, hzl, _, hcell, hwf⟩
  · simp [Value.cells] at hcs
    obtain ⟨rfl, rfl, rfl⟩ := hcs
    exact ⟨none, 0, 0, [], rfl, Sl.nil _ _, by omega⟩
  · simp [Value.cells] at hcs
    obtain ⟨rfl, rfl, rfl⟩ := hcs
    simp only [if_true] at hzl
    refine ⟨some ad, l, c, (zs.take l).map fun n => UInt8.ofNat n.toNat, rfl, ⟨?_, by simp; omega, hle⟩, by unfold maxLen at hmax; omega⟩
    have e1 : bvs ((zs.take l).map fun n => UInt8.ofNat n.toNat) = (zs.take l).map (Value.int .u8) := by
      rw [bvs, List.map_map]
      exact mapM_getD (zs.take l) (fun n hn => hwf n (List.mem_of_mem_take hn))
    rw [e1]
    rcases Nat.eq_zero_or_pos l with rfl | hpos
    · exact .inl (by simp)
    · have hc0 : ∀ i, i < zs.length → W.cell? (ad.add i) = some (.int .u8 (zs.getD i 0)) := hcell
      refine .inr ⟨ad, rfl, ?_, fun j u hu => ?_⟩
      · have := World.block_lt_of_cell? W _ (hc0 0 (by omega))
        rwa [add_block] at this
      · have hj : j < l := by
          have := (List.getElem?_eq_some_iff.1 hu).1
          simp at this
          omega
        rw [hc0 j (by omega)]
        rw [List.getElem?_map, List.getElem?_take_of_lt hj, List.getElem?_eq_getElem (by omega)] at hu
        simp at hu
        rw [← hu]
        simp [List.getD, List.getElem?_eq_getElem (show j < zs.length by omega)]
end
theorem wf64 {a : Int} (h : (Lit.int .i64 a).wf = true) : -9223372036854775808 ≤ a ∧ a ≤ 9223372036854775807 := by
  simpa [Lit.wf, IntKind.min, IntKind.max, IntKind.signed, IntKind.bits] using h
theorem wfu64 {a : Int} (h : (Lit.int .u64 a).wf = true) : ∃ n : Nat, a = n ∧ n < 18446744073709551616 := by
  have h2 : 0 ≤ a ∧ a ≤ 18446744073709551615 := by simpa [Lit.wf, IntKind.min, IntKind.max, IntKind.signed, IntKind.bits] using h
  exact ⟨a.toNat, by omega, by omega⟩
end

/- Arguments that are slices of plain data, or structs of them, opened: rows of any elements, and how much they weigh. -/
section
open Go.RowKit Go.ChangeShapes Go.WideShapes Go.ChangeAt
set_option maxRecDepth 100000

section
variable {H : Type} {enc : TypeId × Value → H} {P : Program} {W : World}

/-- what a datum weighs is within reach -/
def Light (P : Program) (t : TypeId) (d : DataW H) : Prop := ∀ n ∈ d.weights P t, n ≤ 140737488351232
theorem light_of {ts : List TypeId} {ds : List (DataW H)} (h : (DataW.weightsEach P ts ds).all (· ≤ reachBytes) = true) {j : Nat} {t : TypeId} {d : DataW H} (ht : ts[j]? = some t) (hd : ds[j]? = some d) : Light P t d := fun n hn => by
  have := List.all_eq_true.1 h _ (DataW.weights_mem_each ht hd n hn)
  have h2 : n ≤ reachBytes := by simpa using this
  exact h2
theorem weightsAll_mem {e : TypeId} {ds : List (DataW H)} {d : DataW H} (h : d ∈ ds) {n : Nat} (hn : n ∈ d.weights P e) : n ∈ DataW.weightsAll P e ds := by
  induction ds with
  | nil => simp at h
  | cons x r ih =>
    simp only [DataW.weightsAll, List.mem_append]
    rcases List.mem_cons.1 h with rfl | h
    · exact .inl hn
    · exact .inr (ih h)
theorem Light.slice {t e : TypeId} {elems spare : List (DataW H)} (ht : P.underlying t = some (.slice e)) (h : Light P t (.slice elems spare)) : (elems.length + spare.length) * P.bytesOf e ≤ 140737488351232 ∧ (∀ d ∈ elems, Light P e d) ∧ ∀ d ∈ spare, Light P e d := by
  unfold Light at *
  simp only [DataW.weights, ht] at h
  refine ⟨h _ (by simp), fun d hd n hn => h n ?_, fun d hd n hn => h n ?_⟩
  · exact List.mem_cons_of_mem _ (List.mem_append_left _ (weightsAll_mem hd hn))
  · exact List.mem_cons_of_mem _ (List.mem_append_right _ (weightsAll_mem hd hn))
theorem Light.field {t : TypeId} {fs : Array Field} {parts : List (DataW H)} (ht : P.underlying t = some (.struct fs)) (h : Light P t (.agg parts)) {j : Nat} {f : Field} {d : DataW H} (hf : fs[j]? = some f) (hd : parts[j]? = some d) : Light P f.type d := by
  unfold Light at *
  simp only [DataW.weights, ht] at h
  exact fun n hn => h n (DataW.weights_mem_each (t := f.type) (by simp [hf]) hd n hn)
theorem Light.string {t : TypeId} {s : List UInt8} (h : Light P t (.lit (.string s) : DataW H)) : s.length ≤ 140737488351232 := h _ (by simp [DataW.weights])

/-- cells behind cells are read -/
theorem reads_append {ad : Addr} {xs ys : List Value} (h1 : ∀ j u, xs[j]? = some u → W.cell? (ad.add j) = some u) (h2 : ∀ j u, ys[j]? = some u → W.cell? ((ad.add xs.length).add j) = some u) :
    ∀ j u, (xs ++ ys)[j]? = some u → W.cell? (ad.add j) = some u := by
  intro j u hu
  rcases Nat.lt_or_ge j xs.length with h | h
  · rw [List.getElem?_append_left h] at hu
    exact h1 j u hu
  · rw [List.getElem?_append_right h] at hu
    have := h2 _ u hu
    rwa [add_add, show xs.length + (j - xs.length) = j by omega] at this

/-- a row of elements of any kind, of 'size' cells each -/
theorem open_rows {R : Type} [Inhabited R] {t e : TypeId} {size bytes fuel : Nat} {cs : List Value} {x : DataW H × List MemPlace} {cells : R → List Value} {OK : R → Prop}
    (ht : P.underlying t = some (.slice e)) (hsz : P.cellsOf e = size) (hby : P.bytesOf e = bytes) (hpos : 0 < size)
    (he : ∀ n cs' x', DataW.trod enc P W 0 (fun _ => true) true n e cs' = some x' → Light P e x'.1 → ∃ r, cs' = cells r ∧ OK r)
    (h : DataW.trod enc P W 0 (fun _ => true) true fuel t cs = some x) (hw : Light P t x.1) :
    ∃ A l c, ∃ rs : List R, cs = [.slice A l c] ∧ rs.length = l ∧ Rd W W.heap.size A (rs.flatMap cells) ∧ (∀ r ∈ rs, OK r) ∧ l ≤ c ∧ c * bytes ≤ 140737488351232 := by
  rcases Go.Deep.open_slice ht h with ⟨rfl, _⟩ | ⟨a, len, cap, m, n, D, Pl, rfl, hb, hl, hm, hmm, rfl, hx⟩
  · exact ⟨none, 0, 0, [], rfl, rfl, .inl rfl, fun r hr => by simp at hr, Nat.le_refl _, by omega⟩
  simp only [if_true] at hmm
  subst hmm
  rw [hsz] at hx
  obtain ⟨w1, w2, w3⟩ := Light.slice ht hw
  simp only [List.length_map, List.length_range] at w1
  rw [show len + (m - len) = m by omega, hby] at w1
  have hlight : ∀ i, i < m → Light P e (D i) := fun i hi => by
    rcases Nat.lt_or_ge i len with h | h
    · exact w2 _ (List.mem_map.2 ⟨i, List.mem_range.2 h, rfl⟩)
    · refine w3 _ (List.mem_map.2 ⟨i - len, List.mem_range.2 (by omega), ?_⟩)
      show D (len + (i - len)) = D i
      rw [show len + (i - len) = i by omega]
  obtain ⟨r, hr⟩ := Go.Deep.choose_lt (α := R) (p := fun i r => W.cells? 0 (a.add (i * size)) size = some (cells r) ∧ OK r) (fun i hi => by
    obtain ⟨cs', h1, h2⟩ := hx i hi
    obtain ⟨r, rfl, hok⟩ := he _ _ _ h2 (hlight i hi)
    exact ⟨r, h1, hok⟩)
  have key : ∀ k, k ≤ m → (((List.range k).map r).flatMap cells).length = k * size ∧ ∀ j u, (((List.range k).map r).flatMap cells)[j]? = some u → W.cell? (a.add j) = some u := by
    intro k
    induction k with
    | zero => intro _; exact ⟨by simp, fun j u hu => by simp at hu⟩
    | succ k ih =>
      intro hk
      obtain ⟨i1, i2⟩ := ih (by omega)
      obtain ⟨h1, _⟩ := hr k (by omega)
      obtain ⟨_, hlen, hcell⟩ := World.cells?_some h1
      rw [List.range_succ, List.map_append, List.flatMap_append]
      simp only [List.map_cons, List.map_nil, List.flatMap_cons, List.flatMap_nil, List.append_nil]
      refine ⟨by rw [List.length_append, i1, hlen]; rw [Nat.succ_mul], reads_append i2 fun j u hu => ?_⟩
      rw [i1]
      have hj : j < size := by rw [← hlen]; exact (List.getElem?_eq_some_iff.1 hu).1
      rw [hcell j hj]
      exact hu
  refine ⟨some a, len, m, (List.range len).map r, rfl, by simp, ?_, ?_, hl, w1⟩
  · rcases Nat.eq_zero_or_pos len with rfl | h0
    · exact .inl (by simp)
    · refine .inr ⟨a, rfl, ?_, (key len hl).2⟩
      have hne : 0 < (((List.range len).map r).flatMap cells).length := by rw [(key len hl).1]; exact Nat.mul_pos h0 hpos
      have := World.block_lt_of_cell? W _ ((key len hl).2 0 _ (List.getElem?_eq_getElem hne))
      rwa [add_block] at this
  · intro q hq
    obtain ⟨i, hi, rfl⟩ := List.mem_map.1 hq
    exact (hr i (by have := List.mem_range.1 hi; omega)).2

theorem flat_bytes : ∀ bs : List UInt8, bs.flatMap (fun b => [bv b]) = bvs bs
  | [] => rfl
  | b :: r => congrArg (bv b :: ·) (flat_bytes r)

/-- bytes, by their cells -/
theorem open_bytes_cells {fuel : Nat} {cs : List Value} {t e : TypeId} {x : DataW H × List MemPlace} (ht : P.underlying t = some (.slice e)) (he : P.underlying e = some (.int .u8)) (hc : P.cellsOf e = 1) (hby : P.bytesOf e = 1)
    (h : DataW.trod enc P W 0 (fun _ => true) true fuel t cs = some x) (hw : Light P t x.1) :
    ∃ A l c bs, cs = [.slice A l c] ∧ Sl W W.heap.size A l c bs ∧ c ≤ 140737488351232 := by
  obtain ⟨A, l, c, bs, rfl, hl, hr, _, hlc, hm⟩ := open_rows (R := UInt8) (cells := fun b => [bv b]) (OK := fun _ => True) ht hc hby (by omega) (fun n cs' x' h' _ => by
    obtain ⟨n, rfl, _, hw⟩ := DataW.trod_int he h'
    have hw2 : 0 ≤ n ∧ n ≤ 255 := by simpa [Lit.wf, IntKind.min, IntKind.max, IntKind.signed, IntKind.bits] using hw
    refine ⟨UInt8.ofNat n.toNat, ?_, trivial⟩
    simp only [bv, UInt8.toNat_ofNat']
    congr 2
    omega) h hw
  rw [flat_bytes] at hr
  exact ⟨A, l, c, bs, rfl, ⟨hr, hl, hlc⟩, by omega⟩

/-- an argument that is a slice of bytes -/
theorem open_bytes_w {r : Reach} {b0 : Nat} {t e : TypeId} {v : Value} {d : DataW H} {ps : List MemPlace} (ht : P.underlying t = some (.slice e)) (he : P.underlying e = some (.int .u8)) (hc : P.cellsOf e = 1) (hby : P.bytesOf e = 1)
    (hval : Value.okWide P W r b0 t v) (h : DataW.Trod enc P W 0 (fun _ => true) true t v d ps) (hw : Light P t d) :
    ∃ A l c bs, v = .slice A l c ∧ Sl W W.heap.size A l c bs ∧ c ≤ 140737488351232 := by
  obtain ⟨a, l, c, rfl⟩ := okWide_slice ht hval
  obtain ⟨fuel, hf⟩ := h
  obtain ⟨A, l', c', bs, hcs, hs, hm⟩ := open_bytes_cells ht he hc hby hf hw
  have hcs' : [Value.slice a l c] = [Value.slice A l' c'] := hcs
  simp only [List.cons.injEq, and_true] at hcs'
  exact ⟨A, l', c', bs, hcs', hs, hm⟩

/-- an argument that is a slice of whole numbers -/
theorem flat_ints : ∀ zs : List Int, zs.flatMap (fun z => [Value.int .i64 z]) = zs.map (Value.int .i64)
  | [] => rfl
  | z :: r => congrArg (Value.int .i64 z :: ·) (flat_ints r)
theorem open_ints_w {r : Reach} {b0 : Nat} {t e : TypeId} {v : Value} {d : DataW H} {ps : List MemPlace} (ht : P.underlying t = some (.slice e)) (he : P.underlying e = some (.int .i64)) (hc : P.cellsOf e = 1) (hby : P.bytesOf e = 8)
    (hval : Value.okWide P W r b0 t v) (h : DataW.Trod enc P W 0 (fun _ => true) true t v d ps) (hw : Light P t d) :
    ∃ A l c, ∃ zs : List Int, v = .slice A l c ∧ zs.length = l ∧ Rd W W.heap.size A (zs.map (Value.int .i64)) ∧ (∀ z ∈ zs, -9223372036854775808 ≤ z ∧ z ≤ 9223372036854775807) ∧ l ≤ c ∧ c * 8 ≤ 140737488351232 := by
  obtain ⟨a, l, c, rfl⟩ := okWide_slice ht hval
  obtain ⟨fuel, hf⟩ := h
  obtain ⟨A, l', c', zs, hcs, hl, hr, hok, hlc, hm⟩ := open_rows (R := Int) (cells := fun z => [Value.int .i64 z]) (OK := fun z => -9223372036854775808 ≤ z ∧ z ≤ 9223372036854775807) ht hc hby (by omega) (fun n cs' x' h' _ => by
    obtain ⟨n, rfl, _, hw⟩ := DataW.trod_int he h'
    exact ⟨n, rfl, wf64 hw⟩) hf hw
  have hcs' : [Value.slice a l c] = [Value.slice A l' c'] := hcs
  simp only [List.cons.injEq, and_true] at hcs'
  rw [flat_ints] at hr
  exact ⟨A, l', c', zs, hcs', hl, hr, hok, hlc, hm⟩
end
end

/- Arguments that are rows of acts of three numbers and three natural numbers, opened. -/
section
open Go.RowKit Go.ChangeShapes Go.WideShapes Go.ChangeAt
set_option maxRecDepth 100000

def Act6.cells (t : Act6) : List Value := [.int .i64 t.d, .int .i64 t.ss, .int .i64 t.id, .int .u64 t.ep, .int .u64 t.now, .int .u64 t.n]
def azC (ts : List Act6) : List Value := ts.flatMap Act6.cells
theorem azC_length : ∀ ts : List Act6, (azC ts).length = ts.length * 6
  | [] => rfl
  | r :: rs => by
    have := azC_length rs
    simp only [azC, List.flatMap_cons, List.length_append, List.length_cons, Act6.cells, List.length_nil] at this ⊢
    omega
theorem azC_at : ∀ (rs : List Act6) (j : Nat) (h : j < rs.length), (azC rs)[j * 6]? = some (.int .i64 rs[j].d) ∧ (azC rs)[j * 6 + 1]? = some (.int .i64 rs[j].ss) ∧ (azC rs)[j * 6 + 2]? = some (.int .i64 rs[j].id) ∧ (azC rs)[j * 6 + 3]? = some (.int .u64 rs[j].ep) ∧ (azC rs)[j * 6 + 4]? = some (.int .u64 rs[j].now) ∧ (azC rs)[j * 6 + 5]? = some (.int .u64 rs[j].n)
  | [], _, h => by simp at h
  | r :: rs, 0, _ => by simp [azC, Act6.cells]
  | r :: rs, j + 1, h => by
    have := azC_at rs j (by simpa using h)
    have e1 : (j + 1) * 6 = j * 6 + 6 := by omega
    simp only [azC, List.flatMap_cons] at this ⊢
    rw [e1]
    simpa [Act6.cells] using this
/-- a row of acts that is read -/
structure AZ (w : World) (A : Option Addr) (n : Nat) (ts : List Act6) : Prop where
  len : ts.length = n
  rd : Rd w w.heap.size A (azC ts)
theorem AZ.next {w w' : World} {A : Option Addr} {n : Nat} {ts : List Act6} (h : AZ w A n ts) (hb : Below w.heap.size w w') : AZ w' A n ts := ⟨h.len, (h.rd.below hb (Nat.le_refl _)).more hb.size⟩
theorem AZ.at_ {w : World} {A : Option Addr} {n : Nat} {ts : List Act6} (h : AZ w A n ts) {j : Nat} (hj : j < ts.length) : ∃ ad, A = some ad ∧ ad.block < w.heap.size ∧ ∀ w', Below w.heap.size w w' → w'.cell? (ad.add (j * 6)) = some (.int .i64 ts[j].d) ∧ w'.cell? ⟨(ad.add (j * 6)).block, (ad.add (j * 6)).off + 1, none⟩ = some (.int .i64 ts[j].ss) ∧ w'.cell? ⟨(ad.add (j * 6)).block, (ad.add (j * 6)).off + 2, none⟩ = some (.int .i64 ts[j].id) ∧ w'.cell? ⟨(ad.add (j * 6)).block, (ad.add (j * 6)).off + 3, none⟩ = some (.int .u64 ts[j].ep) ∧ w'.cell? ⟨(ad.add (j * 6)).block, (ad.add (j * 6)).off + 4, none⟩ = some (.int .u64 ts[j].now) ∧ w'.cell? ⟨(ad.add (j * 6)).block, (ad.add (j * 6)).off + 5, none⟩ = some (.int .u64 ts[j].n) := by
  obtain ⟨ad, hA, hb, hc⟩ := h.rd.addr (by rw [azC_length]; omega)
  have key : ∀ (w' : World) (i : Nat) (v : Value), Below w.heap.size w w' → (azC ts)[j * 6 + i]? = some v → w'.cell? (ad.add (j * 6 + i)) = some v := fun w' i v hw hv => by
    rw [hw.cell (by rw [add_block]; exact hb)]
    exact hc _ _ hv
  obtain ⟨e0, e1, e2, e3, e4, e5⟩ := azC_at ts j hj
  have a1 : ∀ i, i ≠ 0 → (⟨(ad.add (j * 6)).block, (ad.add (j * 6)).off + i, none⟩ : Addr) = ad.add (j * 6 + i) := fun i hi => by rw [← add_add]; unfold Addr.add; simp [hi]
  refine ⟨ad, hA, hb, fun w' hw => ⟨key w' 0 _ hw e0, ?_, ?_, ?_, ?_, ?_⟩⟩
  · rw [a1 1 (by decide)]; exact key w' 1 _ hw e1
  · rw [a1 2 (by decide)]; exact key w' 2 _ hw e2
  · rw [a1 3 (by decide)]; exact key w' 3 _ hw e3
  · rw [a1 4 (by decide)]; exact key w' 4 _ hw e4
  · rw [a1 5 (by decide)]; exact key w' 5 _ hw e5

section
variable {H : Type} {enc : TypeId × Value → H} {W : World}
theorem open_act6_cells {fuel : Nat} {cs : List Value} {x : DataW H × List MemPlace} (h : DataW.trod enc Tryz.prog W 0 (fun _ => true) true fuel 33 cs = some x) :
    ∃ t : Act6, cs = t.cells := by
  obtain ⟨xs, n, _, rfl, hl, hlen, hf⟩ := DataW.trod_struct Tryz.underlying33 h
  have h2 : Tryz.prog.cellsOf 33 = 6 := by kernel_rfl
  rw [h2] at hl
  match cs, hl with
  | [v0, v1, v2, v3, v4, v5], _ =>
    simp only [Array.size] at hlen
    match xs, hlen with
    | [y0, y1, y2, y3, y4, y5], _ =>
      have c1 : Tryz.prog.cellsOf 3 = 1 := by kernel_rfl
      have c2 : Tryz.prog.cellsOf 22 = 1 := by kernel_rfl
      have e0 : DataW.trod enc Tryz.prog W 0 (fun _ => true) true n 3 (([v0, v1, v2, v3, v4, v5].drop 0).take (Tryz.prog.cellsOf 3)) = some y0 := hf 0 _ rfl
      have e1 : DataW.trod enc Tryz.prog W 0 (fun _ => true) true n 3 (([v0, v1, v2, v3, v4, v5].drop 1).take (Tryz.prog.cellsOf 3)) = some y1 := hf 1 _ rfl
      have e2 : DataW.trod enc Tryz.prog W 0 (fun _ => true) true n 3 (([v0, v1, v2, v3, v4, v5].drop 2).take (Tryz.prog.cellsOf 3)) = some y2 := hf 2 _ rfl
      have e3 : DataW.trod enc Tryz.prog W 0 (fun _ => true) true n 22 (([v0, v1, v2, v3, v4, v5].drop 3).take (Tryz.prog.cellsOf 22)) = some y3 := hf 3 _ rfl
      have e4 : DataW.trod enc Tryz.prog W 0 (fun _ => true) true n 22 (([v0, v1, v2, v3, v4, v5].drop 4).take (Tryz.prog.cellsOf 22)) = some y4 := hf 4 _ rfl
      have e5 : DataW.trod enc Tryz.prog W 0 (fun _ => true) true n 22 (([v0, v1, v2, v3, v4, v5].drop 5).take (Tryz.prog.cellsOf 22)) = some y5 := hf 5 _ rfl
      rw [c1] at e0 e1 e2
      rw [c2] at e3 e4 e5
      obtain ⟨a0, h10, _, _⟩ := DataW.trod_int (k := .i64) Tryz.underlying3 (show DataW.trod enc Tryz.prog W 0 (fun _ => true) true n 3 [v0] = some y0 from e0)
      obtain ⟨a1, h11, _, _⟩ := DataW.trod_int (k := .i64) Tryz.underlying3 (show DataW.trod enc Tryz.prog W 0 (fun _ => true) true n 3 [v1] = some y1 from e1)
      obtain ⟨a2, h12, _, _⟩ := DataW.trod_int (k := .i64) Tryz.underlying3 (show DataW.trod enc Tryz.prog W 0 (fun _ => true) true n 3 [v2] = some y2 from e2)
      obtain ⟨a3, h13, _, _⟩ := DataW.trod_int (k := .u64) Tryz.underlying22 (show DataW.trod enc Tryz.prog W 0 (fun _ => true) true n 22 [v3] = some y3 from e3)
      obtain ⟨a4, h14, _, _⟩ := DataW.trod_int (k := .u64) Tryz.underlying22 (show DataW.trod enc Tryz.prog W 0 (fun _ => true) true n 22 [v4] = some y4 from e4)
      obtain ⟨a5, h15, _, _⟩ := DataW.trod_int (k := .u64) Tryz.underlying22 (show DataW.trod enc Tryz.prog W 0 (fun _ => true) true n 22 [v5] = some y5 from e5)
      simp only [List.cons.injEq, and_true] at h10 h11 h12 h13 h14 h15
      subst h10 h11 h12 h13 h14 h15
      exact ⟨⟨a0, a1, a2, a3, a4, a5⟩, rfl⟩

theorem open_act6s {r : Reach} {b0 : Nat} {v : Value} {d : DataW H} {ps : List MemPlace} (hval : Value.okWide Tryz.prog W r b0 23 v) (h : DataW.Trod enc Tryz.prog W 0 (fun _ => true) true 23 v d ps) (hw : Light Tryz.prog 23 d) :
    ∃ A l c ts, v = .slice A l c ∧ AZ W A l ts := by
  obtain ⟨a, l, c, rfl⟩ := okWide_slice Tryz.underlying23 hval
  obtain ⟨fuel, hf⟩ := h
  obtain ⟨A, l', c', ts, hcs, hl, hr, _, _, _⟩ := open_rows (R := Act6) (cells := Act6.cells) (size := 6) (bytes := 48) (OK := fun _ => True) Tryz.underlying23 (by kernel_rfl) (by kernel_rfl) (by omega)
    (fun n cs' x' h' _ => by
      obtain ⟨t, ht⟩ := open_act6_cells h'
      exact ⟨t, ht, trivial⟩) hf hw
  have hcs' : [Value.slice a l c] = [Value.slice A l' c'] := hcs
  simp only [List.cons.injEq, Value.slice.injEq, and_true] at hcs'
  obtain ⟨rfl, rfl, rfl⟩ := hcs'
  exact ⟨a, l, c, ts, rfl, ⟨hl, hr⟩⟩
end
end

/- Layer 10's laws: rows that a pool told, beside the pool. -/
section
open Go.RowKit
set_option maxRecDepth 100000

theorem Solo.besides {w0 w w' : World} {X : Thing} {N N' : Nat → Prop} (h : Solo w0 X N w) (hb : Below w.heap.size w w') (hg : ∀ k, N' k → w.heap.size ≤ k ∧ k < w'.heap.size) : Solo w0 X (fun k => N' k ∨ N k) w' := by
  obtain ⟨⟨S, h1, h2⟩, h3, h4⟩ := h
  refine ⟨⟨S, Thing.next h1 hb, fun k hk => ⟨(h2 k hk).1, fun e => e.elim (fun e => by have := X.lt h1 k hk; have := (hg k e).1; omega) (h2 k hk).2⟩⟩, h3.trans (hb.mono h3.size), fun k hk => ?_⟩
  rcases hk with hk | hk
  · exact (hg k hk).2
  · have := h4 k hk
    have := hb.size
    omega
/-- a row's block -/
def rowB (A : Option Addr) (k : Nat) : Prop := ∃ ad, A = some ad ∧ ad.block = k
theorem rowB_own {A : Option Addr} {n c k : Nat} (h : rowB A k) : (Value.slice A n c).ownBlock = some k := by
  obtain ⟨ad, rfl, rfl⟩ := h
  rfl
theorem IR.kept {w w' : World} {A : Option Addr} {n : Nat} {l : List Inf} (h : IR w A n l) (hz : w.heap.size ≤ w'.heap.size) (hk : ∀ k, rowB A k → w'.heap[k]? = w.heap[k]?) : IR w' A n l := ⟨h.len, h.rd.offR hz fun ad hA => hk _ ⟨ad, hA, rfl⟩⟩
theorem NR.kept {w w' : World} {A : Option Addr} {n : Nat} {zs : List Int} (h : NR w A n zs) (hz : w.heap.size ≤ w'.heap.size) (hk : ∀ k, rowB A k → w'.heap[k]? = w.heap[k]?) : NR w' A n zs := h.off hz fun ad hA => hk _ ⟨ad, hA, rfl⟩
section
variable {b : Nat} {mo idl m : Int} {p : Pl} {S : Nat → Prop} {w w0 : World} {N : Nat → Prop}
theorem Solo.conns (h : Solo w0 (PP b mo idl m p) N w) : Calls Tryz.prog 11 #[.pointer (some ⟨b, 0, none⟩)] w fun e w' => ∃ A n c, e = .returned (.slice A n c) ∧ IR w' A n (p.l.map infoH) ∧ n ≤ 6 ∧ Below w.heap.size w w' ∧ Solo w0 (PP b mo idl m p) (fun k => rowB A k ∨ N k) w' := by
  obtain ⟨S, hp, _⟩ := h.at_
  refine (pconns_ok hp).mono ?_
  rintro e w' ⟨A, n, c, rfl, ho, hn, hb⟩
  exact ⟨A, n, c, rfl, IR.of_own ho, hn, hb, h.besides hb fun k hk => ho.lt k (rowB_own hk)⟩
theorem pwaiting_own (h : (PP b mo idl m p).p S w) :
    Calls Tryz.prog 14 #[.pointer (some ⟨b, 0, none⟩)] w fun e w' => ∃ A n c, e = .returned (.slice A n c) ∧ w'.ownsRow w.heap.size 3 1 (.slice A n c) n (ivs p.row) ∧ n ≤ 12 ∧ Below w.heap.size w w' := by
  obtain ⟨rb, hu⟩ := PP.rowc h
  obtain ⟨c4, _, hall, _, _⟩ := hu w (Below.refl _ _)
  have HC := Lib.hid hall
  clear h hu hall
  go_enter Tryz.func14, Tryz.ntmps14
  go_wp2_with fail
  refine HC.out.mono ?_
  rintro e w1 ⟨A, n, c, rfl, h1, h2, h3⟩
  have H1 := Lib.hid h1
  have H3 := Lib.hid h3
  clear h1 h3 HC
  go_wp2_with fail
  go_ret
  exact ⟨A, n, c, rfl, H1.out, h2, H3.out⟩
theorem Solo.waiting (h : Solo w0 (PP b mo idl m p) N w) : Calls Tryz.prog 14 #[.pointer (some ⟨b, 0, none⟩)] w fun e w' => ∃ A n c, e = .returned (.slice A n c) ∧ NS w' A n c p.row ∧ n ≤ 12 ∧ Below w.heap.size w w' ∧ Solo w0 (PP b mo idl m p) (fun k => rowB A k ∨ N k) w' := by
  obtain ⟨S, hp, _⟩ := h.at_
  refine (pwaiting_own hp).mono ?_
  rintro e w' ⟨A, n, c, rfl, ho, hn, hb⟩
  exact ⟨A, n, c, rfl, NS.of_own ho, hn, hb, h.besides hb fun k hk => ho.lt k (rowB_own hk)⟩
theorem Solo.act {k : Nat} (t : Act6) (h : Solo w0 (PP b mo idl m p) N w) (hk : KInv mo m k p) (h1000 : k ≤ 1000) :
    Calls Tryz.prog 7 #[.pointer (some ⟨b, 0, none⟩), .agg #[.int .i64 t.d, .int .i64 t.ss, .int .i64 t.id, .int .u64 t.ep, .int .u64 t.now, .int .u64 t.n]] w fun e w' => e = .returned (told6V (doT mo idl m t p)) ∧ Solo w0 (PP b mo idl m (doP mo idl m t p)) N w' ∧ (∀ k, N k → w'.heap[k]? = w.heap[k]?) ∧ w.heap.size ≤ w'.heap.size := by
  obtain ⟨⟨S, h1, h2⟩, h3, h4⟩ := h
  refine (dop_ok t hk h1000 h1).mono ?_
  rintro e w' ⟨he, ht⟩
  obtain ⟨s1, s2⟩ := Solo.turn h3 h4 h2 ht
  exact ⟨he, s1, s2, ht.off.size⟩
end
theorem doP_last {mo m : Int} {k : Nat} {p : Pl} (h : KInv mo m k p) (hk : k ≤ 1000) (idl : Int) (t : Act6) : p.last ≤ (doP mo idl m t p).last := by
  have hw : IntKind.i64.wrap (p.last + 1) = p.last + 1 := by
    have := h.ids.low
    have := h.ids.high
    rw [IntKind.wrap_i64]
    omega
  have hg : ∀ ss ep now, p.last ≤ (giveP mo ss ep now p).last := fun ss ep now => by
    rw [giveP_eq mo ss ep now p rfl]
    split
    · exact Int.le_refl _
    split
    · exact Int.le_refl _
    · show p.last ≤ IntKind.i64.wrap (p.last + 1)
      omega
  unfold doP
  split
  · unfold acqP
    split
    · exact Int.le_refl _
    split
    · exact Int.le_refl _
    split
    · exact Int.le_refl _
    split
    · split
      · exact hg _ _ _
      · exact hg _ _ _
    · exact Int.le_refl _
  split
  · unfold serveP
    split
    · exact Int.le_refl _
    · split
      · exact hg _ _ _
      · exact hg _ _ _
  split
  · exact Int.le_refl _
  split
  · unfold sendP
    split <;> exact Int.le_refl _
  split
  · unfold replyP
    split <;> exact Int.le_refl _
  split
  · unfold soilP
    split <;> exact Int.le_refl _
  split
  · unfold releaseP
    split
    · exact Int.le_refl _
    split <;> exact Int.le_refl _
  split
  · unfold breakP
    split <;> exact Int.le_refl _
  split
  · exact Int.le_refl _
  split
  · exact Int.le_refl _
  · exact Int.le_refl _
end

/- The document's layer 10: give: contract. -/
section
open Go.RowKit
set_option maxRecDepth 100000

section
variable {b : Nat} {mo idl m : Int} {p : Pl} {S : Nat → Prop} {w : World}
set_option maxHeartbeats 8000000 in
theorem rgive_ok (ss ep now : Int) (h : (RP b mo idl m p).p S w) :
    Calls Tryz.prog 64 #[.pointer (some ⟨b, 0, none⟩), .int .i64 ss, .int .u64 ep, .int .u64 now] w fun e w' => e = .returned (.tuple #[.int .i64 (giveI mo ep p).1, .bool (giveI mo ep p).2]) ∧ Turn (RP b mo idl m (giveP mo ss ep now p)) S w w' := by
  have H := Lib.hid h
  obtain ⟨N, hN⟩ : ∃ N, p.l.length = N := ⟨_, rfl⟩
  have HN := Lib.hid hN
  obtain ⟨_, _, _, h6⟩ := RP.len h
  have hn6 : N ≤ 6 := by omega
  clear h6
  clear h hN
  go_enter Tryz.func64, Tryz.ntmps64
  go_wp2_with fail
  go_loopw [10] (fun i wr => ∃ k : Nat, k ≤ N ∧ i = .int .i64 k ∧ Hid (Turn (RP b mo idl m { p with l := upto (cut1 ep) k p.l }) S w wr)) (fun i _ => N - (intOf i).toNat)
  case atStart => exact ⟨0, Nat.zero_le _, rfl, Lib.hid (by rw [upto_zero]; exact Turn.here H.out)⟩
  case round =>
    obtain ⟨k, hk, rfl, hT⟩ := hrel
    obtain ⟨S', hp, hS'⟩ := hT.out.at_
    obtain ⟨A, cc, c3, _⟩ := RP.len hp
    have hlen : ({ p with l := upto (cut1 ep) k p.l } : Pl).l.length = N := by rw [← HN.out]; exact upto_length
    rw [hlen] at c3
    by_cases hlt : k < N
    · have hkl : k < p.l.length := by rw [HN.out]; exact hlt
      have hk2 : k < ({ p with l := upto (cut1 ep) k p.l } : Pl).l.length := by rw [hlen]; exact hlt
      obtain ⟨g, cc2, a, _, hu⟩ := RP.get hp hk2
      have hel : ({ p with l := upto (cut1 ep) k p.l } : Pl).l[k] = p.l[k] := upto_get hkl hk2
      rw [hel, hlen] at hu
      obtain ⟨_, _, q3, _, q1, _, hc, hnx⟩ := hu wr (Below.refl _ _)
      obtain ⟨rfl, rfl⟩ : A = some ⟨g, 0, none⟩ ∧ cc = cc2 := by
        rw [c3] at q3
        simp only [Option.some.injEq, Value.slice.injEq, true_and] at q3
        exact q3
      clear q3
      obtain ⟨⟨r0, r1, _⟩, _⟩ := rcell (RC.at_ hc).1
      have HD := Lib.hid (rdrain_ok hc)
      have hr1 : cut1 ep p.l[k] = if p.l[k].c.s = 1 ∧ p.l[k].ep ≠ ep then p.l[k].set p.l[k].c.drainC else p.l[k] := rfl
      have hsame : ¬ (p.l[k].c.s = 1 ∧ p.l[k].ep ≠ ep) → Turn (RP b mo idl m { p with l := upto (cut1 ep) (k + 1) p.l }) S w wr := fun e => by
        rw [upto_same hkl (by rw [hr1, if_neg e])]
        exact hT.out
      have hturn : (p.l[k].c.s = 1 ∧ p.l[k].ep ≠ ep) → ∀ w', Turn (RC a p.l[k].ep p.l[k].c.drainC) (fun k => k = a) wr w' → Turn (RP b mo idl m { p with l := upto (cut1 ep) (k + 1) p.l }) S w w' := fun e w' ht => by
        rw [upto_next hkl, hr1, if_pos e]
        exact Turn.comp hS' hT.out.off (hnx _ w' ht)
      have HSM := Lib.hid hsame
      have HTU := Lib.hid hturn
      clear hu hnx hc hel hp hS' hT hr1 hsame hturn
      generalize p.l[k].ep = pe at *
      generalize p.l[k].c = pc at *
      have HSM2 := HSM
      have HTU2 := HTU
      generalize pc.s = s at *
      clear HSM HTU
      by_cases hs : s = 1
      · have hs1 : (s == 1) = true := by simpa using hs
        by_cases he : pe = ep
        · have he1 : (pe == ep) = true := by simpa using he
          have he2 : (pe != ep) = false := by simpa using he
          have HT := Lib.hid (HSM2.out (fun e => e.2 he))
          clear hs he HSM2 HTU2 HD
          go_wp2_with fail
          go_roundw
          case rel => exact ⟨k + 1, by omega, by go_num, HT⟩
          case measure => simp [intOf]; omega
        · have he1 : (pe == ep) = false := by simpa using he
          have he2 : (pe != ep) = true := by simpa using he
          have HT0 := Lib.hid (HTU2.out ⟨hs, he⟩)
          clear hs he HSM2 HTU2
          go_wp2_with fail
          refine HD.out.mono ?_
          rintro e w4 ⟨rfl, ht⟩
          have HT := Lib.hid (HT0.out w4 ht)
          clear ht HT0 HD
          go_wp2_with fail
          go_roundw
          case rel => exact ⟨k + 1, by omega, by go_num, HT⟩
          case measure => simp [intOf]; omega
      · have hs1 : (s == 1) = false := by simpa using hs
        have HT := Lib.hid (HSM2.out (fun e => hs e.1))
        clear hs HSM2 HTU2 HD
        go_wp2_with fail
        go_roundw
        case rel => exact ⟨k + 1, by omega, by go_num, HT⟩
        case measure => simp [intOf]; omega
    · obtain rfl : k = N := by omega
      have HS := Lib.hid (rsweep_ok hp)
      have hfin : Hid (∀ w', Turn (RP b mo idl m (sweepP { p with l := upto (cut1 ep) k p.l })) S' wr w' → Turn (RP b mo idl m { p with l := sweepH (p.l.map (cut1 ep)) }) S w w') := Lib.hid fun w' ht => by
        rw [upto_all (by rw [HN.out]; exact Nat.le_refl _)] at ht
        exact Turn.comp hS' hT.out.off ht
      clear hp hS' hT
      go_wp2_with fail
      refine HS.out.mono ?_
      rintro e w4 ⟨rfl, ht⟩
      have HT := Lib.hid (hfin.out w4 ht)
      have hgi : giveI mo ep p = if 0 ≤ firstH Hd.idle (sweepH (p.l.map (cut1 ep))) then ((((sweepH (p.l.map (cut1 ep))).getD (firstH Hd.idle (sweepH (p.l.map (cut1 ep)))).toNat default).id), true) else if mo ≤ (sweepH (p.l.map (cut1 ep))).length then (0, false) else (IntKind.i64.wrap (p.last + 1), true) := rfl
      have hgp : giveP mo ss ep now p = if 0 ≤ firstH Hd.idle (sweepH (p.l.map (cut1 ep))) then { p with l := turnH (sweepH (p.l.map (cut1 ep))) (firstH Hd.idle (sweepH (p.l.map (cut1 ep)))) fun h => h.set (h.c.lendC ss) }
        else if mo ≤ (sweepH (p.l.map (cut1 ep))).length then { p with l := sweepH (p.l.map (cut1 ep)) }
        else { p with l := sweepH (p.l.map (cut1 ep)) ++ [⟨IntKind.i64.wrap (p.last + 1), ep, (Cn.idle false 0).lendC ss, now⟩], last := IntKind.i64.wrap (p.last + 1) } := rfl
      have HGI := Lib.hid hgi
      have HGP := Lib.hid hgp
      clear ht hfin HS hgi hgp c3 H HN hlt hlen
      obtain ⟨l1, hl1⟩ : ∃ y, sweepH (p.l.map (cut1 ep)) = y := ⟨_, rfl⟩
      rw [hl1] at HT HGI HGP
      clear hl1
      obtain ⟨S4, hp4, hS4⟩ := HT.out.at_
      have HP4 := Lib.hid hp4
      have HS4 := Lib.hid hS4
      obtain ⟨A4, cc4, c3, h64⟩ := RP.len hp4
      obtain ⟨M, hM⟩ : ∃ M, l1.length = M := ⟨_, rfl⟩
      have c3' : w4.cell? ⟨b, 3, none⟩ = some (.slice A4 M cc4) := by rw [← hM]; exact c3
      have hm6 : M ≤ 6 := by rw [← hM]; exact h64
      have HM := Lib.hid hM
      clear c3 h64 hM hp4 hS4
      go_wp2_with fail
      go_loopw [11] (fun i wr => ∃ q : Nat, q ≤ M ∧ i = .int .i64 q ∧ Hid (∀ j (hj : j < l1.length), j < q → Hd.idle l1[j] = false) ∧ wr = w4) (fun i _ => M - (intOf i).toNat)
      case atStart => exact ⟨0, Nat.zero_le _, rfl, Lib.hid (fun j _ h => absurd h (Nat.not_lt_zero _)), rfl⟩
      case round =>
        obtain ⟨q, hq, rfl, hne, rfl⟩ := hrel
        by_cases hlt : q < M
        · have hkl : q < l1.length := by rw [HM.out]; exact hlt
          obtain ⟨g, cc2, a, _, hu⟩ := RP.get HP4.out (i := q) hkl
          dsimp only at hu
          rw [HM.out] at hu
          obtain ⟨_, _, q3, _, q1, _, hc, hnx⟩ := hu wr (Below.refl _ _)
          obtain ⟨rfl, rfl⟩ : A4 = some ⟨g, 0, none⟩ ∧ cc4 = cc2 := by
            rw [c3'] at q3
            simp only [Option.some.injEq, Value.slice.injEq, true_and] at q3
            exact q3
          clear q3 hu
          obtain ⟨⟨_, r1, _⟩, _⟩ := rcell (RC.at_ hc).1
          by_cases hs : l1[q].c.s = 1
          · have hs1 : (l1[q].c.s == 1) = true := by simpa using hs
            have hfi : firstH Hd.idle l1 = q := firstH_at hkl hne.out hs1
            have hgi : giveI mo ep p = (l1[q].id, true) := by
              rw [HGI.out, hfi, if_pos (by omega)]
              simp [List.getD_eq_getElem?_getD, hkl]
            have hgp : giveP mo ss ep now p = { p with l := l1.set q (l1[q].set (l1[q].c.lendC ss)) } := by
              rw [HGP.out, hfi, if_pos (by omega), turnH_at hkl]
            have HL := Lib.hid (rlend_ok ss hc)
            have HNX : Hid (∀ w', Turn (RC a l1[q].ep (l1[q].c.lendC ss)) (fun k => k = a) wr w' → Turn (RP b mo idl m (giveP mo ss ep now p)) S4 wr w') := Lib.hid fun w' ht => by
              rw [hgp]
              exact hnx _ w' ht
            have HID : Hid (∀ S5 w', (RP b mo idl m (giveP mo ss ep now p)).p S5 w' → ∃ (g cc : Nat), w'.cell? ⟨b, 3, none⟩ = some (.slice (some ⟨g, 0, none⟩) M cc) ∧ w'.cell? ⟨g, q * 3, none⟩ = some (.int .i64 l1[q].id)) := Lib.hid fun S5 w' h5 => by
              rw [hgp] at h5
              obtain ⟨g5, cc5, _, _, hu5⟩ := RP.get h5 (i := q) (by simpa using hkl)
              obtain ⟨_, _, z3, z0, _⟩ := hu5 w' (Below.refl _ _)
              refine ⟨g5, cc5, ?_, ?_⟩
              · simpa [HM.out] using z3
              · simpa [Hd.set] using z0
            have HGI2 := Lib.hid hgi
            clear hs hfi hgi hgp hc hnx HGI HGP hne
            generalize l1[q].id = id at *
            generalize l1[q].c = pc at *
            go_wp2_with fail
            refine HL.out.mono ?_
            rintro e w5 ⟨rfl, ht⟩
            have ht5 := HNX.out w5 ht
            obtain ⟨S5, hp5, _⟩ := ht5.at_
            obtain ⟨g5, cc5, z3, z0⟩ := HID.out S5 w5 hp5
            have HT5 := Lib.hid (Turn.comp HS4.out HT.out.off ht5)
            clear ht ht5 hp5 HNX HID HL
            go_wp2_with fail
            go_ret2
            exact ⟨by rw [HGI2.out]; rfl, HT5.out⟩
          · have hs1 : (l1[q].c.s == 1) = false := by simpa using hs
            have hne2 : Hid (∀ j (hj : j < l1.length), j < q + 1 → Hd.idle l1[j] = false) := Lib.hid (fun j hj hjk => by
              by_cases h : j = q
              · subst h; exact hs1
              · exact hne.out j hj (by omega))
            clear hs hne hc hnx
            generalize l1[q].c = pc at *
            go_wp2_with fail
            go_roundw
            case rel => exact ⟨q + 1, by omega, by go_num, hne2, trivial⟩
            case measure => simp [intOf]; omega
        · have hfi : firstH Hd.idle l1 = -1 := firstH_none fun y hy => by
            obtain ⟨j, hj, rfl⟩ := List.getElem_of_mem hy
            exact hne.out j hj (by have := HM.out; omega)
          obtain rfl : q = M := by omega
          obtain ⟨rs, A5, n5, c5, rb, SR, hm5⟩ := RP.at_ HP4.out
          have hmo : mo ≤ 6 := hm5.few.2
          obtain ⟨⟨b0, _, _, _, b4⟩, _, f4⟩ := rpcells hm5.top
          dsimp only at b4
          clear hm5
          by_cases hfull : mo ≤ (q : Int)
          · have hgi : giveI mo ep p = (0, false) := by rw [HGI.out, hfi, if_neg (by omega), if_pos (by rw [HM.out]; exact hfull)]
            have hgp : giveP mo ss ep now p = { p with l := l1 } := by rw [HGP.out, hfi, if_neg (by omega), if_pos (by rw [HM.out]; exact hfull)]
            have HGI2 := Lib.hid hgi
            have HT5 : Hid (∀ u, Below wr.heap.size wr u → Turn (RP b mo idl m (giveP mo ss ep now p)) S w u) := Lib.hid fun u hu => by rw [hgp]; exact HT.out.below hu
            clear hgi hgp HGI HGP hfi hne
            go_wp2_with fail
            go_quiet (fail)
            have HB := Lib.hid (below_drewN (Below.refl wr.heap.size wr) nq)
            go_wp2_with fail
            go_ret2
            exact ⟨by rw [HGI2.out]; rfl, HT5.out _ HB.out⟩
          · have hgi : giveI mo ep p = (IntKind.i64.wrap (p.last + 1), true) := by rw [HGI.out, hfi, if_neg (by omega), if_neg (by rw [HM.out]; exact hfull)]
            have hgp : giveP mo ss ep now p = { p with l := l1 ++ [⟨IntKind.i64.wrap (p.last + 1), ep, (Cn.idle false 0).lendC ss, now⟩], last := IntKind.i64.wrap (p.last + 1) } := by rw [HGP.out, hfi, if_neg (by omega), if_neg (by rw [HM.out]; exact hfull)]
            have HGI2 := Lib.hid hgi
            have HGP2 := Lib.hid hgp
            clear hgi hgp HGI HGP hfi hne
            go_wp2_with fail
            go_quiet (fail)
            obtain ⟨wq, hwq⟩ : ∃ y, y = wr.drewN nq := ⟨_, rfl⟩
            have kq : Below wr.heap.size wr wq := hwq ▸ below_drewN (Below.refl _ wr) nq
            rw [← hwq]
            have hT6 := HT.out.below kq
            clear hwq kq b0 b4 f4 c3' HT HP4 HS4
            obtain ⟨S6, p6, hS6⟩ := hT6.at_
            obtain ⟨rs0, A0, n0, c0, rb0, SR0, hm0⟩ := RP.at_ p6
            obtain ⟨⟨b0, _, _, _, b4⟩, _, f4⟩ := rpcells hm0.top
            dsimp only at b4
            clear hm0
            obtain ⟨v, hv⟩ : ∃ y, IntKind.i64.wrap (p.last + 1) = y := ⟨_, rfl⟩
            have hT7 := Turn.comp hS6 hT6.off (RP.last p6 v)
            have HGI3 : Hid (giveI mo ep p = (v, true)) := Lib.hid (by rw [← hv]; exact HGI2.out)
            have HGP3 : Hid (giveP mo ss ep now p = { p with l := l1 ++ [⟨v, ep, (Cn.idle false 0).lendC ss, now⟩], last := v }) := Lib.hid (by rw [← hv]; exact HGP2.out)
            have HV := Lib.hid hv
            clear HGI2 HGP2 hS6 p6 hT6
            have HNW := Lib.hid (rnew9_ok ep (wq.setCell ⟨b, 4, none⟩ (.int .i64 v)))
            have HT7 := Lib.hid hT7
            clear hT7
            go_wp2_with fail
            refine HNW.out.mono ?_
            rintro e w7 ⟨rfl, pa, k7⟩
            obtain ⟨w6, hw6⟩ : ∃ y, wq.setCell ⟨b, 4, none⟩ (.int .i64 v) = y := ⟨_, rfl⟩
            rw [hw6] at HT7 pa k7
            have HW6 := Lib.hid hw6
            clear HNW hw6
            have hz6 : w6.heap.size = wq.heap.size := by rw [← HW6.out]; simp
            rw [hz6] at pa
            obtain ⟨a, ha⟩ : ∃ a, a = wq.heap.size := ⟨_, rfl⟩
            rw [← ha] at pa hz6
            have HL := Lib.hid (rlend_ok ss pa)
            have hz := HT7.out.off.size
            obtain ⟨S6, p6, hS6⟩ := HT7.out.at_
            have hlt6 : ∀ k, S6 k → k < a := fun k hk => by have := (RP b mo idl m _).lt p6 k hk; omega
            have p7 := Thing.next p6 k7
            have hoff7 : Off S w w7 := HT7.out.off.trans (Off.of (fun _ => False) k7) fun _ h => h.elim
            have HP8 : Hid (∀ u, Off (fun k => k = a) w7 u → (RP b mo idl m { p with l := l1, last := v }).p S6 u ∧ Off S w u) := Lib.hid fun u hu => ⟨Thing.off p7 hu (fun k hk e => by have := hlt6 k hk; omega), hoff7.trans hu fun k hk => .inr (by omega)⟩
            have HS6 := Lib.hid hS6
            have HLT := Lib.hid hlt6
            have HA := Lib.hid (show w.heap.size ≤ a by omega)
            clear pa hz6 hz p6 hS6 hlt6 p7 hoff7 k7 HW6 HT7
            go_wp2_with fail
            rw [← ha]
            clear ha
            refine HL.out.mono ?_
            rintro e w8 ⟨rfl, ht8⟩
            obtain ⟨p8, hoff8⟩ := HP8.out w8 ht8.off
            obtain ⟨_, pc8, _⟩ := ht8.at_
            have PC8 := Lib.hid (RC.ck.only pc8)
            obtain ⟨rs, A8, n8, c8, rb8, SR8, hm8⟩ := RP.at_ p8
            have hlrs : rs.map Hr.h = l1 := hm8.l
            have hln : rs.length = n8 := hm8.hl.len
            have hnq : n8 = q := by rw [← hln, ← HM.out, ← hlrs, List.length_map]
            subst hnq
            obtain ⟨⟨_, _, _, c3, b4⟩, f3, _⟩ := rpcells hm8.top
            dsimp only at b4
            have hb8 := hm8.lt b hm8.sb
            have hR := Rd.of_own3 hm8.hl.own
            have HM8 := Lib.hid hm8
            have HOFF8 := Lib.hid hoff8
            have HLN : Hid ((hrC rs).length = n8 * 3) := Lib.hid (by rw [hrC_length, hln])
            have HLR := Lib.hid hlrs
            obtain ⟨i0, hi, hz0, hz1, hz2⟩ := info_parts heldinfo
            have HKa : Hid (Below w8.heap.size w8 (w8.drew.alloc (.cells #[] 81))) := Lib.hid (kp_alloc (Below.refl w8.heap.size w8).drew _)
            have HKb : Hid (Below w8.heap.size w8 ((w8.drew.alloc (.cells #[] 81)).alloc (.cells #[.int .i64 v, .pointer (some ⟨a, 0, none⟩), .int .u64 now] 81))) := Lib.hid (kp_alloc HKa.out _)
            have HKc : Hid (Below w8.heap.size w8 ((w8.drew.alloc (.cells #[.int .i64 v, .pointer (some ⟨a, 0, none⟩), .int .u64 now] 81)).alloc (.cells #[] 81))) := Lib.hid (kp_alloc (kp_alloc (Below.refl w8.heap.size w8).drew _) _)
            have HSa := Lib.hid HKa.out.size
            have HSb := Lib.hid HKb.out.size
            have HSc := Lib.hid HKc.out.size
            have HOa : Hid ((w8.drew.alloc (.cells #[] 81)).ownsRow w8.heap.size 81 3 (.slice (some ⟨w8.heap.size, 0, none⟩) 0 0) 0 []) := Lib.hid (own_new_s w8.drew w8.heap.size 3 81 0 [] rfl (Nat.le_refl _) (Nat.zero_le _))
            have HOb := Lib.hid (HOa.out.alloc (.cells #[.int .i64 v, .pointer (some ⟨a, 0, none⟩), .int .u64 now] 81))
            have HOc : Hid (((w8.drew.alloc (.cells #[.int .i64 v, .pointer (some ⟨a, 0, none⟩), .int .u64 now] 81)).alloc (.cells #[] 81)).ownsRow w8.heap.size 81 3 (.slice (some ⟨w8.heap.size + 1, 0, none⟩) 0 0) 0 []) := Lib.hid (by
              have h0 := own_new_s (w8.drew.alloc (.cells #[.int .i64 v, .pointer (some ⟨a, 0, none⟩), .int .u64 now] 81)) w8.heap.size 3 81 0 [] rfl (by simp) (Nat.zero_le _)
              have e0 : (w8.drew.alloc (.cells #[.int .i64 v, .pointer (some ⟨a, 0, none⟩), .int .u64 now] 81)).heap.size = w8.heap.size + 1 := by simp
              rw [e0] at h0
              exact h0)
            have HRa := Lib.hid (hR.below HKa.out (Nat.le_refl _))
            have HRb := Lib.hid (hR.below HKb.out (Nat.le_refl _))
            have HRc := Lib.hid (hR.below HKc.out (Nat.le_refl _))
            have HR4b : Hid (Rd ((w8.drew.alloc (.cells #[] 81)).alloc (.cells #[.int .i64 v, .pointer (some ⟨a, 0, none⟩), .int .u64 now] 81)) (w8.heap.size + 1 + 1) (some ⟨w8.heap.size + 1, 0, none⟩) [.int .i64 v, .pointer (some ⟨a, 0, none⟩), .int .u64 now]) := Lib.hid (by
              have h0 := Rd.new (w8.drew.alloc (.cells #[] 81)) 81 [.int .i64 v, .pointer (some ⟨a, 0, none⟩), .int .u64 now]
              have e0 : (w8.drew.alloc (.cells #[] 81)).heap.size = w8.heap.size + 1 := by simp
              rw [e0] at h0
              exact h0)
            have HR4c : Hid (Rd ((w8.drew.alloc (.cells #[.int .i64 v, .pointer (some ⟨a, 0, none⟩), .int .u64 now] 81)).alloc (.cells #[] 81)) (w8.heap.size + 1) (some ⟨w8.heap.size, 0, none⟩) [.int .i64 v, .pointer (some ⟨a, 0, none⟩), .int .u64 now]) := Lib.hid (Rd.below (Rd.new w8.drew 81 [.int .i64 v, .pointer (some ⟨a, 0, none⟩), .int .u64 now]) (kp_new _ _) (by simp))
            have HZb : Hid (w8.heap.size + 1 + 1 ≤ ((w8.drew.alloc (.cells #[] 81)).alloc (.cells #[.int .i64 v, .pointer (some ⟨a, 0, none⟩), .int .u64 now] 81)).heap.size) := Lib.hid (by simp)
            have HZc : Hid (w8.heap.size + 1 ≤ ((w8.drew.alloc (.cells #[.int .i64 v, .pointer (some ⟨a, 0, none⟩), .int .u64 now] 81)).alloc (.cells #[] 81)).heap.size) := Lib.hid (by simp)
            clear hm8 hR p8 pc8 ht8 hoff8 hlrs hln HL HP8
            go_wp2_with fail
            go_region_law? (first | (refine step_append_rds rfl (.tmp 122) (.tmp 126) _ rfl w8.heap.size 81 i0 _ 3 24 Tryz.underlying50 hi hz0 hz1 hz2 rfl (by omega) _ 0 _ rfl HOa.out _ _ _ _ (hrC rs) rfl HLN.out HRa.out (hrC_one _) (by unfold maxLen; omega) (by omega) HSa.out ?_; intro v3 w3 hown3 hg3; rw [Nat.zero_add, List.nil_append] at hown3; obtain ⟨D3, e3, rfl, _, _⟩ := own_form_s hown3; have HG3 := Lib.hid (HKa.out.trans (below_own_s HOa.out hg3 HSa.out)); have HO4 := Lib.hid (hown3.alloc (.cells #[.int .i64 v, .pointer (some ⟨a, 0, none⟩), .int .u64 now] 81)); have HR4 : Hid (Rd (w3.alloc (.cells #[.int .i64 v, .pointer (some ⟨a, 0, none⟩), .int .u64 now] 81)) (w3.heap.size + 1) (some ⟨w3.heap.size, 0, none⟩) [.int .i64 v, .pointer (some ⟨a, 0, none⟩), .int .u64 now]) := Lib.hid (Rd.new w3 81 [.int .i64 v, .pointer (some ⟨a, 0, none⟩), .int .u64 now]); have HK4 := Lib.hid (kp_alloc HG3.out (.cells #[.int .i64 v, .pointer (some ⟨a, 0, none⟩), .int .u64 now] 81)); have HS4 := Lib.hid HK4.out.size; obtain ⟨⟨_, _, _, x3, x4⟩, y3, _⟩ := rpcells (HM8.out.keep (fun k e => HG3.out.block k (HM8.out.lt k e)) HG3.out.size).top; dsimp only at x4; clear hown3 hg3) | (refine step_append_rds rfl (.tmp 122) (.tmp 126) _ rfl w8.heap.size 81 i0 _ 3 24 Tryz.underlying50 hi hz0 hz1 hz2 rfl (by omega) _ 0 _ rfl HOb.out _ _ _ _ (hrC rs) rfl HLN.out HRb.out (hrC_one _) (by unfold maxLen; omega) (by omega) HSb.out ?_; intro v3 w3 hown3 hg3; rw [Nat.zero_add, List.nil_append] at hown3; obtain ⟨D3, e3, rfl, _, _⟩ := own_form_s hown3; have HG3 := Lib.hid (HKb.out.trans (below_own_s HOb.out hg3 HSb.out)); have HO4 := Lib.hid hown3; have HK4 := HG3; have HS4 := Lib.hid HK4.out.size; have HR4 : Hid (Rd w3 (w8.heap.size + 1 + 1) (some ⟨w8.heap.size + 1, 0, none⟩) [.int .i64 v, .pointer (some ⟨a, 0, none⟩), .int .u64 now]) := Lib.hid (Rd.grown (k := some w8.heap.size) HR4b.out HZb.out hg3 (fun ad e => by injection e with e; subst e; exact fun h => absurd (Option.some.inj h) (Nat.succ_ne_self _))); obtain ⟨⟨_, _, _, x3, x4⟩, y3, _⟩ := rpcells (HM8.out.keep (fun k e => HG3.out.block k (HM8.out.lt k e)) HG3.out.size).top; dsimp only at x4; clear hown3 hg3) | (refine step_append_rds rfl (.tmp 122) (.tmp 126) _ rfl w8.heap.size 81 i0 _ 3 24 Tryz.underlying50 hi hz0 hz1 hz2 rfl (by omega) _ 0 _ rfl HOc.out _ _ _ _ (hrC rs) rfl HLN.out HRc.out (hrC_one _) (by unfold maxLen; omega) (by omega) HSc.out ?_; intro v3 w3 hown3 hg3; rw [Nat.zero_add, List.nil_append] at hown3; obtain ⟨D3, e3, rfl, _, _⟩ := own_form_s hown3; have HG3 := Lib.hid (HKc.out.trans (below_own_s HOc.out hg3 HSc.out)); have HO4 := Lib.hid hown3; have HK4 := HG3; have HS4 := Lib.hid HK4.out.size; have HR4 : Hid (Rd w3 (w8.heap.size + 1) (some ⟨w8.heap.size, 0, none⟩) [.int .i64 v, .pointer (some ⟨a, 0, none⟩), .int .u64 now]) := Lib.hid (Rd.grown (k := some (w8.heap.size + 1)) HR4c.out HZc.out hg3 (fun ad e => by injection e with e; subst e; exact fun h => absurd (Option.some.inj h).symm (Nat.succ_ne_self _))); obtain ⟨⟨_, _, _, x3, x4⟩, y3, _⟩ := rpcells (HM8.out.keep (fun k e => HG3.out.block k (HM8.out.lt k e)) HG3.out.size).top; dsimp only at x4; clear hown3 hg3) | (refine step_append_rds rfl (.tmp 127) (.tmp 135) _ rfl w8.heap.size 81 i0 _ 3 24 Tryz.underlying50 hi hz0 hz1 hz2 rfl (by omega) _ n8 _ rfl HO4.out _ _ _ _ [.int .i64 v, .pointer (some ⟨a, 0, none⟩), .int .u64 now] rfl rfl HR4.out (by simp [Value.oneCell']) (by unfold maxLen; omega) (by omega) HS4.out ?_; intro v5 w5 hown5 hg5; obtain ⟨D5, e5, rfl, _, _⟩ := own_form_s hown5; have HO5 := Lib.hid hown5; have HK5 := Lib.hid (HK4.out.trans (below_own_s HO4.out hg5 HS4.out)); obtain ⟨⟨_, _, _, j3, j4⟩, z3, _⟩ := rpcells (HM8.out.keep (fun k e => HK5.out.block k (HM8.out.lt k e)) HK5.out.size).top; dsimp only at j4; clear hown5 hg5))
            all_goals
              have hfin := HM8.out.gave (x := ⟨v, ep, (Cn.idle false 0).lendC ss, now⟩) HK5.out HO5.out PC8.out HS6.out HLT.out HA.out HOFF8.out (by rw [← List.length_map (f := Hr.h), HLR.out, HM.out]; omega)
              have HFIN := Lib.hid hfin
              clear hfin
              go_wp2_with fail
              go_ret2
              refine ⟨by rw [HGI3.out]; rfl, ?_⟩
              rw [HGP3.out]
              exact HFIN.out
end
end

/- The document's layer 10: a pool's row of who waits; Send, Reply, Soil, Release, Break: contracts. -/
section
open Go.RowKit
set_option maxRecDepth 100000

section
variable {b : Nat} {mo idl m : Int} {p : Pl} {S : Nat → Prop} {w : World}
/-- who waits: where it lies, and what becomes of the pool if it turns -/
theorem RP.roww (h : (RP b mo idl m p).p S w) : ∃ (rb : Nat) (SR : Nat → Prop), ∀ u, Below w.heap.size w u → u.cell? ⟨b, 2, none⟩ = some (.pointer (some ⟨rb, 0, none⟩)) ∧ (RW rb m p.row).p SR u ∧ ∀ row' w', Turn (RW rb m row') SR u w' → Turn (RP b mo idl m { p with row := row' }) S u w' := by
  obtain ⟨rs, A, n, c, rb, SR, h⟩ := RP.at_ h
  refine ⟨rb, SR, fun u hu => ?_⟩
  have hk := h.keep (fun k e => hu.block k (h.lt k e)) hu.size
  refine ⟨(rpcells hk.top).1.2.2.1, hk.row, fun row' w' ht => ?_⟩
  obtain ⟨⟨S', p', q'⟩, ho⟩ := ht
  have hlt := hk.lt
  have hnb : ∀ k, S k → ¬ SR k → w'.heap[k]? = u.heap[k]? := fun k hk2 hn => ho.block k (hlt k hk2) hn
  have t3 : (RP b mo idl m { p with row := row' }).p (fun k => S k ∨ S' k) w' := ⟨rs, A, n, c, rb, S', ⟨(hnb b hk.sb fun e => (hk.ar b e).1 rfl).trans hk.top, hk.l, hk.hl.keep (fun k e => hnb k (hk.sl k e) fun e2 => (hk.ar k e2).2 e) ho.size, p', .inl hk.sb, fun k e => .inr e, fun k e => .inl (hk.sl k e), fun k e => e.elim (fun e => Nat.lt_of_lt_of_le (hlt k e) ho.size) ((RW rb m row').lt p' k), fun k e => ?_, hk.al, hk.few⟩⟩
  · refine ⟨⟨_, t3, fun k e => e.elim .inl fun e => (q' k e).elim (fun e2 => .inl (hk.sr k e2)) .inr⟩, ho.wide hk.sr⟩
  · rcases q' k e with e2 | e2
    · exact hk.ar k e2
    · refine ⟨fun e3 => ?_, fun e3 => ?_⟩
      · have := hlt b hk.sb; omega
      · have := hlt k (hk.sl k e3); omega
theorem theH_at {id : Int} {i : Nat} (hi : findH id p.l = i) (hl : i < p.l.length) : theH id p = p.l[i] := by
  unfold theH
  rw [hi]
  simp [List.getD_eq_getElem?_getD, hl]
theorem onH_at {id : Int} {i : Nat} (hi : findH id p.l = i) (hl : i < p.l.length) (f : Hd → Hd) : onH id f p = { p with l := p.l.set i (f p.l[i]) } := by
  unfold onH
  rw [hi, turnH_at hl]

set_option maxHeartbeats 4000000 in
theorem rpsend_ok (id n : Int) (h : (RP b mo idl m p).p S w) :
    Calls Tryz.prog 30 #[.pointer (some ⟨b, 0, none⟩), .int .i64 id, .int .u64 n] w fun e w' => e = .returned (.int .i64 (sendP id n p).2) ∧ Turn (RP b mo idl m (sendP id n p).1) S w w' := by
  have H := Lib.hid h
  have HF := Lib.hid (rfind_ok10 id h)
  have hge := firstH_ge (p := fun h : Hd => h.id == id) p.l
  by_cases hp : findH id p.l < 0
  · have hi : findH id p.l = -1 := by unfold findH at hp ⊢; omega
    have hP : sendP id n p = (p, 6) := if_pos hp
    rw [hP]
    rw [hi] at HF
    clear h hge hp hi hP
    go_enter Tryz.func30, Tryz.ntmps30
    go_wp2_with fail
    refine HF.out.mono ?_
    rintro e w1 ⟨rfl, rfl⟩
    go_wp2_with fail
    go_ret
    exact ⟨rfl, Turn.here H.out⟩
  · obtain ⟨i, hi⟩ : ∃ i : Nat, findH id p.l = i := ⟨(findH id p.l).toNat, by omega⟩
    have hil : i < p.l.length := (firstH_is hi).1
    obtain ⟨g, cc, a, _, hu⟩ := RP.get h hil
    obtain ⟨q4, q5, c3, q0, q1, q2, hc, hnx⟩ := hu w (Below.refl _ _)
    obtain ⟨⟨s0, s1, s2, s3, s4, s5⟩, _⟩ := rcell (RC.at_ hc).1
    have HC := Lib.hid (rsend_ok n hc)
    have HNX := Lib.hid (hnx (p.l[i].c.sendC n))
    rw [hi] at HF
    have hi0 : (0 : Int) ≤ (i : Int) := by omega
    have hi1 : (i : Int) < (p.l.length : Int) := by omega
    have hin : ¬ (i : Int) < 0 := by omega
    have hP : sendP id n p = ({ p with l := p.l.set i (p.l[i].set (p.l[i].c.sendC n)) }, p.l[i].c.sendA n) := by
      unfold sendP
      rw [if_neg hp, theH_at hi hil, onH_at hi hil]
    rw [hP]
    clear h hge hp hi hu hnx hc hP q0 q2 q4 q5 s0 s3 s4 s5
    generalize p.l.set i (p.l[i].set (p.l[i].c.sendC n)) = l2 at *
    generalize p.l[i].c.sendA n = av at *
    generalize p.l[i].c.o = ov at *
    generalize p.l[i].ep = pe at *
    generalize p.l[i].c.sendC n = c2 at *
    generalize p.l[i].c.s = sv at *
    clear hil
    generalize p.l.length = N at *
    go_enter Tryz.func30, Tryz.ntmps30
    go_wp2_with fail
    refine HF.out.mono ?_
    rintro e w1 ⟨rfl, rfl⟩
    go_wp2_with fail
    refine HC.out.mono ?_
    rintro e w4 ⟨rfl, ht⟩
    have HT := Lib.hid (HNX.out w4 ht)
    clear ht HC HNX
    go_wp2_with fail
    go_ret
    exact ⟨rfl, HT.out⟩

set_option maxHeartbeats 4000000 in
theorem rpreply_ok (id n : Int) (h : (RP b mo idl m p).p S w) :
    Calls Tryz.prog 31 #[.pointer (some ⟨b, 0, none⟩), .int .i64 id, .int .u64 n] w fun e w' => e = .returned (.bool (replyP id n p).2) ∧ Turn (RP b mo idl m (replyP id n p).1) S w w' := by
  have H := Lib.hid h
  have HF := Lib.hid (rfind_ok10 id h)
  have hge := firstH_ge (p := fun h : Hd => h.id == id) p.l
  by_cases hp : findH id p.l < 0
  · have hi : findH id p.l = -1 := by unfold findH at hp ⊢; omega
    have hP : replyP id n p = (p, false) := if_pos hp
    rw [hP]
    rw [hi] at HF
    clear h hge hp hi hP
    go_enter Tryz.func31, Tryz.ntmps31
    go_wp2_with fail
    refine HF.out.mono ?_
    rintro e w1 ⟨rfl, rfl⟩
    go_wp2_with fail
    go_ret
    exact ⟨rfl, Turn.here H.out⟩
  · obtain ⟨i, hi⟩ : ∃ i : Nat, findH id p.l = i := ⟨(findH id p.l).toNat, by omega⟩
    have hil : i < p.l.length := (firstH_is hi).1
    obtain ⟨g, cc, a, _, hu⟩ := RP.get h hil
    obtain ⟨q4, q5, c3, q0, q1, q2, hc, hnx⟩ := hu w (Below.refl _ _)
    obtain ⟨⟨s0, s1, s2, s3, s4, s5⟩, _⟩ := rcell (RC.at_ hc).1
    have HC := Lib.hid (rreply_ok n hc)
    have HNX := Lib.hid (hnx (p.l[i].c.replyC n))
    rw [hi] at HF
    have hi0 : (0 : Int) ≤ (i : Int) := by omega
    have hi1 : (i : Int) < (p.l.length : Int) := by omega
    have hin : ¬ (i : Int) < 0 := by omega
    have hP : replyP id n p = (sweepP { p with l := p.l.set i (p.l[i].set (p.l[i].c.replyC n)) }, p.l[i].c.replyA n) := by
      unfold replyP
      rw [if_neg hp, theH_at hi hil, onH_at hi hil]
    rw [hP]
    clear h hge hp hi hu hnx hc hP q0 q2 q4 q5 s0 s3 s4 s5
    generalize p.l.set i (p.l[i].set (p.l[i].c.replyC n)) = l2 at *
    generalize p.l[i].c.replyA n = av at *
    generalize p.l[i].c.o = ov at *
    generalize p.l[i].ep = pe at *
    generalize p.l[i].c.replyC n = c2 at *
    generalize p.l[i].c.s = sv at *
    clear hil
    generalize p.l.length = N at *
    go_enter Tryz.func31, Tryz.ntmps31
    go_wp2_with fail
    refine HF.out.mono ?_
    rintro e w1 ⟨rfl, rfl⟩
    go_wp2_with fail
    refine HC.out.mono ?_
    rintro e w4 ⟨rfl, ht⟩
    have hT := HNX.out w4 ht
    obtain ⟨S4, p4, hS4⟩ := hT.at_
    have HSW := Lib.hid (rsweep_ok p4)
    have HT0 : Hid (∀ w', Turn (RP b mo idl m (sweepP { p with l := l2 })) S4 w4 w' → Turn (RP b mo idl m (sweepP { p with l := l2 })) S w w') := Lib.hid fun w' ht => Turn.comp hS4 hT.off ht
    clear ht hT p4 hS4 HC HNX
    go_wp2_with fail
    refine HSW.out.mono ?_
    rintro e w5 ⟨rfl, ht5⟩
    have HT := Lib.hid (HT0.out w5 ht5)
    clear ht5 HT0 HSW
    go_wp2_with fail
    go_ret
    exact ⟨rfl, HT.out⟩

set_option maxHeartbeats 4000000 in
theorem rpsoil_ok (id : Int) (h : (RP b mo idl m p).p S w) :
    Calls Tryz.prog 32 #[.pointer (some ⟨b, 0, none⟩), .int .i64 id] w fun e w' => e = .returned (.bool (soilP id p).2) ∧ Turn (RP b mo idl m (soilP id p).1) S w w' := by
  have H := Lib.hid h
  have HF := Lib.hid (rfind_ok10 id h)
  have hge := firstH_ge (p := fun h : Hd => h.id == id) p.l
  by_cases hp : findH id p.l < 0
  · have hi : findH id p.l = -1 := by unfold findH at hp ⊢; omega
    have hP : soilP id p = (p, false) := if_pos hp
    rw [hP]
    rw [hi] at HF
    clear h hge hp hi hP
    go_enter Tryz.func32, Tryz.ntmps32
    go_wp2_with fail
    refine HF.out.mono ?_
    rintro e w1 ⟨rfl, rfl⟩
    go_wp2_with fail
    go_ret
    exact ⟨rfl, Turn.here H.out⟩
  · obtain ⟨i, hi⟩ : ∃ i : Nat, findH id p.l = i := ⟨(findH id p.l).toNat, by omega⟩
    have hil : i < p.l.length := (firstH_is hi).1
    obtain ⟨g, cc, a, _, hu⟩ := RP.get h hil
    obtain ⟨q4, q5, c3, q0, q1, q2, hc, hnx⟩ := hu w (Below.refl _ _)
    obtain ⟨⟨s0, s1, s2, s3, s4, s5⟩, _⟩ := rcell (RC.at_ hc).1
    have HC := Lib.hid (rsoil_ok hc)
    have HNX := Lib.hid (hnx (p.l[i].c.soilC))
    rw [hi] at HF
    have hi0 : (0 : Int) ≤ (i : Int) := by omega
    have hi1 : (i : Int) < (p.l.length : Int) := by omega
    have hin : ¬ (i : Int) < 0 := by omega
    have hP : soilP id p = ({ p with l := p.l.set i (p.l[i].set (p.l[i].c.soilC)) }, p.l[i].c.soilA) := by
      unfold soilP
      rw [if_neg hp, theH_at hi hil, onH_at hi hil]
    rw [hP]
    clear h hge hp hi hu hnx hc hP q0 q2 q4 q5 s0 s3 s4 s5
    generalize p.l.set i (p.l[i].set (p.l[i].c.soilC)) = l2 at *
    generalize p.l[i].c.soilA = av at *
    generalize p.l[i].c.o = ov at *
    generalize p.l[i].ep = pe at *
    generalize p.l[i].c.soilC = c2 at *
    generalize p.l[i].c.s = sv at *
    clear hil
    generalize p.l.length = N at *
    go_enter Tryz.func32, Tryz.ntmps32
    go_wp2_with fail
    refine HF.out.mono ?_
    rintro e w1 ⟨rfl, rfl⟩
    go_wp2_with fail
    refine HC.out.mono ?_
    rintro e w4 ⟨rfl, ht⟩
    have HT := Lib.hid (HNX.out w4 ht)
    clear ht HC HNX
    go_wp2_with fail
    go_ret
    exact ⟨rfl, HT.out⟩

set_option maxHeartbeats 4000000 in
theorem rpbreak_ok (id : Int) (h : (RP b mo idl m p).p S w) :
    Calls Tryz.prog 34 #[.pointer (some ⟨b, 0, none⟩), .int .i64 id] w fun e w' => e = .returned (.tuple #[.int .u64 (breakP id p).2.1, .int .i64 (breakP id p).2.2.1, .bool (breakP id p).2.2.2]) ∧ Turn (RP b mo idl m (breakP id p).1) S w w' := by
  have H := Lib.hid h
  have HF := Lib.hid (rfind_ok10 id h)
  have hge := firstH_ge (p := fun h : Hd => h.id == id) p.l
  by_cases hp : findH id p.l < 0
  · have hi : findH id p.l = -1 := by unfold findH at hp ⊢; omega
    have hP : breakP id p = (p, 0, 0, false) := if_pos hp
    rw [hP]
    rw [hi] at HF
    clear h hge hp hi hP
    go_enter Tryz.func34, Tryz.ntmps34
    go_wp2_with fail
    refine HF.out.mono ?_
    rintro e w1 ⟨rfl, rfl⟩
    go_wp2_with fail
    go_ret3
    exact ⟨rfl, Turn.here H.out⟩
  · obtain ⟨i, hi⟩ : ∃ i : Nat, findH id p.l = i := ⟨(findH id p.l).toNat, by omega⟩
    have hil : i < p.l.length := (firstH_is hi).1
    obtain ⟨g, cc, a, _, hu⟩ := RP.get h hil
    obtain ⟨q4, q5, c3, q0, q1, q2, hc, hnx⟩ := hu w (Below.refl _ _)
    obtain ⟨⟨s0, s1, s2, s3, s4, s5⟩, _⟩ := rcell (RC.at_ hc).1
    have HC := Lib.hid (rbreak_ok hc)
    have HNX := Lib.hid (hnx (p.l[i].c.breakC))
    rw [hi] at HF
    have hi0 : (0 : Int) ≤ (i : Int) := by omega
    have hi1 : (i : Int) < (p.l.length : Int) := by omega
    have hin : ¬ (i : Int) < 0 := by omega
    have hP : breakP id p = (sweepP { p with l := p.l.set i (p.l[i].set (p.l[i].c.breakC)) }, p.l[i].c.f, p.l[i].c.o, true) := by
      unfold breakP
      rw [if_neg hp, theH_at hi hil, onH_at hi hil]
    rw [hP]
    clear h hge hp hi hu hnx hc hP q0 q2 q4 q5 s0 s3 s4 s5
    generalize p.l.set i (p.l[i].set (p.l[i].c.breakC)) = l2 at *
    generalize p.l[i].c.f = av at *
    generalize p.l[i].c.o = ov at *
    generalize p.l[i].ep = pe at *
    generalize p.l[i].c.breakC = c2 at *
    generalize p.l[i].c.s = sv at *
    clear hil
    generalize p.l.length = N at *
    go_enter Tryz.func34, Tryz.ntmps34
    go_wp2_with fail
    refine HF.out.mono ?_
    rintro e w1 ⟨rfl, rfl⟩
    go_wp2_with fail
    refine HC.out.mono ?_
    rintro e w4 ⟨rfl, ht⟩
    have hT := HNX.out w4 ht
    obtain ⟨S4, p4, hS4⟩ := hT.at_
    have HSW := Lib.hid (rsweep_ok p4)
    have HT0 : Hid (∀ w', Turn (RP b mo idl m (sweepP { p with l := l2 })) S4 w4 w' → Turn (RP b mo idl m (sweepP { p with l := l2 })) S w w') := Lib.hid fun w' ht => Turn.comp hS4 hT.off ht
    clear ht hT p4 hS4 HC HNX
    go_wp2_with fail
    refine HSW.out.mono ?_
    rintro e w5 ⟨rfl, ht5⟩
    have HT := Lib.hid (HT0.out w5 ht5)
    clear ht5 HT0 HSW
    go_wp2_with fail
    go_ret3
    exact ⟨rfl, HT.out⟩
end
end

/- The document's layer 10: Acquire, Serve: contracts. -/
section
open Go.RowKit
set_option maxRecDepth 100000

section
variable {b : Nat} {mo idl m : Int} {p : Pl} {S : Nat → Prop} {w : World}
theorem giveP_row (mo ss ep now : Int) (p : Pl) : (giveP mo ss ep now p).row = p.row := by
  unfold giveP
  dsimp only
  split
  · rfl
  split <;> rfl
/-- the row's own length, as it lies -/
theorem RW.len {rb : Nat} {l : List Int} {SR : Nat → Prop} {u : World} (h : (RW rb m l).p SR u) : ∃ A c, u.cell? ⟨rb, 0, none⟩ = some (.slice A l.length c) ∧ NR u A l.length l ∧ l.length ≤ 12 := by
  obtain ⟨A, n, c, hb, hx, _, _, _, hm, hm2⟩ := RW.at_ h
  have hn := hx.nr.len
  refine ⟨A, c, ?_, by rw [hn]; exact hx.nr, by omega⟩
  rw [hn]
  exact (cells2t hb).1
set_option maxHeartbeats 8000000 in
theorem racq_ok (ss ep now : Int) (h : (RP b mo idl m p).p S w) :
    Calls Tryz.prog 27 #[.pointer (some ⟨b, 0, none⟩), .int .i64 ss, .int .u64 ep, .int .u64 now] w fun e w' => e = .returned (.tuple #[.int .i64 (acqP mo m ss ep now p).2.1, .int .i64 (acqP mo m ss ep now p).2.2]) ∧ Turn (RP b mo idl m (acqP mo m ss ep now p).1) S w w' := by
  have H := Lib.hid h
  by_cases hss : ss < 1
  · have hP : acqP mo m ss ep now p = (p, 0, 1) := by unfold acqP; rw [if_pos hss]
    rw [hP]
    clear h hP
    go_enter Tryz.func27, Tryz.ntmps27
    go_wp2_with fail
    go_ret2
    exact ⟨rfl, Turn.here H.out⟩
  · obtain ⟨N, hN⟩ : ∃ N, p.l.length = N := ⟨_, rfl⟩
    have HN := Lib.hid hN
    obtain ⟨A0, cc0, c30, h6⟩ := RP.len h
    rw [hN] at c30 h6
    have hn6 : N ≤ 6 := h6
    obtain ⟨P, hP⟩ : ∃ P, acqP mo m ss ep now p = P := ⟨_, rfl⟩
    have HP : Hid (P = if hasH ss p.l then (p, 0, 7) else if 0 ≤ atW ss p.row then (p, 0, 7)
      else if p.row = [] then (if (giveI mo ep p).2 then (giveP mo ss ep now p, (giveI mo ep p).1, 0) else ((queueP m ss (giveP mo ss ep now p)).1, 0, (queueP m ss (giveP mo ss ep now p)).2))
      else ((queueP m ss p).1, 0, (queueP m ss p).2)) := Lib.hid (by rw [← hP]; unfold acqP; rw [if_neg hss])
    rw [hP]
    clear h hN hP h6
    go_enter Tryz.func27, Tryz.ntmps27
    go_wp2_with fail
    go_loopw [10] (fun i wr => ∃ k : Nat, k ≤ N ∧ i = .int .i64 k ∧ Hid (∀ j (hj : j < p.l.length), j < k → (p.l[j].c.o == ss) = false) ∧ wr = w) (fun i _ => N - (intOf i).toNat)
    case atStart => exact ⟨0, Nat.zero_le _, rfl, Lib.hid (fun j _ h => absurd h (Nat.not_lt_zero _)), rfl⟩
    case round =>
      obtain ⟨k, hk, rfl, hne, rfl⟩ := hrel
      by_cases hlt : k < N
      · have hkl : k < p.l.length := by rw [HN.out]; exact hlt
        obtain ⟨g, cc, a, _, hu⟩ := RP.get H.out hkl
        obtain ⟨_, _, q3, _, q1, _, hc, _⟩ := hu wr (Below.refl _ _)
        obtain ⟨⟨_, _, s2, _⟩, _⟩ := rcell (RC.at_ hc).1
        rw [HN.out] at q3
        obtain ⟨rfl, rfl⟩ : A0 = some ⟨g, 0, none⟩ ∧ cc0 = cc := by
          rw [c30] at q3
          simp only [Option.some.injEq, Value.slice.injEq, true_and] at q3
          exact q3
        clear q3 hu hc
        by_cases he : p.l[k].c.o = ss
        · have hf : firstH (fun h : Hd => h.c.o == ss) p.l = k := firstH_at hkl hne.out (by simpa using he)
          have hh : hasH ss p.l = true := decide_eq_true (by rw [hf]; omega)
          have hPP : P = (p, 0, 7) := by rw [HP.out, hh, if_pos rfl]
          have HPP := Lib.hid hPP
          have hq : (p.l[k].c.o == ss) = true := by simpa using he
          clear hf hh hPP HP he hne
          generalize p.l[k].c.o = ov at *
          go_wp2_with fail
          go_ret2
          exact ⟨by rw [HPP.out]; rfl, by rw [HPP.out]; exact Turn.here H.out⟩
        · have hq : (p.l[k].c.o == ss) = false := by simpa using he
          have hne2 : Hid (∀ j (hj : j < p.l.length), j < k + 1 → (p.l[j].c.o == ss) = false) := Lib.hid (fun j hj hjk => by
            by_cases h : j = k
            · subst h; exact hq
            · exact hne.out j hj (by omega))
          clear he hne
          generalize p.l[k].c.o = ov at *
          go_wp2_with fail
          go_roundw
          case rel => exact ⟨k + 1, by omega, by go_num, hne2, trivial⟩
          case measure => simp [intOf]; omega
      · have hf : firstH (fun h : Hd => h.c.o == ss) p.l = -1 := firstH_none fun y hy => by
          obtain ⟨j, hj, rfl⟩ := List.getElem_of_mem hy
          exact hne.out j hj (by have := HN.out; omega)
        have hh : hasH ss p.l = false := decide_eq_false (by rw [hf]; omega)
        have hPP := HP.out
        rw [hh, if_neg (by simp)] at hPP
        clear HP hh hf hne
        obtain ⟨rb, SR, hur⟩ := RP.roww H.out
        obtain ⟨b2, hrw, _⟩ := hur wr (Below.refl _ _)
        have HAT := Lib.hid (rat_ok ss hrw)
        obtain ⟨A1, cc1, r0, _, h12⟩ := RW.len hrw
        have HUR := Lib.hid (hur wr (Below.refl _ _))
        clear hur hrw
        by_cases hat : 0 ≤ atW ss p.row
        · rw [if_pos hat] at hPP
          have HPP := Lib.hid hPP
          clear hPP
          generalize atW ss p.row = at1 at *
          go_wp2_with fail
          refine HAT.out.mono ?_
          rintro e w1 ⟨rfl, rfl⟩
          go_wp2_with fail
          go_ret2
          exact ⟨by rw [HPP.out]; rfl, by rw [HPP.out]; exact Turn.here H.out⟩
        · rw [if_neg hat] at hPP
          by_cases hrow : p.row = []
          · rw [if_pos hrow] at hPP
            have hrl : p.row.length = 0 := by rw [hrow]; rfl
            rw [hrl] at r0
            have HG := Lib.hid (rgive_ok ss ep now H.out)
            have HPP := Lib.hid hPP
            clear hPP hrl hrow h12
            generalize atW ss p.row = at1 at *
            go_wp2_with fail
            refine HAT.out.mono ?_
            rintro e w1 ⟨rfl, rfl⟩
            go_wp2_with fail
            refine HG.out.mono ?_
            rintro e w5 ⟨rfl, ht5⟩
            have HTW := Lib.hid ht5
            clear ht5 HG HAT r0
            obtain ⟨id0, is0, hgi⟩ : ∃ x y, giveI mo ep p = (x, y) := ⟨_, _, rfl⟩
            rw [hgi] at HPP
            rw [hgi]
            clear hgi
            dsimp only at HPP
            cases is0 with
            | true =>
              go_wp2_with fail
              go_ret2
              exact ⟨by rw [HPP.out]; rfl, by rw [HPP.out]; exact HTW.out⟩
            | false =>
              have HPP2 : Hid (P = ((queueP m ss (giveP mo ss ep now p)).1, 0, (queueP m ss (giveP mo ss ep now p)).2)) := Lib.hid (by rw [HPP.out]; rfl)
              clear HPP
              have HPP := HPP2
              clear HPP2
              obtain ⟨S7, p7, hS7⟩ := HTW.out.at_
              obtain ⟨rb7, SR7, hu7⟩ := RP.roww p7
              obtain ⟨b2, hr7, hn7⟩ := hu7 w5 (Below.refl _ _)
              have HP7 := Lib.hid (rput_ok ss hr7)
              have HN7 : Hid (∀ w', Turn (RW rb7 m (putW m ss (giveP mo ss ep now p).row).2) SR7 w5 w' → Turn (RP b mo idl m (queueP m ss (giveP mo ss ep now p)).1) S wr w') := Lib.hid fun w' ht => Turn.comp hS7 HTW.out.off (hn7 _ w' ht)
              have HQ7 : Hid ((queueP m ss (giveP mo ss ep now p)).2 = if (putW m ss (giveP mo ss ep now p).row).1 = 0 then 13 else (putW m ss (giveP mo ss ep now p).row).1) := Lib.hid rfl
              clear p7 hS7 hu7 hr7 hn7 HTW
              generalize (queueP m ss (giveP mo ss ep now p)).1 = q1 at *
              generalize (queueP m ss (giveP mo ss ep now p)).2 = q2 at *
              generalize (putW m ss (giveP mo ss ep now p).row).2 = row2 at *
              generalize (putW m ss (giveP mo ss ep now p).row).1 = e2 at *
              go_wp2_with fail
              refine HP7.out.mono ?_
              rintro e w8 ⟨rfl, ht8⟩
              have HT8 := Lib.hid (HN7.out w8 ht8)
              clear ht8 HP7 HN7
              by_cases he2 : e2 = 0
              · have hq2 := HQ7.out
                rw [if_pos he2] at hq2
                have he3 : (e2 == 0) = true := by simpa using he2
                have he4 : (e2 != 0) = false := by simpa using he2
                clear he2 HQ7
                subst hq2
                go_wp2_with fail
                go_ret2
                exact ⟨by rw [HPP.out]; rfl, by rw [HPP.out]; exact HT8.out⟩
              · have hq2 := HQ7.out
                rw [if_neg he2] at hq2
                have he3 : (e2 == 0) = false := by simpa using he2
                have he4 : (e2 != 0) = true := by simpa using he2
                clear he2 HQ7
                subst hq2
                go_wp2_with fail
                go_ret2
                exact ⟨by rw [HPP.out]; rfl, by rw [HPP.out]; exact HT8.out⟩
          · rw [if_neg hrow] at hPP
            have hrl : (p.row.length == 0) = false := by simpa using hrow
            have hrl2 : ((p.row.length : Int) == 0) = false := by simp only [beq_eq_false_iff_ne, ne_eq] at hrl ⊢; omega
            have HTW : Hid (Turn (RP b mo idl m p) S wr wr) := Lib.hid (Turn.here H.out)
            have HPP := Lib.hid hPP
            clear hPP hrow
            generalize atW ss p.row = at1 at *
            go_wp2_with fail
            refine HAT.out.mono ?_
            rintro e w1 ⟨rfl, rfl⟩
            clear HAT
            have HP7 := Lib.hid (rput_ok ss HUR.out.2.1)
            have HN7 : Hid (∀ w', Turn (RW rb m (putW m ss (p).row).2) SR wr w' → Turn (RP b mo idl m (queueP m ss (p)).1) S wr w') := Lib.hid fun w' ht => HUR.out.2.2 _ w' ht
            have HQ7 : Hid ((queueP m ss (p)).2 = if (putW m ss (p).row).1 = 0 then 13 else (putW m ss (p).row).1) := Lib.hid rfl
            clear HTW
            generalize (queueP m ss (p)).1 = q1 at *
            generalize (queueP m ss (p)).2 = q2 at *
            generalize (putW m ss (p).row).2 = row2 at *
            generalize (putW m ss (p).row).1 = e2 at *
            go_wp2_with fail
            refine HP7.out.mono ?_
            rintro e w8 ⟨rfl, ht8⟩
            have HT8 := Lib.hid (HN7.out w8 ht8)
            clear ht8 HP7 HN7
            by_cases he2 : e2 = 0
            · have hq2 := HQ7.out
              rw [if_pos he2] at hq2
              have he3 : (e2 == 0) = true := by simpa using he2
              have he4 : (e2 != 0) = false := by simpa using he2
              clear he2 HQ7
              subst hq2
              go_wp2_with fail
              go_ret2
              exact ⟨by rw [HPP.out]; rfl, by rw [HPP.out]; exact HT8.out⟩
            · have hq2 := HQ7.out
              rw [if_neg he2] at hq2
              have he3 : (e2 == 0) = false := by simpa using he2
              have he4 : (e2 != 0) = true := by simpa using he2
              clear he2 HQ7
              subst hq2
              go_wp2_with fail
              go_ret2
              exact ⟨by rw [HPP.out]; rfl, by rw [HPP.out]; exact HT8.out⟩
end
end

/- The document's layer 10: Release, New: contracts. -/
section
open Go.RowKit
set_option maxRecDepth 100000

/-- a cell of a row of the call's own is written, whatever its elements' size -/
theorem own_set_s {w : World} {base n c size : Nat} {e : TypeId} {g : Nat} {xs : List Value} (h : w.ownsRow base e size (.slice (some ⟨g, 0, none⟩) n c) n xs) (i : Nat) (v : Value) : (w.setCell ⟨g, i, none⟩ v).ownsRow base e size (.slice (some ⟨g, 0, none⟩) n c) n (xs.set i v) := by
  refine ⟨by rw [List.length_set]; exact h.1, ?_⟩
  rcases h.2 with ⟨h1, _⟩ | ⟨g', cap, cur, h1, hb, hg, hc, hm, hs, ht⟩
  · cases h1
  · injection h1 with h1 h2 h3
    injection h1 with h1
    injection h1 with h1 h4 h5
    subst h1 h3
    refine .inr ⟨g, c, cur.set! i v, rfl, hb, heap_setCell_same w g i cur e v hg, hc, hm, by simpa using hs, ?_⟩
    rw [← ht]
    simp [Array.set!_eq_setIfInBounds, List.take_set]
section
variable {b : Nat} {mo idl m : Int} {p : Pl} {S : Nat → Prop} {w : World}
/-- since when one is as it is, written -/
theorem RP.since (h : (RP b mo idl m p).p S w) {i : Nat} (hi : i < p.l.length) : ∃ g c : Nat, w.cell? ⟨b, 3, none⟩ = some (.slice (some ⟨g, 0, none⟩) p.l.length c) ∧ (∃ z, w.cell? ⟨g, i * 3 + 2, none⟩ = some z) ∧ w.frozen? ⟨g, i * 3 + 2, none⟩ = false ∧
    ∀ v, Turn (RP b mo idl m { p with l := p.l.set i { p.l[i] with t := v } }) S w (w.setCell ⟨g, i * 3 + 2, none⟩ (.int .u64 v)) := by
  obtain ⟨rs, A, n, c, rb, SR, h⟩ := RP.at_ h
  have hlen : rs.length = p.l.length := by rw [← h.l, List.length_map]
  have hn : p.l.length = n := by rw [← hlen]; exact h.hl.len
  have hj : i < rs.length := by omega
  have he : rs[i].h = p.l[i] := by
    have h1 : (rs.map Hr.h)[i]'(by simpa using hj) = p.l[i] := by simp only [h.l]
    simpa using h1
  obtain ⟨g, hA, hg, _, _, _, e2, f2⟩ := h.hl.at_ hj
  subst hA
  refine ⟨g, c, by rw [hn]; exact (rpcells h.top).1.2.2.2.1, ⟨_, e2⟩, f2, fun v => ?_⟩
  have hgm : hlS (some ⟨g, 0, none⟩) n c rs g := .inl rfl
  have hbg : b ≠ g := fun e => h.al (e ▸ hgm)
  have ho : Off (fun k => k = g) w (w.setCell ⟨g, i * 3 + 2, none⟩ (.int .u64 v)) := (Off.refl (fun k => k = g) w).setr rfl _ _
  have hs : ∀ k, hlS (some ⟨g, 0, none⟩) n c (rs.set i ⟨rs[i].a, { rs[i].h with t := v }⟩) k → hlS (some ⟨g, 0, none⟩) n c rs k := by
    rintro k (hk | ⟨r, hr, hk⟩)
    · exact .inl hk
    · rcases List.mem_or_eq_of_mem_set hr with hr | rfl
      · exact .inr ⟨r, hr, hk⟩
      · exact .inr ⟨rs[i], List.getElem_mem hj, hk⟩
  have hne : ∀ r ∈ rs, r.a ≠ g := fun r hr e => h.hl.ap r hr (by rw [e]; rfl)
  have hl' : HL 81 RC (w.setCell ⟨g, i * 3 + 2, none⟩ (.int .u64 v)) (some ⟨g, 0, none⟩) n c (rs.set i ⟨rs[i].a, { rs[i].h with t := v }⟩) := by
    refine ⟨?_, fun r hr => ?_, ?_, fun r hr => ?_⟩
    · rw [hrC_set rs i v hj]
      exact own_set_s h.hl.own _ _
    · have hk : (RC r.a r.h.ep r.h.c).p (fun k => k = r.a) w ∧ r.a ≠ g := by
        rcases List.mem_or_eq_of_mem_set hr with hr | rfl
        · exact ⟨h.hl.cs r hr, hne r hr⟩
        · exact ⟨h.hl.cs rs[i] (List.getElem_mem hj), hne rs[i] (List.getElem_mem hj)⟩
      exact Thing.off hk.1 ho fun k e e2 => hk.2 (e.symm.trans e2)
    · rw [List.map_set]
      have : (rs.map Hr.a).set i rs[i].a = rs.map Hr.a := by
        apply List.ext_getElem
        · simp
        · intro j h1 h2
          by_cases hij : i = j
          · subst hij; simp
          · simp [List.getElem_set_ne hij]
      rw [this]
      exact h.hl.nd
    · rcases List.mem_or_eq_of_mem_set hr with hr | rfl
      · exact h.hl.ap r hr
      · exact h.hl.ap rs[i] (List.getElem_mem hj)
  have t3 : (RP b mo idl m { p with l := p.l.set i { p.l[i] with t := v } }).p S (w.setCell ⟨g, i * 3 + 2, none⟩ (.int .u64 v)) := ⟨rs.set i ⟨rs[i].a, { rs[i].h with t := v }⟩, _, n, c, rb, SR, ⟨(ho.block b (h.lt b h.sb) hbg).trans h.top, by rw [List.map_set, h.l, he], hl', Thing.off h.row ho fun k hk e => (h.ar k hk).2 (e ▸ hgm), h.sb, h.sr, fun k hk => h.sl k (hs k hk), fun k hk => Nat.lt_of_lt_of_le (h.lt k hk) ho.size, fun k hk => ⟨(h.ar k hk).1, fun e => (h.ar k hk).2 (hs k e)⟩, fun e => h.al (hs b e), by have := h.few; simpa using this⟩⟩
  exact ⟨⟨S, t3, fun k hk => .inl hk⟩, ho.wide fun k e => e ▸ h.sl _ hgm⟩

set_option maxHeartbeats 4000000 in
theorem rprelease_ok (id now : Int) (h : (RP b mo idl m p).p S w) :
    Calls Tryz.prog 33 #[.pointer (some ⟨b, 0, none⟩), .int .i64 id, .int .u64 now] w fun e w' => e = .returned (.bool (releaseP id now p).2) ∧ Turn (RP b mo idl m (releaseP id now p).1) S w w' := by
  have H := Lib.hid h
  have HF := Lib.hid (rfind_ok10 id h)
  have hge := firstH_ge (p := fun h : Hd => h.id == id) p.l
  by_cases hp : findH id p.l < 0
  · have hi : findH id p.l = -1 := by unfold findH at hp ⊢; omega
    have hP : releaseP id now p = (p, false) := if_pos hp
    rw [hP]
    rw [hi] at HF
    clear h hge hp hi hP
    go_enter Tryz.func33, Tryz.ntmps33
    go_wp2_with fail
    refine HF.out.mono ?_
    rintro e w1 ⟨rfl, rfl⟩
    go_wp2_with fail
    go_ret
    exact ⟨rfl, Turn.here H.out⟩
  · obtain ⟨i, hi⟩ : ∃ i : Nat, findH id p.l = i := ⟨(findH id p.l).toNat, by omega⟩
    have hil : i < p.l.length := (firstH_is hi).1
    obtain ⟨g, cc, a, _, hu⟩ := RP.get h hil
    obtain ⟨q4, q5, c3, q0, q1, q2, hc, hnx⟩ := hu w (Below.refl _ _)
    have HC := Lib.hid (rrelease_ok hc)
    have hi0 : (0 : Int) ≤ (i : Int) := by omega
    have hi1 : (i : Int) < (p.l.length : Int) := by omega
    have hin : ¬ (i : Int) < 0 := by omega
    rw [hi] at HF
    by_cases hr : p.l[i].c.releaseA = true
    · have hP : releaseP id now p = (sweepP { p with l := p.l.set i { p.l[i] with c := p.l[i].c.releaseC, t := now } }, true) := by
        unfold releaseP
        rw [if_neg hp, theH_at hi hil, if_pos hr, onH_at hi hil]
      have HNX : Hid (∀ w', Turn (RC a p.l[i].ep p.l[i].c.releaseC) (fun k => k = a) w w' → ∃ S4, (∀ k, S4 k → S k ∨ w.heap.size ≤ k) ∧ Off S w w' ∧ ∃ g c : Nat, w'.cell? ⟨b, 3, none⟩ = some (.slice (some ⟨g, 0, none⟩) p.l.length c) ∧ (∃ z, w'.cell? ⟨g, i * 3 + 2, none⟩ = some z) ∧ w'.frozen? ⟨g, i * 3 + 2, none⟩ = false ∧
          Turn (RP b mo idl m { p with l := p.l.set i { p.l[i] with c := p.l[i].c.releaseC, t := now } }) S4 w' (w'.setCell ⟨g, i * 3 + 2, none⟩ (.int .u64 now))) := Lib.hid fun w' ht => by
        have hT := hnx _ w' ht
        obtain ⟨S4, p4, hS4⟩ := hT.at_
        obtain ⟨g, c, z1, z2, z3, z4⟩ := RP.since p4 (i := i) (by simpa using hil)
        have z5 := z4 now
        have he : (p.l.set i (p.l[i].set p.l[i].c.releaseC)).set i { (p.l.set i (p.l[i].set p.l[i].c.releaseC))[i]'(by simpa using hil) with t := now } = p.l.set i { p.l[i] with c := p.l[i].c.releaseC, t := now } := by
          simp [List.set_set, Hd.set]
        dsimp only at z5
        rw [he] at z5
        exact ⟨S4, hS4, hT.off, g, c, by simpa using z1, z2, z3, z5⟩
      rw [hP]
      rw [hr] at HC
      clear h hge hp hi hu hnx hc hP q0 q2 q4 q5 hr
      generalize p.l.set i { p.l[i] with c := p.l[i].c.releaseC, t := now } = l2 at *
      generalize p.l[i].ep = pe at *
      generalize p.l[i].c.releaseC = c2 at *
      clear hil
      generalize p.l.length = N at *
      go_enter Tryz.func33, Tryz.ntmps33
      go_wp2_with fail
      refine HF.out.mono ?_
      rintro e w1 ⟨rfl, rfl⟩
      go_wp2_with fail
      refine HC.out.mono ?_
      rintro e w4 ⟨rfl, ht⟩
      obtain ⟨S4, hS4, hoff, g4, cc4, z1, ⟨z, z2⟩, z3, hT⟩ := HNX.out w4 ht
      obtain ⟨S5, p5, hS5⟩ := hT.at_
      have HSW := Lib.hid (rsweep_ok p5)
      have HT0 : Hid (∀ w', Turn (RP b mo idl m (sweepP { p with l := l2 })) S5 (w4.setCell ⟨g4, i * 3 + 2, none⟩ (.int .u64 now)) w' → Turn (RP b mo idl m (sweepP { p with l := l2 })) S w w') := Lib.hid fun w' ht => Turn.comp hS4 hoff (Turn.comp hS5 hT.off ht)
      clear ht hT p5 hS5 hS4 hoff HC HNX
      go_wp2_with fail
      refine HSW.out.mono ?_
      rintro e w5 ⟨rfl, ht5⟩
      have HT := Lib.hid (HT0.out w5 ht5)
      clear ht5 HT0 HSW
      go_wp2_with fail
      go_ret
      exact ⟨rfl, HT.out⟩
    · have hr' : p.l[i].c.releaseA = false := by simpa using hr
      have hP : releaseP id now p = (p, false) := by
        unfold releaseP
        rw [if_neg hp, theH_at hi hil, if_neg hr]
      have hsame : p.l[i].c.releaseC = p.l[i].c := by
        revert hr'
        cases p.l[i].c <;> simp [Cn.releaseA, Cn.releaseC]
        intro h1 h2
        exact absurd h2 h1
      have HNX : Hid (∀ w', Turn (RC a p.l[i].ep p.l[i].c.releaseC) (fun k => k = a) w w' → Turn (RP b mo idl m p) S w w') := Lib.hid fun w' ht => by
        have hT := hnx _ w' ht
        rw [hsame] at hT
        have he : p.l.set i (p.l[i].set p.l[i].c) = p.l := List.set_getElem_self hil
        rw [he] at hT
        exact hT
      rw [hP]
      rw [hr'] at HC
      clear h hge hp hi hu hnx hc hP q0 q2 q4 q5 hr hr' hsame
      generalize p.l[i].ep = pe at *
      generalize p.l[i].c.releaseC = c2 at *
      clear hil
      generalize p.l.length = N at *
      go_enter Tryz.func33, Tryz.ntmps33
      go_wp2_with fail
      refine HF.out.mono ?_
      rintro e w1 ⟨rfl, rfl⟩
      go_wp2_with fail
      refine HC.out.mono ?_
      rintro e w4 ⟨rfl, ht⟩
      have HT := Lib.hid (HNX.out w4 ht)
      clear ht HC HNX
      go_wp2_with fail
      go_ret
      exact ⟨rfl, HT.out⟩
end
end

/- The document's layer 10: Serve, New: contracts. -/
section
open Go.RowKit
set_option maxRecDepth 100000

section
variable {b : Nat} {mo idl m : Int} {p : Pl} {S : Nat → Prop} {w : World}
set_option maxHeartbeats 8000000 in
theorem rserve_ok (ep now : Int) (h : (RP b mo idl m p).p S w) :
    Calls Tryz.prog 28 #[.pointer (some ⟨b, 0, none⟩), .int .u64 ep, .int .u64 now] w fun e w' => e = .returned (.tuple #[.int .i64 (serveP mo ep now p).2.1, .int .i64 (serveP mo ep now p).2.2.1, .bool (serveP mo ep now p).2.2.2]) ∧ Turn (RP b mo idl m (serveP mo ep now p).1) S w w' := by
  have H := Lib.hid h
  obtain ⟨rb, SR, hur⟩ := RP.roww h
  obtain ⟨b2, hrw, _⟩ := hur w (Below.refl _ _)
  obtain ⟨A1, cc1, r0, hnr, h12⟩ := RW.len hrw
  obtain ⟨P, hP⟩ : ∃ P, serveP mo ep now p = P := ⟨_, rfl⟩
  have HP : Hid (P = match p.row with
    | [] => (p, 0, 0, false)
    | ss :: r => if (giveI mo ep p).2 then ({ giveP mo ss ep now p with row := r }, ss, (giveI mo ep p).1, true) else (giveP mo ss ep now p, 0, 0, false)) := Lib.hid (by rw [← hP]; rfl)
  rw [hP]
  clear h hP hur hrw
  obtain ⟨row, hrow⟩ : ∃ row, p.row = row := ⟨_, rfl⟩
  have HRW := Lib.hid hrow
  rw [hrow] at HP r0 hnr h12
  clear hrow
  cases row with
  | nil =>
    have HPP : Hid (P = (p, 0, 0, false)) := Lib.hid HP.out
    clear HP hnr
    go_enter Tryz.func28, Tryz.ntmps28
    go_wp2_with fail
    go_ret3
    exact ⟨by rw [HPP.out]; rfl, by rw [HPP.out]; exact Turn.here H.out⟩
  | cons ss r =>
    obtain ⟨ad, hA0, _, hc0⟩ := hnr.at_ (j := 0) (by simp)
    have c0 : w.cell? ad = some (.int .i64 ss) := by
      have := hc0 w (Below.refl _ _)
      rw [show ad.add 0 = ad from by unfold Addr.add; split <;> simp_all] at this
      exact this
    subst hA0
    have hl0 : (((ss :: r).length : Int) == 0) = false := by simp only [List.length_cons, beq_eq_false_iff_ne, ne_eq]; omega
    have hl1 : (0 : Int) < ((ss :: r).length : Int) := by simp only [List.length_cons]; omega
    have HG := Lib.hid (rgive_ok ss ep now H.out)
    have HPP : Hid (P = if (giveI mo ep p).2 then ({ giveP mo ss ep now p with row := r }, ss, (giveI mo ep p).1, true) else (giveP mo ss ep now p, 0, 0, false)) := Lib.hid HP.out
    clear HP hnr hc0
    generalize hL : (ss :: r).length = L at r0 hl0 hl1 h12
    clear hL
    obtain ⟨id0, is0, hgi⟩ : ∃ x y, giveI mo ep p = (x, y) := ⟨_, _, rfl⟩
    rw [hgi] at HPP HG
    clear hgi
    dsimp only at HPP HG
    have hgr := giveP_row mo ss ep now p
    rw [HRW.out] at hgr
    have HGR := Lib.hid hgr
    clear hgr HRW
    cases is0 with
    | true =>
      have HP2 : Hid (P = ({ giveP mo ss ep now p with row := r }, ss, id0, true)) := Lib.hid HPP.out
      clear HPP
      generalize giveP mo ss ep now p = pg at *
      go_enter Tryz.func28, Tryz.ntmps28
      go_wp2_with fail
      refine HG.out.mono ?_
      rintro e w5 ⟨rfl, ht5⟩
      obtain ⟨S5, p5, hS5⟩ := ht5.at_
      obtain ⟨rb5, SR5, hu5⟩ := RP.roww p5
      obtain ⟨z2, hr5, hn5⟩ := hu5 w5 (Below.refl _ _)
      rw [HGR.out] at hr5
      have HTK := Lib.hid (rtake_ok hr5)
      have HN5 : Hid (∀ w', Turn (RW rb5 m r) SR5 w5 w' → Turn (RP b mo idl m { pg with row := r }) S w w') := Lib.hid fun w' ht => Turn.comp hS5 ht5.off (hn5 _ w' ht)
      clear ht5 p5 hS5 hu5 hr5 hn5 HG
      go_wp2_with fail
      refine HTK.out.mono ?_
      rintro e w6 ⟨rfl, ht6⟩
      have HT := Lib.hid (HN5.out w6 ht6)
      clear ht6 HTK HN5
      go_wp2_with fail
      go_ret3
      exact ⟨by rw [HP2.out]; rfl, by rw [HP2.out]; exact HT.out⟩
    | false =>
      have HP2 : Hid (P = (giveP mo ss ep now p, 0, 0, false)) := Lib.hid HPP.out
      clear HPP
      generalize giveP mo ss ep now p = pg at *
      go_enter Tryz.func28, Tryz.ntmps28
      go_wp2_with fail
      refine HG.out.mono ?_
      rintro e w5 ⟨rfl, ht5⟩
      have HT := Lib.hid ht5
      clear ht5 HG
      go_wp2_with fail
      go_ret3
      exact ⟨by rw [HP2.out]; rfl, by rw [HP2.out]; exact HT.out⟩
end

/-- a pool may be so -/
def newOk (mo wait idl : Int) : Prop := (0 ≤ wait ∧ wait ≤ 12) ∧ 1 ≤ mo ∧ mo ≤ 6 ∧ idl ≠ 0
set_option maxHeartbeats 4000000 in
theorem rpnew_bad (mo wait idl : Int) (hbad : ¬ newOk mo wait idl) (w : World) :
    Calls Tryz.prog 6 #[.int .i64 mo, .int .i64 wait, .int .u64 idl] w fun e w' => e = .returned (.tuple #[.pointer none, .int .i64 1]) ∧ Below w.heap.size w w' := by
  by_cases hw : wait < 0 ∨ 12 < wait
  · have HN := Lib.hid (rnew_bad wait hw w)
    clear hbad hw
    go_enter Tryz.func6, Tryz.ntmps6
    go_wp2_with fail
    refine HN.out.mono ?_
    rintro e w1 ⟨rfl, rfl⟩
    go_wp2_with fail
    go_ret2
    exact ⟨rfl, Below.refl _ _⟩
  · have HN := Lib.hid (rnew_good wait (by omega) (by omega) w)
    have hb : mo < 1 ∨ 6 < mo ∨ idl = 0 := by unfold newOk at hbad; omega
    clear hbad hw
    rcases hb with hb | hb | hb
    · go_enter Tryz.func6, Tryz.ntmps6
      go_wp2_with fail
      refine HN.out.mono ?_
      rintro e w1 ⟨rfl, _, k1⟩
      have HK := Lib.hid k1
      clear k1
      go_wp2_with fail
      go_ret2
      exact ⟨rfl, HK.out⟩
    · have hm : ¬ mo < 1 := by omega
      go_enter Tryz.func6, Tryz.ntmps6
      go_wp2_with fail
      refine HN.out.mono ?_
      rintro e w1 ⟨rfl, _, k1⟩
      have HK := Lib.hid k1
      clear k1
      go_wp2_with fail
      go_ret2
      exact ⟨rfl, HK.out⟩
    · subst hb
      by_cases h1 : mo < 1
      · go_enter Tryz.func6, Tryz.ntmps6
        go_wp2_with fail
        refine HN.out.mono ?_
        rintro e w1 ⟨rfl, _, k1⟩
        have HK := Lib.hid k1
        clear k1
        go_wp2_with fail
        go_ret2
        exact ⟨rfl, HK.out⟩
      · by_cases h2 : 6 < mo
        · go_enter Tryz.func6, Tryz.ntmps6
          go_wp2_with fail
          refine HN.out.mono ?_
          rintro e w1 ⟨rfl, _, k1⟩
          have HK := Lib.hid k1
          clear k1
          go_wp2_with fail
          go_ret2
          exact ⟨rfl, HK.out⟩
        · go_enter Tryz.func6, Tryz.ntmps6
          go_wp2_with fail
          refine HN.out.mono ?_
          rintro e w1 ⟨rfl, _, k1⟩
          have HK := Lib.hid k1
          clear k1
          go_wp2_with fail
          go_ret2
          exact ⟨rfl, HK.out⟩
set_option maxHeartbeats 4000000 in
theorem rpnew_good (mo wait idl : Int) (hok : newOk mo wait idl) (w : World) :
    Calls Tryz.prog 6 #[.int .i64 mo, .int .i64 wait, .int .u64 idl] w fun e w' => ∃ b, e = .returned (.tuple #[.pointer (some ⟨b, 0, none⟩), .int .i64 0]) ∧ (RP b mo idl wait ⟨[], [], 0⟩).p (fun k => w.heap.size ≤ k ∧ k < w'.heap.size) w' ∧ Below w.heap.size w w' := by
  obtain ⟨hw, h1, h6, hi⟩ := hok
  have HN := Lib.hid (rnew_good wait hw.1 hw.2 w)
  have e1 : ¬ mo < 1 := by omega
  have e2 : ¬ 6 < mo := by omega
  have e3 : (idl == 0) = false := by simpa using hi
  have HM := Lib.hid (And.intro h1 h6)
  clear hw h1 h6 hi
  go_enter Tryz.func6, Tryz.ntmps6
  go_wp2_with fail
  refine HN.out.mono ?_
  rintro e w1 ⟨rfl, p1, k1⟩
  have HP1 := Lib.hid p1
  have HK := Lib.hid k1
  clear p1 k1 HN
  go_wp2_with fail
  go_ret2
  have hlt : w.heap.size < w1.heap.size := (RW w.heap.size wait []).lt HP1.out _ rfl
  refine ⟨w1.heap.size, rfl, ?_, kp_alloc HK.out _⟩
  have hno : ∀ k, ¬ hlS none 0 0 [] k := fun k e => by
    rcases e with e | ⟨r, hr, _⟩
    · cases e
    · cases hr
  have hz : (w1.alloc (.cells #[.int .i64 mo, .int .u64 idl, .pointer (some ⟨w.heap.size, 0, none⟩), .slice none 0 0, .int .i64 0] 52)).heap.size = w1.heap.size + 1 := by simp
  exact ⟨[], none, 0, 0, w.heap.size, fun k => k = w.heap.size, ⟨heap_alloc_new w1 _, rfl, HL.nil _ _ _, Thing.next HP1.out (kp_new w1 _), ⟨by omega, by rw [hz]; omega⟩, fun k e => ⟨by omega, by rw [hz]; omega⟩, fun k e => absurd e (hno k), fun k e => e.2, fun k e => ⟨by omega, hno k⟩, hno _, ⟨by have := HM.out; simp only [List.length_nil]; omega, HM.out.2⟩⟩⟩
end
end Go.Proofs.YtkbaljdpnopbmaaGreat
