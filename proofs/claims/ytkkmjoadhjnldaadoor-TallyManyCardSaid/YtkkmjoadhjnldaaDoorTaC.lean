/-
  slices.Clone at texts: contract.
-/
import Derived.Test.YtkkmjoadhjnldaaDoorPlD
import Derived.Lib.SliceRun
namespace Go.Proofs.YtkkmjoadhjnldaaDoor
open Go.RowKit
set_option maxRecDepth 100000

theorem clonet_ok (A : Option Addr) (n c : Nat) (ss : List ByteArray) (w : World) (h : XR w A n ss) (hn : n ≤ 1000000) :
    Calls Tryd.prog 20 #[.slice A n c] w fun e w' => ∃ A' c', e = .returned (.slice A' n c') ∧ w'.ownsRow w.heap.size 9 1 (.slice A' n c') n (tvs ss) ∧ Below w.heap.size w w' := by
  obtain ⟨i0, hi, hz0, hz1, hz2⟩ := info_parts strinfo6
  have hq := fun u => Lib.run_eql_slice_nil (P := Tryd.prog) u 22 9 A n c 0 0 Tryd.underlying22
  have hl := h.len
  cases A with
  | none =>
    obtain rfl : ss = [] := by
      rcases h.rd with h0 | ⟨_, h0, _⟩
      · have := tvs_length ss
        rw [h0] at this
        exact List.eq_nil_of_length_eq_zero (by simp at this; omega)
      · cases h0
    obtain rfl : n = 0 := by simpa using hl.symm
    go_enter Tryd.func20, Tryd.ntmps20
    go_wp2_with fail
    go_ret
    exact ⟨none, 0, rfl, World.ownsRow_nil _ _ _ _, Below.refl _ _⟩
  | some ad =>
    have ho := own_new_s w w.heap.size 1 9 0 [] rfl (Nat.le_refl _) (Nat.zero_le _)
    have hk := kp_new w (.cells #[] 9)
    have hr := h.next hk
    generalize hw : w.alloc (.cells #[] 9) = w1 at *
    have HW := Lib.hid hw
    have ho' : w1.ownsRow w.heap.size 9 1 (.slice (some ⟨w.heap.size, 0, none⟩) 0 0) 0 [] := ho
    clear hw
    have hb1 := hk.size
    have HL := Lib.hid hl
    clear hl
    go_enter Tryd.func20, Tryd.ntmps20
    go_wp2_with (at_builtin; rw [HW.out]; refine wpList_append_rds rfl _ _ _ rfl w.heap.size 9 i0 _ 1 16 Tryd.underlying22 hi hz0 hz1 hz2 rfl (by decide) _ 0 _ rfl ho' w1.heap.size _ _ _ (tvs ss) rfl (by rw [tvs_length, hr.len]; omega) hr.rd (tvs_one _) (by unfold maxLen; omega) (by omega) hb1 ?_; intro v3 w3 hown3 hg3; obtain ⟨A3, c3, rfl, hcap3, _⟩ := own_form_s hown3)
    go_ret
    refine ⟨A3, c3, rfl, ?_, hk.trans (below_own_s ho' hg3 hb1)⟩
    simpa using hown3
end Go.Proofs.YtkkmjoadhjnldaaDoor
