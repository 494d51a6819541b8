/-
  The calls whose answers the document fixes, at layer 1: they answer so.
-/
import Derived.Test.YtifdfacekajdfaaRefA
namespace Go.Proofs.Ytifdfacekajdfaa
open Go.RowKit

set_option maxRecDepth 100000 in
set_option maxHeartbeats 1000000 in
theorem awake1 (w : World) : Calls Try.prog 7 #[] w fun e w' => e = .returned (.bool true) ∧ Below w.heap.size w w' := by
  obtain ⟨i0, hi, hz0, hz1, hz2⟩ := info_parts u8info
  go_enter Try.func7, Try.ntmps7
  go_wp2_with fail
  refine (put_ok _ [9] 1 1 3 258 _ (Sl.new w _ [9]) (by omega) (by omega) (by omega) (Lib.hid (by decide)) 4 rfl).mono ?_
  rintro e w1 ⟨A1, c1, rfl, ho1, hb1⟩
  go_wp2_with fail
  refine (take_ok _ _ 4 _ 1 _ ho1.sl (by omega) (by omega) (by omega) (by omega) 9 (Lib.hid (by decide))).mono ?_
  rintro e w2 ⟨A2, l2, rfl, hr2, hb2⟩
  obtain rfl : 3 = l2 := hr2.len
  go_wp2_with fail
  refine (putText_ok none [] 0 0 ⟨#[97, 98]⟩ _ (Sl.nil _ _) (by omega) (by decide) 4 rfl).mono ?_
  rintro e w3 ⟨A3, c3, rfl, ho3, hb3⟩
  go_wp2_with (at_builtin; refine wpList_append_rd rfl _ _ _ rfl w2.heap.size 5 i0 _ 1 Try.underlying22 hi hz0 hz1 hz2 rfl _ 4 _ rfl (ho3.own.alloc _) (w3.heap.size + 1) _ _ _ (bvs [7]) rfl rfl (Rd.new _ _ _) (bvs_one _) (by unfold maxLen; omega) (by omega) (by have := hb3.size; simp; omega) ?_; intro v4 w4 hown4 hg4; rw [← bvs_append] at hown4; obtain ⟨A4, c4, rfl, ho4⟩ := Ow.mk' hown4)
  refine (takeText_ok _ _ 5 _ _ ho4.sl (by omega) (by omega) 2 (Lib.hid (by decide)) ⟨#[97, 98]⟩ (Lib.hid (by decide)) (by omega)).mono ?_
  rintro e w5 ⟨A5, l5, rfl, hr5, hb5⟩
  obtain rfl : 1 = l5 := hr5.len
  go_wp2_with fail
  refine (put_no none 0 0 1 256 _ (.inr ⟨⟨by omega, by omega⟩, by decide⟩)).mono ?_
  rintro e w' ⟨rfl, rfl⟩
  go_wp2_with fail
  refine (take_short none 0 0 1 _ (by omega) (by omega) (by omega)).mono ?_
  rintro e w' ⟨rfl, rfl⟩
  have hb4 : Below w2.heap.size w2 w4 := (kp_alloc hb3 _).trans (below_own (ho3.own.alloc _) hg4 (by have := hb3.size; simp; omega))
  have k15 : Below w1.heap.size w1 w5 := kp_trans (kp_trans hb2 hb4) hb5
  go_wp2_with fail
  refine (same_kp _ _ _ [9, 0, 1, 2] _ _ _ _ _ _ _ (ho1.sl.next (kp_alloc k15 _)) (Sl.new w5 _ [9, 0, 1, 2]) (by omega) true (Lib.hid (by decide))).mono ?_
  rintro e w6 ⟨rfl, hb6⟩
  have k6 : Below w5.heap.size w5 w6 := kp_trans (kp_new _ _) hb6
  go_wp2_with fail
  refine (same_kp _ _ _ [7] _ _ _ _ _ _ _ (hr5.next (kp_alloc k6 _)) (Sl.new _ _ [7]) (by omega) true (Lib.hid (by decide))).mono ?_
  rintro e w7 ⟨rfl, hb7⟩
  have k7 : Below w5.heap.size w5 w7 := kp_trans (kp_alloc k6 _) hb7
  go_wp2_with fail
  go_ret
  exact ⟨rfl, kp_trans (kp_trans (kp_trans (kp_new _ _) hb1) k15) k7⟩
end Go.Proofs.Ytifdfacekajdfaa
