/-
  What the document's own answers of layer 1 are (Put, Take, PutText, TakeText of the reference): contracts.
-/
import Derived.Test.YtmklmakcampbbaaDoorRefA
import Derived.Test.YtmklmakcampbbaaDoorNumT
namespace Go.Proofs.YtmklmakcampbbaaDoor
open Go.RowKit
set_option maxRecDepth 100000

set_option maxHeartbeats 400000 in
theorem top_any (size y : Nat) (w : World) (h8 : size < 8) (hy : Hid (256 ^ size = y)) :
    Calls Tryd.prog 44 #[.int .i64 size] w fun e w' => e = .returned (.int .u64 y) ∧ w = w' := by
  go_enter Tryd.func44, Tryd.ntmps44
  go_wp2
  go_loop [3, 4] (fun n i => ∃ k x : Nat, k ≤ size ∧ i = .int .i64 k ∧ n = .int .u64 x ∧ Hid (x = 256 ^ k)) (fun _ i => size - (intOf i).toNat)
  case atStart => exact ⟨0, 1, Nat.zero_le _, rfl, rfl, Lib.hid rfl⟩
  case round =>
    obtain ⟨k, x, hk, rfl, rfl, hx⟩ := hrel
    by_cases hlt : k < size
    · have hv : x ≤ 281474976710656 := by rw [hx.out]; exact Nat.le_trans (Nat.pow_le_pow_right (by omega) (by omega : k ≤ 6)) (by decide)
      go_wp2
      go_round
      case rel => exact ⟨k + 1, x * 256, by omega, by go_num, by go_num, Lib.hid (by rw [hx.out, Nat.pow_succ])⟩
      case measure => simp [intOf]; omega
    · obtain rfl : k = size := by omega
      go_wp2
      go_ret
      rw [← hy.out, ← hx.out]
      exact ⟨rfl, rfl⟩

set_option maxHeartbeats 1000000 in
theorem rput_ok (A : Option Addr) (bs : List UInt8) (l c size n : Nat) (w : World) (hr : Sl w w.heap.size A l c bs) (hl : l ≤ 900000) (h1 : 1 ≤ size) (h8 : size ≤ 8) (hn : n < 18446744073709551616) (hf : Hid (decide (n < 256 ^ size) = true)) (m : Nat) (hm : l + size = m) :
    Calls Tryd.prog 26 #[.slice A l c, .int .i64 size, .int .u64 n] w fun e w' => ∃ A' c', e = .returned (.tuple #[.slice A' m c', .int .i64 0]) ∧ Ow w' w.heap.size A' m c' (bs ++ be size n) ∧ Below w.heap.size w w' := by
  subst hm
  obtain ⟨i0, hi, hz0, hz1, hz2⟩ := info_parts u8info
  have d1 : decide ((size : Int) < 1) = false := by simp; omega
  have d2 : decide ((8 : Int) < (size : Int)) = false := by simp; omega
  have hp : 256 ^ size ≤ 18446744073709551616 := Nat.le_trans (Nat.pow_le_pow_right (by omega) h8) (by decide)
  generalize hx : 256 ^ size = x at *
  have hlt : n < x := of_decide_eq_true hf.out
  have hge : decide (x ≤ n) = false := by simp; omega
  have HX := Lib.hid hx
  clear hx hf
  by_cases h7 : size < 8
  focus
    have d3 : decide ((size : Int) < 8) = true := by simp; omega
    go_enter Tryd.func26, Tryd.ntmps26
    go_wp2_with fail
    refine (top_any size x _ h7 HX).mono ?_
    rintro e w' ⟨rfl, rfl⟩
    go_wp2_with fail
  rotate_left
  focus
    have d3 : decide ((size : Int) < 8) = false := by simp; omega
    go_enter Tryd.func26, Tryd.ntmps26
    go_wp2_with fail
  all_goals
    go_loopw [2, 8, 9] (fun n' out i wr => ∃ (k y : Nat) (A' : Option Addr) (c' : Nat), k ≤ size ∧ i = .int .i64 k ∧ n' = .int .u64 y ∧ Hid (y = n / 256 ^ k) ∧ y < 18446744073709551616 ∧ out = .slice A' k c' ∧ Ow wr w.heap.size A' k c' (be k n) ∧ Below w.heap.size w wr) (fun _ _ i _ => size - (intOf i).toNat)
    case atStart => exact ⟨0, n, _, _, Nat.zero_le _, rfl, rfl, Lib.hid (by simp), hn, rfl, Ow.new w w.heap.size (Nat.le_refl _) [] (by simp), kp_new _ _⟩
    case round =>
      obtain ⟨k, y, A1, c1, hk, rfl, rfl, hy, hy2, rfl, ho1, hb1⟩ := hrel
      by_cases hlt2 : k < size
      · have hc := be_cons k n
        rw [← hy.out] at hc
        have HC := Lib.hid hc
        clear hc
        have hsz := hb1.size
        have HY := Lib.hid (byte_mod y)
        have HN : Hid (y / 256 = n / 256 ^ (k + 1)) := Lib.hid (by rw [hy.out, Nat.div_div_eq_div_mul, Nat.pow_succ])
        go_wp2_with (at_builtin; refine wpList_append_rd rfl _ _ _ rfl w.heap.size 5 i0 _ 1 Tryd.underlying26 hi hz0 hz1 hz2 rfl _ 1 _ rfl (Ow.new1 wr w.heap.size hsz _ _ HY.out).own (wr.heap.size + 1) _ _ _ (bvs (be k n)) rfl (by rw [bvs_length]; exact ho1.len) (((ho1.sl.next (kp_new _ _)).more (by simp)).rd) (bvs_one _) (by unfold maxLen; omega) (by omega) (by simp; omega) ?_; intro v2 w2 hown2 hg2; rw [← bvs_append] at hown2)
        go_roundw
        case rel =>
          obtain ⟨A2, c2, rfl, ho2⟩ := Ow.mk' hown2
          refine ⟨k + 1, y / 256, A2, c2, by omega, by go_num, by go_num, HN, by omega, by rw [Nat.add_comm], ?_, ?_⟩
          · rw [HC.out, Nat.add_comm k 1]
            exact ho2
          · exact (kp_alloc hb1 _).trans (below_own (Ow.new1 wr w.heap.size hsz _ _ HY.out).own hg2 (by simp; omega))
        case measure => simp [intOf]; omega
      · obtain rfl : k = size := by omega
        have hsz := hb1.size
        go_wp2_with (first
          | (at_builtin; refine wpList_append_rd rfl (.tmp 40) (.tmp 41) _ rfl wr.heap.size 5 i0 _ 1 Tryd.underlying26 hi hz0 hz1 hz2 rfl _ 0 _ rfl (Ow.new wr wr.heap.size (Nat.le_refl _) [] (by simp)).own (wr.heap.size + 1) _ _ _ (bvs bs) rfl (by rw [bvs_length]; exact hr.len) ((((hr.next hb1).next (kp_new _ _)).more (by simp)).rd) (bvs_one _) (by unfold maxLen; omega) (by omega) (by simp) ?_; intro v2 w2 hown2 hg2; rw [← bvs_append, List.nil_append, Nat.zero_add] at hown2; obtain ⟨A2, c2, rfl, ho2⟩ := Ow.mk' hown2; have hb2 : Below wr.heap.size wr w2 := (kp_new _ _).trans (below_own (Ow.new wr wr.heap.size (Nat.le_refl _) [] (by simp)).own hg2 (by simp)))
          | (at_builtin; refine wpList_append_rd rfl (.tmp 42) (.tmp 43) _ rfl wr.heap.size 5 i0 _ 1 Tryd.underlying26 hi hz0 hz1 hz2 rfl _ l _ rfl ho2.own w2.heap.size _ _ _ (bvs (be k n)) rfl (by rw [bvs_length]; exact ho1.len) (ho1.sl.next hb2).rd (bvs_one _) (by unfold maxLen; omega) (by omega) hb2.size ?_; intro v3 w3 hown3 hg3; rw [← bvs_append] at hown3; obtain ⟨A3, c3, rfl, ho3⟩ := Ow.mk' hown3))
        go_ret2
        exact ⟨A3, c3, rfl, ho3.base hsz, hb1.trans ((hb2.trans (below_own ho2.own hg3 hb2.size)).mono hsz)⟩
end Go.Proofs.YtmklmakcampbbaaDoor
