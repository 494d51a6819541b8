/-
  The document's layer 6, and the law's own helpers: pairs, Table, Same, Texts, large: contracts.
-/
import Derived.Test.YtkkmjoadhjnldaaDoorPlD
import Derived.Laws.StructEq
namespace Go.Proofs.YtkkmjoadhjnldaaDoor
open Go.RowKit
set_option maxRecDepth 100000

theorem OK.empty (e : TypeId) (w : World) : OK e (w.alloc (.cells #[] e)) w.heap.size (some ⟨w.heap.size, 0, none⟩) 0 0 [] :=
  ⟨own_new_s w w.heap.size 2 e 0 [] rfl (Nat.le_refl _) (by simp [maxLen]), Nat.le_refl _⟩

theorem take_same6 {α : Type} [DecidableEq α] {xs ys : List α} {k : Nat} (hx : k < xs.length) (hy : k < ys.length) (h : xs.take k = ys.take k) (he : xs[k] = ys[k]) : xs.take (k + 1) = ys.take (k + 1) := by
  rw [List.take_succ_eq_append_getElem hx, List.take_succ_eq_append_getElem hy, h, he]

set_option maxHeartbeats 2000000 in
theorem texts6_ok (A A' : Option Addr) (n n' c c' : Nat) (xs ys : List ByteArray) (w : World) (hx : XR w A n xs) (hy : XR w A' n' ys) (hn : n ≤ 1000000) (hn' : n' ≤ 1000000) (b : Bool) (hb : Hid (decide (xs = ys) = b)) :
    Calls Tryd.prog 10 #[.slice A n c, .slice A' n' c'] w fun e w' => e = .returned (.bool b) ∧ ∃ m, w' = w.drewN m := by
  by_cases hll : n = n'
  · subst hll
    have hlx := Lib.hid hx.len
    have hly := Lib.hid hy.len
    go_enter Tryd.func10, Tryd.ntmps10
    go_wp2
    go_loopw [5] (fun i wr => ∃ k m : Nat, k ≤ n ∧ i = .int .i64 k ∧ Hid (xs.take k = ys.take k) ∧ wr = w.drewN m) (fun i _ => n - (intOf i).toNat)
    case atStart => exact ⟨0, 0, Nat.zero_le _, rfl, Lib.hid (by simp), rfl⟩
    case round =>
      obtain ⟨k, m, hk, rfl, he, hw⟩ := hrel
      have hx' : XR wr A n xs := by subst hw; exact hx.next (kp_drewN _ _)
      have hy' : XR wr A' n ys := by subst hw; exact hy.next (kp_drewN _ _)
      have HW := Lib.hid hw
      clear hw hx hy
      by_cases hlt : k < n
      · have hkx : k < xs.length := by rw [hlx.out]; omega
        have hky : k < ys.length := by rw [hly.out]; omega
        obtain ⟨ad, rfl, _, c0⟩ := hx'.at_ hkx
        obtain ⟨ad', rfl, _, d0⟩ := hy'.at_ hky
        clear hx' hy'
        by_cases hee : xs[k] = ys[k]
        · have hsn : Hid (xs.take (k + 1) = ys.take (k + 1)) := Lib.hid (take_same6 hkx hky he.out hee)
          rw [hee] at c0
          clear hee
          generalize ys[k] = y at *
          have hq : (y.toList == y.toList) = true := by simp
          go_wp2
          go_quiet (fail)
          go_wp2
          go_roundw
          case rel => exact ⟨k + 1, m + nq, by omega, by go_num, hsn, by rw [HW.out, World.drewN_drewN]⟩
          case measure => simp [intOf]; omega
        · have hf : b = false := by
            rw [← hb.out]
            simp only [decide_eq_false_iff_not]
            rintro rfl
            exact hee rfl
          subst hf
          have hq : (xs[k].toList == ys[k].toList) = false := by
            simp only [beq_eq_false_iff_ne, ne_eq]
            exact fun h => hee (bytes_ext h)
          clear hee
          generalize xs[k] = x at *
          generalize ys[k] = y at *
          go_wp2
          go_quiet (fail)
          go_wp2
          go_ret
          exact ⟨rfl, m + nq, by rw [HW.out, World.drewN_drewN]⟩
      · have hf : b = true := by
          rw [← hb.out]
          have h1 := he.out
          rw [List.take_of_length_le (by rw [hlx.out]; omega), List.take_of_length_le (by rw [hly.out]; omega)] at h1
          simp [h1]
        subst hf
        go_wp2
        go_ret
        exact ⟨rfl, m, HW.out⟩
  · have hf : b = false := by
      rw [← hb.out]
      simp only [decide_eq_false_iff_not]
      rintro rfl
      have := hx.len
      have := hy.len
      omega
    subst hf
    have ht : ((n : Int) != (n' : Int)) = true := by rw [bne_iff_ne]; omega
    go_enter Tryd.func10, Tryd.ntmps10
    go_wp2
    go_ret
    exact ⟨rfl, 0, rfl⟩

end Go.Proofs.YtkkmjoadhjnldaaDoor
