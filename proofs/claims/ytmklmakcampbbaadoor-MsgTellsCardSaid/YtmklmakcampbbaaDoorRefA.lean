/-
  What the document's own helpers Same and Less answer of two lists of bytes.
-/
import Derived.Test.YtmklmakcampbbaaDoorNumB
import Derived.Deep.QuietTactic
import Derived.BigQuiet
namespace Go.Proofs.YtmklmakcampbbaaDoor
open Go.RowKit
set_option maxRecDepth 100000

theorem drewN3 (w : World) (a b c : Nat) : ∃ m, ((w.drewN a).drewN b).drewN c = w.drewN m := ⟨a + (b + c), by rw [World.drewN_drewN, World.drewN_drewN]⟩
theorem same_step {xs ys : List UInt8} {k : Nat} (hx : k < xs.length) (hy : k < ys.length) (h : xs.take k = ys.take k) (e : xs[k] = ys[k]) : xs.take (k + 1) = ys.take (k + 1) := by
  rw [take_next xs k hx, take_next ys k hy, h, e]

set_option maxHeartbeats 400000 in
theorem same_any (A A' : Option Addr) (xs ys : List UInt8) (l c l' c' B B' : Nat) (w : World) (hx : Sl w B A l c xs) (hy : Sl w B' A' l' c' ys) (hl : l ≤ 1000000) (b : Bool) (hb : Hid (decide (xs = ys) = b)) :
    Calls Tryd.prog 17 #[.slice A l c, .slice A' l' c'] w fun e w' => e = .returned (.bool b) ∧ ∃ m, w' = w.drewN m := by
  by_cases hll : l = l'
  · subst hll
    have hlx := Lib.hid hx.len
    have hly := Lib.hid hy.len
    go_enter Tryd.func17, Tryd.ntmps17
    go_wp2
    go_loopw [5] (fun i wr => ∃ k m : Nat, k ≤ l ∧ i = .int .i64 k ∧ Hid (xs.take k = ys.take k) ∧ wr = w.drewN m) (fun i _ => l - (intOf i).toNat)
    case atStart => exact ⟨0, 0, Nat.zero_le _, rfl, Lib.hid (by simp), rfl⟩
    case round =>
      obtain ⟨k, m, hk, rfl, he, rfl⟩ := hrel
      by_cases hlt : k < l
      · have hkx : k < xs.length := by rw [hlx.out]; omega
        have hky : k < ys.length := by rw [hly.out]; omega
        obtain ⟨ad, rfl, _, hc⟩ := hx.rd.at_ (k := k) (by rw [bvs_length]; omega)
        obtain ⟨ad', rfl, _, hc'⟩ := hy.rd.at_ (k := k) (by rw [bvs_length]; omega)
        have hcell : w.cell? (ad.add k) = some (.int .u8 ((xs[k]).toNat : Int)) := by rw [hc]; simp [bvs, bv]
        have hcell' : w.cell? (ad'.add k) = some (.int .u8 ((ys[k]).toNat : Int)) := by rw [hc']; simp [bvs, bv]
        clear hc hc'
        by_cases hee : xs[k] = ys[k]
        · have hs := Lib.hid (same_step hkx hky he.out hee)
          have ht : ((xs[k].toNat : Int) != (ys[k].toNat : Int)) = false := by rw [hee]; simp
          clear hee
          go_wp2
          go_quiet (fail)
          go_wp2
          go_roundw
          case rel => exact ⟨k + 1, _, by omega, by go_num, hs, rfl⟩
          case measure => simp [intOf]; omega
        · have ht : ((xs[k].toNat : Int) != (ys[k].toNat : Int)) = true := by
            rw [bne_iff_ne]; intro e; exact hee (UInt8.toNat_inj.1 (by omega))
          have hf : b = false := by
            rw [← hb.out]
            simp only [decide_eq_false_iff_not]
            intro e
            subst e
            exact hee rfl
          subst hf
          clear hee
          go_wp2
          go_quiet (fail)
          go_wp2
          go_ret
          exact ⟨rfl, _, World.drewN_drewN _ _ _⟩
      · have hf : b = true := by
          rw [← hb.out]
          have h1 := he.out
          rw [List.take_of_length_le (by rw [hlx.out]; omega), List.take_of_length_le (by rw [hly.out]; omega)] at h1
          simp [h1]
        subst hf
        go_wp2
        go_ret
        exact ⟨rfl, _, rfl⟩
  · have hf : b = false := by
      rw [← hb.out]
      simp only [decide_eq_false_iff_not]
      intro e
      subst e
      exact hll (hx.len.symm.trans hy.len)
    subst hf
    have ht : ((l : Int) != (l' : Int)) = true := by rw [bne_iff_ne]; omega
    go_enter Tryd.func17, Tryd.ntmps17
    go_wp2
    go_ret
    exact ⟨rfl, 0, rfl⟩

theorem same_kp (A A' : Option Addr) (xs ys : List UInt8) (l c l' c' B B' : Nat) (w : World) (hx : Sl w B A l c xs) (hy : Sl w B' A' l' c' ys) (hl : l ≤ 1000000) (b : Bool) (hb : Hid (decide (xs = ys) = b)) :
    Calls Tryd.prog 17 #[.slice A l c, .slice A' l' c'] w fun e w' => e = .returned (.bool b) ∧ Below w.heap.size w w' :=
  (same_any A A' xs ys l c l' c' B B' w hx hy hl b hb).mono fun _ _ ⟨he, m, hm⟩ => ⟨he, by rw [hm]; exact kp_drewN _ _⟩
end Go.Proofs.YtmklmakcampbbaaDoor
