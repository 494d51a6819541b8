/-
  The document's layer 8: Same (it only reads, and draws): contract.
-/
import Derived.Test.YtgneieelfapmcaaRowN
import Derived.Deep.QuietTactic
import Derived.BigQuiet
namespace Go.Proofs.Ytgneieelfapmcaa
open Go.RowKit
set_option maxRecDepth 100000

set_option maxHeartbeats 4000000 in
theorem rsame11_ok (A B : Option Addr) (n k c d : Nat) (xs ys : List Int) (w : World) (hx : NR w A n xs) (hy : NR w B k ys) (hn : n ≤ 1000) (hk : k ≤ 1000) (bo : Bool) (hbo : Hid (decide (xs = ys) = bo)) :
    Calls Try.prog 14 #[.slice A n c, .slice B k d] w fun e w' => e = .returned (.bool bo) ∧ ∃ m, w' = w.drewN m := by
  have HX := Lib.hid hx
  have HY := Lib.hid hy
  have hlx := hx.len
  have hly := hy.len
  clear hx hy
  by_cases hnk : n = k
  · subst hnk
    have HLX := Lib.hid hlx
    have HLY := Lib.hid hly
    clear hlx hly
    go_enter Try.func14, Try.ntmps14
    go_wp2_with fail
    go_loopw [5] (fun i wr => ∃ q : Nat, q ≤ n ∧ i = .int .i64 q ∧ Hid (∀ j (hj : j < xs.length) (hj2 : j < ys.length), j < q → xs[j] = ys[j]) ∧ Hid (∃ m, wr = w.drewN m)) (fun i _ => n - (intOf i).toNat)
    case atStart => exact ⟨0, Nat.zero_le _, rfl, Lib.hid (fun j _ _ h => absurd h (Nat.not_lt_zero _)), Lib.hid ⟨0, rfl⟩⟩
    case round =>
      obtain ⟨q, hq, rfl, he, hw0⟩ := hrel
      obtain ⟨mw, hmw⟩ := hw0.out
      have hw : Hid (Below w.heap.size w wr) := Lib.hid (by rw [hmw]; exact kp_drewN _ _)
      have HMW := Lib.hid hmw
      clear hmw hw0
      by_cases hlt : q < n
      · have hqx : q < xs.length := by rw [HLX.out]; exact hlt
        have hqy : q < ys.length := by rw [HLY.out]; exact hlt
        obtain ⟨ax, rfl, _, cx⟩ := HX.out.at_ hqx
        obtain ⟨ay, rfl, _, cy⟩ := HY.out.at_ hqy
        have d1 := cx wr hw.out
        have d2 := cy wr hw.out
        clear cx cy
        have hi0 : (0 : Int) ≤ (q : Int) := by omega
        have hi1 : (q : Int) < (n : Int) := by omega
        by_cases hxy : xs[q] = ys[q]
        · have hq1 : (xs[q] == ys[q]) = true := by rw [hxy]; simp
          have he2 : Hid (∀ j (hj : j < xs.length) (hj2 : j < ys.length), j < q + 1 → xs[j] = ys[j]) := Lib.hid fun j hj hj2 hjq => by
            by_cases h : j = q
            · subst h; exact hxy
            · exact he.out j hj hj2 (by omega)
          clear he hxy
          generalize xs[q] = x at *
          generalize ys[q] = y at *
          go_wp2_with fail
          go_quiet (fail)
          go_wp2_with fail
          go_roundw
          case rel => exact ⟨q + 1, by omega, by go_num, he2, Lib.hid ⟨_, by rw [HMW.out]; exact World.drewN_drewN _ _ _⟩⟩
          case measure => simp [intOf]; omega
        · have hq1 : (xs[q] == ys[q]) = false := by simpa using hxy
          have hb : bo = false := by
            rw [← hbo.out]
            exact decide_eq_false fun h => hxy (by subst h; rfl)
          subst hb
          clear he hxy
          generalize xs[q] = x at *
          generalize ys[q] = y at *
          go_wp2_with fail
          go_quiet (fail)
          go_wp2_with fail
          go_ret
          exact ⟨rfl, _, by rw [HMW.out]; exact World.drewN_drewN _ _ _⟩
      · obtain rfl : q = n := by omega
        have hb : bo = true := by
          rw [← hbo.out]
          exact decide_eq_true (List.ext_getElem (by rw [HLX.out, HLY.out]) fun j h1 h2 => he.out j h1 h2 (by have := HLX.out; omega))
        subst hb
        clear he
        go_wp2_with fail
        go_ret
        exact ⟨rfl, _, HMW.out⟩
  · have hb : bo = false := by
      rw [← hbo.out]
      exact decide_eq_false fun h => hnk (by subst h; omega)
    subst hb
    have hne : ((n : Int) == (k : Int)) = false := by simp; omega
    clear hlx hly hbo
    go_enter Try.func14, Try.ntmps14
    go_wp2_with fail
    go_ret
    exact ⟨rfl, 0, rfl⟩

end Go.Proofs.Ytgneieelfapmcaa
