/-
  The document's layer 8: Same: contract; the calls whose answers the document fixes.
-/
import Derived.Test.YtijemohcengmjaaWaT
import Derived.Test.YtijemohcengmjaaWaS
namespace Go.Proofs.Ytijemohcengmjaa
open Go.RowKit
set_option maxRecDepth 100000

set_option maxHeartbeats 4000000 in
theorem wsame_ok (A B : Option Addr) (n k c d : Nat) (xs ys : List Int) (w : World) (hx : NR w A n xs) (hy : NR w B k ys) (hn : n ≤ 1000) (hk : k ≤ 1000) (bo : Bool) (hbo : Hid (decide (xs = ys) = bo)) :
    Calls Try.prog 15 #[.slice A n c, .slice B k d] w fun e w' => e = .returned (.bool bo) ∧ w'.heap = w.heap ∧ Below w.heap.size w w' := by
  have HX := Lib.hid hx
  have HY := Lib.hid hy
  have hlx := hx.len
  have hly := hy.len
  clear hx hy
  by_cases hnk : n = k
  · subst hnk
    have HLX := Lib.hid hlx
    have HLY := Lib.hid hly
    clear hlx hly
    go_enter Try.func15, Try.ntmps15
    go_wp2_with fail
    go_loopw [5] (fun i wr => ∃ q : Nat, q ≤ n ∧ i = .int .i64 q ∧ Hid (∀ j (hj : j < xs.length) (hj2 : j < ys.length), j < q → xs[j] = ys[j]) ∧ Hid (wr.heap = w.heap ∧ Below w.heap.size w wr)) (fun i _ => n - (intOf i).toNat)
    case atStart => exact ⟨0, Nat.zero_le _, rfl, Lib.hid (fun j _ _ h => absurd h (Nat.not_lt_zero _)), Lib.hid ⟨rfl, Below.refl _ _⟩⟩
    case round =>
      obtain ⟨q, hq, rfl, he, hw⟩ := hrel
      by_cases hlt : q < n
      · have hqx : q < xs.length := by rw [HLX.out]; exact hlt
        have hqy : q < ys.length := by rw [HLY.out]; exact hlt
        obtain ⟨ax, rfl, _, cx⟩ := HX.out.at_ hqx
        obtain ⟨ay, rfl, _, cy⟩ := HY.out.at_ hqy
        have d1 := cx wr hw.out.2
        have d2 := cy wr hw.out.2
        clear cx cy
        have hi0 : (0 : Int) ≤ (q : Int) := by omega
        have hi1 : (q : Int) < (n : Int) := by omega
        by_cases hxy : xs[q] = ys[q]
        · have hq1 : (xs[q] == ys[q]) = true := by rw [hxy]; simp
          have he2 : Hid (∀ j (hj : j < xs.length) (hj2 : j < ys.length), j < q + 1 → xs[j] = ys[j]) := Lib.hid fun j hj hj2 hjq => by
            by_cases h : j = q
            · subst h; exact hxy
            · exact he.out j hj hj2 (by omega)
          clear he hxy
          generalize xs[q] = x at *
          generalize ys[q] = y at *
          go_wp2_with fail
          go_quiet (fail)
          go_wp2_with fail
          go_roundw
          case rel => exact ⟨q + 1, by omega, by go_num, he2, Lib.hid ⟨hw.out.1, kp_trans hw.out.2 (kp_drewN _ _)⟩⟩
          case measure => simp [intOf]; omega
        · have hq1 : (xs[q] == ys[q]) = false := by simpa using hxy
          have hb : bo = false := by
            rw [← hbo.out]
            exact decide_eq_false fun h => hxy (by subst h; rfl)
          subst hb
          clear he hxy
          generalize xs[q] = x at *
          generalize ys[q] = y at *
          go_wp2_with fail
          go_quiet (fail)
          go_wp2_with fail
          go_ret
          exact ⟨rfl, hw.out.1, kp_trans hw.out.2 (kp_drewN _ _)⟩
      · obtain rfl : q = n := by omega
        have hb : bo = true := by
          rw [← hbo.out]
          exact decide_eq_true (List.ext_getElem (by rw [HLX.out, HLY.out]) fun j h1 h2 => he.out j h1 h2 (by have := HLX.out; omega))
        subst hb
        clear he
        go_wp2_with fail
        go_ret
        exact ⟨rfl, hw.out.1, hw.out.2⟩
  · have hb : bo = false := by
      rw [← hbo.out]
      exact decide_eq_false fun h => hnk (by subst h; omega)
    subst hb
    have hne : ((n : Int) == (k : Int)) = false := by simp; omega
    clear hlx hly hbo
    go_enter Try.func15, Try.ntmps15
    go_wp2_with fail
    go_ret
    exact ⟨rfl, rfl, Below.refl _ _⟩

set_option maxHeartbeats 4000000 in
theorem awake8_ok (w : World) :
    Calls Try.prog 6 #[] w fun e w' => e = .returned (.bool true) ∧ Below w.heap.size w w' := by
  have HN := Lib.hid (pnew_good 2 (by omega) (by omega) w)
  go_enter Try.func6, Try.ntmps6
  go_wp2_with fail
  refine HN.out.mono ?_
  rintro e w1 ⟨rfl, p1, k1⟩
  have S1 : Hid (Solo w (PW w.heap.size 2 []) noneB w1) := Lib.hid (Solo.make (Below.refl _ _) p1 (fun k h => by omega) k1)
  clear p1 k1 HN
  obtain ⟨b, hb⟩ : ∃ b, b = w.heap.size := ⟨_, rfl⟩
  rw [← hb] at S1
  rw [← hb]
  clear hb
  have P1 : Hid (Calls Try.prog 9 #[.pointer (some ⟨b, 0, none⟩), .int .i64 5] w1 fun e w' => e = .returned (.int .i64 0) ∧ Solo w (PW b 2 [5]) noneB w' ∧ ∀ k, noneB k → w'.heap[k]? = w1.heap[k]?) := Lib.hid (S1.out.op fun S h => pput_ok 5 h)
  go_wp2_with fail
  refine P1.out.mono ?_
  rintro e w2 ⟨rfl, s2, _⟩
  have P2 : Hid (Calls Try.prog 9 #[.pointer (some ⟨b, 0, none⟩), .int .i64 7] w2 fun e w' => e = .returned (.int .i64 0) ∧ Solo w (PW b 2 [5, 7]) noneB w' ∧ ∀ k, noneB k → w'.heap[k]? = w2.heap[k]?) := Lib.hid (s2.op fun S h => pput_ok 7 h)
  clear s2
  go_wp2_with fail
  refine P2.out.mono ?_
  rintro e w3 ⟨rfl, s3, _⟩
  have P3 : Hid (Calls Try.prog 9 #[.pointer (some ⟨b, 0, none⟩), .int .i64 9] w3 fun e w' => e = .returned (.int .i64 5) ∧ Solo w (PW b 2 [5, 7]) noneB w' ∧ ∀ k, noneB k → w'.heap[k]? = w3.heap[k]?) := Lib.hid (s3.op fun S h => pput_ok 9 h)
  clear s3
  go_wp2_with fail
  refine P3.out.mono ?_
  rintro e w4 ⟨rfl, s4, _⟩
  have P4 : Hid (Calls Try.prog 9 #[.pointer (some ⟨b, 0, none⟩), .int .i64 5] w4 fun e w' => e = .returned (.int .i64 7) ∧ Solo w (PW b 2 [5, 7]) noneB w' ∧ ∀ k, noneB k → w'.heap[k]? = w4.heap[k]?) := Lib.hid (s4.op fun S h => pput_ok 5 h)
  clear s4
  go_wp2_with fail
  refine P4.out.mono ?_
  rintro e w5 ⟨rfl, s5, _⟩
  have P5 : Hid (Calls Try.prog 11 #[.pointer (some ⟨b, 0, none⟩)] w5 fun e w' => e = .returned (.tuple #[.int .i64 5, .bool true]) ∧ Solo w (PW b 2 [7]) noneB w' ∧ ∀ k, noneB k → w'.heap[k]? = w5.heap[k]?) := Lib.hid (s5.op fun S h => ptake_ok h)
  clear s5
  go_wp2_with fail
  refine P5.out.mono ?_
  rintro e w6 ⟨rfl, s6, _⟩
  have P6 : Hid (Calls Try.prog 17 #[.pointer (some ⟨b, 0, none⟩), .int .i64 7] w6 fun e w' => e = .returned (.int .i64 0) ∧ Solo w (PW b 2 [7]) noneB w') := Lib.hid (s6.ask fun S h => (pat_ok 7 h).mono fun _ _ ⟨h1, _, h3⟩ => ⟨h1, h3⟩)
  clear s6
  go_wp2_with fail
  refine P6.out.mono ?_
  rintro e w7 ⟨rfl, s7⟩
  have P7 : Hid (Calls Try.prog 17 #[.pointer (some ⟨b, 0, none⟩), .int .i64 5] w7 fun e w' => e = .returned (.int .i64 (-1)) ∧ Solo w (PW b 2 [7]) noneB w') := Lib.hid (s7.ask fun S h => (pat_ok 5 h).mono fun _ _ ⟨h1, _, h3⟩ => ⟨h1, h3⟩)
  clear s7
  go_wp2_with fail
  refine P7.out.mono ?_
  rintro e w8 ⟨rfl, s8⟩
  obtain ⟨S8, p8, _⟩ := s8.at_
  have P8 := Lib.hid (pall_ok p8)
  have HS8 := Lib.hid s8
  clear s8 p8
  go_wp2_with fail
  refine P8.out.mono ?_
  rintro e w9 ⟨A9, n9, c9, rfl, x9, hn9, k9⟩
  have k10 : Below w8.heap.size w8 (w9.alloc (.cells #[.int .i64 7] 3)) := kp_alloc k9 _
  have HX9 := Lib.hid (x9.next (kp_new w9 (.cells #[.int .i64 7] 3)))
  have HY9 : Hid (NR (w9.alloc (.cells #[.int .i64 7] 3)) (some ⟨w9.heap.size, 0, none⟩) 1 [7]) := Lib.hid (NR.new w9 3 [7])
  have HS9 := Lib.hid (HS8.out.next k10)
  have HP10 := Lib.hid (wsame_ok A9 (some ⟨w9.heap.size, 0, none⟩) n9 1 c9 1 [7] [7] _ HX9.out HY9.out (by omega) (by omega) true (Lib.hid (by simp)))
  clear k9 k10 x9 HS8
  go_wp2_with fail
  refine HP10.out.mono ?_
  rintro e w10 ⟨rfl, _, k10⟩
  have s10 := HS9.out.next k10
  have P10 : Hid (Calls Try.prog 13 #[.pointer (some ⟨b, 0, none⟩), .int .i64 7] w10 fun e w' => e = .returned (.bool true) ∧ Solo w (PW b 2 []) noneB w' ∧ ∀ k, noneB k → w'.heap[k]? = w10.heap[k]?) := Lib.hid (s10.op fun S h => pdrop_ok 7 h)
  clear s10 k10
  go_wp2_with fail
  refine P10.out.mono ?_
  rintro e w11 ⟨rfl, s11, _⟩
  have P11 : Hid (Calls Try.prog 13 #[.pointer (some ⟨b, 0, none⟩), .int .i64 7] w11 fun e w' => e = .returned (.bool false) ∧ Solo w (PW b 2 []) noneB w' ∧ ∀ k, noneB k → w'.heap[k]? = w11.heap[k]?) := Lib.hid (s11.op fun S h => pdrop_ok 7 h)
  clear s11
  go_wp2_with fail
  refine P11.out.mono ?_
  rintro e w12 ⟨rfl, s12, _⟩
  have HB := Lib.hid s12.low
  clear s12
  go_wp2_with fail
  go_ret
  exact ⟨rfl, HB.out⟩
end Go.Proofs.Ytijemohcengmjaa
