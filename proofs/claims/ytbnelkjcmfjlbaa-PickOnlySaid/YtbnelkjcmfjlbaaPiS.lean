/-
  The document's layer 11: Only; layer 8's Same (it only reads, and draws): contracts.
-/
import Derived.Test.YtbnelkjcmfjlbaaPiR
import Derived.Deep.QuietTactic
import Derived.BigQuiet
namespace Go.Proofs.Ytbnelkjcmfjlbaa
open Go.RowKit
set_option maxRecDepth 100000

set_option maxHeartbeats 4000000 in
theorem rsame11_ok (A B : Option Addr) (n k c d : Nat) (xs ys : List Int) (w : World) (hx : NR w A n xs) (hy : NR w B k ys) (hn : n ≤ 1000) (hk : k ≤ 1000) (bo : Bool) (hbo : Hid (decide (xs = ys) = bo)) :
    Calls Try.prog 9 #[.slice A n c, .slice B k d] w fun e w' => e = .returned (.bool bo) ∧ ∃ m, w' = w.drewN m := by
  have HX := Lib.hid hx
  have HY := Lib.hid hy
  have hlx := hx.len
  have hly := hy.len
  clear hx hy
  by_cases hnk : n = k
  · subst hnk
    have HLX := Lib.hid hlx
    have HLY := Lib.hid hly
    clear hlx hly
    go_enter Try.func9, Try.ntmps9
    go_wp2_with fail
    go_loopw [5] (fun i wr => ∃ q : Nat, q ≤ n ∧ i = .int .i64 q ∧ Hid (∀ j (hj : j < xs.length) (hj2 : j < ys.length), j < q → xs[j] = ys[j]) ∧ Hid (∃ m, wr = w.drewN m)) (fun i _ => n - (intOf i).toNat)
    case atStart => exact ⟨0, Nat.zero_le _, rfl, Lib.hid (fun j _ _ h => absurd h (Nat.not_lt_zero _)), Lib.hid ⟨0, rfl⟩⟩
    case round =>
      obtain ⟨q, hq, rfl, he, hw0⟩ := hrel
      obtain ⟨mw, hmw⟩ := hw0.out
      have hw : Hid (Below w.heap.size w wr) := Lib.hid (by rw [hmw]; exact kp_drewN _ _)
      have HMW := Lib.hid hmw
      clear hmw hw0
      by_cases hlt : q < n
      · have hqx : q < xs.length := by rw [HLX.out]; exact hlt
        have hqy : q < ys.length := by rw [HLY.out]; exact hlt
        obtain ⟨ax, rfl, _, cx⟩ := HX.out.at_ hqx
        obtain ⟨ay, rfl, _, cy⟩ := HY.out.at_ hqy
        have d1 := cx wr hw.out
        have d2 := cy wr hw.out
        clear cx cy
        have hi0 : (0 : Int) ≤ (q : Int) := by omega
        have hi1 : (q : Int) < (n : Int) := by omega
        by_cases hxy : xs[q] = ys[q]
        · have hq1 : (xs[q] == ys[q]) = true := by rw [hxy]; simp
          have he2 : Hid (∀ j (hj : j < xs.length) (hj2 : j < ys.length), j < q + 1 → xs[j] = ys[j]) := Lib.hid fun j hj hj2 hjq => by
            by_cases h : j = q
            · subst h; exact hxy
            · exact he.out j hj hj2 (by omega)
          clear he hxy
          generalize xs[q] = x at *
          generalize ys[q] = y at *
          go_wp2_with fail
          go_quiet (fail)
          go_wp2_with fail
          go_roundw
          case rel => exact ⟨q + 1, by omega, by go_num, he2, Lib.hid ⟨_, by rw [HMW.out]; exact World.drewN_drewN _ _ _⟩⟩
          case measure => simp [intOf]; omega
        · have hq1 : (xs[q] == ys[q]) = false := by simpa using hxy
          have hb : bo = false := by
            rw [← hbo.out]
            exact decide_eq_false fun h => hxy (by subst h; rfl)
          subst hb
          clear he hxy
          generalize xs[q] = x at *
          generalize ys[q] = y at *
          go_wp2_with fail
          go_quiet (fail)
          go_wp2_with fail
          go_ret
          exact ⟨rfl, _, by rw [HMW.out]; exact World.drewN_drewN _ _ _⟩
      · obtain rfl : q = n := by omega
        have hb : bo = true := by
          rw [← hbo.out]
          exact decide_eq_true (List.ext_getElem (by rw [HLX.out, HLY.out]) fun j h1 h2 => he.out j h1 h2 (by have := HLX.out; omega))
        subst hb
        clear he
        go_wp2_with fail
        go_ret
        exact ⟨rfl, _, HMW.out⟩
  · have hb : bo = false := by
      rw [← hbo.out]
      exact decide_eq_false fun h => hnk (by subst h; omega)
    subst hb
    have hne : ((n : Int) == (k : Int)) = false := by simp; omega
    clear hlx hly hbo
    go_enter Try.func9, Try.ntmps9
    go_wp2_with fail
    go_ret
    exact ⟨rfl, 0, rfl⟩

theorem intinfo11 : (Try.prog.info? 3).map (fun i => (i.zero, i.size, i.bytes)) = some (some (.int .i64 0), 1, 8) := by kernel_rfl
theorem onlyW_next (zs : List Int) (bs : List Bool) (k : Nat) (h : k < zs.length) : ivs ((onlyW zs bs).take (k + 1)) = ivs ((onlyW zs bs).take k) ++ [.int .i64 (if bs.getD k false = true then zs[k] else 0)] := by
  have hk : k < (onlyW zs bs).length := by rw [onlyW_length]; exact h
  rw [List.take_succ_eq_append_getElem hk, onlyW_at zs bs k h]
  simp [ivs]
set_option maxHeartbeats 8000000 in
theorem ronlyw_ok (A B : Option Addr) (n c k d : Nat) (zs : List Int) (bs : List Bool) (w : World) (hx : NR w A n zs) (hy : BR w B k bs) (hn : n ≤ 1000) :
    Calls Try.prog 11 #[.slice A n c, .slice B k d] w fun e w' => ∃ D g, e = .returned (.slice D n g) ∧ w'.ownsRow w.heap.size 3 1 (.slice D n g) n (ivs (onlyW zs bs)) ∧ Below w.heap.size w w' := by
  have HX := Lib.hid hx
  have HY := Lib.hid hy
  have HL := Lib.hid hx.len
  have HLB := Lib.hid hy.len
  have kw := Lib.hid (kp_new w (.cells #[] 3))
  have HO0 : Hid ((w.alloc (.cells #[] 3)).ownsRow w.heap.size 3 1 (.slice (some ⟨w.heap.size, 0, none⟩) 0 0) 0 (ivs ((onlyW zs bs).take 0))) := Lib.hid (own_new_s w w.heap.size 1 3 0 [] rfl (Nat.le_refl _) (Nat.zero_le _))
  obtain ⟨i0, hi, hz0, hz1, hz2⟩ := info_parts intinfo11
  clear hx hy
  go_enter Try.func11, Try.ntmps11
  go_wp2_with fail
  go_loopw [5, 6] (fun o i wr => ∃ (q e : Nat) (D : Option Addr), q ≤ n ∧ i = .int .i64 q ∧ o = .slice D q e ∧ Hid (wr.ownsRow w.heap.size 3 1 (.slice D q e) q (ivs ((onlyW zs bs).take q))) ∧ Hid (Below w.heap.size w wr)) (fun _ i _ => n - (intOf i).toNat)
  case atStart => exact ⟨0, 0, _, Nat.zero_le _, rfl, rfl, HO0, kw⟩
  case round =>
    obtain ⟨q, e, D, hq, rfl, rfl, ho, hb⟩ := hrel
    have hwr : w.heap.size ≤ wr.heap.size := hb.out.size
    by_cases hlt : q < n
    · have hql : q < zs.length := by rw [HL.out]; exact hlt
      have HNX := Lib.hid (onlyW_next zs bs q hql)
      obtain ⟨ad, rfl, _, hc⟩ := HX.out.at_ hql
      have d1 := hc wr hb.out
      clear hc
      by_cases hqk : q < k
      · have hqb : q < bs.length := by rw [HLB.out]; exact hqk
        obtain ⟨ab, rfl, _, hcb⟩ := HY.out.at_ hqb
        have d2 := hcb wr hb.out
        have hgd : bs.getD q false = bs[q] := by simp [List.getD_eq_getElem?_getD, hqb]
        rw [hgd] at HNX
        clear hcb hgd
        generalize bs[q] = bb at *
        generalize zs[q] = x at *
        cases bb with
        | true =>
          rw [if_pos rfl] at HNX
          have HO1 := Lib.hid (ho.out.alloc (.cells #[.int .i64 x] 3))
          have HSRC : Hid (Rd (wr.alloc (.cells #[.int .i64 x] 3)) (wr.heap.size + 1) (some ⟨wr.heap.size, 0, none⟩) [.int .i64 x]) := Lib.hid (Rd.new wr 3 [.int .i64 x])
          have KA := Lib.hid (kp_alloc hb.out (.cells #[.int .i64 x] 3))
          have HSW := Lib.hid KA.out.size
          clear ho
          go_wp2_with (at_builtin; refine wpList_append_rd rfl _ _ _ rfl w.heap.size 3 i0 _ 8 Try.underlying22 hi hz0 hz1 hz2 rfl _ q _ rfl HO1.out _ _ _ _ [.int .i64 x] rfl rfl HSRC.out (by simp [Value.oneCell']) (by unfold maxLen; omega) (by omega) HSW.out ?_; intro v3 w3 hown3 hg3; obtain ⟨D3, e3, rfl, _, _⟩ := own_form hown3; have HO3 := Lib.hid hown3; have HK3 := Lib.hid (KA.out.trans (below_own_s HO1.out hg3 HSW.out)); clear hown3 hg3)
          go_roundw
          case rel =>
            refine ⟨q + 1, e3, D3, by omega, by go_num, rfl, Lib.hid ?_, HK3⟩
            rw [HNX.out]
            exact HO3.out
          case measure => simp [intOf]; omega
        | false =>
          rw [if_neg (by simp)] at HNX
          have HO1 := Lib.hid (ho.out.alloc (.cells #[.int .i64 0] 3))
          have HSRC : Hid (Rd (wr.alloc (.cells #[.int .i64 0] 3)) (wr.heap.size + 1) (some ⟨wr.heap.size, 0, none⟩) [.int .i64 0]) := Lib.hid (Rd.new wr 3 [.int .i64 0])
          have KA := Lib.hid (kp_alloc hb.out (.cells #[.int .i64 0] 3))
          have HSW := Lib.hid KA.out.size
          clear ho
          go_wp2_with (at_builtin; refine wpList_append_rd rfl _ _ _ rfl w.heap.size 3 i0 _ 8 Try.underlying22 hi hz0 hz1 hz2 rfl _ q _ rfl HO1.out _ _ _ _ [.int .i64 0] rfl rfl HSRC.out (by simp [Value.oneCell']) (by unfold maxLen; omega) (by omega) HSW.out ?_; intro v3 w3 hown3 hg3; obtain ⟨D3, e3, rfl, _, _⟩ := own_form hown3; have HO3 := Lib.hid hown3; have HK3 := Lib.hid (KA.out.trans (below_own_s HO1.out hg3 HSW.out)); clear hown3 hg3)
          go_roundw
          case rel =>
            refine ⟨q + 1, e3, D3, by omega, by go_num, rfl, Lib.hid ?_, HK3⟩
            rw [HNX.out]
            exact HO3.out
          case measure => simp [intOf]; omega
      · have hgd : bs.getD q false = false := by
          rw [List.getD_eq_getElem?_getD, List.getElem?_eq_none (by have := HLB.out; omega)]
          rfl
        rw [hgd, if_neg (by simp)] at HNX
        clear hgd
        generalize zs[q] = x at *
        have HO1 := Lib.hid (ho.out.alloc (.cells #[.int .i64 0] 3))
        have HSRC : Hid (Rd (wr.alloc (.cells #[.int .i64 0] 3)) (wr.heap.size + 1) (some ⟨wr.heap.size, 0, none⟩) [.int .i64 0]) := Lib.hid (Rd.new wr 3 [.int .i64 0])
        have KA := Lib.hid (kp_alloc hb.out (.cells #[.int .i64 0] 3))
        have HSW := Lib.hid KA.out.size
        clear ho
        go_wp2_with (at_builtin; refine wpList_append_rd rfl _ _ _ rfl w.heap.size 3 i0 _ 8 Try.underlying22 hi hz0 hz1 hz2 rfl _ q _ rfl HO1.out _ _ _ _ [.int .i64 0] rfl rfl HSRC.out (by simp [Value.oneCell']) (by unfold maxLen; omega) (by omega) HSW.out ?_; intro v3 w3 hown3 hg3; obtain ⟨D3, e3, rfl, _, _⟩ := own_form hown3; have HO3 := Lib.hid hown3; have HK3 := Lib.hid (KA.out.trans (below_own_s HO1.out hg3 HSW.out)); clear hown3 hg3)
        go_roundw
        case rel =>
          refine ⟨q + 1, e3, D3, by omega, by go_num, rfl, Lib.hid ?_, HK3⟩
          rw [HNX.out]
          exact HO3.out
        case measure => simp [intOf]; omega
    · obtain rfl : q = n := by omega
      rw [List.take_of_length_le (by rw [onlyW_length, HL.out]; exact Nat.le_refl _)] at ho
      go_wp2_with fail
      go_ret
      exact ⟨D, e, rfl, ho.out, hb.out⟩
end Go.Proofs.Ytbnelkjcmfjlbaa
