/-
  The document's layer 11: Right, Sum, Pick: contracts.
-/
import Derived.Test.YtbnelkjcmfjlbaaPiP
namespace Go.Proofs.Ytbnelkjcmfjlbaa
open Go.RowKit
set_option maxRecDepth 100000

theorem rightW_at {zs : List Int} : rightW zs = true ↔ (∀ (j : Nat) (hj : j < zs.length), 0 ≤ zs[j] ∧ zs[j] ≤ 100) ∧ zs.length ≤ 6 := by
  unfold rightW
  rw [Bool.and_eq_true, List.all_eq_true, decide_eq_true_iff]
  constructor
  · rintro ⟨h1, h2⟩
    exact ⟨fun j hj => by simpa using h1 _ (List.getElem_mem hj), h2⟩
  · rintro ⟨h1, h2⟩
    refine ⟨fun x hx => ?_, h2⟩
    obtain ⟨j, hj, rfl⟩ := List.getElem_of_mem hx
    simpa using h1 j hj
theorem sumW_next : ∀ (l : List Int) (k : Nat) (h : k < l.length), sumW (l.take (k + 1)) = sumW (l.take k) + l[k]
  | x :: r, 0, _ => by simp [sumW]
  | x :: r, k + 1, h => by
    have := sumW_next r k (by simpa using h)
    simp only [List.take_succ_cons, sumW, List.getElem_cons_succ]
    omega
theorem sumW_take {l : List Int} (h : ∀ x ∈ l, 0 ≤ x ∧ x ≤ 100) (hl : l.length ≤ 6) (k : Nat) : 0 ≤ sumW (l.take k) ∧ sumW (l.take k) ≤ 600 := by
  have h1 : ∀ x ∈ l.take k, 0 ≤ x ∧ x ≤ 100 := fun x hx => h x (List.mem_of_mem_take hx)
  refine ⟨sumW_nonneg fun x hx => (h1 x hx).1, ?_⟩
  have h2 := sumW_le (c := 100) fun x hx => (h1 x hx).2
  have h3 : (l.take k).length ≤ 6 := Nat.le_trans (by simp; omega) hl
  omega
section
variable {A : Option Addr} {n c : Nat} {zs : List Int} {w : World}
set_option maxHeartbeats 4000000 in
theorem rrightw_ok (bo : Bool) (hbo : Hid (rightW zs = bo)) (hx : NR w A n zs) (hn : n ≤ 140737488355328) :
    Calls Try.prog 8 #[.slice A n c] w fun e w' => e = .returned (.bool bo) ∧ w = w' := by
  have HX := Lib.hid hx
  have HL := Lib.hid hx.len
  clear hx
  go_enter Try.func8, Try.ntmps8
  go_wp2_with fail
  go_loopw [3] (fun i wr => ∃ k : Nat, k ≤ n ∧ i = .int .i64 k ∧ Hid (∀ j (hj : j < zs.length), j < k → 0 ≤ zs[j] ∧ zs[j] ≤ 100) ∧ w = wr) (fun i _ => n - (intOf i).toNat)
  case atStart => exact ⟨0, Nat.zero_le _, rfl, Lib.hid (fun j _ h => absurd h (Nat.not_lt_zero _)), rfl⟩
  case round =>
    obtain ⟨k, hk, rfl, hz, rfl⟩ := hrel
    by_cases hlt : k < n
    · have hkl : k < zs.length := by rw [HL.out]; exact hlt
      obtain ⟨ad, rfl, _, hc⟩ := HX.out.at_ hkl
      have d1 := hc _ (Below.refl _ _)
      clear hc
      by_cases hok : 0 ≤ zs[k] ∧ zs[k] ≤ 100
      · have hz2 : Hid (∀ j (hj : j < zs.length), j < k + 1 → 0 ≤ zs[j] ∧ zs[j] ≤ 100) := Lib.hid fun j hj hjk => by
          by_cases h : j = k
          · subst h; exact hok
          · exact hz.out j hj (by omega)
        have e1 : ¬ zs[k] < 0 := by omega
        have e2 : ¬ 100 < zs[k] := by omega
        clear hz hok
        generalize zs[k] = z at *
        go_wp2_with fail
        go_roundw
        case rel => exact ⟨k + 1, by omega, by go_num, hz2, trivial⟩
        case measure => simp [intOf]; omega
      · have hb : bo = false := by
          rw [← hbo.out, Bool.eq_false_iff]
          intro h
          exact hok ((rightW_at.1 h).1 k hkl)
        subst hb
        clear hz
        by_cases e1 : zs[k] < 0
        · clear hok
          generalize zs[k] = z at *
          go_wp2_with fail
          go_ret
          exact ⟨rfl, rfl⟩
        · have e2 : 100 < zs[k] := by omega
          clear hok
          generalize zs[k] = z at *
          go_wp2_with fail
          go_ret
          exact ⟨rfl, rfl⟩
    · obtain rfl : k = n := by omega
      have hb : bo = decide (k ≤ 6) := by
        have hl := HL.out
        rw [← hbo.out, Bool.eq_iff_iff, rightW_at, decide_eq_true_iff]
        exact ⟨fun h => by have := h.2; omega, fun h => ⟨fun j hj => hz.out j hj (by omega), by omega⟩⟩
      subst hb
      clear hz
      go_wp2_with fail
      go_ret
      refine ⟨?_, rfl⟩
      congr 2
      simp
      try omega
set_option maxHeartbeats 4000000 in
theorem rsumw_ok (sm : Int) (hsm : Hid (sumW zs = sm)) (hr : rightW zs = true) (hx : NR w A n zs) :
    Calls Try.prog 13 #[.slice A n c] w fun e w' => e = .returned (.int .i64 sm) ∧ w = w' := by
  obtain ⟨h1, h2⟩ := rightW_at.1 hr
  have HT : Hid (∀ k, 0 ≤ sumW (zs.take k) ∧ sumW (zs.take k) ≤ 600) := Lib.hid (sumW_take (fun x hx => by obtain ⟨j, hj, rfl⟩ := List.getElem_of_mem hx; exact h1 j hj) h2)
  have HX := Lib.hid hx
  have HL := Lib.hid hx.len
  have hn : n ≤ 6 := by rw [← hx.len]; exact h2
  clear hx hr h1 h2
  go_enter Try.func13, Try.ntmps13
  go_wp2_with fail
  go_loopw [3, 4] (fun s i wr => ∃ (k : Nat) (z : Int), k ≤ n ∧ i = .int .i64 k ∧ s = .int .i64 z ∧ Hid (z = sumW (zs.take k)) ∧ w = wr) (fun _ i _ => n - (intOf i).toNat)
  case atStart => exact ⟨0, 0, Nat.zero_le _, rfl, rfl, Lib.hid rfl, rfl⟩
  case round =>
    obtain ⟨k, z, hk, rfl, rfl, hz, rfl⟩ := hrel
    by_cases hlt : k < n
    · have hkl : k < zs.length := by rw [HL.out]; exact hlt
      obtain ⟨ad, rfl, _, hc⟩ := HX.out.at_ hkl
      have d1 := hc _ (Below.refl _ _)
      have hz2 : Hid (z + zs[k] = sumW (zs.take (k + 1))) := Lib.hid (by rw [sumW_next zs k hkl, hz.out])
      have hlo := (HT.out (k + 1)).1
      have hhi := (HT.out (k + 1)).2
      rw [← hz2.out] at hlo hhi
      have hw : IntKind.i64.wrap (z + zs[k]) = z + zs[k] := by rw [IntKind.wrap_i64]; omega
      clear hc hz
      generalize zs[k] = y at *
      go_wp2_with fail
      go_roundw
      case rel => exact ⟨k + 1, z + y, by omega, by go_num, by go_num, hz2, trivial⟩
      case measure => simp [intOf]; omega
    · obtain rfl : k = n := by omega
      obtain rfl : sm = z := by rw [← hsm.out, hz.out, List.take_of_length_le (by rw [HL.out]; exact Nat.le_refl _)]
      clear hz
      go_wp2_with fail
      go_ret
      exact ⟨rfl, rfl⟩
/-- a walk through the places that takes the weights off what is left -/
theorem pickAt_next {l : List Int} {k : Nat} (h : k < l.length) (left : Int) : pickAt left (l.drop k) = if left < l[k] then 0 else if pickAt (left - l[k]) (l.drop (k + 1)) < 0 then -1 else pickAt (left - l[k]) (l.drop (k + 1)) + 1 := by
  rw [List.drop_eq_getElem_cons h]
  rfl
set_option maxHeartbeats 4000000 in
theorem rpickw_ok (d : Int) (hd0 : 0 ≤ d) (hd1 : d < 18446744073709551616) (v : Int) (hv : Hid (pickW zs d = v)) (hr : rightW zs = true) (hx : NR w A n zs) :
    Calls Try.prog 15 #[.slice A n c, .int .u64 d] w fun e w' => e = .returned (.int .i64 v) ∧ w = w' := by
  obtain ⟨h1, h2⟩ := rightW_at.1 hr
  have hge : ∀ x ∈ zs, 0 ≤ x ∧ x ≤ 100 := fun x hx => by obtain ⟨j, hj, rfl⟩ := List.getElem_of_mem hx; exact h1 j hj
  have hs := sumW_take hge h2 n
  rw [List.take_of_length_le (by rw [hx.len]; exact Nat.le_refl _)] at hs
  obtain ⟨sm, hsm⟩ : ∃ s, sumW zs = s := ⟨_, rfl⟩
  have HS := Lib.hid (rsumw_ok (A := A) (n := n) (c := c) (w := w) sm (Lib.hid hsm) hr hx)
  have HX := Lib.hid hx
  have HL := Lib.hid hx.len
  have HGE := Lib.hid h1
  have hn : n ≤ 6 := by rw [← hx.len]; exact h2
  rw [hsm] at hs
  clear hx hr h1 h2 hge
  by_cases hz : sm = 0
  · have hv1 : v = -1 := by rw [← hv.out]; unfold pickW; rw [if_pos (by omega)]
    subst hv1
    subst hz
    clear hsm hv
    go_enter Try.func15, Try.ntmps15
    go_wp2_with fail
    refine HS.out.mono ?_
    rintro e w1 ⟨rfl, rfl⟩
    go_wp2_with fail
    go_ret
    exact ⟨rfl, rfl⟩
  · have hz1 : (sm == 0) = false := by simpa using hz
    have hw1 : IntKind.u64.wrap sm = sm := by rw [IntKind.wrap_u64]; omega
    obtain ⟨q, hq⟩ : ∃ q, d % sm = q := ⟨_, rfl⟩
    have hq0 : 0 ≤ q := hq ▸ Int.emod_nonneg _ hz
    have hq1 : q < sm := hq ▸ Int.emod_lt_of_pos _ (by omega)
    have hv1 : Hid (pickAt q zs = v) := Lib.hid (by rw [← hv.out]; unfold pickW; rw [if_neg (by omega), hsm, hq])
    have hw2 : IntKind.i64.wrap q = q := by rw [IntKind.wrap_i64]; omega
    have hw3 : IntKind.u64.wrap q = q := by rw [IntKind.wrap_u64]; omega
    have hq2 : IntKind.u64.wrap (d.tmod sm) = q := by rw [Int.tmod_eq_emod_of_nonneg hd0, hq, hw3]
    have HS0 : Hid (q < sumW (zs.drop 0)) := Lib.hid (by rw [List.drop_zero, hsm]; exact hq1)
    have HV0 : Hid (pickAt q (zs.drop 0) + ((0 : Nat) : Int) = v) := Lib.hid (by rw [List.drop_zero, hv1.out]; simp)
    clear hsm hv hv1
    go_enter Try.func15, Try.ntmps15
    go_wp2_with fail
    refine HS.out.mono ?_
    rintro e w1 ⟨rfl, rfl⟩
    go_wp2_with fail
    refine HS.out.mono ?_
    rintro e w1 ⟨rfl, rfl⟩
    go_wp2_with fail
    go_loopw [5, 6] (fun s i wr => ∃ (k : Nat) (y : Int), k ≤ n ∧ i = .int .i64 k ∧ s = .int .i64 y ∧ 0 ≤ y ∧ y < 601 ∧ Hid (y < sumW (zs.drop k)) ∧ Hid (pickAt y (zs.drop k) + k = v) ∧ w = wr) (fun _ i _ => n - (intOf i).toNat)
    case atStart => exact ⟨0, q, Nat.zero_le _, rfl, rfl, hq0, by omega, HS0, HV0, rfl⟩
    case round =>
      obtain ⟨k, y, hk, rfl, rfl, hy0, hy1, hys, hyv, rfl⟩ := hrel
      by_cases hlt : k < n
      · have hkl : k < zs.length := by rw [HL.out]; exact hlt
        obtain ⟨ad, rfl, _, hc⟩ := HX.out.at_ hkl
        have d1 := hc _ (Below.refl _ _)
        have hd := List.drop_eq_getElem_cons hkl
        have hz0 := (HGE.out k hkl).1
        have hys2 : y < zs[k] + sumW (zs.drop (k + 1)) := by have := hys.out; rw [hd] at this; exact this
        have hyv2 : (if y < zs[k] then 0 else if pickAt (y - zs[k]) (zs.drop (k + 1)) < 0 then -1 else pickAt (y - zs[k]) (zs.drop (k + 1)) + 1) + k = v := by rw [← pickAt_next hkl]; exact hyv.out
        clear hc hd hys hyv HV0 HS0
        by_cases hlt2 : y < zs[k]
        · rw [if_pos hlt2] at hyv2
          obtain rfl : v = k := by omega
          clear hyv2 hys2
          generalize zs[k] = x at *
          go_wp2_with fail
          go_ret
          exact ⟨rfl, rfl⟩
        · rw [if_neg hlt2] at hyv2
          obtain ⟨i, _, hpi, _⟩ := pickAt_is (l := zs.drop (k + 1)) (d := y - zs[k]) (by omega) (by omega)
          rw [hpi, if_neg (by omega)] at hyv2
          have hys3 : Hid (y - zs[k] < sumW (zs.drop (k + 1))) := Lib.hid (by omega)
          have hyv3 : Hid (pickAt (y - zs[k]) (zs.drop (k + 1)) + ((k + 1 : Nat) : Int) = v) := Lib.hid (by rw [hpi]; omega)
          have hw4 : IntKind.i64.wrap (y - zs[k]) = y - zs[k] := by rw [IntKind.wrap_i64]; omega
          clear hyv2 hys2 hpi
          generalize zs[k] = x at *
          go_wp2_with fail
          go_roundw
          case rel => exact ⟨k + 1, y - x, by omega, by go_num, by go_num, by omega, by omega, hys3, hyv3, trivial⟩
          case measure => simp [intOf]; omega
      · exfalso
        obtain rfl : k = n := by omega
        have := hys.out
        rw [List.drop_eq_nil_of_le (by rw [HL.out]; exact Nat.le_refl _)] at this
        simp only [sumW] at this
        omega
end
end Go.Proofs.Ytbnelkjcmfjlbaa
