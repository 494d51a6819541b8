/-
  TallyMany, of layer 7: the walk.
-/
import Derived.Test.YtkkmjoadhjnldaaDoorOpen7
import Derived.Test.YtkkmjoadhjnldaaDoorTaD
import Derived.Test.YtkkmjoadhjnldaaDoorAwake7
namespace Go.Proofs.YtkkmjoadhjnldaaDoor
open Go.RowKit
set_option maxRecDepth 100000

def lM7 : List ByteArray := [⟨#[115, 117, 109]⟩, ⟨#[111, 110, 101]⟩]
theorem place_sum : placeT ⟨#[115, 117, 109]⟩ lM7 = 0 := by decide +kernel
theorem place_one : placeT ⟨#[111, 110, 101]⟩ lM7 = 1 := by decide +kernel
theorem many_add (a b x : Int) : addT lM7 [a, b] ⟨#[115, 117, 109]⟩ x = [wrapT (a + x), b] := by
  unfold addT
  rw [place_sum]
  rfl
theorem many_count (a b : Int) : countT lM7 [a, b] ⟨#[115, 117, 109]⟩ = a := by
  unfold countT
  rw [place_sum]
  rfl
theorem many_count1 (a b : Int) : countT lM7 [a, b] ⟨#[111, 110, 101]⟩ = b := by
  unfold countT
  rw [place_one]
  rfl
theorem many_swap (a b x : Int) : swapT lM7 [a, b] ⟨#[111, 110, 101]⟩ 0 x = if b = 0 then ([a, x], true) else ([a, b], false) := by
  unfold swapT
  rw [place_one]
  rfl
theorem PB.sum {w0 w : World} {b : Nat} {v f : Int} (h : PB w0 w b lM7 lM7 [v, f]) (x v' : Int) (hv : Hid (wrapT (v + x) = v')) : Calls Tryd.prog 12 #[.pointer (some ⟨b, 0, none⟩), .string ⟨#[115, 117, 109]⟩, .int .i64 x] w fun e w' => e = .returned (.bool true) ∧ PB w0 w' b lM7 lM7 [v', f] :=
  h.add' _ x _ true (by decide) (by rw [place_sum]; rfl) (by rw [many_add, hv.out])

set_option maxHeartbeats 16000000 in
theorem tallymany_walk (A0 : Option Addr) (l0 c0 : Nat) (ts : List Act7) (A1 : Option Addr) (l1 c1 : Nat) (us : List Act7) (A2 : Option Addr) (l2 c2 : Nat) (bs : List Bool) (A3 : Option Addr) (l3 c3 : Nat) (zs : List Int) (W : World) (r0 : AR W A0 l0 ts)
    (m0 : ∀ t ∈ ts, t.s.size ≤ 140737488351232 ∧ (-9223372036854775808 ≤ t.n ∧ t.n ≤ 9223372036854775807) ∧ (-9223372036854775808 ≤ t.m ∧ t.m ≤ 9223372036854775807)) (r1 : AR W A1 l1 us)
    (m1 : ∀ t ∈ us, t.s.size ≤ 140737488351232 ∧ (-9223372036854775808 ≤ t.n ∧ t.n ≤ 9223372036854775807) ∧ (-9223372036854775808 ≤ t.m ∧ t.m ≤ 9223372036854775807)) (r2 : BR W A2 l2 bs) (r3 : NR W A3 l3 zs) (_ : ∀ z ∈ zs, -9223372036854775808 ≤ z ∧ z ≤ 9223372036854775807) (htab : Lib.TabIs Tryd.prog W tabName .u64 Lib.pow10Tab) :
    Calls Tryd.prog 5 #[.slice A0 l0 c0, .slice A1 l1 c1, .slice A2 l2 c2, .slice A3 l3 c3] W fun e w' => e = .returned (.bool true) ∧ Below W.heap.size W w' := by
  have HAW := Lib.hid (awake7_ok W htab)
  have R0 := Lib.hid r0
  have R1 := Lib.hid r1
  have R2 := Lib.hid r2
  have R3 := Lib.hid r3
  have M0 := Lib.hid m0
  have M1 := Lib.hid m1
  have R0n : Hid (∀ u, Below W.heap.size W u → AR u A0 l0 ts) := Lib.hid fun u hu => ⟨r0.len, (r0.rd.below hu (Nat.le_refl _)).more hu.size⟩
  have R1n : Hid (∀ u, Below W.heap.size W u → AR u A1 l1 us) := Lib.hid fun u hu => ⟨r1.len, (r1.rd.below hu (Nat.le_refl _)).more hu.size⟩
  obtain ⟨g0, hg0⟩ : ∃ g, largeT [] ts = g := ⟨_, rfl⟩
  obtain ⟨g1, hg1⟩ : ∃ g, largeT [] us = g := ⟨_, rfl⟩
  have HG0 := Lib.hid hg0
  have HG1 := Lib.hid hg1
  clear r0 r1 r2 r3 m0 m1 htab hg0 hg1
  go_enter Tryd.func5, Tryd.ntmps5
  go_wp2_with fail
  refine HAW.out.mono ?_
  rintro e w1 ⟨rfl, k1⟩
  clear HAW
  cases g0 with
  | true =>
    go_wp2_with fail
    refine (large7_ok none A0 0 0 l0 c0 [] ts w1 (XR.nil w1) (R0n.out w1 k1) true HG0).mono ?_
    rintro e w2 ⟨rfl, k2⟩
    have K2 := kp_trans k1 k2
    go_wp2_with fail
    go_ret
    exact ⟨rfl, K2⟩
  | false =>
  cases g1 with
  | true =>
    go_wp2_with fail
    refine (large7_ok none A0 0 0 l0 c0 [] ts w1 (XR.nil w1) (R0n.out w1 k1) false HG0).mono ?_
    rintro e w2 ⟨rfl, k2⟩
    have K2 := kp_trans k1 k2
    clear k1 k2
    go_wp2_with fail
    refine (large7_ok none A1 0 0 l1 c1 [] us w2 (XR.nil w2) (R1n.out w2 K2) true HG1).mono ?_
    rintro e w3 ⟨rfl, k3⟩
    have K3 := kp_trans K2 k3
    go_wp2_with fail
    go_ret
    exact ⟨rfl, K3⟩
  | false =>
  obtain ⟨_, n2, _, _⟩ := large_no HG0.out
  obtain ⟨_, n3, _, _⟩ := large_no HG1.out
  have hl0 := R0.out.len
  have hl1 := R1.out.len
  have hl2 := R2.out.len
  have hl3 := R3.out.len
  have HL0 := Lib.hid (show l0 ≤ 100 by omega)
  have HL1 := Lib.hid (show l1 ≤ 100 by omega)
  have HN0 := Lib.hid hl0
  have HN1 := Lib.hid hl1
  have HN2 := Lib.hid hl2
  have HN3 := Lib.hid hl3
  clear hl0 hl1 hl2 hl3 n2 n3
  go_wp2_with fail
  refine (large7_ok none A0 0 0 l0 c0 [] ts w1 (XR.nil w1) (R0n.out w1 k1) false HG0).mono ?_
  rintro e w2 ⟨rfl, k2⟩
  have K2 := kp_trans k1 k2
  clear k1 k2
  go_wp2_with fail
  refine (large7_ok none A1 0 0 l1 c1 [] us w2 (XR.nil w2) (R1n.out w2 K2) false HG1).mono ?_
  rintro e w3 ⟨rfl, k3⟩
  have K3 := kp_trans K2 k3
  clear K2 k3
  by_cases hb2 : 200 < l2
  · go_wp2_with fail
    go_ret
    exact ⟨rfl, K3⟩
  by_cases hb3 : 100 < l3
  · go_wp2_with fail
    go_ret
    exact ⟨rfl, K3⟩
  have HL2 := Lib.hid (show l2 ≤ 200 by omega)
  have HL3 := Lib.hid (show l3 ≤ 100 by omega)
  have HX := Lib.hid (show XR (w3.alloc (.cells #[.string ⟨#[115, 117, 109]⟩, .string ⟨#[111, 110, 101]⟩] 9)) (some ⟨w3.heap.size, 0, none⟩) 2 lM7 from XR.new w3 9 lM7)
  have HK := Lib.hid (kp_alloc K3 (.cells #[.string ⟨#[115, 117, 109]⟩, .string ⟨#[111, 110, 101]⟩] 9))
  clear K3
  go_wp2_with fail
  refine (pb_new W _ 2 2 lM7 _ HX.out (by omega) (by decide) HK.out).mono ?_
  rintro e w4 ⟨b, rfl, h4⟩
  have HP4 : Hid (PB W w4 b lM7 lM7 [0, 0]) := Lib.hid (by
    have e1 : newT lM7 = lM7 := by decide +kernel
    rw [e1] at h4
    exact h4)
  clear h4
  go_wp2_with fail
  go_loopw [10, 11, 12, 13] (fun v i k n wr => ∃ (p q : Nat) (s : Int), p ≤ l0 ∧ q ≤ l1 ∧ v = .int .i64 s ∧ i = .int .i64 p ∧ k = .int .i64 q ∧ n = .int .i64 ((p + q : Nat) : Int) ∧ Hid (-9223372036854775808 ≤ s ∧ s ≤ 9223372036854775807) ∧ Hid (PB W wr b lM7 lM7 [s, 0])) (fun _ i k _ _ => (l0 + l1) - ((intOf i).toNat + (intOf k).toNat))
  case atStart => exact ⟨0, 0, 0, Nat.zero_le _, Nat.zero_le _, rfl, rfl, rfl, rfl, Lib.hid (by omega), HP4⟩
  case round =>
    obtain ⟨p, q, s, hp, hq, rfl, rfl, rfl, rfl, hs, hP⟩ := hrel
    have hl0 := HL0.out
    have hl1 := HL1.out
    have hl2 := HL2.out
    by_cases hpl : p < l0
    · by_cases hql : q = l1
      · subst hql
        have hkl : p < ts.length := by rw [HN0.out]; omega
        obtain ⟨ad, hA, had, hcc⟩ := R0.out.at_ hkl
        subst hA
        obtain ⟨x0, x1, x2, x3⟩ := hcc wr hP.out.low
        have hxb := (M0.out ts[p] (List.getElem_mem hkl)).2.1
        have HCC := Lib.hid hcc
        clear hcc
        generalize ts[p] = x at *
        obtain ⟨s2, hs2⟩ : ∃ s2, wrapT (s + x.n) = s2 := ⟨_, rfl⟩
        have HS2 := Lib.hid hs2
        have HW2 : Hid (-9223372036854775808 ≤ s2 ∧ s2 ≤ 9223372036854775807) := Lib.hid (by rw [← hs2]; exact wrapT_in _)
        have hw : IntKind.i64.wrap (s + x.n) = s2 := by rw [← hs2]; unfold wrapT wrap64; rw [IntKind.wrap_i64]
        clear hs2
        go_wp2_with fail
        refine (hP.out.sum x.n s2 HS2).mono ?_
        rintro e w5 ⟨rfl, p5⟩
        obtain ⟨z0, z1, z2, z3⟩ := HCC.out w5 p5.low
        have HP5 := Lib.hid p5
        clear p5 x0 x1 x2 x3
        go_wp2_with fail
        go_roundw
        case rel => exact ⟨p + 1, q, s2, by omega, by omega, rfl, by go_num, by go_num, by go_num, HW2, HP5⟩
        case measure => simp [intOf]; omega
      · have hqlt : q < l1 := by omega
        have hqe : ((q : Int) == (l1 : Int)) = false := by simpa using (show (q : Int) ≠ (l1 : Int) by omega)
        by_cases hnl : p + q < l2
        · have hnb : p + q < bs.length := by rw [HN2.out]; exact hnl
          obtain ⟨ab, hab, _, hbc⟩ := R2.out.at_ hnb
          subst hab
          have hb0 := hbc wr hP.out.low
          have hnl' : ((p + q : Nat) : Int) < (l2 : Int) := by omega
          clear hbc
          generalize bs[p + q] = tb at *
          cases tb with
          | true =>
            have hkl : p < ts.length := by rw [HN0.out]; omega
            obtain ⟨ad, hA, had, hcc⟩ := R0.out.at_ hkl
            subst hA
            obtain ⟨x0, x1, x2, x3⟩ := hcc wr hP.out.low
            have hxb := (M0.out ts[p] (List.getElem_mem hkl)).2.1
            have HCC := Lib.hid hcc
            clear hcc
            generalize ts[p] = x at *
            obtain ⟨s2, hs2⟩ : ∃ s2, wrapT (s + x.n) = s2 := ⟨_, rfl⟩
            have HS2 := Lib.hid hs2
            have HW2 : Hid (-9223372036854775808 ≤ s2 ∧ s2 ≤ 9223372036854775807) := Lib.hid (by rw [← hs2]; exact wrapT_in _)
            have hw : IntKind.i64.wrap (s + x.n) = s2 := by rw [← hs2]; unfold wrapT wrap64; rw [IntKind.wrap_i64]
            clear hs2
            go_wp2_with fail
            refine (hP.out.sum x.n s2 HS2).mono ?_
            rintro e w5 ⟨rfl, p5⟩
            obtain ⟨z0, z1, z2, z3⟩ := HCC.out w5 p5.low
            have HP5 := Lib.hid p5
            clear p5 x0 x1 x2 x3
            go_wp2_with fail
            go_roundw
            case rel => exact ⟨p + 1, q, s2, by omega, by omega, rfl, by go_num, by go_num, by go_num, HW2, HP5⟩
            case measure => simp [intOf]; omega
          | false =>
            have hkl : q < us.length := by rw [HN1.out]; omega
            obtain ⟨ad, hA, had, hcc⟩ := R1.out.at_ hkl
            subst hA
            obtain ⟨x0, x1, x2, x3⟩ := hcc wr hP.out.low
            have hxb := (M1.out us[q] (List.getElem_mem hkl)).2.1
            have HCC := Lib.hid hcc
            clear hcc
            generalize us[q] = x at *
            obtain ⟨s2, hs2⟩ : ∃ s2, wrapT (s + x.n) = s2 := ⟨_, rfl⟩
            have HS2 := Lib.hid hs2
            have HW2 : Hid (-9223372036854775808 ≤ s2 ∧ s2 ≤ 9223372036854775807) := Lib.hid (by rw [← hs2]; exact wrapT_in _)
            have hw : IntKind.i64.wrap (s + x.n) = s2 := by rw [← hs2]; unfold wrapT wrap64; rw [IntKind.wrap_i64]
            clear hs2
            go_wp2_with fail
            refine (hP.out.sum x.n s2 HS2).mono ?_
            rintro e w5 ⟨rfl, p5⟩
            obtain ⟨z0, z1, z2, z3⟩ := HCC.out w5 p5.low
            have HP5 := Lib.hid p5
            clear p5 x0 x1 x2 x3
            go_wp2_with fail
            go_roundw
            case rel => exact ⟨p, q + 1, s2, by omega, by omega, rfl, by go_num, by go_num, by go_num, HW2, HP5⟩
            case measure => simp [intOf]; omega
        · have hnl' : ¬ ((p + q : Nat) : Int) < (l2 : Int) := by omega
          have hkl : q < us.length := by rw [HN1.out]; omega
          obtain ⟨ad, hA, had, hcc⟩ := R1.out.at_ hkl
          subst hA
          obtain ⟨x0, x1, x2, x3⟩ := hcc wr hP.out.low
          have hxb := (M1.out us[q] (List.getElem_mem hkl)).2.1
          have HCC := Lib.hid hcc
          clear hcc
          generalize us[q] = x at *
          obtain ⟨s2, hs2⟩ : ∃ s2, wrapT (s + x.n) = s2 := ⟨_, rfl⟩
          have HS2 := Lib.hid hs2
          have HW2 : Hid (-9223372036854775808 ≤ s2 ∧ s2 ≤ 9223372036854775807) := Lib.hid (by rw [← hs2]; exact wrapT_in _)
          have hw : IntKind.i64.wrap (s + x.n) = s2 := by rw [← hs2]; unfold wrapT wrap64; rw [IntKind.wrap_i64]
          clear hs2
          go_wp2_with fail
          refine (hP.out.sum x.n s2 HS2).mono ?_
          rintro e w5 ⟨rfl, p5⟩
          obtain ⟨z0, z1, z2, z3⟩ := HCC.out w5 p5.low
          have HP5 := Lib.hid p5
          clear p5 x0 x1 x2 x3
          go_wp2_with fail
          go_roundw
          case rel => exact ⟨p, q + 1, s2, by omega, by omega, rfl, by go_num, by go_num, by go_num, HW2, HP5⟩
          case measure => simp [intOf]; omega
    · by_cases hql : q < l1
      · have hqe : ((q : Int) == (l1 : Int)) = false := by simpa using (show (q : Int) ≠ (l1 : Int) by omega)
        have hkl : q < us.length := by rw [HN1.out]; omega
        obtain ⟨ad, hA, had, hcc⟩ := R1.out.at_ hkl
        subst hA
        obtain ⟨x0, x1, x2, x3⟩ := hcc wr hP.out.low
        have hxb := (M1.out us[q] (List.getElem_mem hkl)).2.1
        have HCC := Lib.hid hcc
        clear hcc
        generalize us[q] = x at *
        obtain ⟨s2, hs2⟩ : ∃ s2, wrapT (s + x.n) = s2 := ⟨_, rfl⟩
        have HS2 := Lib.hid hs2
        have HW2 : Hid (-9223372036854775808 ≤ s2 ∧ s2 ≤ 9223372036854775807) := Lib.hid (by rw [← hs2]; exact wrapT_in _)
        have hw : IntKind.i64.wrap (s + x.n) = s2 := by rw [← hs2]; unfold wrapT wrap64; rw [IntKind.wrap_i64]
        clear hs2
        go_wp2_with fail
        refine (hP.out.sum x.n s2 HS2).mono ?_
        rintro e w5 ⟨rfl, p5⟩
        obtain ⟨z0, z1, z2, z3⟩ := HCC.out w5 p5.low
        have HP5 := Lib.hid p5
        clear p5 x0 x1 x2 x3
        go_wp2_with fail
        go_roundw
        case rel => exact ⟨p, q + 1, s2, by omega, by omega, rfl, by go_num, by go_num, by go_num, HW2, HP5⟩
        case measure => simp [intOf]; omega
      · obtain rfl : p = l0 := by omega
        obtain rfl : q = l1 := by omega
        have hsv := hs.out
        go_wp2_with fail
        refine (hP.out.count' ⟨#[115, 117, 109]⟩ s true (by decide) (by rw [place_sum]; rfl) (many_count _ _)).mono ?_
        rintro e w5 ⟨rfl, h5⟩
        have HP5 := Lib.hid h5
        clear h5
        go_wp2_with fail
        go_loopw [16, 114] (fun f i wr => ∃ (k : Nat) (f0 : Int), k ≤ l3 ∧ f = .int .i64 f0 ∧ i = .int .i64 k ∧ Hid (PB W wr b lM7 lM7 [s, f0])) (fun _ i _ => l3 - (intOf i).toNat)
        case atStart => exact ⟨0, 0, Nat.zero_le _, rfl, rfl, HP5⟩
        case round =>
          obtain ⟨k, f0, hk, rfl, rfl, hP2⟩ := hrel
          have hl3 := HL3.out
          by_cases hlt : k < l3
          · have hkl : k < zs.length := by rw [HN3.out]; exact hlt
            obtain ⟨ad, hA, _, hcc⟩ := R3.out.at_ hkl
            subst hA
            have hx := hcc wr hP2.out.low
            clear hcc
            generalize zs[k] = x at *
            by_cases hf : f0 = 0
            · subst hf
              have hsw := Lib.hid (hP2.out.swap' ⟨#[111, 110, 101]⟩ 0 x [s, x] true (by decide) (by rw [many_swap, if_pos rfl]))
              go_wp2_with fail
              refine hsw.out.mono ?_
              rintro e w6 ⟨rfl, h6⟩
              have HP6 := Lib.hid h6
              clear h6
              go_wp2_with fail
              go_roundw
              case rel => exact ⟨k + 1, x, by omega, rfl, by go_num, HP6⟩
              case measure => simp [intOf]; omega
            · have hf' : (f0 == 0) = false := by simpa using hf
              have hsw := Lib.hid (hP2.out.swap' ⟨#[111, 110, 101]⟩ 0 x [s, f0] false (by decide) (by rw [many_swap, if_neg hf]))
              clear hf
              go_wp2_with fail
              refine hsw.out.mono ?_
              rintro e w6 ⟨rfl, h6⟩
              have HP6 := Lib.hid h6
              clear h6
              go_wp2_with fail
              go_roundw
              case rel => exact ⟨k + 1, f0, by omega, rfl, by go_num, HP6⟩
              case measure => simp [intOf]; omega
          · obtain rfl : k = l3 := by omega
            go_wp2_with fail
            refine (hP2.out.count' ⟨#[111, 110, 101]⟩ f0 true (by decide) (by rw [place_one]; rfl) (many_count1 _ _)).mono ?_
            rintro e w6 ⟨rfl, h6⟩
            have HP6 := Lib.hid h6
            clear h6
            go_wp2_with fail
            go_ret
            exact ⟨rfl, HP6.out.low⟩
end Go.Proofs.YtkkmjoadhjnldaaDoor
