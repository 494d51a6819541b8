/-
  ConnOne, of layer 9: the walk.
-/
import Derived.Test.YtnaefikajmgmdaaCoD
import Derived.Test.YtnaefikajmgmdaaCoU
import Derived.Test.YtnaefikajmgmdaaCoQ
import Derived.Test.YtnaefikajmgmdaaOpenY
namespace Go.Proofs.Ytnaefikajmgmdaa
open Go.RowKit
set_option maxRecDepth 100000

set_option maxHeartbeats 32000000 in
theorem connone_walk (A1 : Option Addr) (l1 c1 : Nat) (ts : List Act3) (W : World) (r1 : AY W A1 l1 ts) :
    Calls Try.prog 4 #[.slice A1 l1 c1] W fun e w' => e = .returned (.bool true) ∧ Below W.heap.size W w' := by
  have HAW := Lib.hid (awake9_ok W)
  have R1 := Lib.hid r1
  have HN1 := Lib.hid r1.len
  clear r1
  go_enter Try.func4, Try.ntmps4
  go_wp2_with fail
  refine HAW.out.mono ?_
  rintro e w1 ⟨rfl, k1⟩
  have HK1 := Lib.hid k1
  clear HAW k1
  by_cases hbig : 200 < l1
  · have hb : (200 : Int) < (l1 : Int) := by omega
    go_wp2_with fail
    go_ret
    exact ⟨rfl, HK1.out⟩
  have hl1 : l1 ≤ 200 := by omega
  have hb : ¬ (200 : Int) < (l1 : Int) := by omega
  clear hbig
  have HP1 := Lib.hid (cnew_ok 1 w1)
  go_wp2_with fail
  refine HP1.out.mono ?_
  rintro e w2 ⟨rfl, p2, k2⟩
  have HS2 : Hid (Solo W (CC w1.heap.size 1 (.idle false 0)) noneB w2) := Lib.hid (Solo.make HK1.out p2 (fun k h => by omega) k2)
  clear p2 k2 HP1 HK1
  obtain ⟨b, hbb⟩ : ∃ b, b = w1.heap.size := ⟨_, rfl⟩
  rw [← hbb] at HS2
  rw [← hbb]
  clear hbb
  go_wp2_with fail
  go_loopw [4, 20] (fun s i wr => ∃ (k : Nat) (c : Cn), k ≤ l1 ∧ i = .int .i64 k ∧ s = .int .i64 c.n ∧ Hid (Solo W (CC b 1 c) noneB wr)) (fun _ i _ => l1 - (intOf i).toNat)
  case atStart => exact ⟨0, .idle false 0, Nat.zero_le _, rfl, rfl, HS2⟩
  case round =>
    obtain ⟨k, c, hk, rfl, rfl, hD⟩ := hrel
    by_cases hlt : k < l1
    · have hkl : k < ts.length := by rw [HN1.out]; exact hlt
      obtain ⟨ad, rfl, _, hcc⟩ := R1.out.at_ hkl
      obtain ⟨x0, x1, x2⟩ := hcc wr hD.out.low
      clear hcc
      generalize ts[k] = t at *
      have hDX := hD.out.mark (.cells #[.int .i64 t.d, .int .i64 t.x, .int .u64 t.y] 30)
      have y0 : (wr.alloc (.cells #[.int .i64 t.d, .int .i64 t.x, .int .u64 t.y] 30)).cell? ⟨wr.heap.size, 0, none⟩ = some (.int .i64 t.d) := by simp
      have y1 : (wr.alloc (.cells #[.int .i64 t.d, .int .i64 t.x, .int .u64 t.y] 30)).cell? ⟨wr.heap.size, 1, none⟩ = some (.int .i64 t.x) := by simp
      have y2 : (wr.alloc (.cells #[.int .i64 t.d, .int .i64 t.x, .int .u64 t.y] 30)).cell? ⟨wr.heap.size, 2, none⟩ = some (.int .u64 t.y) := by simp
      have hXlt : wr.heap.size < (wr.alloc (.cells #[.int .i64 t.d, .int .i64 t.x, .int .u64 t.y] 30)).heap.size := by simp
      obtain ⟨wx, hwx⟩ : ∃ u, wr.alloc (.cells #[.int .i64 t.d, .int .i64 t.x, .int .u64 t.y] 30) = u := ⟨_, rfl⟩
      rw [hwx] at hDX y0 y1 y2 hXlt
      obtain ⟨S1, p1, _⟩ := hDX.at_
      obtain ⟨_, _, _, _, hok⟩ := CC.at_ p1
      have hF := Cn.oneF t hok
      have hfree := Cn.ok_free hok
      have hPO := cowner_ok p1
      have hPF := cflight_ok p1
      have hPS := cstate_ok p1
      obtain ⟨vi, ve, vn, hv⟩ : ∃ i e n, c.doA t = ⟨i, e, n⟩ := ⟨_, _, _, rfl⟩
      obtain ⟨c2, hc2⟩ : ∃ z, c.doC t = z := ⟨_, rfl⟩
      have hdo := hDX.op (P := Try.prog) (f := 9) fun S h => do_ok t h
      rw [hv, hc2] at hF hdo
      dsimp only [toldV] at hdo
      clear p1 hok hDX hc2 hv
      obtain ⟨cn, hcn⟩ : ∃ z, c.n = z := ⟨_, rfl⟩
      rw [hcn] at hF
      rw [hcn]
      clear hcn
      generalize c.o = co at *
      generalize c.f = cf at *
      generalize c.s = cs at *
      have HPO := Lib.hid hPO
      have HPF := Lib.hid hPF
      have HPS := Lib.hid hPS
      have HDO := Lib.hid hdo
      have HF := Lib.hid hF
      have HFR := Lib.hid hfree
      have HWX := Lib.hid hwx
      have HY := Lib.hid (And.intro y0 (And.intro y1 (And.intro y2 hXlt)))
      clear hPO hPF hPS hdo hF hfree hwx y0 y1 y2 hXlt hD
      obtain ⟨d, x, y⟩ := t
      dsimp only at x0 x1 x2 HF HDO HY HWX
      go_wp2_with fail
      rw [HWX.out]
      refine HPO.out.mono ?_
      rintro e w4 ⟨rfl, rfl⟩
      go_wp2_with fail
      refine HPF.out.mono ?_
      rintro e w4 ⟨rfl, rfl⟩
      go_wp2_with fail
      refine HPS.out.mono ?_
      rintro e w4 ⟨rfl, rfl⟩
      obtain ⟨y0, y1, y2, _⟩ := HY.out
      go_wp2_with fail
      refine HDO.out.mono ?_
      rintro e w5 ⟨rfl, d5, k5⟩
      have u0 := (World.cell?_of_block (a := ⟨wr.heap.size, 0, none⟩) (k5 _ (.inl rfl))).trans HY.out.1
      have u1 := (World.cell?_of_block (a := ⟨wr.heap.size, 1, none⟩) (k5 _ (.inl rfl))).trans HY.out.2.1
      have u2 := (World.cell?_of_block (a := ⟨wr.heap.size, 2, none⟩) (k5 _ (.inl rfl))).trans HY.out.2.2.1
      have hX5 : wr.heap.size < w5.heap.size := d5.nlt _ (.inl rfl)
      have kz := kp_new w5 (.cells #[.bool vi, .int .i64 ve, .int .u64 vn] 33)
      have d6 := (d5.less (N' := noneB) fun _ h => h.elim).next kz
      have m0 := (World.cell?_of_block (a := ⟨wr.heap.size, 0, none⟩) (kz.block _ hX5)).trans u0
      have m1 := (World.cell?_of_block (a := ⟨wr.heap.size, 1, none⟩) (kz.block _ hX5)).trans u1
      have m2 := (World.cell?_of_block (a := ⟨wr.heap.size, 2, none⟩) (kz.block _ hX5)).trans u2
      have n0 : (w5.alloc (.cells #[.bool vi, .int .i64 ve, .int .u64 vn] 33)).cell? ⟨w5.heap.size, 0, none⟩ = some (.bool vi) := by simp
      have n1 : (w5.alloc (.cells #[.bool vi, .int .i64 ve, .int .u64 vn] 33)).cell? ⟨w5.heap.size, 1, none⟩ = some (.int .i64 ve) := by simp
      obtain ⟨wz, hwz⟩ : ∃ u, w5.alloc (.cells #[.bool vi, .int .i64 ve, .int .u64 vn] 33) = u := ⟨_, rfl⟩
      rw [hwz] at d6 m0 m1 m2 n0 n1
      have HWZ := Lib.hid hwz
      have HD6 := Lib.hid d6
      obtain ⟨S2, p2, _⟩ := d6.at_
      have HP6 : Hid (∀ u, Below wz.heap.size wz u → (CC b 1 c2).p S2 u) := Lib.hid fun u hu => Thing.next p2 hu
      have HPN := Lib.hid (cowner_ok p2)
      have HSE : Hid (∀ u, Below wz.heap.size wz u → Calls Try.prog 14 #[.pointer (some ⟨b, 0, none⟩)] u fun e w' => e = .returned (.int .i64 c2.n) ∧ u = w') := Lib.hid fun u hu => csent_ok (HP6.out u hu)
      have HFL : Hid (∀ u, Below wz.heap.size wz u → Calls Try.prog 13 #[.pointer (some ⟨b, 0, none⟩)] u fun e w' => e = .returned (.int .u64 c2.f) ∧ u = w') := Lib.hid fun u hu => cflight_ok (HP6.out u hu)
      have HCN : Hid (∃ z, z = c2.n) := Lib.hid ⟨_, rfl⟩
      obtain ⟨c2n, hc2n⟩ := HCN.out
      rw [← hc2n] at HF HSE
      have HC2N := Lib.hid hc2n
      generalize c2.o = n2 at *
      generalize c2.f = f2 at *
      clear d5 k5 u0 u1 u2 hX5 kz d6 hwz p2 HY y0 y1 y2 HDO HPO HPF HPS HP6 HWX x0 x1 x2 hc2n HCN
      go_wp2_with fail
      rw [HWZ.out]
      refine HPN.out.mono ?_
      rintro e w6 ⟨rfl, rfl⟩
      obtain ⟨q1, q2, q2v, q3, q3n, q4, q5, q6⟩ := HF.out
      have q8 := HFR.out
      clear HF HFR HPN HWZ
      by_cases hco : co = 0
      · by_cases hn2 : n2 = 0
        · by_cases hd1 : d = 1
          · by_cases hve : ve = 0
            · exact absurd (q3 hd1 hve) (by omega)
            · have hf2 : f2 = 0 := by omega
              have e1 : (co == n2) = true := by simp; omega
              have i1 : (co != n2) = false := by simp; omega
              have e2 : (co == 0) = true := by simp; omega
              have i2 : (co != 0) = false := by simp; omega
              have e3 : (n2 == 0) = true := by simp; omega
              have i3 : (n2 != 0) = false := by simp; omega
              have e4 : (d == 1) = true := by simp; omega
              have i4 : (d != 1) = false := by simp; omega
              have e5 : (d == 2) = false := by simp; omega
              have i5 : (d != 2) = true := by simp; omega
              have e6 : (d == 0) = false := by simp; omega
              have i6 : (d != 0) = true := by simp; omega
              have e7 : (ve == 0) = false := by simp; omega
              have i7 : (ve != 0) = true := by simp; omega
              have e8 : (f2 == 0) = true := by simp; omega
              have i8 : (f2 != 0) = false := by simp; omega
              have hcn2 : c2n = cn := q4 (by omega)
              subst hcn2
              have HSE2 := Lib.hid (HSE.out wz (Below.refl _ _))
              have HFL2 := Lib.hid (HFL.out wz (Below.refl _ _))
              have HD7 := HD6
              clear HSE HFL
              clear q1 q2 q2v q3 q3n q4 q5 q6 q8 hco hn2 hd1 hve hf2
              go_wp2_with fail
              refine HSE2.out.mono ?_
              rintro e w7 ⟨rfl, rfl⟩
              go_wp2_with fail
              refine HFL2.out.mono ?_
              rintro e w7 ⟨rfl, rfl⟩
              go_wp2_with fail
              go_roundw
              case rel => exact ⟨k + 1, c2, by omega, by go_num, by rw [← HC2N.out], HD7⟩
              case measure => simp [intOf]; omega
          · by_cases hd2 : d = 2
            · have hcf : cf = 0 := q8 hco
              have hf2 : f2 = 0 := by omega
              have e9 : (co == n2) = true := by simp; omega
              have i9 : (co != n2) = false := by simp; omega
              have e10 : (co == 0) = true := by simp; omega
              have i10 : (co != 0) = false := by simp; omega
              have e11 : (n2 == 0) = true := by simp; omega
              have i11 : (n2 != 0) = false := by simp; omega
              have e12 : (d == 1) = false := by simp; omega
              have i12 : (d != 1) = true := by simp; omega
              have e13 : (d == 2) = true := by simp; omega
              have i13 : (d != 2) = false := by simp; omega
              have e14 : (d == 0) = false := by simp; omega
              have i14 : (d != 0) = true := by simp; omega
              have e15 : (cf == 0) = true := by simp; omega
              have i15 : (cf != 0) = false := by simp; omega
              have e16 : (f2 == 0) = true := by simp; omega
              have i16 : (f2 != 0) = false := by simp; omega
              obtain rfl : vi = false := by rw [q5 hd2]; exact decide_eq_false (by omega)
              have hcn2 : c2n = cn := q4 (by omega)
              subst hcn2
              have HSE2 := Lib.hid (HSE.out wz (Below.refl _ _))
              have HFL2 := Lib.hid (HFL.out wz (Below.refl _ _))
              have HD7 := HD6
              clear HSE HFL
              clear q1 q2 q2v q3 q3n q4 q5 q6 q8 hco hn2 hd1 hd2 hcf hf2
              go_wp2_with fail
              refine HSE2.out.mono ?_
              rintro e w7 ⟨rfl, rfl⟩
              go_wp2_with fail
              refine HFL2.out.mono ?_
              rintro e w7 ⟨rfl, rfl⟩
              go_wp2_with fail
              go_roundw
              case rel => exact ⟨k + 1, c2, by omega, by go_num, by rw [← HC2N.out], HD7⟩
              case measure => simp [intOf]; omega
            · have hf2 : f2 = 0 := by omega
              have e35 : (co == n2) = true := by simp; omega
              have i35 : (co != n2) = false := by simp; omega
              have e36 : (co == 0) = true := by simp; omega
              have i36 : (co != 0) = false := by simp; omega
              have e37 : (n2 == 0) = true := by simp; omega
              have i37 : (n2 != 0) = false := by simp; omega
              have e38 : (d == 1) = false := by simp; omega
              have i38 : (d != 1) = true := by simp; omega
              have e39 : (d == 2) = false := by simp; omega
              have i39 : (d != 2) = true := by simp; omega
              have e40 : (f2 == 0) = true := by simp; omega
              have i40 : (f2 != 0) = false := by simp; omega
              have hcn2 : c2n = cn := q4 (by omega)
              subst hcn2
              have HSE2 := Lib.hid (HSE.out wz (Below.refl _ _))
              have HFL2 := Lib.hid (HFL.out wz (Below.refl _ _))
              have HD7 := HD6
              clear HSE HFL
              clear q1 q2 q2v q3 q3n q4 q5 q6 q8 hco hn2 hd1 hd2 hf2
              go_wp2_with fail
              refine HSE2.out.mono ?_
              rintro e w7 ⟨rfl, rfl⟩
              go_wp2_with fail
              refine HFL2.out.mono ?_
              rintro e w7 ⟨rfl, rfl⟩
              go_wp2_with fail
              go_roundw
              case rel => exact ⟨k + 1, c2, by omega, by go_num, by rw [← HC2N.out], HD7⟩
              case measure => simp [intOf]; omega
        · obtain ⟨hd, hx, hs, hf⟩ := q2 hco hn2
          obtain rfl : vi = true := q2v hco hn2
          have e81 : (co == n2) = false := by simp; omega
          have i81 : (co != n2) = true := by simp; omega
          have e82 : (co == 0) = true := by simp; omega
          have i82 : (co != 0) = false := by simp; omega
          have e83 : (n2 == 0) = false := by simp; omega
          have i83 : (n2 != 0) = true := by simp; omega
          have e84 : (d == 0) = true := by simp; omega
          have i84 : (d != 0) = false := by simp; omega
          have e85 : (d == 1) = false := by simp; omega
          have i85 : (d != 1) = true := by simp; omega
          have e86 : (d == 2) = false := by simp; omega
          have i86 : (d != 2) = true := by simp; omega
          have e87 : (n2 == x) = true := by simp; omega
          have i87 : (n2 != x) = false := by simp; omega
          have e88 : (cs == 1) = true := by simp; omega
          have i88 : (cs != 1) = false := by simp; omega
          have e89 : (f2 == 0) = true := by simp; omega
          have i89 : (f2 != 0) = false := by simp; omega
          have hcn2 : c2n = cn := q4 (by omega)
          subst hcn2
          have HSE2 := Lib.hid (HSE.out wz (Below.refl _ _))
          have HFL2 := Lib.hid (HFL.out wz (Below.refl _ _))
          have HD7 := HD6
          clear HSE HFL
          clear q1 q2 q2v q3 q3n q4 q5 q6 q8 hco hn2 hd hx hs hf
          go_wp2_with fail
          refine HSE2.out.mono ?_
          rintro e w7 ⟨rfl, rfl⟩
          go_wp2_with fail
          refine HFL2.out.mono ?_
          rintro e w7 ⟨rfl, rfl⟩
          go_wp2_with fail
          go_roundw
          case rel => exact ⟨k + 1, c2, by omega, by go_num, by rw [← HC2N.out], HD7⟩
          case measure => simp [intOf]; omega
      · by_cases hn2 : n2 = 0
        · by_cases hd1 : d = 1
          · by_cases hve : ve = 0
            · exact absurd (q3 hd1 hve) (by omega)
            · have hf2 : f2 = 0 := by omega
              have e41 : (co == n2) = false := by simp; omega
              have i41 : (co != n2) = true := by simp; omega
              have e42 : (co == 0) = false := by simp; omega
              have i42 : (co != 0) = true := by simp; omega
              have e43 : (n2 == 0) = true := by simp; omega
              have i43 : (n2 != 0) = false := by simp; omega
              have e44 : (d == 1) = true := by simp; omega
              have i44 : (d != 1) = false := by simp; omega
              have e45 : (d == 2) = false := by simp; omega
              have i45 : (d != 2) = true := by simp; omega
              have e46 : (d == 0) = false := by simp; omega
              have i46 : (d != 0) = true := by simp; omega
              have e47 : (ve == 0) = false := by simp; omega
              have i47 : (ve != 0) = true := by simp; omega
              have e48 : (f2 == 0) = true := by simp; omega
              have i48 : (f2 != 0) = false := by simp; omega
              have hcn2 : c2n = cn := q4 (by omega)
              subst hcn2
              have HSE2 := Lib.hid (HSE.out wz (Below.refl _ _))
              have HFL2 := Lib.hid (HFL.out wz (Below.refl _ _))
              have HD7 := HD6
              clear HSE HFL
              clear q1 q2 q2v q3 q3n q4 q5 q6 q8 hco hn2 hd1 hve hf2
              go_wp2_with fail
              refine HSE2.out.mono ?_
              rintro e w7 ⟨rfl, rfl⟩
              go_wp2_with fail
              refine HFL2.out.mono ?_
              rintro e w7 ⟨rfl, rfl⟩
              go_wp2_with fail
              go_roundw
              case rel => exact ⟨k + 1, c2, by omega, by go_num, by rw [← HC2N.out], HD7⟩
              case measure => simp [intOf]; omega
          · by_cases hd2 : d = 2
            · by_cases hcf : cf = 0
              · have hf2 : f2 = 0 := by omega
                have e49 : (co == n2) = false := by simp; omega
                have i49 : (co != n2) = true := by simp; omega
                have e50 : (co == 0) = false := by simp; omega
                have i50 : (co != 0) = true := by simp; omega
                have e51 : (n2 == 0) = true := by simp; omega
                have i51 : (n2 != 0) = false := by simp; omega
                have e52 : (d == 1) = false := by simp; omega
                have i52 : (d != 1) = true := by simp; omega
                have e53 : (d == 2) = true := by simp; omega
                have i53 : (d != 2) = false := by simp; omega
                have e54 : (d == 0) = false := by simp; omega
                have i54 : (d != 0) = true := by simp; omega
                have e55 : (cf == 0) = true := by simp; omega
                have i55 : (cf != 0) = false := by simp; omega
                have e56 : (f2 == 0) = true := by simp; omega
                have i56 : (f2 != 0) = false := by simp; omega
                obtain rfl : vi = false := by rw [q5 hd2]; exact decide_eq_false (by omega)
                have hcn2 : c2n = cn := q4 (by omega)
                subst hcn2
                have HSE2 := Lib.hid (HSE.out wz (Below.refl _ _))
                have HFL2 := Lib.hid (HFL.out wz (Below.refl _ _))
                have HD7 := HD6
                clear HSE HFL
                clear q1 q2 q2v q3 q3n q4 q5 q6 q8 hco hn2 hd1 hd2 hcf hf2
                go_wp2_with fail
                refine HSE2.out.mono ?_
                rintro e w7 ⟨rfl, rfl⟩
                go_wp2_with fail
                refine HFL2.out.mono ?_
                rintro e w7 ⟨rfl, rfl⟩
                go_wp2_with fail
                go_roundw
                case rel => exact ⟨k + 1, c2, by omega, by go_num, by rw [← HC2N.out], HD7⟩
                case measure => simp [intOf]; omega
              · by_cases hcy : cf = y
                · have hf2 : f2 = 0 := by omega
                  have e57 : (co == n2) = false := by simp; omega
                  have i57 : (co != n2) = true := by simp; omega
                  have e58 : (co == 0) = false := by simp; omega
                  have i58 : (co != 0) = true := by simp; omega
                  have e59 : (n2 == 0) = true := by simp; omega
                  have i59 : (n2 != 0) = false := by simp; omega
                  have e60 : (d == 1) = false := by simp; omega
                  have i60 : (d != 1) = true := by simp; omega
                  have e61 : (d == 2) = true := by simp; omega
                  have i61 : (d != 2) = false := by simp; omega
                  have e62 : (d == 0) = false := by simp; omega
                  have i62 : (d != 0) = true := by simp; omega
                  have e63 : (cf == 0) = false := by simp; omega
                  have i63 : (cf != 0) = true := by simp; omega
                  have e64 : (cf == y) = true := by simp; omega
                  have i64 : (cf != y) = false := by simp; omega
                  have e65 : (f2 == 0) = true := by simp; omega
                  have i65 : (f2 != 0) = false := by simp; omega
                  obtain rfl : vi = true := by rw [q5 hd2]; exact decide_eq_true (by omega)
                  have hcn2 : c2n = cn := q4 (by omega)
                  subst hcn2
                  have HSE2 := Lib.hid (HSE.out wz (Below.refl _ _))
                  have HFL2 := Lib.hid (HFL.out wz (Below.refl _ _))
                  have HD7 := HD6
                  clear HSE HFL
                  clear q1 q2 q2v q3 q3n q4 q5 q6 q8 hco hn2 hd1 hd2 hcf hcy hf2
                  go_wp2_with fail
                  refine HSE2.out.mono ?_
                  rintro e w7 ⟨rfl, rfl⟩
                  go_wp2_with fail
                  refine HFL2.out.mono ?_
                  rintro e w7 ⟨rfl, rfl⟩
                  go_wp2_with fail
                  go_roundw
                  case rel => exact ⟨k + 1, c2, by omega, by go_num, by rw [← HC2N.out], HD7⟩
                  case measure => simp [intOf]; omega
                · have hf2 : f2 = 0 := by omega
                  have e66 : (co == n2) = false := by simp; omega
                  have i66 : (co != n2) = true := by simp; omega
                  have e67 : (co == 0) = false := by simp; omega
                  have i67 : (co != 0) = true := by simp; omega
                  have e68 : (n2 == 0) = true := by simp; omega
                  have i68 : (n2 != 0) = false := by simp; omega
                  have e69 : (d == 1) = false := by simp; omega
                  have i69 : (d != 1) = true := by simp; omega
                  have e70 : (d == 2) = true := by simp; omega
                  have i70 : (d != 2) = false := by simp; omega
                  have e71 : (d == 0) = false := by simp; omega
                  have i71 : (d != 0) = true := by simp; omega
                  have e72 : (cf == 0) = false := by simp; omega
                  have i72 : (cf != 0) = true := by simp; omega
                  have e73 : (cf == y) = false := by simp; omega
                  have i73 : (cf != y) = true := by simp; omega
                  have e74 : (f2 == 0) = true := by simp; omega
                  have i74 : (f2 != 0) = false := by simp; omega
                  obtain rfl : vi = false := by rw [q5 hd2]; exact decide_eq_false (by omega)
                  have hcn2 : c2n = cn := q4 (by omega)
                  subst hcn2
                  have HSE2 := Lib.hid (HSE.out wz (Below.refl _ _))
                  have HFL2 := Lib.hid (HFL.out wz (Below.refl _ _))
                  have HD7 := HD6
                  clear HSE HFL
                  clear q1 q2 q2v q3 q3n q4 q5 q6 q8 hco hn2 hd1 hd2 hcf hcy hf2
                  go_wp2_with fail
                  refine HSE2.out.mono ?_
                  rintro e w7 ⟨rfl, rfl⟩
                  go_wp2_with fail
                  refine HFL2.out.mono ?_
                  rintro e w7 ⟨rfl, rfl⟩
                  go_wp2_with fail
                  go_roundw
                  case rel => exact ⟨k + 1, c2, by omega, by go_num, by rw [← HC2N.out], HD7⟩
                  case measure => simp [intOf]; omega
            · have hf2 : f2 = 0 := by omega
              have e75 : (co == n2) = false := by simp; omega
              have i75 : (co != n2) = true := by simp; omega
              have e76 : (co == 0) = false := by simp; omega
              have i76 : (co != 0) = true := by simp; omega
              have e77 : (n2 == 0) = true := by simp; omega
              have i77 : (n2 != 0) = false := by simp; omega
              have e78 : (d == 1) = false := by simp; omega
              have i78 : (d != 1) = true := by simp; omega
              have e79 : (d == 2) = false := by simp; omega
              have i79 : (d != 2) = true := by simp; omega
              have e80 : (f2 == 0) = true := by simp; omega
              have i80 : (f2 != 0) = false := by simp; omega
              have hcn2 : c2n = cn := q4 (by omega)
              subst hcn2
              have HSE2 := Lib.hid (HSE.out wz (Below.refl _ _))
              have HFL2 := Lib.hid (HFL.out wz (Below.refl _ _))
              have HD7 := HD6
              clear HSE HFL
              clear q1 q2 q2v q3 q3n q4 q5 q6 q8 hco hn2 hd1 hd2 hf2
              go_wp2_with fail
              refine HSE2.out.mono ?_
              rintro e w7 ⟨rfl, rfl⟩
              go_wp2_with fail
              refine HFL2.out.mono ?_
              rintro e w7 ⟨rfl, rfl⟩
              go_wp2_with fail
              go_roundw
              case rel => exact ⟨k + 1, c2, by omega, by go_num, by rw [← HC2N.out], HD7⟩
              case measure => simp [intOf]; omega
        · have hnc : n2 = co := q1 hco hn2
          subst hnc
          by_cases hd1 : d = 1
          · by_cases hve : ve = 0
            · have hz : cf = 0 := (q3 hd1 hve).2.2.1
              have hok2 : f2 = y ∧ y ≠ 0 := ⟨(q3 hd1 hve).2.2.2.1, (q3 hd1 hve).2.2.2.2⟩
              have e102 : (n2 == 0) = false := by simp; omega
              have i102 : (n2 != 0) = true := by simp; omega
              have e103 : (d == 1) = true := by simp; omega
              have i103 : (d != 1) = false := by simp; omega
              have e104 : (d == 2) = false := by simp; omega
              have i104 : (d != 2) = true := by simp; omega
              have e105 : (d == 0) = false := by simp; omega
              have i105 : (d != 0) = true := by simp; omega
              have e106 : (ve == 0) = true := by simp; omega
              have i106 : (ve != 0) = false := by simp; omega
              have e107 : (cf == 0) = true := by simp; omega
              have i107 : (cf != 0) = false := by simp; omega
              have e108 : (f2 == y) = true := by simp; omega
              have i108 : (f2 != y) = false := by simp; omega
              have e109 : (f2 == 0) = false := by simp; omega
              have i109 : (f2 != 0) = true := by simp; omega
              have hcn2 := q3n (by omega) (by omega)
              have HFQ : Hid (∀ q, Calls Try.prog 13 #[.pointer (some ⟨b, 0, none⟩)] (wz.drewN q) fun e w' => e = .returned (.int .u64 f2) ∧ w' = wz.drewN q) := Lib.hid fun q => (HFL.out _ (kp_drewN _ _)).mono fun _ _ ⟨h1, h2⟩ => ⟨h1, h2.symm⟩
              clear q1 q2 q2v q3 q3n q4 q5 q6 q8 hco hn2 hd1 hve hz hok2
              go_wp2_with fail
              go_quiet (first | (go_at_call 13; exact Calls.quiet_of_same (HFQ.out _)))
              obtain ⟨wq, hwq⟩ : ∃ y, y = wz.drewN nq := ⟨_, rfl⟩
              have kq : Below wz.heap.size wz wq := hwq ▸ kp_drewN wz nq
              rw [← hwq]
              have HSE2 := Lib.hid (HSE.out wq kq)
              have HFL2 := Lib.hid (HFL.out wq kq)
              have HD7 := Lib.hid (HD6.out.next kq)
              have m0q : wq.cell? ⟨wr.heap.size, 0, none⟩ = some (.int .i64 d) := by rw [hwq]; exact m0
              clear hwq kq HSE HFL HFQ HD6 m0 m1 m2 n0 n1
              go_wp2_with fail
              refine HSE2.out.mono ?_
              rintro e w7 ⟨rfl, rfl⟩
              go_wp2_with fail
              refine HFL2.out.mono ?_
              rintro e w7 ⟨rfl, rfl⟩
              go_wp2_with fail
              go_roundw
              case rel => exact ⟨k + 1, c2, by omega, by go_num, by rw [← HC2N.out], HD7⟩
              case measure => simp [intOf]; omega
            · by_cases hf2 : f2 = 0
              · have e90 : (n2 == 0) = false := by simp; omega
                have i90 : (n2 != 0) = true := by simp; omega
                have e91 : (d == 1) = true := by simp; omega
                have i91 : (d != 1) = false := by simp; omega
                have e92 : (d == 2) = false := by simp; omega
                have i92 : (d != 2) = true := by simp; omega
                have e93 : (d == 0) = false := by simp; omega
                have i93 : (d != 0) = true := by simp; omega
                have e94 : (ve == 0) = false := by simp; omega
                have i94 : (ve != 0) = true := by simp; omega
                have e95 : (f2 == 0) = true := by simp; omega
                have i95 : (f2 != 0) = false := by simp; omega
                have hcn2 : c2n = cn := q4 (by omega)
                subst hcn2
                have HSE2 := Lib.hid (HSE.out wz (Below.refl _ _))
                have HFL2 := Lib.hid (HFL.out wz (Below.refl _ _))
                have HD7 := HD6
                clear HSE HFL
                clear q1 q2 q2v q3 q3n q4 q5 q6 q8 hco hn2 hd1 hve hf2
                go_wp2_with fail
                refine HSE2.out.mono ?_
                rintro e w7 ⟨rfl, rfl⟩
                go_wp2_with fail
                refine HFL2.out.mono ?_
                rintro e w7 ⟨rfl, rfl⟩
                go_wp2_with fail
                go_roundw
                case rel => exact ⟨k + 1, c2, by omega, by go_num, by rw [← HC2N.out], HD7⟩
                case measure => simp [intOf]; omega
              · have e96 : (n2 == 0) = false := by simp; omega
                have i96 : (n2 != 0) = true := by simp; omega
                have e97 : (d == 1) = true := by simp; omega
                have i97 : (d != 1) = false := by simp; omega
                have e98 : (d == 2) = false := by simp; omega
                have i98 : (d != 2) = true := by simp; omega
                have e99 : (d == 0) = false := by simp; omega
                have i99 : (d != 0) = true := by simp; omega
                have e100 : (ve == 0) = false := by simp; omega
                have i100 : (ve != 0) = true := by simp; omega
                have e101 : (f2 == 0) = false := by simp; omega
                have i101 : (f2 != 0) = true := by simp; omega
                have hcn2 : c2n = cn := q4 (by omega)
                subst hcn2
                have HSE2 := Lib.hid (HSE.out wz (Below.refl _ _))
                have HFL2 := Lib.hid (HFL.out wz (Below.refl _ _))
                have HD7 := HD6
                clear HSE HFL
                clear q1 q2 q2v q3 q3n q4 q5 q6 q8 hco hn2 hd1 hve hf2
                go_wp2_with fail
                refine HSE2.out.mono ?_
                rintro e w7 ⟨rfl, rfl⟩
                go_wp2_with fail
                refine HFL2.out.mono ?_
                rintro e w7 ⟨rfl, rfl⟩
                go_wp2_with fail
                go_roundw
                case rel => exact ⟨k + 1, c2, by omega, by go_num, by rw [← HC2N.out], HD7⟩
                case measure => simp [intOf]; omega
          · by_cases hd2 : d = 2
            · by_cases hcf : cf = 0
              · by_cases hf2 : f2 = 0
                · have e110 : (n2 == 0) = false := by simp; omega
                  have i110 : (n2 != 0) = true := by simp; omega
                  have e111 : (d == 1) = false := by simp; omega
                  have i111 : (d != 1) = true := by simp; omega
                  have e112 : (d == 2) = true := by simp; omega
                  have i112 : (d != 2) = false := by simp; omega
                  have e113 : (d == 0) = false := by simp; omega
                  have i113 : (d != 0) = true := by simp; omega
                  have e114 : (cf == 0) = true := by simp; omega
                  have i114 : (cf != 0) = false := by simp; omega
                  have e115 : (f2 == 0) = true := by simp; omega
                  have i115 : (f2 != 0) = false := by simp; omega
                  obtain rfl : vi = false := by rw [q5 hd2]; exact decide_eq_false (by omega)
                  have hcn2 : c2n = cn := q4 (by omega)
                  subst hcn2
                  have HSE2 := Lib.hid (HSE.out wz (Below.refl _ _))
                  have HFL2 := Lib.hid (HFL.out wz (Below.refl _ _))
                  have HD7 := HD6
                  clear HSE HFL
                  clear q1 q2 q2v q3 q3n q4 q5 q6 q8 hco hn2 hd1 hd2 hcf hf2
                  go_wp2_with fail
                  refine HSE2.out.mono ?_
                  rintro e w7 ⟨rfl, rfl⟩
                  go_wp2_with fail
                  refine HFL2.out.mono ?_
                  rintro e w7 ⟨rfl, rfl⟩
                  go_wp2_with fail
                  go_roundw
                  case rel => exact ⟨k + 1, c2, by omega, by go_num, by rw [← HC2N.out], HD7⟩
                  case measure => simp [intOf]; omega
                · have e116 : (n2 == 0) = false := by simp; omega
                  have i116 : (n2 != 0) = true := by simp; omega
                  have e117 : (d == 1) = false := by simp; omega
                  have i117 : (d != 1) = true := by simp; omega
                  have e118 : (d == 2) = true := by simp; omega
                  have i118 : (d != 2) = false := by simp; omega
                  have e119 : (d == 0) = false := by simp; omega
                  have i119 : (d != 0) = true := by simp; omega
                  have e120 : (cf == 0) = true := by simp; omega
                  have i120 : (cf != 0) = false := by simp; omega
                  have e121 : (f2 == 0) = false := by simp; omega
                  have i121 : (f2 != 0) = true := by simp; omega
                  obtain rfl : vi = false := by rw [q5 hd2]; exact decide_eq_false (by omega)
                  have hcn2 : c2n = cn := q4 (by omega)
                  subst hcn2
                  have HSE2 := Lib.hid (HSE.out wz (Below.refl _ _))
                  have HFL2 := Lib.hid (HFL.out wz (Below.refl _ _))
                  have HD7 := HD6
                  clear HSE HFL
                  clear q1 q2 q2v q3 q3n q4 q5 q6 q8 hco hn2 hd1 hd2 hcf hf2
                  go_wp2_with fail
                  refine HSE2.out.mono ?_
                  rintro e w7 ⟨rfl, rfl⟩
                  go_wp2_with fail
                  refine HFL2.out.mono ?_
                  rintro e w7 ⟨rfl, rfl⟩
                  go_wp2_with fail
                  go_roundw
                  case rel => exact ⟨k + 1, c2, by omega, by go_num, by rw [← HC2N.out], HD7⟩
                  case measure => simp [intOf]; omega
              · by_cases hcy : cf = y
                · by_cases hf2 : f2 = 0
                  · have e122 : (n2 == 0) = false := by simp; omega
                    have i122 : (n2 != 0) = true := by simp; omega
                    have e123 : (d == 1) = false := by simp; omega
                    have i123 : (d != 1) = true := by simp; omega
                    have e124 : (d == 2) = true := by simp; omega
                    have i124 : (d != 2) = false := by simp; omega
                    have e125 : (d == 0) = false := by simp; omega
                    have i125 : (d != 0) = true := by simp; omega
                    have e126 : (cf == 0) = false := by simp; omega
                    have i126 : (cf != 0) = true := by simp; omega
                    have e127 : (cf == y) = true := by simp; omega
                    have i127 : (cf != y) = false := by simp; omega
                    have e128 : (f2 == 0) = true := by simp; omega
                    have i128 : (f2 != 0) = false := by simp; omega
                    obtain rfl : vi = true := by rw [q5 hd2]; exact decide_eq_true (by omega)
                    have hcn2 : c2n = cn := q4 (by omega)
                    subst hcn2
                    have HSE2 := Lib.hid (HSE.out wz (Below.refl _ _))
                    have HFL2 := Lib.hid (HFL.out wz (Below.refl _ _))
                    have HD7 := HD6
                    clear HSE HFL
                    clear q1 q2 q2v q3 q3n q4 q5 q6 q8 hco hn2 hd1 hd2 hcf hcy hf2
                    go_wp2_with fail
                    refine HSE2.out.mono ?_
                    rintro e w7 ⟨rfl, rfl⟩
                    go_wp2_with fail
                    refine HFL2.out.mono ?_
                    rintro e w7 ⟨rfl, rfl⟩
                    go_wp2_with fail
                    go_roundw
                    case rel => exact ⟨k + 1, c2, by omega, by go_num, by rw [← HC2N.out], HD7⟩
                    case measure => simp [intOf]; omega
                  · have e129 : (n2 == 0) = false := by simp; omega
                    have i129 : (n2 != 0) = true := by simp; omega
                    have e130 : (d == 1) = false := by simp; omega
                    have i130 : (d != 1) = true := by simp; omega
                    have e131 : (d == 2) = true := by simp; omega
                    have i131 : (d != 2) = false := by simp; omega
                    have e132 : (d == 0) = false := by simp; omega
                    have i132 : (d != 0) = true := by simp; omega
                    have e133 : (cf == 0) = false := by simp; omega
                    have i133 : (cf != 0) = true := by simp; omega
                    have e134 : (cf == y) = true := by simp; omega
                    have i134 : (cf != y) = false := by simp; omega
                    have e135 : (f2 == 0) = false := by simp; omega
                    have i135 : (f2 != 0) = true := by simp; omega
                    obtain rfl : vi = true := by rw [q5 hd2]; exact decide_eq_true (by omega)
                    have hcn2 : c2n = cn := q4 (by omega)
                    subst hcn2
                    have HSE2 := Lib.hid (HSE.out wz (Below.refl _ _))
                    have HFL2 := Lib.hid (HFL.out wz (Below.refl _ _))
                    have HD7 := HD6
                    clear HSE HFL
                    clear q1 q2 q2v q3 q3n q4 q5 q6 q8 hco hn2 hd1 hd2 hcf hcy hf2
                    go_wp2_with fail
                    refine HSE2.out.mono ?_
                    rintro e w7 ⟨rfl, rfl⟩
                    go_wp2_with fail
                    refine HFL2.out.mono ?_
                    rintro e w7 ⟨rfl, rfl⟩
                    go_wp2_with fail
                    go_roundw
                    case rel => exact ⟨k + 1, c2, by omega, by go_num, by rw [← HC2N.out], HD7⟩
                    case measure => simp [intOf]; omega
                · by_cases hf2 : f2 = 0
                  · have e136 : (n2 == 0) = false := by simp; omega
                    have i136 : (n2 != 0) = true := by simp; omega
                    have e137 : (d == 1) = false := by simp; omega
                    have i137 : (d != 1) = true := by simp; omega
                    have e138 : (d == 2) = true := by simp; omega
                    have i138 : (d != 2) = false := by simp; omega
                    have e139 : (d == 0) = false := by simp; omega
                    have i139 : (d != 0) = true := by simp; omega
                    have e140 : (cf == 0) = false := by simp; omega
                    have i140 : (cf != 0) = true := by simp; omega
                    have e141 : (cf == y) = false := by simp; omega
                    have i141 : (cf != y) = true := by simp; omega
                    have e142 : (f2 == 0) = true := by simp; omega
                    have i142 : (f2 != 0) = false := by simp; omega
                    obtain rfl : vi = false := by rw [q5 hd2]; exact decide_eq_false (by omega)
                    have hcn2 : c2n = cn := q4 (by omega)
                    subst hcn2
                    have HSE2 := Lib.hid (HSE.out wz (Below.refl _ _))
                    have HFL2 := Lib.hid (HFL.out wz (Below.refl _ _))
                    have HD7 := HD6
                    clear HSE HFL
                    clear q1 q2 q2v q3 q3n q4 q5 q6 q8 hco hn2 hd1 hd2 hcf hcy hf2
                    go_wp2_with fail
                    refine HSE2.out.mono ?_
                    rintro e w7 ⟨rfl, rfl⟩
                    go_wp2_with fail
                    refine HFL2.out.mono ?_
                    rintro e w7 ⟨rfl, rfl⟩
                    go_wp2_with fail
                    go_roundw
                    case rel => exact ⟨k + 1, c2, by omega, by go_num, by rw [← HC2N.out], HD7⟩
                    case measure => simp [intOf]; omega
                  · have e143 : (n2 == 0) = false := by simp; omega
                    have i143 : (n2 != 0) = true := by simp; omega
                    have e144 : (d == 1) = false := by simp; omega
                    have i144 : (d != 1) = true := by simp; omega
                    have e145 : (d == 2) = true := by simp; omega
                    have i145 : (d != 2) = false := by simp; omega
                    have e146 : (d == 0) = false := by simp; omega
                    have i146 : (d != 0) = true := by simp; omega
                    have e147 : (cf == 0) = false := by simp; omega
                    have i147 : (cf != 0) = true := by simp; omega
                    have e148 : (cf == y) = false := by simp; omega
                    have i148 : (cf != y) = true := by simp; omega
                    have e149 : (f2 == 0) = false := by simp; omega
                    have i149 : (f2 != 0) = true := by simp; omega
                    obtain rfl : vi = false := by rw [q5 hd2]; exact decide_eq_false (by omega)
                    have hcn2 : c2n = cn := q4 (by omega)
                    subst hcn2
                    have HSE2 := Lib.hid (HSE.out wz (Below.refl _ _))
                    have HFL2 := Lib.hid (HFL.out wz (Below.refl _ _))
                    have HD7 := HD6
                    clear HSE HFL
                    clear q1 q2 q2v q3 q3n q4 q5 q6 q8 hco hn2 hd1 hd2 hcf hcy hf2
                    go_wp2_with fail
                    refine HSE2.out.mono ?_
                    rintro e w7 ⟨rfl, rfl⟩
                    go_wp2_with fail
                    refine HFL2.out.mono ?_
                    rintro e w7 ⟨rfl, rfl⟩
                    go_wp2_with fail
                    go_roundw
                    case rel => exact ⟨k + 1, c2, by omega, by go_num, by rw [← HC2N.out], HD7⟩
                    case measure => simp [intOf]; omega
            · by_cases hf2 : f2 = 0
              · have e150 : (n2 == 0) = false := by simp; omega
                have i150 : (n2 != 0) = true := by simp; omega
                have e151 : (d == 1) = false := by simp; omega
                have i151 : (d != 1) = true := by simp; omega
                have e152 : (d == 2) = false := by simp; omega
                have i152 : (d != 2) = true := by simp; omega
                have e153 : (f2 == 0) = true := by simp; omega
                have i153 : (f2 != 0) = false := by simp; omega
                have hcn2 : c2n = cn := q4 (by omega)
                subst hcn2
                have HSE2 := Lib.hid (HSE.out wz (Below.refl _ _))
                have HFL2 := Lib.hid (HFL.out wz (Below.refl _ _))
                have HD7 := HD6
                clear HSE HFL
                clear q1 q2 q2v q3 q3n q4 q5 q6 q8 hco hn2 hd1 hd2 hf2
                go_wp2_with fail
                refine HSE2.out.mono ?_
                rintro e w7 ⟨rfl, rfl⟩
                go_wp2_with fail
                refine HFL2.out.mono ?_
                rintro e w7 ⟨rfl, rfl⟩
                go_wp2_with fail
                go_roundw
                case rel => exact ⟨k + 1, c2, by omega, by go_num, by rw [← HC2N.out], HD7⟩
                case measure => simp [intOf]; omega
              · have e154 : (n2 == 0) = false := by simp; omega
                have i154 : (n2 != 0) = true := by simp; omega
                have e155 : (d == 1) = false := by simp; omega
                have i155 : (d != 1) = true := by simp; omega
                have e156 : (d == 2) = false := by simp; omega
                have i156 : (d != 2) = true := by simp; omega
                have e157 : (f2 == 0) = false := by simp; omega
                have i157 : (f2 != 0) = true := by simp; omega
                have hcn2 : c2n = cn := q4 (by omega)
                subst hcn2
                have HSE2 := Lib.hid (HSE.out wz (Below.refl _ _))
                have HFL2 := Lib.hid (HFL.out wz (Below.refl _ _))
                have HD7 := HD6
                clear HSE HFL
                clear q1 q2 q2v q3 q3n q4 q5 q6 q8 hco hn2 hd1 hd2 hf2
                go_wp2_with fail
                refine HSE2.out.mono ?_
                rintro e w7 ⟨rfl, rfl⟩
                go_wp2_with fail
                refine HFL2.out.mono ?_
                rintro e w7 ⟨rfl, rfl⟩
                go_wp2_with fail
                go_roundw
                case rel => exact ⟨k + 1, c2, by omega, by go_num, by rw [← HC2N.out], HD7⟩
                case measure => simp [intOf]; omega
    · obtain rfl : k = l1 := by omega
      go_wp2_with fail
      go_ret
      exact ⟨rfl, hD.out.low⟩
end Go.Proofs.Ytnaefikajmgmdaa
