/-
  ConnEnds, of layer 9: the walk.
-/
import Derived.Test.YtnaefikajmgmdaaCoD
import Derived.Test.YtnaefikajmgmdaaCoU
import Derived.Test.YtnaefikajmgmdaaCoQ2
import Derived.Test.YtnaefikajmgmdaaOpenY
namespace Go.Proofs.Ytnaefikajmgmdaa
open Go.RowKit
set_option maxRecDepth 100000

set_option maxHeartbeats 32000000 in
theorem connends_walk (A1 : Option Addr) (l1 c1 : Nat) (ts : List Act3) (A2 : Option Addr) (l2 c2 : Nat) (us : List Act3) (soil : Bool) (W : World) (r1 : AY W A1 l1 ts) (r2 : AY W A2 l2 us) :
    Calls Try.prog 5 #[.slice A1 l1 c1, .slice A2 l2 c2, .bool soil] W fun e w' => e = .returned (.bool true) ∧ Below W.heap.size W w' := by
  have HAW := Lib.hid (awake9_ok W)
  have R1 := Lib.hid r1
  have HN1 := Lib.hid r1.len
  have R2 := Lib.hid r2
  have HN2 := Lib.hid r2.len
  clear r1 r2
  go_enter Try.func5, Try.ntmps5
  go_wp2_with fail
  refine HAW.out.mono ?_
  rintro e w1 ⟨rfl, k1⟩
  have HK1 := Lib.hid k1
  clear HAW k1
  by_cases hbig : 200 < l1
  · have hb : (200 : Int) < (l1 : Int) := by omega
    go_wp2_with fail
    go_ret
    exact ⟨rfl, HK1.out⟩
  have hl1 : l1 ≤ 200 := by omega
  have hb : ¬ (200 : Int) < (l1 : Int) := by omega
  clear hbig
  by_cases hbig : 200 < l2
  · have hb2 : (200 : Int) < (l2 : Int) := by omega
    go_wp2_with fail
    go_ret
    exact ⟨rfl, HK1.out⟩
  have hl2 : l2 ≤ 200 := by omega
  have hb2 : ¬ (200 : Int) < (l2 : Int) := by omega
  clear hbig
  have HP1 := Lib.hid (cnew_ok 1 w1)
  go_wp2_with fail
  refine HP1.out.mono ?_
  rintro e w2 ⟨rfl, p2, k2⟩
  have HS2 : Hid (Solo W (CC w1.heap.size 1 (.idle false 0)) noneB w2) := Lib.hid (Solo.make HK1.out p2 (fun k h => by omega) k2)
  clear p2 k2 HP1 HK1
  obtain ⟨b, hbb⟩ : ∃ b, b = w1.heap.size := ⟨_, rfl⟩
  rw [← hbb] at HS2
  rw [← hbb]
  clear hbb
  go_wp2_with fail
  go_loopw [28] (fun i wr => ∃ (k : Nat) (c : Cn), k ≤ l1 ∧ i = .int .i64 k ∧ Hid (Solo W (CC b 1 c) noneB wr)) (fun i _ => l1 - (intOf i).toNat)
  case atStart => exact ⟨0, .idle false 0, Nat.zero_le _, rfl, HS2⟩
  case round =>
    obtain ⟨k, c, hk, rfl, hD⟩ := hrel
    by_cases hlt : k < l1
    · have hkl : k < ts.length := by rw [HN1.out]; exact hlt
      obtain ⟨ad, rfl, _, hcc⟩ := R1.out.at_ hkl
      obtain ⟨x0, x1, x2⟩ := hcc wr hD.out.low
      clear hcc
      generalize ts[k] = t at *
      obtain ⟨d, x, y⟩ := t
      dsimp only at x0 x1 x2
      have hDX := hD.out.next (kp_new wr (.cells #[.int .i64 d, .int .i64 x, .int .u64 y] 30))
      have hdo := hDX.op (P := Try.prog) (f := 9) fun S h => do_ok ⟨d, x, y⟩ h
      dsimp only at hdo
      have HDO := Lib.hid hdo
      clear hDX hdo hD
      go_wp2_with fail
      refine HDO.out.mono ?_
      rintro e w4 ⟨rfl, d4, _⟩
      have HD4 := Lib.hid d4
      clear d4 HDO
      go_wp2_with fail
      go_roundw
      case rel => exact ⟨k + 1, Cn.doC ⟨d, x, y⟩ c, by omega, by go_num, HD4⟩
      case measure => simp [intOf]; omega
    · obtain rfl : k = l1 := by omega
      clear hlt R1 HN1 HS2
      cases soil with
      | true =>
        have hso := hD.out.op (P := Try.prog) (f := 16) fun S h => csoil_ok h
        have hq := @Cn.soil_do c
        generalize c.soilC = c3 at *
        generalize c.soilA = sa at *
        have HSO := Lib.hid hso
        have HQ := Lib.hid hq
        clear hso hq hD
        go_wp2_with fail
        refine HSO.out.mono ?_
        rintro e w4 ⟨rfl, d4, _⟩
        have HD4 := Lib.hid d4
        obtain ⟨S4, p4, _⟩ := d4.at_
        have HST := Lib.hid (cstate_ok p4)
        clear d4 p4 HSO
        go_wp2_with fail
        refine HST.out.mono ?_
        rintro e w5 ⟨rfl, rfl⟩
        clear HST
        obtain ⟨g0, hg0⟩ : ∃ g, g = (c3.s == 4) := ⟨_, rfl⟩
        have HG0 := Lib.hid hg0
        go_wp2_with fail
        rw [← HG0.out]
        clear hg0
        go_loopw [11, 67] (fun gs i wr => ∃ (q : Nat) (g : Bool) (c : Cn), q ≤ l2 ∧ i = .int .i64 q ∧ gs = .bool g ∧ Hid (g = (c.s == 4)) ∧ Hid (sa = true → c.d = true ∧ c.s ≠ 1) ∧ Hid (Solo W (CC b 1 c) noneB wr)) (fun _ i _ => l2 - (intOf i).toNat)
        case atStart => exact ⟨0, g0, c3, Nat.zero_le _, rfl, rfl, HG0, HQ, HD4⟩
        case round =>
          clear HG0 HQ HD4
          obtain ⟨q, g, c, hq, rfl, rfl, HG, HI, hD⟩ := hrel
          by_cases hlt : q < l2
          · have hkl : q < us.length := by rw [HN2.out]; exact hlt
            obtain ⟨ad, rfl, _, hcc⟩ := R2.out.at_ hkl
            obtain ⟨x0, x1, x2⟩ := hcc wr hD.out.low
            clear hcc
            generalize us[q] = t at *
            have hnx : sa = true → (c.doC t).d = true ∧ (c.doC t).s ≠ 1 := fun h => Cn.dirty_do t (HI.out h)
            have hcl : c.s = 4 → (c.doC t).s = 4 := Cn.closed_do t
            obtain ⟨d, x, y⟩ := t
            dsimp only at x0 x1 x2 hnx
            have hDX := hD.out.mark (.cells #[.int .i64 d, .int .i64 x, .int .u64 y] 30)
            have y0 : (wr.alloc (.cells #[.int .i64 d, .int .i64 x, .int .u64 y] 30)).cell? ⟨wr.heap.size, 0, none⟩ = some (.int .i64 d) := by simp
            have hXlt : wr.heap.size < (wr.alloc (.cells #[.int .i64 d, .int .i64 x, .int .u64 y] 30)).heap.size := by simp
            obtain ⟨wx, hwx⟩ : ∃ u, wr.alloc (.cells #[.int .i64 d, .int .i64 x, .int .u64 y] 30) = u := ⟨_, rfl⟩
            have y1 : (wr.alloc (.cells #[.int .i64 d, .int .i64 x, .int .u64 y] 30)).cell? ⟨wr.heap.size, 1, none⟩ = some (.int .i64 x) := by simp
            have y2 : (wr.alloc (.cells #[.int .i64 d, .int .i64 x, .int .u64 y] 30)).cell? ⟨wr.heap.size, 2, none⟩ = some (.int .u64 y) := by simp
            rw [hwx] at hDX y0 y1 y2 hXlt
            have hdo := hDX.op (P := Try.prog) (f := 9) fun S h => do_ok ⟨d, x, y⟩ h
            obtain ⟨vi, ve, vn, hv⟩ : ∃ i e n, c.doA ⟨d, x, y⟩ = ⟨i, e, n⟩ := ⟨_, _, _, rfl⟩
            obtain ⟨c4, hc4⟩ : ∃ z, c.doC ⟨d, x, y⟩ = z := ⟨_, rfl⟩
            rw [hv, hc4] at hdo
            try rw [hv] at hnx
            rw [hc4] at hnx hcl
            dsimp only [toldV] at hdo hnx
            have HDO := Lib.hid hdo
            have HWX := Lib.hid hwx
            have HNX := Lib.hid hnx
            have HCL := Lib.hid hcl
            have HY := Lib.hid (And.intro y0 (And.intro y1 (And.intro y2 hXlt)))
            clear hDX hdo hv hc4 hwx hD hnx hcl y0 y1 y2 hXlt
            go_wp2_with fail
            rw [HWX.out]
            obtain ⟨y0, y1, y2, _⟩ := HY.out
            go_wp2_with fail
            refine HDO.out.mono ?_
            rintro e w5 ⟨rfl, d5, k5⟩
            have u0 := (World.cell?_of_block (a := ⟨wr.heap.size, 0, none⟩) (k5 _ (.inl rfl))).trans HY.out.1
            have hX5 : wr.heap.size < w5.heap.size := d5.nlt _ (.inl rfl)
            have kz := kp_new w5 (.cells #[.bool vi, .int .i64 ve, .int .u64 vn] 33)
            have d6 := (d5.less (N' := noneB) fun _ h => h.elim).next kz
            have m0 := (World.cell?_of_block (a := ⟨wr.heap.size, 0, none⟩) (kz.block _ hX5)).trans u0
            have n1 : (w5.alloc (.cells #[.bool vi, .int .i64 ve, .int .u64 vn] 33)).cell? ⟨w5.heap.size, 1, none⟩ = some (.int .i64 ve) := by simp
            have HD6 := Lib.hid d6
            obtain ⟨S6, p6, _⟩ := d6.at_
            have hst := cstate_ok p6
            obtain ⟨s4, hs4⟩ : ∃ z, z = c4.s := ⟨_, rfl⟩
            rw [← hs4] at hst
            have HS4 := Lib.hid hs4
            have HST := Lib.hid hst
            clear d5 k5 hX5 kz d6 p6 hst hs4 HY y0 y1 y2 HDO HWX x0 x1 x2
            cases g with
            | true =>
              have e4 : s4 = 4 := by rw [HS4.out]; exact HCL.out (by simpa using HG.out.symm)
              have e5 : (s4 == 4) = true := by simpa using e4
              have e6 : (s4 != 4) = false := by simpa using e4
              have e7 : (s4 == 1) = false := by simp; omega
              clear e4
              cases sa with
              | true =>
                have e1 : (s4 == 1) = false := by rw [HS4.out]; simpa using (HNX.out rfl).2
                go_wp2_with fail
                refine HST.out.mono ?_
                rintro e w7 ⟨rfl, rfl⟩
                go_wp2_with fail
                refine HST.out.mono ?_
                rintro e w7 ⟨rfl, rfl⟩
                go_wp2_with fail
                refine HST.out.mono ?_
                rintro e w7 ⟨rfl, rfl⟩
                go_wp2_with fail
                go_roundw
                case rel => exact ⟨q + 1, true, c4, by omega, by go_num, rfl, Lib.hid (by rw [← HS4.out, e5]), Lib.hid HNX.out, HD6⟩
                case measure => simp [intOf]; omega
              | false =>
                go_wp2_with fail
                refine HST.out.mono ?_
                rintro e w7 ⟨rfl, rfl⟩
                go_wp2_with fail
                refine HST.out.mono ?_
                rintro e w7 ⟨rfl, rfl⟩
                go_wp2_with fail
                go_roundw
                case rel => exact ⟨q + 1, true, c4, by omega, by go_num, rfl, Lib.hid (by rw [← HS4.out, e5]), Lib.hid HNX.out, HD6⟩
                case measure => simp [intOf]; omega
            | false =>
              cases sa with
              | true =>
                have e1 : (s4 == 1) = false := by rw [HS4.out]; simpa using (HNX.out rfl).2
                go_wp2_with fail
                refine HST.out.mono ?_
                rintro e w7 ⟨rfl, rfl⟩
                go_wp2_with fail
                refine HST.out.mono ?_
                rintro e w7 ⟨rfl, rfl⟩
                go_wp2_with fail
                go_roundw
                case rel => exact ⟨q + 1, s4 == 4, c4, by omega, by go_num, rfl, Lib.hid (by rw [HS4.out]), Lib.hid HNX.out, HD6⟩
                case measure => simp [intOf]; omega
              | false =>
                go_wp2_with fail
                refine HST.out.mono ?_
                rintro e w7 ⟨rfl, rfl⟩
                go_wp2_with fail
                go_roundw
                case rel => exact ⟨q + 1, s4 == 4, c4, by omega, by go_num, rfl, Lib.hid (by rw [HS4.out]), Lib.hid HNX.out, HD6⟩
                case measure => simp [intOf]; omega
          · obtain rfl : q = l2 := by omega
            go_wp2_with fail
            go_ret
            exact ⟨rfl, hD.out.low⟩
      | false =>
        have hso := hD.out.op (P := Try.prog) (f := 17) fun S h => cdrain_ok h
        obtain ⟨S3, p3, _⟩ := hD.out.at_
        obtain ⟨_, _, _, _, hok⟩ := CC.at_ p3
        have hq := Cn.drain_do hok
        generalize c.drainC = c3 at *
        have HSO := Lib.hid hso
        clear hso hD p3 hok
        go_wp2_with fail
        refine HSO.out.mono ?_
        rintro e w4 ⟨rfl, d4, _⟩
        have HD4 := Lib.hid d4
        obtain ⟨S4, p4, _⟩ := d4.at_
        have hst := cstate_ok p4
        have hfl := cflight_ok p4
        have HP4 := Lib.hid p4
        clear d4 p4 HSO
        rcases hq with ⟨hs, hf⟩ | ⟨hs, hf⟩
        · rw [hs] at hst
          have hf1 : (c3.f == 0) = false := by simpa using hf
          have hf2 : (c3.f != 0) = true := by simpa using hf
          have HQ : Hid (c3.s = 3 ∨ c3.s = 4) := Lib.hid (.inl hs)
          have HG0 : Hid (false = (c3.s == 4)) := Lib.hid (by rw [hs]; rfl)
          generalize c3.f = f3 at *
          have HST := Lib.hid hst
          have HFL := Lib.hid hfl
          clear hst hfl hs hf
          go_wp2_with fail
          refine HST.out.mono ?_
          rintro e w5 ⟨rfl, rfl⟩
          go_wp2_with fail
          refine HST.out.mono ?_
          rintro e w5 ⟨rfl, rfl⟩
          go_wp2_with fail
          refine HFL.out.mono ?_
          rintro e w5 ⟨rfl, rfl⟩
          go_wp2_with fail
          refine HST.out.mono ?_
          rintro e w5 ⟨rfl, rfl⟩
          go_wp2_with fail
          clear HST HFL HP4 hf1 hf2
          go_loopw [11, 67] (fun gs i wr => ∃ (q : Nat) (g : Bool) (c : Cn), q ≤ l2 ∧ i = .int .i64 q ∧ gs = .bool g ∧ Hid (g = (c.s == 4)) ∧ Hid (c.s = 3 ∨ c.s = 4) ∧ Hid (Solo W (CC b 1 c) noneB wr)) (fun _ i _ => l2 - (intOf i).toNat)
          case atStart => exact ⟨0, false, c3, Nat.zero_le _, rfl, rfl, HG0, HQ, HD4⟩
          case round =>
            clear HG0 HQ HD4
            obtain ⟨q, g, c, hq, rfl, rfl, HG, HI, hD⟩ := hrel
            by_cases hlt : q < l2
            · have hkl : q < us.length := by rw [HN2.out]; exact hlt
              obtain ⟨ad, rfl, _, hcc⟩ := R2.out.at_ hkl
              obtain ⟨x0, x1, x2⟩ := hcc wr hD.out.low
              clear hcc
              generalize us[q] = t at *
              have hnx : ((c.doC t).s = 3 ∨ (c.doC t).s = 4) ∧ (t.d = 1 → (c.doA t).e ≠ 0) := Cn.ends_do t HI.out
              have hcl : c.s = 4 → (c.doC t).s = 4 := Cn.closed_do t
              obtain ⟨d, x, y⟩ := t
              dsimp only at x0 x1 x2 hnx
              have hDX := hD.out.mark (.cells #[.int .i64 d, .int .i64 x, .int .u64 y] 30)
              have y0 : (wr.alloc (.cells #[.int .i64 d, .int .i64 x, .int .u64 y] 30)).cell? ⟨wr.heap.size, 0, none⟩ = some (.int .i64 d) := by simp
              have hXlt : wr.heap.size < (wr.alloc (.cells #[.int .i64 d, .int .i64 x, .int .u64 y] 30)).heap.size := by simp
              obtain ⟨wx, hwx⟩ : ∃ u, wr.alloc (.cells #[.int .i64 d, .int .i64 x, .int .u64 y] 30) = u := ⟨_, rfl⟩
              have y1 : (wr.alloc (.cells #[.int .i64 d, .int .i64 x, .int .u64 y] 30)).cell? ⟨wr.heap.size, 1, none⟩ = some (.int .i64 x) := by simp
              have y2 : (wr.alloc (.cells #[.int .i64 d, .int .i64 x, .int .u64 y] 30)).cell? ⟨wr.heap.size, 2, none⟩ = some (.int .u64 y) := by simp
              rw [hwx] at hDX y0 y1 y2 hXlt
              have hdo := hDX.op (P := Try.prog) (f := 9) fun S h => do_ok ⟨d, x, y⟩ h
              obtain ⟨vi, ve, vn, hv⟩ : ∃ i e n, c.doA ⟨d, x, y⟩ = ⟨i, e, n⟩ := ⟨_, _, _, rfl⟩
              obtain ⟨c4, hc4⟩ : ∃ z, c.doC ⟨d, x, y⟩ = z := ⟨_, rfl⟩
              rw [hv, hc4] at hdo
              try rw [hv] at hnx
              rw [hc4] at hnx hcl
              dsimp only [toldV] at hdo hnx
              have HDO := Lib.hid hdo
              have HWX := Lib.hid hwx
              have HNX := Lib.hid hnx
              have HCL := Lib.hid hcl
              have HY := Lib.hid (And.intro y0 (And.intro y1 (And.intro y2 hXlt)))
              clear hDX hdo hv hc4 hwx hD hnx hcl y0 y1 y2 hXlt
              go_wp2_with fail
              rw [HWX.out]
              obtain ⟨y0, y1, y2, _⟩ := HY.out
              go_wp2_with fail
              refine HDO.out.mono ?_
              rintro e w5 ⟨rfl, d5, k5⟩
              have u0 := (World.cell?_of_block (a := ⟨wr.heap.size, 0, none⟩) (k5 _ (.inl rfl))).trans HY.out.1
              have hX5 : wr.heap.size < w5.heap.size := d5.nlt _ (.inl rfl)
              have kz := kp_new w5 (.cells #[.bool vi, .int .i64 ve, .int .u64 vn] 33)
              have d6 := (d5.less (N' := noneB) fun _ h => h.elim).next kz
              have m0 := (World.cell?_of_block (a := ⟨wr.heap.size, 0, none⟩) (kz.block _ hX5)).trans u0
              have n1 : (w5.alloc (.cells #[.bool vi, .int .i64 ve, .int .u64 vn] 33)).cell? ⟨w5.heap.size, 1, none⟩ = some (.int .i64 ve) := by simp
              have HD6 := Lib.hid d6
              obtain ⟨S6, p6, _⟩ := d6.at_
              have hst := cstate_ok p6
              obtain ⟨s4, hs4⟩ : ∃ z, z = c4.s := ⟨_, rfl⟩
              rw [← hs4] at hst
              have HS4 := Lib.hid hs4
              have HST := Lib.hid hst
              clear d5 k5 hX5 kz d6 p6 hst hs4 HY y0 y1 y2 HDO HWX x0 x1 x2
              cases g with
              | true =>
                have e4 : s4 = 4 := by rw [HS4.out]; exact HCL.out (by simpa using HG.out.symm)
                have e5 : (s4 == 4) = true := by simpa using e4
                have e6 : (s4 != 4) = false := by simpa using e4
                have e7 : (s4 == 1) = false := by simp; omega
                clear e4
                by_cases hd1 : d = 1
                · have e1 : (d == 1) = true := by simpa using hd1
                  have e2 : (ve == 0) = false := by simpa using HNX.out.2 hd1
                  clear hd1
                  go_wp2_with fail
                  refine HST.out.mono ?_
                  rintro e w7 ⟨rfl, rfl⟩
                  go_wp2_with fail
                  refine HST.out.mono ?_
                  rintro e w7 ⟨rfl, rfl⟩
                  go_wp2_with fail
                  go_roundw
                  case rel => exact ⟨q + 1, true, c4, by omega, by go_num, rfl, Lib.hid (by rw [← HS4.out, e5]), Lib.hid HNX.out.1, HD6⟩
                  case measure => simp [intOf]; omega
                · have e1 : (d == 1) = false := by simpa using hd1
                  clear hd1
                  go_wp2_with fail
                  refine HST.out.mono ?_
                  rintro e w7 ⟨rfl, rfl⟩
                  go_wp2_with fail
                  refine HST.out.mono ?_
                  rintro e w7 ⟨rfl, rfl⟩
                  go_wp2_with fail
                  go_roundw
                  case rel => exact ⟨q + 1, true, c4, by omega, by go_num, rfl, Lib.hid (by rw [← HS4.out, e5]), Lib.hid HNX.out.1, HD6⟩
                  case measure => simp [intOf]; omega
              | false =>
                by_cases hd1 : d = 1
                · have e1 : (d == 1) = true := by simpa using hd1
                  have e2 : (ve == 0) = false := by simpa using HNX.out.2 hd1
                  clear hd1
                  go_wp2_with fail
                  refine HST.out.mono ?_
                  rintro e w7 ⟨rfl, rfl⟩
                  go_wp2_with fail
                  go_roundw
                  case rel => exact ⟨q + 1, s4 == 4, c4, by omega, by go_num, rfl, Lib.hid (by rw [HS4.out]), Lib.hid HNX.out.1, HD6⟩
                  case measure => simp [intOf]; omega
                · have e1 : (d == 1) = false := by simpa using hd1
                  clear hd1
                  go_wp2_with fail
                  refine HST.out.mono ?_
                  rintro e w7 ⟨rfl, rfl⟩
                  go_wp2_with fail
                  go_roundw
                  case rel => exact ⟨q + 1, s4 == 4, c4, by omega, by go_num, rfl, Lib.hid (by rw [HS4.out]), Lib.hid HNX.out.1, HD6⟩
                  case measure => simp [intOf]; omega
            · obtain rfl : q = l2 := by omega
              go_wp2_with fail
              go_ret
              exact ⟨rfl, hD.out.low⟩
        · rw [hs] at hst
          have hf1 : (c3.f == 0) = true := by simpa using hf
          have hf2 : (c3.f != 0) = false := by simpa using hf
          have HQ : Hid (c3.s = 3 ∨ c3.s = 4) := Lib.hid (.inr hs)
          have HG0 : Hid (true = (c3.s == 4)) := Lib.hid (by rw [hs]; rfl)
          generalize c3.f = f3 at *
          have HST := Lib.hid hst
          have HFL := Lib.hid hfl
          clear hst hfl hs hf
          go_wp2_with fail
          refine HST.out.mono ?_
          rintro e w5 ⟨rfl, rfl⟩
          go_wp2_with fail
          refine HST.out.mono ?_
          rintro e w5 ⟨rfl, rfl⟩
          go_wp2_with fail
          refine HST.out.mono ?_
          rintro e w5 ⟨rfl, rfl⟩
          go_wp2_with fail
          refine HFL.out.mono ?_
          rintro e w5 ⟨rfl, rfl⟩
          go_wp2_with fail
          refine HST.out.mono ?_
          rintro e w5 ⟨rfl, rfl⟩
          go_wp2_with fail
          clear HST HFL HP4 hf1 hf2
          go_loopw [11, 67] (fun gs i wr => ∃ (q : Nat) (g : Bool) (c : Cn), q ≤ l2 ∧ i = .int .i64 q ∧ gs = .bool g ∧ Hid (g = (c.s == 4)) ∧ Hid (c.s = 3 ∨ c.s = 4) ∧ Hid (Solo W (CC b 1 c) noneB wr)) (fun _ i _ => l2 - (intOf i).toNat)
          case atStart => exact ⟨0, true, c3, Nat.zero_le _, rfl, rfl, HG0, HQ, HD4⟩
          case round =>
            clear HG0 HQ HD4
            obtain ⟨q, g, c, hq, rfl, rfl, HG, HI, hD⟩ := hrel
            by_cases hlt : q < l2
            · have hkl : q < us.length := by rw [HN2.out]; exact hlt
              obtain ⟨ad, rfl, _, hcc⟩ := R2.out.at_ hkl
              obtain ⟨x0, x1, x2⟩ := hcc wr hD.out.low
              clear hcc
              generalize us[q] = t at *
              have hnx : ((c.doC t).s = 3 ∨ (c.doC t).s = 4) ∧ (t.d = 1 → (c.doA t).e ≠ 0) := Cn.ends_do t HI.out
              have hcl : c.s = 4 → (c.doC t).s = 4 := Cn.closed_do t
              obtain ⟨d, x, y⟩ := t
              dsimp only at x0 x1 x2 hnx
              have hDX := hD.out.mark (.cells #[.int .i64 d, .int .i64 x, .int .u64 y] 30)
              have y0 : (wr.alloc (.cells #[.int .i64 d, .int .i64 x, .int .u64 y] 30)).cell? ⟨wr.heap.size, 0, none⟩ = some (.int .i64 d) := by simp
              have hXlt : wr.heap.size < (wr.alloc (.cells #[.int .i64 d, .int .i64 x, .int .u64 y] 30)).heap.size := by simp
              obtain ⟨wx, hwx⟩ : ∃ u, wr.alloc (.cells #[.int .i64 d, .int .i64 x, .int .u64 y] 30) = u := ⟨_, rfl⟩
              have y1 : (wr.alloc (.cells #[.int .i64 d, .int .i64 x, .int .u64 y] 30)).cell? ⟨wr.heap.size, 1, none⟩ = some (.int .i64 x) := by simp
              have y2 : (wr.alloc (.cells #[.int .i64 d, .int .i64 x, .int .u64 y] 30)).cell? ⟨wr.heap.size, 2, none⟩ = some (.int .u64 y) := by simp
              rw [hwx] at hDX y0 y1 y2 hXlt
              have hdo := hDX.op (P := Try.prog) (f := 9) fun S h => do_ok ⟨d, x, y⟩ h
              obtain ⟨vi, ve, vn, hv⟩ : ∃ i e n, c.doA ⟨d, x, y⟩ = ⟨i, e, n⟩ := ⟨_, _, _, rfl⟩
              obtain ⟨c4, hc4⟩ : ∃ z, c.doC ⟨d, x, y⟩ = z := ⟨_, rfl⟩
              rw [hv, hc4] at hdo
              try rw [hv] at hnx
              rw [hc4] at hnx hcl
              dsimp only [toldV] at hdo hnx
              have HDO := Lib.hid hdo
              have HWX := Lib.hid hwx
              have HNX := Lib.hid hnx
              have HCL := Lib.hid hcl
              have HY := Lib.hid (And.intro y0 (And.intro y1 (And.intro y2 hXlt)))
              clear hDX hdo hv hc4 hwx hD hnx hcl y0 y1 y2 hXlt
              go_wp2_with fail
              rw [HWX.out]
              obtain ⟨y0, y1, y2, _⟩ := HY.out
              go_wp2_with fail
              refine HDO.out.mono ?_
              rintro e w5 ⟨rfl, d5, k5⟩
              have u0 := (World.cell?_of_block (a := ⟨wr.heap.size, 0, none⟩) (k5 _ (.inl rfl))).trans HY.out.1
              have hX5 : wr.heap.size < w5.heap.size := d5.nlt _ (.inl rfl)
              have kz := kp_new w5 (.cells #[.bool vi, .int .i64 ve, .int .u64 vn] 33)
              have d6 := (d5.less (N' := noneB) fun _ h => h.elim).next kz
              have m0 := (World.cell?_of_block (a := ⟨wr.heap.size, 0, none⟩) (kz.block _ hX5)).trans u0
              have n1 : (w5.alloc (.cells #[.bool vi, .int .i64 ve, .int .u64 vn] 33)).cell? ⟨w5.heap.size, 1, none⟩ = some (.int .i64 ve) := by simp
              have HD6 := Lib.hid d6
              obtain ⟨S6, p6, _⟩ := d6.at_
              have hst := cstate_ok p6
              obtain ⟨s4, hs4⟩ : ∃ z, z = c4.s := ⟨_, rfl⟩
              rw [← hs4] at hst
              have HS4 := Lib.hid hs4
              have HST := Lib.hid hst
              clear d5 k5 hX5 kz d6 p6 hst hs4 HY y0 y1 y2 HDO HWX x0 x1 x2
              cases g with
              | true =>
                have e4 : s4 = 4 := by rw [HS4.out]; exact HCL.out (by simpa using HG.out.symm)
                have e5 : (s4 == 4) = true := by simpa using e4
                have e6 : (s4 != 4) = false := by simpa using e4
                have e7 : (s4 == 1) = false := by simp; omega
                clear e4
                by_cases hd1 : d = 1
                · have e1 : (d == 1) = true := by simpa using hd1
                  have e2 : (ve == 0) = false := by simpa using HNX.out.2 hd1
                  clear hd1
                  go_wp2_with fail
                  refine HST.out.mono ?_
                  rintro e w7 ⟨rfl, rfl⟩
                  go_wp2_with fail
                  refine HST.out.mono ?_
                  rintro e w7 ⟨rfl, rfl⟩
                  go_wp2_with fail
                  go_roundw
                  case rel => exact ⟨q + 1, true, c4, by omega, by go_num, rfl, Lib.hid (by rw [← HS4.out, e5]), Lib.hid HNX.out.1, HD6⟩
                  case measure => simp [intOf]; omega
                · have e1 : (d == 1) = false := by simpa using hd1
                  clear hd1
                  go_wp2_with fail
                  refine HST.out.mono ?_
                  rintro e w7 ⟨rfl, rfl⟩
                  go_wp2_with fail
                  refine HST.out.mono ?_
                  rintro e w7 ⟨rfl, rfl⟩
                  go_wp2_with fail
                  go_roundw
                  case rel => exact ⟨q + 1, true, c4, by omega, by go_num, rfl, Lib.hid (by rw [← HS4.out, e5]), Lib.hid HNX.out.1, HD6⟩
                  case measure => simp [intOf]; omega
              | false =>
                by_cases hd1 : d = 1
                · have e1 : (d == 1) = true := by simpa using hd1
                  have e2 : (ve == 0) = false := by simpa using HNX.out.2 hd1
                  clear hd1
                  go_wp2_with fail
                  refine HST.out.mono ?_
                  rintro e w7 ⟨rfl, rfl⟩
                  go_wp2_with fail
                  go_roundw
                  case rel => exact ⟨q + 1, s4 == 4, c4, by omega, by go_num, rfl, Lib.hid (by rw [HS4.out]), Lib.hid HNX.out.1, HD6⟩
                  case measure => simp [intOf]; omega
                · have e1 : (d == 1) = false := by simpa using hd1
                  clear hd1
                  go_wp2_with fail
                  refine HST.out.mono ?_
                  rintro e w7 ⟨rfl, rfl⟩
                  go_wp2_with fail
                  go_roundw
                  case rel => exact ⟨q + 1, s4 == 4, c4, by omega, by go_num, rfl, Lib.hid (by rw [HS4.out]), Lib.hid HNX.out.1, HD6⟩
                  case measure => simp [intOf]; omega
            · obtain rfl : q = l2 := by omega
              go_wp2_with fail
              go_ret
              exact ⟨rfl, hD.out.low⟩
end Go.Proofs.Ytnaefikajmgmdaa
