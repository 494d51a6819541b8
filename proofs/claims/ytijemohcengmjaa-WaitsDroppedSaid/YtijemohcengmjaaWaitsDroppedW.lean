/-
  WaitsDropped, of layer 8: the walk.
-/
import Derived.Test.YtijemohcengmjaaWaU
namespace Go.Proofs.Ytijemohcengmjaa
open Go.RowKit
set_option maxRecDepth 100000

set_option maxHeartbeats 8000000 in
theorem waitsdropped_walk (A0 : Option Addr) (l0 c0 : Nat) (zs : List Int) (y : Int) (W : World) (r0 : NR W A0 l0 zs) :
    Calls Try.prog 5 #[.slice A0 l0 c0, .int .i64 y] W fun e w' => e = .returned (.bool true) ∧ Below W.heap.size W w' := by
  have HAW := Lib.hid (awake8_ok W)
  have R0 := Lib.hid r0
  have HN0 := Lib.hid r0.len
  clear r0
  go_enter Try.func5, Try.ntmps5
  go_wp2_with fail
  refine HAW.out.mono ?_
  rintro e w1 ⟨rfl, k1⟩
  clear HAW
  by_cases hbig : 12 < l0
  · have hb : (12 : Int) < (l0 : Int) := by omega
    have HK1 := Lib.hid k1
    clear k1
    go_wp2_with fail
    go_ret
    exact ⟨rfl, HK1.out⟩
  have hl0 : l0 ≤ 12 := by omega
  have hb : ¬ (12 : Int) < (l0 : Int) := by omega
  have HK1 := Lib.hid k1
  have HP1 := Lib.hid (pnew_good 12 (by omega) (by omega) w1)
  clear k1 hbig
  go_wp2_with fail
  refine HP1.out.mono ?_
  rintro e w2 ⟨rfl, p2, k2⟩
  have HS2 : Hid (Solo W (PW w1.heap.size 12 []) noneB w2) := Lib.hid (Solo.make HK1.out p2 (fun k h => by omega) k2)
  have HP2 := Lib.hid (pnew_good 12 (by omega) (by omega) w2)
  clear p2 k2 HP1 HK1
  obtain ⟨b, hbb⟩ : ∃ b, b = w1.heap.size := ⟨_, rfl⟩
  rw [← hbb] at HS2
  rw [← hbb]
  clear hbb
  go_wp2_with fail
  refine HP2.out.mono ?_
  rintro e w3 ⟨rfl, p3, k3⟩
  have HD3 : Hid (Duo W (PW b 12 []) (PW w2.heap.size 12 []) noneB w3) := Lib.hid (HS2.out.duo p3 (fun k h => by omega) k3)
  clear p3 k3 HP2 HS2
  obtain ⟨c, hcc⟩ : ∃ c, c = w2.heap.size := ⟨_, rfl⟩
  rw [← hcc] at HD3
  rw [← hcc]
  clear hcc
  go_wp2_with fail
  go_loopw [33] (fun i wr => ∃ (k : Nat), k ≤ l0 ∧ i = .int .i64 k ∧ Hid (Duo W (PW b 12 (allW 12 (zs.take k))) (PW c 12 (dropW y (allW 12 (zs.take k)))) noneB wr)) (fun i _ => l0 - (intOf i).toNat)
  case atStart => exact ⟨0, Nat.zero_le _, rfl, HD3⟩
  case round =>
    obtain ⟨k, hk, rfl, hD⟩ := hrel
    by_cases hlt : k < l0
    · have hkl : k < zs.length := by rw [HN0.out]; exact hlt
      obtain ⟨ad, rfl, _, hcc⟩ := R0.out.at_ hkl
      have x0 := hcc wr hD.out.low
      have hnx := allW_next 12 zs k hkl
      have hlen : ((allW 12 (zs.take k)).length : Int) < 12 := by
        have := allW_len 12 (zs.take k)
        rw [List.length_take] at this
        omega
      have hdr := putW_dropped (y := y) (x := zs[k]) hlen
      rw [← hnx] at hdr
      have HNX := Lib.hid hnx
      have HDR := Lib.hid hdr
      clear hcc hnx hdr hlen
      generalize zs[k] = z at *
      obtain ⟨l, hl⟩ : ∃ l, l = allW 12 (zs.take k) := ⟨_, rfl⟩
      obtain ⟨l2, hl2⟩ : ∃ l, l = allW 12 (zs.take (k + 1)) := ⟨_, rfl⟩
      rw [← hl] at hD
      rw [← hl, ← hl2] at HNX HDR
      have HL2 := Lib.hid hl2
      clear hl hl2
      have HPL : Hid (Calls Try.prog 9 #[.pointer (some ⟨b, 0, none⟩), .int .i64 z] wr fun e w' => e = .returned (.int .i64 (putW 12 z l).1) ∧ Duo W (PW b 12 l2) (PW c 12 (dropW y l)) noneB w' ∧ ∀ k, noneB k → w'.heap[k]? = wr.heap[k]?) := Lib.hid (by
        rw [HNX.out]
        exact hD.out.left fun S h => pput_ok z h)
      generalize (putW 12 z l).1 = e1 at *
      by_cases hzy : z = y
      · have hq : (z == y) = true := by simpa using hzy
        have hdr := HDR.out
        rw [if_pos hzy] at hdr
        have HDR2 := Lib.hid hdr
        clear hdr HDR hzy
        go_wp2_with fail
        refine HPL.out.mono ?_
        rintro e w5 ⟨rfl, d5, _⟩
        rw [← HDR2.out] at d5
        have HD5 := Lib.hid d5
        clear d5
        go_wp2_with fail
        go_roundw
        case rel => exact ⟨k + 1, by omega, by go_num, by rw [← HL2.out]; exact HD5⟩
        case measure => simp [intOf]; omega
      · have hq : (z == y) = false := by simpa using hzy
        have hdr := HDR.out
        rw [if_neg hzy] at hdr
        have HDR2 := Lib.hid hdr
        clear hdr HDR hzy
        go_wp2_with fail
        refine HPL.out.mono ?_
        rintro e w5 ⟨rfl, d5, _⟩
        have HPR : Hid (Calls Try.prog 9 #[.pointer (some ⟨c, 0, none⟩), .int .i64 z] w5 fun e w' => e = .returned (.int .i64 (putW 12 z (dropW y l)).1) ∧ Duo W (PW b 12 l2) (PW c 12 (dropW y l2)) noneB w' ∧ ∀ k, noneB k → w'.heap[k]? = w5.heap[k]?) := Lib.hid (by
          rw [HDR2.out]
          exact d5.right fun S h => pput_ok z h)
        generalize (putW 12 z (dropW y l)).1 = e2 at *
        clear d5
        go_wp2_with fail
        refine HPR.out.mono ?_
        rintro e w6 ⟨rfl, d6, _⟩
        have HD6 := Lib.hid d6
        clear d6
        go_wp2_with fail
        go_roundw
        case rel => exact ⟨k + 1, by omega, by go_num, by rw [← HL2.out]; exact HD6⟩
        case measure => simp [intOf]; omega
    · obtain rfl : k = l0 := by omega
      have hnd := allW_nodup 12 (zs.take k)
      generalize allW 12 (zs.take k) = l at *
      have hgone := dropW_gone (x := y) hnd
      have HG : Hid (atW y (dropW y l) = -1) := Lib.hid (atW_not hgone)
      obtain ⟨S, T, h1, h2, _⟩ := hD.out.at_
      have HAT := Lib.hid (pat_ok y h1)
      obtain ⟨bo, hbo⟩ : ∃ bo, bo = decide (0 ≤ atW y l) := ⟨_, rfl⟩
      have HBO := Lib.hid hbo
      clear h1 h2 hgone hnd hbo
      obtain ⟨p, hp⟩ : ∃ p, p = atW y l := ⟨_, rfl⟩
      rw [← hp] at HBO HAT
      have HPP := Lib.hid hp
      clear hp
      go_wp2_with fail
      refine HAT.out.mono ?_
      rintro e w4 ⟨rfl, _, k4⟩
      have hd4 := hD.out.next k4
      have HPD : Hid (Calls Try.prog 13 #[.pointer (some ⟨b, 0, none⟩), .int .i64 y] w4 fun e w' => e = .returned (.bool (decide (0 ≤ p))) ∧ Duo W (PW b 12 (dropW y l)) (PW c 12 (dropW y l)) noneB w' ∧ ∀ k, noneB k → w'.heap[k]? = w4.heap[k]?) := Lib.hid (by
        rw [HPP.out]
        exact hd4.left fun S h => pdrop_ok y h)
      clear hd4 k4 HAT hD
      go_wp2_with fail
      refine HPD.out.mono ?_
      rintro e w5 ⟨rfl, d5, _⟩
      obtain ⟨S, T, h1, h2, _⟩ := d5.at_
      have HPA := Lib.hid (pall_ok h1)
      have HD5 := Lib.hid d5
      clear d5 h1 h2 HPD
      go_wp2_with fail
      refine HPA.out.mono ?_
      rintro e w6 ⟨A6, n6, c6, rfl, x6, hn6, k6⟩
      have d6 := HD5.out.next k6
      obtain ⟨S, T, h1, h2, _⟩ := d6.at_
      have HPB := Lib.hid (pall_ok h2)
      have HX6 := Lib.hid x6
      have HD6 := Lib.hid d6
      clear d6 h1 h2 x6 k6 HPA HD5
      go_wp2_with fail
      refine HPB.out.mono ?_
      rintro e w7 ⟨A7, n7, c7, rfl, x7, hn7, k7⟩
      have HX7 := Lib.hid x7
      have HX67 := Lib.hid (HX6.out.next k7)
      have HD7 := Lib.hid (HD6.out.next k7)
      have HSM := Lib.hid (wsame_ok A6 A7 n6 n7 c6 c7 (dropW y l) (dropW y l) w7 HX67.out HX7.out (by omega) (by omega) true (Lib.hid (by simp)))
      clear x7 k7 HPB HD6 HX6
      go_wp2_with fail
      refine HSM.out.mono ?_
      rintro e w8 ⟨rfl, _, k8⟩
      have d8 := HD7.out.next k8
      obtain ⟨S, T, h1, h2, _⟩ := d8.at_
      have hat := pat_ok y h1
      rw [HG.out] at hat
      have HAT := Lib.hid hat
      have HD8 := Lib.hid d8
      clear d8 h1 h2 k8 hat HSM HD7
      go_wp2_with fail
      refine HAT.out.mono ?_
      rintro e w9 ⟨rfl, _, k9⟩
      have HLO := Lib.hid ((HD8.out.next k9).low)
      clear k9
      go_wp2_with fail
      go_ret
      exact ⟨rfl, HLO.out⟩
end Go.Proofs.Ytijemohcengmjaa
