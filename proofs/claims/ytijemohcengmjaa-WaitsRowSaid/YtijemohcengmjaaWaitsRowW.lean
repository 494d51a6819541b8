/-
  WaitsRow, of layer 8: the walk.
-/
import Derived.Test.YtijemohcengmjaaWaV
import Derived.Test.YtijemohcengmjaaOpenW
namespace Go.Proofs.Ytijemohcengmjaa
open Go.RowKit
set_option maxRecDepth 100000

set_option maxHeartbeats 16000000 in
theorem waitsrow_walk (m : Int) (A1 : Option Addr) (l1 c1 : Nat) (ts : List Act2) (W : World) (r1 : AW W A1 l1 ts) :
    Calls Try.prog 4 #[.int .i64 m, .slice A1 l1 c1] W fun e w' => e = .returned (.bool true) ∧ Below W.heap.size W w' := by
  have HAW := Lib.hid (awake8_ok W)
  have R1 := Lib.hid r1
  have HN1 := Lib.hid r1.len
  clear r1
  obtain ⟨i0, hi, hz0, hz1, hz2⟩ := info_parts intinfo8
  go_enter Try.func4, Try.ntmps4
  go_wp2_with fail
  refine HAW.out.mono ?_
  rintro e w1 ⟨rfl, k1⟩
  have HK1 := Lib.hid k1
  clear HAW k1
  by_cases hbad : m < 0 ∨ 12 < m
  · have HP1 := Lib.hid (pnew_bad m hbad w1)
    go_wp2_with fail
    refine HP1.out.mono ?_
    rintro e w2 ⟨rfl, rfl⟩
    go_wp2_with fail
    go_ret
    exact ⟨rfl, HK1.out⟩
  have hm0 : 0 ≤ m := by omega
  have hm1 : m ≤ 12 := by omega
  have HP1 := Lib.hid (pnew_good m hm0 hm1 w1)
  clear hbad
  by_cases hbig : 200 < l1
  · have hb : (200 : Int) < (l1 : Int) := by omega
    go_wp2_with fail
    refine HP1.out.mono ?_
    rintro e w2 ⟨rfl, _, k2⟩
    have HK2 := Lib.hid (kp_trans HK1.out k2)
    clear k2
    go_wp2_with fail
    go_ret
    exact ⟨rfl, HK2.out⟩
  have hl1 : l1 ≤ 200 := by omega
  have hb : ¬ (200 : Int) < (l1 : Int) := by omega
  clear hbig
  go_wp2_with fail
  refine HP1.out.mono ?_
  rintro e w2 ⟨rfl, p2, k2⟩
  have HR2 : Hid (RS W w1.heap.size m [] none 0 0 [] w2) := Lib.hid ⟨p2, CO.nil _ _ _, kp_trans HK1.out k2, HK1.out.size⟩
  clear p2 k2 HP1 HK1
  obtain ⟨b, hbb⟩ : ∃ b, b = w1.heap.size := ⟨_, rfl⟩
  rw [← hbb] at HR2
  rw [← hbb]
  clear hbb
  go_wp2_with fail
  go_loopw [7, 33] (fun o i wr => ∃ (k : Nat) (l : List Int) (D : Option Addr) (n e : Nat), k ≤ l1 ∧ i = .int .i64 k ∧ o = .slice D n e ∧ Hid (RS W b m l D n e l wr) ∧ Hid l.Nodup) (fun _ i _ => l1 - (intOf i).toNat)
  case atStart => exact ⟨0, [], none, 0, 0, Nat.zero_le _, rfl, rfl, HR2, Lib.hid List.nodup_nil⟩
  case round =>
    obtain ⟨k, l, D, n, e, hk, rfl, rfl, hR, hND⟩ := hrel
    obtain ⟨wo, hwo⟩ : ∃ x, x = wr := ⟨wr, rfl⟩
    subst hwo
    by_cases hlt : k < l1
    · have hkl : k < ts.length := by rw [HN1.out]; exact hlt
      obtain ⟨ad, rfl, _, hcc⟩ := R1.out.at_ hkl
      obtain ⟨x0, x1⟩ := hcc wo hR.out.low
      clear hcc
      generalize ts[k] = t at *
      obtain ⟨d, x⟩ := t
      dsimp only at x0 x1
      have hRX := hR.out.next (kp_new wo (.cells #[.int .i64 d, .int .i64 x] 32))
      have y1 : (wo.alloc (.cells #[.int .i64 d, .int .i64 x] 32)).cell? ⟨wo.heap.size, 1, none⟩ = some (.int .i64 x) := by simp
      have yX : wo.heap.size < (wo.alloc (.cells #[.int .i64 d, .int .i64 x] 32)).heap.size ∧ wo.heap.size ≠ b := ⟨by simp, by have := hR.out.lt; omega⟩
      obtain ⟨wx, hwx⟩ : ∃ u, wo.alloc (.cells #[.int .i64 d, .int .i64 x] 32) = u := ⟨_, rfl⟩
      rw [hwx] at hRX y1 yX
      have HWX := Lib.hid hwx
      have HY1 := Lib.hid y1
      have HYX := Lib.hid yX
      have HRX := Lib.hid hRX
      clear hRX y1 yX hwx hR
      by_cases hd0 : d = 0
      · subst hd0
        have hpt := pput_ok x HRX.out.pw
        rcases putW_or m x l with ⟨e5, he5, hpw⟩ | hpw
        · rw [hpw] at hpt
          have HPT := Lib.hid hpt
          clear hpt hpw
          go_wp2_with fail
          rw [HWX.out]
          refine HPT.out.mono ?_
          rintro e9 wy ⟨rfl, ht⟩
          have HRY := Lib.hid (HRX.out.call ht)
          have HNDY := hND
          clear ht HPT HRX HY1 HYX HWX hND
          obtain ⟨l2, hl2⟩ : ∃ y, y = l := ⟨_, rfl⟩
          rw [← hl2] at HRY HNDY
          obtain ⟨D2, n2, e2, hD2, hn2, he2⟩ : ∃ (D2 : Option Addr) (n2 e2 : Nat), D2 = D ∧ n2 = n ∧ e2 = e := ⟨_, _, _, rfl, rfl, rfl⟩
          rw [← hD2, ← hn2, ← he2] at HRY
          rw [← hD2, ← hn2, ← he2]
          clear hl2 hD2 hn2 he2
          have HND2 := HNDY
          clear HNDY
          have hln := HRY.out.co.len
          have hrm := HRY.out.room
          have HLN := Lib.hid hln
          have hnm : ¬ m < (n2 : Int) := by omega
          have hn12 : n2 ≤ 12 := by omega
          have HPA := Lib.hid (pall_ok HRY.out.pw)
          clear hln hrm
          go_wp2_with fail
          refine HPA.out.mono ?_
          rintro e9 w8 ⟨A8, n8, c8, rfl, x8, hn8, k8⟩
          have HR8 := Lib.hid (HRY.out.next k8)
          have HSM := Lib.hid (wsame_ok A8 D2 n8 n2 c8 e2 l2 l2 w8 x8 HR8.out.co.nr (by omega) (by omega) true (Lib.hid (by simp)))
          clear x8 k8 HPA HRY hn8
          go_wp2_with fail
          refine HSM.out.mono ?_
          rintro e9 w9 ⟨rfl, _, k9⟩
          have HR9 := Lib.hid (HR8.out.next k9)
          clear k9 HSM HR8
          go_wp2_with fail
          go_loopw [107] (fun i wr => ∃ (q : Nat), q ≤ n2 ∧ i = .int .i64 q ∧ Hid (RS W b m l2 D2 n2 e2 l2 wr)) (fun i _ => n2 - (intOf i).toNat)
          case atStart => exact ⟨0, Nat.zero_le _, rfl, HR9⟩
          case round =>
            obtain ⟨q, hq, rfl, hRq⟩ := hrel
            by_cases hqn : q < n2
            · have hql : q < l2.length := by rw [HLN.out]; exact hqn
              obtain ⟨ad2, rfl, _, hc2⟩ := hRq.out.co.nr.at_ hql
              have z0 := hc2 wr (Below.refl _ _)
              have hat := pat_ok l2[q] hRq.out.pw
              rw [atW_self HND2.out hql] at hat
              have HAT := Lib.hid hat
              have hq0 : (0 : Int) ≤ (q : Int) := by omega
              have hq1 : (q : Int) < (n2 : Int) := by omega
              clear hc2 hat
              generalize l2[q] = y at *
              go_wp2_with fail
              refine HAT.out.mono ?_
              rintro e9 w10 ⟨rfl, _, k10⟩
              have HR10 := Lib.hid (hRq.out.next k10)
              clear k10 HAT
              go_wp2_with fail
              go_roundw
              case rel => exact ⟨q + 1, by omega, by go_num, HR10⟩
              case measure => simp [intOf]; omega
            · obtain rfl : q = n2 := by omega
              go_wp2_with fail
              go_roundw
              case rel => exact ⟨k + 1, l2, D2, q, e2, by omega, by go_num, rfl, hRq, HND2⟩
              case measure => simp [intOf]; omega
        · rw [hpw] at hpt
          have HPT := Lib.hid hpt
          have hnd := putW_nodup (m := m) (x := x) hND.out
          rw [hpw] at hnd
          have HNDY := Lib.hid hnd
          clear hpt hpw hnd hND
          go_wp2_with fail
          rw [HWX.out]
          refine HPT.out.mono ?_
          rintro e9 w5 ⟨rfl, ht⟩
          obtain ⟨_, _, hoff⟩ : Turn (PW b m (l ++ [x])) (fun k => k = b) wx w5 ∧ True ∧ Off (fun k => k = b) wx w5 := ⟨ht, trivial, ht.off⟩
          have z1 := (off_cell hoff HYX.out.1 HYX.out.2 1).trans HY1.out
          have HR5 := Lib.hid (HRX.out.call ht)
          have HR6 : Hid (RS W b m (l ++ [x]) D n e l (w5.alloc (.cells #[.int .i64 x] 3))) := Lib.hid (HR5.out.next (kp_new _ _))
          have hnl := HR6.out.co.len
          have hrm := HR6.out.room
          rw [List.length_append, List.length_singleton] at hrm
          have hn12 : n + 1 ≤ 13 := by omega
          have hnm0 : ¬ m < (n : Int) + 1 := by omega
          have HN12 := Lib.hid hn12
          clear ht hoff HPT HRX HY1 HYX HWX hnl hrm hn12
          go_wp2_with (at_builtin; refine wpList_append_co (b := b) (base := W.heap.size) (zs := l) (y := x) (c1 := 1) (ad := ⟨w5.heap.size, 0, none⟩) rfl _ _ _ rfl 3 i0 _ 8 Try.underlying38 hi hz0 hz1 hz2 rfl rfl HR6.out.co HR6.out.lt HR6.out.low.size rfl (by simp) (by have := HN12.out; omega) (by decide) ?_; intro A7 c7 w7 hco7 hof7; have HR7 := Lib.hid (HR6.out.came hco7 hof7); clear hco7 hof7)
          have HRY := HR7
          clear HR7 HR6 HR5 HN12
          obtain ⟨wy, hwy⟩ : ∃ y, y = w7 := ⟨_, rfl⟩
          rw [← hwy] at HRY
          rw [← hwy]
          clear hwy
          obtain ⟨l2, hl2⟩ : ∃ y, y = l ++ [x] := ⟨_, rfl⟩
          rw [← hl2] at HRY HNDY
          obtain ⟨D2, n2, e2, hD2, hn2, he2⟩ : ∃ (D2 : Option Addr) (n2 e2 : Nat), D2 = A7 ∧ n2 = n + 1 ∧ e2 = c7 := ⟨_, _, _, rfl, rfl, rfl⟩
          rw [← hD2, ← hn2, ← he2] at HRY
          rw [← hD2, ← hn2, ← he2]
          clear hl2 hD2 hn2 he2
          have HND2 := HNDY
          clear HNDY
          have hln := HRY.out.co.len
          have hrm := HRY.out.room
          have HLN := Lib.hid hln
          have hnm : ¬ m < (n2 : Int) := by omega
          have hn12 : n2 ≤ 12 := by omega
          have HPA := Lib.hid (pall_ok HRY.out.pw)
          clear hln hrm
          refine HPA.out.mono ?_
          rintro e9 w8 ⟨A8, n8, c8, rfl, x8, hn8, k8⟩
          have HR8 := Lib.hid (HRY.out.next k8)
          have HSM := Lib.hid (wsame_ok A8 D2 n8 n2 c8 e2 l2 l2 w8 x8 HR8.out.co.nr (by omega) (by omega) true (Lib.hid (by simp)))
          clear x8 k8 HPA HRY hn8
          go_wp2_with fail
          refine HSM.out.mono ?_
          rintro e9 w9 ⟨rfl, _, k9⟩
          have HR9 := Lib.hid (HR8.out.next k9)
          clear k9 HSM HR8
          go_wp2_with fail
          go_loopw [107] (fun i wr => ∃ (q : Nat), q ≤ n2 ∧ i = .int .i64 q ∧ Hid (RS W b m l2 D2 n2 e2 l2 wr)) (fun i _ => n2 - (intOf i).toNat)
          case atStart => exact ⟨0, Nat.zero_le _, rfl, HR9⟩
          case round =>
            obtain ⟨q, hq, rfl, hRq⟩ := hrel
            by_cases hqn : q < n2
            · have hql : q < l2.length := by rw [HLN.out]; exact hqn
              obtain ⟨ad2, rfl, _, hc2⟩ := hRq.out.co.nr.at_ hql
              have z0 := hc2 wr (Below.refl _ _)
              have hat := pat_ok l2[q] hRq.out.pw
              rw [atW_self HND2.out hql] at hat
              have HAT := Lib.hid hat
              have hq0 : (0 : Int) ≤ (q : Int) := by omega
              have hq1 : (q : Int) < (n2 : Int) := by omega
              clear hc2 hat
              generalize l2[q] = y at *
              go_wp2_with fail
              refine HAT.out.mono ?_
              rintro e9 w10 ⟨rfl, _, k10⟩
              have HR10 := Lib.hid (hRq.out.next k10)
              clear k10 HAT
              go_wp2_with fail
              go_roundw
              case rel => exact ⟨q + 1, by omega, by go_num, HR10⟩
              case measure => simp [intOf]; omega
            · obtain rfl : q = n2 := by omega
              go_wp2_with fail
              go_roundw
              case rel => exact ⟨k + 1, l2, D2, q, e2, by omega, by go_num, rfl, hRq, HND2⟩
              case measure => simp [intOf]; omega
      · have hd0' : (d == 0) = false := by simpa using hd0
        by_cases hd1 : d = 1
        · subst hd1
          have htk := ptake_ok HRX.out.pw
          have hnl := HRX.out.co.len
          cases l with
          | nil =>
            have HTK : Hid (Calls Try.prog 11 #[.pointer (some ⟨b, 0, none⟩)] wx fun e w' => e = .returned (.tuple #[.int .i64 0, .bool false]) ∧ Turn (PW b m []) (fun k => k = b) wx w') := Lib.hid htk
            clear htk hnl
            go_wp2_with fail
            rw [HWX.out]
            refine HTK.out.mono ?_
            rintro e9 wy ⟨rfl, ht⟩
            have HRY := Lib.hid (HRX.out.call ht)
            have HNDY := hND
            clear ht HTK HRX HY1 HYX HWX hND
            obtain ⟨l2, hl2⟩ : ∃ y, y = ([] : List Int) := ⟨_, rfl⟩
            rw [← hl2] at HRY HNDY
            obtain ⟨D2, n2, e2, hD2, hn2, he2⟩ : ∃ (D2 : Option Addr) (n2 e2 : Nat), D2 = D ∧ n2 = n ∧ e2 = e := ⟨_, _, _, rfl, rfl, rfl⟩
            rw [← hD2, ← hn2, ← he2] at HRY
            rw [← hD2, ← hn2, ← he2]
            clear hl2 hD2 hn2 he2
            have HND2 := HNDY
            clear HNDY
            have hln := HRY.out.co.len
            have hrm := HRY.out.room
            have HLN := Lib.hid hln
            have hnm : ¬ m < (n2 : Int) := by omega
            have hn12 : n2 ≤ 12 := by omega
            have HPA := Lib.hid (pall_ok HRY.out.pw)
            clear hln hrm
            go_wp2_with fail
            refine HPA.out.mono ?_
            rintro e9 w8 ⟨A8, n8, c8, rfl, x8, hn8, k8⟩
            have HR8 := Lib.hid (HRY.out.next k8)
            have HSM := Lib.hid (wsame_ok A8 D2 n8 n2 c8 e2 l2 l2 w8 x8 HR8.out.co.nr (by omega) (by omega) true (Lib.hid (by simp)))
            clear x8 k8 HPA HRY hn8
            go_wp2_with fail
            refine HSM.out.mono ?_
            rintro e9 w9 ⟨rfl, _, k9⟩
            have HR9 := Lib.hid (HR8.out.next k9)
            clear k9 HSM HR8
            go_wp2_with fail
            go_loopw [107] (fun i wr => ∃ (q : Nat), q ≤ n2 ∧ i = .int .i64 q ∧ Hid (RS W b m l2 D2 n2 e2 l2 wr)) (fun i _ => n2 - (intOf i).toNat)
            case atStart => exact ⟨0, Nat.zero_le _, rfl, HR9⟩
            case round =>
              obtain ⟨q, hq, rfl, hRq⟩ := hrel
              by_cases hqn : q < n2
              · have hql : q < l2.length := by rw [HLN.out]; exact hqn
                obtain ⟨ad2, rfl, _, hc2⟩ := hRq.out.co.nr.at_ hql
                have z0 := hc2 wr (Below.refl _ _)
                have hat := pat_ok l2[q] hRq.out.pw
                rw [atW_self HND2.out hql] at hat
                have HAT := Lib.hid hat
                have hq0 : (0 : Int) ≤ (q : Int) := by omega
                have hq1 : (q : Int) < (n2 : Int) := by omega
                clear hc2 hat
                generalize l2[q] = y at *
                go_wp2_with fail
                refine HAT.out.mono ?_
                rintro e9 w10 ⟨rfl, _, k10⟩
                have HR10 := Lib.hid (hRq.out.next k10)
                clear k10 HAT
                go_wp2_with fail
                go_roundw
                case rel => exact ⟨q + 1, by omega, by go_num, HR10⟩
                case measure => simp [intOf]; omega
              · obtain rfl : q = n2 := by omega
                go_wp2_with fail
                go_roundw
                case rel => exact ⟨k + 1, l2, D2, q, e2, by omega, by go_num, rfl, hRq, HND2⟩
                case measure => simp [intOf]; omega
          | cons x0 t =>
            have HTK : Hid (Calls Try.prog 11 #[.pointer (some ⟨b, 0, none⟩)] wx fun e w' => e = .returned (.tuple #[.int .i64 x0, .bool true]) ∧ Turn (PW b m t) (fun k => k = b) wx w') := Lib.hid (by
              refine htk.mono fun e w' ⟨he, ht⟩ => ⟨?_, ht⟩
              rw [he]
              simp [takeW])
            have HNDY : Hid t.Nodup := Lib.hid (tail_nodup hND.out)
            rw [List.length_cons] at hnl
            have HNL := Lib.hid hnl
            have hn0 : 0 < n := by omega
            have hq0 : ((n : Int) == 0) = false := by simp; omega
            clear htk hnl hND
            go_wp2_with fail
            rw [HWX.out]
            refine HTK.out.mono ?_
            rintro e9 w5 ⟨rfl, ht⟩
            have hR5 := HRX.out.call ht
            obtain ⟨ad5, hD5, _, hc5⟩ := hR5.co.nr.at_ (j := 0) (by simp)
            have z5 : w5.cell? ad5 = some (.int .i64 x0) := by
              have := hc5 w5 (Below.refl _ _)
              rw [show ad5.add 0 = ad5 from by unfold Addr.add; split <;> simp_all] at this
              exact this
            obtain ⟨A6, run6, hco6⟩ := hR5.co.tail Try.prog 38 (by kernel_rfl) (by kernel_rfl)
            have HRY := Lib.hid (hR5.cut hco6)
            have HRY : Hid (RS W b m t A6 (n - 1) (e - 1) t w5) := HRY
            subst hD5
            obtain ⟨n6, hn6⟩ : ∃ n6, n6 = n - 1 := ⟨_, rfl⟩
            obtain ⟨e6, he6⟩ : ∃ e6, e6 = e - 1 := ⟨_, rfl⟩
            rw [← hn6, ← he6] at run6 HRY
            have hnm0 : ¬ m < (n6 : Int) := by
              have h1 := HRY.out.co.len
              have h2 := HRY.out.room
              omega
            clear hn6 he6
            clear ht hR5 hc5 hco6 HTK HRX HY1 HYX HWX
            go_wp2_with fail
            obtain ⟨wy, hwy⟩ : ∃ y, y = w5 := ⟨_, rfl⟩
            rw [← hwy] at HRY
            rw [← hwy]
            clear hwy z5 run6
            obtain ⟨l2, hl2⟩ : ∃ y, y = t := ⟨_, rfl⟩
            rw [← hl2] at HRY HNDY
            obtain ⟨D2, n2, e2, hD2, hn2, he2⟩ : ∃ (D2 : Option Addr) (n2 e2 : Nat), D2 = A6 ∧ n2 = n6 ∧ e2 = e6 := ⟨_, _, _, rfl, rfl, rfl⟩
            rw [← hD2, ← hn2, ← he2] at HRY
            rw [← hD2, ← hn2, ← he2]
            clear hl2 hD2 hn2 he2
            have HND2 := HNDY
            clear HNDY
            have hln := HRY.out.co.len
            have hrm := HRY.out.room
            have HLN := Lib.hid hln
            have hnm : ¬ m < (n2 : Int) := by omega
            have hn12 : n2 ≤ 12 := by omega
            have HPA := Lib.hid (pall_ok HRY.out.pw)
            clear hln hrm
            refine HPA.out.mono ?_
            rintro e9 w8 ⟨A8, n8, c8, rfl, x8, hn8, k8⟩
            have HR8 := Lib.hid (HRY.out.next k8)
            have HSM := Lib.hid (wsame_ok A8 D2 n8 n2 c8 e2 l2 l2 w8 x8 HR8.out.co.nr (by omega) (by omega) true (Lib.hid (by simp)))
            clear x8 k8 HPA HRY hn8
            go_wp2_with fail
            refine HSM.out.mono ?_
            rintro e9 w9 ⟨rfl, _, k9⟩
            have HR9 := Lib.hid (HR8.out.next k9)
            clear k9 HSM HR8
            go_wp2_with fail
            go_loopw [107] (fun i wr => ∃ (q : Nat), q ≤ n2 ∧ i = .int .i64 q ∧ Hid (RS W b m l2 D2 n2 e2 l2 wr)) (fun i _ => n2 - (intOf i).toNat)
            case atStart => exact ⟨0, Nat.zero_le _, rfl, HR9⟩
            case round =>
              obtain ⟨q, hq, rfl, hRq⟩ := hrel
              by_cases hqn : q < n2
              · have hql : q < l2.length := by rw [HLN.out]; exact hqn
                obtain ⟨ad2, rfl, _, hc2⟩ := hRq.out.co.nr.at_ hql
                have z0 := hc2 wr (Below.refl _ _)
                have hat := pat_ok l2[q] hRq.out.pw
                rw [atW_self HND2.out hql] at hat
                have HAT := Lib.hid hat
                have hq0 : (0 : Int) ≤ (q : Int) := by omega
                have hq1 : (q : Int) < (n2 : Int) := by omega
                clear hc2 hat
                generalize l2[q] = y at *
                go_wp2_with fail
                refine HAT.out.mono ?_
                rintro e9 w10 ⟨rfl, _, k10⟩
                have HR10 := Lib.hid (hRq.out.next k10)
                clear k10 HAT
                go_wp2_with fail
                go_roundw
                case rel => exact ⟨q + 1, by omega, by go_num, HR10⟩
                case measure => simp [intOf]; omega
              · obtain rfl : q = n2 := by omega
                go_wp2_with fail
                go_roundw
                case rel => exact ⟨k + 1, l2, D2, q, e2, by omega, by go_num, rfl, hRq, HND2⟩
                case measure => simp [intOf]; omega
        · have hd1' : (d == 1) = false := by simpa using hd1
          by_cases hd2 : d = 2
          · subst hd2
            have hdp := pdrop_ok x HRX.out.pw
            by_cases hat : 0 ≤ atW x l
            · rw [decide_eq_true hat] at hdp
              have HDP := Lib.hid hdp
              have HNDY := Lib.hid (dropW_nodup (x := x) hND.out)
              have HKP := Lib.hid (dropW_kept (x := x) hND.out)
              clear hdp hat hND
              go_wp2_with fail
              rw [HWX.out]
              refine HDP.out.mono ?_
              rintro e9 w5 ⟨rfl, ht⟩
              have hoff := ht.off
              have z1 := (off_cell hoff HYX.out.1 HYX.out.2 1).trans HY1.out
              have HX5 : Hid (wo.heap.size < w5.heap.size) := Lib.hid (by have h1 := HYX.out.1; have h2 := hoff.size; omega)
              have HZ1 := Lib.hid z1
              have HR5 := Lib.hid (HRX.out.call ht)
              have hnl := HR5.out.co.len
              have HNL := Lib.hid hnl
              have hn12 : n ≤ 12 := by
                have := HRX.out.room
                omega
              have HN12 := Lib.hid hn12
              have HO5 : Hid ((w5.alloc (.cells #[] 3)).ownsRow w5.heap.size 3 1 (.slice (some ⟨w5.heap.size, 0, none⟩) 0 0) 0 (ivs ((l.take 0).filter (fun y => !(y == x))))) := Lib.hid (own_new_s w5 w5.heap.size 1 3 0 [] rfl (Nat.le_refl _) (Nat.zero_le _))
              have HK5 : Hid (Below w5.heap.size w5 (w5.alloc (.cells #[] 3))) := Lib.hid (kp_new _ _)
              clear ht hoff HDP HRX HY1 HYX HWX z1 hnl hn12
              go_wp2_with fail
              go_loopw [12, 80] (fun o i wr => ∃ (q z : Nat) (B : Option Addr) (f : Nat), q ≤ n ∧ z ≤ q ∧ i = .int .i64 q ∧ o = .slice B z f ∧ Hid (wr.ownsRow w5.heap.size 3 1 (.slice B z f) z (ivs ((l.take q).filter (fun y => !(y == x))))) ∧ Hid (Below w5.heap.size w5 wr)) (fun _ i _ => n - (intOf i).toNat)
              case atStart => exact ⟨0, 0, some ⟨w5.heap.size, 0, none⟩, 0, Nat.zero_le _, Nat.le_refl _, rfl, rfl, HO5, HK5⟩
              case round =>
                obtain ⟨q, z, B, f, hq, hzq, rfl, rfl, hO, hK⟩ := hrel
                have hn12 := HN12.out
                by_cases hqn : q < n
                · have hql : q < l.length := by rw [HNL.out]; exact hqn
                  obtain ⟨ad2, rfl, _, hc2⟩ := HR5.out.co.nr.at_ hql
                  have z0 := hc2 wr hK.out
                  have z2 := (World.cell?_of_block (a := ⟨wo.heap.size, 1, none⟩) (hK.out.block _ HX5.out)).trans HZ1.out
                  have hq0 : (0 : Int) ≤ (q : Int) := by omega
                  have hq1 : (q : Int) < (n : Int) := by omega
                  have hft : (l.take (q + 1)).filter (fun y => !(y == x)) = (l.take q).filter (fun y => !(y == x)) ++ [l[q]].filter (fun y => !(y == x)) := by rw [List.take_succ_eq_append_getElem hql, List.filter_append]
                  clear hc2
                  by_cases hyx : l[q] = x
                  · have hyq : (l[q] == x) = true := by simpa using hyx
                    have HE : Hid ((l.take (q + 1)).filter (fun y => !(y == x)) = (l.take q).filter (fun y => !(y == x))) := Lib.hid (by rw [hft, List.filter_cons_of_neg (by simpa using hyx)]; simp)
                    clear hyx hft
                    generalize l[q] = y at *
                    go_wp2_with fail
                    go_roundw
                    case rel => exact ⟨q + 1, z, B, f, by omega, by omega, by go_num, rfl, by rw [HE.out]; exact hO, hK⟩
                    case measure => simp [intOf]; omega
                  · have hyq : (l[q] == x) = false := by simpa using hyx
                    have HE : Hid (ivs ((l.take (q + 1)).filter (fun y => !(y == x))) = ivs ((l.take q).filter (fun y => !(y == x))) ++ [.int .i64 l[q]]) := Lib.hid (by rw [hft, List.filter_cons_of_pos (by simpa using hyx), ivs_append]; rfl)
                    clear hyx hft
                    generalize l[q] = y at *
                    have HO1 := Lib.hid (hO.out.alloc (.cells #[.int .i64 y] 3))
                    have HR1 : Hid (Rd (wr.alloc (.cells #[.int .i64 y] 3)) (wr.heap.size + 1) (some ⟨wr.heap.size, 0, none⟩) [.int .i64 y]) := Lib.hid (Rd.new wr 3 [.int .i64 y])
                    have HS1 : Hid (w5.heap.size ≤ (wr.alloc (.cells #[.int .i64 y] 3)).heap.size) := Lib.hid (by have := hK.out.size; simp; omega)
                    have HZ12 := Lib.hid (show z + 1 ≤ 13 by have := HN12.out; omega)
                    go_wp2_with (at_builtin; refine wpList_append_rd rfl _ _ _ rfl w5.heap.size 3 i0 _ 8 Try.underlying38 hi hz0 hz1 hz2 rfl _ z _ rfl HO1.out _ _ _ _ [.int .i64 y] rfl rfl HR1.out (by simp [Value.oneCell']) (by have := HZ12.out; unfold maxLen; omega) (by have := HZ12.out; omega) HS1.out ?_; intro v3 w3 hown3 hg3; obtain ⟨A3, c3, rfl, _, _⟩ := own_form hown3; have HO3 := Lib.hid hown3; have HG3 := Lib.hid hg3; clear hown3 hg3)
                    go_roundw
                    case rel =>
                      refine ⟨q + 1, z + 1, A3, c3, by omega, by omega, by go_num, rfl, Lib.hid (by rw [HE.out]; exact HO3.out), Lib.hid ?_⟩
                      exact (kp_alloc hK.out _).trans (below_own_s HO1.out HG3.out HS1.out)
                    case measure => simp [intOf]; omega
                · obtain rfl : q = n := by omega
                  have hO' := hO.out
                  rw [List.take_of_length_le (by rw [HNL.out]; exact Nat.le_refl _), ← HKP.out] at hO'
                  have hco := CO.of_own (base := W.heap.size) (b := b) hO' HR5.out.low.size HR5.out.lt
                  obtain ⟨wy, hwy⟩ : ∃ y, y = wr := ⟨wr, rfl⟩
                  have HRY : Hid (RS W b m (dropW x l) B z f (dropW x l) wy) := Lib.hid (by rw [hwy]; exact (HR5.out.next hK.out).cut hco)
                  clear hO' hco hO hK HKP HR5 HO5 HK5 HZ1 HX5
                  rw [← hwy]
                  clear hwy
                  obtain ⟨l2, hl2⟩ : ∃ y, y = dropW x l := ⟨_, rfl⟩
                  rw [← hl2] at HRY HNDY
                  obtain ⟨D2, n2, e2, hD2, hn2, he2⟩ : ∃ (D2 : Option Addr) (n2 e2 : Nat), D2 = B ∧ n2 = z ∧ e2 = f := ⟨_, _, _, rfl, rfl, rfl⟩
                  rw [← hD2, ← hn2, ← he2] at HRY
                  rw [← hD2, ← hn2, ← he2]
                  clear hl2 hD2 hn2 he2
                  have HND2 := HNDY
                  clear HNDY
                  have hln := HRY.out.co.len
                  have hrm := HRY.out.room
                  have HLN := Lib.hid hln
                  have hnm : ¬ m < (n2 : Int) := by omega
                  have hn12 : n2 ≤ 12 := by omega
                  have HPA := Lib.hid (pall_ok HRY.out.pw)
                  clear hln hrm
                  go_wp2_with fail
                  refine HPA.out.mono ?_
                  rintro e9 w8 ⟨A8, n8, c8, rfl, x8, hn8, k8⟩
                  have HR8 := Lib.hid (HRY.out.next k8)
                  have HSM := Lib.hid (wsame_ok A8 D2 n8 n2 c8 e2 l2 l2 w8 x8 HR8.out.co.nr (by omega) (by omega) true (Lib.hid (by simp)))
                  clear x8 k8 HPA HRY hn8
                  go_wp2_with fail
                  refine HSM.out.mono ?_
                  rintro e9 w9 ⟨rfl, _, k9⟩
                  have HR9 := Lib.hid (HR8.out.next k9)
                  clear k9 HSM HR8
                  go_wp2_with fail
                  go_loopw [107] (fun i wr => ∃ (q : Nat), q ≤ n2 ∧ i = .int .i64 q ∧ Hid (RS W b m l2 D2 n2 e2 l2 wr)) (fun i _ => n2 - (intOf i).toNat)
                  case atStart => exact ⟨0, Nat.zero_le _, rfl, HR9⟩
                  case round =>
                    obtain ⟨q, hq, rfl, hRq⟩ := hrel
                    by_cases hqn : q < n2
                    · have hql : q < l2.length := by rw [HLN.out]; exact hqn
                      obtain ⟨ad2, rfl, _, hc2⟩ := hRq.out.co.nr.at_ hql
                      have z0 := hc2 wr (Below.refl _ _)
                      have hat := pat_ok l2[q] hRq.out.pw
                      rw [atW_self HND2.out hql] at hat
                      have HAT := Lib.hid hat
                      have hq0 : (0 : Int) ≤ (q : Int) := by omega
                      have hq1 : (q : Int) < (n2 : Int) := by omega
                      clear hc2 hat
                      generalize l2[q] = y at *
                      go_wp2_with fail
                      refine HAT.out.mono ?_
                      rintro e9 w10 ⟨rfl, _, k10⟩
                      have HR10 := Lib.hid (hRq.out.next k10)
                      clear k10 HAT
                      go_wp2_with fail
                      go_roundw
                      case rel => exact ⟨q + 1, by omega, by go_num, HR10⟩
                      case measure => simp [intOf]; omega
                    · obtain rfl : q = n2 := by omega
                      go_wp2_with fail
                      go_roundw
                      case rel => exact ⟨k + 1, l2, D2, q, e2, by omega, by go_num, rfl, hRq, HND2⟩
                      case measure => simp [intOf]; omega
            · have hn : atW x l = -1 := by have := atW_ge x l; omega
              rw [decide_eq_false hat, dropW_not hn] at hdp
              have HDP := Lib.hid hdp
              clear hdp hat hn
              go_wp2_with fail
              rw [HWX.out]
              refine HDP.out.mono ?_
              rintro e9 wy ⟨rfl, ht⟩
              have HRY := Lib.hid (HRX.out.call ht)
              have HNDY := hND
              clear ht HDP HRX HY1 HYX HWX hND
              obtain ⟨l2, hl2⟩ : ∃ y, y = l := ⟨_, rfl⟩
              rw [← hl2] at HRY HNDY
              obtain ⟨D2, n2, e2, hD2, hn2, he2⟩ : ∃ (D2 : Option Addr) (n2 e2 : Nat), D2 = D ∧ n2 = n ∧ e2 = e := ⟨_, _, _, rfl, rfl, rfl⟩
              rw [← hD2, ← hn2, ← he2] at HRY
              rw [← hD2, ← hn2, ← he2]
              clear hl2 hD2 hn2 he2
              have HND2 := HNDY
              clear HNDY
              have hln := HRY.out.co.len
              have hrm := HRY.out.room
              have HLN := Lib.hid hln
              have hnm : ¬ m < (n2 : Int) := by omega
              have hn12 : n2 ≤ 12 := by omega
              have HPA := Lib.hid (pall_ok HRY.out.pw)
              clear hln hrm
              go_wp2_with fail
              refine HPA.out.mono ?_
              rintro e9 w8 ⟨A8, n8, c8, rfl, x8, hn8, k8⟩
              have HR8 := Lib.hid (HRY.out.next k8)
              have HSM := Lib.hid (wsame_ok A8 D2 n8 n2 c8 e2 l2 l2 w8 x8 HR8.out.co.nr (by omega) (by omega) true (Lib.hid (by simp)))
              clear x8 k8 HPA HRY hn8
              go_wp2_with fail
              refine HSM.out.mono ?_
              rintro e9 w9 ⟨rfl, _, k9⟩
              have HR9 := Lib.hid (HR8.out.next k9)
              clear k9 HSM HR8
              go_wp2_with fail
              go_loopw [107] (fun i wr => ∃ (q : Nat), q ≤ n2 ∧ i = .int .i64 q ∧ Hid (RS W b m l2 D2 n2 e2 l2 wr)) (fun i _ => n2 - (intOf i).toNat)
              case atStart => exact ⟨0, Nat.zero_le _, rfl, HR9⟩
              case round =>
                obtain ⟨q, hq, rfl, hRq⟩ := hrel
                by_cases hqn : q < n2
                · have hql : q < l2.length := by rw [HLN.out]; exact hqn
                  obtain ⟨ad2, rfl, _, hc2⟩ := hRq.out.co.nr.at_ hql
                  have z0 := hc2 wr (Below.refl _ _)
                  have hat := pat_ok l2[q] hRq.out.pw
                  rw [atW_self HND2.out hql] at hat
                  have HAT := Lib.hid hat
                  have hq0 : (0 : Int) ≤ (q : Int) := by omega
                  have hq1 : (q : Int) < (n2 : Int) := by omega
                  clear hc2 hat
                  generalize l2[q] = y at *
                  go_wp2_with fail
                  refine HAT.out.mono ?_
                  rintro e9 w10 ⟨rfl, _, k10⟩
                  have HR10 := Lib.hid (hRq.out.next k10)
                  clear k10 HAT
                  go_wp2_with fail
                  go_roundw
                  case rel => exact ⟨q + 1, by omega, by go_num, HR10⟩
                  case measure => simp [intOf]; omega
                · obtain rfl : q = n2 := by omega
                  go_wp2_with fail
                  go_roundw
                  case rel => exact ⟨k + 1, l2, D2, q, e2, by omega, by go_num, rfl, hRq, HND2⟩
                  case measure => simp [intOf]; omega
          · have hd2' : (d == 2) = false := by simpa using hd2
            clear hd0 hd1 hd2
            obtain ⟨wy, hwy⟩ : ∃ y, y = wx := ⟨wx, rfl⟩
            have HRY : Hid (RS W b m l D n e l wy) := Lib.hid (hwy ▸ HRX.out)
            clear HRX HY1 HYX
            obtain ⟨l2, hl2⟩ : ∃ y, y = l := ⟨l, rfl⟩
            rw [← hl2] at HRY hND
            obtain ⟨D2, n2, e2, hD2, hn2, he2⟩ : ∃ (D2 : Option Addr) (n2 e2 : Nat), D2 = D ∧ n2 = n ∧ e2 = e := ⟨D, n, e, rfl, rfl, rfl⟩
            rw [← hD2, ← hn2, ← he2] at HRY
            rw [← hD2, ← hn2, ← he2]
            clear hl2 hD2 hn2 he2
            have HND2 := hND
            clear hND
            have hln := HRY.out.co.len
            have hrm := HRY.out.room
            have HLN := Lib.hid hln
            have hnm : ¬ m < (n2 : Int) := by omega
            have hn12 : n2 ≤ 12 := by omega
            have HPA := Lib.hid (pall_ok HRY.out.pw)
            clear hln hrm
            go_wp2_with fail
            rw [HWX.out]
            rw [← hwy]
            clear HWX hwy
            refine HPA.out.mono ?_
            rintro e9 w8 ⟨A8, n8, c8, rfl, x8, hn8, k8⟩
            have HR8 := Lib.hid (HRY.out.next k8)
            have HSM := Lib.hid (wsame_ok A8 D2 n8 n2 c8 e2 l2 l2 w8 x8 HR8.out.co.nr (by omega) (by omega) true (Lib.hid (by simp)))
            clear x8 k8 HPA HRY hn8
            go_wp2_with fail
            refine HSM.out.mono ?_
            rintro e9 w9 ⟨rfl, _, k9⟩
            have HR9 := Lib.hid (HR8.out.next k9)
            clear k9 HSM HR8
            go_wp2_with fail
            go_loopw [107] (fun i wr => ∃ (q : Nat), q ≤ n2 ∧ i = .int .i64 q ∧ Hid (RS W b m l2 D2 n2 e2 l2 wr)) (fun i _ => n2 - (intOf i).toNat)
            case atStart => exact ⟨0, Nat.zero_le _, rfl, HR9⟩
            case round =>
              obtain ⟨q, hq, rfl, hRq⟩ := hrel
              by_cases hqn : q < n2
              · have hql : q < l2.length := by rw [HLN.out]; exact hqn
                obtain ⟨ad2, rfl, _, hc2⟩ := hRq.out.co.nr.at_ hql
                have z0 := hc2 wr (Below.refl _ _)
                have hat := pat_ok l2[q] hRq.out.pw
                rw [atW_self HND2.out hql] at hat
                have HAT := Lib.hid hat
                have hq0 : (0 : Int) ≤ (q : Int) := by omega
                have hq1 : (q : Int) < (n2 : Int) := by omega
                clear hc2 hat
                generalize l2[q] = y at *
                go_wp2_with fail
                refine HAT.out.mono ?_
                rintro e9 w10 ⟨rfl, _, k10⟩
                have HR10 := Lib.hid (hRq.out.next k10)
                clear k10 HAT
                go_wp2_with fail
                go_roundw
                case rel => exact ⟨q + 1, by omega, by go_num, HR10⟩
                case measure => simp [intOf]; omega
              · obtain rfl : q = n2 := by omega
                go_wp2_with fail
                go_roundw
                case rel => exact ⟨k + 1, l2, D2, q, e2, by omega, by go_num, rfl, hRq, HND2⟩
                case measure => simp [intOf]; omega
    · obtain rfl : k = l1 := by omega
      go_wp2_with fail
      go_ret
      exact ⟨rfl, hR.out.low⟩
end Go.Proofs.Ytijemohcengmjaa
