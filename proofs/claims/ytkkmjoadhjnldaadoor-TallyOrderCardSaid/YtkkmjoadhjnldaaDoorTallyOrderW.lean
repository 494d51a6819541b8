/-
  TallyOrder, of layer 7: the walk.
-/
import Derived.Test.YtkkmjoadhjnldaaDoorTaT
import Derived.Test.YtkkmjoadhjnldaaDoorAwake7
namespace Go.Proofs.YtkkmjoadhjnldaaDoor
open Go.RowKit
set_option maxRecDepth 100000

set_option maxHeartbeats 8000000 in
theorem tallyorder_walk (A0 : Option Addr) (l0 c0 : Nat) (ss : List ByteArray) (A1 : Option Addr) (l1 c1 : Nat) (ts : List Act7) (W : World) (r0 : XR W A0 l0 ss) (r1 : AR W A1 l1 ts)
    (_ : ∀ t ∈ ts, t.s.size ≤ 140737488351232 ∧ (-9223372036854775808 ≤ t.n ∧ t.n ≤ 9223372036854775807) ∧ (-9223372036854775808 ≤ t.m ∧ t.m ≤ 9223372036854775807)) (htab : Lib.TabIs Tryd.prog W tabName .u64 Lib.pow10Tab) :
    Calls Tryd.prog 4 #[.slice A0 l0 c0, .slice A1 l1 c1] W fun e w' => e = .returned (.bool true) ∧ Below W.heap.size W w' := by
  have HAW := Lib.hid (awake7_ok W htab)
  have HTAB := Lib.hid htab
  have R0 := Lib.hid r0
  have R1 := Lib.hid r1
  have R1n : Hid (∀ u, Below W.heap.size W u → AR u A1 l1 ts) := Lib.hid fun u hu => ⟨r1.len, (r1.rd.below hu (Nat.le_refl _)).more hu.size⟩
  obtain ⟨lg, hlg⟩ : ∃ lg, largeT ss ts = lg := ⟨_, rfl⟩
  have HLG := Lib.hid hlg
  clear r0 r1 htab hlg
  go_enter Tryd.func4, Tryd.ntmps4
  go_wp2_with fail
  refine HAW.out.mono ?_
  rintro e w1 ⟨rfl, k1⟩
  clear HAW
  cases lg with
  | true =>
    go_wp2_with fail
    refine (large7_ok A0 A1 l0 c0 l1 c1 ss ts w1 (R0.out.next k1) (R1n.out w1 k1) true HLG).mono ?_
    rintro e w2 ⟨rfl, k2⟩
    have K2 := kp_trans k1 k2
    go_wp2_with fail
    go_ret
    exact ⟨rfl, K2⟩
  | false =>
  obtain ⟨n1, n2, n3, n4⟩ := large_no HLG.out
  have hl0 := R0.out.len
  have hl1 := R1.out.len
  have N3 := Lib.hid n3
  have N4 := Lib.hid n4
  have HL0 := Lib.hid (show l0 ≤ 100 by omega)
  have HL1 := Lib.hid (show l1 ≤ 100 by omega)
  have HN1 := Lib.hid hl1
  clear n1 n2 n3 n4 hl0 hl1
  go_wp2_with fail
  refine (large7_ok A0 A1 l0 c0 l1 c1 ss ts w1 (R0.out.next k1) (R1n.out w1 k1) false HLG).mono ?_
  rintro e w2 ⟨rfl, k2⟩
  have K2 := kp_trans k1 k2
  go_wp2_with fail
  refine (pnew_ok A0 l0 c0 ss w2 (R0.out.next K2) (by have := HL0.out; omega) (fun s hs => by have := N3.out s hs; omega)).mono ?_
  rintro e w3 ⟨S, b1, rfl, p3, s3, k3⟩
  have K3 := kp_trans K2 k3
  have P3 := Lib.hid p3
  have S3 := Lib.hid s3
  have HK3 := Lib.hid K3
  have HZ2 := Lib.hid K2.size
  clear p3 s3 k3 K2 k1 k2 K3
  go_wp2_with fail
  refine (pnew_ok A0 l0 c0 ss w3 (R0.out.next HK3.out) (by have := HL0.out; omega) (fun s hs => by have := N3.out s hs; omega)).mono ?_
  rintro e w4 ⟨T, b2, rfl, p4, s4, k4⟩
  have HP4 : Hid (P2 W b1 b2 ss (newT ss) (zeros (newT ss).length) (zeros (newT ss).length) w4) := Lib.hid ⟨⟨S, T, P3.out.next k4, p4, fun k hk hk2 => by have h1 := P3.out.lt k hk; have h2 := s4 k hk2; omega, fun k hk => by
    rcases hk with hk | hk
    · have := S3.out k hk; have := HZ2.out; omega
    · have := s4 k hk; have := HK3.out.size; omega⟩, kp_trans HK3.out k4⟩
  obtain ⟨ns, hns⟩ : ∃ ns, ns = newT ss := ⟨_, rfl⟩
  rw [← hns] at HP4
  obtain ⟨z0, hz0⟩ : ∃ z0, z0 = zeros ns.length := ⟨_, rfl⟩
  have HI0 : Hid (InT z0) := Lib.hid (by rw [hz0]; exact InT.zeros _)
  rw [← hz0] at HP4
  clear p4 s4 k4 P3 S3 HK3 HZ2 hz0 hns
  go_wp2_with fail
  go_loopw [21] (fun i wr => ∃ (k : Nat), k ≤ l1 ∧ i = .int .i64 k ∧ Hid (P2 W b1 b2 ss ns (sumT ns z0 (ts.take k)) (sumT ns z0 (ts.reverse.take k)) wr)) (fun i _ => l1 - (intOf i).toNat)
  case atStart => exact ⟨0, Nat.zero_le _, rfl, HP4⟩
  case round =>
    obtain ⟨k, hk, rfl, hP⟩ := hrel
    have hl100 := HL1.out
    by_cases hlt : k < l1
    · have hkl : k < ts.length := by rw [HN1.out]; exact hlt
      have hkr : k < ts.reverse.length := by rw [List.length_reverse]; exact hkl
      obtain ⟨q, hq⟩ : ∃ q : Nat, (l1 : Int) - 1 - (k : Int) = (q : Int) := ⟨l1 - 1 - k, by omega⟩
      have hql : q < ts.length := by have := HN1.out; omega
      have hqm : (q : Int) < (l1 : Int) := by omega
      have hrev : ts.reverse[k] = ts[q] := by
        rw [List.getElem_reverse]
        congr 1
        have := HN1.out
        omega
      have hn1 := sumT_next ns z0 ts k hkl
      have hn2 := sumT_next ns z0 ts.reverse k hkr
      rw [hrev] at hn2
      have HE1 := Lib.hid hn1
      have HE2 := Lib.hid hn2
      obtain ⟨ad, rfl, had, hcc⟩ := R1.out.at_ hkl
      obtain ⟨x0, x1, x2, x3⟩ := hcc wr hP.out.low
      obtain ⟨ad2, had2, _, hcc2⟩ := R1.out.at_ hql
      injection had2 with had2
      subst had2
      have hz1 := N4.out ts[k] (List.getElem_mem hkl)
      have hz2 := N4.out ts[q] (List.getElem_mem hql)
      obtain ⟨y0, y1, y2, y3⟩ := hcc2 _ (kp_trans hP.out.low (kp_new wr (.cells #[.int .i64 ts[k].d, .string ts[k].s, .int .i64 ts[k].n, .int .i64 ts[k].m] 36)))
      obtain ⟨v0, v1, v2, v3⟩ := hcc2 _ hP.out.low
      clear hcc hcc2 hn1 hn2 hrev
      generalize ts[k] = x at *
      generalize ts[q] = y at *
      have hPX := hP.out.x (.cells #[.int .i64 x.d, .string x.s, .int .i64 x.n, .int .i64 x.m] 36) (.cells #[.int .i64 y.d, .string y.s, .int .i64 y.n, .int .i64 y.m] 36)
      have HPX := Lib.hid hPX
      have hy1 : ((wr.alloc (.cells #[.int .i64 x.d, .string x.s, .int .i64 x.n, .int .i64 x.m] 36)).alloc (.cells #[.int .i64 y.d, .string y.s, .int .i64 y.n, .int .i64 y.m] 36)).cell? ⟨wr.heap.size + 1, 1, none⟩ = some (.string y.s) := by simp
      have hy2 : ((wr.alloc (.cells #[.int .i64 x.d, .string x.s, .int .i64 x.n, .int .i64 x.m] 36)).alloc (.cells #[.int .i64 y.d, .string y.s, .int .i64 y.n, .int .i64 y.m] 36)).cell? ⟨wr.heap.size + 1, 2, none⟩ = some (.int .i64 y.n) := by simp
      have HY1 := Lib.hid hy1
      have HY2 := Lib.hid hy2
      clear hPX hy1 hy2
      go_wp2_with fail
      refine (HPX.out.add1 x.s x.n (by omega)).mono ?_
      rintro e w5 ⟨rfl, p5, c5⟩
      have u1 := (c5 1).trans HY1.out
      have u2 := (c5 2).trans HY2.out
      have HP5 := Lib.hid p5
      clear p5 c5
      generalize decide (0 ≤ placeT x.s ns) = f1 at *
      go_wp2_with fail
      refine (HP5.out.add2 y.s y.n (by omega)).mono ?_
      rintro e w6 ⟨rfl, p6⟩
      rw [← HE1.out, ← HE2.out] at p6
      have HP6 := Lib.hid p6
      clear p6
      go_wp2_with fail
      go_roundw
      case rel => exact ⟨k + 1, by omega, by go_num, HP6⟩
      case measure => simp [intOf]; omega
    · obtain rfl : k = l1 := by omega
      have hP' := hP.out
      rw [List.take_of_length_le (by rw [HN1.out]; exact Nat.le_refl _), List.take_of_length_le (by rw [List.length_reverse, HN1.out]; exact Nat.le_refl _), sumT_rev] at hP'
      obtain ⟨cs, hcs⟩ : ∃ cs, cs = sumT ns z0 ts := ⟨_, rfl⟩
      have HI : Hid (InT cs) := Lib.hid (by rw [hcs]; exact InT.sum ns ts HI0.out (cs := z0))
      rw [← hcs] at hP'
      obtain ⟨⟨S', T', q1, q2, q3, q4⟩, q5⟩ := hP'
      have HTB := Lib.hid ((Lib.tabBelow_of_tabIs HTAB.out).on q5)
      have HL1 := Lib.hid (lines7_ok S' b1 ss ns cs W.heap.size wr q1 HTB.out (fun k hk => q4 k (.inl hk)) q5.size HI.out q1.small)
      have Q1 := Lib.hid q1
      have Q2 := Lib.hid q2
      have Q3 := Lib.hid q3
      have Q4 := Lib.hid q4
      have Q5 := Lib.hid q5
      clear q1 q2 q3 q4 q5 hcs
      go_wp2_with fail
      refine HL1.out.mono ?_
      rintro e w7 ⟨A7, n7, c7, s7, rfl, hx7, hs7, hn7, hf7, hp7⟩
      have hoff := hp7.off
      have ht7 := Q2.out.off hoff (fun k hk hk2 => Q3.out k hk2 hk)
      have k7 : Below W.heap.size W w7 := Q5.out.trans (hoff.below (fun k hk => Q4.out k (.inl hk)) Q5.out.size)
      have HL2 := Lib.hid (lines7_ok T' b2 ss ns cs W.heap.size w7 ht7 ((Lib.tabBelow_of_tabIs HTAB.out).on k7) (fun k hk => Q4.out k (.inr hk)) k7.size HI.out ht7.small)
      have HX7 := Lib.hid hx7
      have HS7 := Lib.hid hs7
      have HF7 : Hid (∀ ad, A7 = some ad → ad.block < w7.heap.size ∧ ¬ T' ad.block) := Lib.hid fun ad e => ⟨(hf7 ad e).2, fun hk => by have h1 := Q2.out.lt _ hk; have h2 := (hf7 ad e).1; omega⟩
      have K7 := Lib.hid k7
      clear hx7 hs7 hf7 hp7 hoff ht7 k7
      go_wp2_with fail
      refine HL2.out.mono ?_
      rintro e w8 ⟨A8, n8, c8, s8, rfl, hx8, hs8, hn8, hf8, hp8⟩
      obtain rfl : s7 = s8 := bls_inj (HS7.out.trans hs8.symm)
      have HX78 := Lib.hid (HX7.out.off hp8.off.size fun ad e => hp8.off.block _ (HF7.out ad e).1 (HF7.out ad e).2)
      have HX8 := Lib.hid hx8
      have K8 := Lib.hid (K7.out.trans (hp8.off.below (fun k hk => Q4.out k (.inr hk)) K7.out.size))
      clear hx8 hs8 hf8 hp8
      go_wp2_with fail
      refine (texts6_ok A7 A8 n7 n8 c7 c8 s7 s7 w8 HX78.out HX8.out (by omega) (by omega) true (Lib.hid (by simp))).mono ?_
      rintro e w9 ⟨rfl, m9, rfl⟩
      have K9 := Lib.hid (kp_trans K8.out (kp_drewN w8 m9))
      go_wp2_with fail
      go_ret
      exact ⟨rfl, K9.out⟩
end Go.Proofs.YtkkmjoadhjnldaaDoor
