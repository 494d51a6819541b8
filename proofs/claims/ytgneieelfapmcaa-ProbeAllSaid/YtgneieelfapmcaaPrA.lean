/-
  Layer 13: the calls whose answers the document fixes, out of what is asked of the project's plan of probes.
-/
import Derived.Test.YtgneieelfapmcaaPrK
import Derived.Test.YtgneieelfapmcaaSm8
namespace Go.Proofs.Ytgneieelfapmcaa
open Go.RowKit
set_option maxRecDepth 100000

theorem AK.new (w : World) (t : TypeId) (ts : List (Int × Int)) : AK (w.alloc (.cells (akC ts).toArray t)) (some ⟨w.heap.size, 0, none⟩) ts.length ts := ⟨rfl, (Rd.new w t (akC ts)).more (by simp)⟩
set_option maxHeartbeats 32000000 in
theorem awake13_ok {X : Nat → Pb → Thing} (C : ProbeC X) (W : World) : Calls Try.prog 6 #[] W fun e w' => e = .returned (.bool true) ∧ Below W.heap.size W w' := by
  have HC := Lib.hid C
  have hok : newOk13 2 5 2 := by decide
  have HP0 := Lib.hid (PrI.new hok)
  have HP1 := Lib.hid (HP0.out.tick (now := 0) (by decide))
  have HP2 := Lib.hid (HP1.out.tick (now := 1) (by decide))
  have HP3 := Lib.hid (HP2.out.tick (now := 2) (by decide))
  have a0 : tickA (newPb 2 5 2) 0 = [(0, 1)] := by kernel_rfl
  have l0 : tickL (newPb 2 5 2) 0 = [] := by kernel_rfl
  have p1 : tickC (newPb 2 5 2) 0 = ⟨[⟨5, 1, 0⟩, ⟨1, 0, 0⟩], 5, 2, 1⟩ := by kernel_rfl
  rw [p1] at HP1 HP2 HP3
  have a1 : tickA ⟨[⟨5, 1, 0⟩, ⟨1, 0, 0⟩], 5, 2, 1⟩ 1 = [(1, 2)] := by kernel_rfl
  have l1 : tickL ⟨[⟨5, 1, 0⟩, ⟨1, 0, 0⟩], 5, 2, 1⟩ 1 = [] := by kernel_rfl
  have p2 : tickC ⟨[⟨5, 1, 0⟩, ⟨1, 0, 0⟩], 5, 2, 1⟩ 1 = ⟨[⟨5, 1, 0⟩, ⟨6, 2, 1⟩], 5, 2, 2⟩ := by kernel_rfl
  rw [p2] at HP2 HP3
  have a2 : tickA ⟨[⟨5, 1, 0⟩, ⟨6, 2, 1⟩], 5, 2, 2⟩ 2 = [] := by kernel_rfl
  have l2 : tickL ⟨[⟨5, 1, 0⟩, ⟨6, 2, 1⟩], 5, 2, 2⟩ 2 = [0] := by kernel_rfl
  have p3 : tickC ⟨[⟨5, 1, 0⟩, ⟨6, 2, 1⟩], 5, 2, 2⟩ 2 = ⟨[⟨5, 0, 0⟩, ⟨6, 2, 1⟩], 5, 2, 2⟩ := by kernel_rfl
  rw [p3] at HP3
  have HN := Lib.hid (HC.out.good 2 5 2 W hok)
  clear C hok
  go_enter Try.func6, Try.ntmps6
  go_wp2_with fail
  refine HN.out.mono ?_
  rintro e w1 ⟨b, rfl, ⟨S1, x1, y1⟩, k1⟩
  have S1' : Hid (Solo W (X b (newPb 2 5 2)) noneB w1) := Lib.hid (Solo.make (Below.refl _ _) x1 y1 k1)
  clear HN x1 y1 k1
  have HT := Lib.hid (S1'.out.tick HC.out HP0.out (now := 0) (by decide) (by decide) (by decide))
  rw [a0, l0, p1] at HT
  go_wp2_with fail
  refine HT.out.mono ?_
  rintro e w2 ⟨A1, n1, c1, B1, m1, d1, rfl, ra1, rb1, s2, _, _, _⟩
  obtain rfl : n1 = 1 := ra1.len.symm
  obtain rfl : m1 = 0 := rb1.len.symm
  have RA1 := Lib.hid ra1
  have S2 := Lib.hid s2
  clear HT ra1 rb1 s2 S1'
  have HT := Lib.hid (S2.out.tick HC.out HP1.out (now := 1) (by decide) (by decide) (by decide))
  rw [a1, l1, p2] at HT
  go_wp2_with fail
  refine HT.out.mono ?_
  rintro e w3 ⟨A2, n2, c2, B2, m2, d2, rfl, ra2, rb2, s3, q3, z3, _⟩
  obtain rfl : n2 = 1 := ra2.len.symm
  obtain rfl : m2 = 0 := rb2.len.symm
  have RA1 := Lib.hid (RA1.out.kept z3 fun k hk => q3 k (.inl (.inl hk)))
  have RA2 := Lib.hid ra2
  have S3 := Lib.hid s3
  clear HT ra2 rb2 s3 S2 q3 z3
  have HT := Lib.hid (S3.out.tick HC.out HP2.out (now := 2) (by decide) (by decide) (by decide))
  rw [a2, l2, p3] at HT
  go_wp2_with fail
  refine HT.out.mono ?_
  rintro e w4 ⟨A3, n3, c3, B3, m3, d3, rfl, ra3, rb3, s4, q4, z4, _⟩
  obtain rfl : n3 = 0 := ra3.len.symm
  obtain rfl : m3 = 1 := rb3.len.symm
  have RA1 := Lib.hid (RA1.out.kept z4 fun k hk => q4 k (.inr (.inl (.inl hk))))
  have RA2 := Lib.hid (RA2.out.kept z4 fun k hk => q4 k (.inl (.inl hk)))
  have RB3 := Lib.hid rb3
  have S4 := Lib.hid s4
  have HQ := Lib.hid (lasks_ok A1 1 c1 _ w4 RA1.out (by decide))
  clear HT ra3 rb3 s4 S3 q4 z4 RA1
  go_wp2_with fail
  refine HQ.out.mono ?_
  rintro e w5 ⟨D5, g5, rfl, o5, k5⟩
  have S5 := Lib.hid ((S4.out.next k5).next (kp_new w5 (.cells (akC [(0, 1)]).toArray 55)))
  have RA2 := Lib.hid ((RA2.out.next k5).next (kp_new w5 (.cells (akC [(0, 1)]).toArray 55)))
  have RB3 := Lib.hid ((RB3.out.next k5).next (kp_new w5 (.cells (akC [(0, 1)]).toArray 55)))
  have HS := Lib.hid (rasks_ok D5 _ 1 1 g5 1 _ _ _ ((AK.of_own o5).next (kp_new w5 (.cells (akC [(0, 1)]).toArray 55))) (AK.new w5 55 [(0, 1)]) (by decide) (by decide) true (Lib.hid rfl))
  clear HQ o5 k5 S4
  go_wp2_with fail
  refine HS.out.mono ?_
  rintro e w6 ⟨rfl, k6⟩
  have S6 := Lib.hid (S5.out.next k6)
  have RB3 := Lib.hid (RB3.out.next k6)
  have HQ := Lib.hid (lasks_ok A2 1 c2 _ w6 (RA2.out.next k6) (by decide))
  clear HS k6 S5 RA2
  go_wp2_with fail
  refine HQ.out.mono ?_
  rintro e w7 ⟨D7, g7, rfl, o7, k7⟩
  have S7 := Lib.hid ((S6.out.next k7).next (kp_new w7 (.cells (akC [(1, 2)]).toArray 55)))
  have RB3 := Lib.hid ((RB3.out.next k7).next (kp_new w7 (.cells (akC [(1, 2)]).toArray 55)))
  have HS := Lib.hid (rasks_ok D7 _ 1 1 g7 1 _ _ _ ((AK.of_own o7).next (kp_new w7 (.cells (akC [(1, 2)]).toArray 55))) (AK.new w7 55 [(1, 2)]) (by decide) (by decide) true (Lib.hid rfl))
  clear HQ o7 k7 S6
  go_wp2_with fail
  refine HS.out.mono ?_
  rintro e w8 ⟨rfl, k8⟩
  have S9 := Lib.hid ((S7.out.next k8).next (kp_new w8 (.cells (ivs [0]).toArray 3)))
  have HS := Lib.hid (rsame11_ok B3 _ 1 1 d3 1 _ _ _ ((RB3.out.next k8).next (kp_new w8 (.cells (ivs [0]).toArray 3))) (NR.new w8 3 [0]) (by decide) (by decide) true (Lib.hid rfl))
  clear k8 S7 RB3
  go_wp2_with fail
  refine HS.out.mono ?_
  rintro e w9 ⟨rfl, q9, hq9⟩
  have S9 := Lib.hid (S9.out.next (hq9 ▸ kp_drewN _ q9))
  clear HS hq9
  have HO := Lib.hid (S9.out.out HC.out HP3.out 0 ⟨by decide, by decide⟩)
  rw [show outP ⟨[⟨5, 0, 0⟩, ⟨6, 2, 1⟩], 5, 2, 2⟩ 0 = 0 from by kernel_rfl] at HO
  go_wp2_with fail
  refine HO.out.mono ?_
  rintro e w10 ⟨rfl, s10, _⟩
  have HO := Lib.hid (s10.out HC.out HP3.out 1 ⟨by decide, by decide⟩)
  rw [show outP ⟨[⟨5, 0, 0⟩, ⟨6, 2, 1⟩], 5, 2, 2⟩ 1 = 2 from by kernel_rfl] at HO
  clear S9 s10
  go_wp2_with fail
  refine HO.out.mono ?_
  rintro e w11 ⟨rfl, s11, _⟩
  have HO := Lib.hid (s11.due HC.out HP3.out 0 ⟨by decide, by decide⟩)
  rw [show dueP ⟨[⟨5, 0, 0⟩, ⟨6, 2, 1⟩], 5, 2, 2⟩ 0 = 5 from by kernel_rfl] at HO
  clear s11
  go_wp2_with fail
  refine HO.out.mono ?_
  rintro e w12 ⟨rfl, s12, _⟩
  have HO := Lib.hid (s12.answer HC.out HP3.out 1 2 ⟨by decide, by decide⟩ ⟨by decide, by decide⟩)
  rw [show ansB ⟨[⟨5, 0, 0⟩, ⟨6, 2, 1⟩], 5, 2, 2⟩ 1 2 = true from by kernel_rfl, show ansC ⟨[⟨5, 0, 0⟩, ⟨6, 2, 1⟩], 5, 2, 2⟩ 1 2 = ⟨[⟨5, 0, 0⟩, ⟨6, 0, 1⟩], 5, 2, 2⟩ from by kernel_rfl] at HO
  have HP4 := Lib.hid (HP3.out.ans 1 2)
  rw [show ansC ⟨[⟨5, 0, 0⟩, ⟨6, 2, 1⟩], 5, 2, 2⟩ 1 2 = ⟨[⟨5, 0, 0⟩, ⟨6, 0, 1⟩], 5, 2, 2⟩ from by kernel_rfl] at HP4
  clear s12
  go_wp2_with fail
  refine HO.out.mono ?_
  rintro e w13 ⟨rfl, s13, _⟩
  have HO := Lib.hid (s13.answer HC.out HP4.out 1 2 ⟨by decide, by decide⟩ ⟨by decide, by decide⟩)
  rw [show ansB ⟨[⟨5, 0, 0⟩, ⟨6, 0, 1⟩], 5, 2, 2⟩ 1 2 = false from by kernel_rfl] at HO
  clear s13
  go_wp2_with fail
  refine HO.out.mono ?_
  rintro e w14 ⟨rfl, s14, _⟩
  have HK := Lib.hid s14.low
  clear s14
  go_wp2_with fail
  go_ret
  exact ⟨rfl, HK.out⟩
end Go.Proofs.Ytgneieelfapmcaa
