/-
  The calls whose answers the document fixes, at layer 3: they answer so.
-/
import Derived.Test.YtmklmakcampbbaaDoorMsgF
import Derived.Test.YtmklmakcampbbaaDoorMsgD
namespace Go.Proofs.YtmklmakcampbbaaDoor
open Go.RowKit
set_option maxRecDepth 100000

theorem mA1 : frameF 8 [2, 9] [] = (8, [0, 0, 0, 2, 9], 0) := by decide
theorem mA2 : ofF 8 [0, 0, 0, 2, 9] = some ([2, 9], []) := by
  have h : takeN (szs 8) [0, 0, 0, 2, 9] = some ([2, 9], []) := by decide
  have h2 : apartF 8 [0, 0, 0, 2, 9] = some ([2, 9], []) := by rw [apartF, h]; simp [textsF_nil]
  rw [ofF, if_pos (by decide), show (8 : UInt8).toNat = 8 from rfl, h2]
  decide
theorem mA3 : msgB 4 [] [] = ([0, 1, 4], 0) := by decide
theorem mA4 : frameF 8 [2, 256] [] = (0, [], 1) := by decide
theorem mA5 : ofF 4 [0] = none := by
  have h : takeN (szs 4) [0] = some ([], [0]) := by decide
  have h2 : apartF 4 [0] = none := by rw [apartF, h]; simp [textsF_few (bs := [0]) (by decide) (by decide)]
  rw [ofF, if_pos (by decide), show (4 : UInt8).toNat = 4 from rfl, h2]
  rfl
theorem e8 : ((8 : UInt8).toNat : Int) = 8 := rfl
theorem e4 : ((4 : UInt8).toNat : Int) = 4 := rfl
theorem mA6 : rightF 8 [2, 9] [] = true := by decide

theorem Sg.new (w : World) (t : TypeId) (xs : List Value) : Sg (w.alloc (.cells xs.toArray t)) (w.alloc (.cells xs.toArray t)).heap.size (some ⟨w.heap.size, 0, none⟩) xs.length xs.length xs :=
  ⟨by have := Rd.new w t xs; simpa using this, rfl, Nat.le_refl _⟩

theorem sl_lit (w : World) (t : TypeId) (n : Nat) (hn : n = w.heap.size) (bs : List UInt8) (cs : Array Value) (hc : (bvs bs).toArray = cs) : Sl (w.alloc (.cells cs t)) (w.alloc (.cells cs t)).heap.size (some ⟨n, 0, none⟩) bs.length bs.length bs := by
  subst hn hc
  exact Sl.new w t bs

set_option maxHeartbeats 1000000 in
theorem awake3 (w : World) (hL : Lay w) : Calls Tryd.prog 6 #[] w fun e w' => e = .returned (.bool true) ∧ Below w.heap.size w w' := by
  have hm0 : MR ((w.alloc (.cells #[.int .u64 2, .int .u64 9] 63)).alloc (.cells #[.int .i64 8, .slice (some ⟨w.heap.size, 0, none⟩) 2 2, .slice none 0 0] 25)) ⟨8, some ⟨w.heap.size, 0, none⟩, 2, 2, [2, 9], none, 0, 0, []⟩ :=
    ⟨(Sg.new w 63 (uvs [2, 9])).next (kp_new _ _), Sg.nil _ _, fun n h => by simp at h; omega⟩
  have k0 : Below w.heap.size w ((w.alloc (.cells #[.int .u64 2, .int .u64 9] 63)).alloc (.cells #[.int .i64 8, .slice (some ⟨w.heap.size, 0, none⟩) 2 2, .slice none 0 0] 25)) := kp_alloc (kp_new _ _) _
  obtain ⟨_, b0⟩ := alloc2 w (.cells #[.int .u64 2, .int .u64 9] 63) (.cells #[.int .i64 8, .slice (some ⟨w.heap.size, 0, none⟩) 2 2, .slice none 0 0] 25)
  have z0 : w.heap.size + 1 < ((w.alloc (.cells #[.int .u64 2, .int .u64 9] 63)).alloc (.cells #[.int .i64 8, .slice (some ⟨w.heap.size, 0, none⟩) 2 2, .slice none 0 0] 25)).heap.size := by simp
  have hL0 := hL.next k0
  have hF1 := frame_any _ _ hm0 hL0 (by simp) (by simp)
  unfold AnsM Mg.v frV at hF1
  simp only [mA1, e8] at hF1
  have HF1 := Lib.hid hF1
  have HM0 := Lib.hid hm0
  have HB0 := Lib.hid b0
  clear hF1 hm0 b0
  go_enter Tryd.func6, Tryd.ntmps6
  go_wp2_with fail
  refine HF1.out.mono ?_
  rintro e w1 ⟨A1, l1, c1, rfl, ho1, k1⟩
  generalize hw0 : (w.alloc (.cells #[.int .u64 2, .int .u64 9] 63)).alloc (.cells #[.int .i64 8, .slice (some ⟨w.heap.size, 0, none⟩) 2 2, .slice none 0 0] 25) = w0 at *
  clear hw0 HF1
  have hl1 := ho1.len
  simp only [List.length_cons, List.length_nil] at hl1
  have k1' := kp_trans k1 (kp_new w1 (.cells #[.int .u8 8, .slice A1 l1 c1] 28))
  have hL1 := hL0.next k1'
  have hF2 := of_any 8 A1 _ l1 c1 _ (ho1.sl.next (kp_new w1 (.cells #[.int .u8 8, .slice A1 l1 c1] 28))) (by omega) hL1
  unfold AnsO frV at hF2
  simp only [mA2, e8] at hF2
  have HF2 := Lib.hid hF2
  clear hF2
  go_wp2_with fail
  refine HF2.out.mono ?_
  rintro e w2 ⟨⟨q2, A2, l2, c2, ns2, D2, m2, d2, ts2⟩, rfl, hs2, hm2, k2⟩
  simp only [saysO, Prod.mk.injEq] at hs2
  obtain ⟨rfl, rfl, rfl⟩ := hs2
  simp only [Mg.v, Option.isSome_some, if_true]
  have hf1 := Lib.hid ((k2.block w1.heap.size (by simp)).trans (heap_alloc_new w1 (.cells #[.int .u8 8, .slice A1 l1 c1] 28)))
  have k2' := kp_trans k2 (kp_new w2 (.cells #[.int .i64 8, .slice A2 l2 c2, .slice D2 m2 d2] 25))
  have hL2 := hL1.next k2'
  have hF3 := mbytes_any ⟨4, none, 0, 0, [], none, 0, 0, []⟩ _ ⟨Sg.nil (w2.alloc (.cells #[.int .i64 8, .slice A2 l2 c2, .slice D2 m2 d2] 25)) _, Sg.nil _ _, fun n h => by simp at h⟩ hL2 (by simp) (by simp)
  unfold AnsY Mg.v at hF3
  simp only [mA3] at hF3
  have HF3 := Lib.hid hF3
  clear hF3 HF2
  go_wp2_with fail
  refine HF3.out.mono ?_
  rintro e w3 ⟨A3, l3, c3, rfl, ho3, k3⟩
  have hn3 := Lib.hid ((k3.block w2.heap.size (by simp)).trans (heap_alloc_new w2 (.cells #[.int .i64 8, .slice A2 l2 c2, .slice D2 m2 d2] 25)))
  have k3' := kp_trans k3 (kp_new w3 (.cells #[.int .u64 2, .int .u64 256] 63))
  have hL3 := hL2.next k3'
  have hF4 := frame_any ⟨8, some ⟨w3.heap.size, 0, none⟩, 2, 2, [2, 256], none, 0, 0, []⟩ _ ⟨Sg.new w3 63 (uvs [2, 256]), Sg.nil _ _, fun n h => by simp at h; omega⟩ hL3 (by simp) (by simp)
  unfold AnsM Mg.v frV at hF4
  simp only [mA4] at hF4
  have HF4 := Lib.hid hF4
  clear hF4 HF3
  go_wp2_with fail
  refine HF4.out.mono ?_
  rintro e w4 ⟨A4, l4, c4, rfl, ho4, k4⟩
  have e0 : ((0 : UInt8).toNat : Int) = 0 := rfl
  have k4' := kp_trans k4 (kp_alloc (kp_new w4 (.cells #[.int .u8 0, .slice A4 l4 c4] 28)) (.cells #[.int .u8 0] 5))
  have hL4 := hL3.next k4'
  have hs5 : Sl ((w4.alloc (.cells #[.int .u8 0, .slice A4 l4 c4] 28)).alloc (.cells #[.int .u8 0] 5)) ((w4.alloc (.cells #[.int .u8 0, .slice A4 l4 c4] 28)).alloc (.cells #[.int .u8 0] 5)).heap.size (some ⟨w4.heap.size + 1, 0, none⟩) 1 1 [0] := by
    have h := Sl.new (w4.alloc (.cells #[.int .u8 0, .slice A4 l4 c4] 28)) 5 [0]
    have h1 : (w4.alloc (.cells #[.int .u8 0, .slice A4 l4 c4] 28)).heap.size = w4.heap.size + 1 := by simp
    have h2 : (bvs [0]).toArray = #[Value.int .u8 0] := rfl
    rw [h1, h2] at h
    exact h
  have hF5 := of_any 4 _ [0] 1 1 _ hs5 (by omega) hL4
  unfold AnsO frV at hF5
  simp only [mA5, e4] at hF5
  have HF5 := Lib.hid hF5
  clear hF5 HF4 hs5
  go_wp2_with fail
  refine HF5.out.mono ?_
  rintro e w5 ⟨⟨q5, A5, l5, c5, ns5, D5, m5, d5, ts5⟩, rfl, hs5, _, k5⟩
  simp only [saysO, Prod.mk.injEq] at hs5
  obtain ⟨rfl, rfl, rfl⟩ := hs5
  simp only [Mg.v, Option.isSome_none, Bool.false_eq_true, if_false]
  clear HF5
  have K35 : Below w3.heap.size w3 w5 := kp_trans (kp_new w3 _) (kp_trans k4' k5)
  have K25 : Below w2.heap.size w2 w5 := kp_trans (kp_new w2 _) (kp_trans k3' (kp_trans k4' k5))
  have K15 : Below w1.heap.size w1 w5 := kp_trans (kp_new w1 _) (kp_trans k2' (kp_trans k3' (kp_trans k4' k5)))
  have K05 : Below w0.heap.size w0 w5 := kp_trans k1 K15
  have X0 := (K05.block _ z0).trans HB0.out
  have X1 := (K25.block w1.heap.size (by have := k2.size; simp at this; omega)).trans hf1.out
  have X2 := (K35.block w2.heap.size (by have := k3.size; simp at this; omega)).trans hn3.out
  have y1 : w.heap.size + 1 < w5.heap.size := Nat.lt_of_lt_of_le z0 K05.size
  have y2 : w1.heap.size < w5.heap.size := (Array.getElem?_eq_some_iff.1 X1).1
  have y3 : w2.heap.size < w5.heap.size := (Array.getElem?_eq_some_iff.1 X2).1
  have kw5 := kp_trans k0 K05
  have hb5 := ho1.next K15
  have hc5 := ho3.next K35
  have hd5 := hm2.mr.next K25
  have he5 := HM0.out.next K05
  have hL5 := hL0.next K05
  clear hm2 ho1 ho3 ho4 hf1 hn3 k0 k1 k1' k2 k2' k3 k3' k4 k4' k5 K15 K25 K35 K05 HM0 HB0 hL0 hL1 hL2 hL3 hL4 z0
  obtain ⟨f0, f1, _, _⟩ := two_cells X1
  go_wp2_with fail
  have hx5 := kp_alloc (kp_new w5 (.cells #[.int .i64 0, .slice A5 l5 c5, .slice D5 m5 d5] 25)) (.cells #[.int .u8 0, .int .u8 0, .int .u8 0, .int .u8 2, .int .u8 9] 5)
  have hb6 := hb5.len
  refine (same_kp _ _ [0, 0, 0, 2, 9] [0, 0, 0, 2, 9] _ _ _ _ _ _ _ (hb5.sl.next hx5) (sl_lit (w5.alloc (.cells #[.int .i64 0, .slice A5 l5 c5, .slice D5 m5 d5] 25)) 5 (w5.heap.size + 1) (by simp) [0, 0, 0, 2, 9] _ rfl) (by simp at hb6; omega) true (Lib.hid (by decide))).mono ?_
  rintro e w6 ⟨rfl, k6⟩
  have k56 := kp_trans hx5 k6
  have Y0 := (k56.block _ y1).trans X0
  have Y1 := (k56.block _ y2).trans X1
  have Y2 := (k56.block _ y3).trans X2
  clear X0 X1 X2 f0 f1 hx5 k6
  obtain ⟨g0, g1, _, _⟩ := two_cells Y1
  obtain ⟨u0, u1, u2, _, _, _⟩ := three_cells Y0
  obtain ⟨v0, v1, v2, _, _, _⟩ := three_cells Y2
  have hS := msame_any ⟨8, A2, l2, c2, [2, 9], D2, m2, d2, []⟩ ⟨8, some ⟨w.heap.size, 0, none⟩, 2, 2, [2, 9], none, 0, 0, []⟩ w6 (hd5.next k56) (he5.next k56) (by have := hd5.ln; simp at this ⊢; omega) (by have := hd5.lt; simp at this ⊢; omega) true (Lib.hid (by simp [Mg.says]))
  unfold Mg.v at hS
  simp only at hS
  have HS := Lib.hid hS
  clear hS Y1
  go_wp2_with fail
  refine HS.out.mono ?_
  rintro e w7 ⟨rfl, k7⟩
  have k57 := kp_trans k56 k7
  have hc7 := hc5.next k57
  have hc8 := hc7.len
  clear g0 g1 u0 u1 u2 v0 v1 v2 HS
  go_wp2_with fail
  refine (same_kp _ _ [0, 1, 4] [0, 1, 4] _ _ _ _ _ _ _ (hc7.sl.next (kp_new w7 (.cells #[.int .u8 0, .int .u8 1, .int .u8 4] 5))) (sl_lit w7 5 w7.heap.size rfl [0, 1, 4] _ rfl) (by simp at hc8; omega) true (Lib.hid (by decide))).mono ?_
  rintro e w8 ⟨rfl, k8⟩
  have k78 := kp_trans (kp_new w7 (.cells #[.int .u8 0, .int .u8 1, .int .u8 4] 5)) k8
  have k58 := kp_trans k57 k78
  have Z0 := ((kp_trans k7 k78).block _ (Array.getElem?_eq_some_iff.1 Y0).1).trans Y0
  obtain ⟨u0, u1, u2, _, _, _⟩ := three_cells Z0
  have hR := right_any ⟨8, some ⟨w.heap.size, 0, none⟩, 2, 2, [2, 9], none, 0, 0, []⟩ w8 (he5.next k58) (hL5.next k58) (by simp) (by simp) true (Lib.hid mA6)
  unfold Mg.v at hR
  simp only at hR
  have HR := Lib.hid hR
  clear hR Y0 Y2 Z0
  go_wp2_with fail
  refine HR.out.mono ?_
  rintro e w9 ⟨rfl, k9⟩
  go_wp2_with fail
  go_ret
  exact ⟨rfl, kp_trans kw5 (kp_trans k58 k9)⟩
end Go.Proofs.YtmklmakcampbbaaDoor
