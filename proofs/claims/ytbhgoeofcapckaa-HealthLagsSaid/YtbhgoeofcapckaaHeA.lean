/-
  Layer 12: the calls whose answers the document fixes, out of the contracts of the project's health.
-/
import Derived.Test.YtbhgoeofcapckaaHeL
namespace Go.Proofs.Ytbhgoeofcapckaa
open Go.RowKit
set_option maxRecDepth 100000

theorem keepO {w w' : World} {b : Nat} {x : Obj} (h : w.heap[b]? = some x) (k : Below w.heap.size w w') : w'.heap[b]? = some x := (k.block _ (Array.getElem?_eq_some_iff.1 h).1).trans h
theorem ltO {w : World} {b : Nat} {x : Obj} (h : w.heap[b]? = some x) : b < w.heap.size := (Array.getElem?_eq_some_iff.1 h).1
set_option maxHeartbeats 16000000 in
theorem awake12_ok (C : HealthC) (W : World) : Calls Try.prog 6 #[] W fun e w' => e = .returned (.bool true) ∧ Below W.heap.size W w' := by
  have HC := Lib.hid C
  have hr : rightHe ⟨2, 2, 3⟩ = true := rfl
  obtain ⟨v0, hv0⟩ : ∃ u, (W.alloc (cfO ⟨2, 2, 3⟩)).alloc (stO ⟨1, 0⟩) = u := ⟨_, rfl⟩
  have K0 : Below W.heap.size W v0 := hv0 ▸ kp_alloc (kp_new _ _) _
  have c0 : v0.heap[W.heap.size]? = some (cfO ⟨2, 2, 3⟩) := by
    rw [← hv0, heap_alloc_old _ _ (by simp)]
    exact heap_alloc_new W _
  have n0 : v0.heap[W.heap.size + 1]? = some (stO ⟨1, 0⟩) := by
    rw [← hv0]
    have := heap_alloc_new (W.alloc (cfO ⟨2, 2, 3⟩)) (stO ⟨1, 0⟩)
    rwa [World.size_alloc] at this
  have C0 := Lib.hid c0
  have N0 := Lib.hid n0
  have HK0 := Lib.hid K0
  have HV0 := Lib.hid hv0
  unfold cfO stO at HV0
  clear C K0 c0 n0 hv0
  have HT := Lib.hid (HC.out.step ⟨2, 2, 3⟩ ⟨1, 0⟩ ⟨false, 0⟩ v0 hr (by simp) (by simp))
  rw [show stepHe ⟨2, 2, 3⟩ ⟨1, 0⟩ ⟨false, 0⟩ = ⟨1, 1⟩ by decide] at HT
  unfold HCf.v HSt.v HPr.v at HT
  go_enter Try.func6, Try.ntmps6
  go_wp2_with fail
  rw [HV0.out]
  refine HT.out.mono ?_
  rintro e w1 ⟨rfl, k1⟩
  clear HT HV0
  obtain ⟨b1, hb1⟩ : ∃ b, w1.heap.size = b := ⟨_, rfl⟩
  obtain ⟨v1, hv1⟩ : ∃ u, w1.alloc (stO ⟨1, 1⟩) = u := ⟨_, rfl⟩
  have q1 : Below v0.heap.size v0 v1 := (k1).trans ((hv1 ▸ kp_new w1 _ : Below w1.heap.size w1 v1).mono (k1).size)
  have HK1 := Lib.hid (HK0.out.trans (q1.mono HK0.out.size))
  have C1 := Lib.hid (keepO C0.out q1)
  have N1 := Lib.hid (keepO N0.out q1)
  have Sa1 : Hid (v1.heap[b1]? = some (stO ⟨1, 1⟩)) := Lib.hid (by rw [← hb1, ← hv1]; exact heap_alloc_new w1 _)
  obtain ⟨x0, x1, x2⟩ : w1.cell? ⟨W.heap.size, 0, none⟩ = some (.int .i64 2) ∧ w1.cell? ⟨W.heap.size, 1, none⟩ = some (.int .i64 2) ∧ w1.cell? ⟨W.heap.size, 2, none⟩ = some (.int .u64 3) := by have h := keepO C0.out k1; exact ⟨(cellsAt h 0 rfl).1, (cellsAt h 1 rfl).1, (cellsAt h 2 rfl).1⟩
  have hz : W.heap.size < w1.heap.size := ltO (keepO C0.out k1)
  have HT := Lib.hid (HC.out.step ⟨2, 2, 3⟩ ⟨1, 1⟩ ⟨false, 0⟩ v1 hr (by simp) (by simp))
  rw [show stepHe ⟨2, 2, 3⟩ ⟨1, 1⟩ ⟨false, 0⟩ = ⟨2, 0⟩ by decide] at HT
  unfold HCf.v HSt.v HPr.v at HT
  have HV := Lib.hid hv1
  have HBE1 := Lib.hid hb1
  unfold stO at HV
  clear q1 hv1 hb1
  go_wp2_with fail
  rw [HV.out, HBE1.out]
  refine HT.out.mono ?_
  rintro e w2 ⟨rfl, k2⟩
  clear HT HV x0 x1 x2 hz
  obtain ⟨b2, hb2⟩ : ∃ b, w2.heap.size = b := ⟨_, rfl⟩
  obtain ⟨v2, hv2⟩ : ∃ u, w2.alloc (stO ⟨2, 0⟩) = u := ⟨_, rfl⟩
  have q2 : Below v1.heap.size v1 v2 := (k2).trans ((hv2 ▸ kp_new w2 _ : Below w2.heap.size w2 v2).mono (k2).size)
  have HK2 := Lib.hid (HK1.out.trans (q2.mono HK1.out.size))
  have C2 := Lib.hid (keepO C1.out q2)
  have N2 := Lib.hid (keepO N1.out q2)
  have Sa2 := Lib.hid (keepO Sa1.out q2)
  have Sb2 : Hid (v2.heap[b2]? = some (stO ⟨2, 0⟩)) := Lib.hid (by rw [← hb2, ← hv2]; exact heap_alloc_new w2 _)
  obtain ⟨x0, x1, x2⟩ : w2.cell? ⟨W.heap.size, 0, none⟩ = some (.int .i64 2) ∧ w2.cell? ⟨W.heap.size, 1, none⟩ = some (.int .i64 2) ∧ w2.cell? ⟨W.heap.size, 2, none⟩ = some (.int .u64 3) := by have h := keepO C1.out k2; exact ⟨(cellsAt h 0 rfl).1, (cellsAt h 1 rfl).1, (cellsAt h 2 rfl).1⟩
  have hz : W.heap.size < w2.heap.size := ltO (keepO C1.out k2)
  have HT := Lib.hid (HC.out.step ⟨2, 2, 3⟩ ⟨2, 0⟩ ⟨true, 3⟩ v2 hr (by simp) (by simp))
  rw [show stepHe ⟨2, 2, 3⟩ ⟨2, 0⟩ ⟨true, 3⟩ = ⟨3, 1⟩ by decide] at HT
  unfold HCf.v HSt.v HPr.v at HT
  have HV := Lib.hid hv2
  have HBE2 := Lib.hid hb2
  unfold stO at HV
  clear q2 hv2 hb2
  go_wp2_with fail
  rw [HV.out, HBE2.out]
  refine HT.out.mono ?_
  rintro e w3 ⟨rfl, k3⟩
  clear HT HV x0 x1 x2 hz
  obtain ⟨b3, hb3⟩ : ∃ b, w3.heap.size = b := ⟨_, rfl⟩
  obtain ⟨v3, hv3⟩ : ∃ u, w3.alloc (stO ⟨3, 1⟩) = u := ⟨_, rfl⟩
  have q3 : Below v2.heap.size v2 v3 := (k3).trans ((hv3 ▸ kp_new w3 _ : Below w3.heap.size w3 v3).mono (k3).size)
  have HK3 := Lib.hid (HK2.out.trans (q3.mono HK2.out.size))
  have C3 := Lib.hid (keepO C2.out q3)
  have N3 := Lib.hid (keepO N2.out q3)
  have Sa3 := Lib.hid (keepO Sa2.out q3)
  have Sb3 := Lib.hid (keepO Sb2.out q3)
  have Sc3 : Hid (v3.heap[b3]? = some (stO ⟨3, 1⟩)) := Lib.hid (by rw [← hb3, ← hv3]; exact heap_alloc_new w3 _)
  obtain ⟨x0, x1, x2⟩ : w3.cell? ⟨W.heap.size, 0, none⟩ = some (.int .i64 2) ∧ w3.cell? ⟨W.heap.size, 1, none⟩ = some (.int .i64 2) ∧ w3.cell? ⟨W.heap.size, 2, none⟩ = some (.int .u64 3) := by have h := keepO C2.out k3; exact ⟨(cellsAt h 0 rfl).1, (cellsAt h 1 rfl).1, (cellsAt h 2 rfl).1⟩
  have hz : W.heap.size < w3.heap.size := ltO (keepO C2.out k3)
  have HT := Lib.hid (HC.out.step ⟨2, 2, 3⟩ ⟨3, 1⟩ ⟨true, 0⟩ v3 hr (by simp) (by simp))
  rw [show stepHe ⟨2, 2, 3⟩ ⟨3, 1⟩ ⟨true, 0⟩ = ⟨1, 0⟩ by decide] at HT
  unfold HCf.v HSt.v HPr.v at HT
  have HV := Lib.hid hv3
  have HBE3 := Lib.hid hb3
  unfold stO at HV
  clear q3 hv3 hb3
  go_wp2_with fail
  rw [HV.out, HBE3.out]
  refine HT.out.mono ?_
  rintro e w4 ⟨rfl, k4⟩
  clear HT HV x0 x1 x2 hz
  obtain ⟨b4, hb4⟩ : ∃ b, w4.heap.size = b := ⟨_, rfl⟩
  obtain ⟨v4, hv4⟩ : ∃ u, w4.alloc (stO ⟨1, 0⟩) = u := ⟨_, rfl⟩
  have q4 : Below v3.heap.size v3 v4 := k4.trans ((hv4 ▸ kp_new w4 _ : Below w4.heap.size w4 v4).mono k4.size)
  have HK4 := Lib.hid (HK3.out.trans (q4.mono HK3.out.size))
  have C4 := Lib.hid (keepO C3.out q4)
  have N4 := Lib.hid (keepO N3.out q4)
  have Sa4 := Lib.hid (keepO Sa3.out q4)
  have Sb4 := Lib.hid (keepO Sb3.out q4)
  have Sc4 := Lib.hid (keepO Sc3.out q4)
  have Sd4 : Hid (v4.heap[b4]? = some (stO ⟨1, 0⟩)) := Lib.hid (by rw [← hb4, ← hv4]; exact heap_alloc_new w4 _)
  obtain ⟨x0, x1, x2⟩ : w4.cell? ⟨W.heap.size, 0, none⟩ = some (.int .i64 2) ∧ w4.cell? ⟨W.heap.size, 1, none⟩ = some (.int .i64 2) ∧ w4.cell? ⟨W.heap.size, 2, none⟩ = some (.int .u64 3) := by have h := keepO C3.out k4; exact ⟨(cellsAt h 0 rfl).1, (cellsAt h 1 rfl).1, (cellsAt h 2 rfl).1⟩
  have hz : W.heap.size < w4.heap.size := ltO (keepO C3.out k4)
  have HT := Lib.hid (HC.out.right ⟨2, 2, 3⟩ v4)
  rw [hr] at HT
  unfold HCf.v at HT
  have HV := Lib.hid hv4
  have HBE4 := Lib.hid hb4
  unfold stO at HV
  clear q4 hv4 hb4
  go_wp2_with fail
  rw [HV.out, HBE4.out]
  refine HT.out.mono ?_
  rintro e w5 ⟨rfl, k5⟩
  clear HT HV x0 x1 x2 hz
  have HK5 := Lib.hid (HK4.out.trans (k5.mono HK4.out.size))
  have C5 := Lib.hid (keepO C4.out k5)
  have N5 := Lib.hid (keepO N4.out k5)
  have Sa5 := Lib.hid (keepO Sa4.out k5)
  have Sb5 := Lib.hid (keepO Sb4.out k5)
  have Sc5 := Lib.hid (keepO Sc4.out k5)
  have Sd5 := Lib.hid (keepO Sd4.out k5)
  have HT := Lib.hid (HC.out.right ⟨0, 0, 0⟩ w5)
  rw [show rightHe ⟨0, 0, 0⟩ = false from rfl] at HT
  unfold HCf.v at HT
  go_wp2_with fail
  refine HT.out.mono ?_
  rintro e w6 ⟨rfl, k6⟩
  clear HT
  have HK6 := Lib.hid (HK5.out.trans (k6.mono HK5.out.size))
  have C6 := Lib.hid (keepO C5.out k6)
  have N6 := Lib.hid (keepO N5.out k6)
  have Sa6 := Lib.hid (keepO Sa5.out k6)
  have Sb6 := Lib.hid (keepO Sb5.out k6)
  have Sc6 := Lib.hid (keepO Sc5.out k6)
  have Sd6 := Lib.hid (keepO Sd5.out k6)
  have cN0 := (cellsAt N6.out 0 (v := .int .i64 1) rfl).1
  have cN1 := (cellsAt N6.out 1 (v := .int .i64 0) rfl).1
  have cSa0 := (cellsAt Sa6.out 0 (v := .int .i64 1) rfl).1
  have cSa1 := (cellsAt Sa6.out 1 (v := .int .i64 1) rfl).1
  have cSb0 := (cellsAt Sb6.out 0 (v := .int .i64 2) rfl).1
  have cSb1 := (cellsAt Sb6.out 1 (v := .int .i64 0) rfl).1
  have cSc0 := (cellsAt Sc6.out 0 (v := .int .i64 3) rfl).1
  have cSc1 := (cellsAt Sc6.out 1 (v := .int .i64 1) rfl).1
  have cSd0 := (cellsAt Sd6.out 0 (v := .int .i64 1) rfl).1
  have cSd1 := (cellsAt Sd6.out 1 (v := .int .i64 0) rfl).1
  have HT := Lib.hid (HC.out.serves ⟨1, 0⟩ w6)
  unfold HSt.v at HT
  go_wp2_with fail
  refine HT.out.mono ?_
  rintro e w7 ⟨rfl, k7⟩
  clear HT
  have h11 : ((1 : Int) == 1) = true := rfl
  clear cN0 cN1 cSa0 cSa1 cSb0 cSb1 cSc0 cSc1 cSd0 cSd1
  have HK7 := Lib.hid (HK6.out.trans (k7.mono HK6.out.size))
  have C7 := Lib.hid (keepO C6.out k7)
  have N7 := Lib.hid (keepO N6.out k7)
  have Sa7 := Lib.hid (keepO Sa6.out k7)
  have Sb7 := Lib.hid (keepO Sb6.out k7)
  have Sc7 := Lib.hid (keepO Sc6.out k7)
  have Sd7 := Lib.hid (keepO Sd6.out k7)
  have cN0 := (cellsAt N7.out 0 (v := .int .i64 1) rfl).1
  have cN1 := (cellsAt N7.out 1 (v := .int .i64 0) rfl).1
  have cSa0 := (cellsAt Sa7.out 0 (v := .int .i64 1) rfl).1
  have cSa1 := (cellsAt Sa7.out 1 (v := .int .i64 1) rfl).1
  have cSb0 := (cellsAt Sb7.out 0 (v := .int .i64 2) rfl).1
  have cSb1 := (cellsAt Sb7.out 1 (v := .int .i64 0) rfl).1
  have cSc0 := (cellsAt Sc7.out 0 (v := .int .i64 3) rfl).1
  have cSc1 := (cellsAt Sc7.out 1 (v := .int .i64 1) rfl).1
  have cSd0 := (cellsAt Sd7.out 0 (v := .int .i64 1) rfl).1
  have cSd1 := (cellsAt Sd7.out 1 (v := .int .i64 0) rfl).1
  have HT := Lib.hid (HC.out.serves ⟨3, 1⟩ w7)
  unfold HSt.v at HT
  go_wp2_with fail
  refine HT.out.mono ?_
  rintro e w8 ⟨rfl, k8⟩
  clear HT
  have h31 : ((3 : Int) == 1) = false := rfl
  clear cN0 cN1 cSa0 cSa1 cSb0 cSb1 cSc0 cSc1 cSd0 cSd1
  have HK8 := Lib.hid (HK7.out.trans (k8.mono HK7.out.size))
  have C8 := Lib.hid (keepO C7.out k8)
  have N8 := Lib.hid (keepO N7.out k8)
  have Sa8 := Lib.hid (keepO Sa7.out k8)
  have Sb8 := Lib.hid (keepO Sb7.out k8)
  have Sc8 := Lib.hid (keepO Sc7.out k8)
  have Sd8 := Lib.hid (keepO Sd7.out k8)
  have cN0 := (cellsAt N8.out 0 (v := .int .i64 1) rfl).1
  have cN1 := (cellsAt N8.out 1 (v := .int .i64 0) rfl).1
  have cSa0 := (cellsAt Sa8.out 0 (v := .int .i64 1) rfl).1
  have cSa1 := (cellsAt Sa8.out 1 (v := .int .i64 1) rfl).1
  have cSb0 := (cellsAt Sb8.out 0 (v := .int .i64 2) rfl).1
  have cSb1 := (cellsAt Sb8.out 1 (v := .int .i64 0) rfl).1
  have cSc0 := (cellsAt Sc8.out 0 (v := .int .i64 3) rfl).1
  have cSc1 := (cellsAt Sc8.out 1 (v := .int .i64 1) rfl).1
  have cSd0 := (cellsAt Sd8.out 0 (v := .int .i64 1) rfl).1
  have cSd1 := (cellsAt Sd8.out 1 (v := .int .i64 0) rfl).1
  have HT := Lib.hid (HC.out.off ⟨1, 0⟩ w8)
  unfold HSt.v at HT
  go_wp2_with fail
  refine HT.out.mono ?_
  rintro e w9 ⟨rfl, k9⟩
  clear HT
  clear cN0 cN1 cSa0 cSa1 cSb0 cSb1 cSc0 cSc1 cSd0 cSd1
  have HK9 := Lib.hid (HK8.out.trans (k9.mono HK8.out.size))
  have HT := Lib.hid (HC.out.on ⟨4, 3⟩ w9)
  rw [show onHe ⟨4, 3⟩ = ⟨2, 0⟩ from rfl] at HT
  unfold HSt.v at HT
  go_wp2_with fail
  refine HT.out.mono ?_
  rintro e w10 ⟨rfl, k10⟩
  clear HT
  have HK10 := Lib.hid (HK9.out.trans (k10.mono HK9.out.size))
  go_wp2_with fail
  go_ret
  exact ⟨rfl, HK10.out⟩
theorem HealthC.k (C : HealthC) : HealthK := { C with aw := awake12_ok C }
end Go.Proofs.Ytbhgoeofcapckaa
