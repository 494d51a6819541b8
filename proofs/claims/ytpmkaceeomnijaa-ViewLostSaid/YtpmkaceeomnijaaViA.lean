/-
  Layer 14: the calls whose answers the document fixes, out of what is asked of the project's view.
-/
import Derived.Test.YtpmkaceeomnijaaViK
namespace Go.Proofs.Ytpmkaceeomnijaa
open Go.RowKit
set_option maxRecDepth 100000

theorem keepO {w w' : World} {b : Nat} {x : Obj} (h : w.heap[b]? = some x) (k : Below w.heap.size w w') : w'.heap[b]? = some x := (k.block _ (Array.getElem?_eq_some_iff.1 h).1).trans h
def tkO (t : Tk14) : Obj := .cells #[.int .u64 t.e, .int .u64 t.p] 25 (0, 0)
set_option maxHeartbeats 32000000 in
theorem awake14_ok {X : Nat → Vw → Thing} (C : ViewC X) (W : World) : Calls Try.prog 6 #[] W fun e w' => e = .returned (.bool true) ∧ Below W.heap.size W w' := by
  have HC := Lib.hid C
  have hI : ∀ i : Int, 0 ≤ i → i ≤ 100 → IsI i := fun i _ _ => ⟨by omega, by omega⟩
  have hU : ∀ i : Int, 0 ≤ i → i ≤ 100 → IsU i := fun i _ _ => ⟨by omega, by omega⟩
  have HV0 := Lib.hid (VwI.new (hI 3 (by decide) (by decide)))
  have HV1 := Lib.hid (HV0.out.learn (m := ⟨2, 5, 1⟩) (hU _ (by decide) (by decide)) (hU _ (by decide) (by decide)) (hI _ (by decide) (by decide)))
  have e1 : learnC (newVw 3) ⟨2, 5, 1⟩ = ⟨2, 1, [(2, 5)]⟩ := by kernel_rfl
  have e2 : learnC ⟨2, 1, [(2, 5)]⟩ ⟨2, 9, 4⟩ = ⟨2, 1, [(2, 5)]⟩ := by kernel_rfl
  have d1 : decide ((newVw 3).ep < 2) = true := by kernel_rfl
  have d2 : decide ((2 : Int) < 2) = false := by kernel_rfl
  have f1 : bringF ⟨2, 1, [(2, 5)]⟩ ⟨1, 5⟩ = ⟨2, 5⟩ := by kernel_rfl
  have f2 : bringB ⟨2, 1, [(2, 5)]⟩ ⟨1, 5⟩ = true := by kernel_rfl
  have f3 : bringF ⟨2, 1, [(2, 5)]⟩ ⟨1, 6⟩ = ⟨2, 5⟩ := by kernel_rfl
  have f4 : bringB ⟨2, 1, [(2, 5)]⟩ ⟨1, 6⟩ = false := by kernel_rfl
  have g1 : coversB ⟨2, 1, [(2, 5)]⟩ ⟨1, 5⟩ 2 5 = true := by kernel_rfl
  have g2 : coversB ⟨2, 1, [(2, 5)]⟩ ⟨1, 5⟩ 2 4 = false := by kernel_rfl
  have g3 : laterF ⟨1, 9⟩ ⟨2, 0⟩ = ⟨2, 0⟩ := by kernel_rfl
  rw [e1] at HV1
  have HN := Lib.hid (HC.out.new 3 W (hI 3 (by decide) (by decide)))
  have HI := Lib.hid hI
  have HU := Lib.hid hU
  clear C hI hU
  go_enter Try.func6, Try.ntmps6
  go_wp2_with fail
  refine HN.out.mono ?_
  rintro e w1 ⟨b, rfl, ⟨S1, x1, y1⟩, k1⟩
  have HS1 : Hid (Solo W (X b (newVw 3)) noneB w1) := Lib.hid (Solo.make (Below.refl _ _) x1 y1 k1)
  clear HN x1 y1 k1
  have HT := Lib.hid (HS1.out.learn HC.out HV0.out (by decide) ⟨2, 5, 1⟩ (HU.out _ (by decide) (by decide)) (HU.out _ (by decide) (by decide)) (HI.out _ (by decide) (by decide)))
  rw [e1, d1] at HT
  go_wp2_with fail
  refine HT.out.mono ?_
  rintro e w2 ⟨rfl, s2, _⟩
  have HS2 := Lib.hid s2
  clear HT s2 HS1
  have HT := Lib.hid (HS2.out.learn HC.out HV1.out (by decide) ⟨2, 9, 4⟩ (HU.out _ (by decide) (by decide)) (HU.out _ (by decide) (by decide)) (HI.out _ (by decide) (by decide)))
  rw [e2, show decide ((Vw.mk 2 1 [(2, 5)]).ep < (Pm.mk 2 9 4).e) = false by kernel_rfl] at HT
  go_wp2_with fail
  refine HT.out.mono ?_
  rintro e w3 ⟨rfl, s3, _⟩
  have HS3 := Lib.hid s3
  clear HT s3 HS2
  have HT := Lib.hid (HS3.out.brings HC.out HV1.out (by decide) ⟨1, 5⟩ (HU.out _ (by decide) (by decide)) (HU.out _ (by decide) (by decide)))
  rw [f1, f2] at HT
  unfold Tk14.v at HT
  go_wp2_with fail
  refine HT.out.mono ?_
  rintro e w4 ⟨rfl, s4, _⟩
  obtain ⟨b4, hb4⟩ : ∃ x, w4.heap.size = x := ⟨_, rfl⟩
  obtain ⟨v4, hv4⟩ : ∃ x, w4.alloc (tkO ⟨2, 5⟩) = x := ⟨_, rfl⟩
  have HS4 : Hid (Solo W (X b ⟨2, 1, [(2, 5)]⟩) noneB v4) := Lib.hid (hv4 ▸ s4.next (kp_new _ _))
  have HB4 : Hid (v4.heap[b4]? = some (tkO ⟨2, 5⟩)) := Lib.hid (by rw [← hb4, ← hv4]; exact heap_alloc_new w4 _)
  have HT := Lib.hid (HS4.out.brings HC.out HV1.out (by decide) ⟨1, 6⟩ (HU.out _ (by decide) (by decide)) (HU.out _ (by decide) (by decide)))
  rw [f3, f4] at HT
  have HVE := Lib.hid hv4
  have HBE := Lib.hid hb4
  unfold tkO at HVE
  unfold Tk14.v at HT
  clear s4 HS3 hb4 hv4
  go_wp2_with fail
  rw [HVE.out, HBE.out]
  refine HT.out.mono ?_
  rintro e w5 ⟨rfl, s5, k5⟩
  obtain ⟨b5, hb5⟩ : ∃ x, w5.heap.size = x := ⟨_, rfl⟩
  obtain ⟨v5, hv5⟩ : ∃ x, w5.alloc (tkO ⟨2, 5⟩) = x := ⟨_, rfl⟩
  have q5 : Below v4.heap.size v4 v5 := k5.trans ((hv5 ▸ kp_new w5 _ : Below w5.heap.size w5 v5).mono k5.size)
  have HS5 : Hid (Solo W (X b ⟨2, 1, [(2, 5)]⟩) noneB v5) := Lib.hid (hv5 ▸ s5.next (kp_new _ _))
  have HA5 := Lib.hid (keepO HB4.out q5)
  have HB5 : Hid (v5.heap[b5]? = some (tkO ⟨2, 5⟩)) := Lib.hid (by rw [← hb5, ← hv5]; exact heap_alloc_new w5 _)
  have HT := Lib.hid (HS5.out.epoch HC.out HV1.out)
  clear HVE HBE
  have HVE := Lib.hid hv5
  have HBE := Lib.hid hb5
  unfold tkO at HVE
  clear s5 k5 q5 HS4 HB4 hb5 hv5
  go_wp2_with fail
  rw [HVE.out, HBE.out]
  refine HT.out.mono ?_
  rintro e w6 ⟨rfl, s6, k6⟩
  have HT := Lib.hid (s6.primary HC.out HV1.out)
  have HS6 := Lib.hid s6
  have HA6 := Lib.hid (keepO HA5.out k6)
  have HB6 := Lib.hid (keepO HB5.out k6)
  clear s6 k6 HS5 HA5 HB5 HVE HBE
  go_wp2_with fail
  refine HT.out.mono ?_
  rintro e w7 ⟨rfl, s7, k7⟩
  have ha := keepO HA6.out k7
  have hb := keepO HB6.out k7
  unfold tkO at ha hb
  obtain ⟨x0, _⟩ := cellsAt ha 0 (v := .int .u64 2) rfl
  obtain ⟨x1, _⟩ := cellsAt ha 1 (v := .int .u64 5) rfl
  obtain ⟨y0, _⟩ := cellsAt hb 0 (v := .int .u64 2) rfl
  obtain ⟨y1, _⟩ := cellsAt hb 1 (v := .int .u64 5) rfl
  have HT := Lib.hid (s7.covers HC.out HV1.out (by decide) ⟨1, 5⟩ 2 5 (HU.out _ (by decide) (by decide)) (HU.out _ (by decide) (by decide)) (HU.out _ (by decide) (by decide)) (HU.out _ (by decide) (by decide)))
  rw [g1] at HT
  unfold Tk14.v at HT
  clear HS6 HA6 HB6 ha hb s7 k7
  go_wp2_with fail
  refine HT.out.mono ?_
  rintro e w8 ⟨rfl, s8, _⟩
  have HT := Lib.hid (s8.covers HC.out HV1.out (by decide) ⟨1, 5⟩ 2 4 (HU.out _ (by decide) (by decide)) (HU.out _ (by decide) (by decide)) (HU.out _ (by decide) (by decide)) (HU.out _ (by decide) (by decide)))
  rw [g2] at HT
  unfold Tk14.v at HT
  clear x0 x1 y0 y1 s8
  go_wp2_with fail
  refine HT.out.mono ?_
  rintro e w9 ⟨rfl, s9, _⟩
  have HT := Lib.hid (HC.out.later ⟨1, 9⟩ ⟨2, 0⟩ w9 (HU.out _ (by decide) (by decide)) (HU.out _ (by decide) (by decide)) (HU.out _ (by decide) (by decide)) (HU.out _ (by decide) (by decide)))
  rw [g3] at HT
  unfold Tk14.v at HT
  have HS9 := Lib.hid s9
  clear s9
  go_wp2_with fail
  refine HT.out.mono ?_
  rintro e wa ⟨rfl, ka⟩
  have HSA := Lib.hid (HS9.out.next ka)
  clear ka HS9 HT
  go_wp2_with fail
  go_ret
  exact ⟨rfl, HSA.out.low⟩
end Go.Proofs.Ytpmkaceeomnijaa
