/-
  Layer 12: what the laws ask of the project's health, as one statement (to be proved of the landed code); what the law says may be.
-/
import Derived.Test.YtbhgoeofcapckaaHeR
namespace Go.Proofs.Ytbhgoeofcapckaa
open Go.RowKit
set_option maxRecDepth 100000

structure HealthC : Prop where
  right : ∀ (c : HCf) (w : World), Calls Try.prog 7 #[c.v] w fun e w' => e = .returned (.bool (rightHe c)) ∧ Below w.heap.size w w'
  serves : ∀ (s : HSt) (w : World), Calls Try.prog 9 #[s.v] w fun e w' => e = .returned (.bool (s.i == 1)) ∧ Below w.heap.size w w'
  off : ∀ (s : HSt) (w : World), Calls Try.prog 10 #[s.v] w fun e w' => e = .returned (HSt.v ⟨4, 0⟩) ∧ Below w.heap.size w w'
  on : ∀ (s : HSt) (w : World), Calls Try.prog 11 #[s.v] w fun e w' => e = .returned (onHe s).v ∧ Below w.heap.size w w'
  step : ∀ (c : HCf) (s : HSt) (p : HPr) (w : World), rightHe c = true → 0 ≤ s.c → s.c ≤ 1000 → Calls Try.prog 14 #[c.v, s.v, p.v] w fun e w' => e = .returned (stepHe c s p).v ∧ Below w.heap.size w w'
structure HealthK : Prop extends HealthC where
  aw : ∀ W : World, Calls Try.prog 6 #[] W fun e w' => e = .returned (.bool true) ∧ Below W.heap.size W w'

set_option maxHeartbeats 4000000 in
theorem lright_ok (c : HCf) (s : HSt) (w : World) :
    Calls Try.prog 13 #[c.v, s.v] w fun e w' => e = .returned (.bool (rightHe c && decide (0 ≤ s.c ∧ s.c ≤ 1000))) ∧ Below w.heap.size w w' := by
  obtain ⟨i, n⟩ := s
  obtain ⟨w2, hw2⟩ : ∃ u, (w.alloc (.cells #[.int .i64 c.f, .int .i64 c.p, .int .u64 c.l] 24)).alloc (.cells #[.int .i64 i, .int .i64 n] 26) = u := ⟨_, rfl⟩
  have k2 : Below w.heap.size w w2 := hw2 ▸ kp_alloc (kp_new _ _) _
  have b2 : w2.heap[w.heap.size + 1]? = some (.cells #[.int .i64 i, .int .i64 n] 26 (0, 0)) := by
    rw [← hw2]
    have := heap_alloc_new (w.alloc (.cells #[.int .i64 c.f, .int .i64 c.p, .int .u64 c.l] 24)) (.cells #[.int .i64 i, .int .i64 n] 26)
    rwa [World.size_alloc] at this
  have HR := Lib.hid (rrighthe_ok c w2)
  have HW := Lib.hid hw2
  have HK := Lib.hid k2
  have hz2 : w.heap.size + 2 = w2.heap.size := by rw [← hw2]; simp
  generalize rightHe c = bo at *
  obtain ⟨f, q, l⟩ := c
  unfold HCf.v at *
  unfold HSt.v
  dsimp only at *
  clear hw2 k2
  go_enter Try.func13, Try.ntmps13
  go_wp2_with fail
  rw [HW.out]
  refine HR.out.mono ?_
  rintro e w3 ⟨rfl, k3⟩
  have HK3 := Lib.hid (HK.out.trans (k3.mono HK.out.size))
  obtain ⟨_, _⟩ := cellsAt ((k3.block _ (by omega)).trans b2) 0 (v := .int .i64 i) rfl
  obtain ⟨m1, z1⟩ := cellsAt ((k3.block _ (by omega)).trans b2) 1 (v := .int .i64 n) rfl
  clear HR HW HK b2 k3 hz2
  cases bo with
  | false =>
    go_wp2_with fail
    go_ret
    exact ⟨rfl, HK3.out⟩
  | true =>
    by_cases h0 : 0 ≤ n
    · go_wp2_with fail
      go_ret
      refine ⟨?_, HK3.out⟩
      simp [h0]
    · go_wp2_with fail
      go_ret
      refine ⟨?_, HK3.out⟩
      simp
      omega
end Go.Proofs.Ytbhgoeofcapckaa
