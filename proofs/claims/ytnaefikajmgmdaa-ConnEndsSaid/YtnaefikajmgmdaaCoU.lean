/-
  Layer 9: the calls whose answers the document fixes.
-/
import Derived.Test.YtnaefikajmgmdaaCoC
namespace Go.Proofs.Ytnaefikajmgmdaa
open Go.RowKit
set_option maxRecDepth 100000

set_option maxHeartbeats 4000000 in
theorem awake9_ok (w : World) :
    Calls Try.prog 6 #[] w fun e w' => e = .returned (.bool true) ∧ Below w.heap.size w w' := by
  have HN := Lib.hid (cnew_ok 1 w)
  have hwr : IntKind.i64.wrap (0 + 1) = 1 := by decide
  go_enter Try.func6, Try.ntmps6
  go_wp2_with fail
  refine HN.out.mono ?_
  rintro e w1 ⟨rfl, p1, k1⟩
  have S1 : Hid (Solo w (CC w.heap.size 1 (.idle false 0)) noneB w1) := Lib.hid (Solo.make (Below.refl _ _) p1 (fun k h => by omega) k1)
  clear p1 k1 HN
  obtain ⟨b, hb⟩ : ∃ b, b = w.heap.size := ⟨_, rfl⟩
  rw [← hb] at S1
  rw [← hb]
  clear hb
  have P1 : Hid (Calls Try.prog 18 #[.pointer (some ⟨b, 0, none⟩), .int .i64 3] w1 fun e w' => e = .returned (.bool true) ∧ Solo w (CC b 1 (.lent 3 0 false 0)) noneB w' ∧ ∀ k, noneB k → w'.heap[k]? = w1.heap[k]?) := Lib.hid (S1.out.op fun S h => clend_ok 3 h)
  go_wp2_with fail
  refine P1.out.mono ?_
  rintro e w2 ⟨rfl, s2, _⟩
  have P2 : Hid (Calls Try.prog 18 #[.pointer (some ⟨b, 0, none⟩), .int .i64 4] w2 fun e w' => e = .returned (.bool false) ∧ Solo w (CC b 1 (.lent 3 0 false 0)) noneB w' ∧ ∀ k, noneB k → w'.heap[k]? = w2.heap[k]?) := Lib.hid (s2.op fun S h => clend_ok 4 h)
  clear s2
  go_wp2_with fail
  refine P2.out.mono ?_
  rintro e w3 ⟨rfl, s3, _⟩
  have P3 : Hid (Calls Try.prog 19 #[.pointer (some ⟨b, 0, none⟩), .int .u64 7] w3 fun e w' => e = .returned (.int .i64 0) ∧ Solo w (CC b 1 (.lent 3 7 false 1)) noneB w' ∧ ∀ k, noneB k → w'.heap[k]? = w3.heap[k]?) := Lib.hid (s3.op fun S h => csend_ok 7 h)
  clear s3
  go_wp2_with fail
  refine P3.out.mono ?_
  rintro e w4 ⟨rfl, s4, _⟩
  have P4 : Hid (Calls Try.prog 19 #[.pointer (some ⟨b, 0, none⟩), .int .u64 8] w4 fun e w' => e = .returned (.int .i64 7) ∧ Solo w (CC b 1 (.lent 3 7 false 1)) noneB w' ∧ ∀ k, noneB k → w'.heap[k]? = w4.heap[k]?) := Lib.hid (s4.op fun S h => csend_ok 8 h)
  clear s4
  go_wp2_with fail
  refine P4.out.mono ?_
  rintro e w5 ⟨rfl, s5, _⟩
  obtain ⟨S5, p5, _⟩ := s5.at_
  have P5 := Lib.hid (cowner_ok p5)
  have P6 := Lib.hid (cflight_ok p5)
  have P7 : Hid (Calls Try.prog 17 #[.pointer (some ⟨b, 0, none⟩)] w5 fun e w' => e = .returned (.tuple #[]) ∧ Solo w (CC b 1 (.drains 3 7 false 1)) noneB w' ∧ ∀ k, noneB k → w'.heap[k]? = w5.heap[k]?) := Lib.hid (s5.op fun S h => cdrain_ok h)
  clear s5 p5
  go_wp2_with fail
  refine P5.out.mono ?_
  rintro e w6 ⟨rfl, rfl⟩
  dsimp only [Cn.o]
  go_wp2_with fail
  refine P6.out.mono ?_
  rintro e w6 ⟨rfl, rfl⟩
  dsimp only [Cn.f]
  go_wp2_with fail
  refine P7.out.mono ?_
  rintro e w6 ⟨rfl, s6, _⟩
  obtain ⟨S6, p6, _⟩ := s6.at_
  have P8 := Lib.hid (cstate_ok p6)
  have P9 : Hid (Calls Try.prog 20 #[.pointer (some ⟨b, 0, none⟩), .int .u64 7] w6 fun e w' => e = .returned (.bool true) ∧ Solo w (CC b 1 (.closed false 1)) noneB w' ∧ ∀ k, noneB k → w'.heap[k]? = w6.heap[k]?) := Lib.hid (s6.op fun S h => creply_ok 7 h)
  clear s6 p6
  go_wp2_with fail
  refine P8.out.mono ?_
  rintro e w7 ⟨rfl, rfl⟩
  dsimp only [Cn.s]
  go_wp2_with fail
  refine P9.out.mono ?_
  rintro e w7 ⟨rfl, s7, _⟩
  obtain ⟨S7, p7, _⟩ := s7.at_
  have PA := Lib.hid (cstate_ok p7)
  have PB := Lib.hid (cepoch_ok p7)
  have PC := Lib.hid (csent_ok p7)
  have PD := Lib.hid (cowner_ok p7)
  have HB := Lib.hid s7.low
  clear s7 p7
  go_wp2_with fail
  refine PA.out.mono ?_
  rintro e w8 ⟨rfl, rfl⟩
  dsimp only [Cn.s]
  go_wp2_with fail
  refine PB.out.mono ?_
  rintro e w8 ⟨rfl, rfl⟩
  go_wp2_with fail
  refine PC.out.mono ?_
  rintro e w8 ⟨rfl, rfl⟩
  dsimp only [Cn.n]
  go_wp2_with fail
  refine PD.out.mono ?_
  rintro e w8 ⟨rfl, rfl⟩
  dsimp only [Cn.o]
  go_wp2_with fail
  go_ret
  exact ⟨rfl, HB.out⟩
end Go.Proofs.Ytnaefikajmgmdaa
