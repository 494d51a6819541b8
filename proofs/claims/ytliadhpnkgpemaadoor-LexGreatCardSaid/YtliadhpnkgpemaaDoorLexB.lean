/-
  How many bytes at the beginning of a text are such: contracts.
-/
import Derived.Test.YtliadhpnkgpemaaDoorLexA
namespace Go.Proofs.YtliadhpnkgpemaaDoor
open Go.RowKit
set_option maxRecDepth 100000

set_option maxHeartbeats 400000 in
theorem run_lod_same (s : ByteArray) (w : World) (hs : s.size ≤ 1000000) : Calls Tryd.prog 38 #[.string s, .func (.func 61) #[] #[]] w fun e w' => e = .returned (.int .i64 (runF lodF s.data.toList : Int)) ∧ w' = w := by
  have hall : ∀ k, k ≤ s.size → (∀ j (h : j < s.data.toList.length), j < k → lodF s.data.toList[j] = true) → runF lodF s.data.toList = k + runF lodF (s.data.toList.drop k) := fun k hk h => runF_drop _ _ k h (by rw [text_len]; exact hk)
  generalize hR : runF lodF s.data.toList = R at *
  have HA := Lib.hid hall
  clear hall hR
  go_enter Tryd.func38, Tryd.ntmps38
  go_wp2
  go_loopw [5] (fun n wr => ∃ k : Nat, k ≤ s.size ∧ n = .int .i64 k ∧ Hid (∀ j (h : j < s.data.toList.length), j < k → lodF s.data.toList[j] = true) ∧ wr = w) (fun n _ => s.size - (intOf n).toNat)
  case atStart => exact ⟨0, Nat.zero_le _, rfl, Lib.hid (fun j _ h => by omega), rfl⟩
  case round =>
    obtain ⟨k, hk, rfl, hin, rfl⟩ := hrel
    by_cases hlt : k < s.size
    · have hb := text_at s k hlt
      have hd : s.data.toList.drop k = s.data.toList[k]'(by rw [text_len]; exact hlt) :: s.data.toList.drop (k + 1) := List.drop_eq_getElem_cons _
      generalize hc : s.data.toList[k]'(by rw [text_len]; exact hlt) = c at hb hd
      have hp := isLetterOrDigit_ok c
      have HD := Lib.hid hd
      have HC := Lib.hid hc
      clear hd hc
      cases hpc : lodF c
      · rw [hpc] at hp
        have HP := Lib.hid hp
        clear hp
        have hR : R = k := by rw [HA.out k hk hin.out, HD.out, runF_none hpc]; rfl
        subst hR
        clear hpc
        go_wp2_with fail
        refine (HP.out _).mono ?_
        rintro e w' ⟨rfl, rfl⟩
        go_wp2_with fail
        go_ret
        exact ⟨rfl, rfl⟩
      · rw [hpc] at hp
        have HP := Lib.hid hp
        have hin2 : Hid (∀ j (h : j < s.data.toList.length), j < k + 1 → lodF s.data.toList[j] = true) := Lib.hid (fun j h hj => by
          rcases Nat.lt_or_ge j k with h1 | h1
          · exact hin.out j h h1
          · obtain rfl : j = k := by omega
            rw [HC.out]; exact hpc)
        clear hp hpc
        go_wp2_with fail
        refine (HP.out _).mono ?_
        rintro e w' ⟨rfl, rfl⟩
        go_wp2_with fail
        go_roundw
        case rel => exact ⟨k + 1, by omega, by go_num, hin2, trivial⟩
        case measure => simp [intOf]; omega
    · have hk' : k = s.size := by omega
      have hR : R = k := by rw [HA.out k hk hin.out, List.drop_eq_nil_of_le (by rw [text_len]; omega)]; rfl
      subst hR
      go_wp2_with fail
      go_ret
      exact ⟨rfl, rfl⟩

set_option maxHeartbeats 400000 in
theorem run_digit_same (s : ByteArray) (w : World) (hs : s.size ≤ 1000000) : Calls Tryd.prog 38 #[.string s, .func (.func 39) #[] #[]] w fun e w' => e = .returned (.int .i64 (runF digitF s.data.toList : Int)) ∧ w' = w := by
  have hall : ∀ k, k ≤ s.size → (∀ j (h : j < s.data.toList.length), j < k → digitF s.data.toList[j] = true) → runF digitF s.data.toList = k + runF digitF (s.data.toList.drop k) := fun k hk h => runF_drop _ _ k h (by rw [text_len]; exact hk)
  generalize hR : runF digitF s.data.toList = R at *
  have HA := Lib.hid hall
  clear hall hR
  go_enter Tryd.func38, Tryd.ntmps38
  go_wp2
  go_loopw [5] (fun n wr => ∃ k : Nat, k ≤ s.size ∧ n = .int .i64 k ∧ Hid (∀ j (h : j < s.data.toList.length), j < k → digitF s.data.toList[j] = true) ∧ wr = w) (fun n _ => s.size - (intOf n).toNat)
  case atStart => exact ⟨0, Nat.zero_le _, rfl, Lib.hid (fun j _ h => by omega), rfl⟩
  case round =>
    obtain ⟨k, hk, rfl, hin, rfl⟩ := hrel
    by_cases hlt : k < s.size
    · have hb := text_at s k hlt
      have hd : s.data.toList.drop k = s.data.toList[k]'(by rw [text_len]; exact hlt) :: s.data.toList.drop (k + 1) := List.drop_eq_getElem_cons _
      generalize hc : s.data.toList[k]'(by rw [text_len]; exact hlt) = c at hb hd
      have hp := isDigit_ok c
      have HD := Lib.hid hd
      have HC := Lib.hid hc
      clear hd hc
      cases hpc : digitF c
      · rw [hpc] at hp
        have HP := Lib.hid hp
        clear hp
        have hR : R = k := by rw [HA.out k hk hin.out, HD.out, runF_none hpc]; rfl
        subst hR
        clear hpc
        go_wp2_with fail
        refine (HP.out _).mono ?_
        rintro e w' ⟨rfl, rfl⟩
        go_wp2_with fail
        go_ret
        exact ⟨rfl, rfl⟩
      · rw [hpc] at hp
        have HP := Lib.hid hp
        have hin2 : Hid (∀ j (h : j < s.data.toList.length), j < k + 1 → digitF s.data.toList[j] = true) := Lib.hid (fun j h hj => by
          rcases Nat.lt_or_ge j k with h1 | h1
          · exact hin.out j h h1
          · obtain rfl : j = k := by omega
            rw [HC.out]; exact hpc)
        clear hp hpc
        go_wp2_with fail
        refine (HP.out _).mono ?_
        rintro e w' ⟨rfl, rfl⟩
        go_wp2_with fail
        go_roundw
        case rel => exact ⟨k + 1, by omega, by go_num, hin2, trivial⟩
        case measure => simp [intOf]; omega
    · have hk' : k = s.size := by omega
      have hR : R = k := by rw [HA.out k hk hin.out, List.drop_eq_nil_of_le (by rw [text_len]; omega)]; rfl
      subst hR
      go_wp2_with fail
      go_ret
      exact ⟨rfl, rfl⟩

theorem run_lod (s : ByteArray) (w : World) (hs : s.size ≤ 1000000) : Calls Tryd.prog 38 #[.string s, .func (.func 61) #[] #[]] w fun e w' => e = .returned (.int .i64 (runF lodF s.data.toList : Int)) ∧ Below w.heap.size w w' :=
  (run_lod_same s w hs).mono fun _ _ ⟨he, hw⟩ => ⟨he, hw ▸ Below.refl _ _⟩
theorem run_digit (s : ByteArray) (w : World) (hs : s.size ≤ 1000000) : Calls Tryd.prog 38 #[.string s, .func (.func 39) #[] #[]] w fun e w' => e = .returned (.int .i64 (runF digitF s.data.toList : Int)) ∧ Below w.heap.size w w' :=
  (run_digit_same s w hs).mono fun _ _ ⟨he, hw⟩ => ⟨he, hw ▸ Below.refl _ _⟩
end Go.Proofs.YtliadhpnkgpemaaDoor
