/-
  What the small functions of package lex do: contracts.
-/
import Derived.Test.YtliadhpnkgpemaaDoorLexS
namespace Go.Proofs.YtliadhpnkgpemaaDoor
open Go.RowKit
set_option maxRecDepth 100000

theorem by_all (p : UInt8 → Bool) (h : ∀ n : Fin 256, p (UInt8.ofNat n.val) = true) (c : UInt8) : p c = true := by
  have := h ⟨c.toNat, c.toNat_lt⟩
  simpa using this

theorem ret_bool {a b : Bool} (h : a = b) : Ending.returned (.bool a) = .returned (.bool b) := by rw [h]

theorem isBlank_ok (c : UInt8) (w : World) : Calls Tryd.prog 29 #[.int .u8 (c.toNat : Int)] w fun e w' => e = .returned (.bool (blankF c)) ∧ w = w' := by
  have hF : decide (0 ≤ Lib.indexByte [32, 9, 10, 13] c) = blankF c := by
    have := by_all (fun c => decide (0 ≤ Lib.indexByte [32, 9, 10, 13] c) == blankF c) (by decide +kernel) c
    simpa using this
  have HF := Lib.hid hF
  clear hF
  go_enter Tryd.func29, Tryd.ntmps29
  go_wp2_with (go_at_call 31; refine (indexByte_s _ c w).mono ?_; rintro e w' ⟨rfl, rfl⟩)
  go_ret
  refine ⟨?_, rfl⟩
  rw [← HF.out]
  rfl

theorem isDigit_ok (c : UInt8) (w : World) : Calls Tryd.prog 39 #[.int .u8 (c.toNat : Int)] w fun e w' => e = .returned (.bool (digitF c)) ∧ w = w' := by
  have hF : digitF c = (decide (48 ≤ c.toNat) && decide (c.toNat ≤ 57)) := rfl
  have HF := Lib.hid hF
  clear hF
  go_enter Tryd.func39, Tryd.ntmps39
  go_wp2
  all_goals
    go_ret
    refine ⟨ret_bool ?_, rfl⟩
    rw [HF.out, Bool.eq_iff_iff]
    simp
    try omega

theorem isLetter_ok (c : UInt8) (w : World) : Calls Tryd.prog 60 #[.int .u8 (c.toNat : Int)] w fun e w' => e = .returned (.bool (letterF c)) ∧ w = w' := by
  have hF : letterF c = (decide (65 ≤ c.toNat) && decide (c.toNat ≤ 90) || decide (97 ≤ c.toNat) && decide (c.toNat ≤ 122) || decide (c.toNat = 95)) := rfl
  have HF := Lib.hid hF
  clear hF
  go_enter Tryd.func60, Tryd.ntmps60
  go_wp2
  all_goals
    go_ret
    refine ⟨ret_bool ?_, rfl⟩
    rw [HF.out, Bool.eq_iff_iff]
    simp
    try omega

theorem isLetterOrDigit_ok (c : UInt8) (w : World) : Calls Tryd.prog 61 #[.int .u8 (c.toNat : Int)] w fun e w' => e = .returned (.bool (lodF c)) ∧ w = w' := by
  have hF : lodF c = (letterF c || digitF c) := rfl
  have HF := Lib.hid hF
  clear hF
  generalize hl : letterF c = a
  generalize hd : digitF c = b
  rw [hl, hd] at HF
  have H1 := isLetter_ok c w
  have H2 := isDigit_ok c w
  rw [hl] at H1
  rw [hd] at H2
  clear hl hd
  have H1 := Lib.hid H1
  have H2 := Lib.hid H2
  cases a <;> cases b
  all_goals
    go_enter Tryd.func61, Tryd.ntmps61
    go_wp2_with (first
      | (go_at_call 60; refine H1.out.mono ?_; rintro e w' ⟨rfl, rfl⟩)
      | (go_at_call 39; refine H2.out.mono ?_; rintro e w' ⟨rfl, rfl⟩))
    go_ret
    exact ⟨by rw [HF.out]; rfl, rfl⟩

theorem isSign_ok (c : UInt8) (w : World) : Calls Tryd.prog 41 #[.int .u8 (c.toNat : Int)] w fun e w' => e = .returned (.bool (signF c)) ∧ w = w' := by
  have hF : signF c = (!(decide (c.toNat ≤ 32) || decide (126 < c.toNat) || lodF c) && (decide (c.toNat ≠ 34) && decide (c.toNat ≠ 96) && decide (c.toNat ≠ 39) && decide (c.toNat ≠ 35))) := rfl
  generalize hl : lodF c = a
  rw [hl] at hF
  have HF := Lib.hid hF
  have H1 := isLetterOrDigit_ok c w
  rw [hl] at H1
  clear hl hF
  have H1 := Lib.hid H1
  cases a
  all_goals
    go_enter Tryd.func41, Tryd.ntmps41
    go_wp2_with (go_at_call 61; refine H1.out.mono ?_; rintro e w' ⟨rfl, rfl⟩)
  all_goals
    go_ret
    refine ⟨ret_bool ?_, rfl⟩
    rw [HF.out, Bool.eq_iff_iff]
    simp
    try omega
end Go.Proofs.YtliadhpnkgpemaaDoor
