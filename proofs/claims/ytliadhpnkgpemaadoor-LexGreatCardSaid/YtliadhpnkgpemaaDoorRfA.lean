/-
  The document's layer 4: bytes, and where a text stands in another one: contracts.
-/
import Derived.Test.YtliadhpnkgpemaaDoorTok
namespace Go.Proofs.YtliadhpnkgpemaaDoor
open Go.RowKit
set_option maxRecDepth 100000

theorem rblank_ok (c : UInt8) (w : World) : Calls Tryd.prog 65 #[.int .u8 (c.toNat : Int)] w fun e w' => e = .returned (.bool (blankF c)) ∧ w = w' := by
  have hF : blankF c = (decide (c.toNat = 32) || decide (c.toNat = 9) || decide (c.toNat = 10) || decide (c.toNat = 13)) := by
    have := by_all (fun c => blankF c == (decide (c.toNat = 32) || decide (c.toNat = 9) || decide (c.toNat = 10) || decide (c.toNat = 13))) (by decide +kernel) c
    simpa using this
  have HF := Lib.hid hF
  clear hF
  go_enter Tryd.func65, Tryd.ntmps65
  go_wp2
  all_goals
    go_ret
    refine ⟨ret_bool ?_, rfl⟩
    rw [HF.out, Bool.eq_iff_iff]
    simp
    try omega

theorem rdigit_ok (c : UInt8) (w : World) : Calls Tryd.prog 68 #[.int .u8 (c.toNat : Int)] w fun e w' => e = .returned (.bool (digitF c)) ∧ w = w' := by
  have hF : digitF c = (decide (48 ≤ c.toNat) && decide (c.toNat ≤ 57)) := rfl
  have HF := Lib.hid hF
  clear hF
  go_enter Tryd.func68, Tryd.ntmps68
  go_wp2
  all_goals
    go_ret
    refine ⟨ret_bool ?_, rfl⟩
    rw [HF.out, Bool.eq_iff_iff]
    simp
    try omega

theorem rletter_ok (c : UInt8) (w : World) : Calls Tryd.prog 67 #[.int .u8 (c.toNat : Int)] w fun e w' => e = .returned (.bool (letterF c)) ∧ w = w' := by
  have hF : letterF c = (decide (65 ≤ c.toNat) && decide (c.toNat ≤ 90) || decide (97 ≤ c.toNat) && decide (c.toNat ≤ 122) || decide (c.toNat = 95)) := rfl
  have HF := Lib.hid hF
  clear hF
  go_enter Tryd.func67, Tryd.ntmps67
  go_wp2
  all_goals
    go_ret
    refine ⟨ret_bool ?_, rfl⟩
    rw [HF.out, Bool.eq_iff_iff]
    simp
    try omega

theorem occ_cut (s t : ByteArray) (i : Nat) (h : i + t.size ≤ s.size) : ((s.extract i (i + t.size)).toList == t.toList) = Lib.occAt s.data.toList t.data.toList i := by
  rw [toList_dataR, toList_dataR, text_cut, Lib.occAt_iff_take _ _ _ (by rw [text_len, text_len]; exact h), text_len, Nat.add_sub_cancel_left]
where
  toList_dataR (s : ByteArray) : s.toList = s.data.toList := ByteArray.toList_eq s
theorem occ_none {l t : List UInt8} {i : Nat} (h : l.length < i + t.length) (ht : t ≠ []) : Lib.occAt l t i = false := by
  cases hb : Lib.occAt l t i with
  | false => rfl
  | true =>
    rcases Lib.occAt_room hb with h2 | h2
    · omega
    · exact absurd h2 ht

set_option maxHeartbeats 400000 in
theorem rat_ok (s t : ByteArray) (i : Nat) (w : World) (hi : i ≤ s.size) (hs : s.size ≤ 1000000) (ht : 0 < t.size) (ht2 : t.size ≤ 1000) :
    Calls Tryd.prog 66 #[.string s, .string t, .int .i64 (i : Int)] w fun e w' => e = .returned (.bool (begF t.data.toList (s.data.toList.drop i))) ∧ w = w' := by
  have hF : begF t.data.toList (s.data.toList.drop i) = Lib.occAt s.data.toList t.data.toList i := rfl
  rw [hF]
  by_cases h : i + t.size ≤ s.size
  · have he := occ_cut s t i h
    generalize Lib.occAt s.data.toList t.data.toList i = b at he
    have h2 : ((i : Int) + (t.size : Int)).toNat = i + t.size := by omega
    have HE := Lib.hid he
    clear he hF
    go_enter Tryd.func66, Tryd.ntmps66
    go_wp2_with fail
    go_ret
    exact ⟨ret_bool (by rw [← HE.out]), rfl⟩
  · have hn := occ_none (l := s.data.toList) (t := t.data.toList) (i := i) (by rw [text_len, text_len]; omega) (by intro e; have := congrArg List.length e; rw [text_len, List.length_nil] at this; omega)
    rw [hn]
    have hg : ¬ ((i : Int) + (t.size : Int) ≤ (s.size : Int)) := by omega
    clear hF hn h
    go_enter Tryd.func66, Tryd.ntmps66
    go_wp2_with fail
    go_ret
    exact ⟨rfl, rfl⟩

/-- where a text stands in another one, from a place on; below 0: nowhere -/
def findF (l t : List UInt8) (i : Nat) : Int := if Lib.index (l.drop i) t < 0 then -1 else (i : Int) + Lib.index (l.drop i) t

set_option maxHeartbeats 1000000 in
theorem rfind_ok (s t : ByteArray) (i : Nat) (w : World) (hi : i ≤ s.size) (hs : s.size ≤ 1000000) (ht : 0 < t.size) (ht2 : t.size ≤ 1000) :
    Calls Tryd.prog 42 #[.string s, .string t, .int .i64 (i : Int)] w fun e w' => e = .returned (.int .i64 (findF s.data.toList t.data.toList i)) ∧ w = w' := by
  have hne : t.data.toList ≠ [] := by intro e; have := congrArg List.length e; rw [text_len, List.length_nil] at this; omega
  have hocc : ∀ j, Lib.occAt (s.data.toList.drop i) t.data.toList j = Lib.occAt s.data.toList t.data.toList (i + j) := fun j => by unfold Lib.occAt; rw [List.drop_drop]
  have hhit : ∀ k, i ≤ k → k ≤ s.size → Lib.occAt s.data.toList t.data.toList k = true → (∀ j, i ≤ j → j < k → Lib.occAt s.data.toList t.data.toList j = false) → findF s.data.toList t.data.toList i = (k : Int) := fun k hk hks h1 h2 => by
    have := Lib.index_first (s := s.data.toList.drop i) (sub := t.data.toList) (i := k - i) (by rw [List.length_drop, text_len]; omega) (by rw [hocc, show i + (k - i) = k by omega]; exact h1) (fun j hj => by rw [hocc]; exact h2 _ (by omega) (by omega))
    unfold findF
    rw [this, if_neg (by omega)]
    omega
  have hmiss : (∀ j, i ≤ j → j + t.size ≤ s.size → Lib.occAt s.data.toList t.data.toList j = false) → findF s.data.toList t.data.toList i = -1 := fun h => by
    have := Lib.index_none (s := s.data.toList.drop i) (sub := t.data.toList) (fun j _ => by
      rw [hocc]
      rcases Nat.lt_or_ge s.size (i + j + t.size) with h1 | h1
      · exact occ_none (by rw [text_len, text_len]; omega) hne
      · exact h _ (by omega) h1)
    unfold findF
    rw [this, if_pos (by omega)]
  have hcut := fun k (h : k + t.size ≤ s.size) => occ_cut s t k h
  generalize findF s.data.toList t.data.toList i = R at hhit hmiss
  generalize Lib.occAt s.data.toList t.data.toList = oc at *
  have HH := Lib.hid hhit
  have HM := Lib.hid hmiss
  have HC := Lib.hid hcut
  clear hhit hmiss hcut hocc hne
  go_enter Tryd.func42, Tryd.ntmps42
  go_wp2
  go_loop [7] (fun v => ∃ k : Nat, v = .int .i64 k ∧ i ≤ k ∧ k ≤ s.size + 1 ∧ Hid (∀ j, i ≤ j → j < k → oc j = false)) (fun v => s.size + 1 - (intOf v).toNat)
  case atStart => exact ⟨i, rfl, Nat.le_refl _, by omega, Lib.hid (fun j h1 h2 => by omega)⟩
  case round =>
    obtain ⟨k, rfl, hk, hks, hno⟩ := hrel
    by_cases h : k + t.size ≤ s.size
    · have hc := HC.out k h
      have h2 : ((k : Int) + (t.size : Int)).toNat = k + t.size := by omega
      cases hb : oc k
      · rw [hb] at hc
        have hno2 : Hid (∀ j, i ≤ j → j < k + 1 → oc j = false) := Lib.hid (fun j h1 h3 => by
          rcases Nat.lt_or_ge j k with h4 | h4
          · exact hno.out j h1 h4
          · obtain rfl : j = k := by omega
            exact hb)
        clear hb
        go_wp2_with fail
        go_round
        case rel => exact ⟨k + 1, by go_num, by omega, by omega, hno2⟩
        case measure => simp [intOf]; omega
      · rw [hb] at hc
        have hR := HH.out k hk (by omega) hb hno.out
        subst hR
        clear hb
        go_wp2_with fail
        go_ret
        exact ⟨rfl, rfl⟩
    · have hR := HM.out (fun j h1 h3 => hno.out j h1 (by omega))
      subst hR
      have hg : ¬ ((k : Int) + (t.size : Int) ≤ (s.size : Int)) := by omega
      clear h
      go_wp2_with fail
      go_ret
      exact ⟨rfl, rfl⟩
end Go.Proofs.YtliadhpnkgpemaaDoor
