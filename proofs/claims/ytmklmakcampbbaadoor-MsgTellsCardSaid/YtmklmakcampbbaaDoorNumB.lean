/-
  What Put, Take, PutText and TakeText of package num do: contracts.
-/
import Derived.Test.YtmklmakcampbbaaDoorNumA
import Derived.Deep.RegionWith
import Derived.RegionTactic
namespace Go.Proofs.YtmklmakcampbbaaDoor
open Go.RowKit
set_option maxRecDepth 100000

theorem isSize_yes (size : Int) (w : World) (h1 : 1 ≤ size) (h2 : size ≤ 8) :
    Calls Tryd.prog 53 #[.int .i64 size] w fun e w' => e = .returned (.bool true) ∧ w = w' := by
  go_enter Tryd.func53, Tryd.ntmps53
  go_wp2
  go_ret
  exact ⟨rfl, rfl⟩
theorem isSize_no (size : Int) (w : World) (h : size < 1 ∨ 8 < size) :
    Calls Tryd.prog 53 #[.int .i64 size] w fun e w' => e = .returned (.bool false) ∧ w = w' := by
  by_cases h1 : 1 ≤ size
  · have h2 : decide (size ≤ 8) = false := by simp; omega
    go_enter Tryd.func53, Tryd.ntmps53
    go_wp2
    go_ret
    exact ⟨rfl, rfl⟩
  · go_enter Tryd.func53, Tryd.ntmps53
    go_wp2
    go_ret
    exact ⟨rfl, rfl⟩

theorem shift_zero (n size : Nat) : ((n : Int) / 2 ^ (8 * size) == 0) = decide (n < 256 ^ size) := by
  have e : (2 : Nat) ^ (8 * size) = 256 ^ size := by rw [Nat.pow_mul]
  have e2 : ((n : Int) / 2 ^ (8 * size)) = ((n / 256 ^ size : Nat) : Int) := by rw [← e]; simp
  have hp : 0 < 256 ^ size := Nat.pow_pos (by decide)
  rw [e2, Bool.eq_iff_iff]
  simp only [beq_iff_eq, decide_eq_true_eq, Int.natCast_eq_zero, Nat.div_eq_zero_iff]
  omega
theorem fits_any (size n : Nat) (w : World) (h1 : 1 ≤ size) (h2 : size ≤ 8) (b : Bool) (hb : Hid (decide (n < 256 ^ size) = b)) :
    Calls Tryd.prog 54 #[.int .u64 n, .int .i64 size] w fun e w' => e = .returned (.bool b) ∧ w = w' := by
  go_enter Tryd.func54, Tryd.ntmps54
  go_wp2
  go_ret
  exact ⟨by rw [← hb.out, ← shift_zero]; rfl, rfl⟩

set_option maxHeartbeats 400000 in
theorem put_ok (A : Option Addr) (bs : List UInt8) (l c size n : Nat) (w : World) (hr : Sl w w.heap.size A l c bs) (hl : l ≤ 900000) (h1 : 1 ≤ size) (h8 : size ≤ 8) (hn : Hid (decide (n < 256 ^ size) = true)) (m : Nat) (hm : l + size = m) :
    Calls Tryd.prog 42 #[.slice A l c, .int .i64 size, .int .u64 n] w fun e w' => ∃ A' c', e = .returned (.tuple #[.slice A' m c', .int .i64 0]) ∧ Ow w' w.heap.size A' m c' (bs ++ be size n) ∧ Below w.heap.size w w' := by
  subst hm
  go_enter Tryd.func42, Tryd.ntmps42
  go_wp2_with (first
    | (go_at_call 53; refine (isSize_yes _ _ (by omega) (by omega)).mono ?_; rintro e w' ⟨rfl, rfl⟩)
    | (go_at_call 54; refine (fits_any _ _ _ h1 h8 true hn).mono ?_; rintro e w' ⟨rfl, rfl⟩)
    | (go_at_call 56; refine (own_any _ bs _ _ size _ hr (by omega) (by omega)).mono ?_; rintro e w1 ⟨A1, c1, rfl, hown1, hb1⟩)
    | (go_at_call 55; refine (lay_any _ _ _ w.heap.size size n bs _ hown1 hb1.size h8 (by omega)).mono ?_; rintro e w2 ⟨A2, c2, rfl, hown2, hb2⟩))
  go_ret2
  exact ⟨A2, c2, rfl, hown2, hb1.trans hb2⟩

set_option maxHeartbeats 400000 in
theorem put_no (A : Option Addr) (l c : Nat) (size : Int) (n : Nat) (w : World) (h : (size < 1 ∨ 8 < size) ∨ ((1 ≤ size ∧ size ≤ 8) ∧ ¬ n < 256 ^ size.toNat)) :
    Calls Tryd.prog 42 #[.slice A l c, .int .i64 size, .int .u64 n] w fun e w' => e = .returned (.tuple #[.slice none 0 0, .int .i64 1]) ∧ w = w' := by
  rcases h with h | ⟨⟨h1, h8⟩, hn⟩
  · have H := Lib.hid h
    clear h
    go_enter Tryd.func42, Tryd.ntmps42
    go_wp2_with (go_at_call 53; refine (isSize_no _ _ H.out).mono ?_; rintro e w' ⟨rfl, rfl⟩)
    go_ret2
    exact ⟨rfl, rfl⟩
  · obtain ⟨s, rfl⟩ := Int.eq_ofNat_of_zero_le (by omega : 0 ≤ size)
    rw [Int.toNat_natCast] at hn
    have hb : decide (n < 256 ^ s) = false := decide_eq_false hn
    have HB := Lib.hid hb
    clear hb hn
    go_enter Tryd.func42, Tryd.ntmps42
    go_wp2_with (first
      | (go_at_call 53; refine (isSize_yes _ _ (by omega) (by omega)).mono ?_; rintro e w' ⟨rfl, rfl⟩)
      | (go_at_call 54; refine (fits_any _ _ _ (by omega) (by omega) false HB).mono ?_; rintro e w' ⟨rfl, rfl⟩))
    go_ret2
    exact ⟨rfl, rfl⟩

/-- a size and a number: Put takes them, or it doesn't -/
theorem put_split (size : Int) (n : Nat) : (∃ k : Nat, size = k ∧ 1 ≤ k ∧ k ≤ 8 ∧ Hid (decide (n < 256 ^ k) = true)) ∨ ((size < 1 ∨ 8 < size) ∨ ((1 ≤ size ∧ size ≤ 8) ∧ ¬ n < 256 ^ size.toNat)) := by
  by_cases h : 1 ≤ size ∧ size ≤ 8
  · by_cases hn : n < 256 ^ size.toNat
    · exact .inl ⟨size.toNat, by omega, by omega, by omega, Lib.hid (decide_eq_true hn)⟩
    · exact .inr (.inr ⟨h, hn⟩)
  · exact .inr (.inl (by omega))

theorem take_split (size : Int) (l : Nat) : (∃ k : Nat, size = k ∧ 1 ≤ k ∧ k ≤ 8 ∧ k ≤ l) ∨ (∃ k : Nat, size = k ∧ 1 ≤ k ∧ k ≤ 8 ∧ l < k) ∨ (size < 1 ∨ 8 < size) := by
  by_cases h : 1 ≤ size ∧ size ≤ 8
  · by_cases hn : size.toNat ≤ l
    · exact .inl ⟨size.toNat, by omega, by omega, by omega, hn⟩
    · exact .inr (.inl ⟨size.toNat, by omega, by omega, by omega, by omega⟩)
  · exact .inr (.inr (by omega))

set_option maxHeartbeats 400000 in
theorem take_new (A : Option Addr) (bs : List UInt8) (l c size : Nat) (w : World) (hr : Sl w w.heap.size A l c bs) (hl : l ≤ 900000) (h1 : 1 ≤ size) (h8 : size ≤ 8) (hs : size ≤ l) (n : Nat) (hn : Hid (val (bs.take size) = n)) :
    Calls Tryd.prog 46 #[.slice A l c, .int .i64 size] w fun e w' => ∃ A' l', e = .returned (.tuple #[.int .u64 n, .slice A' l' l', .int .i64 0]) ∧ Sl w' w'.heap.size A' l' l' (bs.drop size) ∧ Fresh w.heap.size A' ∧ Below w.heap.size w w' := by
  go_enter Tryd.func46, Tryd.ntmps46
  go_wp2_with (first
    | (go_at_call 53; refine (isSize_yes _ _ (by omega) (by omega)).mono ?_; rintro e w' ⟨rfl, rfl⟩)
    | (go_at_call 57; refine (first_any _ bs _ _ _ size _ hr h8 hs (by omega)).mono ?_; rintro e w' ⟨rfl, rfl⟩; rw [hn.out])
    | (go_at_call 58; refine (behind_new _ bs _ _ size _ hr hs (by omega)).mono ?_; rintro e w1 ⟨A1, l1, rfl, hr1, hf1, hb1⟩))
  go_ret3
  exact ⟨A1, l1, rfl, hr1, hf1, hb1⟩

theorem take_ok (A : Option Addr) (bs : List UInt8) (l c size : Nat) (w : World) (hr : Sl w w.heap.size A l c bs) (hl : l ≤ 900000) (h1 : 1 ≤ size) (h8 : size ≤ 8) (hs : size ≤ l) (n : Nat) (hn : Hid (val (bs.take size) = n)) :
    Calls Tryd.prog 46 #[.slice A l c, .int .i64 size] w fun e w' => ∃ A' l', e = .returned (.tuple #[.int .u64 n, .slice A' l' l', .int .i64 0]) ∧ Sl w' w'.heap.size A' l' l' (bs.drop size) ∧ Below w.heap.size w w' :=
  (take_new A bs l c size w hr hl h1 h8 hs n hn).mono fun _ _ ⟨A1, l1, he, h1, _, h2⟩ => ⟨A1, l1, he, h1, h2⟩

set_option maxHeartbeats 400000 in
theorem take_arg (A : Option Addr) (l c : Nat) (size : Int) (w : World) (h : size < 1 ∨ 8 < size) :
    Calls Tryd.prog 46 #[.slice A l c, .int .i64 size] w fun e w' => e = .returned (.tuple #[.int .u64 0, .slice none 0 0, .int .i64 1]) ∧ w = w' := by
  have H := Lib.hid h
  clear h
  go_enter Tryd.func46, Tryd.ntmps46
  go_wp2_with (go_at_call 53; refine (isSize_no _ _ H.out).mono ?_; rintro e w' ⟨rfl, rfl⟩)
  go_ret3
  exact ⟨rfl, rfl⟩

set_option maxHeartbeats 400000 in
theorem take_short (A : Option Addr) (l c size : Nat) (w : World) (h1 : 1 ≤ size) (h8 : size ≤ 8) (hs : l < size) :
    Calls Tryd.prog 46 #[.slice A l c, .int .i64 size] w fun e w' => e = .returned (.tuple #[.int .u64 0, .slice none 0 0, .int .i64 3]) ∧ w = w' := by
  go_enter Tryd.func46, Tryd.ntmps46
  go_wp2_with (go_at_call 53; refine (isSize_yes _ _ (by omega) (by omega)).mono ?_; rintro e w' ⟨rfl, rfl⟩)
  go_ret3
  exact ⟨rfl, rfl⟩
end Go.Proofs.YtmklmakcampbbaaDoor
