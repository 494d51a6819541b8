/-
  What Put, Take, PutText and TakeText of package num do: contracts.
-/
import Derived.Test.YtifdfacekajdfaaNumA
import Derived.Deep.RegionWith
import Derived.RegionTactic
namespace Go.Proofs.Ytifdfacekajdfaa
open Go.RowKit

theorem isSize_yes (size : Int) (w : World) (h1 : 1 ≤ size) (h2 : size ≤ 8) :
    Calls Try.prog 18 #[.int .i64 size] w fun e w' => e = .returned (.bool true) ∧ w = w' := by
  go_enter Try.func18, Try.ntmps18
  go_wp2
  go_ret
  exact ⟨rfl, rfl⟩
theorem isSize_no (size : Int) (w : World) (h : size < 1 ∨ 8 < size) :
    Calls Try.prog 18 #[.int .i64 size] w fun e w' => e = .returned (.bool false) ∧ w = w' := by
  by_cases h1 : 1 ≤ size
  · have h2 : decide (size ≤ 8) = false := by simp; omega
    go_enter Try.func18, Try.ntmps18
    go_wp2
    go_ret
    exact ⟨rfl, rfl⟩
  · go_enter Try.func18, Try.ntmps18
    go_wp2
    go_ret
    exact ⟨rfl, rfl⟩

theorem shift_zero (n size : Nat) : ((n : Int) / 2 ^ (8 * size) == 0) = decide (n < 256 ^ size) := by
  have e : (2 : Nat) ^ (8 * size) = 256 ^ size := by rw [Nat.pow_mul]
  have e2 : ((n : Int) / 2 ^ (8 * size)) = ((n / 256 ^ size : Nat) : Int) := by rw [← e]; simp
  have hp : 0 < 256 ^ size := Nat.pow_pos (by decide)
  rw [e2, Bool.eq_iff_iff]
  simp only [beq_iff_eq, decide_eq_true_eq, Int.natCast_eq_zero, Nat.div_eq_zero_iff]
  omega
theorem fits_any (size n : Nat) (w : World) (h1 : 1 ≤ size) (h2 : size ≤ 8) (b : Bool) (hb : Hid (decide (n < 256 ^ size) = b)) :
    Calls Try.prog 19 #[.int .u64 n, .int .i64 size] w fun e w' => e = .returned (.bool b) ∧ w = w' := by
  go_enter Try.func19, Try.ntmps19
  go_wp2
  go_ret
  exact ⟨by rw [← hb.out, ← shift_zero]; rfl, rfl⟩

set_option maxHeartbeats 400000 in
theorem put_ok (A : Option Addr) (bs : List UInt8) (l c size n : Nat) (w : World) (hr : Sl w w.heap.size A l c bs) (hl : l ≤ 900000) (h1 : 1 ≤ size) (h8 : size ≤ 8) (hn : Hid (decide (n < 256 ^ size) = true)) (m : Nat) (hm : l + size = m) :
    Calls Try.prog 8 #[.slice A l c, .int .i64 size, .int .u64 n] w fun e w' => ∃ A' c', e = .returned (.tuple #[.slice A' m c', .int .i64 0]) ∧ Ow w' w.heap.size A' m c' (bs ++ be size n) ∧ Below w.heap.size w w' := by
  subst hm
  go_enter Try.func8, Try.ntmps8
  go_wp2_with (first
    | (go_at_call 18; refine (isSize_yes _ _ (by omega) (by omega)).mono ?_; rintro e w' ⟨rfl, rfl⟩)
    | (go_at_call 19; refine (fits_any _ _ _ h1 h8 true hn).mono ?_; rintro e w' ⟨rfl, rfl⟩)
    | (go_at_call 21; refine (own_any _ bs _ _ size _ hr (by omega) (by omega)).mono ?_; rintro e w1 ⟨A1, c1, rfl, hown1, hb1⟩)
    | (go_at_call 20; refine (lay_any _ _ _ w.heap.size size n bs _ hown1 hb1.size h8 (by omega)).mono ?_; rintro e w2 ⟨A2, c2, rfl, hown2, hb2⟩))
  go_ret2
  exact ⟨A2, c2, rfl, hown2, hb1.trans hb2⟩

set_option maxHeartbeats 400000 in
theorem put_no (A : Option Addr) (l c : Nat) (size : Int) (n : Nat) (w : World) (h : (size < 1 ∨ 8 < size) ∨ ((1 ≤ size ∧ size ≤ 8) ∧ ¬ n < 256 ^ size.toNat)) :
    Calls Try.prog 8 #[.slice A l c, .int .i64 size, .int .u64 n] w fun e w' => e = .returned (.tuple #[.slice none 0 0, .int .i64 1]) ∧ w = w' := by
  rcases h with h | ⟨⟨h1, h8⟩, hn⟩
  · have H := Lib.hid h
    clear h
    go_enter Try.func8, Try.ntmps8
    go_wp2_with (go_at_call 18; refine (isSize_no _ _ H.out).mono ?_; rintro e w' ⟨rfl, rfl⟩)
    go_ret2
    exact ⟨rfl, rfl⟩
  · obtain ⟨s, rfl⟩ := Int.eq_ofNat_of_zero_le (by omega : 0 ≤ size)
    rw [Int.toNat_natCast] at hn
    have hb : decide (n < 256 ^ s) = false := decide_eq_false hn
    have HB := Lib.hid hb
    clear hb hn
    go_enter Try.func8, Try.ntmps8
    go_wp2_with (first
      | (go_at_call 18; refine (isSize_yes _ _ (by omega) (by omega)).mono ?_; rintro e w' ⟨rfl, rfl⟩)
      | (go_at_call 19; refine (fits_any _ _ _ (by omega) (by omega) false HB).mono ?_; rintro e w' ⟨rfl, rfl⟩))
    go_ret2
    exact ⟨rfl, rfl⟩

/-- a size and a number: Put takes them, or it doesn't -/
theorem put_split (size : Int) (n : Nat) : (∃ k : Nat, size = k ∧ 1 ≤ k ∧ k ≤ 8 ∧ Hid (decide (n < 256 ^ k) = true)) ∨ ((size < 1 ∨ 8 < size) ∨ ((1 ≤ size ∧ size ≤ 8) ∧ ¬ n < 256 ^ size.toNat)) := by
  by_cases h : 1 ≤ size ∧ size ≤ 8
  · by_cases hn : n < 256 ^ size.toNat
    · exact .inl ⟨size.toNat, by omega, by omega, by omega, Lib.hid (decide_eq_true hn)⟩
    · exact .inr (.inr ⟨h, hn⟩)
  · exact .inr (.inl (by omega))

theorem take_split (size : Int) (l : Nat) : (∃ k : Nat, size = k ∧ 1 ≤ k ∧ k ≤ 8 ∧ k ≤ l) ∨ (∃ k : Nat, size = k ∧ 1 ≤ k ∧ k ≤ 8 ∧ l < k) ∨ (size < 1 ∨ 8 < size) := by
  by_cases h : 1 ≤ size ∧ size ≤ 8
  · by_cases hn : size.toNat ≤ l
    · exact .inl ⟨size.toNat, by omega, by omega, by omega, hn⟩
    · exact .inr (.inl ⟨size.toNat, by omega, by omega, by omega, by omega⟩)
  · exact .inr (.inr (by omega))

set_option maxHeartbeats 400000 in
theorem take_ok (A : Option Addr) (bs : List UInt8) (l c size : Nat) (w : World) (hr : Sl w w.heap.size A l c bs) (hl : l ≤ 900000) (h1 : 1 ≤ size) (h8 : size ≤ 8) (hs : size ≤ l) (n : Nat) (hn : Hid (val (bs.take size) = n)) :
    Calls Try.prog 10 #[.slice A l c, .int .i64 size] w fun e w' => ∃ A' l', e = .returned (.tuple #[.int .u64 n, .slice A' l' l', .int .i64 0]) ∧ Sl w' w'.heap.size A' l' l' (bs.drop size) ∧ Below w.heap.size w w' := by
  go_enter Try.func10, Try.ntmps10
  go_wp2_with (first
    | (go_at_call 18; refine (isSize_yes _ _ (by omega) (by omega)).mono ?_; rintro e w' ⟨rfl, rfl⟩)
    | (go_at_call 23; refine (first_any _ bs _ _ _ size _ hr h8 hs (by omega)).mono ?_; rintro e w' ⟨rfl, rfl⟩; rw [hn.out])
    | (go_at_call 24; refine (behind_any _ bs _ _ size _ hr hs (by omega)).mono ?_; rintro e w1 ⟨A1, l1, rfl, hr1, hb1⟩))
  go_ret3
  exact ⟨A1, l1, rfl, hr1, hb1⟩

set_option maxHeartbeats 400000 in
theorem take_arg (A : Option Addr) (l c : Nat) (size : Int) (w : World) (h : size < 1 ∨ 8 < size) :
    Calls Try.prog 10 #[.slice A l c, .int .i64 size] w fun e w' => e = .returned (.tuple #[.int .u64 0, .slice none 0 0, .int .i64 1]) ∧ w = w' := by
  have H := Lib.hid h
  clear h
  go_enter Try.func10, Try.ntmps10
  go_wp2_with (go_at_call 18; refine (isSize_no _ _ H.out).mono ?_; rintro e w' ⟨rfl, rfl⟩)
  go_ret3
  exact ⟨rfl, rfl⟩

set_option maxHeartbeats 400000 in
theorem take_short (A : Option Addr) (l c size : Nat) (w : World) (h1 : 1 ≤ size) (h8 : size ≤ 8) (hs : l < size) :
    Calls Try.prog 10 #[.slice A l c, .int .i64 size] w fun e w' => e = .returned (.tuple #[.int .u64 0, .slice none 0 0, .int .i64 3]) ∧ w = w' := by
  go_enter Try.func10, Try.ntmps10
  go_wp2_with (go_at_call 18; refine (isSize_yes _ _ (by omega) (by omega)).mono ?_; rintro e w' ⟨rfl, rfl⟩)
  go_ret3
  exact ⟨rfl, rfl⟩

theorem strCells_bvs (s : ByteArray) : Lib.strCells s = bvs s.data.toList := rfl

set_option maxHeartbeats 400000 in
theorem putText_ok (A : Option Addr) (bs : List UInt8) (l c : Nat) (s : ByteArray) (w : World) (hr : Sl w w.heap.size A l c bs) (hl : l ≤ 900000) (hs : s.size ≤ 65535) (m : Nat) (hm : l + 2 + s.size = m) :
    Calls Try.prog 12 #[.slice A l c, .string s] w fun e w' => ∃ A' c', e = .returned (.tuple #[.slice A' m c', .int .i64 0]) ∧ Ow w' w.heap.size A' m c' (bs ++ be 2 s.size ++ s.data.toList) ∧ Below w.heap.size w w' := by
  subst hm
  obtain ⟨i0, hi, hz0, hz1, hz2⟩ := info_parts u8info
  go_enter Try.func12, Try.ntmps12
  go_wp2_with (first
    | (go_at_call 21; refine (own_any _ bs _ _ (2 + s.size) _ hr (by omega) (by omega)).mono ?_; rintro e w1 ⟨A1, c1, rfl, hown1, hb1⟩)
    | (go_at_call 20; refine (lay_any _ _ _ w.heap.size 2 s.size bs _ hown1 hb1.size (by omega) (by omega)).mono ?_; rintro e w2 ⟨A2, c2, rfl, hown2, hb2⟩)
    | (at_builtin; (refine Lib.wpList_append_own_string _ rfl _ _ _ _ rfl w.heap.size 5 i0 Try.underlying22 Try.underlying9 hi hz0 hz1 hz2 _ _ _ rfl hown2.own s rfl (by unfold maxLen; omega) (by omega) (by have := hb1.size; have := hb2.size; omega) ?_); intro v3 w3 hown3 hg3 _; rw [strCells_bvs, ← bvs_append] at hown3; obtain ⟨A3, c3, rfl, how3⟩ := Ow.mk' hown3))
  go_ret2
  exact ⟨A3, c3, rfl, how3, (hb1.trans hb2).trans (below_own hown2.own hg3 (by have := hb1.size; have := hb2.size; omega))⟩

set_option maxHeartbeats 400000 in
theorem putText_long (A : Option Addr) (l c : Nat) (s : ByteArray) (w : World) (hs : 65535 < s.size) (hm : s.size ≤ maxLen) :
    Calls Try.prog 12 #[.slice A l c, .string s] w fun e w' => e = .returned (.tuple #[.slice none 0 0, .int .i64 4]) ∧ w = w' := by
  unfold maxLen at hm
  go_enter Try.func12, Try.ntmps12
  go_wp2_with fail
  go_ret2
  exact ⟨rfl, rfl⟩

set_option maxHeartbeats 400000 in
theorem takeText_few (A : Option Addr) (l c : Nat) (w : World) (hl : l < 2) :
    Calls Try.prog 14 #[.slice A l c] w fun e w' => e = .returned (.tuple #[.string ⟨#[]⟩, .slice none 0 0, .int .i64 3]) ∧ w = w' := by
  go_enter Try.func14, Try.ntmps14
  go_wp2_with fail
  go_ret3
  exact ⟨rfl, rfl⟩

set_option maxHeartbeats 400000 in
theorem takeText_short (A : Option Addr) (bs : List UInt8) (l c : Nat) (w : World) (hr : Sl w w.heap.size A l c bs) (h2 : 2 ≤ l) (hl : l ≤ 900000) (hs : l < 2 + val (bs.take 2)) :
    Calls Try.prog 14 #[.slice A l c] w fun e w' => e = .returned (.tuple #[.string ⟨#[]⟩, .slice none 0 0, .int .i64 3]) ∧ w = w' := by
  have hv : val (bs.take 2) < 65536 := val_lt 2 _ (by have := hr.len; simp; omega)
  go_enter Try.func14, Try.ntmps14
  go_wp2_with (go_at_call 23; refine (first_any _ bs _ _ _ 2 _ hr (by omega) h2 (by omega)).mono ?_; rintro e w' ⟨rfl, rfl⟩)
  go_ret3
  exact ⟨rfl, rfl⟩

set_option maxHeartbeats 400000 in
theorem takeText_ok (A : Option Addr) (bs : List UInt8) (l c : Nat) (w : World) (hr : Sl w w.heap.size A l c bs) (h2 : 2 ≤ l) (hl : l ≤ 900000) (n : Nat) (HN : Hid (val (bs.take 2) = n)) (s : ByteArray) (HS : Hid (⟨((bs.take (2 + n)).drop 2).toArray⟩ = s)) (hs : 2 + n ≤ l) :
    Calls Try.prog 14 #[.slice A l c] w fun e w' => ∃ A' l', e = .returned (.tuple #[.string s, .slice A' l' l', .int .i64 0]) ∧
      Sl w' w'.heap.size A' l' l' (bs.drop (2 + n)) ∧ Below w.heap.size w w' := by
  have hv : n < 65536 := by rw [← HN.out]; exact val_lt 2 _ (by have := hr.len; simp; omega)
  obtain ⟨A2, hsl, hr2⟩ := hr.drew.cut2 Try.prog 22 Try.underlying22 u8size (i := 2) (j := 2 + n) 2 (2 + n) rfl (by omega) (by omega) hs
  rw [show 2 + n - 2 = n from by omega] at hsl hr2
  have hcv : ∀ u, Sl u w.heap.size A2 n (c - 2) ((bs.take (2 + n)).drop 2) → (convert 22 9 (.slice A2 n (c - 2))).run Try.prog u = .ok (.string s) u := fun u h => by
    rw [run_text (P := Try.prog) h 22 9 5 Try.underlying22 Try.underlying5 Try.underlying9, HS.out]
  have hcv0 := hcv _ hr2
  have HCV := Lib.hid hcv
  clear hcv
  go_enter Try.func14, Try.ntmps14
  go_wp2_with (go_at_call 23; refine (first_any _ bs _ _ _ 2 _ hr (by omega) h2 (by omega)).mono ?_; rintro e w' ⟨rfl, rfl⟩; rw [HN.out])
  go_region_with (go_at_call 24; refine (behind_any _ bs _ _ (2 + n) _ hr.drew (by omega) (by omega)).mono ?_; rintro e w1 ⟨A1, l1, rfl, hr1, hb1⟩; have hcv1 := HCV.out _ (hr2.below hb1 (Nat.le_refl _)))
  all_goals
    go_wp2
    go_ret3
    exact ⟨A1, l1, rfl, hr1, (Below.refl _ _).drew.trans hb1⟩
end Go.Proofs.Ytifdfacekajdfaa
