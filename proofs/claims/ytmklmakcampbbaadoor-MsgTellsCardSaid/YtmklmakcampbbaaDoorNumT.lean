/-
  What PutText and TakeText of package num do: contracts.
-/
import Derived.Test.YtmklmakcampbbaaDoorNumB
namespace Go.Proofs.YtmklmakcampbbaaDoor
open Go.RowKit
set_option maxRecDepth 100000

theorem strCells_bvs (s : ByteArray) : Lib.strCells s = bvs s.data.toList := rfl

set_option maxHeartbeats 400000 in
theorem putText_ok (A : Option Addr) (bs : List UInt8) (l c : Nat) (s : ByteArray) (w : World) (hr : Sl w w.heap.size A l c bs) (hl : l ≤ 900000) (hs : s.size ≤ 65535) (m : Nat) (hm : l + 2 + s.size = m) :
    Calls Tryd.prog 43 #[.slice A l c, .string s] w fun e w' => ∃ A' c', e = .returned (.tuple #[.slice A' m c', .int .i64 0]) ∧ Ow w' w.heap.size A' m c' (bs ++ be 2 s.size ++ s.data.toList) ∧ Below w.heap.size w w' := by
  subst hm
  obtain ⟨i0, hi, hz0, hz1, hz2⟩ := info_parts u8info
  go_enter Tryd.func43, Tryd.ntmps43
  go_wp2_with (first
    | (go_at_call 56; refine (own_any _ bs _ _ (2 + s.size) _ hr (by omega) (by omega)).mono ?_; rintro e w1 ⟨A1, c1, rfl, hown1, hb1⟩)
    | (go_at_call 55; refine (lay_any _ _ _ w.heap.size 2 s.size bs _ hown1 hb1.size (by omega) (by omega)).mono ?_; rintro e w2 ⟨A2, c2, rfl, hown2, hb2⟩)
    | (at_builtin; (refine Lib.wpList_append_own_string _ rfl _ _ _ _ rfl w.heap.size 5 i0 Tryd.underlying26 Tryd.underlying9 hi hz0 hz1 hz2 _ _ _ rfl hown2.own s rfl (by unfold maxLen; omega) (by omega) (by have := hb1.size; have := hb2.size; omega) ?_); intro v3 w3 hown3 hg3 _; rw [strCells_bvs, ← bvs_append] at hown3; obtain ⟨A3, c3, rfl, how3⟩ := Ow.mk' hown3))
  go_ret2
  exact ⟨A3, c3, rfl, how3, (hb1.trans hb2).trans (below_own hown2.own hg3 (by have := hb1.size; have := hb2.size; omega))⟩

set_option maxHeartbeats 400000 in
theorem putText_long (A : Option Addr) (l c : Nat) (s : ByteArray) (w : World) (hs : 65535 < s.size) (hm : s.size ≤ maxLen) :
    Calls Tryd.prog 43 #[.slice A l c, .string s] w fun e w' => e = .returned (.tuple #[.slice none 0 0, .int .i64 4]) ∧ w = w' := by
  unfold maxLen at hm
  go_enter Tryd.func43, Tryd.ntmps43
  go_wp2_with fail
  go_ret2
  exact ⟨rfl, rfl⟩

set_option maxHeartbeats 400000 in
theorem takeText_few (A : Option Addr) (l c : Nat) (w : World) (hl : l < 2) :
    Calls Tryd.prog 59 #[.slice A l c] w fun e w' => e = .returned (.tuple #[.string ⟨#[]⟩, .slice none 0 0, .int .i64 3]) ∧ w = w' := by
  go_enter Tryd.func59, Tryd.ntmps59
  go_wp2_with fail
  go_ret3
  exact ⟨rfl, rfl⟩

set_option maxHeartbeats 400000 in
theorem takeText_short (A : Option Addr) (bs : List UInt8) (l c : Nat) (w : World) (hr : Sl w w.heap.size A l c bs) (h2 : 2 ≤ l) (hl : l ≤ 900000) (hs : l < 2 + val (bs.take 2)) :
    Calls Tryd.prog 59 #[.slice A l c] w fun e w' => e = .returned (.tuple #[.string ⟨#[]⟩, .slice none 0 0, .int .i64 3]) ∧ w = w' := by
  have hv : val (bs.take 2) < 65536 := val_lt 2 _ (by have := hr.len; simp; omega)
  go_enter Tryd.func59, Tryd.ntmps59
  go_wp2_with (go_at_call 57; refine (first_any _ bs _ _ _ 2 _ hr (by omega) h2 (by omega)).mono ?_; rintro e w' ⟨rfl, rfl⟩)
  go_ret3
  exact ⟨rfl, rfl⟩

set_option maxHeartbeats 400000 in
theorem takeText_new (A : Option Addr) (bs : List UInt8) (l c : Nat) (w : World) (hr : Sl w w.heap.size A l c bs) (h2 : 2 ≤ l) (hl : l ≤ 900000) (n : Nat) (HN : Hid (val (bs.take 2) = n)) (s : ByteArray) (HS : Hid (⟨((bs.take (2 + n)).drop 2).toArray⟩ = s)) (hs : 2 + n ≤ l) :
    Calls Tryd.prog 59 #[.slice A l c] w fun e w' => ∃ A' l', e = .returned (.tuple #[.string s, .slice A' l' l', .int .i64 0]) ∧
      Sl w' w'.heap.size A' l' l' (bs.drop (2 + n)) ∧ Fresh w.heap.size A' ∧ Below w.heap.size w w' := by
  have hv : n < 65536 := by rw [← HN.out]; exact val_lt 2 _ (by have := hr.len; simp; omega)
  obtain ⟨A2, hsl, hr2⟩ := hr.drew.cut2 Tryd.prog 26 Tryd.underlying26 u8size (i := 2) (j := 2 + n) 2 (2 + n) rfl (by omega) (by omega) hs
  rw [show 2 + n - 2 = n from by omega] at hsl hr2
  have hcv : ∀ u, Sl u w.heap.size A2 n (c - 2) ((bs.take (2 + n)).drop 2) → (convert 26 9 (.slice A2 n (c - 2))).run Tryd.prog u = .ok (.string s) u := fun u h => by
    rw [run_text (P := Tryd.prog) h 26 9 5 Tryd.underlying26 Tryd.underlying5 Tryd.underlying9, HS.out]
  have hcv0 := hcv _ hr2
  have HCV := Lib.hid hcv
  clear hcv
  go_enter Tryd.func59, Tryd.ntmps59
  go_wp2_with (go_at_call 57; refine (first_any _ bs _ _ _ 2 _ hr (by omega) h2 (by omega)).mono ?_; rintro e w' ⟨rfl, rfl⟩; rw [HN.out])
  go_region_with (go_at_call 58; refine (behind_new _ bs _ _ (2 + n) _ hr.drew (by omega) (by omega)).mono ?_; rintro e w1 ⟨A1, l1, rfl, hr1, hf1, hb1⟩; have hcv1 := HCV.out _ (hr2.below hb1 (Nat.le_refl _)))
  all_goals
    go_wp2
    go_ret3
    exact ⟨A1, l1, rfl, hr1, hf1, (Below.refl _ _).drew.trans hb1⟩
theorem takeText_ok (A : Option Addr) (bs : List UInt8) (l c : Nat) (w : World) (hr : Sl w w.heap.size A l c bs) (h2 : 2 ≤ l) (hl : l ≤ 900000) (n : Nat) (HN : Hid (val (bs.take 2) = n)) (s : ByteArray) (HS : Hid (⟨((bs.take (2 + n)).drop 2).toArray⟩ = s)) (hs : 2 + n ≤ l) :
    Calls Tryd.prog 59 #[.slice A l c] w fun e w' => ∃ A' l', e = .returned (.tuple #[.string s, .slice A' l' l', .int .i64 0]) ∧
      Sl w' w'.heap.size A' l' l' (bs.drop (2 + n)) ∧ Below w.heap.size w w' :=
  (takeText_new A bs l c w hr h2 hl n HN s HS hs).mono fun _ _ ⟨A1, l1, he, h1, _, h2⟩ => ⟨A1, l1, he, h1, h2⟩
end Go.Proofs.YtmklmakcampbbaaDoor
