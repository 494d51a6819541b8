/-
  What the document's own answers of layer 1 are, further: contracts.
-/
import Derived.Test.YtmklmakcampbbaaDoorRefB
import Derived.Deep.RegionLaw
namespace Go.Proofs.YtmklmakcampbbaaDoor
open Go.RowKit
set_option maxRecDepth 100000

set_option maxHeartbeats 400000 in
theorem rput_no (A : Option Addr) (l c : Nat) (size : Int) (n : Nat) (w : World) (hn : n < 18446744073709551616) (h : (size < 1 ∨ 8 < size) ∨ ((1 ≤ size ∧ size ≤ 8) ∧ ¬ n < 256 ^ size.toNat)) :
    Calls Tryd.prog 26 #[.slice A l c, .int .i64 size, .int .u64 n] w fun e w' => e = .returned (.tuple #[.slice none 0 0, .int .i64 1]) ∧ w = w' := by
  by_cases d1 : size < 1
  · clear h
    go_enter Tryd.func26, Tryd.ntmps26
    go_wp2_with fail
    go_ret2
    exact ⟨rfl, rfl⟩
  · have d1' : decide (size < 1) = false := by simp; omega
    by_cases d2 : 8 < size
    · clear h
      go_enter Tryd.func26, Tryd.ntmps26
      go_wp2_with fail
      go_ret2
      exact ⟨rfl, rfl⟩
    · have d2' : decide (8 < size) = false := by simp; omega
      obtain ⟨k, rfl⟩ := Int.eq_ofNat_of_zero_le (by omega : 0 ≤ size)
      have hk : ¬ n < 256 ^ k := by
        rcases h with h | h
        · omega
        · exact h.2
      have h7 : k < 8 := by
        rcases Nat.lt_or_ge k 8 with h | h
        · exact h
        · exfalso
          have : k = 8 := by omega
          subst this
          exact hk (by simpa using hn)
      have d3 : decide ((k : Int) < 8) = true := by simp; omega
      generalize hx : 256 ^ k = x at *
      have hge : x ≤ n := by omega
      have HX := Lib.hid hx
      clear h hx hk
      go_enter Tryd.func26, Tryd.ntmps26
      go_wp2_with fail
      refine (top_any k x _ h7 HX).mono ?_
      rintro e w' ⟨rfl, rfl⟩
      go_wp2_with fail
      go_ret2
      exact ⟨rfl, rfl⟩

set_option maxHeartbeats 400000 in
theorem rtake_arg (A : Option Addr) (l c : Nat) (size : Int) (w : World) (h : size < 1 ∨ 8 < size) :
    Calls Tryd.prog 32 #[.slice A l c, .int .i64 size] w fun e w' => e = .returned (.tuple #[.int .u64 0, .slice none 0 0, .int .i64 1]) ∧ w = w' := by
  by_cases d1 : size < 1
  · clear h
    go_enter Tryd.func32, Tryd.ntmps32
    go_wp2_with fail
    go_ret3
    exact ⟨rfl, rfl⟩
  · have d1' : decide (size < 1) = false := by simp; omega
    have d2 : 8 < size := by omega
    clear h
    go_enter Tryd.func32, Tryd.ntmps32
    go_wp2_with fail
    go_ret3
    exact ⟨rfl, rfl⟩

set_option maxHeartbeats 400000 in
theorem rtake_short (A : Option Addr) (l c size : Nat) (w : World) (h1 : 1 ≤ size) (h8 : size ≤ 8) (hs : l < size) :
    Calls Tryd.prog 32 #[.slice A l c, .int .i64 size] w fun e w' => e = .returned (.tuple #[.int .u64 0, .slice none 0 0, .int .i64 3]) ∧ w = w' := by
  have d1 : decide ((size : Int) < 1) = false := by simp; omega
  have d2 : decide ((8 : Int) < (size : Int)) = false := by simp; omega
  go_enter Tryd.func32, Tryd.ntmps32
  go_wp2_with fail
  go_ret3
  exact ⟨rfl, rfl⟩

set_option maxHeartbeats 1000000 in
theorem rtake_own (A : Option Addr) (bs : List UInt8) (l c size : Nat) (w : World) (hr : Sl w w.heap.size A l c bs) (hl : l ≤ 900000) (h1 : 1 ≤ size) (h8 : size ≤ 8) (hs : size ≤ l) (n : Nat) (hn : Hid (val (bs.take size) = n)) :
    Calls Tryd.prog 32 #[.slice A l c, .int .i64 size] w fun e w' => ∃ A' l' c', e = .returned (.tuple #[.int .u64 n, .slice A' l' c', .int .i64 0]) ∧ Ow w' w.heap.size A' l' c' (bs.drop size) ∧ Below w.heap.size w w' := by
  obtain ⟨i0, hi, hz0, hz1, hz2⟩ := info_parts u8info
  have d1 : decide ((size : Int) < 1) = false := by simp; omega
  have d2 : decide ((8 : Int) < (size : Int)) = false := by simp; omega
  have d3 : decide (l < size) = false := by simp; omega
  obtain ⟨A2, hsl, hr2⟩ := hr.cut1 Tryd.prog 26 Tryd.underlying26 u8size (i := size) size rfl hs
  go_enter Tryd.func32, Tryd.ntmps32
  go_wp2_with fail
  go_loop [7, 8] (fun x i => ∃ k y : Nat, k ≤ size ∧ i = .int .i64 k ∧ x = .int .u64 y ∧ Hid (y = val (bs.take k))) (fun _ i => size - (intOf i).toNat)
  case atStart => exact ⟨0, 0, Nat.zero_le _, rfl, rfl, Lib.hid rfl⟩
  case round =>
    obtain ⟨k, y, hk, rfl, rfl, hy⟩ := hrel
    by_cases hlt : k < size
    · have hkl : k < bs.length := by have := hr.len; omega
      obtain ⟨ad, rfl, hb, hc⟩ := hr.rd.at_ (k := k) (by rw [bvs_length]; omega)
      have hcell : w.cell? (ad.add k) = some (.int .u8 ((bs[k]).toNat : Int)) := by rw [hc]; simp [bvs, bv]
      have hv : y < 72057594037927936 := by
        rw [hy.out]
        exact Nat.lt_of_lt_of_le (val_lt k (bs.take k) (by simp; omega)) (Nat.le_trans (Nat.pow_le_pow_right (by omega) (by omega : k ≤ 7)) (by decide))
      have hb8 := (bs[k]).toNat_lt
      have HS := Lib.hid (val_take_next bs k hkl)
      clear hc
      go_wp2_with fail
      go_round
      case rel =>
        exact ⟨k + 1, 256 * y + (bs[k]).toNat, by omega, by go_num, by go_num, Lib.hid (by rw [HS.out, hy.out])⟩
      case measure => simp [intOf]; omega
    · obtain rfl : k = size := by omega
      have hyn : y = n := by rw [hy.out, hn.out]
      subst hyn
      go_wp2_with (at_builtin; refine wpList_append_rd rfl _ _ _ rfl w.heap.size 5 i0 _ 1 Tryd.underlying26 hi hz0 hz1 hz2 rfl _ 0 _ rfl (Ow.new w w.heap.size (Nat.le_refl _) [] (by simp)).own (w.heap.size + 1) _ _ _ (bvs (bs.drop k)) rfl (by rw [bvs_length]; exact hr2.len) (((hr2.next (kp_new _ _)).more (by simp)).rd) (bvs_one _) (by unfold maxLen; omega) (by omega) (by simp) ?_; intro v2 w2 hown2 hg2; rw [← bvs_append, List.nil_append, Nat.zero_add] at hown2; obtain ⟨A3, c3, rfl, ho3⟩ := Ow.mk' hown2)
      go_ret3
      exact ⟨A3, _, c3, rfl, ho3, (kp_new _ _).trans (below_own (Ow.new w w.heap.size (Nat.le_refl _) [] (by simp)).own hg2 (by simp))⟩

theorem rtake_ok (A : Option Addr) (bs : List UInt8) (l c size : Nat) (w : World) (hr : Sl w w.heap.size A l c bs) (hl : l ≤ 900000) (h1 : 1 ≤ size) (h8 : size ≤ 8) (hs : size ≤ l) (n : Nat) (hn : Hid (val (bs.take size) = n)) :
    Calls Tryd.prog 32 #[.slice A l c, .int .i64 size] w fun e w' => ∃ A' l' c', e = .returned (.tuple #[.int .u64 n, .slice A' l' c', .int .i64 0]) ∧ Sl w' w'.heap.size A' l' c' (bs.drop size) ∧ Below w.heap.size w w' :=
  (rtake_own A bs l c size w hr hl h1 h8 hs n hn).mono fun _ _ ⟨A1, l1, c1, he, h1, h2⟩ => ⟨A1, l1, c1, he, h1.sl, h2⟩

theorem two_bytes (n : Nat) (h : n ≤ 65535) : [Value.int .u8 ((n : Int) / 256), Value.int .u8 ((n : Int) % 256)] = bvs (be 2 n) := by
  simp only [be, List.nil_append, List.cons_append, bvs, List.map_cons, List.map_nil, bv, UInt8.toNat_ofNat']
  congr 2
  · omega

set_option maxHeartbeats 1000000 in
theorem rputText_ok (A : Option Addr) (bs : List UInt8) (l c : Nat) (s : ByteArray) (w : World) (hr : Sl w w.heap.size A l c bs) (hl : l ≤ 900000) (hs : s.size ≤ 65535) :
    Calls Tryd.prog 27 #[.slice A l c, .string s] w fun e w' => ∃ A' l' c', e = .returned (.tuple #[.slice A' l' c', .int .i64 0]) ∧ Ow w' w.heap.size A' l' c' (bs ++ be 2 s.size ++ s.data.toList) ∧ Below w.heap.size w w' := by
  obtain ⟨i0, hi, hz0, hz1, hz2⟩ := info_parts u8info
  have hsl : s.data.toList.length = s.size := by rw [Array.length_toList]; rfl
  have HSL := Lib.hid hsl
  have H2 := Lib.hid (two_bytes s.size hs)
  clear hsl
  go_enter Tryd.func27, Tryd.ntmps27
  go_wp2_with (first
    | (at_builtin; refine wpList_append_rd rfl (.tmp 10) (.tmp 11) _ rfl w.heap.size 5 i0 _ 1 Tryd.underlying26 hi hz0 hz1 hz2 rfl _ 0 _ rfl (Ow.new w w.heap.size (Nat.le_refl _) [] (by simp)).own (w.heap.size + 1) _ _ _ (bvs bs) rfl (by rw [bvs_length]; exact hr.len) (((hr.next (kp_new _ _)).more (by simp)).rd) (bvs_one _) (by unfold maxLen; omega) (by omega) (by simp) ?_; intro v2 w2 hown2 hg2; rw [← bvs_append, List.nil_append, Nat.zero_add] at hown2; obtain ⟨A2, c2, rfl, ho2⟩ := Ow.mk' hown2; have hb2 : Below w.heap.size w w2 := (kp_new _ _).trans (below_own (Ow.new w w.heap.size (Nat.le_refl _) [] (by simp)).own hg2 (by simp)))
    | (at_builtin; refine wpList_append_rd rfl (.tmp 12) (.tmp 21) _ rfl w.heap.size 5 i0 _ 1 Tryd.underlying26 hi hz0 hz1 hz2 rfl _ l _ rfl (ho2.own.alloc _) (w2.heap.size + 1) _ _ _ [_, _] rfl rfl (Rd.new _ _ _) (by simp [Value.oneCell']) (by unfold maxLen; omega) (by omega) (by have := hb2.size; simp; omega) ?_; intro v3 w3 hown3 hg3; rw [H2.out, ← bvs_append] at hown3; obtain ⟨A3, c3, rfl, ho3⟩ := Ow.mk' hown3; have hb3 : Below w.heap.size w w3 := (kp_alloc hb2 _).trans (below_own (ho2.own.alloc _) hg3 (by have := hb2.size; simp; omega)); obtain ⟨c4, w4, hcv, hr4, hb4⟩ := run_bytes (P := Tryd.prog) w3 9 26 5 s Tryd.underlying9 Tryd.underlying26 Tryd.underlying5; have ho4 := ho3.next hb4; have hb4' := kp_trans hb3 hb4)
    | (at_builtin; refine wpList_append_rd rfl (.tmp 23) (.tmp 25) _ rfl w.heap.size 5 i0 _ 1 Tryd.underlying26 hi hz0 hz1 hz2 rfl _ (l + 2) _ rfl ho4.own w4.heap.size _ _ _ (bvs s.data.toList) rfl (by rw [bvs_length]; exact hr4.len) hr4.rd (bvs_one _) (by unfold maxLen; omega) (by omega) hb4'.size ?_; intro v5 w5 hown5 hg5; rw [← bvs_append] at hown5; obtain ⟨A5, c5, rfl, ho5⟩ := Ow.mk' hown5))
  go_ret2
  exact ⟨A5, _, c5, rfl, ho5, hb4'.trans (below_own ho4.own hg5 hb4'.size)⟩

set_option maxHeartbeats 400000 in
theorem rputText_long (A : Option Addr) (l c : Nat) (s : ByteArray) (w : World) (hs : 65535 < s.size) (hm : s.size ≤ maxLen) :
    Calls Tryd.prog 27 #[.slice A l c, .string s] w fun e w' => e = .returned (.tuple #[.slice none 0 0, .int .i64 4]) ∧ w = w' := by
  unfold maxLen at hm
  go_enter Tryd.func27, Tryd.ntmps27
  go_wp2_with fail
  go_ret2
  exact ⟨rfl, rfl⟩

set_option maxHeartbeats 400000 in
theorem rtakeText_few (A : Option Addr) (l c : Nat) (w : World) (hl : l < 2) :
    Calls Tryd.prog 33 #[.slice A l c] w fun e w' => e = .returned (.tuple #[.string ⟨#[]⟩, .slice none 0 0, .int .i64 3]) ∧ w = w' := by
  go_enter Tryd.func33, Tryd.ntmps33
  go_wp2_with fail
  go_ret3
  exact ⟨rfl, rfl⟩

set_option maxHeartbeats 1000000 in
theorem rtakeText_short (A : Option Addr) (bs : List UInt8) (l c : Nat) (w : World) (hr : Sl w w.heap.size A l c bs) (h2 : 2 ≤ l) (hl : l ≤ 900000) (hs : l < 2 + val (bs.take 2)) :
    Calls Tryd.prog 33 #[.slice A l c] w fun e w' => e = .returned (.tuple #[.string ⟨#[]⟩, .slice none 0 0, .int .i64 3]) ∧ Below w.heap.size w w' := by
  have hlen := hr.len
  have h0 : 0 < bs.length := by omega
  have h1 : 1 < bs.length := by omega
  have hl0 : 0 < l := by omega
  have hl1 : (1 : Int) < (l : Int) := by omega
  obtain ⟨ad, rfl, _, hc0⟩ := hr.rd.at_ (k := 0) (by rw [bvs_length]; omega)
  obtain ⟨ad', hA, _, hc1⟩ := hr.rd.at_ (k := 1) (by rw [bvs_length]; omega)
  obtain rfl : ad = ad' := by injection hA
  have hcell0 : w.cell? ad = some (.int .u8 ((bs[0]).toNat : Int)) := by
    have : ad.add 0 = ad := by simp [Addr.add]
    rw [← this, hc0]; simp [bvs, bv]
  have hcell1 : w.cell? ⟨ad.block, ad.off + 1, none⟩ = some (.int .u8 ((bs[1]).toNat : Int)) := by
    have : ad.add 1 = ⟨ad.block, ad.off + 1, none⟩ := by simp [Addr.add]
    rw [← this, hc1]; simp [bvs, bv]
  rw [val_two bs (by omega)] at hs
  have b0 := (bs[0]).toNat_lt
  have b1 := (bs[1]).toNat_lt
  clear hc0 hc1 hA
  generalize (bs[0]).toNat = x at *
  generalize (bs[1]).toNat = y at *
  clear hlen h0 h1 hr
  have q1 := IntWalk.i64_in (x : Int) (by omega)
  have q2 := IntWalk.i64_in (256 * (x : Int)) (by omega)
  have q3 := IntWalk.i64_in (y : Int) (by omega)
  have q4 := IntWalk.i64_in (256 * (x : Int) + (y : Int)) (by omega)
  go_enter Tryd.func33, Tryd.ntmps33
  go_wp2_with fail
  go_quiet (fail)
  clear q1 q2 q3 q4
  go_wp2_with fail
  go_ret3
  exact ⟨rfl, kp_drewN _ _⟩

set_option maxHeartbeats 1000000 in
theorem rtakeText_own (A : Option Addr) (bs : List UInt8) (l c : Nat) (w : World) (hr : Sl w w.heap.size A l c bs) (h2 : 2 ≤ l) (hl : l ≤ 900000) (n : Nat) (HN : Hid (val (bs.take 2) = n)) (s : ByteArray) (HS : Hid (⟨((bs.take (2 + n)).drop 2).toArray⟩ = s)) (hs : 2 + n ≤ l) :
    Calls Tryd.prog 33 #[.slice A l c] w fun e w' => ∃ A' l' c', e = .returned (.tuple #[.string s, .slice A' l' c', .int .i64 0]) ∧
      Ow w' w.heap.size A' l' c' (bs.drop (2 + n)) ∧ Below w.heap.size w w' := by
  obtain ⟨i0, hi, hz0, hz1, hz2⟩ := info_parts u8info
  have hlen := hr.len
  have h0 : 0 < bs.length := by omega
  have h1 : 1 < bs.length := by omega
  have hl0 : 0 < l := by omega
  have hl1 : (1 : Int) < (l : Int) := by omega
  obtain ⟨ad, rfl, _, hc0⟩ := hr.rd.at_ (k := 0) (by rw [bvs_length]; omega)
  obtain ⟨ad', hA, _, hc1⟩ := hr.rd.at_ (k := 1) (by rw [bvs_length]; omega)
  obtain rfl : ad = ad' := by injection hA
  have hcell0 : w.cell? ad = some (.int .u8 ((bs[0]).toNat : Int)) := by
    have : ad.add 0 = ad := by simp [Addr.add]
    rw [← this, hc0]; simp [bvs, bv]
  have hcell1 : w.cell? ⟨ad.block, ad.off + 1, none⟩ = some (.int .u8 ((bs[1]).toNat : Int)) := by
    have : ad.add 1 = ⟨ad.block, ad.off + 1, none⟩ := by simp [Addr.add]
    rw [← this, hc1]; simp [bvs, bv]
  have hn := HN.out
  rw [val_two bs (by omega)] at hn
  have b0 := (bs[0]).toNat_lt
  have b1 := (bs[1]).toNat_lt
  have hv : n < 65536 := by omega
  obtain ⟨A2, hsl, hr2⟩ := hr.cut2 Tryd.prog 26 Tryd.underlying26 u8size (i := 2) (j := 2 + n) 2 (2 + n) rfl (by omega) (by omega) hs
  rw [show 2 + n - 2 = n from by omega] at hsl hr2
  obtain ⟨A3, hsl3, hr3⟩ := hr.cut1 Tryd.prog 26 Tryd.underlying26 u8size (i := 2 + n) (2 + n) (by omega) hs
  have hcv : ∀ u B, Sl u B A2 n (c - 2) ((bs.take (2 + n)).drop 2) → (convert 26 9 (.slice A2 n (c - 2))).run Tryd.prog u = .ok (.string s) u := fun u B h => by
    rw [run_text (P := Tryd.prog) h 26 9 5 Tryd.underlying26 Tryd.underlying5 Tryd.underlying9, HS.out]
  have HCV := Lib.hid hcv
  have e1 : (256 : Int) * ((bs[0]).toNat : Int) + ((bs[1]).toNat : Int) = (n : Int) := by omega
  have E1 := Lib.hid e1
  have HB := Lib.hid hn
  clear hc0 hc1 hA hcv hn e1
  have q1 := IntWalk.i64_in ((bs[0]).toNat : Int) (by omega)
  have q2 := IntWalk.i64_in (256 * ((bs[0]).toNat : Int)) (by omega)
  have q3 := IntWalk.i64_in ((bs[1]).toNat : Int) (by omega)
  have q4 := IntWalk.i64_in (256 * ((bs[0]).toNat : Int) + ((bs[1]).toNat : Int)) (by omega)
  go_enter Tryd.func33, Tryd.ntmps33
  go_wp2_with fail
  go_quiet (fail)
  clear q1 q2 q3 q4
  rw [E1.out]
  generalize hwq : w.drewN nq = wq at *
  have kq : Below w.heap.size w wq := by rw [← hwq]; exact kp_drewN _ _
  have sz : w.heap.size = wq.heap.size := by rw [← hwq]; rfl
  have hr3q := hr3.next kq
  have hr2q := hr2.next kq
  clear hwq hcell0 hcell1
  go_wp2_with fail
  have c0 := HCV.out _ _ hr2q.drew
  have c1 := HCV.out _ _ (hr2q.next (kp_new wq (.cells #[] 5))).drew
  have q5 := IntWalk.i64_in (2 + (n : Int)) (by omega)
  have hs3 : l - (2 + n) ≤ 900000 := by omega
  have ho3 := Ow.new wq wq.heap.size (Nat.le_refl _) [] (by simp)
  have hr3a := (hr3q.next (kp_new wq (.cells #[] 5))).drew
  have hb3 : Below wq.heap.size wq (wq.alloc (.cells #[] 5)).drew := (kp_new wq _).drew
  go_region_law (refine step_append_rd rfl (.tmp 29) (.tmp 33) _ rfl wq.heap.size 5 i0 _ 1 Tryd.underlying26 hi hz0 hz1 hz2 rfl _ 0 _ rfl ho3.own.drew _ _ _ _ (bvs (bs.drop (2 + n))) rfl (by rw [bvs_length]; exact hr3.len) hr3a.rd (bvs_one _) (by unfold maxLen; omega) (by omega) (by simp) ?_; intro v5 w5 hown5 hg5; rw [← bvs_append, List.nil_append, Nat.zero_add] at hown5; obtain ⟨A5, c5, rfl, ho5⟩ := Ow.mk' hown5; have hb5 := hb3.trans (below_own ho3.own.drew hg5 (by simp)); have c2 := HCV.out _ _ (hr2q.next hb5))
  all_goals
    go_wp2_with fail
    go_ret3
    exact ⟨A5, _, c5, rfl, by rw [sz]; exact ho5, kp_trans kq hb5⟩
theorem rtakeText_ok (A : Option Addr) (bs : List UInt8) (l c : Nat) (w : World) (hr : Sl w w.heap.size A l c bs) (h2 : 2 ≤ l) (hl : l ≤ 900000) (n : Nat) (HN : Hid (val (bs.take 2) = n)) (s : ByteArray) (HS : Hid (⟨((bs.take (2 + n)).drop 2).toArray⟩ = s)) (hs : 2 + n ≤ l) :
    Calls Tryd.prog 33 #[.slice A l c] w fun e w' => ∃ A' l' c', e = .returned (.tuple #[.string s, .slice A' l' c', .int .i64 0]) ∧
      Sl w' w'.heap.size A' l' c' (bs.drop (2 + n)) ∧ Below w.heap.size w w' :=
  (rtakeText_own A bs l c w hr h2 hl n HN s HS hs).mono fun _ _ ⟨A1, l1, c1, he, h1, h2⟩ => ⟨A1, l1, c1, he, h1.sl, h2⟩
end Go.Proofs.YtmklmakcampbbaaDoor
