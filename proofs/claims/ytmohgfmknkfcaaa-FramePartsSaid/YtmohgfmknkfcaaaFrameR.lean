/-
  What the document's own Read of layer 2 does: contract.
-/
import Derived.Test.YtmohgfmknkfcaaaFrameB
import Derived.Deep.RegionLaw
namespace Go.Proofs.Ytmohgfmknkfcaaa
open Go.RowKit

set_option maxHeartbeats 400000 in
theorem rread_few (A : Option Addr) (l c : Nat) (w : World) (hl : l < 2) :
    Calls Try.prog 11 #[.slice A l c] w fun e w' => e = .returned (.tuple #[frV 0 none 0 0, .int .i64 0, .int .i64 3]) ∧ Below w.heap.size w w' := by
  go_enter Try.func11, Try.ntmps11
  go_wp2_with fail
  refine bodyPost_ret (v := .tuple #[frV 0 none 0 0, .int .i64 0, .int .i64 3]) ?_ rfl ⟨rfl, kp_new _ _⟩
  rw [results_cell_tmp2 rfl]
  unfold frV
  go_simp

/-- which way Read goes, its bytes' count told -/
inductive Way (bs : List UInt8) (l n : Nat) : Int → Prop
  | zero : n = 0 → Way bs l n 2
  | long : n ≠ 0 → 301 < n → Way bs l n 4
  | behind : n ≠ 0 → n ≤ 301 → l < 2 + n → Way bs l n 3

set_option maxHeartbeats 1000000 in
theorem rread_no (A : Option Addr) (bs : List UInt8) (l c : Nat) (w : World) (hr : Sl w w.heap.size A l c bs) (h2 : 2 ≤ l) (hl : l ≤ 900000) (n : Nat) (HN : Hid (val (bs.take 2) = n)) (x : Int) (hx : Way bs l n x) :
    Calls Try.prog 11 #[.slice A l c] w fun e w' => e = .returned (.tuple #[frV 0 none 0 0, .int .i64 0, .int .i64 x]) ∧ Below w.heap.size w w' := by
  have hlen := hr.len
  have hl0 : 0 < l := by omega
  have hl1 : (1 : Int) < (l : Int) := by omega
  have hd2 : decide ((l : Int) < 2) = false := by simp; omega
  obtain ⟨ad, rfl, hbl, hc0⟩ := hr.rd.at_ (k := 0) (by rw [bvs_length]; omega)
  obtain ⟨ad', hA, _, hc1⟩ := hr.rd.at_ (k := 1) (by rw [bvs_length]; omega)
  obtain rfl : ad = ad' := by injection hA
  have hn := HN.out
  rw [val_two bs (by omega)] at hn
  have b0 := (bs[0]).toNat_lt
  have b1 := (bs[1]).toNat_lt
  generalize hw0 : w.alloc (.cells #[.int .u8 0, .slice none 0 0] 30) = w0 at *
  have hcell0 : w0.cell? ad = some (.int .u8 ((bs[0]).toNat : Int)) := by
    have : ad.add 0 = ad := by simp [Addr.add]
    rw [← this, ← hw0, (kp_new w _).cell (by rw [add_block]; exact hbl), hc0]; simp [bvs, bv]
  have hcell1 : w0.cell? ⟨ad.block, ad.off + 1, none⟩ = some (.int .u8 ((bs[1]).toNat : Int)) := by
    have : ad.add 1 = ⟨ad.block, ad.off + 1, none⟩ := by simp [Addr.add]
    rw [← this, ← hw0, (kp_new w _).cell (by rw [add_block]; exact hbl), hc1]; simp [bvs, bv]
  have e1 : (256 : Int) * ((bs[0]).toNat : Int) + ((bs[1]).toNat : Int) = (n : Int) := by omega
  have E1 := Lib.hid e1
  clear hc0 hc1 hA hn e1
  have q1 := IntWalk.i64_in ((bs[0]).toNat : Int) (by omega)
  have q2 := IntWalk.i64_in (256 * ((bs[0]).toNat : Int)) (by omega)
  have q3 := IntWalk.i64_in ((bs[1]).toNat : Int) (by omega)
  have q4 := IntWalk.i64_in (256 * ((bs[0]).toNat : Int) + ((bs[1]).toNat : Int)) (by omega)
  have HW := Lib.hid hw0
  clear hw0
  go_enter Try.func11, Try.ntmps11
  go_wp2_with fail
  rw [HW.out]
  go_quiet (fail)
  clear q1 q2 q3 q4
  rw [E1.out]
  generalize hwq : w0.drewN nq = wq at *
  have kq : Below w0.heap.size w0 wq := by rw [← hwq]; exact kp_drewN _ _
  have kw : Below w.heap.size w wq := by
    have h := kp_new w (.cells #[.int .u8 0, .slice none 0 0] 30)
    rw [HW.out] at h
    exact kp_trans h kq
  have hblk : wq.heap[w.heap.size]? = some (.cells #[.int .u8 0, .slice none 0 0] 30 (0, 0)) := by
    rw [← HW.out] at kq
    exact two_new kq
  have hsz : w.heap.size < wq.heap.size := (Array.getElem?_eq_some_iff.1 hblk).1
  obtain ⟨c0, c1, f0, f1⟩ := two_cells hblk
  clear hwq kq HW hcell0 hcell1 E1 b0 b1 HN hblk
  cases hx with
  | zero h0 =>
    subst h0
    go_wp2_with fail
    refine bodyPost_ret (v := .tuple #[frV 0 none 0 0, .int .i64 0, .int .i64 2]) ?_ rfl ⟨rfl, ?_⟩
    · rw [results_cell_tmp2 rfl]
      unfold frV
      go_simp
    · exact (kw.setCell (Nat.le_refl _) _).setCell (Nat.le_refl _) _
  | long h0 h1 =>
    have e0 : ((n : Int) == 0) = false := by simp; omega
    have e1 : decide ((301 : Int) < (n : Int)) = true := by simp; omega
    go_wp2_with fail
    refine bodyPost_ret (v := .tuple #[frV 0 none 0 0, .int .i64 0, .int .i64 4]) ?_ rfl ⟨rfl, ?_⟩
    · rw [results_cell_tmp2 rfl]
      unfold frV
      go_simp
    · exact (kw.setCell (Nat.le_refl _) _).setCell (Nat.le_refl _) _
  | behind h0 h1 h3 =>
    have e0 : ((n : Int) == 0) = false := by simp; omega
    have e1 : decide ((301 : Int) < (n : Int)) = false := by simp; omega
    have e2 : decide ((l : Int) - 2 < (n : Int)) = true := by simp; omega
    go_wp2_with fail
    refine bodyPost_ret (v := .tuple #[frV 0 none 0 0, .int .i64 0, .int .i64 3]) ?_ rfl ⟨rfl, ?_⟩
    · rw [results_cell_tmp2 rfl]
      unfold frV
      go_simp
    · exact (kw.setCell (Nat.le_refl _) _).setCell (Nat.le_refl _) _

set_option maxHeartbeats 1000000 in
theorem rread_kind (A : Option Addr) (bs : List UInt8) (l c : Nat) (w : World) (hr : Sl w w.heap.size A l c bs) (h2 : 2 ≤ l) (hl : l ≤ 900000) (n : Nat) (HN : Hid (val (bs.take 2) = n)) (n0 : n ≠ 0) (n1 : n ≤ 301) (hs : 2 + n ≤ l) (k : UInt8) (hk : bs[2]? = some k) (hk0 : k = 0) :
    Calls Try.prog 11 #[.slice A l c] w fun e w' => e = .returned (.tuple #[frV 0 none 0 0, .int .i64 0, .int .i64 2]) ∧ Below w.heap.size w w' := by
  have hlen := hr.len
  have hl0 : 0 < l := by omega
  have hl1 : (1 : Int) < (l : Int) := by omega
  have hd2 : decide ((l : Int) < 2) = false := by simp; omega
  obtain ⟨ad, rfl, hbl, hc0⟩ := hr.rd.at_ (k := 0) (by rw [bvs_length]; omega)
  obtain ⟨ad', hA, _, hc1⟩ := hr.rd.at_ (k := 1) (by rw [bvs_length]; omega)
  obtain rfl : ad = ad' := by injection hA
  have hn := HN.out
  rw [val_two bs (by omega)] at hn
  have b0 := (bs[0]).toNat_lt
  have b1 := (bs[1]).toNat_lt
  generalize hw0 : w.alloc (.cells #[.int .u8 0, .slice none 0 0] 30) = w0 at *
  have hcell0 : w0.cell? ad = some (.int .u8 ((bs[0]).toNat : Int)) := by
    have : ad.add 0 = ad := by simp [Addr.add]
    rw [← this, ← hw0, (kp_new w _).cell (by rw [add_block]; exact hbl), hc0]; simp [bvs, bv]
  have hcell1 : w0.cell? ⟨ad.block, ad.off + 1, none⟩ = some (.int .u8 ((bs[1]).toNat : Int)) := by
    have : ad.add 1 = ⟨ad.block, ad.off + 1, none⟩ := by simp [Addr.add]
    rw [← this, ← hw0, (kp_new w _).cell (by rw [add_block]; exact hbl), hc1]; simp [bvs, bv]
  have e1 : (256 : Int) * ((bs[0]).toNat : Int) + ((bs[1]).toNat : Int) = (n : Int) := by omega
  have E1 := Lib.hid e1
  clear hc0 hc1 hA hn e1
  have q1 := IntWalk.i64_in ((bs[0]).toNat : Int) (by omega)
  have q2 := IntWalk.i64_in (256 * ((bs[0]).toNat : Int)) (by omega)
  have q3 := IntWalk.i64_in ((bs[1]).toNat : Int) (by omega)
  have q4 := IntWalk.i64_in (256 * ((bs[0]).toNat : Int) + ((bs[1]).toNat : Int)) (by omega)
  have HW := Lib.hid hw0
  clear hw0
  go_enter Try.func11, Try.ntmps11
  go_wp2_with fail
  rw [HW.out]
  go_quiet (fail)
  clear q1 q2 q3 q4
  rw [E1.out]
  generalize hwq : w0.drewN nq = wq at *
  have kq : Below w0.heap.size w0 wq := by rw [← hwq]; exact kp_drewN _ _
  have kw : Below w.heap.size w wq := by
    have h := kp_new w (.cells #[.int .u8 0, .slice none 0 0] 30)
    rw [HW.out] at h
    exact kp_trans h kq
  have hblk : wq.heap[w.heap.size]? = some (.cells #[.int .u8 0, .slice none 0 0] 30 (0, 0)) := by
    rw [← HW.out] at kq
    exact two_new kq
  have hsz : w.heap.size < wq.heap.size := (Array.getElem?_eq_some_iff.1 hblk).1
  obtain ⟨c0, c1, f0, f1⟩ := two_cells hblk
  have hcell2 : wq.cell? ⟨ad.block, ad.off + 2, none⟩ = some (.int .u8 (k.toNat : Int)) := by
    have : ad.add 2 = ⟨ad.block, ad.off + 2, none⟩ := by simp [Addr.add]
    obtain ⟨ad', hA, _, hc2⟩ := hr.rd.at_ (k := 2) (by rw [bvs_length]; omega)
    obtain rfl : ad = ad' := by injection hA
    obtain ⟨h3, h4⟩ := List.getElem?_eq_some_iff.1 hk
    rw [← this, kw.cell (by rw [add_block]; exact hbl), hc2]; simp [bvs, bv, h4]
  subst hk0
  clear hwq kq HW hcell0 hcell1 E1 b0 b1 HN hblk hk
  have e0 : ((n : Int) == 0) = false := by simp; omega
  have e1 : decide ((301 : Int) < (n : Int)) = false := by simp; omega
  have e2 : decide ((l : Int) - 2 < (n : Int)) = false := by simp; omega
  have hl2 : (2 : Int) < (l : Int) := by omega
  go_wp2_with fail
  refine bodyPost_ret (v := .tuple #[frV 0 none 0 0, .int .i64 0, .int .i64 2]) ?_ rfl ⟨rfl, ?_⟩
  · rw [results_cell_tmp2 rfl]
    unfold frV
    go_simp
  · exact (kw.setCell (Nat.le_refl _) _).setCell (Nat.le_refl _) _

set_option maxHeartbeats 1000000 in
theorem rread_fine (A : Option Addr) (bs : List UInt8) (l c : Nat) (w : World) (hr : Sl w w.heap.size A l c bs) (h2 : 2 ≤ l) (hl : l ≤ 900000) (n : Nat) (HN : Hid (val (bs.take 2) = n)) (n0 : n ≠ 0) (n1 : n ≤ 301) (hs : 2 + n ≤ l) (k : UInt8) (hk : bs[2]? = some k) (hk0 : k ≠ 0) :
    Calls Try.prog 11 #[.slice A l c] w fun e w' => ∃ A' l' c', e = .returned (.tuple #[frV k A' l' c', .int .i64 (2 + (n : Int)), .int .i64 0]) ∧ Ow w' w.heap.size A' l' c' ((bs.take (2 + n)).drop 3) ∧ Below w.heap.size w w' := by
  obtain ⟨i0, hi, hz0, hz1, hz2⟩ := info_parts u8info
  obtain ⟨A3, hsl3, hr3⟩ := hr.cut2 Try.prog 22 Try.underlying22 u8size (i := 3) (j := 2 + n) 3 (2 + n) rfl (by omega) (by omega) hs
  have hlen := hr.len
  have hl0 : 0 < l := by omega
  have hl1 : (1 : Int) < (l : Int) := by omega
  have hd2 : decide ((l : Int) < 2) = false := by simp; omega
  obtain ⟨ad, rfl, hbl, hc0⟩ := hr.rd.at_ (k := 0) (by rw [bvs_length]; omega)
  obtain ⟨ad', hA, _, hc1⟩ := hr.rd.at_ (k := 1) (by rw [bvs_length]; omega)
  obtain rfl : ad = ad' := by injection hA
  have hn := HN.out
  rw [val_two bs (by omega)] at hn
  have b0 := (bs[0]).toNat_lt
  have b1 := (bs[1]).toNat_lt
  generalize hw0 : w.alloc (.cells #[.int .u8 0, .slice none 0 0] 30) = w0 at *
  have hcell0 : w0.cell? ad = some (.int .u8 ((bs[0]).toNat : Int)) := by
    have : ad.add 0 = ad := by simp [Addr.add]
    rw [← this, ← hw0, (kp_new w _).cell (by rw [add_block]; exact hbl), hc0]; simp [bvs, bv]
  have hcell1 : w0.cell? ⟨ad.block, ad.off + 1, none⟩ = some (.int .u8 ((bs[1]).toNat : Int)) := by
    have : ad.add 1 = ⟨ad.block, ad.off + 1, none⟩ := by simp [Addr.add]
    rw [← this, ← hw0, (kp_new w _).cell (by rw [add_block]; exact hbl), hc1]; simp [bvs, bv]
  have e1 : (256 : Int) * ((bs[0]).toNat : Int) + ((bs[1]).toNat : Int) = (n : Int) := by omega
  have E1 := Lib.hid e1
  clear hc0 hc1 hA hn e1
  have q1 := IntWalk.i64_in ((bs[0]).toNat : Int) (by omega)
  have q2 := IntWalk.i64_in (256 * ((bs[0]).toNat : Int)) (by omega)
  have q3 := IntWalk.i64_in ((bs[1]).toNat : Int) (by omega)
  have q4 := IntWalk.i64_in (256 * ((bs[0]).toNat : Int) + ((bs[1]).toNat : Int)) (by omega)
  have HW := Lib.hid hw0
  clear hw0
  go_enter Try.func11, Try.ntmps11
  go_wp2_with fail
  rw [HW.out]
  go_quiet (fail)
  clear q1 q2 q3 q4
  rw [E1.out]
  generalize hwq : w0.drewN nq = wq at *
  have kq : Below w0.heap.size w0 wq := by rw [← hwq]; exact kp_drewN _ _
  have kw : Below w.heap.size w wq := by
    have h := kp_new w (.cells #[.int .u8 0, .slice none 0 0] 30)
    rw [HW.out] at h
    exact kp_trans h kq
  have hblk : wq.heap[w.heap.size]? = some (.cells #[.int .u8 0, .slice none 0 0] 30 (0, 0)) := by
    rw [← HW.out] at kq
    exact two_new kq
  have hsz : w.heap.size < wq.heap.size := (Array.getElem?_eq_some_iff.1 hblk).1
  obtain ⟨c0, c1, f0, f1⟩ := two_cells hblk
  have hcell2 : wq.cell? ⟨ad.block, ad.off + 2, none⟩ = some (.int .u8 (k.toNat : Int)) := by
    have : ad.add 2 = ⟨ad.block, ad.off + 2, none⟩ := by simp [Addr.add]
    obtain ⟨ad', hA, _, hc2⟩ := hr.rd.at_ (k := 2) (by rw [bvs_length]; omega)
    obtain rfl : ad = ad' := by injection hA
    obtain ⟨h3, h4⟩ := List.getElem?_eq_some_iff.1 hk
    rw [← this, kw.cell (by rw [add_block]; exact hbl), hc2]; simp [bvs, bv, h4]
  have hkk : ((k.toNat : Int) == 0) = false := by
    have : k.toNat ≠ 0 := fun e => hk0 (UInt8.toNat_inj.1 e)
    simp; omega
  have hr3q := hr3.next kw
  replace hblk := Lib.hid hblk
  clear hwq kq HW hcell0 hcell1 E1 b0 b1 HN hk hk0
  have e0 : ((n : Int) == 0) = false := by simp; omega
  have e1 : decide ((301 : Int) < (n : Int)) = false := by simp; omega
  have e2 : decide ((l : Int) - 2 < (n : Int)) = false := by simp; omega
  have hl2 : (2 : Int) < (l : Int) := by omega
  go_wp2_with fail
  have q5 := IntWalk.i64_in (2 + (n : Int)) (by omega)
  have hb3 : Below wq.heap.size wq (wq.alloc (.cells #[] 5)).drew := (kp_new wq _).drew
  have ho3 := Ow.new wq wq.heap.size (Nat.le_refl _) [] (by simp)
  have hr3a := (hr3q.next (kp_new wq (.cells #[] 5))).drew
  have hbq : ad.block < wq.heap.size := by have := kw.size; omega
  have HF : Hid (∀ w5, Below wq.heap.size wq w5 → w5.cell? ⟨ad.block, ad.off + 2, none⟩ = some (.int .u8 (k.toNat : Int)) ∧ w5.heap[w.heap.size]? = some (.cells #[.int .u8 0, .slice none 0 0] 30 (0, 0))) :=
    Lib.hid fun w5 h5 => ⟨by rw [h5.cell (by exact hbq)]; exact hcell2, by rw [h5.block _ hsz]; exact hblk.out⟩
  have hcell3 := (HF.out _ hb3).1
  have hcell4 : (wq.alloc (.cells #[] 5)).cell? ⟨ad.block, ad.off + 2, none⟩ = some (.int .u8 (k.toNat : Int)) := hcell3
  go_region_law (refine step_append_rd rfl (.tmp 40) (.tmp 44) _ rfl wq.heap.size 5 i0 _ 1 Try.underlying22 hi hz0 hz1 hz2 rfl _ 0 _ rfl ho3.own.drew _ _ _ _ (bvs ((bs.take (2 + n)).drop 3)) rfl (by rw [bvs_length]; exact hr3.len) hr3a.rd (bvs_one _) (by unfold maxLen; omega) (by omega) (by simp) ?_; intro v5 w5 hown5 hg5; rw [← bvs_append, List.nil_append, Nat.zero_add] at hown5; obtain ⟨A5, c5, rfl, ho5⟩ := Ow.mk' hown5; have hb5 := hb3.trans (below_own ho3.own.drew hg5 (by simp)); obtain ⟨x5, x6⟩ := HF.out _ hb5; obtain ⟨d0, d1, g0, g1⟩ := two_cells x6; clear x6)
  all_goals
    go_wp2_with fail
    refine bodyPost_ret (v := .tuple #[frV k A5 (2 + n - 3) c5, .int .i64 (2 + (n : Int)), .int .i64 0]) ?_ rfl ⟨A5, 2 + n - 3, c5, rfl, ?_, ?_⟩
    · rw [results_cell_tmp2 rfl]
      unfold frV
      go_simp
    · exact ((ho5.setCell hsz _).setCell hsz _).base kw.size
    · exact ((kp_trans kw hb5).setCell (Nat.le_refl _) _).setCell (Nat.le_refl _) _

theorem rread_any (A : Option Addr) (bs : List UInt8) (l c : Nat) (w : World) (hr : Sl w w.heap.size A l c bs) (hl : l ≤ 900000) : AnsF 11 #[.slice A l c] w (readF bs) := by
  have hlen := hr.len
  unfold readF
  by_cases h2 : bs.length < 2
  · rw [if_pos h2]
    exact (rread_few A l c w (by omega)).mono fun e w' ⟨he, hb⟩ => ⟨none, 0, 0, he, Ow.nil _ _, hb⟩
  rw [if_neg h2]
  by_cases h0 : val (bs.take 2) = 0
  · rw [if_pos h0]
    exact (rread_no A bs l c w hr (by omega) hl 0 (Lib.hid h0) 2 (.zero rfl)).mono fun e w' ⟨he, hb⟩ => ⟨none, 0, 0, he, Ow.nil _ _, hb⟩
  rw [if_neg h0]
  by_cases h1 : 301 < val (bs.take 2)
  · rw [if_pos h1]
    exact (rread_no A bs l c w hr (by omega) hl _ (Lib.hid rfl) 4 (.long h0 h1)).mono fun e w' ⟨he, hb⟩ => ⟨none, 0, 0, he, Ow.nil _ _, hb⟩
  rw [if_neg h1]
  by_cases hs : bs.length < 2 + val (bs.take 2)
  · rw [if_pos hs]
    exact (rread_no A bs l c w hr (by omega) hl _ (Lib.hid rfl) 3 (.behind h0 (by omega) (by omega))).mono fun e w' ⟨he, hb⟩ => ⟨none, 0, 0, he, Ow.nil _ _, hb⟩
  rw [if_neg hs]
  have hg : bs[2]? = some (bs.getD 2 0) := by rw [List.getD_eq_getElem?_getD, List.getElem?_eq_getElem (by omega)]; rfl
  by_cases hk : bs.getD 2 0 = 0
  · rw [if_pos hk]
    exact (rread_kind A bs l c w hr (by omega) hl _ (Lib.hid rfl) h0 (by omega) (by omega) _ hg hk).mono fun e w' ⟨he, hb⟩ => ⟨none, 0, 0, he, Ow.nil _ _, hb⟩
  rw [if_neg hk]
  exact (rread_fine A bs l c w hr (by omega) hl _ (Lib.hid rfl) h0 (by omega) (by omega) _ hg hk).mono fun e w' ⟨A', l', c', he, ho, hb⟩ => ⟨A', l', c', by rw [he]; simp, ho, hb⟩
end Go.Proofs.Ytmohgfmknkfcaaa
