/-
  What slices.Concat makes of rows of bytes: contract.
-/
import Derived.Test.YtmklmakcampbbaaDoorFrameB
import Derived.Lib.AppendZerosOnto
namespace Go.Proofs.YtmklmakcampbbaaDoor
open Go.RowKit
set_option maxRecDepth 100000

set_option maxHeartbeats 400000 in
theorem grow_nil (n : Nat) (w : World) (hn : n ≤ 1000000) :
    Calls Tryd.prog 51 #[.slice none 0 0, .int .i64 n] w fun e w' => ∃ A' c', e = .returned (.slice A' 0 c') ∧ Ow w' w.heap.size A' 0 c' [] ∧ Below w.heap.size w w' := by
  obtain ⟨i0, hi, hz0, hz1, hz2⟩ := info_parts u8info
  rcases Nat.eq_zero_or_pos n with rfl | hpos
  · go_enter Tryd.func51, Tryd.ntmps51
    go_wp2_with fail
    go_ret
    exact ⟨none, 0, rfl, Ow.nil _ _, Below.refl _ _⟩
  · have hrz : ∀ ty, (Builtin.append_ #[26, 3] ty #[.slice none 0 0, .int .i64 (n : Int)]).run Tryd.prog w =
        .ok (.slice (some ⟨w.heap.size, 0, none⟩) n (grownCap w n 0 5)) (w.drew.alloc (.cells (([] : List Value).toArray ++ Builtin.zeroCells (Value.int .u8 0).cells n ++ Builtin.zeroCells (Value.int .u8 0).cells (grownCap w n 0 5 - n)) 5)) := fun ty => by
      have h := Lib.run_append_grow_zeros (P := Tryd.prog) w 26 3 ty 5 i0 (.int .u8 0) .i64 .i64 Tryd.underlying26 Tryd.underlying3 hi hz0 none 0 0 [] (run_firstCells_none w.drew i0.size 0 0 0) n hpos (by omega) (by omega) (by omega) (by rw [hz2]; omega)
        (by rw [hz2]; exact growslice_fits (by omega) (by omega))
      simpa using h
    have hG1 := grownCap_ge w n 0 5
    have hG2 := grownCap_le_maxLen w n 0 5 (by unfold maxLen; omega)
    generalize grownCap w n 0 5 = G at *
    have hg3 : G ≤ 9223372036854775807 := by unfold maxLen at hG2; omega
    go_enter Tryd.func51, Tryd.ntmps51
    go_wp2_with (at_builtin; refine Lib.wpList_append_run _ rfl _ _ _ _ rfl _ _ rfl rfl _ _ (hrz _) ?_)
    all_goals
      go_ret
      refine ⟨_, _, rfl, ⟨⟨by simp [bvs], .inr ⟨w.heap.size, G, _, rfl, Nat.le_refl _, heap_alloc_new w.drew _, by omega, hG2, ?_, by simp [bvs]⟩⟩, rfl, by omega, hg3⟩, (Below.refl _ _).drew.alloc (Nat.le_refl _) _⟩
      simp [Builtin.zeroCells]
      omega

/-- a row of bytes as it lies: address, length, capacity, what it reads -/
structure Part where
  A : Option Addr
  l : Nat
  c : Nat
  bs : List UInt8
def flat (ps : List Part) : List UInt8 := ps.flatMap (·.bs)
def sizes (ps : List Part) : Nat := (flat ps).length
theorem flat_next (ps : List Part) (k : Nat) (h : k < ps.length) : flat (ps.take (k + 1)) = flat (ps.take k) ++ ps[k].bs := by
  rw [List.take_succ_eq_append_getElem h]
  simp only [flat, List.flatMap_append, List.flatMap_cons, List.flatMap_nil, List.append_nil]
theorem sizes_next (ps : List Part) (k : Nat) (h : k < ps.length) : sizes (ps.take (k + 1)) = sizes (ps.take k) + ps[k].bs.length := by
  rw [sizes, flat_next ps k h, List.length_append, sizes]
theorem sizes_le (ps : List Part) (k : Nat) : sizes (ps.take k) ≤ sizes ps := by
  have h : flat ps = flat (ps.take k) ++ flat (ps.drop k) := by rw [flat, flat, flat, ← List.flatMap_append, List.take_append_drop]
  rw [sizes, sizes, h, List.length_append]
  omega

set_option maxHeartbeats 400000 in
theorem concat_any (ad : Addr) (m c : Nat) (ps : List Part) (w : World) (hm : ps.length = m) (hm6 : m ≤ 1000) (had : ad.block < w.heap.size)
    (hc : ∀ j (h : j < ps.length), w.cell? (ad.add j) = some (.slice ps[j].A ps[j].l ps[j].c)) (hs : ∀ j (h : j < ps.length), Sl w w.heap.size ps[j].A ps[j].l ps[j].c ps[j].bs) (htot : sizes ps ≤ 900000) (r : List UInt8) (hr : Hid (flat ps = r)) (L : Nat) (hL : sizes ps = L) :
    Calls Tryd.prog 40 #[.slice (some ad) m c] w fun e w' => ∃ A' c', e = .returned (.slice A' L c') ∧ Ow w' w.heap.size A' L c' r ∧ Below w.heap.size w w' := by
  obtain ⟨i0, hi, hz0, hz1, hz2⟩ := info_parts u8info
  have Hc := Lib.hid hc
  have Hs := Lib.hid hs
  have HL := Lib.hid hL
  have HM := Lib.hid hm
  clear hc hs hL hm
  go_enter Tryd.func40, Tryd.ntmps40
  go_wp2_with fail
  go_loop [3, 11] (fun n i => ∃ k z : Nat, k ≤ m ∧ i = .int .i64 k ∧ n = .int .i64 z ∧ Hid (sizes (ps.take k) = z) ∧ z ≤ 900000) (fun _ i => m - (intOf i).toNat)
  case atStart => exact ⟨0, 0, Nat.zero_le _, rfl, rfl, Lib.hid rfl, by omega⟩
  case round =>
    obtain ⟨k, z, hk, rfl, rfl, hz, hz9⟩ := hrel
    by_cases hlt : k < m
    · have hkl : k < ps.length := by rw [HM.out]; exact hlt
      have hcell := Hc.out k hkl
      have hl := (Hs.out k hkl).len
      have hsn := sizes_next ps k hkl
      rw [hz.out, hl] at hsn
      have hle := sizes_le ps (k + 1)
      rw [hsn] at hle
      have hle2 : z + ps[k].l ≤ 900000 := by omega
      generalize ps[k].l = lk at *
      generalize ps[k].A = Ak at *
      generalize ps[k].c = ck at *
      have HSN := Lib.hid hsn
      clear hsn hle hl
      go_wp2_with fail
      go_round
      case rel => exact ⟨k + 1, z + lk, by omega, by go_num, by go_num, HSN, hle2⟩
      case measure => simp [intOf]; omega
    · obtain rfl : k = m := by omega
      have hzL : z = L := by rw [← hz.out, ← HL.out, List.take_of_length_le (by rw [HM.out]; exact Nat.le_refl _)]
      subst hzL
      go_wp2_with fail
      refine (grow_nil z _ (by omega)).mono ?_
      rintro e w1 ⟨A1, c1, rfl, ho1, hb1⟩
      go_wp2_with fail
      go_loopw [6, 27] (fun v i wr => ∃ (q z' : Nat) (A' : Option Addr) (c' : Nat), q ≤ k ∧ i = .int .i64 q ∧ v = .slice A' z' c' ∧ Hid (sizes (ps.take q) = z') ∧ z' ≤ 900000 ∧ Ow wr w.heap.size A' z' c' (flat (ps.take q)) ∧ Below w.heap.size w wr) (fun _ i _ => k - (intOf i).toNat)
      case atStart => exact ⟨0, 0, A1, c1, Nat.zero_le _, rfl, rfl, Lib.hid rfl, by omega, ho1, hb1⟩
      case round =>
        obtain ⟨q, z', A2, c2, hq, rfl, rfl, hz', hz9', ho2, hb2⟩ := hrel
        by_cases hlt2 : q < k
        · have hkl : q < ps.length := by rw [HM.out]; exact hlt2
          have hcell := Hc.out q hkl
          rw [← hb2.cell (by rw [add_block]; exact had)] at hcell
          have hsq := (Hs.out q hkl).next hb2
          have hl := (Hs.out q hkl).len
          have hsn := sizes_next ps q hkl
          rw [hz'.out, hl] at hsn
          have hle := sizes_le ps (q + 1)
          rw [hsn] at hle
          have hle2 : z' + ps[q].l ≤ 900000 := by omega
          have HF := Lib.hid (flat_next ps q hkl)
          have hsz := hb2.size
          generalize ps[q].l = lk at *
          generalize ps[q].A = Ak at *
          generalize ps[q].c = ck at *
          generalize ps[q].bs = bk at *
          have HSN := Lib.hid hsn
          clear hsn hle hl
          go_wp2_with (at_builtin; refine wpList_append_rd rfl _ _ _ rfl w.heap.size 5 i0 _ 1 Tryd.underlying26 hi hz0 hz1 hz2 rfl _ z' _ rfl ho2.own wr.heap.size _ _ _ (bvs bk) rfl (by rw [bvs_length]; exact hsq.len) hsq.rd (bvs_one _) (by unfold maxLen; omega) (by omega) hsz ?_; intro v3 w3 hown3 hg3; rw [← bvs_append] at hown3; obtain ⟨A3, c3, rfl, ho3⟩ := Ow.mk' hown3)
          go_roundw
          case rel => exact ⟨q + 1, z' + lk, A3, c3, by omega, by go_num, rfl, HSN, hle2, by rw [HF.out]; exact ho3, hb2.trans (below_own ho2.own hg3 hsz)⟩
          case measure => simp [intOf]; omega
        · obtain rfl : q = k := by omega
          have hzL : z' = z := by rw [← hz'.out, ← hz.out]
          subst hzL
          go_wp2_with fail
          go_ret
          refine ⟨A2, c2, rfl, ?_, hb2⟩
          rw [← hr.out, ← List.take_of_length_le (l := ps) (by rw [HM.out]; exact Nat.le_refl _)]
          exact ho2

/-- Concat of a new row of rows -/
theorem concat_new (w : World) (ps : List Part) (m : Nat) (hm : ps.length = m) (hm6 : m ≤ 1000) (hs : ∀ p ∈ ps, Sl w w.heap.size p.A p.l p.c p.bs) (htot : sizes ps ≤ 900000) (r : List UInt8) (hr : Hid (flat ps = r)) (L : Nat) (hL : sizes ps = L) :
    Calls Tryd.prog 40 #[.slice (some ⟨w.heap.size, 0, none⟩) m m] (w.alloc (.cells (ps.map fun p => Value.slice p.A p.l p.c).toArray 26)) fun e w' => ∃ A' c', e = .returned (.slice A' L c') ∧ Ow w' w.heap.size A' L c' r ∧ Below w.heap.size w w' := by
  refine (concat_any ⟨w.heap.size, 0, none⟩ m m ps _ hm hm6 (by simp) (fun j h => ?_) (fun j h => (hs _ (List.getElem_mem h)).next (kp_new _ _)) htot r hr L hL).mono fun e w' ⟨A', c', he, ho, hb⟩ => ⟨A', c', he, ho.base (by simp), kp_trans (kp_new _ _) hb⟩
  rcases Rd.new w 26 (ps.map fun p => Value.slice p.A p.l p.c) with h0 | ⟨ad, e, _, hc⟩
  · have := congrArg List.length h0
    simp at this
    subst this
    simp at h
  · injection e with e
    subst e
    exact hc j _ (by simp [h])
end Go.Proofs.YtmklmakcampbbaaDoor
