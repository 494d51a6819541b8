/-
  A tally's Lines, of package tally: contract.
-/
import Derived.Test.YtkkmjoadhjnldaaDoorTaQ
import Derived.Test.YtkkmjoadhjnldaaDoorTaL
import Derived.Test.YtkkmjoadhjnldaaDoorShelf
import Derived.Lib.AppendIntMem
namespace Go.Proofs.YtkkmjoadhjnldaaDoor
open Go.RowKit Go.Maps
set_option maxRecDepth 100000

def tabName : String := "internal/strconv.uint64pow10"
theorem fmt7_ok (v : Int) (h0 : -9223372036854775808 ≤ v) (h1 : v ≤ 9223372036854775807) (w : World) (htab : Lib.TabIs Tryd.prog w tabName .u64 Lib.pow10Tab) :
    Calls Tryd.prog 27 #[.int .i64 v, .int .i64 10] w fun e w' => e = .returned (.string ⟨(Lib.itoa v).toArray⟩) ∧ Below w.heap.size w w' := by
  refine (Tryd.strconv_FormatInt_10 v h0 h1 w htab).mono ?_
  rintro e w' ⟨rfl, k, os, rfl⟩
  have h2 := kp_drewN w k
  refine ⟨rfl, h2.os, h2.tape, h2.output, ?_, fun i hi => ?_⟩
  · have := h2.size
    rw [Sort.size_grow]
    omega
  · rw [← h2.block i hi]
    have := h2.size
    simp only [Sort.grow]
    rw [Array.getElem?_append_left (by omega)]
theorem itoa_len {v : Int} (h0 : -9223372036854775808 ≤ v) (h1 : v ≤ 9223372036854775807) : (Lib.itoa v).length ≤ 20 := by
  unfold Lib.itoa
  split
  · have := dec_len 19 v.natAbs (by omega) (by decide)
    simp
    omega
  · have := dec_len 19 v.toNat (by omega) (by decide)
    omega

set_option maxHeartbeats 4000000 in
theorem lines7_ok (S : Nat → Prop) (b : Nat) (l ns : List ByteArray) (cs : List Int) (B0 : Nat) (w : World) (h : PT S w b l ns cs) (htab : Lib.TabBelow Tryd.prog B0 w tabName .u64 Lib.pow10Tab) (hS : ∀ k, S k → B0 ≤ k) (hB0 : B0 ≤ w.heap.size) (hcs : ∀ n ∈ cs, -9223372036854775808 ≤ n ∧ n ≤ 9223372036854775807) (hz : ∀ s ∈ ns, s.size ≤ 1000) :
    Calls Tryd.prog 18 #[.pointer (some ⟨b, 0, none⟩)] w fun e w' => ∃ A' n' c' ss, e = .returned (.slice A' n' c') ∧ XR w' A' n' ss ∧ bls ss = linesT ns cs ∧ n' ≤ 1000 ∧ (∀ ad, A' = some ad → w.heap.size ≤ ad.block ∧ ad.block < w'.heap.size) ∧ PC S w b l ns cs w' := by
  obtain ⟨i0, hi, hz0, hz1, hz2⟩ := info_parts strinfo6
  have HR := Lib.hid (ready7_ok S b l ns cs w h)
  have hlen := Lib.hid h.len
  have HT := Lib.hid htab
  have HS := Lib.hid hS
  have HB0 := Lib.hid hB0
  have HC := Lib.hid hcs
  have HZ := Lib.hid hz
  clear h htab hS hB0 hcs hz
  go_enter Tryd.func18, Tryd.ntmps18
  go_wp2_with fail
  refine HR.out.mono ?_
  rintro e w1 ⟨rfl, hr⟩
  obtain ⟨⟨S', A, m, ca, bm, B, cb, hm, hpt, hsub⟩, hoff⟩ := hr
  obtain ⟨x, ht⟩ := hm.cls
  obtain ⟨_, _, _, c3, _, c5⟩ := ht.cells
  have HCells := Lib.hid (fun u (hu : Below w1.heap.size w1 u) => (ht.next hu).cells)
  have hxr := XR.of_own hm.nm
  have HX := Lib.hid (fun u (hu : Below w1.heap.size w1 u) => hxr.next hu)
  have HNL := Lib.hid hxr.len
  have HO := Lib.hid hm.ct
  have hm2 := hm.ct.1
  rw [ivs_length] at hm2
  have HCL := Lib.hid (show cs.length = m by omega)
  have hm1 : m ≤ 900 := by have := hxr.len; have := hlen.out.2; omega
  have HTab := Lib.hid (HT.out.on (hoff.below HS.out HB0.out))
  have HW := Lib.hid (show B0 ≤ w1.heap.size by have := hoff.size; have := HB0.out; omega)
  have HW0 := Lib.hid hoff.size
  have HFin : Hid (∀ u, Below w1.heap.size w1 u → PC S w b l ns cs u) := Lib.hid fun u hu => ⟨⟨S', hpt.next hu, hsub⟩, hoff.trans (Off.of (fun _ => False) hu) (fun i h => h.elim)⟩
  clear hm ht hxr hpt hsub hoff hm2
  go_wp2_with fail
  go_loopw [3, 14] (fun o i wr => ∃ (k z : Nat) (D : Option Addr) (e : Nat) (ss : List ByteArray), k ≤ m ∧ z ≤ k ∧ i = .int .i64 k ∧ o = .slice D z e ∧ Hid (wr.ownsRow w1.heap.size 9 1 (.slice D z e) z (tvs ss)) ∧ Hid (bls ss = linesT (ns.take k) (cs.take k)) ∧ Below w1.heap.size w1 wr) (fun _ i _ => m - (intOf i).toNat)
  case atStart => exact ⟨0, 0, none, 0, [], Nat.zero_le _, Nat.le_refl _, rfl, rfl, Lib.hid (World.ownsRow_nil _ _ _ _), Lib.hid rfl, Below.refl _ _⟩
  case round =>
    obtain ⟨k, z, D, e, ss, hk, hzk, rfl, rfl, ho, hs, k0⟩ := hrel
    obtain ⟨_, _, _, b3, _, b5⟩ := HCells.out wr k0
    have hsz0 := k0.size
    by_cases hlt : k < m
    · have hkl : k < ns.length := by rw [HNL.out]; exact hlt
      have hkc : k < cs.length := by rw [HCL.out]; exact hlt
      obtain ⟨ad, rfl, had, x0⟩ := (HX.out wr k0).at_ hkl
      obtain ⟨g, hBg, c0, _, hgl, cur, hcur⟩ := ivs_cell HO.out hkc
      subst hBg
      have hc1 : wr.cell? ⟨g, k, none⟩ = some (.int .i64 cs[k]) := (k0.cell hgl).trans c0
      have HLo := Lib.hid (atLoad_ok ⟨g, k, none⟩ cs[k] wr hc1)
      have hnx := lines_next ns cs k hkl hkc
      have hxz := HZ.out ns[k] (List.getElem_mem hkl)
      have hcr := HC.out cs[k] (List.getElem_mem hkc)
      have hkm : (k : Int) < (m : Int) := by omega
      clear c0 hcur hc1
      generalize ns[k] = x at *
      generalize hcv : cs[k] = v at *
      clear hcv
      by_cases hv0 : v = 0
      · subst hv0
        have hs2 : Hid (bls ss = linesT (ns.take (k + 1)) (cs.take (k + 1))) := Lib.hid (by rw [hnx, if_pos rfl, List.append_nil]; exact hs.out)
        clear hnx hs
        go_wp2_with fail
        refine HLo.out.mono ?_
        rintro e2 w2 ⟨rfl, rfl⟩
        go_wp2_with fail
        go_roundw
        case rel => exact ⟨k + 1, z, D, e, ss, by omega, by omega, by go_num, rfl, ho, hs2, k0⟩
        case measure => simp [intOf]; omega
      rw [if_neg hv0] at hnx
      have l1 : (⟨#[32]⟩ : ByteArray).size = 1 := rfl
      have hFm := fmt7_ok v hcr.1 hcr.2 wr ((HTab.out.on (k0.mono HW.out)).here)
      have hil := itoa_len hcr.1 hcr.2
      obtain ⟨dg, hdg⟩ : ∃ dg : ByteArray, dg = ⟨(Lib.itoa v).toArray⟩ := ⟨_, rfl⟩
      have hdl : dg.data.toList = Lib.itoa v := by rw [hdg]
      have hdz : dg.size ≤ 20 := by
        rw [← hdl, bytes_len] at hil
        exact hil
      rw [← hdg] at hFm
      have hs2 : Hid (bls (ss ++ [(x ++ ⟨#[32]⟩) ++ dg]) = linesT (ns.take (k + 1)) (cs.take (k + 1))) := Lib.hid (by
        rw [hnx, bls_append, hs.out]
        simp only [bls, lineT, List.map_cons, List.map_nil, add_bytes, hdl]
        simp)
      have HFm := Lib.hid hFm
      have q1 : ¬ (9223372036854775807 < x.size + 1) := by omega
      have q2 : ¬ ((9223372036854775807 : Int) < (x.size : Int) + 1) := by omega
      have q3 : ¬ (9223372036854775807 < x.size + 1 + dg.size) := by omega
      have q4 : ¬ ((9223372036854775807 : Int) < (x.size : Int) + 1 + (dg.size : Int)) := by omega
      have hvb : (v != 0) = true := by simpa using hv0
      clear hdg hdl hnx hs hFm hil hv0
      go_wp2_with fail
      refine HLo.out.mono ?_
      rintro e2 w2 ⟨rfl, rfl⟩
      go_wp2_with fail
      refine HFm.out.mono ?_
      rintro e2 w2 ⟨rfl, k2⟩
      have K2 := k0.trans (k2.mono k0.size)
      have HO1 := Lib.hid ((own_below_s ho.out k2 (Nat.le_refl _)).alloc (.cells #[.string ((x ++ ⟨#[32]⟩) ++ dg)] 9))
      have HS1 : Hid (Rd (w2.alloc (.cells #[.string ((x ++ ⟨#[32]⟩) ++ dg)] 9)) (w2.heap.size + 1) (some ⟨w2.heap.size, 0, none⟩) [.string ((x ++ ⟨#[32]⟩) ++ dg)]) := Lib.hid (Rd.new w2 9 [.string ((x ++ ⟨#[32]⟩) ++ dg)])
      have KA := Lib.hid (K2.alloc K2.size (.cells #[.string ((x ++ ⟨#[32]⟩) ++ dg)] 9))
      clear k2 K2
      go_wp2_with (at_builtin; refine wpList_append_rd rfl _ _ _ rfl w1.heap.size 9 i0 _ 16 Tryd.underlying22 hi hz0 hz1 hz2 rfl _ z _ rfl HO1.out _ _ _ _ [_] rfl rfl HS1.out (by simp [Value.oneCell']) (by unfold maxLen; omega) (by omega) KA.out.size ?_; intro v3 w3 hown3 hg3; obtain ⟨A3, c4, rfl, _, _⟩ := own_form hown3; have k3 := KA.out.trans (below_own_s HO1.out hg3 KA.out.size))
      go_roundw
      case rel =>
        refine ⟨k + 1, z + 1, A3, c4, _, by omega, by omega, by go_num, rfl, Lib.hid ?_, hs2, k3⟩
        rw [tvs_append]
        exact hown3
      case measure => simp [intOf]; omega
    · obtain rfl : k = m := by omega
      rw [List.take_of_length_le (by rw [HNL.out]; exact Nat.le_refl _), List.take_of_length_le (by rw [HCL.out]; exact Nat.le_refl _)] at hs
      go_wp2_with fail
      go_ret
      exact ⟨D, z, e, ss, rfl, XR.of_own ho.out, hs.out, by omega, fun ad ea => by have h1 := ho.out.lt ad.block (by rw [ea]; rfl); have h2 := HW0.out; exact ⟨by omega, h1.2⟩, HFin.out wr k0⟩
end Go.Proofs.YtkkmjoadhjnldaaDoor
