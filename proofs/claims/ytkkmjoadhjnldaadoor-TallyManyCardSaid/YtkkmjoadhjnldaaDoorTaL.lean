/-
  The document's layer 7: a tally's lines, by the call: contract.
-/
import Derived.Test.YtkkmjoadhjnldaaDoorTaR
namespace Go.Proofs.YtkkmjoadhjnldaaDoor
open Go.RowKit
set_option maxRecDepth 100000

theorem bytes_len (s : ByteArray) : s.data.toList.length = s.size := by rw [Array.length_toList]; rfl
def bls (ss : List ByteArray) : List (List UInt8) := ss.map fun x => x.data.toList
theorem bls_append (a b : List ByteArray) : bls (a ++ b) = bls a ++ bls b := by simp [bls]
theorem lines_next : ∀ (ns : List ByteArray) (cs : List Int) (k : Nat) (h : k < ns.length) (h2 : k < cs.length), linesT (ns.take (k + 1)) (cs.take (k + 1)) = linesT (ns.take k) (cs.take k) ++ if cs[k] = 0 then [] else [lineT ns[k] cs[k]]
  | [], _, _, h, _ => by simp at h
  | _ :: _, [], _, _, h => by simp at h
  | s :: ns, n :: cs, 0, _, _ => by
    simp only [List.take_succ_cons, List.take_zero, List.getElem_cons_zero]
    unfold linesT
    by_cases h : n = 0
    · rw [if_pos h, if_pos h]; simp [linesT]
    · rw [if_neg h, if_neg h]; simp [linesT]
  | s :: ns, n :: cs, k + 1, h, h2 => by
    have ih := lines_next ns cs k (by simpa using h) (by simpa using h2)
    simp only [List.take_succ_cons, List.getElem_cons_succ]
    rw [linesT, linesT]
    by_cases hn : n = 0
    · rw [if_pos hn, if_pos hn, ih]
    · rw [if_neg hn, if_neg hn, ih]
      simp
theorem add_bytes (a b : ByteArray) : (a ++ b).data.toList = a.data.toList ++ b.data.toList := by simp
theorem itoa_up {u : Nat} (_ : 0 < u) : Lib.itoa (u : Int) = Lib.decDigits u := by
  unfold Lib.itoa
  rw [if_neg (by omega)]
  simp
theorem itoa_down {u : Nat} (h : 0 < u) : Lib.itoa (-(u : Int)) = 45 :: Lib.decDigits u := by
  unfold Lib.itoa
  rw [if_pos (by omega)]
  simp

set_option maxHeartbeats 4000000 in
theorem rlines_ok (lo hi b : Nat) (B : Option Addr) (ns : List ByteArray) (cs : List Int) (w : World) (h : RT lo hi w b B ns cs) (hz : ∀ s ∈ ns, s.size ≤ 1000) (hcs : ∀ n ∈ cs, -9223372036854775808 ≤ n ∧ n ≤ 9223372036854775807) :
    Calls Tryd.prog 19 #[.pointer (some ⟨b, 0, none⟩)] w fun e w' => ∃ A' n' c' ss, e = .returned (.slice A' n' c') ∧ XR w' A' n' ss ∧ bls ss = linesT ns cs ∧ n' ≤ 1000 ∧ Below w.heap.size w w' := by
  obtain ⟨i0, hi, hz0, hz1, hz2⟩ := info_parts strinfo6
  have hlen := h.len
  have hf := h.few
  obtain ⟨A, n, ca, m, cb, hb, hx0, hown, _, _⟩ := h.lay
  have hn := (XR.of_own hx0).len
  have hm := hown.1
  rw [ivs_length] at hm
  have hbl : b < w.heap.size := (Array.getElem?_eq_some_iff.1 hb).1
  have HB := Lib.hid (fun u (hu : Below w.heap.size w u) => cells2t ((hu.block b hbl).trans hb))
  have HX := Lib.hid (fun u (hu : Below w.heap.size w u) => (XR.of_own hx0).next hu)
  have HO := Lib.hid hown
  have HZ := Lib.hid hz
  have HC := Lib.hid hcs
  have hmn : m = n := by omega
  subst hmn
  have HNL := Lib.hid hn
  have HCL := Lib.hid (show cs.length = m by omega)
  have hown0 := Lib.hid (own_new_s w w.heap.size 1 9 0 [] rfl (Nat.le_refl _) (by simp [maxLen]))
  have hk0 := Lib.hid (kp_new w (.cells #[] 9))
  have hm1 : m ≤ 1000 := by omega
  clear h hb hx0 hown hm hn hlen hf hz hcs
  go_enter Tryd.func19, Tryd.ntmps19
  go_wp2_with fail
  go_loopw [3, 4] (fun o i wr => ∃ (k z : Nat) (D : Option Addr) (e : Nat) (ss : List ByteArray), k ≤ m ∧ z ≤ k ∧ i = .int .i64 k ∧ o = .slice D z e ∧ Hid (wr.ownsRow w.heap.size 9 1 (.slice D z e) z (tvs ss)) ∧ Hid (bls ss = linesT (ns.take k) (cs.take k)) ∧ Below w.heap.size w wr) (fun _ i _ => m - (intOf i).toNat)
  case atStart => exact ⟨0, 0, _, 0, [], Nat.zero_le _, Nat.le_refl _, rfl, rfl, hown0, Lib.hid rfl, hk0.out⟩
  case round =>
    obtain ⟨k, z, D, e, ss, hk, hzk, rfl, rfl, ho, hs, k0⟩ := hrel
    obtain ⟨b0, b1, _, _⟩ := HB.out wr k0
    have hsz0 := k0.size
    by_cases hlt : k < m
    · have hkl : k < ns.length := by rw [HNL.out]; exact hlt
      have hkc : k < cs.length := by rw [HCL.out]; exact hlt
      obtain ⟨ad, rfl, had, x0⟩ := (HX.out wr k0).at_ hkl
      have HXA := Lib.hid (fun u (hu : Below w.heap.size w u) => ((HX.out u hu).at_ hkl))
      obtain ⟨g, hBg, c0, _, hgl, cur, hcur⟩ := ivs_cell HO.out hkc
      subst hBg
      have hc1 : wr.cell? ⟨g, k, none⟩ = some (.int .i64 cs[k]) := (k0.cell hgl).trans c0
      have hnx := lines_next ns cs k hkl hkc
      have hxz := HZ.out ns[k] (List.getElem_mem hkl)
      have hcr := HC.out cs[k] (List.getElem_mem hkc)
      have hkm : (k : Int) < (m : Int) := by omega
      have HCA : Hid (∀ u, Below w.heap.size w u → u.cell? (ad.add k) = some (.string ns[k])) := Lib.hid fun u hu => by
        obtain ⟨ad2, e2, _, c2⟩ := HXA.out u hu
        injection e2 with e2
        subst e2
        exact c2
      clear c0 hcur HXA
      generalize ns[k] = x at *
      generalize hcv : cs[k] = v at *
      clear hcv
      by_cases hv0 : v = 0
      · subst hv0
        have hs2 : Hid (bls ss = linesT (ns.take (k + 1)) (cs.take (k + 1))) := Lib.hid (by rw [hnx, if_pos rfl, List.append_nil]; exact hs.out)
        clear hnx hs
        go_wp2_with fail
        go_roundw
        case rel => exact ⟨k + 1, z, D, e, ss, by omega, by omega, by go_num, rfl, ho, hs2, k0⟩
        case measure => simp [intOf]; omega
      rw [if_neg hv0] at hnx
      have l1 : (⟨#[32]⟩ : ByteArray).size = 1 := rfl
      have l2 : (⟨#[32, 45]⟩ : ByteArray).size = 2 := rfl
      by_cases hpos : 0 < v
      · obtain ⟨u, rfl, hu0⟩ : ∃ u : Nat, v = (u : Int) ∧ 0 < u := ⟨v.natAbs, by omega, by omega⟩
        have hub : u ≤ 9223372036854775807 := by omega
        have HD := Lib.hid (fun w' => digits_ok u (by omega) w')
        obtain ⟨dg, hdg⟩ : ∃ dg : ByteArray, dg = ⟨(Lib.decDigits u).toArray⟩ := ⟨_, rfl⟩
        have hdl : dg.data.toList = Lib.decDigits u := by rw [hdg]
        have hdz : dg.size ≤ 19 := by
          have := dec_len 19 u (by omega) (by decide)
          rw [← hdl, bytes_len] at this
          exact this
        have HDG : Hid (∀ r : ByteArray, r.data.toList = Lib.decDigits u → r = dg) := Lib.hid fun r hr => by
          rw [hdg, ← hr]
        have hs2 : Hid (bls (ss ++ [(x ++ ⟨#[32]⟩) ++ dg]) = linesT (ns.take (k + 1)) (cs.take (k + 1))) := Lib.hid (by
          rw [hnx, bls_append, hs.out]
          simp only [bls, lineT, List.map_cons, List.map_nil, add_bytes, hdl]
          rw [itoa_up hu0]
          simp)
        have q1 : ¬ (9223372036854775807 < x.size + 1) := by omega
        have q2 : ¬ ((9223372036854775807 : Int) < (x.size : Int) + 1) := by omega
        have q3 : ¬ (9223372036854775807 < x.size + 1 + dg.size) := by omega
        have q4 : ¬ ((9223372036854775807 : Int) < (x.size : Int) + 1 + (dg.size : Int)) := by omega
        have hn0 : decide ((u : Int) < 0) = false := decide_eq_false (by omega)
        have hw : IntKind.i64.wrap (-(u : Int)) = -(u : Int) := by rw [IntKind.wrap_i64]; omega
        clear hdg hdl hnx hs hv0
        go_wp2_with fail
        go_region_law (first
          | (go_simp; go_at_call 28; refine (HD.out _).mono ?_; rintro e' w1 ⟨r, rfl, hr, k1⟩; obtain rfl := HDG.out r hr; clear hr; have K1 := kp_trans k0 ((kp_drewN wr 1).trans k1); obtain ⟨b2, b3, _, _⟩ := HB.out w1 K1; have x1 := HCA.out w1 K1;
             have HO1 := Lib.hid ((own_below_s ho.out ((kp_drewN wr 1).trans k1) (Nat.le_refl _)).alloc (.cells #[.string ((x ++ ⟨#[32]⟩) ++ r)] 9)); have HS1 : Hid (Rd (w1.alloc (.cells #[.string ((x ++ ⟨#[32]⟩) ++ r)] 9)) (w1.heap.size + 1) (some ⟨w1.heap.size, 0, none⟩) [.string ((x ++ ⟨#[32]⟩) ++ r)]) := Lib.hid (Rd.new w1 9 [.string ((x ++ ⟨#[32]⟩) ++ r)]);
             have KA := Lib.hid (kp_alloc K1 (.cells #[.string ((x ++ ⟨#[32]⟩) ++ r)] 9)))
          | (refine step_append_rd rfl (.tmp 25) (.tmp 38) _ rfl w.heap.size 9 i0 _ 16 Tryd.underlying22 hi hz0 hz1 hz2 rfl _ z _ rfl HO1.out _ _ _ _ [_] rfl rfl HS1.out (by simp [Value.oneCell']) (by unfold maxLen; omega) (by omega) KA.out.size ?_; intro v3 w3 hown3 hg3; obtain ⟨A3, c3, rfl, _, _⟩ := own_form hown3; have k3 := KA.out.trans (below_own_s HO1.out hg3 KA.out.size); obtain ⟨b4, b5, _, _⟩ := HB.out w3 k3))
        all_goals
          clear q1 q2 q3 q4 hw hub hdz hcr
          go_wp2_with fail
          go_roundw
          case rel =>
            refine ⟨k + 1, z + 1, A3, c3, _, by omega, by omega, by go_num, rfl, Lib.hid ?_, hs2, k3⟩
            rw [tvs_append]
            exact hown3
          case measure => simp [intOf]; omega
      · obtain ⟨u, rfl, hu0⟩ : ∃ u : Nat, v = (-(u : Int)) ∧ 0 < u := ⟨v.natAbs, by omega, by omega⟩
        have hub : u ≤ 9223372036854775808 := by omega
        have HD := Lib.hid (fun w' => digits_ok u (by omega) w')
        obtain ⟨dg, hdg⟩ : ∃ dg : ByteArray, dg = ⟨(Lib.decDigits u).toArray⟩ := ⟨_, rfl⟩
        have hdl : dg.data.toList = Lib.decDigits u := by rw [hdg]
        have hdz : dg.size ≤ 19 := by
          have := dec_len 19 u (by omega) (by decide)
          rw [← hdl, bytes_len] at this
          exact this
        have HDG : Hid (∀ r : ByteArray, r.data.toList = Lib.decDigits u → r = dg) := Lib.hid fun r hr => by
          rw [hdg, ← hr]
        have hs2 : Hid (bls (ss ++ [(x ++ ⟨#[32, 45]⟩) ++ dg]) = linesT (ns.take (k + 1)) (cs.take (k + 1))) := Lib.hid (by
          rw [hnx, bls_append, hs.out]
          simp only [bls, lineT, List.map_cons, List.map_nil, add_bytes, hdl]
          rw [itoa_down hu0]
          simp)
        have q1 : ¬ (9223372036854775807 < x.size + 2) := by omega
        have q2 : ¬ ((9223372036854775807 : Int) < (x.size : Int) + 2) := by omega
        have q3 : ¬ (9223372036854775807 < x.size + 2 + dg.size) := by omega
        have q4 : ¬ ((9223372036854775807 : Int) < (x.size : Int) + 2 + (dg.size : Int)) := by omega
        skip
        have hw : IntKind.i64.wrap (-(u : Int)) = -(u : Int) := by rw [IntKind.wrap_i64]; omega
        clear hdg hdl hnx hs hv0
        go_wp2_with fail
        go_region_law (first
          | (go_simp; go_at_call 28; refine (HD.out _).mono ?_; rintro e' w1 ⟨r, rfl, hr, k1⟩; obtain rfl := HDG.out r hr; clear hr; have K1 := kp_trans k0 ((kp_drewN wr 1).trans k1); obtain ⟨b2, b3, _, _⟩ := HB.out w1 K1; have x1 := HCA.out w1 K1;
             have HO1 := Lib.hid ((own_below_s ho.out ((kp_drewN wr 1).trans k1) (Nat.le_refl _)).alloc (.cells #[.string ((x ++ ⟨#[32, 45]⟩) ++ r)] 9)); have HS1 : Hid (Rd (w1.alloc (.cells #[.string ((x ++ ⟨#[32, 45]⟩) ++ r)] 9)) (w1.heap.size + 1) (some ⟨w1.heap.size, 0, none⟩) [.string ((x ++ ⟨#[32, 45]⟩) ++ r)]) := Lib.hid (Rd.new w1 9 [.string ((x ++ ⟨#[32, 45]⟩) ++ r)]);
             have KA := Lib.hid (kp_alloc K1 (.cells #[.string ((x ++ ⟨#[32, 45]⟩) ++ r)] 9)))
          | (refine step_append_rd rfl (.tmp 42) (.tmp 54) _ rfl w.heap.size 9 i0 _ 16 Tryd.underlying22 hi hz0 hz1 hz2 rfl _ z _ rfl HO1.out _ _ _ _ [_] rfl rfl HS1.out (by simp [Value.oneCell']) (by unfold maxLen; omega) (by omega) KA.out.size ?_; intro v3 w3 hown3 hg3; obtain ⟨A3, c3, rfl, _, _⟩ := own_form hown3; have k3 := KA.out.trans (below_own_s HO1.out hg3 KA.out.size); obtain ⟨b4, b5, _, _⟩ := HB.out w3 k3))
        all_goals
          clear q1 q2 q3 q4 hw hub hdz hcr
          go_wp2_with fail
          go_roundw
          case rel =>
            refine ⟨k + 1, z + 1, A3, c3, _, by omega, by omega, by go_num, rfl, Lib.hid ?_, hs2, k3⟩
            rw [tvs_append]
            exact hown3
          case measure => simp [intOf]; omega
    · obtain rfl : k = m := by omega
      rw [List.take_of_length_le (by rw [HNL.out]; exact Nat.le_refl _), List.take_of_length_le (by rw [HCL.out]; exact Nat.le_refl _)] at hs
      go_wp2_with fail
      go_ret
      exact ⟨D, z, e, ss, rfl, XR.of_own ho.out, hs.out, by omega, k0⟩
end Go.Proofs.YtkkmjoadhjnldaaDoor
