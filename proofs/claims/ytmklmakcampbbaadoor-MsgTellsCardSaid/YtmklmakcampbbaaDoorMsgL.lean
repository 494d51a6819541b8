/-
  Whether messages are the same, by the document (Same of its layer 3): a contract.
-/
import Derived.Test.YtmklmakcampbbaaDoorMsgD
import Derived.Test.YtmklmakcampbbaaDoorMsgC
namespace Go.Proofs.YtmklmakcampbbaaDoor
open Go.RowKit
set_option maxRecDepth 100000

set_option maxHeartbeats 2000000 in
theorem rmsame_any (m n : Mg) (w : World) (hm : MR w m) (hn : MR w n) (hL : m.l ≤ 1000000) (hL' : m.l' ≤ 1000000) (b : Bool) (hb : Hid (decide (m.says = n.says) = b)) :
    Calls Tryd.prog 18 #[m.v, n.v] w fun e w' => e = .returned (.bool b) ∧ Below w.heap.size w w' := by
  obtain ⟨mk, A, l, c, ns, A', l', c', ts⟩ := m
  obtain ⟨nk, D, q, d, ms, D', q', d', us⟩ := n
  simp only at hL hL'
  have hv : Mg.v ⟨mk, A, l, c, ns, A', l', c', ts⟩ = .agg #[.int .i64 mk, .slice A l c, .slice A' l' c'] := rfl
  have hv' : Mg.v ⟨nk, D, q, d, ms, D', q', d', us⟩ = .agg #[.int .i64 nk, .slice D q d, .slice D' q' d'] := rfl
  rw [hv, hv']
  have hb2 := hb.out
  simp only [Mg.says] at hb2
  clear hb
  have k1 : Below w.heap.size w ((w.alloc (.cells #[.int .i64 mk, .slice A l c, .slice A' l' c'] 31)).alloc (.cells #[.int .i64 nk, .slice D q d, .slice D' q' d'] 31)) := kp_alloc (kp_new _ _) _
  have hln := Lib.hid hm.ln
  have hlt' := Lib.hid hm.lt
  have hqn := Lib.hid hn.ln
  have hqt := Lib.hid hn.lt
  by_cases hk : mk = nk
  · subst hk
    have hke : (mk != mk) = false := by simp
    by_cases hl : l = q
    · have hle : ((l : Int) != (q : Int)) = false := by rw [hl]; simp
      by_cases hl2 : l' = q'
      · have hle2 : ((l' : Int) != (q' : Int)) = false := by rw [hl2]; simp
        have HB2 : Hid (decide (ns = ms ∧ ts = us) = b) := Lib.hid (by
          rw [← hb2]
          rw [Bool.eq_iff_iff]
          simp)
        obtain ⟨b0, b1⟩ := alloc2 w (.cells #[.int .i64 mk, .slice A l c, .slice A' l' c'] 31) (.cells #[.int .i64 mk, .slice D q d, .slice D' q' d'] 31)
        have hm1 := hm.next k1
        have hn1 := hn.next k1
        have HL1 := Lib.hid hl
        have HL2 := Lib.hid hl2
        clear hl hl2 hm hn hb2
        generalize hw1 : (w.alloc (.cells #[.int .i64 mk, .slice A l c, .slice A' l' c'] 31)).alloc (.cells #[.int .i64 mk, .slice D q d, .slice D' q' d'] 31) = w1 at *
        have HW1 := Lib.hid hw1
        clear hw1
        obtain ⟨x0, x1, x2, _, _, _⟩ := three_cells b0
        obtain ⟨y0, y1, y2, _, _, _⟩ := three_cells b1
        clear b0 b1
        go_enter Tryd.func18, Tryd.ntmps18
        go_wp2_with fail
        rw [HW1.out]
        go_wp2_with fail
        go_loopw [5] (fun i wr => ∃ k mm : Nat, k ≤ l ∧ i = .int .i64 k ∧ Hid (ns.take k = ms.take k) ∧ wr = w1.drewN mm) (fun i _ => l - (intOf i).toNat)
        case atStart => exact ⟨0, 0, Nat.zero_le _, rfl, Lib.hid (by simp), rfl⟩
        case round =>
          obtain ⟨k, mm, hk, rfl, he, rfl⟩ := hrel
          by_cases hlt : k < l
          · have hkx : k < ns.length := by rw [hln.out]; exact hlt
            have hky : k < ms.length := by rw [hqn.out]; have := HL1.out; omega
            obtain ⟨ad, rfl, _, hc⟩ := hm1.num.at_ (uvs_at hkx)
            obtain ⟨ad', rfl, _, hc'⟩ := hn1.num.at_ (uvs_at hky)
            have hi : (k : Int) < (l : Int) := by omega
            have hi' : (k : Int) < (q : Int) := by have := HL1.out; omega
            by_cases hee : ns[k] = ms[k]
            · have hs := Lib.hid (take_step hkx hky he.out hee)
              have ht : ((ns[k] : Int) != (ms[k] : Int)) = false := by rw [hee]; simp
              clear hee
              go_wp2
              go_quiet (fail)
              go_wp2
              go_roundw
              case rel => exact ⟨k + 1, _, by omega, by go_num, hs, rfl⟩
              case measure => simp [intOf]; omega
            · have ht : ((ns[k] : Int) != (ms[k] : Int)) = true := by
                rw [bne_iff_ne]; intro e; exact hee (by omega)
              have hf : b = false := by
                rw [← HB2.out]
                simp only [decide_eq_false_iff_not]
                rintro ⟨rfl, _⟩
                exact hee rfl
              subst hf
              clear hee
              go_wp2
              go_quiet (fail)
              go_wp2
              go_ret
              exact ⟨rfl, kp_trans k1 (kp_trans (kp_drewN _ _) (kp_drewN _ _))⟩
          · have hns : ns = ms := by
              have h1 := he.out
              rwa [List.take_of_length_le (by rw [hln.out]; omega), List.take_of_length_le (by rw [hqn.out]; have := HL1.out; omega)] at h1
            have HB3 : Hid (decide (ts = us) = b) := Lib.hid (by rw [← HB2.out, hns]; simp)
            clear he hns HB2
            go_wp2_with fail
            go_loopw [6] (fun i wr => ∃ k mm : Nat, k ≤ l' ∧ i = .int .i64 k ∧ Hid (ts.take k = us.take k) ∧ wr = w1.drewN mm) (fun i _ => l' - (intOf i).toNat)
            case atStart => exact ⟨0, mm, Nat.zero_le _, rfl, Lib.hid (by simp), rfl⟩
            case round =>
              obtain ⟨k, mm, hk, rfl, he, rfl⟩ := hrel
              by_cases hlt : k < l'
              · have hkx : k < ts.length := by rw [hlt'.out]; exact hlt
                have hky : k < us.length := by rw [hqt.out]; have := HL2.out; omega
                obtain ⟨ad, rfl, _, hc⟩ := hm1.txt.at_ (svs_at hkx)
                obtain ⟨ad', rfl, _, hc'⟩ := hn1.txt.at_ (svs_at hky)
                have hi : (k : Int) < (l' : Int) := by omega
                have hi' : (k : Int) < (q' : Int) := by have := HL2.out; omega
                have HE := Lib.hid (take_step hkx hky he.out)
                have HB : Hid (ts[k] ≠ us[k] → b = false) := Lib.hid fun hee => by
                  rw [← HB3.out]
                  simp only [decide_eq_false_iff_not]
                  intro e
                  subst e
                  exact hee rfl
                generalize ts[k] = x at *
                generalize us[k] = y at *
                by_cases hee : x = y
                · have hs := Lib.hid (HE.out hee)
                  subst hee
                  go_wp2
                  go_quiet (fail)
                  go_wp2
                  go_roundw
                  case rel => exact ⟨k + 1, _, by omega, by go_num, hs, rfl⟩
                  case measure => simp [intOf]; omega
                · have hf := HB.out hee
                  subst hf
                  have ht := text_ne hee
                  clear hee
                  go_wp2
                  go_quiet (fail)
                  go_wp2
                  go_ret
                  exact ⟨rfl, kp_trans k1 (kp_trans (kp_drewN _ _) (kp_drewN _ _))⟩
              · have hf : b = true := by
                  rw [← HB3.out]
                  have h1 := he.out
                  rw [List.take_of_length_le (by rw [hlt'.out]; omega), List.take_of_length_le (by rw [hqt.out]; have := HL2.out; omega)] at h1
                  simp [h1]
                subst hf
                go_wp2_with fail
                go_ret
                exact ⟨rfl, kp_trans k1 (kp_drewN _ _)⟩
      · have hle2 : ((l' : Int) != (q' : Int)) = true := by rw [bne_iff_ne]; omega
        have hf : b = false := by
          rw [← hb2]
          refine decide_eq_false fun h => ?_
          injection h with _ h; injection h with _ h
          subst h
          exact hl2 (hlt'.out.symm.trans hqt.out)
        subst hf
        clear hb2 hm hn hl
        go_enter Tryd.func18, Tryd.ntmps18
        go_wp2_with fail
        go_ret
        exact ⟨rfl, k1⟩
    · have hle : ((l : Int) != (q : Int)) = true := by rw [bne_iff_ne]; omega
      have hf : b = false := by
        rw [← hb2]
        refine decide_eq_false fun h => ?_
        injection h with _ h; injection h with h _
        subst h
        exact hl (hln.out.symm.trans hqn.out)
      subst hf
      clear hb2 hm hn
      go_enter Tryd.func18, Tryd.ntmps18
      go_wp2_with fail
      go_ret
      exact ⟨rfl, k1⟩
  · have hke : (mk != nk) = true := by simpa using hk
    have hf : b = false := by
      rw [← hb2]
      refine decide_eq_false fun h => ?_
      injection h with h _
      exact hk h
    subst hf
    clear hb2 hm hn
    go_enter Tryd.func18, Tryd.ntmps18
    go_wp2_with fail
    go_ret
    exact ⟨rfl, k1⟩
end Go.Proofs.YtmklmakcampbbaaDoor
