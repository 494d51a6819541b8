/-
  What the document's own Same of layer 2 answers of two rows of frames.
-/
import Derived.Test.YtmklmakcampbbaaDoorFrameE
namespace Go.Proofs.YtmklmakcampbbaaDoor
open Go.RowKit
set_option maxRecDepth 100000

def says (rs : List Rep) : List (UInt8 × List UInt8) := rs.map Rep.says
theorem says_append (a b : List Rep) : says (a ++ b) = says a ++ says b := by simp [says]
theorem says_next (rs : List Rep) (k : Nat) (h : k < rs.length) : says (rs.take (k + 1)) = says (rs.take k) ++ [rs[k].says] := by
  rw [List.take_succ_eq_append_getElem h, says_append]; rfl
theorem says_at {xs ys : List Rep} (h : says xs = says ys) (k : Nat) (hx : k < xs.length) (hy : k < ys.length) : xs[k].says = ys[k].says := by
  have h1 : (says xs)[k]? = (says ys)[k]? := by rw [h]
  simpa [says, hx, hy] using h1

set_option maxHeartbeats 1000000 in
theorem rsame_any (A A' : Option Addr) (xs ys : List Rep) (n c n' c' : Nat) (w : World) (hx : FR w A n xs) (hy : FR w A' n' ys) (hn : n ≤ 100000) (hl : ∀ r ∈ xs, r.p.bs.length ≤ 1000000) (b : Bool) (hb : Hid (decide (says xs = says ys) = b)) :
    Calls Tryd.prog 16 #[.slice A n c, .slice A' n' c'] w fun e w' => e = .returned (.bool b) ∧ ∃ m, w' = w.drewN m := by
  by_cases hll : n = n'
  · subst hll
    have hlx := Lib.hid hx.len
    have hly := Lib.hid hy.len
    have HL := Lib.hid hl
    clear hl
    go_enter Tryd.func16, Tryd.ntmps16
    go_wp2
    go_loopw [5] (fun i wr => ∃ k m : Nat, k ≤ n ∧ i = .int .i64 k ∧ Hid (says (xs.take k) = says (ys.take k)) ∧ wr = w.drewN m) (fun i _ => n - (intOf i).toNat)
    case atStart => exact ⟨0, 0, Nat.zero_le _, rfl, Lib.hid (by simp), rfl⟩
    case round =>
      obtain ⟨k, m, hk, rfl, he, hw⟩ := hrel
      have hx' : FR wr A n xs := by subst hw; exact hx.next (kp_drewN _ _)
      have hy' : FR wr A' n ys := by subst hw; exact hy.next (kp_drewN _ _)
      have HW := Lib.hid hw
      clear hw hx hy
      by_cases hlt : k < n
      · have hkx : k < xs.length := by rw [hlx.out]; omega
        have hky : k < ys.length := by rw [hly.out]; omega
        obtain ⟨ad, rfl, _, hc⟩ := hx'.rd.addr (by rw [repCells_length]; omega)
        obtain ⟨ad', rfl, _, hc'⟩ := hy'.rd.addr (by rw [repCells_length]; omega)
        have hbx := hx'.body _ (List.getElem_mem hkx)
        have hby := hy'.body _ (List.getElem_mem hky)
        have hlb := HL.out _ (List.getElem_mem hkx)
        have c0 := hc _ _ (repCells_at xs k hkx).1
        have c1 := hc _ _ (repCells_at xs k hkx).2
        have d0 := hc' _ _ (repCells_at ys k hky).1
        have d1 := hc' _ _ (repCells_at ys k hky).2
        have e1 : (⟨(ad.add (k * 2)).block, (ad.add (k * 2)).off + 1, none⟩ : Addr) = ad.add (k * 2 + 1) := by rw [← add_add]; rfl
        have e2 : (⟨(ad'.add (k * 2)).block, (ad'.add (k * 2)).off + 1, none⟩ : Addr) = ad'.add (k * 2 + 1) := by rw [← add_add]; rfl
        rw [← e1] at c1
        rw [← e2] at d1
        clear hc hc' e1 e2
        by_cases hee : xs[k].k = ys[k].k
        · have hk1 : ((xs[k].k.toNat : Int) != (ys[k].k.toNat : Int)) = false := by rw [hee]; simp
          by_cases hbb : xs[k].p.bs = ys[k].p.bs
          · have hsn : Hid (says (xs.take (k + 1)) = says (ys.take (k + 1))) := Lib.hid (by rw [says_next xs k hkx, says_next ys k hky, he.out]; simp [Rep.says, hee, hbb])
            have hbt : Hid (decide (xs[k].p.bs = ys[k].p.bs) = true) := Lib.hid (by simp [hbb])
            have hlb2 : xs[k].p.l ≤ 1000000 := by rw [← hbx.len]; exact hlb
            clear hee hbb
            generalize xs[k].k.toNat = x at *
            generalize ys[k].k.toNat = y at *
            go_wp2
            go_quiet (first | (go_at_call 17; exact Calls.quiet_of (same_any _ _ _ _ _ _ _ _ _ _ _ (by exact ⟨hbx.rd, hbx.len, hbx.cap⟩) (by exact ⟨hby.rd, hby.len, hby.cap⟩) hlb2 true hbt)))
            go_wp2
            go_roundw
            case rel => exact ⟨k + 1, m + nq, by omega, by go_num, hsn, by rw [HW.out, World.drewN_drewN]⟩
            case measure => simp [intOf]; omega
          · have hf : b = false := by
              rw [← hb.out]
              simp only [decide_eq_false_iff_not]
              intro e
              have := says_at e k hkx hky
              simp only [Rep.says, Prod.mk.injEq] at this
              exact hbb this.2
            subst hf
            have hbt : Hid (decide (xs[k].p.bs = ys[k].p.bs) = false) := Lib.hid (by simp [hbb])
            have hlb2 : xs[k].p.l ≤ 1000000 := by rw [← hbx.len]; exact hlb
            clear hee hbb
            generalize xs[k].k.toNat = x at *
            generalize ys[k].k.toNat = y at *
            go_wp2
            go_quiet (first | (go_at_call 17; exact Calls.quiet_of (same_any _ _ _ _ _ _ _ _ _ _ _ (by exact ⟨hbx.rd, hbx.len, hbx.cap⟩) (by exact ⟨hby.rd, hby.len, hby.cap⟩) hlb2 false hbt)))
            go_wp2
            go_ret
            exact ⟨rfl, m + nq, by rw [HW.out, World.drewN_drewN]⟩
        · have hf : b = false := by
            rw [← hb.out]
            simp only [decide_eq_false_iff_not]
            intro e
            have := says_at e k hkx hky
            simp only [Rep.says, Prod.mk.injEq] at this
            exact hee this.1
          subst hf
          have hk1 : ((xs[k].k.toNat : Int) != (ys[k].k.toNat : Int)) = true := by
            rw [bne_iff_ne]; intro e; exact hee (UInt8.toNat_inj.1 (by omega))
          clear hee
          generalize xs[k].k.toNat = x at *
          generalize ys[k].k.toNat = y at *
          go_wp2
          go_quiet (fail)
          go_wp2
          go_ret
          exact ⟨rfl, m + nq, by rw [HW.out, World.drewN_drewN]⟩
      · have hf : b = true := by
          rw [← hb.out]
          have h1 := he.out
          rw [List.take_of_length_le (by rw [hlx.out]; omega), List.take_of_length_le (by rw [hly.out]; omega)] at h1
          simp [h1]
        subst hf
        go_wp2
        go_ret
        exact ⟨rfl, m, HW.out⟩
  · have hf : b = false := by
      rw [← hb.out]
      simp only [decide_eq_false_iff_not]
      intro e
      have := congrArg List.length e
      simp only [says, List.length_map, hx.len, hy.len] at this
      exact hll this
    subst hf
    have ht : ((n : Int) != (n' : Int)) = true := by rw [bne_iff_ne]; omega
    go_enter Tryd.func16, Tryd.ntmps16
    go_wp2
    go_ret
    exact ⟨rfl, 0, rfl⟩

theorem rsame_kp (A A' : Option Addr) (xs ys : List Rep) (n c n' c' : Nat) (w : World) (hx : FR w A n xs) (hy : FR w A' n' ys) (hn : n ≤ 100000) (hl : ∀ r ∈ xs, r.p.bs.length ≤ 1000000) (b : Bool) (hb : Hid (decide (says xs = says ys) = b)) :
    Calls Tryd.prog 16 #[.slice A n c, .slice A' n' c'] w fun e w' => e = .returned (.bool b) ∧ Below w.heap.size w w' :=
  (rsame_any A A' xs ys n c n' c' w hx hy hn hl b hb).mono fun _ _ ⟨he, m, hm⟩ => ⟨he, by rw [hm]; exact kp_drewN _ _⟩
end Go.Proofs.YtmklmakcampbbaaDoor
