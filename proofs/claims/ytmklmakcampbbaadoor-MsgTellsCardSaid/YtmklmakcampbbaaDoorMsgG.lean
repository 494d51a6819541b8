/-
  What statements don't look at (Large of the document's layer 3): a contract.
-/
import Derived.Test.YtmklmakcampbbaaDoorMsgB
namespace Go.Proofs.YtmklmakcampbbaaDoor
open Go.RowKit
set_option maxRecDepth 100000

/-- more than statements look at -/
def largeF (ns : List Nat) (ts : List ByteArray) : Bool := decide (100 < ns.length) || (decide (100 < ts.length) || ts.any fun t => decide (2000 < t.size))

set_option maxHeartbeats 1000000 in
theorem large_any (m : Mg) (w : World) (hm : MR w m) (b : Bool) (hb0 : Hid (largeF m.ns m.ts = b)) :
    Calls Tryd.prog 7 #[m.v] w fun e w' => e = .returned (.bool b) ∧ Below w.heap.size w w' := by
  obtain ⟨mk, A, l, c, ns, A', l', c', ts⟩ := m
  simp only at hb0
  have hv : Mg.v ⟨mk, A, l, c, ns, A', l', c', ts⟩ = .agg #[.int .i64 mk, .slice A l c, .slice A' l' c'] := rfl
  rw [hv]
  have hln := hm.ln
  have hlt := hm.lt
  simp only at hln hlt
  by_cases h1 : 100 < l
  · have e1 : decide ((100 : Int) < (l : Int)) = true := by simp; omega
    have hb : b = true := by rw [← hb0.out, largeF]; simp; omega
    subst hb
    clear hb0 hm hln hlt
    go_enter Tryd.func7, Tryd.ntmps7
    go_wp2_with fail
    go_ret
    exact ⟨rfl, kp_new _ _⟩
  have e1 : decide ((100 : Int) < (l : Int)) = false := by simp; omega
  by_cases h2 : 100 < l'
  · have e2 : decide ((100 : Int) < (l' : Int)) = true := by simp; omega
    have hb : b = true := by rw [← hb0.out, largeF]; simp; omega
    subst hb
    clear hb0 hm hln hlt
    go_enter Tryd.func7, Tryd.ntmps7
    go_wp2_with fail
    go_ret
    exact ⟨rfl, kp_new _ _⟩
  have e2 : decide ((100 : Int) < (l' : Int)) = false := by simp; omega
  have HB : Hid ((ts.any fun t => decide (2000 < t.size)) = b) := Lib.hid (by
    rw [← hb0.out, largeF]
    have h3 : ¬ 100 < ns.length := by omega
    have h4 : ¬ 100 < ts.length := by omega
    simp only [decide_eq_false h3, decide_eq_false h4, Bool.false_or])
  have HL := Lib.hid hlt
  clear hb0 hln hlt
  go_enter Tryd.func7, Tryd.ntmps7
  go_wp2_with fail
  generalize hw1 : w.alloc (.cells #[.int .i64 mk, .slice A l c, .slice A' l' c'] 31) = w1
  have k1 : Below w.heap.size w w1 := by rw [← hw1]; exact kp_new _ _
  have b1 : w1.heap[w.heap.size]? = some (.cells #[.int .i64 mk, .slice A l c, .slice A' l' c'] 31 (0, 0)) := by rw [← hw1]; exact heap_alloc_new _ _
  have z1 : w.heap.size < w1.heap.size := (Array.getElem?_eq_some_iff.1 b1).1
  obtain ⟨x0, x1, x2, _, _, _⟩ := three_cells b1
  have hm1 := hm.next k1
  clear hw1 hm b1
  go_wp2_with fail
  go_loopw [3] (fun i wr => ∃ j : Nat, j ≤ l' ∧ i = .int .i64 j ∧ Hid ((ts.take j).any (fun t => decide (2000 < t.size)) = false) ∧ Below w1.heap.size w1 wr) (fun i _ => l' - (intOf i).toNat)
  case atStart => exact ⟨0, Nat.zero_le _, rfl, Lib.hid (by simp), Below.refl _ _⟩
  case round =>
    obtain ⟨j, hj, rfl, hall, kr⟩ := hrel
    have y2 := (kr.cell z1).trans x2
    by_cases hjl : j < l'
    · have hjn : j < ts.length := by rw [HL.out]; exact hjl
      have hmr := hm1.next kr
      obtain ⟨ad, rfl, hb, hc⟩ := hmr.txt.at_ (svs_at hjn)
      have hi : (j : Int) < (l' : Int) := by omega
      have HT : Hid (ts.take (j + 1) = ts.take j ++ [ts[j]]) := Lib.hid (List.take_succ_eq_append_getElem hjn)
      have HM : Hid (ts[j] ∈ ts) := Lib.hid (List.getElem_mem hjn)
      generalize ht : ts[j] = t at *
      clear x0 x1 x2 hmr hm1 ht
      by_cases hs : 2000 < t.size
      · have hd : decide ((2000 : Int) < (t.size : Int)) = true := by simp; omega
        have hbt : b = true := by
          rw [← HB.out, List.any_eq_true]
          exact ⟨t, HM.out, by simpa using hs⟩
        subst hbt
        go_wp2_with fail
        go_ret
        exact ⟨rfl, kp_trans k1 kr⟩
      · have hd : decide ((2000 : Int) < (t.size : Int)) = false := by simp; omega
        have HA : Hid ((ts.take (j + 1)).any (fun t => decide (2000 < t.size)) = false) := Lib.hid (by rw [HT.out, List.any_append, hall.out]; simpa using hs)
        go_wp2_with fail
        go_roundw
        case rel => exact ⟨j + 1, by omega, by go_num, HA, kr⟩
        case measure => simp [intOf]; omega
    · have hbf : b = false := by
        rw [← HB.out]
        have := hall.out
        rwa [List.take_of_length_le (by rw [HL.out]; omega)] at this
      subst hbf
      go_wp2_with fail
      go_ret
      exact ⟨rfl, kp_trans k1 kr⟩
end Go.Proofs.YtmklmakcampbbaaDoor
