/-
  The document's layer 7: a new tally, by the call: contract.
-/
import Derived.Test.YtkkmjoadhjnldaaDoorTaR
namespace Go.Proofs.YtkkmjoadhjnldaaDoor
open Go.RowKit
set_option maxRecDepth 100000

theorem i64info : (Tryd.prog.info? 2).map (fun i => (i.zero, i.size, i.bytes)) = some (some (.int .i64 0), 1, 8) := by kernel_rfl
def zeros (n : Nat) : List Int := List.replicate n 0
theorem zeros_next (n : Nat) : zeros (n + 1) = zeros n ++ [0] := by simp [zeros, List.replicate_succ']

set_option maxHeartbeats 4000000 in
theorem rnew_ok (A : Option Addr) (N c : Nat) (l : List ByteArray) (w : World) (h : XR w A N l) (hN : N ≤ 900) :
    Calls Tryd.prog 9 #[.slice A N c] w fun e w' => ∃ B, e = .returned (.pointer (some ⟨w.heap.size, 0, none⟩)) ∧ RT w.heap.size w'.heap.size w' w.heap.size B (newT l) (zeros (newT l).length) ∧ Below w.heap.size w w' := by
  obtain ⟨i0, hi, hz0, hz1, hz2⟩ := info_parts strinfo6
  obtain ⟨j0, gi, gz0, gz1, gz2⟩ := info_parts i64info
  have hl := Lib.hid h.len
  have HX := Lib.hid h
  have kw := Lib.hid (kp_new w (.cells #[.slice none 0 0, .slice none 0 0] 34))
  have hb0 := Lib.hid (heap_alloc_new w (.cells #[.slice none 0 0, .slice none 0 0] 34))
  clear h
  go_enter Tryd.func9, Tryd.ntmps9
  go_wp2_with fail
  go_loopw [4] (fun i wr => ∃ (k : Nat) (A1 : Option Addr) (n ca : Nat) (B : Option Addr) (cb : Nat) (acc : List ByteArray), k ≤ N ∧ n ≤ k ∧ i = .int .i64 k ∧ Hid (wr.heap[w.heap.size]? = some (.cells #[.slice A1 n ca, .slice B n cb] 34 (0, 0))) ∧
    Hid (wr.ownsRow (w.heap.size + 1) 9 1 (.slice A1 n ca) n (tvs acc)) ∧ Hid (wr.ownsRow (w.heap.size + 1) 2 1 (.slice B n cb) n (ivs (zeros n))) ∧ Hid (acc = newT (l.take k)) ∧ Below w.heap.size w wr) (fun i _ => N - (intOf i).toNat)
  case atStart => exact ⟨0, none, 0, 0, none, 0, [], Nat.zero_le _, Nat.le_refl _, rfl, hb0, Lib.hid (World.ownsRow_nil _ _ _ _), Lib.hid (World.ownsRow_nil _ _ _ _), Lib.hid rfl, kw.out⟩
  case round =>
    obtain ⟨k, A1, n, ca, B, cb, acc, hk, hnk, rfl, hb, ho, hc, hacc, k0⟩ := hrel
    have hla : acc.length = n := by have := ho.out.1; rw [tvs_length] at this; omega
    have hlt1 : w.heap.size < wr.heap.size := (Array.getElem?_eq_some_iff.1 hb.out).1
    have HRT : Hid (RT w.heap.size wr.heap.size wr w.heap.size B acc (zeros n)) := Lib.hid ⟨by simp [zeros, hla], by omega, ⟨Nat.le_refl _, hlt1⟩, A1, n, ca, n, cb, hb.out, own_base_s ho.out (Nat.le_succ _), own_base_s hc.out (Nat.le_succ _), fun g e => (ho.out.lt g e).2, fun g e => (hc.out.lt g e).2⟩
    by_cases hlt : k < N
    · have hkl : k < l.length := by rw [hl.out]; exact hlt
      obtain ⟨ad, rfl, had, c0⟩ := (HX.out.next k0).at_ hkl
      have hnx : Hid (newT (l.take (k + 1)) = addN acc l[k]) := Lib.hid (by rw [newT_next l k hkl, hacc.out])
      have hadd : addN acc l[k] = if placeT l[k] acc < 0 then acc ++ [l[k]] else acc := rfl
      rw [hadd] at hnx
      have HFI := Lib.hid (rfind_ok w.heap.size wr.heap.size w.heap.size B acc (zeros n) l[k] wr HRT.out)
      clear hadd hacc
      generalize l[k] = x at *
      by_cases hp : placeT x acc < 0
      · rw [if_pos hp] at hnx
        have hnew : Hid (acc ++ [x] = newT (l.take (k + 1))) := Lib.hid hnx.out.symm
        clear hnx HRT
        generalize placeT x acc = p at *
        obtain ⟨b0, b1, f0, f1⟩ := cells2t hb.out
        have HO := Lib.hid (ho.out.drew.alloc (.cells #[.string x] 9))
        have HSRC : Hid (Rd (wr.drew.alloc (.cells #[.string x] 9)) (wr.heap.size + 1) (some ⟨wr.heap.size, 0, none⟩) [.string x]) := Lib.hid (Rd.new wr.drew 9 [.string x])
        have HSW := Lib.hid (show w.heap.size + 1 ≤ (wr.drew.alloc (.cells #[.string x] 9)).heap.size by simp; omega)
        have HB1 : Hid ((wr.drew.alloc (.cells #[.string x] 9)).heap[w.heap.size]? = some (.cells #[.slice A1 n ca, .slice B n cb] 34 (0, 0))) := Lib.hid (((World.grownBy_alloc wr.drew _ none).block _ (by simpa using hlt1) (by simp)).trans hb.out)
        have HC1 := Lib.hid (hc.out.drew.alloc (.cells #[.string x] 9))
        have KA := Lib.hid (kp_alloc (k0.drew) (.cells #[.string x] 9))
        go_wp2_with fail
        refine HFI.out.mono ?_
        rintro e w1 ⟨rfl, rfl⟩
        go_wp2_with fail
        go_region_law (refine step_append_rd rfl (.tmp 24) (.tmp 29) _ rfl (w.heap.size + 1) 9 i0 _ 16 Tryd.underlying22 hi hz0 hz1 hz2 rfl _ n _ rfl HO.out _ _ _ _ [.string x] rfl rfl HSRC.out (by simp [Value.oneCell']) (by unfold maxLen; omega) (by omega) HSW.out ?_; intro v3 w3 hown3 hg3; obtain ⟨A3, c3, rfl, _, _⟩ := own_form hown3; have hb3 := Lib.hid ((hg3.block w.heap.size HSW.out (fun e => by have := (HO.out.lt _ e.symm).1; omega)).trans HB1.out); obtain ⟨g0, g1, q0, q1⟩ := cells2t hb3.out)
        all_goals
          have hc3 := own_apart HC1.out HO.out (by decide) hg3
          have k3 := KA.out.trans ((below_own_s HO.out hg3 HSW.out).mono (Nat.le_succ _))
          have hb4 : (w3.setCell ⟨w.heap.size, 0, none⟩ (.slice A3 (n + 1) c3)).heap[w.heap.size]? = some (.cells #[.slice A3 (n + 1) c3, .slice B n cb] 34 (0, 0)) := heap_setCell_same w3 w.heap.size 0 _ _ _ hb3.out
          have k4 : Below w.heap.size w (w3.setCell ⟨w.heap.size, 0, none⟩ (.slice A3 (n + 1) c3)) := k3.setCell (Nat.le_refl _) _
          have hn4 := ownsRow_setCell_other (a := ⟨w.heap.size, 0, none⟩) hown3 (own_type_ne hown3 hb3.out (by decide)) (.slice A3 (n + 1) c3)
          have hc4 := ownsRow_setCell_other (a := ⟨w.heap.size, 0, none⟩) hc3 (own_type_ne hc3 hb3.out (by decide)) (.slice A3 (n + 1) c3)
          generalize w3.setCell ⟨w.heap.size, 0, none⟩ (.slice A3 (n + 1) c3) = w4 at *
          obtain ⟨r0, r1, s0, s1⟩ := cells2t hb4
          have HN4 := Lib.hid hn4
          have HC5 := Lib.hid (hc4.alloc (.cells #[.int .i64 0] 2))
          have HN5 := Lib.hid (hn4.alloc (.cells #[.int .i64 0] 2))
          have HSR5 : Hid (Rd (w4.alloc (.cells #[.int .i64 0] 2)) (w4.heap.size + 1) (some ⟨w4.heap.size, 0, none⟩) [.int .i64 0]) := Lib.hid (Rd.new w4 2 [.int .i64 0])
          have hlt4 : w.heap.size < w4.heap.size := (Array.getElem?_eq_some_iff.1 hb4).1
          have HSW5 := Lib.hid (show w.heap.size + 1 ≤ (w4.alloc (.cells #[.int .i64 0] 2)).heap.size by simp; omega)
          have HB5 : Hid ((w4.alloc (.cells #[.int .i64 0] 2)).heap[w.heap.size]? = some (.cells #[.slice A3 (n + 1) c3, .slice B n cb] 34 (0, 0))) := Lib.hid (((World.grownBy_alloc w4 _ none).block _ hlt4 (by simp)).trans hb4)
          have KA5 := Lib.hid (kp_alloc k4 (.cells #[.int .i64 0] 2))
          clear hn4 hc4 hc3 hown3 hg3 hb3 hb4 ho hc HC1 HO HSRC HSW HB1 KA
          go_wp2_with (at_builtin; refine wpList_append_rd rfl _ _ _ rfl (w.heap.size + 1) 2 j0 _ 8 Tryd.underlying32 gi gz0 gz1 gz2 rfl _ n _ rfl HC5.out _ _ _ _ [.int .i64 0] rfl rfl HSR5.out (by simp [Value.oneCell']) (by unfold maxLen; omega) (by omega) HSW5.out ?_; intro v6 w6 hown6 hg6; obtain ⟨A6, c6, rfl, _, _⟩ := own_form hown6; have hb6 := Lib.hid ((hg6.block w.heap.size HSW5.out (fun e => by have := (HC5.out.lt _ e.symm).1; omega)).trans HB5.out); obtain ⟨t0, t1, y0, y1⟩ := cells2t hb6.out)
          go_roundw
          case rel =>
            have hn6 := own_apart HN5.out HC5.out (by decide) hg6
            have hn7 := ownsRow_setCell_other (a := ⟨w.heap.size, 1, none⟩) hn6 (own_type_ne hn6 hb6.out (by decide)) (.slice A6 (n + 1) c6)
            have hc7 := ownsRow_setCell_other (a := ⟨w.heap.size, 1, none⟩) hown6 (own_type_ne hown6 hb6.out (by decide)) (.slice A6 (n + 1) c6)
            have k6 := KA5.out.trans ((below_own_s HC5.out hg6 HSW5.out).mono (Nat.le_succ _))
            refine ⟨k + 1, A3, n + 1, c3, A6, c6, acc ++ [x], by omega, by omega, by go_num, Lib.hid (heap_setCell_same w6 w.heap.size 1 _ _ _ hb6.out), Lib.hid ?_, Lib.hid ?_, hnew, k6.setCell (Nat.le_refl _) _⟩
            · rw [tvs_append]
              exact hn7
            · rw [zeros_next, ivs_append]
              exact hc7
          case measure => simp [intOf]; omega
      · rw [if_neg hp] at hnx
        have hnew : Hid (acc = newT (l.take (k + 1))) := Lib.hid hnx.out.symm
        clear hnx HRT
        generalize placeT x acc = p at *
        go_wp2_with fail
        refine HFI.out.mono ?_
        rintro e w1 ⟨rfl, rfl⟩
        go_wp2_with fail
        go_roundw
        case rel => exact ⟨k + 1, A1, n, ca, B, cb, acc, by omega, by omega, by go_num, hb, ho, hc, hnew, k0⟩
        case measure => simp [intOf]; omega
    · obtain rfl : k = N := by omega
      rw [List.take_of_length_le (by rw [hl.out]; exact Nat.le_refl _)] at hacc
      go_wp2_with fail
      go_ret
      refine ⟨B, rfl, ?_, k0⟩
      rw [← hacc.out, hla]
      exact HRT.out
end Go.Proofs.YtkkmjoadhjnldaaDoor
