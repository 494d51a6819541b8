/-
  The document's layer 8: rows of who waits, by the call: contracts.
-/
import Derived.Test.YtijemohcengmjaaWaP
import Derived.Test.YtijemohcengmjaaDuo
import Derived.BigRegion
import Derived.BigQuiet
namespace Go.Proofs.Ytijemohcengmjaa
open Go.RowKit
set_option maxRecDepth 100000

theorem intinfo8 : (Try.prog.info? 3).map (fun i => (i.zero, i.size, i.bytes)) = some (some (.int .i64 0), 1, 8) := by kernel_rfl
/-- a row of the document's, as it lies -/
def RWp (b : Nat) (m : Int) (l : List Int) (S : Nat → Prop) (w : World) : Prop :=
  ∃ A n c, w.heap[b]? = some (.cells #[.slice A n c, .int .i64 m] 41 (0, 0)) ∧ NS w A n c l ∧ S b ∧ (∀ ad, A = some ad → S ad.block) ∧ (∀ k, S k → k < w.heap.size) ∧ (l.length : Int) ≤ m ∧ m ≤ 12
def RW (b : Nat) (m : Int) (l : List Int) : Thing where
  p := RWp b m l
  keep := fun ⟨A, n, c, h1, h2, h3, h4, h5, h6, h7⟩ hk hz => ⟨A, n, c, (hk b h3).trans h1, h2.off hz fun ad e => hk _ (h4 ad e), h3, h4, fun k h => Nat.lt_of_lt_of_le (h5 k h) hz, h6, h7⟩
  lt := fun ⟨_, _, _, _, _, _, _, h5, _⟩ => h5

section
variable {b : Nat} {m : Int} {l : List Int} {S : Nat → Prop} {w : World}
theorem RW.at_ (h : (RW b m l).p S w) : ∃ A n c, w.heap[b]? = some (.cells #[.slice A n c, .int .i64 m] 41 (0, 0)) ∧ NS w A n c l ∧ S b ∧ (∀ ad, A = some ad → S ad.block) ∧ (∀ k, S k → k < w.heap.size) ∧ (l.length : Int) ≤ m ∧ m ≤ 12 := h
/-- a row that a call left, its numbers in a new block -/
theorem RW.turn {w' : World} {l' : List Int} {A : Option Addr} {n c : Nat} (h : (RW b m l).p S w) (hb : w'.heap[b]? = some (.cells #[.slice A n c, .int .i64 m] 41 (0, 0))) (hx : w'.ownsRow w.heap.size 3 1 (.slice A n c) n (ivs l')) (ho : Off S w w') (hl : (l'.length : Int) ≤ m) : Turn (RW b m l') S w w' := by
  obtain ⟨A0, n0, c0, h1, h2, h3, h4, h5, h6, h7⟩ := RW.at_ h
  refine ⟨⟨fun k => S k ∨ (w.heap.size ≤ k ∧ k < w'.heap.size), ⟨A, n, c, hb, NS.of_own hx, .inl h3, fun ad e => .inr ?_, fun k hk => ?_, hl, h7⟩, fun k hk => hk.imp id And.left⟩, ho⟩
  · subst e
    exact hx.lt ad.block rfl
  · rcases hk with hk | hk
    · exact Nat.lt_of_lt_of_le (h5 k hk) ho.size
    · exact hk.2

set_option maxHeartbeats 2000000 in
theorem rat_ok (x : Int) (h : (RW b m l).p S w) :
    Calls Try.prog 18 #[.pointer (some ⟨b, 0, none⟩), .int .i64 x] w fun e w' => e = .returned (.int .i64 (atW x l)) ∧ w = w' := by
  obtain ⟨A, n, c, hb, hx, _, _, _, _, _⟩ := RW.at_ h
  obtain ⟨b0, _, _, _⟩ := cells2t hb
  have hl := Lib.hid hx.nr.len
  have hn12 : n ≤ 12 := by have := hl.out; omega
  have HX := Lib.hid hx.nr
  have HR := Lib.hid (rfl : atW x l = atW x l)
  clear h hb hx
  go_enter Try.func18, Try.ntmps18
  go_wp2
  go_loopw [5] (fun i wr => ∃ k : Nat, k ≤ n ∧ i = .int .i64 k ∧ Hid (∀ j (hj : j < l.length), j < k → l[j] ≠ x) ∧ wr = w) (fun i _ => n - (intOf i).toNat)
  case atStart => exact ⟨0, Nat.zero_le _, rfl, Lib.hid (fun j _ h => absurd h (Nat.not_lt_zero _)), rfl⟩
  case round =>
    obtain ⟨k, hk, rfl, hne, rfl⟩ := hrel
    by_cases hlt : k < n
    · have hkl : k < l.length := by rw [hl.out]; exact hlt
      obtain ⟨ad, rfl, _, c0⟩ := HX.out.at_ hkl
      have c1 := c0 _ (Below.refl _ _)
      clear c0
      by_cases he : l[k] = x
      · have hp : Hid (atW x l = k) := Lib.hid (atW_at hkl hne.out he)
        have hq : (l[k] == x) = true := by rw [he]; simp
        clear he hne HR HX
        generalize l[k] = y at *
        go_wp2_with fail
        go_ret
        exact ⟨by rw [hp.out]; rfl, rfl⟩
      · have hne2 : Hid (∀ j (hj : j < l.length), j < k + 1 → l[j] ≠ x) := Lib.hid (fun j hj hjk => by
          by_cases h : j = k
          · subst h; exact he
          · exact hne.out j hj (by omega))
        have hq : (l[k] == x) = false := by simpa using he
        clear he hne HR
        generalize l[k] = y at *
        go_wp2_with fail
        go_roundw
        case rel => exact ⟨k + 1, by omega, by go_num, hne2, trivial⟩
        case measure => simp [intOf]; omega
    · have hp : Hid (atW x l = -1) := Lib.hid (atW_none fun y hy => by
        obtain ⟨j, hj, rfl⟩ := List.getElem_of_mem hy
        exact hne.out j hj (by have := hl.out; omega))
      clear hne HR HX
      go_wp2_with fail
      go_ret
      exact ⟨by rw [hp.out]; rfl, rfl⟩

set_option maxHeartbeats 4000000 in
theorem rput_ok (x : Int) (h : (RW b m l).p S w) :
    Calls Try.prog 10 #[.pointer (some ⟨b, 0, none⟩), .int .i64 x] w fun e w' => e = .returned (.int .i64 (putW m x l).1) ∧ Turn (RW b m (putW m x l).2) S w w' := by
  have HF := Lib.hid (rat_ok x h)
  have H := Lib.hid h
  obtain ⟨A, n, c, hb, hx, hS, hA, hlt, hm, hm2⟩ := RW.at_ h
  obtain ⟨b0, b1, f0, f1⟩ := cells2t hb
  have hl := hx.nr.len
  have hpw : putW m x l = if 0 ≤ atW x l then (7, l) else if m ≤ l.length then (5, l) else (0, l ++ [x]) := rfl
  have HT := Lib.hid h
  clear h
  by_cases hp : 0 ≤ atW x l
  · rw [if_pos hp] at hpw
    rw [hpw]
    clear hpw
    have HB := Lib.hid hb
    generalize atW x l = i at *
    go_enter Try.func10, Try.ntmps10
    go_wp2_with fail
    refine HF.out.mono ?_
    rintro e w1 ⟨rfl, rfl⟩
    go_wp2_with fail
    go_ret
    exact ⟨rfl, Turn.here H.out⟩
  · rw [if_neg hp] at hpw
    by_cases hf : m ≤ l.length
    · rw [if_pos hf] at hpw
      rw [hpw]
      rw [hl] at hf
      clear hpw
      generalize atW x l = i at *
      go_enter Try.func10, Try.ntmps10
      go_wp2_with fail
      refine HF.out.mono ?_
      rintro e w1 ⟨rfl, rfl⟩
      go_wp2_with fail
      go_quiet (fail)
      go_wp2_with fail
      go_ret
      exact ⟨rfl, Turn.same H.out (kp_drewN _ _)⟩
    · rw [if_neg hf] at hpw
      rw [hpw]
      have hlm : ((l ++ [x]).length : Int) ≤ m := by simp; omega
      rw [hl] at hf
      clear hpw
      generalize atW x l = i at *
      go_enter Try.func10, Try.ntmps10
      go_wp2_with fail
      refine HF.out.mono ?_
      rintro e w1 ⟨rfl, rfl⟩
      go_wp2_with fail
      go_quiet (fail)
      obtain ⟨wq, hwq⟩ : ∃ y, y = w.drewN nq := ⟨_, rfl⟩
      have kq : Below w.heap.size w wq := hwq ▸ kp_drewN w nq
      have hzq : wq.heap.size = w.heap.size := by rw [hwq]; rfl
      have hbq : wq.heap[b]? = some (.cells #[.slice A n c, .int .i64 m] 41 (0, 0)) := by rw [hwq]; exact hb
      have hltb : b < wq.heap.size := by rw [hzq]; exact hlt b hS
      rw [← hwq]
      have HKQ := Lib.hid kq
      have HZQ := Lib.hid hzq
      have HLB := Lib.hid hltb
      have HXQ := Lib.hid (hx.next kq)
      have HB1 : Hid ((wq.alloc (.cells #[] 3)).heap[b]? = some (.cells #[.slice A n c, .int .i64 m] 41 (0, 0))) := Lib.hid (((World.grownBy_alloc wq _ none).block _ hltb (by simp)).trans hbq)
      obtain ⟨g0, g1, q0, q1⟩ := cells2t HB1.out
      have HO1 : Hid ((wq.alloc (.cells #[] 3)).ownsRow wq.heap.size 3 1 (.slice (some ⟨wq.heap.size, 0, none⟩) 0 0) 0 []) := Lib.hid (own_new_s wq wq.heap.size 1 3 0 [] rfl (Nat.le_refl _) (Nat.zero_le _))
      have HR1 := Lib.hid (HXQ.out.nr.next (kp_new wq (.cells #[] 3))).rd
      have HS1 := Lib.hid (show wq.heap.size ≤ (wq.alloc (.cells #[] 3)).heap.size by simp)
      have hn12 : n ≤ 12 := by omega
      have HN := Lib.hid hn12
      have HL := Lib.hid hl
      have HF2 := Lib.hid hf
      obtain ⟨i0, hi, hz0, hz1, hz2⟩ := info_parts intinfo8
      clear hbq hltb hzq kq hwq b0 b1 f0 f1 hb hx hl HF hp hm hm2 hlt hA hn12
      go_wp2_with (at_builtin; first | (refine wpList_append_rd rfl (.tmp 20) (.tmp 24) _ rfl wq.heap.size 3 i0 _ 8 Try.underlying38 hi hz0 hz1 hz2 rfl _ 0 _ rfl HO1.out _ _ _ _ (ivs l) rfl (by rw [ivs_length]; exact HL.out) HR1.out (ivs_one _) (by have := HN.out; unfold maxLen; omega) (by have := HN.out; omega) HS1.out ?_; intro v3 w3 hown3 hg3; rw [Nat.zero_add, List.nil_append] at hown3; obtain ⟨A3, c3, rfl, _, _⟩ := own_form hown3; have HO3 := Lib.hid hown3; have HG3 := Lib.hid hg3; have HO4 := Lib.hid (hown3.alloc (.cells #[.int .i64 x] 3)); have HR4 : Hid (Rd (w3.alloc (.cells #[.int .i64 x] 3)) (w3.heap.size + 1) (some ⟨w3.heap.size, 0, none⟩) [.int .i64 x]) := Lib.hid (Rd.new w3 3 [.int .i64 x]); have HS4 := Lib.hid (show wq.heap.size ≤ (w3.alloc (.cells #[.int .i64 x] 3)).heap.size by have h1 := hg3.size; have h2 := HS1.out; simp; omega); have HB3 : Hid (w3.heap[b]? = some (.cells #[.slice A n c, .int .i64 m] 41 (0, 0))) := Lib.hid ((hg3.block b (by have := HS1.out; have := HLB.out; omega) (fun e => by have := (HO1.out.lt _ e.symm).1; have := HLB.out; omega)).trans HB1.out); clear hown3 hg3) | (refine wpList_append_rd rfl (.tmp 25) (.tmp 27) _ rfl wq.heap.size 3 i0 _ 8 Try.underlying38 hi hz0 hz1 hz2 rfl _ n _ rfl HO4.out _ _ _ _ [.int .i64 x] rfl rfl HR4.out (by simp [Value.oneCell']) (by have := HN.out; unfold maxLen; omega) (by have := HN.out; omega) HS4.out ?_; intro v5 w5 hown5 hg5; obtain ⟨A5, c5, rfl, _, _⟩ := own_form hown5; have HO5 := Lib.hid hown5; have HG5 := Lib.hid hg5; have HB5 : Hid (w5.heap[b]? = some (.cells #[.slice A n c, .int .i64 m] 41 (0, 0))) := Lib.hid ((hg5.block b (by have := HS4.out; have := HLB.out; omega) (fun e => by have := (HO4.out.lt _ e.symm).1; have := HLB.out; omega)).trans (((World.grownBy_alloc w3 _ none).block _ (Array.getElem?_eq_some_iff.1 HB3.out).1 (by simp)).trans HB3.out)); obtain ⟨k0, k1, p0, p1⟩ := cells2t HB5.out; clear hown5 hg5))
      go_ret

      refine ⟨rfl, RW.turn H.out (heap_setCell_same w5 b 0 _ _ _ HB5.out) (own_base_s (base := wq.heap.size) ?_ (Nat.le_of_eq HZQ.out.symm)) (Off.setCell (Off.of S ?_) (.inl hS) _) hlm⟩
      · rw [ivs_append]
        exact ownsRow_setCell_other (a := ⟨b, 0, none⟩) HO5.out (own_type_ne HO5.out HB5.out (by decide)) _
      · have k3 := (kp_new wq (.cells #[] 3)).trans (below_own_s HO1.out HG3.out HS1.out)
        have k5 := (kp_alloc k3 (.cells #[.int .i64 x] 3)).trans (below_own_s HO4.out HG5.out HS4.out)
        exact HKQ.out.trans (HZQ.out ▸ k5)

set_option maxHeartbeats 4000000 in
theorem rtake_ok (h : (RW b m l).p S w) :
    Calls Try.prog 12 #[.pointer (some ⟨b, 0, none⟩)] w fun e w' => e = .returned (takeW l) ∧ Turn (RW b m l.tail) S w w' := by
  have H := Lib.hid h
  obtain ⟨A, n, c, hb, hx, hS, hA, hlt, hm, hm2⟩ := RW.at_ h
  obtain ⟨b0, b1, f0, f1⟩ := cells2t hb
  have hl := hx.nr.len
  clear h
  cases l with
  | nil =>
    obtain rfl : n = 0 := by simpa using hl.symm
    have HB := Lib.hid hb
    go_enter Try.func12, Try.ntmps12
    go_wp2_with fail
    go_ret2
    exact ⟨rfl, Turn.here H.out⟩
  | cons x r =>
    have hn : n = r.length + 1 := by simpa using hl.symm
    obtain ⟨ad, hA0, _, hc0⟩ := hx.nr.at_ (j := 0) (by simp)
    have c0 : w.cell? ad = some (.int .i64 x) := by
      have := hc0 w (Below.refl _ _)
      rw [show ad.add 0 = ad from by unfold Addr.add; split <;> simp_all] at this
      exact this
    subst hA0
    obtain ⟨A1, run1, hx1⟩ := hx.cut1 Try.prog 38 (by kernel_rfl) (by kernel_rfl) (i := 1) 1 rfl (by omega)
    have hltb : b < w.heap.size := hlt b hS
    have HLB := Lib.hid hltb
    have HB1 : Hid ((w.alloc (.cells #[] 3)).heap[b]? = some (.cells #[.slice (some ad) n c, .int .i64 m] 41 (0, 0))) := Lib.hid (((World.grownBy_alloc w _ none).block _ hltb (by simp)).trans hb)
    obtain ⟨g0, g1, q0, q1⟩ := cells2t HB1.out
    have HO1 : Hid ((w.alloc (.cells #[] 3)).ownsRow w.heap.size 3 1 (.slice (some ⟨w.heap.size, 0, none⟩) 0 0) 0 []) := Lib.hid (own_new_s w w.heap.size 1 3 0 [] rfl (Nat.le_refl _) (Nat.zero_le _))
    have HR1 := Lib.hid (hx1.nr.next (kp_new w (.cells #[] 3)))
    have HS1 := Lib.hid (show w.heap.size ≤ (w.alloc (.cells #[] 3)).heap.size by simp)
    have hn12 : n ≤ 12 := by omega
    have HN := Lib.hid hn12
    have HM := Lib.hid hm
    have hn0 : 0 < n := by omega
    have hq0 : ((n : Int) == 0) = false := by simp; omega
    have hc1 := hx.cap
    obtain ⟨i0, hi, hz0, hz1, hz2⟩ := info_parts intinfo8
    obtain ⟨n1, hn1⟩ : ∃ n1, n1 = n - 1 := ⟨_, rfl⟩
    rw [← hn1] at run1 HR1
    have HN1 := Lib.hid (show n1 ≤ 12 by omega)
    clear hb hx hx1 hl hm hm2 hlt hA hn12 hc0 hn1 hn
    go_enter Try.func12, Try.ntmps12
    go_wp2_with (at_builtin; refine wpList_append_rd rfl _ _ _ rfl w.heap.size 3 i0 _ 8 Try.underlying38 hi hz0 hz1 hz2 rfl _ 0 _ rfl HO1.out _ _ _ _ (ivs r) rfl (by rw [ivs_length]; exact HR1.out.len) HR1.out.rd (ivs_one _) (by have := HN1.out; unfold maxLen; omega) (by have := HN1.out; omega) HS1.out ?_; intro v3 w3 hown3 hg3; rw [Nat.zero_add, List.nil_append] at hown3; obtain ⟨A3, c3, rfl, _, _⟩ := own_form hown3; have HO3 := Lib.hid hown3; have HG3 := Lib.hid hg3; have HB3 : Hid (w3.heap[b]? = some (.cells #[.slice (some ad) n c, .int .i64 m] 41 (0, 0))) := Lib.hid ((hg3.block b (by have := HS1.out; have := HLB.out; omega) (fun e => by have := (HO1.out.lt _ e.symm).1; have := HLB.out; omega)).trans HB1.out); obtain ⟨k0, k1, p0, p1⟩ := cells2t HB3.out; clear hown3 hg3)
    go_ret2
    refine ⟨rfl, RW.turn H.out (heap_setCell_same w3 b 0 _ _ _ HB3.out) ?_ (Off.setCell (Off.of S ?_) (.inl hS) _) (by have := HM.out; simp at this; show (r.length : Int) ≤ m; omega)⟩
    · exact ownsRow_setCell_other (a := ⟨b, 0, none⟩) HO3.out (own_type_ne HO3.out HB3.out (by decide)) _
    · exact (kp_new w (.cells #[] 3)).trans (below_own_s HO1.out HG3.out HS1.out)
end

theorem rnew_bad (m : Int) (hm : m < 0 ∨ 12 < m) (w : World) :
    Calls Try.prog 8 #[.int .i64 m] w fun e w' => e = .returned (.tuple #[.pointer none, .int .i64 1]) ∧ w = w' := by
  go_enter Try.func8, Try.ntmps8
  rcases hm with hm | hm
  · go_wp2_with fail
    go_ret2
    exact ⟨rfl, rfl⟩
  · have hm0 : ¬ m < 0 := by omega
    go_wp2_with fail
    go_ret2
    exact ⟨rfl, rfl⟩
theorem rnew_good (m : Int) (h0 : 0 ≤ m) (h1 : m ≤ 12) (w : World) :
    Calls Try.prog 8 #[.int .i64 m] w fun e w' => e = .returned (.tuple #[.pointer (some ⟨w.heap.size, 0, none⟩), .int .i64 0]) ∧ (RW w.heap.size m []).p (fun k => k = w.heap.size) w' ∧ Below w.heap.size w w' := by
  have hm0 : ¬ m < 0 := by omega
  have hm1 : ¬ 12 < m := by omega
  go_enter Try.func8, Try.ntmps8
  go_wp2_with fail
  go_ret2
  exact ⟨rfl, ⟨none, 0, 0, heap_alloc_new w _, NS.nil _, rfl, fun _ e => (by cases e), fun k hk => by subst hk; simp, by simpa using h0, h1⟩, kp_new w _⟩
end Go.Proofs.Ytijemohcengmjaa
