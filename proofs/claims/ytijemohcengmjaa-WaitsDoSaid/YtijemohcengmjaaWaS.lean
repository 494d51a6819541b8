/-
  The document's layer 8: Drop, Same: contracts.
-/
import Derived.Test.YtijemohcengmjaaWaR
namespace Go.Proofs.Ytijemohcengmjaa
open Go.RowKit
set_option maxRecDepth 100000

section
variable {b : Nat} {m : Int} {l : List Int} {S : Nat → Prop} {w : World}
set_option maxHeartbeats 8000000 in
theorem rdrop_ok (x : Int) (h : (RW b m l).p S w) :
    Calls Try.prog 14 #[.pointer (some ⟨b, 0, none⟩), .int .i64 x] w fun e w' => e = .returned (.bool (decide (0 ≤ atW x l))) ∧ Turn (RW b m (dropW x l)) S w w' := by
  have HF := Lib.hid (rat_ok x h)
  have H := Lib.hid h
  obtain ⟨A, n, c, hb, hx, hS, hA, hlt, hm, hm2⟩ := RW.at_ h
  obtain ⟨b0, b1, f0, f1⟩ := cells2t hb
  have hl := hx.nr.len
  have hge := atW_ge x l
  clear h
  by_cases hp : atW x l < 0
  · have hi : atW x l = -1 := by omega
    rw [dropW_not hi, hi]
    rw [hi] at HF
    clear hp hi hge hb
    go_enter Try.func14, Try.ntmps14
    go_wp2_with fail
    refine HF.out.mono ?_
    rintro e w1 ⟨rfl, rfl⟩
    go_wp2_with fail
    go_ret
    exact ⟨rfl, Turn.here H.out⟩
  · obtain ⟨i, hi⟩ : ∃ i : Nat, atW x l = i := ⟨(atW x l).toNat, by omega⟩
    have hil := (atW_is hi).1
    have hdl : ((dropW x l).length : Int) ≤ m := by have := dropW_len x l; omega
    have HD := Lib.hid (dropW_at hi)
    rw [hi] at HF
    rw [hi]
    have hin : i < n := by omega
    obtain ⟨A1, run1, hx1⟩ := hx.cut0 Try.prog 38 (by kernel_rfl) (by kernel_rfl) (j := i) i rfl (by omega)
    obtain ⟨A2, run2, hx2⟩ := hx.cut1 Try.prog 38 (by kernel_rfl) (by kernel_rfl) (i := i + 1) ((i : Int) + 1) (by omega) (by omega)
    have hltb : b < w.heap.size := hlt b hS
    have HLB := Lib.hid hltb
    have HB1 : Hid ((w.drew.alloc (.cells #[] 3)).heap[b]? = some (.cells #[.slice A n c, .int .i64 m] 41 (0, 0))) := Lib.hid (((World.grownBy_alloc w.drew _ none).block _ (by simpa using hltb) (by simp)).trans hb)
    obtain ⟨g0, g1, q0, q1⟩ := cells2t HB1.out
    have HO1 : Hid ((w.drew.alloc (.cells #[] 3)).ownsRow w.heap.size 3 1 (.slice (some ⟨w.heap.size, 0, none⟩) 0 0) 0 []) := Lib.hid (own_new_s w.drew w.heap.size 1 3 0 [] rfl (Nat.le_refl _) (Nat.zero_le _))
    have HR1 := Lib.hid (hx1.nr.next (kp_new w (.cells #[] 3)))
    have HX2 := Lib.hid hx2.nr
    have HKA := Lib.hid (kp_alloc (Below.refl w.heap.size w).drew (.cells #[] 3))
    have HS1 := Lib.hid (show w.heap.size ≤ (w.drew.alloc (.cells #[] 3)).heap.size by simp)
    obtain ⟨n2, hn2⟩ : ∃ n2, n2 = n - (i + 1) := ⟨_, rfl⟩
    obtain ⟨c2, hc2⟩ : ∃ c2, c2 = c - (i + 1) := ⟨_, rfl⟩
    rw [← hn2, ← hc2] at run2
    rw [← hn2] at HX2
    have hwr : IntKind.i64.wrap ((i : Int) + 1) = (i : Int) + 1 := by rw [IntKind.wrap_i64]; omega
    have HN1 := Lib.hid (show i ≤ 12 by omega)
    have HN2 := Lib.hid (show n2 ≤ 12 by omega)
    obtain ⟨i0, hi0, hz0, hz1, hz2⟩ := info_parts intinfo8
    clear hb hx hx1 hx2 hl hm hm2 hlt hA hge hp hi hn2 hc2 hil
    go_enter Try.func14, Try.ntmps14
    go_wp2_with fail
    refine HF.out.mono ?_
    rintro e w1 ⟨rfl, rfl⟩
    go_wp2_with fail
    go_region_law? (first | (refine step_append_rd rfl (.tmp 12) (.tmp 18) _ rfl w.heap.size 3 i0 _ 8 Try.underlying38 hi0 hz0 hz1 hz2 rfl _ 0 _ rfl HO1.out _ _ _ _ (ivs (l.take i)) rfl (by rw [ivs_length]; exact HR1.out.len) HR1.out.rd (ivs_one _) (by have := HN1.out; unfold maxLen; omega) (by have := HN1.out; omega) HS1.out ?_; intro v3 w3 hown3 hg3; rw [Nat.zero_add, List.nil_append] at hown3; obtain ⟨A3, c3, rfl, _, _⟩ := own_form hown3; have HO3 := Lib.hid hown3; have HG3 := Lib.hid hg3; have HR3 := Lib.hid (HX2.out.next (HKA.out.trans (below_own_s HO1.out hg3 HS1.out))); have HS3 := Lib.hid (Nat.le_trans HS1.out hg3.size); have HB3 : Hid (w3.heap[b]? = some (.cells #[.slice A n c, .int .i64 m] 41 (0, 0))) := Lib.hid ((hg3.block b (Nat.lt_of_lt_of_le HLB.out HS1.out) (fun e => by have := (HO1.out.lt _ e.symm).1; have := HLB.out; omega)).trans HB1.out); obtain ⟨k0, k1, p0, p1⟩ := cells2t HB3.out) | (refine step_append_rd rfl (.tmp 19) (.tmp 26) _ rfl w.heap.size 3 i0 _ 8 Try.underlying38 hi0 hz0 hz1 hz2 rfl _ i _ rfl HO3.out _ _ _ _ (ivs (l.drop (i + 1))) rfl (by rw [ivs_length]; exact HR3.out.len) HR3.out.rd (ivs_one _) (by have := HN1.out; have := HN2.out; unfold maxLen; omega) (by have := HN1.out; have := HN2.out; omega) HS3.out ?_; intro v5 w5 hown5 hg5; obtain ⟨A5, c5, rfl, _, _⟩ := own_form hown5; have HO5 := Lib.hid hown5; have HG5 := Lib.hid hg5; have HB5 : Hid (w5.heap[b]? = some (.cells #[.slice A n c, .int .i64 m] 41 (0, 0))) := Lib.hid ((hg5.block b (Nat.lt_of_lt_of_le HLB.out HS3.out) (fun e => by have := (HO3.out.lt _ e.symm).1; have := HLB.out; omega)).trans HB3.out); obtain ⟨m0, m1, s0, s1⟩ := cells2t HB5.out))
    all_goals
      go_wp2_with fail
      go_ret
      refine ⟨rfl, RW.turn H.out (heap_setCell_same w5 b 0 _ _ _ HB5.out) ?_ (Off.setCell (Off.of S ?_) (.inl hS) _) hdl⟩
      · rw [HD.out, ivs_append]
        exact ownsRow_setCell_other (a := ⟨b, 0, none⟩) HO5.out (own_type_ne HO5.out HB5.out (by decide)) _
      · exact (HKA.out.trans (below_own_s HO1.out HG3.out HS1.out)).trans (below_own_s HO3.out HG5.out HS3.out)
end
end Go.Proofs.Ytijemohcengmjaa
