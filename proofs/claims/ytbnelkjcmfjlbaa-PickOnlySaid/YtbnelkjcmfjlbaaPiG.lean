/-
  The project's layer 11: the iterator of sums; Sum: contracts.
-/
import Derived.Test.YtbnelkjcmfjlbaaPiB
import Derived.Test.YtbnelkjcmfjlbaaRf
namespace Go.Proofs.Ytbnelkjcmfjlbaa
open Go.RowKit
set_option maxRecDepth 100000
attribute [local go_sem] Oper.semAt_some wide_depth wide_fn

theorem sumW_step (l : List Int) (k : Nat) (h : k < l.length) : sumW (l.take (k + 1)) = sumW (l.take k) + l[k] := sumW_next l k h
/-- what the iterator tells in a round -/
def tellW (zs : List Int) (k : Nat) : Array Value := #[.int .i64 k, .int .i64 (sumW (zs.take (k + 1)))]
set_option maxHeartbeats 4000000 in
/-- the iterator: of each place the sum of its weight and those ahead of it -/
theorem psums_in (m B n c : Nat) (A : Option Addr) (zs : List Int) (hl : zs.length = n) (HT : Hid (∀ k, 0 ≤ sumW (zs.take k) ∧ sumW (zs.take k) ≤ 600)) :
    Iter m 17 #[.pointer (some ⟨B, 0, none⟩)] n (tellW zs) (fun W => W.cell? ⟨B, 0, none⟩ = some (.slice A n c) ∧ NR W A n zs ∧ n ≤ 6) := by
  intro l J Jx hY hat W h0
  have HL := Lib.hid hl
  have HY := Lib.hid hY
  have HA := Lib.hid hat
  obtain ⟨hc, _, hn⟩ := hat 0 W h0
  clear hl hY hat
  refine callsIn_of_wp Try.func17 rfl trivial ?_ rfl
  simp only [Try.ntmps17, List.size_toArray, List.length_cons, List.length_nil, Nat.reduceAdd, Nat.reduceSub, Array.replicate_succ, Array.replicate_zero, List.push_toArray, List.append_toArray, List.nil_append, List.cons_append]
  gi_wp2
  gi_loopw [3, 8] (fun s i wr => ∃ (k : Nat) (z : Int), k ≤ n ∧ i = .int .i64 k ∧ s = .int .i64 z ∧ Hid (z = sumW (zs.take k)) ∧ J k wr) (fun _ i _ => n - (intOf i).toNat)
  case atStart => exact ⟨0, 0, Nat.zero_le _, rfl, rfl, Lib.hid rfl, h0⟩
  case round =>
    obtain ⟨k, z, hk, rfl, rfl, hz, hj⟩ := hrel
    by_cases hlt : k < n
    · have hkl : k < zs.length := by rw [HL.out]; exact hlt
      obtain ⟨ad, rfl, _, hc⟩ := (HA.out k wr hj).2.1.at_ hkl
      have d1 := hc _ (Below.refl _ _)
      have hz2 : Hid (z + zs[k] = sumW (zs.take (k + 1))) := Lib.hid (by rw [sumW_next zs k hkl, hz.out])
      have hlo := (HT.out (k + 1)).1
      have hhi := (HT.out (k + 1)).2
      obtain ⟨fn, tmps, assign, body, hy, hR⟩ := HY.out k hlt wr hj
      unfold tellW at hy
      rw [← hz2.out] at hlo hhi hy
      have hw : IntKind.i64.wrap (z + zs[k]) = z + zs[k] := by rw [IntKind.wrap_i64]; omega
      clear hc hz
      generalize zs[k] = y at *
      gi_wp2
      refine hR.mono ?_
      rintro e W3 (⟨rfl, hJ3⟩ | ⟨rfl, hJx3⟩)
      · gi_wp2
        go_roundw
        case rel => exact ⟨k + 1, z + y, by omega, by go_num, by go_num, hz2, hJ3⟩
        case measure => simp [intOf]; omega
      · gi_wp2
        refine bodyPost_ret (results_none rfl _ _ _) rfl ?_
        exact ⟨⟨_, rfl⟩, .inr hJx3⟩
    · obtain rfl : k = n := by omega
      gi_wp2
      go_end0
      exact ⟨⟨_, rfl⟩, .inl hj⟩

/-- what it is made of -/
theorem psums_ok (A : Option Addr) (n c : Nat) (w : World) :
    Calls Try.prog 16 #[.slice A n c] w fun e w' => e = .returned (.func (.func 17) #[] #[.pointer (some ⟨w.heap.size, 0, none⟩)]) ∧ w' = w.alloc (.cells #[.slice A n c] 22) := by
  go_enter Try.func16, Try.ntmps16
  go_wp2_with fail
  go_ret
  exact ⟨rfl, rfl⟩
theorem sums_enters : ∀ args w, (callFunc 17 args).run Try.prog w = .ok (.enter 17 args) w := enters_of Try.func17 (by kernel_rfl) rfl

set_option maxHeartbeats 4000000 in
theorem psum_ok (A : Option Addr) (n c : Nat) (zs : List Int) (w : World) (hx : NR w A n zs) (hr : rightW zs = true) :
    Calls Try.prog 12 #[.slice A n c] w fun e w' => e = .returned (.int .i64 (sumW zs)) ∧ Below w.heap.size w w' := by
  obtain ⟨h1, h2⟩ := rightW_at.1 hr
  have HT : Hid (∀ k, 0 ≤ sumW (zs.take k) ∧ sumW (zs.take k) ≤ 600) := Lib.hid (sumW_take (fun x hx => by obtain ⟨j, hj, rfl⟩ := List.getElem_of_mem hx; exact h1 j hj) h2)
  have hn : n ≤ 6 := by rw [← hx.len]; exact h2
  have hl := hx.len
  obtain ⟨w1, hw1⟩ : ∃ u, w.alloc (.cells #[.int .i64 0] 3) = u := ⟨_, rfl⟩
  have k1 : Below w.heap.size w w1 := hw1 ▸ kp_new w _
  have z1 : w1.heap.size = w.heap.size + 1 := by rw [← hw1]; simp
  have b1 : w1.heap[w.heap.size]? = some (.cells #[.int .i64 0] 3 (0, 0)) := by rw [← hw1]; exact heap_alloc_new w _
  have HQ := Lib.hid (psums_ok A n c w1)
  obtain ⟨w2, hw2⟩ : ∃ u, w1.alloc (.cells #[.slice A n c] 22) = u := ⟨_, rfl⟩
  have k2 : Below w1.heap.size w1 w2 := hw2 ▸ kp_new w1 _
  have z2 : w2.heap.size = w.heap.size + 2 := by rw [← hw2]; simp; omega
  have b2 : w2.heap[w.heap.size + 1]? = some (.cells #[.slice A n c] 22 (0, 0)) := by rw [← z1, ← hw2]; exact heap_alloc_new w1 _
  have b1' : w2.heap[w.heap.size]? = some (.cells #[.int .i64 0] 3 (0, 0)) := (k2.block _ (by omega)).trans b1
  have HX := Lib.hid hx
  have HK2 : Hid (Below w.heap.size w w2) := Lib.hid (k1.trans (k2.mono k1.size))
  rw [hw2, z1] at HQ
  have HW1 := Lib.hid hw1
  clear hx hr h1 h2 hw1 hw2 k1 k2 b1
  refine (callsIn_wide (n := 3)).1 ?_
  refine callsIn_of_wp_marks Try.func12 rfl trivial ?_
  simp only [Try.ntmps12, List.size_toArray, List.length_cons, List.length_nil, Nat.reduceAdd, Nat.reduceSub, Array.replicate_succ, Array.replicate_zero, List.push_toArray, List.append_toArray, List.nil_append, List.cons_append]
  gi_wp2_with fail
  rw [HW1.out]
  refine CallsIn.mono (callsIn_wide.2 HQ.out) ?_
  rintro e u ⟨rfl, hu⟩
  obtain rfl : w2 = u := hu.symm
  clear HQ HW1 hu
  gi_wp2_with fail
  refine wpIn_rangeIter (gf := 17) (lb := #[.pointer (some ⟨w.heap.size + 1, 0, none⟩)]) (n := n) (encs := tellW zs) rfl (psums_in _ (w.heap.size + 1) n c A zs hl HT) sums_enters (fun _ => rfl)
    (fun k W => Below w.heap.size w W ∧ W.heap[w.heap.size]? = some (.cells #[.int .i64 (sumW (zs.take k))] 3 (0, 0)) ∧ W.heap[w.heap.size + 1]? = some (.cells #[.slice A n c] 22 (0, 0)) ∧ w2.heap.size ≤ W.heap.size) (fun _ _ => False) ?stI ?stX ?hat ?h0
    (fun k => { tmps := #[.slice A n c, undef, .int .i64 0, .pointer (some ⟨w.heap.size, 0, none⟩), undef, .int .i64 (sumW (zs.take (k + 1))), .slice A n c, .func (.func 17) #[] #[.pointer (some ⟨w.heap.size + 1, 0, none⟩)], .int .i64 k, .int .i64 (sumW (zs.take (k + 1))), undef, undef], defers := [] }) ?assign ?body ?done ?stop
  case stI =>
    rintro k W W' ⟨h1, h2, h3, h5⟩ ho
    have hne : ∀ j, j < w2.heap.size → ¬ bkS w2.heap.size j := fun j hj e => by rcases e with e | e <;> omega
    refine ⟨h1.trans (ho.below (fun j hj => by rcases hj with e | e <;> omega) (by omega)), (ho.block _ (by omega) (hne _ (by omega))).trans h2, (ho.block _ (by omega) (hne _ (by omega))).trans h3, Nat.le_trans h5 ho.size⟩
  case stX => exact fun _ _ _ h _ => h
  case hat =>
    rintro k W ⟨h1, h2, h3, h5⟩
    exact ⟨(cellsAt h3 0 rfl).1, HX.out.next h1, hn⟩
  case h0 => exact ⟨HK2.out, by simpa [sumW] using b1', b2, Nat.le_refl _⟩
  case assign =>
    intro l k W K hK
    unfold tellW
    gi_wp2
    exact hK
  case body =>
    rintro l k hk W ⟨h1, h2, h3, h5⟩ hsz
    obtain ⟨x1, z1⟩ := cellsAt h2 0 (v := .int .i64 (sumW (zs.take k))) rfl
    generalize sumW (zs.take k) = s1 at *
    gi_wp2
    refine ⟨⟨h1.setCell (p := ⟨w.heap.size, 0, none⟩) (Nat.le_refl _) _, heap_setCell_same W w.heap.size 0 _ 3 (.int .i64 (sumW (zs.take (k + 1)))) h2, (Below.heap_setCell _ _ _ _ (by intro e; have e3 : w.heap.size = w.heap.size + 1 := (by first | exact e | exact e.symm); omega)).trans h3, by rw [size_setCell]; exact h5⟩, fun j hj => Below.heap_setCell _ _ _ _ (by rcases hj with e | e <;> (intro e2; have e3 : w.heap.size = j := (by first | exact e2 | exact e2.symm); omega))⟩
  case done =>
    rintro W ⟨h1, h2, h3, h5⟩ hd
    obtain ⟨x1, z1⟩ := cellsAt h2 0 (v := .int .i64 (sumW (zs.take n))) rfl
    gi_wp2
    refine ⟨by simp, .inl ⟨_, _, rfl, run_takeDeferred hd, ?_⟩⟩
    refine ⟨_, results_tmp rfl _ _ _, ?_, put_below h1 (by omega) (by omega) _⟩
    rw [List.take_of_length_le (by omega)]
    rfl
  case stop => exact fun _ _ h _ => h.elim
end Go.Proofs.Ytbnelkjcmfjlbaa
