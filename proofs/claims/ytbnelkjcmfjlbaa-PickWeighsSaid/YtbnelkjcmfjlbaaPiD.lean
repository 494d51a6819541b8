/-
  The project's layer 11: Pick: contract; all four.
-/
import Derived.Test.YtbnelkjcmfjlbaaPiG
namespace Go.Proofs.Ytbnelkjcmfjlbaa
open Go.RowKit
set_option maxRecDepth 100000
attribute [local go_sem] Oper.semAt_some wide_depth wide_fn

theorem sumW_cons (x : Int) (r : List Int) : sumW (x :: r) = x + sumW r := rfl
/-- the first place whose sum is more -/
theorem pickAt_of : ∀ {l : List Int}, (∀ x ∈ l, 0 ≤ x) → ∀ {k : Nat} {q : Int}, k < l.length → sumW (l.take k) ≤ q → q < sumW (l.take (k + 1)) → pickAt q l = k
  | [], _, _, _, h, _, _ => by simp at h
  | x :: r, hx, 0, q, _, _, h2 => by
    simp [sumW] at h2
    unfold pickAt
    rw [if_pos h2]
    rfl
  | x :: r, hx, k + 1, q, h, h1, h2 => by
    simp only [List.take_succ_cons, sumW_cons] at h1 h2
    have hr : ∀ y ∈ r, 0 ≤ y := fun y hy => hx y (List.mem_cons_of_mem _ hy)
    have h0 := sumW_nonneg (l := r.take k) fun y hy => hr y (List.mem_of_mem_take hy)
    have := pickAt_of (l := r) hr (k := k) (q := q - x) (by simpa using h) (by omega) (by omega)
    unfold pickAt
    rw [if_neg (by omega), this, if_neg (by omega)]
    omega

set_option maxHeartbeats 8000000 in
theorem ppick_ok (A : Option Addr) (n c : Nat) (zs : List Int) (d : Int) (w : World) (hx : NR w A n zs) (hr : rightW zs = true) (hd0 : 0 ≤ d) (hd1 : d < 18446744073709551616) :
    Calls Try.prog 14 #[.slice A n c, .int .u64 d] w fun e w' => e = .returned (.int .i64 (pickW zs d)) ∧ Below w.heap.size w w' := by
  obtain ⟨h1, h2⟩ := rightW_at.1 hr
  have hge : ∀ x ∈ zs, 0 ≤ x ∧ x ≤ 100 := fun x hx => by obtain ⟨j, hj, rfl⟩ := List.getElem_of_mem hx; exact h1 j hj
  have HT : Hid (∀ k, 0 ≤ sumW (zs.take k) ∧ sumW (zs.take k) ≤ 600) := Lib.hid (sumW_take hge h2)
  have HGE : Hid (∀ x ∈ zs, 0 ≤ x) := Lib.hid fun x hx => (hge x hx).1
  have hn : n ≤ 6 := by rw [← hx.len]; exact h2
  have hl := hx.len
  have hs := HT.out n
  rw [List.take_of_length_le (by rw [hl]; exact Nat.le_refl _)] at hs
  obtain ⟨w1, hw1⟩ : ∃ u, w.alloc (.cells #[.int .i64 0] 3) = u := ⟨_, rfl⟩
  have k1 : Below w.heap.size w w1 := hw1 ▸ kp_new w _
  have z1 : w1.heap.size = w.heap.size + 1 := by rw [← hw1]; simp
  have b1 : w1.heap[w.heap.size]? = some (.cells #[.int .i64 0] 3 (0, 0)) := by rw [← hw1]; exact heap_alloc_new w _
  obtain ⟨sm, hsm⟩ : ∃ s, sumW zs = s := ⟨_, rfl⟩
  have HS := psum_ok A n c zs w1 (hx.next k1) hr
  rw [hsm] at hs HS
  have HS := Lib.hid HS
  have HX := Lib.hid hx
  have HW1 := Lib.hid hw1
  have HK1 := Lib.hid k1
  have B1 := Lib.hid b1
  have HSM := Lib.hid hsm
  clear hx h1 h2 hw1 hge k1 b1
  refine (callsIn_wide (n := 3)).1 ?_
  refine callsIn_of_wp_marks Try.func14 rfl trivial ?_
  simp only [Try.ntmps14, List.size_toArray, List.length_cons, List.length_nil, Nat.reduceAdd, Nat.reduceSub, Array.replicate_succ, Array.replicate_zero, List.push_toArray, List.append_toArray, List.nil_append, List.cons_append]
  by_cases hz : sm = 0
  · have hv : Hid (pickW zs d = -1) := Lib.hid (by unfold pickW; rw [if_pos (by omega)])
    have g0 : ¬ 0 < sm := by omega
    clear hsm hz
    gi_wp2_with fail
    rw [HW1.out]
    refine CallsIn.mono (callsIn_wide.2 HS.out) ?_
    rintro e w2 ⟨rfl, k2⟩
    have b2 := (k2.block w.heap.size (by omega)).trans B1.out
    obtain ⟨x1, z2⟩ := cellsAt b2 0 (v := .int .i64 0) rfl
    have HK2 := Lib.hid (HK1.out.trans (k2.mono HK1.out.size))
    have hz2 : w1.heap.size ≤ w2.heap.size := k2.size
    clear HS HW1 k2
    gi_wp2
    refine ⟨.int .i64 (-1), ?_, by rw [hv.out], ?_⟩
    · rw [results_cell1 rfl]
      have hc2 := World.cell?_setCell_same w2 ⟨w.heap.size, 0, none⟩ (.int .i64 (-1)) (u := .int .i64 0) x1
      simp [loadVar, go_sem, hc2]
    · exact HK2.out.setCell (p := ⟨w.heap.size, 0, none⟩) (Nat.le_refl _) _
  · have hz1 : 0 < sm := by omega
    have hw1 : IntKind.u64.wrap sm = sm := by rw [IntKind.wrap_u64]; omega
    obtain ⟨q, hq⟩ : ∃ q, d % sm = q := ⟨_, rfl⟩
    have hq0 : 0 ≤ q := hq ▸ Int.emod_nonneg _ hz
    have hq1 : q < sm := hq ▸ Int.emod_lt_of_pos _ (by omega)
    have hv : Hid (pickW zs d = pickAt q zs) := Lib.hid (by unfold pickW; rw [if_neg (by omega), hsm, hq])
    have hw2 : IntKind.i64.wrap q = q := by rw [IntKind.wrap_i64]; omega
    have hw3 : IntKind.u64.wrap q = q := by rw [IntKind.wrap_u64]; omega
    have hq2 : IntKind.u64.wrap (d.tmod sm) = q := by rw [Int.tmod_eq_emod_of_nonneg hd0, hq, hw3]
    have hw4 : wrap64 q = q := by unfold wrap64; omega
    clear hsm
    gi_wp2_with fail
    rw [HW1.out]
    refine CallsIn.mono (callsIn_wide.2 HS.out) ?_
    rintro e w2 ⟨rfl, k2⟩
    have HK2 := Lib.hid (HK1.out.trans (k2.mono HK1.out.size))
    have hz2 : w1.heap.size ≤ w2.heap.size := k2.size
    have b2 := (k2.block w.heap.size (by omega)).trans B1.out
    obtain ⟨w3, hw3'⟩ : ∃ u, w2.alloc (.cells #[.int .i64 q] 3) = u := ⟨_, rfl⟩
    have HQ := Lib.hid (psums_ok A n c w3)
    obtain ⟨w4, hw4⟩ : ∃ u, w3.alloc (.cells #[.slice A n c] 22) = u := ⟨_, rfl⟩
    rw [hw4] at HQ
    have k3 : Below w2.heap.size w2 w3 := hw3' ▸ kp_new w2 _
    have k4 : Below w3.heap.size w3 w4 := hw4 ▸ kp_new w3 _
    have z3 : w3.heap.size = w2.heap.size + 1 := by rw [← hw3']; simp
    have z4 : w4.heap.size = w2.heap.size + 2 := by rw [← hw4]; simp; omega
    have b3 : w3.heap[w2.heap.size]? = some (.cells #[.int .i64 q] 3 (0, 0)) := by rw [← hw3']; exact heap_alloc_new w2 _
    have b4 : w4.heap[w2.heap.size + 1]? = some (.cells #[.slice A n c] 22 (0, 0)) := by rw [← z3, ← hw4]; exact heap_alloc_new w3 _
    have b3' : w4.heap[w2.heap.size]? = some (.cells #[.int .i64 q] 3 (0, 0)) := (k4.block _ (by omega)).trans b3
    have b2' : w4.heap[w.heap.size]? = some (.cells #[.int .i64 0] 3 (0, 0)) := ((k4.block _ (by omega)).trans (k3.block _ (by omega))).trans b2
    have HK4 := Lib.hid ((HK2.out.trans (k3.mono HK2.out.size)).trans (k4.mono (by omega)))
    have HW3 := Lib.hid hw3'
    rw [z3] at HQ
    have HB2 := Lib.hid b2'
    have HB3 := Lib.hid b3'
    have HB4 := Lib.hid b4
    clear HS HW1 hw3' hw4 k2 k3 k4 b2 b3 b4 b3' b2'
    gi_wp2_with fail
    rw [HW3.out]
    refine CallsIn.mono (callsIn_wide.2 HQ.out) ?_
    rintro e u ⟨rfl, hu⟩
    obtain rfl : w4 = u := hu.symm
    clear HQ HW3 hu
    gi_wp2_with fail
    refine wpIn_rangeIter (gf := 17) (lb := #[.pointer (some ⟨w2.heap.size + 1, 0, none⟩)]) (n := n) (encs := tellW zs) rfl (psums_in _ (w2.heap.size + 1) n c A zs hl HT) sums_enters (fun _ => rfl)
      (fun k W => Below w4.heap.size w4 W ∧ Hid (sumW (zs.take k) ≤ q)) (fun cd W => cd = .ret ∧ Below w.heap.size w W ∧ W.cell? ⟨w.heap.size, 0, none⟩ = some (.int .i64 (pickW zs d)) ∧ w4.heap.size ≤ W.heap.size) ?stI ?stX ?hat ?h0
      (fun k => { tmps := #[.slice A n c, .int .u64 d, undef, undef, .pointer (some ⟨w.heap.size, 0, none⟩), .int .i64 sm, .pointer (some ⟨w2.heap.size, 0, none⟩), .int .i64 k, .int .i64 (sumW (zs.take (k + 1))), .slice A n c, .int .i64 sm, .int .i64 sm, .bool true, .int .u64 d, .int .i64 sm, .int .u64 sm, .int .u64 q, .int .i64 q, .slice A n c,
        .func (.func 17) #[] #[.pointer (some ⟨w2.heap.size + 1, 0, none⟩)], .int .i64 k, .int .i64 (sumW (zs.take (k + 1))), undef, undef, undef, undef], defers := [] }) ?assign ?body ?done ?stop
    case stI =>
      rintro k W W' ⟨h1, h2⟩ ho
      exact ⟨below_bk h1 ho h1.size, h2⟩
    case stX =>
      rintro cd W W' ⟨h0, h1, h2, h4⟩ ho
      have hc : W'.heap[w.heap.size]? = W.heap[w.heap.size]? := ho.block _ (by omega) fun e => by rcases e with e | e <;> omega
      exact ⟨h0, h1.trans (ho.below (fun k hk => by rcases hk with e | e <;> omega) (by omega)), (World.cell?_of_block (a := ⟨w.heap.size, 0, none⟩) hc).trans h2, Nat.le_trans h4 ho.size⟩
    case hat =>
      rintro k W ⟨h1, _⟩
      exact ⟨(cellsAt ((h1.block _ (by omega)).trans HB4.out) 0 rfl).1, HX.out.next (HK4.out.trans (h1.mono (by omega))), hn⟩
    case h0 => exact ⟨Below.refl _ _, Lib.hid (by simpa [sumW] using hq0)⟩
    case assign =>
      intro l k W K hK
      unfold tellW
      gi_wp2
      exact hK
    case body =>
      rintro l k hk W ⟨h1, h2⟩ hsz
      have x0 := (cellsAt ((h1.block w2.heap.size (by omega)).trans HB3.out) 0 (v := .int .i64 q) rfl).1
      obtain ⟨x1, z1'⟩ := cellsAt ((h1.block w.heap.size (by omega)).trans HB2.out) 0 (v := .int .i64 0) rfl
      have HBW := Lib.hid (HK4.out.trans (h1.mono (by omega : w.heap.size ≤ w4.heap.size)))
      have H1 := Lib.hid h1
      by_cases hgt : q < sumW (zs.take (k + 1))
      · have hv2 : Hid (pickW zs d = k) := Lib.hid (by rw [hv.out]; exact pickAt_of HGE.out (by omega) h2.out hgt)
        clear h1 h2
        gi_wp2
        refine ⟨⟨rfl, HBW.out.setCell (p := ⟨w.heap.size, 0, none⟩) (Nat.le_refl _) _, ?_, by rw [size_setCell]; omega⟩, fun j hj => Below.heap_setCell _ _ _ _ (by rcases hj with e | e <;> (intro e2; have e3 : w.heap.size = j := (by first | exact e2 | exact e2.symm); omega))⟩
        rw [hv2.out]
        exact World.cell?_setCell_same _ _ _ (u := .int .i64 0) x1
      · have h3 : Hid (sumW (zs.take (k + 1)) ≤ q) := Lib.hid (by omega)
        clear h1 h2
        gi_wp2
        exact ⟨⟨z4 ▸ H1.out, h3⟩, fun j hj => rfl⟩
    case done =>
      rintro W ⟨h1, h2⟩ hd
      have h3 := h2.out
      rw [List.take_of_length_le (by omega), HSM.out] at h3
      omega
    case stop =>
      rintro cd W ⟨rfl, h1, h2, h4⟩ hd
      have H1 := Lib.hid h1
      have HC := Lib.hid h2
      clear h1 h2
      gi_wp2
      refine ⟨by simp, .inl ⟨_, _, rfl, run_takeDeferred hd, ?_⟩⟩
      refine ⟨.int .i64 (pickW zs d), ?_, rfl, ?_⟩
      · rw [results_cell1 rfl]
        have hc2 := put_cell HC.out (by omega : w.heap.size ≠ w4.heap.size) (.deferred none)
        simp [loadVar, go_sem, hc2]
      · exact put_below H1.out (by omega) (by omega) _
theorem pickc_ok : PickC := ⟨pright_ok, psum_ok, fun A n c zs d w hx hr h0 h1 => ppick_ok A n c zs d w hx hr h0 h1, ponly_ok⟩
theorem picktells_all (A1 : Option Addr) (n c : Nat) (zs : List Int) (d : Nat) (A2 : Option Addr) (m g : Nat) (bs : List Bool) (W : World) (r1 : NR W A1 n zs) (hd : d < 18446744073709551616) (r2 : BR W A2 m bs) :
    Calls Try.prog 3 #[.slice A1 n c, .int .u64 d, .slice A2 m g] W fun e w' => e = .returned (.bool true) ∧ Below W.heap.size W w' :=
  picktells_walk pickc_ok.k A1 n c zs d (by omega) (by omega) A2 m g bs W r1 r2
theorem pickweighs_all (A1 : Option Addr) (n c : Nat) (zs : List Int) (d : Nat) (W : World) (r1 : NR W A1 n zs) (hn : n ≤ 140737488355328) (hd : d < 18446744073709551616) :
    Calls Try.prog 4 #[.slice A1 n c, .int .u64 d] W fun e w' => e = .returned (.bool true) ∧ Below W.heap.size W w' :=
  pickweighs_walk pickc_ok.k A1 n c zs d (by omega) (by omega) W r1 hn
theorem pickonly_all (A1 : Option Addr) (n c : Nat) (zs : List Int) (d : Nat) (A2 : Option Addr) (m g : Nat) (bs : List Bool) (W : World) (r1 : NR W A1 n zs) (hn : n ≤ 140737488355328) (hd : d < 18446744073709551616) (r2 : BR W A2 m bs) :
    Calls Try.prog 5 #[.slice A1 n c, .int .u64 d, .slice A2 m g] W fun e w' => e = .returned (.bool true) ∧ Below W.heap.size W w' :=
  pickonly_walk pickc_ok.k A1 n c zs d (by omega) (by omega) A2 m g bs W r1 r2 hn
end Go.Proofs.Ytbnelkjcmfjlbaa
