/-
  The project's view: Bring, Covers, Later: contracts; all that the laws ask of it.
-/
import Derived.Test.YtpmkaceeomnijaaViT
import Derived.Test.YtpmkaceeomnijaaReg
namespace Go.Proofs.Ytpmkaceeomnijaa
open Go.RowKit
set_option maxRecDepth 100000

/-- what took answers, and what IndexFunc does -/
def fnStb14 (te tp : Int) : Stb := ⟨fun v u => ∃ g, v = .func (.func 23) #[] #[.pointer (some ⟨g, 0, none⟩)] ∧ u.heap[g]? = some (tkB te tp), fun _ _ _ ⟨g, h1, h2⟩ hb => ⟨g, h1, (hb.block g (Array.getElem?_eq_some_iff.1 h2).1).trans h2⟩⟩
def firstStb14 (te tp : Int) (l : List (Int × Int)) : Stb := ⟨fun v _ => ∃ z, v = .int .i64 z ∧ FirstP te tp l z, fun _ _ _ h _ => h⟩
section
variable {b : Nat} {v : Vw} {S : Nat → Prop} {w : World}
set_option maxHeartbeats 8000000 in
theorem pbring_ok {k : Nat} (t : Tk14) (h : (PV b v).p S w) (hv : VwI k v) (hk : k ≤ 1000) :
    Calls Try.prog 9 #[.pointer (some ⟨b, 0, none⟩), t.v] w fun e w' => e = .returned (.tuple #[(bringF v t).v, .bool (bringB v t)]) ∧ Below w.heap.size w w' := by
  obtain ⟨A, n, c, l, hb, hx, hkl, hS, hA, hlt⟩ := PV.at_ h
  obtain ⟨te, tp⟩ := t
  obtain ⟨w2, hw2⟩ : ∃ u, (w.alloc (.cells #[.int .u64 te, .int .u64 tp] 25)).alloc (.cells #[.int .u64 0, .int .u64 0] 25) = u := ⟨_, rfl⟩
  have k2 : Below w.heap.size w w2 := hw2 ▸ kp_alloc (kp_new _ _) _
  have hz2 : w2.heap.size = w.heap.size + 2 := by rw [← hw2]; simp
  have b1 : w2.heap[w.heap.size]? = some (.cells #[.int .u64 te, .int .u64 tp] 25 (0, 0)) := by
    rw [← hw2, heap_alloc_old _ _ (by simp)]
    exact heap_alloc_new w _
  have b2 : w2.heap[w.heap.size + 1]? = some (.cells #[.int .u64 0, .int .u64 0] 25 (0, 0)) := by
    rw [← hw2]
    have := heap_alloc_new (w.alloc (.cells #[.int .u64 te, .int .u64 tp] 25)) (.cells #[.int .u64 0, .int .u64 0] 25)
    rwa [World.size_alloc] at this
  have hbw : b < w.heap.size := hlt b hS
  have hb2 := (k2.block b hbw).trans hb
  have hcu := CUR.of_own hx
  have hAlt : ∀ ad, A = some ad → ad.block < w2.heap.size := fun ad e => Nat.lt_of_lt_of_le (hlt _ (hA ad e).1) k2.size
  have HX := Lib.hid (hcu.next k2)
  have HN := Lib.hid hcu.len
  have hnn : n ≤ 1000 := by rw [← hcu.len]; exact Nat.le_trans hkl.len (Nat.le_trans hv.len hk)
  have HKL := Lib.hid hkl
  have HK2 := Lib.hid k2
  have HW2 := Lib.hid hw2
  have HZ2 := Lib.hid hz2
  have HB2 := Lib.hid hb2
  have HB1 := Lib.hid b1
  have HBR := Lib.hid b2
  have HBW := Lib.hid hbw
  obtain ⟨d0, _⟩ := cellsAt hb 0 (v := .int .u64 v.ep) rfl
  clear h hb hx hcu hS hA hlt hb2 b1 b2 k2 hv hkl hw2 hz2 hAlt
  unfold Tk14.v
  by_cases hv : v.ep ≤ te
  · have e1 : bringF v ⟨te, tp⟩ = ⟨te, tp⟩ := if_pos hv
    have e2 : bringB v ⟨te, tp⟩ = true := decide_eq_true (.inl hv)
    rw [e1, e2]
    clear e1 e2 HX HN HW2 HK2 hnn HKL HB2 HB1 HBR HZ2
    go_enter Try.func9, Try.ntmps9
    go_wp2_with fail
    go_quiet (fail)
    go_wp2_with fail
    refine bodyPost_ret (v := .tuple #[.agg #[.int .u64 te, .int .u64 tp], .bool true]) ?_ rfl ⟨rfl, ?_⟩
    · rw [results_cell_tmp1 rfl]
      go_simp
    · exact (((kp_alloc (kp_new _ _) _).trans ((kp_drewN _ _).mono (by simp; omega))).setCell (Nat.le_succ _) _).setCell (Nat.le_succ _) _
  · have e1 : bringF v ⟨te, tp⟩ = ⟨v.ep, leftF te v.l tp⟩ := if_neg hv
    have e2 : bringB v ⟨te, tp⟩ = decide (leftF te v.l tp = tp) := decide_eq_decide.2 ⟨fun h => h.resolve_left hv, .inr⟩
    rw [e1, e2]
    obtain ⟨lv, hlv⟩ : ∃ x, leftF te v.l tp = x := ⟨_, rfl⟩
    rw [hlv]
    have HLV := Lib.hid hlv
    clear e1 e2 hlv
    go_enter Try.func9, Try.ntmps9
    go_wp2_with fail
    go_quiet (fail)
    rw [HW2.out]
    obtain ⟨nk, hnk⟩ : ∃ x, x = nq := ⟨nq, rfl⟩
    subst hnk
    have KQ := Lib.hid (kp_drewN w2 nk)
    obtain ⟨wq, hwq⟩ : ∃ u, w2.drewN nk = u := ⟨_, rfl⟩
    rw [hwq] at KQ ⊢
    have hbq : wq.heap[b]? = some (.cells #[.int .u64 v.ep, .int .i64 v.pr, .slice A n c] 54 (0, 0)) := (KQ.out.block b (by have := HBW.out; have := HZ2.out; omega)).trans HB2.out
    have htq : wq.heap[w.heap.size]? = some (.cells #[.int .u64 te, .int .u64 tp] 25 (0, 0)) := (KQ.out.block _ (by have := HZ2.out; omega)).trans HB1.out
    obtain ⟨c0, _⟩ := cellsAt hbq 0 (v := .int .u64 v.ep) rfl
    obtain ⟨q0, _⟩ := cellsAt htq 0 (v := .int .u64 te) rfl
    obtain ⟨q1, _⟩ := cellsAt htq 1 (v := .int .u64 tp) rfl
    have hbl : b < wq.heap.size := (Array.getElem?_eq_some_iff.1 hbq).1
    have htl : w.heap.size < wq.heap.size := (Array.getElem?_eq_some_iff.1 htq).1
    clear hwq hbq htq hbw d0
    go_wp2_with fail
    go_region
    go_wp2_with fail
    obtain ⟨qb, hqb⟩ : ∃ x, wq.heap.size = x := ⟨_, rfl⟩
    obtain ⟨w4, hw4⟩ : ∃ u, ((wq.alloc (.cells #[.int .u64 v.ep, .int .u64 tp] 25)).alloc (.cells #[.int .u64 v.ep, .int .u64 tp] 25)).drew = u := ⟨_, rfl⟩
    have h4q : Below wq.heap.size wq w4 := hw4 ▸ (kp_alloc (kp_new _ _) _).drew
    have h4 : Below w2.heap.size w2 w4 := KQ.out.trans (h4q.mono KQ.out.size)
    have m1 : w4.heap[qb]? = some (.cells #[.int .u64 v.ep, .int .u64 tp] 25 (0, 0)) := by
      rw [← hw4, ← hqb]
      show ((wq.alloc (.cells #[.int .u64 v.ep, .int .u64 tp] 25)).alloc (.cells #[.int .u64 v.ep, .int .u64 tp] 25)).heap[wq.heap.size]? = _
      rw [heap_alloc_old _ _ (by simp)]
      exact heap_alloc_new wq _
    have m2 : w4.heap[qb + 1]? = some (.cells #[.int .u64 v.ep, .int .u64 tp] 25 (0, 0)) := by
      rw [← hw4, ← hqb]
      have := heap_alloc_new (wq.alloc (.cells #[.int .u64 v.ep, .int .u64 tp] 25)) (.cells #[.int .u64 v.ep, .int .u64 tp] 25)
      rwa [World.size_alloc] at this
    have HX4 := Lib.hid (HX.out.next h4)
    have HC4 : Hid (∀ u, Below w4.heap.size w4 u → u.cell? ⟨b, 0, none⟩ = some (.int .u64 v.ep) ∧ u.cell? ⟨b, 2, none⟩ = some (.slice A n c) ∧ u.cell? ⟨w.heap.size, 0, none⟩ = some (.int .u64 te) ∧ u.cell? ⟨w.heap.size, 1, none⟩ = some (.int .u64 tp) ∧
        u.cell? ⟨qb, 0, none⟩ = some (.int .u64 v.ep) ∧ u.cell? ⟨qb, 1, none⟩ = some (.int .u64 tp) ∧ u.cell? ⟨qb + 1, 0, none⟩ = some (.int .u64 v.ep) ∧ u.cell? ⟨qb + 1, 1, none⟩ = some (.int .u64 tp) ∧ u.frozen? ⟨qb + 1, 1, none⟩ = false ∧
        (u.cell? ⟨w.heap.size + 1, 0, none⟩ = some (.int .u64 0) ∧ u.cell? ⟨w.heap.size + 1, 1, none⟩ = some (.int .u64 0)) ∧ u.frozen? ⟨w.heap.size + 1, 0, none⟩ = false ∧ u.frozen? ⟨w.heap.size + 1, 1, none⟩ = false) := Lib.hid fun u hu => by
      have hl4 := h4.size
      have e1 := HZ2.out
      have e2 := HBW.out
      have h1 := (hu.block b (by omega)).trans ((h4.block b (by omega)).trans HB2.out)
      have h2 := (hu.block w.heap.size (by omega)).trans ((h4.block w.heap.size (by omega)).trans HB1.out)
      have h3 := (hu.block (w.heap.size + 1) (by omega)).trans ((h4.block (w.heap.size + 1) (by omega)).trans HBR.out)
      have h5 := (hu.block qb (Array.getElem?_eq_some_iff.1 m1).1).trans m1
      have h6 := (hu.block (qb + 1) (Array.getElem?_eq_some_iff.1 m2).1).trans m2
      exact ⟨(cellsAt h1 0 rfl).1, (cellsAt h1 2 rfl).1, (cellsAt h2 0 rfl).1, (cellsAt h2 1 rfl).1, (cellsAt h5 0 rfl).1, (cellsAt h5 1 rfl).1, (cellsAt h6 0 rfl).1, (cellsAt h6 1 rfl).1, (cellsAt h6 1 (v := .int .u64 tp) rfl).2,
        ⟨(cellsAt h3 0 rfl).1, (cellsAt h3 1 rfl).1⟩, (cellsAt h3 0 (v := .int .u64 0) rfl).2, (cellsAt h3 1 (v := .int .u64 0) rfl).2⟩
    have HQ0 : Hid (w2.heap.size ≤ qb) := Lib.hid (by rw [← hqb]; exact KQ.out.size)
    have HK4 := Lib.hid (HK2.out.trans (h4.mono HK2.out.size))
    rw [hqb, hw4]
    clear hqb hw4 h4q h4 m1 m2 c0 q0 q1 hbl htl
    refine wp_region_specs (S := fun u => Below w4.heap.size w4 u) (Sp := [(25, Stb.eq (.pointer (some ⟨b, 0, none⟩))), (26, Stb.eq (.pointer (some ⟨b, 0, none⟩))), (27, Stb.eq (.pointer (some ⟨b, 2, none⟩))), (28, Stb.eq (.slice A n c)), (29, Stb.eq (.agg #[.int .u64 te, .int .u64 tp])), (30, fnStb14 te tp), (31, firstStb14 te tp l), (8, firstStb14 te tp l)]) (by kernel_rfl) (by kernel_rfl) (kp_drewN _ 1) ?_ ?_
    · refine EachOp.cons ?_ ?_
      · intro a u hst hS hdep
        have h0 : a.tmps.getD 0 undef = .pointer (some ⟨b, 0, none⟩) := hst.out 0 (by kernel_rfl)
        refine ⟨trivial, ?_⟩
        have g0 := gd h0
        go_simp
        exact Goes.same hS rfl
      refine EachOp.cons ?_ ?_
      · intro a u hst hS hdep
        have h25 : a.tmps.getD 25 undef = .pointer (some ⟨b, 0, none⟩) := hdep 25 (by kernel_rfl)
        refine ⟨trivial, ?_⟩
        have g25 := gd h25
        go_simp
        exact Goes.same hS rfl
      refine EachOp.cons ?_ ?_
      · intro a u hst hS hdep
        have h26 : a.tmps.getD 26 undef = .pointer (some ⟨b, 0, none⟩) := hdep 26 (by kernel_rfl)
        refine ⟨trivial, ?_⟩
        have g26 := gd h26
        go_simp
        exact Goes.same hS rfl
      refine EachOp.cons ?_ ?_
      · intro a u hst hS hdep
        have h27 : a.tmps.getD 27 undef = .pointer (some ⟨b, 2, none⟩) := hdep 27 (by kernel_rfl)
        refine ⟨trivial, ?_⟩
        have g27 := gd h27
        have c28 := (HC4.out u hS).2.1
        go_simp
        exact Goes.same hS rfl
      refine EachOp.cons ?_ ?_
      · intro a u hst hS hdep
        have h3 : a.tmps.getD 3 undef = .pointer (some ⟨w.heap.size, 0, none⟩) := hst.out 3 (by kernel_rfl)
        refine ⟨trivial, ?_⟩
        have g3 := gd h3
        obtain ⟨_, _, c29, d29, _⟩ := HC4.out u hS
        go_simp
        exact Goes.same hS rfl
      refine EachOp.cons ?_ ?_
      · intro a u hst hS hdep
        have h29 : a.tmps.getD 29 undef = .agg #[.int .u64 te, .int .u64 tp] := hdep 29 (by kernel_rfl)
        refine ⟨trivial, ?_⟩
        have g29 := gd h29
        go_simp
        refine (ptook_ok te tp u).mono ?_
        rintro e u' ⟨rfl, hm, hb'⟩
        exact Goes.next (kp_trans hS hb') hb' ⟨_, rfl, hm⟩
      refine EachOp.cons ?_ ?_
      · intro a u hst hS hdep
        have h28 : a.tmps.getD 28 undef = .slice A n c := hdep 28 (by kernel_rfl)
        obtain ⟨q30, h30, m30⟩ := hdep 30 (by kernel_rfl)
        refine ⟨trivial, ?_⟩
        have g28 := gd h28
        have g30 := gd h30
        go_simp
        refine (pindex_ok te tp q30 A n c l u (HX4.out.next (hS)) hnn m30).mono ?_
        rintro e u' ⟨z, rfl, hm, hb'⟩
        exact Goes.next (kp_trans hS hb') hb' ⟨_, rfl, hm⟩
      refine EachOp.cons ?_ ?_
      · intro a u hst hS hdep
        obtain ⟨z31, h31, m31⟩ := hdep 31 (by kernel_rfl)
        refine ⟨trivial, ?_⟩
        have g31 := gd h31
        go_simp
        exact Goes.same hS ⟨_, rfl, m31⟩
      exact EachOp.nil
    · intro a u hst hS hdep
      have h25 : a.tmps.getD 25 undef = .pointer (some ⟨b, 0, none⟩) := hdep 25 (by kernel_rfl)
      have h26 : a.tmps.getD 26 undef = .pointer (some ⟨b, 0, none⟩) := hdep 26 (by kernel_rfl)
      have h27 : a.tmps.getD 27 undef = .pointer (some ⟨b, 2, none⟩) := hdep 27 (by kernel_rfl)
      have h28 : a.tmps.getD 28 undef = .slice A n c := hdep 28 (by kernel_rfl)
      have h29 : a.tmps.getD 29 undef = .agg #[.int .u64 te, .int .u64 tp] := hdep 29 (by kernel_rfl)
      obtain ⟨q30, h30, m30⟩ := hdep 30 (by kernel_rfl)
      obtain ⟨z31, h31, m31⟩ := hdep 31 (by kernel_rfl)
      obtain ⟨z8, h8, m8⟩ := hdep 8 (by kernel_rfl)
      have hfr := hst.frame [(25, .pointer (some ⟨b, 0, none⟩)), (26, .pointer (some ⟨b, 0, none⟩)), (27, .pointer (some ⟨b, 2, none⟩)), (28, .slice A n c), (29, .agg #[.int .u64 te, .int .u64 tp]), (30, .func (.func 23) #[] #[.pointer (some ⟨q30, 0, none⟩)]), (31, .int .i64 z31), (8, .int .i64 z8)] (by kernel_rfl) ⟨h25, h26, h27, h28, h29, h30, h31, h8, trivial⟩
      clear hst hdep h25 h26 h27 h28 h29 h30 h31 h8
      subst hfr
      simp only [List.foldl_cons, List.foldl_nil, List.setIfInBounds_toArray, List.set_cons_zero, List.set_cons_succ]
      have HF := Lib.hid (m8.left HKL.out)
      have HS := Lib.hid hS
      obtain ⟨r0, r1, r2, r3, r4, r5, r6, r7, r8, r9, ra, rb⟩ := HC4.out u hS
      clear hS m8 m30 m31
      have hq : w.heap.size + 1 < qb := by have := HQ0.out; have := HZ2.out; omega
      rcases HF.out with ⟨hz, hl⟩ | ⟨j, hj, hz, hl, hxt⟩
      · subst hz
        have HL : Hid (lv = tp) := Lib.hid (HLV.out.symm.trans hl)
        clear hl HF
        go_wp2_with fail
        go_region
        go_wp2_with fail
        refine bodyPost_ret (v := .tuple #[.agg #[.int .u64 v.ep, .int .u64 tp], .bool true]) ?_ rfl ⟨by rw [HL.out, decide_eq_true rfl], ?_⟩
        · rw [results_cell_tmp1 rfl]
          go_simp
        · exact (((HK4.out.trans (HS.out.mono HK4.out.size)).setCell (Nat.le_succ _) _).setCell (Nat.le_succ _) _).drew
      · subst hz
        have HL : Hid (lv = l[j].2) := Lib.hid (HLV.out.symm.trans hl)
        have hjn : j < n := by rw [← HN.out]; exact hj
        have hj0 : (0 : Int) ≤ (j : Int) := by omega
        have hj1 : (j : Int) < (n : Int) := by omega
        obtain ⟨ad, hA, _, cx⟩ := HX4.out.at_ hj
        subst hA
        obtain ⟨_, x1⟩ := cx u HS.out
        clear hl HF cx
        generalize l[j].2 = x at *
        have hxn : ¬ x = tp := by omega
        go_wp2_with fail
        go_region
        go_wp2_with fail
        refine bodyPost_ret (v := .tuple #[.agg #[.int .u64 v.ep, .int .u64 x], .bool false]) ?_ rfl ⟨by rw [HL.out, decide_eq_false hxn], ?_⟩
        · rw [results_cell_tmp1 rfl]
          go_simp
        · exact ((((HK4.out.trans (HS.out.mono HK4.out.size)).setCell (by show w.heap.size ≤ qb + 1; omega) _).setCell (Nat.le_succ _) _).setCell (Nat.le_succ _) _).drew
-- COVERS
theorem pcovers_ok {k : Nat} (t : Tk14) (e p : Int) (h : (PV b v).p S w) (hv : VwI k v) (hk : k ≤ 1000) :
    Calls Try.prog 11 #[.pointer (some ⟨b, 0, none⟩), t.v, .int .u64 e, .int .u64 p] w fun e' w' => e' = .returned (.bool (coversB v t e p)) ∧ Below w.heap.size w w' := by
  obtain ⟨te, tp⟩ := t
  obtain ⟨w2, hw2⟩ : ∃ u, w.alloc (.cells #[.int .u64 te, .int .u64 tp] 25) = u := ⟨_, rfl⟩
  have k2 : Below w.heap.size w w2 := hw2 ▸ kp_new _ _
  have HR := Lib.hid (pbring_ok ⟨te, tp⟩ (Thing.next h k2) hv hk)
  obtain ⟨ub, hub⟩ : ∃ x, bringB v ⟨te, tp⟩ = x := ⟨_, rfl⟩
  obtain ⟨⟨ue, up⟩, hu⟩ : ∃ x, bringF v ⟨te, tp⟩ = x := ⟨_, rfl⟩
  unfold coversB
  rw [hub, hu] at HR ⊢
  dsimp only
  have HK := Lib.hid k2
  have HW := Lib.hid hw2
  clear hub hu h hv hk k2 hw2
  unfold Tk14.v at *
  dsimp only at HR
  go_enter Try.func11, Try.ntmps11
  go_wp2_with fail
  rw [HW.out]
  refine HR.out.mono ?_
  rintro e' w3 ⟨rfl, k3⟩
  have HK3 := Lib.hid (HK.out.trans (k3.mono HK.out.size))
  clear HR HK HW k3
  cases ub with
  | false =>
    go_wp2_with fail
    go_ret
    exact ⟨by simp, kp_alloc HK3.out _⟩
  | true =>
    by_cases h1 : ue = e
    · subst h1
      by_cases h2 : up ≤ p
      · go_wp2_with fail
        go_ret
        exact ⟨by simp, kp_alloc HK3.out _⟩
      · go_wp2_with fail
        go_ret
        exact ⟨by simp, kp_alloc HK3.out _⟩
    · have h1' : (ue == e) = false := by simpa using h1
      go_wp2_with fail
      go_ret
      exact ⟨by simp [h1], kp_alloc HK3.out _⟩
end
theorem plater_ok (a c : Tk14) (w : World) :
    Calls Try.prog 17 #[a.v, c.v] w fun e w' => e = .returned (laterF a c).v ∧ Below w.heap.size w w' := by
  obtain ⟨ae, ap⟩ := a
  obtain ⟨ce, cp⟩ := c
  unfold laterF
  dsimp only
  by_cases h1 : ce < ae
  · rw [if_pos (.inl h1)]
    unfold Tk14.v
    go_enter Try.func17, Try.ntmps17
    go_wp2_with fail
    refine bodyPost_ret (v := .agg #[.int .u64 ae, .int .u64 ap]) ?_ rfl ⟨rfl, kp_alloc (kp_alloc (kp_new _ _) _) _⟩
    rw [results_cell1 rfl]
    go_simp
  by_cases h2 : ae = ce
  · subst h2
    by_cases h3 : cp < ap
    · rw [if_pos (.inr ⟨rfl, h3⟩)]
      unfold Tk14.v
      go_enter Try.func17, Try.ntmps17
      go_wp2_with fail
      refine bodyPost_ret (v := .agg #[.int .u64 ae, .int .u64 ap]) ?_ rfl ⟨rfl, kp_alloc (kp_alloc (kp_new _ _) _) _⟩
      rw [results_cell1 rfl]
      go_simp
    · rw [if_neg (by omega)]
      unfold Tk14.v
      go_enter Try.func17, Try.ntmps17
      go_wp2_with fail
      refine bodyPost_ret (v := .agg #[.int .u64 ae, .int .u64 cp]) ?_ rfl ⟨rfl, kp_alloc (kp_alloc (kp_new _ _) _) _⟩
      rw [results_cell1 rfl]
      go_simp
  · rw [if_neg (by omega)]
    have h2' : (ae == ce) = false := by simpa using h2
    unfold Tk14.v
    go_enter Try.func17, Try.ntmps17
    go_wp2_with fail
    refine bodyPost_ret (v := .agg #[.int .u64 ce, .int .u64 cp]) ?_ rfl ⟨rfl, kp_alloc (kp_alloc (kp_new _ _) _) _⟩
    rw [results_cell1 rfl]
    go_simp
/-- all that the laws ask -/
theorem viewc_ok : ViewC PV where
  new := fun pr w _ => (pnew14_ok pr w).mono fun _ _ ⟨he, hp, hb⟩ => ⟨_, he, ⟨_, hp, fun k hk => by subst hk; exact Nat.le_refl _⟩, hb⟩
  learn := fun _ _ _ m _ _ h hv hk _ _ _ => plearn_ok m h hv hk
  epoch := fun _ _ _ _ _ h _ => pepoch_ok h
  primary := fun _ _ _ _ _ h _ => pprimary_ok h
  bring := fun _ _ _ t _ _ h hv hk _ _ => pbring_ok t h hv hk
  covers := fun _ _ _ t e p _ _ h hv hk _ _ _ _ => pcovers_ok t e p h hv hk
  later := fun s t w _ _ _ _ => plater_ok s t w
end Go.Proofs.Ytpmkaceeomnijaa
