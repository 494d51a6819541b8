/-
  Contracts and plain functions that the law stands on, part 22 of 24.
-/
import Derived.Test.YtaoegiohnebnhaaGreatDoorQD21
namespace Go.Proofs.YtaoegiohnebnhaaGreatDoor
/- The landed node: Copy, of another node and of itself: contracts. -/
section
open Go.RowKit Go.Maps Go.WideMaps
set_option maxRecDepth 100000

theorem entsize15 : (Tryz.prog.info? (Tryz.prog.elem 57)).map (·.size) = some 2 := by kernel_rfl
theorem cutN15 (A : Option Addr) {n c k : Nat} (hk : k ≤ n) (hc : n ≤ c) (u : World) : (Instr.slice 57 (.slice A n c) none (some (.int .i64 (k : Int))) none).run Tryz.prog u = .ok (.slice A k c) u := by
  obtain ⟨ti, hti, hsz⟩ := Option.map_eq_some_iff.1 entsize15
  rw [run_slice_h u 57 A n c (by kernel_rfl) .i64 k (by omega) (by omega)]
  cases A with
  | none => simp [sizeOf, typeInfo, hti, hsz, sliced, Result.andThen]
  | some ad => simp [sizeOf, typeInfo, hti, hsz, sliced, Result.andThen, Addr.add]
theorem own_takeN {w : World} {base n c : Nat} {e : TypeId} {A : Option Addr} {l : List Lg} (h : w.ownsRow base e 2 (.slice A n c) n (lgC l)) {k : Nat} (hk : k ≤ n) : w.ownsRow base e 2 (.slice A k c) k (lgC (l.take k)) := by
  have hl := h.1
  rw [lgC_length] at hl
  refine ⟨by rw [lgC_length, List.length_take]; omega, ?_⟩
  rcases h.2 with ⟨h1, h2⟩ | ⟨g, cap, cur, h1, h2, h3, h4, h5, h6, h7⟩
  · injection h1 with a b d
    subst a b d
    obtain rfl : k = 0 := by omega
    exact .inl ⟨rfl, rfl⟩
  · injection h1 with a _ d
    subst a d
    refine .inr ⟨g, c, cur, rfl, h2, h3, by omega, h5, h6, ?_⟩
    rw [lgC_take, ← h7, List.take_take, Nat.min_eq_left (by omega)]
theorem max0 (m : Int) (u : World) (ts : Array TypeId) (ty : TypeId) : (Builtin.max_ ts ty #[.int .i64 m, .int .i64 0]).run Tryz.prog u = .ok (.int .i64 (m.toNat : Nat)) u := by
  rw [run_max_int2 (P := Tryz.prog) (w := u) ts ty .i64 .i64 m 0]
  congr 2
  split <;> omega
theorem minN (a b : Nat) (u : World) (ts : Array TypeId) (ty : TypeId) : (Builtin.min_ ts ty #[.int .i64 (a : Int), .int .i64 (b : Int)]).run Tryz.prog u = .ok (.int .i64 ((min a b : Nat) : Int)) u := by
  rw [run_min_int2 (P := Tryz.prog) (w := u) ts ty .i64 .i64 a b]
  congr 2
  split <;> omega
section
variable {b f : Nat} {n fn : Nd} {S : Nat → Prop} {w : World} {k kf : Nat}
theorem Turn.over {Z : Thing} {S' : Nat → Prop} {w' w'' : World} (h2 : ∀ k, S' k → S k ∨ w.heap.size ≤ k) (h3 : Off S w w') (k : Turn Z S' w' w'') : Turn Z S w w'' := by
  obtain ⟨⟨S'', k1, k2⟩, k3⟩ := k
  have hz := h3.size
  exact ⟨⟨S'', k1, fun i hi => (k2 i hi).elim (fun e => h2 i e) (fun e => .inr (by omega))⟩, h3.trans k3 h2⟩
theorem PN.tops (h : (PN b n).p S w) : (∃ x, w.cell? ⟨b, 0, none⟩ = some x) ∧ w.cell? ⟨b, 1, none⟩ = some (.int .u64 n.ep) ∧ w.cell? ⟨b, 2, none⟩ = some (.bool n.ld) ∧ True := by
  obtain ⟨cb, bm, AL, nl, cl, W, col, hx⟩ := h
  obtain ⟨h0, h1, h2, _⟩ := hx.tops
  exact ⟨⟨_, h0⟩, h1, h2, trivial⟩
/-- the other node as a Copy finds it, in each world that the call comes to -/
def From (f : Nat) (fn : Nd) (K : World → Prop) : Prop := ∃ A m c, m ≤ c ∧ ∀ u, K u → u.cell? ⟨f, 1, none⟩ = some (.int .u64 fn.ep) ∧ u.cell? ⟨f, 3, none⟩ = some (.slice A m c) ∧ LR u A m fn.lg
set_option maxHeartbeats 16000000 in
theorem pcopyG_ok (m : Int) (h : (PN b n).p S w) (hi : NdI k n) (hif : NdI kf fn) (K : World → Prop) (hF : From f fn K) (hK0 : ∀ u, Below w.heap.size w u → K u) (hK1 : n.ep < fn.ep → ∀ u, Off S w u → K u) :
    Calls Tryz.prog 31 #[.pointer (some ⟨b, 0, none⟩), .pointer (some ⟨f, 0, none⟩), .int .i64 m] w fun e' w' => e' = .returned (.int .i64 (copyNd n fn m).1) ∧ Turn (PN b (copyNd n fn m).2) S w w' := by
  obtain ⟨Af, nf, cf, hfc, hfr⟩ := hF
  have HT := Lib.hid h
  have HFR := Lib.hid hfr
  obtain ⟨_, z1, z3, _⟩ : True ∧ _ := ⟨trivial, hfr w (hK0 w (Below.refl _ _))⟩
  have HK0 := Lib.hid hK0
  have HK1 := Lib.hid hK1
  obtain ⟨cb, bm, AL, nl, cl, W, col, hx⟩ := h
  obtain ⟨_, y1, y2, _⟩ := hx.tops
  clear hx hfr hK0 hK1
  by_cases hno : fn.ep < n.ep ∨ (fn.ep = n.ep ∧ n.ld = true)
  · rw [show copyNd n fn m = (0, n) from if_pos hno]
    rcases hno with hno | ⟨hno, hld⟩
    · go_enter Tryz.func31, Tryz.ntmps31
      go_wp2_with fail
      go_quiet (fail)
      go_wp2_with fail
      go_ret
      exact ⟨rfl, Turn.same HT.out (kp_drewN _ _)⟩
    · rw [hld] at y2
      have hq : (fn.ep == n.ep) = true := by simpa using hno
      have hq2 : ¬ fn.ep < n.ep := by omega
      go_enter Tryz.func31, Tryz.ntmps31
      go_wp2_with fail
      go_quiet (fail)
      go_wp2_with fail
      go_ret
      exact ⟨rfl, Turn.same HT.out (kp_drewN _ _)⟩
  · rw [show copyNd n fn m = (((manyNd n fn m : Nat) : Int), { turnNd n fn with lg := fn.lg.take (sameLg n.lg fn.lg + manyNd n fn m) }) from if_neg hno]
    have hq2 : ¬ fn.ep < n.ep := fun h => hno (.inl h)
    by_cases hlt : n.ep < fn.ep
    rotate_left
    · have hld : n.ld = false := by
        cases h : n.ld with
        | false => rfl
        | true => exact absurd (.inr ⟨by omega, h⟩) hno
      rw [hld] at y2
      have hq : (fn.ep == n.ep) = true := by simp; omega
      go_enter Tryz.func31, Tryz.ntmps31
      go_wp2_with fail
      go_quiet (fail)
      obtain ⟨w1, hw1⟩ : ∃ y, y = w.drewN nq := ⟨_, rfl⟩
      rw [← hw1]
      have hb1 : Below w.heap.size w w1 := hw1 ▸ kp_drewN _ _
      obtain ⟨_, u1, u2, _⟩ := PN.tops (Thing.next HT.out hb1)
      rw [hld] at u2
      obtain ⟨t1, t3, _⟩ := HFR.out w1 (HK0.out w1 hb1)
      have HB1 := Lib.hid hb1
      clear hw1 hb1
      go_wp2_with fail
      go_quiet (fail)
      obtain ⟨w2, hw2⟩ : ∃ y, y = w1.drewN nq := ⟨_, rfl⟩
      rw [← hw2]
      have hb2 : Below w.heap.size w w2 := HB1.out.trans ((hw2 ▸ kp_drewN _ _ : Below w1.heap.size w1 w2).mono HB1.out.size)
      obtain ⟨w3, hw3⟩ : ∃ y, y = w2 := ⟨_, rfl⟩
      rw [← hw3]
      subst hw3
      have HP : Hid (∃ S2, (PN b (turnNd n fn)).p S2 w3 ∧ (∀ z, S2 z → S z ∨ w.heap.size ≤ z) ∧ Off S w w3) := Lib.hid ⟨S, by unfold turnNd; rw [if_neg (by omega)]; exact Thing.next HT.out hb2, fun _ h => .inl h, Off.of S hb2⟩
      have HKW : Hid (∀ u, Below w3.heap.size w3 u → K u) := Lib.hid fun u hu => HK0.out u (hb2.trans (hu.mono hb2.size))
      clear hw2 hb2 u1 u2 t1 t3
      obtain ⟨S2, hp2, hS2, hof2⟩ := HP.out
      obtain ⟨cb2, bm2, A2, n2, c2, W2, col2, hx2⟩ := hp2
      have hlg2 : (turnNd n fn).lg = n.lg := by unfold turnNd; split <;> rfl
      obtain ⟨_, v3, hlrf⟩ := HFR.out w3 (HKW.out w3 (Below.refl _ _))
      obtain ⟨_, _, _, x3, _⟩ := hx2.tops
      have hn2 : n2 ≤ 200 := by rw [← hx2.llen, hlg2]; exact hi.lg
      have hnf : nf ≤ 200 := by rw [← hlrf.len]; exact hif.lg
      have HAL : Hid (∀ u, Below w3.heap.size w3 u → Calls Tryz.prog 47 #[.slice A2 n2 c2, .slice Af nf cf] u fun e w' => e = .returned (.int .i64 (sameLg n.lg fn.lg)) ∧ ∃ m, w' = u.drewN m) := Lib.hid fun u hu => palike_ok A2 Af n2 nf c2 cf n.lg fn.lg u (hlg2 ▸ hx2.lr.next hu) (hlrf.next hu) (by omega)
      have HX2 := Lib.hid hx2
      have HPS := Lib.hid (And.intro hS2 hof2)
      obtain ⟨j, hj⟩ : ∃ x, sameLg n.lg fn.lg = x := ⟨_, rfl⟩
      have hjn : j ≤ n2 := by rw [← hx2.llen, hlg2, ← hj]; exact (sameLg_le _ _).1
      have hjf : j ≤ nf := by rw [← hlrf.len, ← hj]; exact (sameLg_le _ _).2
      rw [hj] at HAL
      have HJ := Lib.hid hj
      have HLG2 := Lib.hid hlg2
      clear hx2 hS2 hof2 hj hlrf hlg2 HP
      go_wp2_with fail
      go_quiet (first | (go_at_call 47; exact Calls.quiet_of (HAL.out _ (kp_drewN _ _))))
      obtain ⟨w4, hw4⟩ : ∃ y, y = w3.drewN nq := ⟨_, rfl⟩
      rw [← hw4]
      have hb4 : Below w3.heap.size w3 w4 := hw4 ▸ kp_drewN _ _
      have hx4 := HX2.out.keep (fun q hq => hb4.block q (HX2.out.lt q hq)) hb4.size
      obtain ⟨_, _, _, x4, _⟩ := hx4.tops
      obtain ⟨_, v4, hlr4⟩ := HFR.out w4 (HKW.out w4 hb4)
      obtain ⟨r, hr⟩ : ∃ x, nf - j = x := ⟨_, rfl⟩
      obtain ⟨cr, hcr⟩ : ∃ x, cf - j = x := ⟨_, rfl⟩
      obtain ⟨mt, hmt⟩ : ∃ x, m.toNat = x := ⟨_, rfl⟩
      obtain ⟨q, hq⟩ : ∃ x, min r mt = x := ⟨_, rfl⟩
      have hmx := max0 m
      have hmn := minN r mt
      rw [hmt] at hmx
      rw [hq] at hmn
      have hqr : q ≤ r := by omega
      have hrc : r ≤ cr := by omega
      obtain ⟨Ad, hcut1, hlr5⟩ := hlr4.cut1 57 Tryz.underlying57 entsize15 (i := j) hjf hfc
      rw [hr, hcr] at hcut1
      rw [hr] at hlr5
      obtain ⟨Ae, hcut2, hlr6⟩ := hlr5.cut0 (c := cr) 57 Tryz.underlying57 entsize15 (j := q) hqr hrc
      have hnc2 : n2 ≤ c2 := by
        obtain ⟨_, _, h1, h2, _⟩ := own_form_s hx4.lg
        injection h1 with _ _ h1
        omega
      have hcut3 := cutN15 A2 (n := n2) (c := c2) (k := j) hjn hnc2
      obtain ⟨i0, hi0, hz0, hz1, hz2⟩ := info_parts entinfo15
      have hown := own_takeN hx4.lg hjn
      obtain ⟨A5, c5, w5, hrun, hown5, hg5, hwh⟩ := run_append_many (P := Tryz.prog) 57 57 65 i0 _ 2 24 Tryz.underlying57 hi0 hz0 hz1 hz2 rfl (by omega) hown _ Ae q cr _ (by rw [lgC_length, hlr6.len]) hlr6.rd (lgC_one _) (by omega) (by omega)
      have hl5 : (turnNd n fn).lg.take j ++ (fn.lg.drop j).take q = fn.lg.take (j + q) := by
        rw [List.take_add, HLG2.out, ← HJ.out, sameLg_take]
      rw [← lgC_append, hl5] at hown5
      have hst := hx4.stored (Below.refl _ _) hown5 hg5 hwh
      have hf5 := (cellsAt (hst.2.2.trans hx4.top) 3 (v := .slice A2 n2 c2) rfl).2
      have hv5 := (cellsAt (hst.2.2.trans hx4.top) 3 (v := .slice A2 n2 c2) rfl).1
      have hqm : q = manyNd n fn m := by
        unfold manyNd
        rw [HJ.out, hmt, ← hq, ← hr, (HFR.out w3 (HKW.out w3 (Below.refl _ _))).2.2.len]
      have hfin : Turn (PN b { turnNd n fn with lg := fn.lg.take (j + q) }) S w (w5.setCell ⟨b, 3, none⟩ (.slice A5 (j + q) c5)) := by
        refine Turn.over HPS.out.1 (HPS.out.2.trans (Off.of (fun _ => False) hb4) fun _ h => h.elim) ⟨⟨_, ⟨_, _, _, _, _, _, _, hst.1⟩, fun z hz => hz.imp id (·.1)⟩, hst.2.1.wide fun z hz => hz.elim (fun e => e ▸ HX2.out.sb.1) (·.1)⟩
      have HF := Lib.hid hfin
      have HQM := Lib.hid hqm
      have HRUN := Lib.hid hrun
      clear hx4 hlr4 hlr5 hlr6 hown hown5 hg5 hwh hst hqm hfin hl5 hrun hr hcr hmt hq hb4 hw4
      go_wp2_with (at_builtin; refine wpList_append_run rfl _ _ _ rfl _ _ rfl rfl HRUN.out ?_)
      go_ret
      refine ⟨by rw [← HQM.out]; rfl, ?_⟩
      rw [← HQM.out, HJ.out]
      exact HF.out
    · have hq : (fn.ep == n.ep) = false := by simp; omega
      go_enter Tryz.func31, Tryz.ntmps31
      go_wp2_with fail
      go_quiet (fail)
      obtain ⟨w1, hw1⟩ : ∃ y, y = w.drewN nq := ⟨_, rfl⟩
      rw [← hw1]
      have hb1 : Below w.heap.size w w1 := hw1 ▸ kp_drewN _ _
      obtain ⟨_, u1, u2, _⟩ := PN.tops (Thing.next HT.out hb1)
      obtain ⟨t1, t3, _⟩ := HFR.out w1 (HK0.out w1 hb1)
      have HB1 := Lib.hid hb1
      clear hw1 hb1
      go_wp2_with fail
      go_quiet (fail)
      obtain ⟨w2, hw2⟩ : ∃ y, y = w1.drewN nq := ⟨_, rfl⟩
      rw [← hw2]
      have hb2 : Below w.heap.size w w2 := HB1.out.trans ((hw2 ▸ kp_drewN _ _ : Below w1.heap.size w1 w2).mono HB1.out.size)
      obtain ⟨s1, s3, _⟩ := HFR.out w2 (HK0.out w2 hb2)
      have HEN := Lib.hid (penter_ok fn.ep false (Thing.next HT.out hb2))
      have HB2 := Lib.hid hb2
      clear hw2 hb2 u1 u2
      go_wp2_with fail
      refine HEN.out.mono ?_
      rintro e w3 ⟨rfl, ht⟩
      have HP : Hid (∃ S2, (PN b (turnNd n fn)).p S2 w3 ∧ (∀ z, S2 z → S z ∨ w.heap.size ≤ z) ∧ Off S w w3) := Lib.hid (by
        have ht2 := ht.ahead HB2.out
        obtain ⟨⟨S2, k1, k2⟩, k3⟩ := ht2
        exact ⟨S2, by unfold turnNd; rw [if_pos hlt]; exact k1, k2, k3⟩)
      have HKW : Hid (∀ u, Below w3.heap.size w3 u → K u) := Lib.hid fun u hu => HK1.out hlt u (by
        obtain ⟨_, _, _, k3⟩ := HP.out
        exact k3.trans (Off.of (fun _ => False) hu) fun _ h => h.elim)
      clear ht HEN s1 s3 t1 t3
      obtain ⟨S2, hp2, hS2, hof2⟩ := HP.out
      obtain ⟨cb2, bm2, A2, n2, c2, W2, col2, hx2⟩ := hp2
      have hlg2 : (turnNd n fn).lg = n.lg := by unfold turnNd; split <;> rfl
      obtain ⟨_, v3, hlrf⟩ := HFR.out w3 (HKW.out w3 (Below.refl _ _))
      obtain ⟨_, _, _, x3, _⟩ := hx2.tops
      have hn2 : n2 ≤ 200 := by rw [← hx2.llen, hlg2]; exact hi.lg
      have hnf : nf ≤ 200 := by rw [← hlrf.len]; exact hif.lg
      have HAL : Hid (∀ u, Below w3.heap.size w3 u → Calls Tryz.prog 47 #[.slice A2 n2 c2, .slice Af nf cf] u fun e w' => e = .returned (.int .i64 (sameLg n.lg fn.lg)) ∧ ∃ m, w' = u.drewN m) := Lib.hid fun u hu => palike_ok A2 Af n2 nf c2 cf n.lg fn.lg u (hlg2 ▸ hx2.lr.next hu) (hlrf.next hu) (by omega)
      have HX2 := Lib.hid hx2
      have HPS := Lib.hid (And.intro hS2 hof2)
      obtain ⟨j, hj⟩ : ∃ x, sameLg n.lg fn.lg = x := ⟨_, rfl⟩
      have hjn : j ≤ n2 := by rw [← hx2.llen, hlg2, ← hj]; exact (sameLg_le _ _).1
      have hjf : j ≤ nf := by rw [← hlrf.len, ← hj]; exact (sameLg_le _ _).2
      rw [hj] at HAL
      have HJ := Lib.hid hj
      have HLG2 := Lib.hid hlg2
      clear hx2 hS2 hof2 hj hlrf hlg2 HP
      go_wp2_with fail
      go_quiet (first | (go_at_call 47; exact Calls.quiet_of (HAL.out _ (kp_drewN _ _))))
      obtain ⟨w4, hw4⟩ : ∃ y, y = w3.drewN nq := ⟨_, rfl⟩
      rw [← hw4]
      have hb4 : Below w3.heap.size w3 w4 := hw4 ▸ kp_drewN _ _
      have hx4 := HX2.out.keep (fun q hq => hb4.block q (HX2.out.lt q hq)) hb4.size
      obtain ⟨_, _, _, x4, _⟩ := hx4.tops
      obtain ⟨_, v4, hlr4⟩ := HFR.out w4 (HKW.out w4 hb4)
      obtain ⟨r, hr⟩ : ∃ x, nf - j = x := ⟨_, rfl⟩
      obtain ⟨cr, hcr⟩ : ∃ x, cf - j = x := ⟨_, rfl⟩
      obtain ⟨mt, hmt⟩ : ∃ x, m.toNat = x := ⟨_, rfl⟩
      obtain ⟨q, hq⟩ : ∃ x, min r mt = x := ⟨_, rfl⟩
      have hmx := max0 m
      have hmn := minN r mt
      rw [hmt] at hmx
      rw [hq] at hmn
      have hqr : q ≤ r := by omega
      have hrc : r ≤ cr := by omega
      obtain ⟨Ad, hcut1, hlr5⟩ := hlr4.cut1 57 Tryz.underlying57 entsize15 (i := j) hjf hfc
      rw [hr, hcr] at hcut1
      rw [hr] at hlr5
      obtain ⟨Ae, hcut2, hlr6⟩ := hlr5.cut0 (c := cr) 57 Tryz.underlying57 entsize15 (j := q) hqr hrc
      have hnc2 : n2 ≤ c2 := by
        obtain ⟨_, _, h1, h2, _⟩ := own_form_s hx4.lg
        injection h1 with _ _ h1
        omega
      have hcut3 := cutN15 A2 (n := n2) (c := c2) (k := j) hjn hnc2
      obtain ⟨i0, hi0, hz0, hz1, hz2⟩ := info_parts entinfo15
      have hown := own_takeN hx4.lg hjn
      obtain ⟨A5, c5, w5, hrun, hown5, hg5, hwh⟩ := run_append_many (P := Tryz.prog) 57 57 65 i0 _ 2 24 Tryz.underlying57 hi0 hz0 hz1 hz2 rfl (by omega) hown _ Ae q cr _ (by rw [lgC_length, hlr6.len]) hlr6.rd (lgC_one _) (by omega) (by omega)
      have hl5 : (turnNd n fn).lg.take j ++ (fn.lg.drop j).take q = fn.lg.take (j + q) := by
        rw [List.take_add, HLG2.out, ← HJ.out, sameLg_take]
      rw [← lgC_append, hl5] at hown5
      have hst := hx4.stored (Below.refl _ _) hown5 hg5 hwh
      have hf5 := (cellsAt (hst.2.2.trans hx4.top) 3 (v := .slice A2 n2 c2) rfl).2
      have hv5 := (cellsAt (hst.2.2.trans hx4.top) 3 (v := .slice A2 n2 c2) rfl).1
      have hqm : q = manyNd n fn m := by
        unfold manyNd
        rw [HJ.out, hmt, ← hq, ← hr, (HFR.out w3 (HKW.out w3 (Below.refl _ _))).2.2.len]
      have hfin : Turn (PN b { turnNd n fn with lg := fn.lg.take (j + q) }) S w (w5.setCell ⟨b, 3, none⟩ (.slice A5 (j + q) c5)) := by
        refine Turn.over HPS.out.1 (HPS.out.2.trans (Off.of (fun _ => False) hb4) fun _ h => h.elim) ⟨⟨_, ⟨_, _, _, _, _, _, _, hst.1⟩, fun z hz => hz.imp id (·.1)⟩, hst.2.1.wide fun z hz => hz.elim (fun e => e ▸ HX2.out.sb.1) (·.1)⟩
      have HF := Lib.hid hfin
      have HQM := Lib.hid hqm
      have HRUN := Lib.hid hrun
      clear hx4 hlr4 hlr5 hlr6 hown hown5 hg5 hwh hst hqm hfin hl5 hrun hr hcr hmt hq hb4 hw4
      go_wp2_with (at_builtin; refine wpList_append_run rfl _ _ _ rfl _ _ rfl rfl HRUN.out ?_)
      go_ret
      refine ⟨by rw [← HQM.out]; rfl, ?_⟩
      rw [← HQM.out, HJ.out]
      exact HF.out
theorem PN.from (h : (PN f fn).p S w) : From f fn fun u => ∀ q, S q → u.heap[q]? = w.heap[q]? ∧ w.heap.size ≤ u.heap.size := by
  obtain ⟨cb, bm, AL, nl, cl, W, col, hx⟩ := h
  refine ⟨AL, nl, cl, ?_, fun u hu => ?_⟩
  · obtain ⟨_, _, h1, h2, _⟩ := own_form_s hx.lg
    injection h1 with _ _ h1
    omega
  · have h2 := hx.keep (fun q hq => (hu q hq).1) (hu _ hx.sb.1).2
    obtain ⟨_, h3, _, h4, _⟩ := h2.tops
    exact ⟨h3, h4, h2.lr⟩
theorem pcopy15_ok (m : Int) {T : Nat → Prop} (h : (PN b n).p S w) (hf : (PN f fn).p T w) (hd : ∀ k, S k → ¬ T k) (hi : NdI k n) (hif : NdI kf fn) :
    Calls Tryz.prog 31 #[.pointer (some ⟨b, 0, none⟩), .pointer (some ⟨f, 0, none⟩), .int .i64 m] w fun e' w' => e' = .returned (.int .i64 (copyNd n fn m).1) ∧ Turn (PN b (copyNd n fn m).2) S w w' :=
  pcopyG_ok m h hi hif _ (PN.from hf) (fun _ hu q hq => ⟨hu.block q ((PN f fn).lt hf q hq), hu.size⟩) (fun _ _ hu q hq => ⟨hu.block q ((PN f fn).lt hf q hq) (fun e => hd q e hq), hu.size⟩)
theorem pself15_ok (m : Int) (h : (PN b n).p S w) (hi : NdI k n) :
    Calls Tryz.prog 31 #[.pointer (some ⟨b, 0, none⟩), .pointer (some ⟨b, 0, none⟩), .int .i64 m] w fun e' w' => e' = .returned (.int .i64 (copyNd n n m).1) ∧ Turn (PN b (copyNd n n m).2) S w w' :=
  pcopyG_ok m h hi hi _ (PN.from h) (fun _ hu q hq => ⟨hu.block q ((PN b n).lt h q hq), hu.size⟩) (fun h2 => absurd h2 (Int.lt_irrefl _))
end
end

/- The landed node does what the laws ask of a node. -/
section
open Go.RowKit
set_option maxRecDepth 100000

theorem nodec_ok : NodeC PN where
  new := fun w _ => pnew15_ok w
  lead := fun _ _ _ e _ _ h _ _ => plead15_ok e h
  run := fun _ _ _ c e rd s _ _ hL h hi hk hs hc _ => prunR15_ok c e rd s hL h hi hk hs hc
  close := fun _ _ _ c _ _ h hi _ hc => pclose15_ok c hc hi.nd h
  copy := fun _ _ _ _ _ _ m _ _ _ h hf hd hi hif _ => pcopy15_ok m h hf hd hi hif
  self := fun _ _ _ m _ _ h hi _ => pself15_ok m h hi
  epoch := fun _ _ _ _ _ h _ => pepoch15_ok h
  leads := fun _ _ _ _ _ h _ => pleads15_ok h
  log := fun _ _ _ _ _ h hi => plog15_ok h hi
  table := fun _ _ _ _ _ hL h hi => (ptable15_ok h hL hi).mono fun _ _ ⟨A, m, c, h1, _, h2, h3⟩ => ⟨A, m, c, h1, h2, Turn.same h h3⟩
end

/- Layer 15: where a region stands in which two do an act, each once, and what they tell is laid into new blocks. -/
section
open Go.RowKit
set_option maxRecDepth 100000

section
variable {X : Nat → Nd → Thing} {w : World}
set_option maxHeartbeats 4000000 in
theorem lnodes_new (C : NodeC X) (hL : Lw w) :
    Calls Tryz.prog 10 #[] w fun e w' => ∃ (g : Nat) (bs : Nat → Nat), e = .returned (.slice (some ⟨g, 0, none⟩) 3 3) ∧ P3 w' (some ⟨g, 0, none⟩) bs ∧ (∃ S, (Tri X bs fun _ => newNd).p S w' ∧ ∀ k, S k → w.heap.size ≤ k ∧ k < g) ∧ w.heap.size ≤ g ∧ Below w.heap.size w w' := by
  go_enter Tryz.func10, Tryz.ntmps10
  go_wp2_with fail
  refine (C.new w hL).mono ?_
  rintro e w1 ⟨b0, rfl, ⟨S0, p0, s0⟩, k1⟩
  go_wp2_with fail
  refine (C.new w1 (hL.next k1)).mono ?_
  rintro e w2 ⟨b1, rfl, ⟨S1, p1, s1⟩, k2⟩
  go_wp2_with fail
  refine (C.new w2 ((hL.next k1).next k2)).mono ?_
  rintro e w3 ⟨b2, rfl, ⟨S2, p2, s2⟩, k3⟩
  go_wp2_with fail
  go_ret
  obtain ⟨h1, h2⟩ := Tri.new3 p0 s0 k1 p1 s1 k2 p2 s2 k3 (kp_new w3 _)
  exact ⟨_, pick3 b0 b1 b2, rfl, P3.new w3 b0 b1 b2 _, h1, (by have := k1.size; have := k2.size; have := k3.size; omega), h2⟩
end
theorem flat2_len : ∀ (l : List Kv), (l.flatMap fun p => [p.k, p.v]).length = l.length * 2
  | [] => rfl
  | x :: r => by
    have := flat2_len r
    simp only [List.flatMap_cons, List.length_append, List.length_cons, List.length_nil] at this ⊢
    omega
theorem reads15_short (d : Int) (k : ByteArray) (l : List Kv) : (readsF d k l).length ≤ 20 := by
  unfold readsF
  split
  · split <;> simp
  split
  · unfold firstsF
    rw [flat2_len, List.length_take]
    omega
  · simp
theorem run_ts (n : Nd) (c e : Int) (rd : Bool) (s : ByteArray) : (runNd n c e rd s).1.ts.length ≤ 20 := by
  unfold runNd
  split
  · simp
  split
  · simp
  · exact reads15_short _ _ _
theorem act_ts (ns : Nat → Nd) (x : Ac8) : (actN ns x).1.r.ts.length ≤ 20 := by
  unfold actN
  split
  · exact run_ts _ _ _ _ _
  split
  · simp [noRp]
  split
  · simp [noRp]
  · simp [noRp]
/-- what an act tells, as a value, and as it lies -/
def toX (t : To15) (A : Option Addr) (m d : Nat) : Value := .agg #[.int .i64 t.r.e, .int .u64 t.r.ep, .int .u64 t.r.pl, .slice A m d, .bool t.is, .int .i64 t.many]
theorem toX_inj {t : To15} {A A' : Option Addr} {m d m' d' : Nat} (h : toX t A m d = toX t A' m' d') : A = A' ∧ m = m' ∧ d = d' := by
  unfold toX at h
  injection h with h
  have e := congrArg (fun z : Array Value => z[3]?) h
  have e2 : (some (Value.slice A m d) : Option Value) = some (.slice A' m' d') := e
  injection e2 with e2
  injection e2 with a b c
  exact ⟨a, b, c⟩
def toB (t : To15) (A : Option Addr) (m d : Nat) : Obj := .cells #[.int .i64 t.r.e, .int .u64 t.r.ep, .int .u64 t.r.pl, .slice A m d, .bool t.is, .int .i64 t.many] 38 (0, 0)
def toZ : Obj := .cells #[.int .i64 0, .int .u64 0, .int .u64 0, .slice none 0 0, .bool false, .int .i64 0] 38 (0, 0)
def ptB (b : Nat) : Value := .pointer (some ⟨b, 0, none⟩)
/-- six cells are written -/
def put6 (u : World) (b : Nat) (t : To15) (A : Option Addr) (m d : Nat) : World := (((((u.setCell ⟨b, 0, none⟩ (.int .i64 t.r.e)).setCell ⟨b, 1, none⟩ (.int .u64 t.r.ep)).setCell ⟨b, 2, none⟩ (.int .u64 t.r.pl)).setCell ⟨b, 3, none⟩ (.slice A m d)).setCell ⟨b, 4, none⟩ (.bool t.is)).setCell ⟨b, 5, none⟩ (.int .i64 t.many)
theorem put6_ok {u : World} {b : Nat} (t : To15) (A : Option Addr) (m d : Nat) (h : u.heap[b]? = some toZ) : (put6 u b t A m d).heap[b]? = some (toB t A m d) ∧ Off (fun k => k = b) u (put6 u b t A m d) := by
  refine ⟨?_, ((((((Off.refl (fun k => k = b) u).setCell (p := ⟨b, 0, none⟩) (.inl rfl) _).setCell (p := ⟨b, 1, none⟩) (.inl rfl) _).setCell (p := ⟨b, 2, none⟩) (.inl rfl) _).setCell (p := ⟨b, 3, none⟩) (.inl rfl) _).setCell (p := ⟨b, 4, none⟩) (.inl rfl) _).setCell (p := ⟨b, 5, none⟩) (.inl rfl) _⟩
  unfold toZ at h
  have h0 := heap_setCell_same u b 0 _ _ (.int .i64 t.r.e) h
  have h1 := heap_setCell_same _ b 1 _ _ (.int .u64 t.r.ep) h0
  have h2 := heap_setCell_same _ b 2 _ _ (.int .u64 t.r.pl) h1
  have h3 := heap_setCell_same _ b 3 _ _ (.slice A m d) h2
  have h4 := heap_setCell_same _ b 4 _ _ (.bool t.is) h3
  exact heap_setCell_same _ b 5 _ _ (.int .i64 t.many) h4
theorem toZ_none (i : Nat) (s : ByteArray) : (#[.int .i64 0, .int .u64 0, .int .u64 0, .slice none 0 0, .bool false, .int .i64 0] : Array Value)[i]? ≠ some (.string s) := by
  match i with
  | 0 => simp
  | 1 => simp
  | 2 => simp
  | 3 => simp
  | 4 => simp
  | 5 => simp
  | n + 6 => simp
/-- texts stay behind such a write -/
theorem XR.past6 {u u' : World} {A : Option Addr} {m b : Nat} {ss : List ByteArray} (h : XR u A m ss) (hb : u.heap[b]? = some toZ) (ho : Off (fun k => k = b) u u') : XR u' A m ss := by
  rcases ss with _ | ⟨s, ss⟩
  · exact ⟨h.len, .inl rfl⟩
  · refine h.off ho.size fun ad hA => ho.block _ ?_ ?_
    · obtain ⟨ad', hA', hlt, _⟩ := h.at_ (j := 0) (by simp)
      rw [hA] at hA'
      obtain rfl : ad = ad' := Option.some.inj hA'
      exact hlt
    · intro e
      obtain ⟨ad', hA', _, hc⟩ := h.at_ (j := 0) (by simp)
      rw [hA] at hA'
      obtain rfl : ad = ad' := Option.some.inj hA'
      have hh : u.heap[(ad.add 0).block]? = some toZ := by rw [add_block, e]; exact hb
      unfold World.cell? at hc
      rw [hh] at hc
      unfold toZ at hc
      dsimp only at hc
      split at hc
      · cases hc
      · exact toZ_none _ _ hc
/-- till what is told is laid down -/
structure SDp (W : World) (X0 X1 Y0 Y1 : Thing) (ps : List (Nat × (Nat → Nat))) (t6 : Nat) (act : Obj) (tt : To15) (f g p q : Bool) (va vb wa wb : Value) (l : List (Nat × Obj)) (xs : List (Option Addr × Nat × List ByteArray)) (u : World) : Prop where
  st : St15 W (bif f then X1 else X0) (bif g then Y1 else Y0) ps l [] xs u
  a6 : (t6, act) ∈ l
  ha : f = true → ∃ A m d, va = toX tt A m d ∧ (A, m, tt.r.ts) ∈ xs
  hb : g = true → ∃ A m d, vb = toX tt A m d ∧ XR u A m tt.r.ts
  pa : p = true → ∃ b, wa = ptB b ∧ (b, toZ) ∈ l ∧ W.heap.size ≤ b
  pb : q = true → ∃ b, wb = ptB b ∧ (b, toZ) ∈ l ∧ W.heap.size ≤ b
  ne : p = true → q = true → wa ≠ wb
section
variable {W : World} {X0 X1 Y0 Y1 : Thing} {ps : List (Nat × (Nat → Nat))} {t6 : Nat} {act : Obj} {tt : To15} {f g p q : Bool} {va vb wa wb : Value} {l : List (Nat × Obj)} {xs : List (Option Addr × Nat × List ByteArray)} {u u' : World} {A : Option Addr} {m d : Nat}
theorem SDp.do1 (h : SDp W X0 X1 Y0 Y1 ps t6 act tt false false p q va vb wa wb l xs u) (h2 : St15 W X1 Y0 ps l [] ((A, m, tt.r.ts) :: xs) u') : SDp W X0 X1 Y0 Y1 ps t6 act tt true false p q (toX tt A m d) vb wa wb l ((A, m, tt.r.ts) :: xs) u' :=
  ⟨h2, h.a6, fun _ => ⟨A, m, d, rfl, .head _⟩, (fun h => by cases h), h.pa, h.pb, h.ne⟩
theorem SDp.do2 (h : SDp W X0 X1 Y0 Y1 ps t6 act tt true false p q va vb wa wb l xs u) (h2 : St15 W X1 Y1 ps l [] xs u') (hx : XR u' A m tt.r.ts) : SDp W X0 X1 Y0 Y1 ps t6 act tt true true p q va (toX tt A m d) wa wb l xs u' :=
  ⟨h2, h.a6, h.ha, fun _ => ⟨A, m, d, rfl, hx⟩, h.pa, h.pb, h.ne⟩
theorem SDp.al1 (h : SDp W X0 X1 Y0 Y1 ps t6 act tt f g false q va vb wa wb l xs u) : SDp W X0 X1 Y0 Y1 ps t6 act tt f g true q va vb (ptB u.heap.size) wb ((u.heap.size, toZ) :: l) xs (u.alloc toZ) :=
  ⟨h.st.mark toZ rfl rfl, .tail _ h.a6, h.ha, fun hg => by obtain ⟨A, m, d, h1, h2⟩ := h.hb hg; exact ⟨A, m, d, h1, h2.next (kp_new u _)⟩, fun _ => ⟨_, rfl, .head _, h.st.low.size⟩, fun hq => by obtain ⟨b, h1, h2, h3⟩ := h.pb hq; exact ⟨b, h1, .tail _ h2, h3⟩, fun _ hq e => by
    obtain ⟨b, h1, h2, _⟩ := h.pb hq
    rw [h1] at e
    injection e with e
    injection e with e
    injection e with e
    have := (Array.getElem?_eq_some_iff.1 (h.st.at_ h2)).1
    simp only at this
    omega⟩
theorem SDp.al2 (h : SDp W X0 X1 Y0 Y1 ps t6 act tt f g p false va vb wa wb l xs u) : SDp W X0 X1 Y0 Y1 ps t6 act tt f g p true va vb wa (ptB u.heap.size) ((u.heap.size, toZ) :: l) xs (u.alloc toZ) :=
  ⟨h.st.mark toZ rfl rfl, .tail _ h.a6, h.ha, fun hg => by obtain ⟨A, m, d, h1, h2⟩ := h.hb hg; exact ⟨A, m, d, h1, h2.next (kp_new u _)⟩, fun hp => by obtain ⟨b, h1, h2, h3⟩ := h.pa hp; exact ⟨b, h1, .tail _ h2, h3⟩, fun _ => ⟨_, rfl, .head _, h.st.low.size⟩, fun hp _ e => by
    obtain ⟨b, h1, h2, _⟩ := h.pa hp
    rw [h1] at e
    injection e with e
    injection e with e
    injection e with e
    have := (Array.getElem?_eq_some_iff.1 (h.st.at_ h2)).1
    simp only at this
    omega⟩
theorem p3_ne {q : Nat × (Nat → Nat)} {b : Nat} (h : P3 u (some ⟨q.1, 0, none⟩) q.2) (hb : u.heap[b]? = some toZ) : q.1 ≠ b := fun e => by
  obtain ⟨ad, h1, _, h2⟩ := h.at_ (i := 0) (by decide)
  injection h1 with h1
  subst h1
  have ha : (⟨q.1, 0, none⟩ : Addr).add 0 = ⟨q.1, 0, none⟩ := by unfold Addr.add; rfl
  rw [ha, e] at h2
  unfold toZ at hb
  have := (cellsAt hb 0 (v := .int .i64 0) rfl).1
  rw [this] at h2
  cases h2
/-- when all is told, ahead of the first write -/
theorem SDp.put1 (h : SDp W X0 X1 Y0 Y1 ps t6 act tt true true true true va vb wa wb l xs u) (hact : act ≠ toZ) : ∃ b c A m d A' m' d', wa = ptB b ∧ wb = ptB c ∧ va = toX tt A m d ∧ vb = toX tt A' m' d' ∧ u.heap[b]? = some toZ ∧ St15 W X1 Y1 ps [(c, toZ), (b, toB tt A m d), (t6, act)] [] [] (put6 u b tt A m d) ∧ W.heap.size ≤ c ∧ c ≠ b ∧ c ≠ t6 ∧ XR (put6 u b tt A m d) A m tt.r.ts ∧ XR (put6 u b tt A m d) A' m' tt.r.ts := by
  obtain ⟨A, m, d, a1, a2⟩ := h.ha rfl
  obtain ⟨A', m', d', b1, b2⟩ := h.hb rfl
  obtain ⟨b, c1, c2, c3⟩ := h.pa rfl
  obtain ⟨c, d1, d2, d3⟩ := h.pb rfl
  have hz := h.st.at_ c2
  have hz2 := h.st.at_ d2
  have h6 := h.st.at_ h.a6
  simp only at hz hz2 h6
  have hbc : c ≠ b := fun e => h.ne rfl rfl (by rw [c1, d1, e])
  have hb6 : t6 ≠ b := fun e => hact (by rw [e, hz] at h6; injection h6 with h6; exact h6.symm)
  have hc6 : c ≠ t6 := fun e => hact (by rw [← e, hz2] at h6; injection h6 with h6; exact h6.symm)
  obtain ⟨e1, e2⟩ := put6_ok tt A m d hz
  have hs := h.st.less (ps' := ps) (l' := [(b, toZ), (c, toZ), (t6, act)]) (rs' := []) (xs' := []) (fun _ h => h) (fun q hq => by
    rcases List.mem_cons.1 hq with rfl | hq
    · exact c2
    rcases List.mem_cons.1 hq with rfl | hq
    · exact d2
    · rw [List.mem_singleton.1 hq]; exact h.a6) (fun _ h => h) (fun _ h => nomatch h)
  have hp := hs.poke c3 e2 e1 (fun q hq => by
    rcases List.mem_cons.1 hq with rfl | hq
    · exact hbc
    · rw [List.mem_singleton.1 hq]; exact hb6) (fun q hq => p3_ne (hs.p3 hq) hz) (fun _ h => nomatch h) (fun _ h => nomatch h)
  exact ⟨b, c, A, m, d, A', m', d', c1, d1, a1, b1, hz, hp.less (fun _ h => h) (fun q hq => by
    rcases List.mem_cons.1 hq with rfl | hq
    · exact .tail _ (.head _)
    rcases List.mem_cons.1 hq with rfl | hq
    · exact .head _
    · rw [List.mem_singleton.1 hq]; exact .tail _ (.tail _ (.head _))) (fun _ h => h) (fun _ h => h), d3, hbc, hc6, (h.st.xr a2).past6 hz e2, b2.past6 hz e2⟩
/-- where such a region stands -/
def SD (W : World) (X0 X1 Y0 Y1 : Thing) (ps : List (Nat × (Nat → Nat))) (t6 : Nat) (act : Obj) (tt : To15) (sa sb pa pb : Nat) (L : Nat → Bool) (T : Nat → Value) (u : World) : Prop :=
  bif L 9 then ∃ b c A m d A' m' d', T pa = ptB b ∧ T pb = ptB c ∧ St15 W X1 Y1 ps [(c, toB tt A' m' d'), (b, toB tt A m d), (t6, act)] [] [] u ∧ XR u A m tt.r.ts ∧ XR u A' m' tt.r.ts
  else bif L 8 then ∃ b c A m d A' m' d', T pa = ptB b ∧ T pb = ptB c ∧ T sb = toX tt A' m' d' ∧ St15 W X1 Y1 ps [(c, toZ), (b, toB tt A m d), (t6, act)] [] [] u ∧ W.heap.size ≤ c ∧ c ≠ b ∧ c ≠ t6 ∧ XR u A m tt.r.ts ∧ XR u A' m' tt.r.ts
  else ∃ l xs, SDp W X0 X1 Y0 Y1 ps t6 act tt (L 2) (L 5) (L 6) (L 7) (T sa) (T sb) (T pa) (T pb) l xs u
variable {sa sb pa pb : Nat} {L : Nat → Bool} {T : Nat → Value}
theorem SD.pre (h : SD W X0 X1 Y0 Y1 ps t6 act tt sa sb pa pb L T u) (h9 : L 9 = false) (h8 : L 8 = false) : ∃ l xs, SDp W X0 X1 Y0 Y1 ps t6 act tt (L 2) (L 5) (L 6) (L 7) (T sa) (T sb) (T pa) (T pb) l xs u := by
  unfold SD at h
  rw [h9, h8] at h
  exact h
theorem SD.of (h9 : L 9 = false) (h8 : L 8 = false) (h : ∃ l xs, SDp W X0 X1 Y0 Y1 ps t6 act tt (L 2) (L 5) (L 6) (L 7) (T sa) (T sb) (T pa) (T pb) l xs u) : SD W X0 X1 Y0 Y1 ps t6 act tt sa sb pa pb L T u := by
  unfold SD
  rw [h9, h8]
  exact h
theorem SD.put2 {b c : Nat} {A' : Option Addr} {m' d' : Nat} (h : St15 W X1 Y1 ps [(c, toZ), (b, toB tt A m d), (t6, act)] [] [] u) (hc : W.heap.size ≤ c) (hcb : c ≠ b) (hc6 : c ≠ t6) (hx : XR u A m tt.r.ts) (hy : XR u A' m' tt.r.ts) :
    u.heap[c]? = some toZ ∧ St15 W X1 Y1 ps [(c, toB tt A' m' d'), (b, toB tt A m d), (t6, act)] [] [] (put6 u c tt A' m' d') ∧ XR (put6 u c tt A' m' d') A m tt.r.ts ∧ XR (put6 u c tt A' m' d') A' m' tt.r.ts := by
  have hz := h.at_ (.head _)
  simp only at hz
  obtain ⟨e1, e2⟩ := put6_ok tt A' m' d' hz
  exact ⟨hz, h.poke hc e2 e1 (fun q hq => by
    rcases List.mem_cons.1 hq with rfl | hq
    · exact hcb.symm
    · rw [List.mem_singleton.1 hq]; exact hc6.symm) (fun q hq => p3_ne (h.p3 hq) hz) (fun _ h => nomatch h) (fun _ h => nomatch h), hx.past6 hz e2, hy.past6 hz e2⟩
end
end

/- Layer 15: a row's first element, in a new block; a document's node whose log is named; the document's own act; blocks of rows that a call made. -/
section
open Go.RowKit
set_option maxRecDepth 100000

theorem own_zero {w : World} {g size : Nat} {e : TypeId} (h : w.heap[g]? = some (.cells #[] e (0, 0))) : w.ownsRow 0 e size (.slice (some ⟨g, 0, none⟩) 0 0) 0 [] :=
  ⟨by simp, .inr ⟨g, 0, #[], rfl, Nat.zero_le _, h, Nat.le_refl _, Nat.zero_le _, by simp, by simp⟩⟩
theorem own_rebase {w : World} {base base' g n c size : Nat} {e : TypeId} {xs : List Value} (h : w.ownsRow base e size (.slice (some ⟨g, 0, none⟩) n c) n xs) (hb : base' ≤ g) : w.ownsRow base' e size (.slice (some ⟨g, 0, none⟩) n c) n xs := by
  refine ⟨h.1, ?_⟩
  rcases h.2 with ⟨h1, _⟩ | ⟨g', cap, cur, h1, _, r⟩
  · cases h1
  · have h2 := h1
    injection h2 with h2 _ _
    injection h2 with h2
    injection h2 with h2
    subst h2
    exact .inr ⟨g, cap, cur, h1, hb, r⟩
theorem run_append_first {P : Program} {w : World} (t ty e : TypeId) (i : TypeInfo) (z : Value) (size bytes : Nat) (ht : P.underlying t = some (.slice e)) (hi : P.info? e = some i) (hz : i.zero = some z)
    (hsize : i.size = size) (hby : i.bytes = bytes) (hzs : z.cells.size = size) (hsz : 0 < size) (g : Nat) (hown : w.ownsRow 0 e size (.slice (some ⟨g, 0, none⟩) 0 0) 0 [])
    (B : Nat) (ad : Addr) (c : Nat) (news : List Value) (hm : news.length = size) (hr : Rd w B (some ad) news) (h1 : ∀ u ∈ news, u.oneCell' = true) (hbytes : bytes ≤ 1000) :
    ∃ c' w', (Builtin.append_ #[t, t] ty #[.slice (some ⟨g, 0, none⟩) 0 0, .slice (some ad) 1 c]).run P w = .ok (.slice (some ⟨w.heap.size, 0, none⟩) 1 c') w' ∧ w'.ownsRow w.heap.size e size (.slice (some ⟨w.heap.size, 0, none⟩) 1 c') 1 news ∧ Below w.heap.size w w' := by
  obtain ⟨v', w', hrun, h2, h3⟩ := run_append_empty (P := P) (w := w) 0 t ty e i z size bytes ht hi hz hsize hby hzs hsz g hown B (some ad) 1 c news (by omega) hr h1 (by unfold maxLen; omega) (by omega) (Nat.zero_le _)
  have hc : ∀ j u, news[j]? = some u → w.cell? (ad.add j) = some u := by
    intro j u hu
    rcases hr with h | ⟨ad', h, _, hc⟩
    · subst h; simp at hu
    · injection h with h; subst h; exact hc j u hu
  have hs : Src P i.size t (.slice (some ad) 1 c) 1 news w := Src.ofSlice w ht ad 1 c _ (by simp [hsize, hm]) hc h1
  have hold : (Builtin.firstCells i.size 0 (.slice (some ⟨g, 0, none⟩) 0 0)).run P w.drew = .ok ([] : List Value).toArray w.drew := run_firstCells_some _ _ _ _ _ _ _ (by simp) fun j u hu => by simp at hu
  have hr2 := run_append_grow_src (P := P) w t t ty e i z ht hi hz (some ⟨g, 0, none⟩) 0 0 [] hold _ 1 news hs (by omega) (by omega) (growslice_fits (by omega) (by rw [hby]; omega))
  rw [hrun] at hr2
  injection hr2 with e1 e2
  rw [Nat.zero_add] at e1
  refine ⟨_, w', by rw [hrun, e1], ?_, h3⟩
  rw [e1] at h2
  exact own_rebase h2 (Nat.le_refl _)
section
variable {w0 w w' : World} {X Y : Thing} {ps : List (Nat × (Nat → Nat))} {l : List (Nat × Obj)} {rs : List (Option Addr × Nat × List Lg)} {xs : List (Option Addr × Nat × List ByteArray)}
/-- a block that a call made is marked -/
theorem St15.blk (h : St15 w0 X Y ps l rs xs w) (hb : Below w.heap.size w w') {g : Nat} {o : Obj} (hg : w.heap.size ≤ g) (ho : w'.heap[g]? = some o) : St15 w0 X Y ps ((g, o) :: l) rs xs w' := by
  obtain ⟨N, a, b, c, d, e⟩ := h
  obtain ⟨⟨S, T, h1, h2, h3, h4⟩, h5, h6⟩ := id a
  have hlt : ∀ k, S k ∨ T k → k < w.heap.size := fun k hk => hk.elim (X.lt h1 k) (Y.lt h2 k)
  have a' : Duo w0 X Y (fun k => k = g ∨ N k) w' := by
    obtain ⟨_, b1, b2⟩ := a.next hb
    refine ⟨⟨S, T, Thing.next h1 hb, Thing.next h2 hb, h3, fun k hk => ⟨(h4 k hk).1, fun e => e.elim (fun e => ?_) (h4 k hk).2⟩⟩, b1, fun k hk => hk.elim (fun e => by rw [e]; exact (Array.getElem?_eq_some_iff.1 ho).1) (b2 k)⟩
    have := hlt k hk
    omega
  obtain ⟨b', c', d', e'⟩ := St15.keep a' b c d e (fun k hk => ⟨.inr hk, hb.block k (h6 k hk)⟩) hb.size
  exact ⟨_, a', fun p hp => (List.mem_cons.1 hp).elim (fun e => by subst e; exact ⟨.inl rfl, ho⟩) (b' p), c', d', e'⟩
/-- a row that a call made is marked; it is read wherever its block stands -/
theorem St15.krow (h : St15 w0 X Y ps l rs xs w) (hb : Below w.heap.size w w') {A : Option Addr} {n c : Nat} {T : TypeId} {ts : List Kv} (ho : w'.ownsRow w.heap.size T 2 (.slice A n c) n (kvC ts)) : ∃ l', St15 w0 X Y ps l' rs xs w' ∧ (∀ q ∈ l, q ∈ l') ∧ ∀ u, (∀ q ∈ l', u.heap[q.1]? = some q.2) → KR u A n ts := by
  have hlen : ts.length = n := by have := ho.1; rw [kvC_length] at this; omega
  rcases ho.2 with ⟨h1, h2⟩ | ⟨g, cap, cur, h1, hbg, hg, r⟩
  · refine ⟨l, h.next hb, fun _ h => h, fun u _ => ⟨hlen, .inl ?_⟩⟩
    have : ts = [] := List.eq_nil_of_length_eq_zero (by omega)
    rw [this]
    rfl
  · refine ⟨_, h.blk hb hbg hg, fun _ h => .tail _ h, fun u hu => ⟨hlen, ?_⟩⟩
    have hA := h1
    injection hA with hA _ _
    subst hA
    have hu' := hu _ (.head _)
    refine .inr ⟨_, rfl, (Array.getElem?_eq_some_iff.1 hu').1, fun j v hv => ?_⟩
    have e : u.cell? ((⟨g, 0, none⟩ : Addr).add j) = w'.cell? ((⟨g, 0, none⟩ : Addr).add j) := World.cell?_of_block (by rw [add_block]; exact hu'.trans hg.symm)
    rw [e]
    exact ho.cells (g := g) rfl j v hv
end
/-- the document's nodes, one of which lies so -/
def TP (bs : Nat → Nat) (ns : Nat → Nd) (i : Nat) (AL : Option Addr) (nl cl : Nat) (v3 : Value) : Thing where
  p := fun S w => (Tri RN bs ns).p S w ∧ w.heap[bs i]? = some (.cells #[.int .u64 (ns i).ep, .bool (ns i).ld, .slice AL nl cl, v3] 54 (0, 0)) ∧ LR w AL nl (ns i).lg ∧ S (bs i) ∧ ∀ ad, AL = some ad → S ad.block
  keep := fun ⟨h1, h2, h3, h4, h5⟩ hk hz => ⟨(Tri RN _ _).keep h1 hk hz, (hk _ h4).trans h2, h3.off hz fun ad h => hk _ (h5 ad h), h4, h5⟩
  lt := fun h => (Tri RN _ _).lt h.1
section
variable {w0 w : World} {X : Thing} {bs : Nat → Nat} {ns : Nat → Nd} {ps : List (Nat × (Nat → Nat))} {l : List (Nat × Obj)} {rs : List (Option Addr × Nat × List Lg)} {xs : List (Option Addr × Nat × List ByteArray)}
theorem St15.pin (h : St15 w0 X (Tri RN bs ns) ps l rs xs w) {i : Nat} (hi : i < 3) : ∃ AL nl cl v3, St15 w0 X (TP bs ns i AL nl cl v3) ps l rs xs w := by
  obtain ⟨N, ⟨⟨S, T, h1, h2, h3, h4⟩, h5, h6⟩, b⟩ := h
  obtain ⟨Ss, k1, k2, k3⟩ := id h2
  obtain ⟨AL, nl, cl, AO, no, co, os, hx⟩ := k1 i hi
  exact ⟨AL, nl, cl, _, N, ⟨⟨S, T, h1, ⟨h2, hx.top, hx.lg, (k3 _).2 ⟨i, hi, hx.sb⟩, fun ad h => (k3 _).2 ⟨i, hi, (hx.sl ad h).1⟩⟩, h3, h4⟩, h5, h6⟩, b⟩
theorem St15.unpin {i : Nat} {AL : Option Addr} {nl cl : Nat} {v3 : Value} (h : St15 w0 X (TP bs ns i AL nl cl v3) ps l rs xs w) : St15 w0 X (Tri RN bs ns) ps l rs xs w := by
  obtain ⟨N, ⟨⟨S, T, h1, h2, h3, h4⟩, h5, h6⟩, b⟩ := h
  exact ⟨N, ⟨⟨S, T, h1, h2.1, h3, h4⟩, h5, h6⟩, b⟩
theorem St15.pinned {i : Nat} {AL : Option Addr} {nl cl : Nat} {v3 : Value} (h : St15 w0 X (TP bs ns i AL nl cl v3) ps l rs xs w) : w.heap[bs i]? = some (.cells #[.int .u64 (ns i).ep, .bool (ns i).ld, .slice AL nl cl, v3] 54 (0, 0)) ∧ LR w AL nl (ns i).lg := by
  obtain ⟨N, ⟨⟨S, T, _, h2, _⟩, _⟩, _⟩ := h
  exact ⟨h2.2.1, h2.2.2.1⟩
/-- the document's own act -/
theorem St15.own (h : St15 w0 X (Tri RN bs ns) ps l rs xs w) {g k : Nat} (c0 : Nat) {x : Ac8} (hg : (g, bs) ∈ ps) (hI : ∀ i, NdI k (ns i)) (hk : k ≤ 800) (hx : x.Fine) (ht : Sm x.t) :
    Calls Tryz.prog 13 #[.slice (some ⟨g, 0, none⟩) 3 c0, .agg #[.int .i64 x.d, .int .i64 x.nd, .int .i64 x.fr, .int .i64 x.c, .int .i64 x.m, .int .u64 x.e, .bool x.rd, .string x.t]] w fun e w' => (∃ (A' : Option Addr) (m' d' : Nat), e = .returned (toV (actN ns x).1 A' m' d') ∧ XR w' A' m' (actN ns x).1.r.ts) ∧ St15 w0 X (Tri RN bs (actN ns x).2) ps l rs xs w' :=
  h.right (Q := fun e w' => ∃ (A' : Option Addr) (m' d' : Nat), e = .returned (toV (actN ns x).1 A' m' d') ∧ XR w' A' m' (actN ns x).1.r.ts) fun _ hS => (lown_ok (some ⟨g, 0, none⟩) c0 x hS (h.p3 hg) hI hk hx ht).mono fun _ _ ⟨A', m', d', he, hr, ht⟩ => ⟨⟨A', m', d', he, hr⟩, ht⟩
theorem St15.rtable {i : Nat} {AL : Option Addr} {nl cl : Nat} {v3 : Value} (h : St15 w0 X (TP bs ns i AL nl cl v3) ps l rs xs w) (hi : i < 3) {k : Nat} (hI : NdI k (ns i)) :
    Calls Tryz.prog 23 #[.pointer (some ⟨bs i, 0, none⟩), .slice none 0 0] w fun e w' => ∃ A' n' c', e = .returned (.slice A' n' c') ∧ KR w' A' n' (tabN (ns i).lg []) ∧ Below w.heap.size w w' := by
  obtain ⟨N, ⟨⟨S, T, _, h2, _⟩, _⟩, _⟩ := h
  obtain ⟨Ss, k1, _⟩ := h2.1
  exact rtable15_ok none 0 0 [] (k1 i hi) hI.lg (fun x hx => (hI.lt x hx).1) (XR.nil w) (Nat.zero_le _) (fun _ h => nomatch h)
end
section
variable {X : Nat → Nd → Thing} {w0 w : World} {Y : Thing} {bs : Nat → Nat} {ns : Nat → Nd} {ps : List (Nat × (Nat → Nat))} {l : List (Nat × Obj)} {rs : List (Option Addr × Nat × List Lg)} {xs : List (Option Addr × Nat × List ByteArray)}
theorem St15.table (h : St15 w0 (Tri X bs ns) Y ps l rs xs w) (C : NodeC X) (hL : Lw w0) {i : Nat} (hi : i < 3) {k : Nat} (hI : NdI k (ns i)) :
    Calls Tryz.prog 16 #[.pointer (some ⟨bs i, 0, none⟩)] w fun e w' => (∃ A m d, e = .returned (.slice A m d) ∧ KR w' A m (tabN (ns i).lg [])) ∧ St15 w0 (Tri X bs ns) Y ps l rs xs w' :=
  h.left (Q := fun e w' => ∃ A m d, e = .returned (.slice A m d) ∧ KR w' A m (tabN (ns i).lg [])) fun _ hS => Tri.op0 (Q := fun e w' => ∃ A m d, e = .returned (.slice A m d) ∧ KR w' A m (tabN (ns i).lg [])) hS hi fun S' hS' => (C.table (bs i) (ns i) k S' w (hL.next h.low) hS' hI).mono fun _ _ ⟨A, m, d, h1, h2, h3⟩ => ⟨⟨A, m, d, h1, h2⟩, h3⟩
end
/-- what is left is new -/
def SB (W : World) (_ : Nat → Bool) (u : World) : Prop := Below W.heap.size W u
end
end Go.Proofs.YtaoegiohnebnhaaGreatDoor
