/-
  Contracts and plain functions that the law stands on, part 18 of 24.
-/
import Derived.Test.YtdhnpmagapbmhaaGreatDoorQD17
namespace Go.Proofs.YtdhnpmagapbmhaaGreatDoor
/- The landed node: Copy, of another node and of itself: contracts. -/
section
open Go.RowKit Go.Maps Go.WideMaps
set_option maxRecDepth 100000
theorem entsize15 : (Tryz.prog.info? (Tryz.prog.elem 60)).map (·.size) = some 2 := by kernel_rfl
theorem cutN15 (A : Option Addr) {n c k : Nat} (hk : k ≤ n) (hc : n ≤ c) (u : World) : (Instr.slice 60 (.slice A n c) none (some (.int .i64 (k : Int))) none).run Tryz.prog u = .ok (.slice A k c) u := by
 obtain ⟨ti, hti, hsz⟩ := Option.map_eq_some_iff.1 entsize15; rw [run_slice_h u 60 A n c (by kernel_rfl) .i64 k (by omega) (by omega)]
 cases A with
 | none => simp [sizeOf, typeInfo, hti, hsz, sliced, Result.andThen]
 | some ad => simp [sizeOf, typeInfo, hti, hsz, sliced, Result.andThen, Addr.add]
theorem own_takeN {w : World} {base n c : Nat} {e : TypeId} {A : Option Addr} {l : List Lg} (h : w.ownsRow base e 2 (.slice A n c) n (lgC l)) {k : Nat} (hk : k ≤ n) : w.ownsRow base e 2 (.slice A k c) k (lgC (l.take k)) := by
 have hl := h.1; rw [lgC_length] at hl; refine ⟨by rw [lgC_length, List.length_take]; omega, ?_⟩; rcases h.2 with ⟨h1, h2⟩ | ⟨g, cap, cur, h1, h2, h3, h4, h5, h6, h7⟩
 · injection h1 with a b d; subst a b d; obtain rfl : k = 0 := by omega
   exact .inl ⟨rfl, rfl⟩
 · injection h1 with a _ d; subst a d; refine .inr ⟨g, c, cur, rfl, h2, h3, by omega, h5, h6, ?_⟩; rw [lgC_take, ← h7, List.take_take, Nat.min_eq_left (by omega)]
theorem max0 (m : Int) (u : World) (ts : Array TypeId) (ty : TypeId) : (Builtin.max_ ts ty #[.int .i64 m, .int .i64 0]).run Tryz.prog u = .ok (.int .i64 (m.toNat : Nat)) u := by
 rw [run_max_int2 (P := Tryz.prog) (w := u) ts ty .i64 .i64 m 0]; congr 2; split <;> omega
theorem minN (a b : Nat) (u : World) (ts : Array TypeId) (ty : TypeId) : (Builtin.min_ ts ty #[.int .i64 (a : Int), .int .i64 (b : Int)]).run Tryz.prog u = .ok (.int .i64 ((min a b : Nat) : Int)) u := by
 rw [run_min_int2 (P := Tryz.prog) (w := u) ts ty .i64 .i64 a b]; congr 2; split <;> omega
section
variable {b f : Nat} {n fn : Nd} {S : Nat → Prop} {w : World} {k kf : Nat}
theorem Turn.over {Z : Thing} {S' : Nat → Prop} {w' w'' : World} (h2 : ∀ k, S' k → S k ∨ w.heap.size ≤ k) (h3 : Off S w w') (k : Turn Z S' w' w'') : Turn Z S w w'' := by
 obtain ⟨⟨S'', k1, k2⟩, k3⟩ := k; have hz := h3.size; exact ⟨⟨S'', k1, fun i hi => (k2 i hi).elim (fun e => h2 i e) (fun e => .inr (by omega))⟩, h3.trans k3 h2⟩
theorem PN.tops (h : (PN b n).p S w) : (∃ x, w.cell? ⟨b, 0, none⟩ = some x) ∧ w.cell? ⟨b, 1, none⟩ = some (.int .u64 n.ep) ∧ w.cell? ⟨b, 2, none⟩ = some (.bool n.ld) ∧ True := by
 obtain ⟨cb, bm, AL, nl, cl, W, col, hx⟩ := h; obtain ⟨h0, h1, h2, _⟩ := hx.tops; exact ⟨⟨_, h0⟩, h1, h2, trivial⟩
def From (f : Nat) (fn : Nd) (K : World → Prop) : Prop := ∃ A m c, m ≤ c ∧ ∀ u, K u → u.cell? ⟨f, 1, none⟩ = some (.int .u64 fn.ep) ∧ u.cell? ⟨f, 3, none⟩ = some (.slice A m c) ∧ LR u A m fn.lg
set_option maxHeartbeats 16000000 in
theorem pcopyG_ok (m : Int) (h : (PN b n).p S w) (hi : NdI k n) (hif : NdI kf fn) (K : World → Prop) (hF : From f fn K) (hK0 : ∀ u, Below w.heap.size w u → K u) (hK1 : n.ep < fn.ep → ∀ u, Off S w u → K u) :
 Calls Tryz.prog 56 #[.pointer (some ⟨b, 0, none⟩), .pointer (some ⟨f, 0, none⟩), .int .i64 m] w fun e' w' => e' = .returned (.int .i64 (copyNd n fn m).1) ∧ Turn (PN b (copyNd n fn m).2) S w w' := by
 obtain ⟨Af, nf, cf, hfc, hfr⟩ := hF; have HT := hid h; have HFR := hid hfr; obtain ⟨_, z1, z3, _⟩ : True ∧ _ := ⟨trivial, hfr w (hK0 w (Below.refl _ _))⟩; have HK0 := hid hK0; have HK1 := hid hK1; obtain ⟨cb, bm, AL, nl, cl, W, col, hx⟩ := h; obtain ⟨_, y1, y2, _⟩ := hx.tops; clear hx hfr hK0 hK1; by_cases hno : fn.ep < n.ep ∨ (fn.ep = n.ep ∧ n.ld = true)
 · rw [show copyNd n fn m = (0, n) from if_pos hno]; rcases hno with hno | ⟨hno, hld⟩
   · go_enter Tryz.func56, Tryz.ntmps56; go_wp2_with fail; go_quiet (fail); go_wp2_with fail; go_ret; exact ⟨rfl, Turn.same HT.out (kp_drewN _ _)⟩
   · rw [hld] at y2; have hq : (fn.ep == n.ep) = true := by simpa using hno
     have hq2 : ¬ fn.ep < n.ep := by omega
     go_enter Tryz.func56, Tryz.ntmps56; go_wp2_with fail; go_quiet (fail); go_wp2_with fail; go_ret; exact ⟨rfl, Turn.same HT.out (kp_drewN _ _)⟩
 · rw [show copyNd n fn m = (((manyNd n fn m : Nat) : Int), { turnNd n fn with lg := fn.lg.take (sameLg n.lg fn.lg + manyNd n fn m) }) from if_neg hno]; have hq2 : ¬ fn.ep < n.ep := fun h => hno (.inl h); by_cases hlt : n.ep < fn.ep
   rotate_left
   · have hld : n.ld = false := by
      cases h : n.ld with
      | false => rfl
      | true => exact absurd (.inr ⟨by omega, h⟩) hno
     rw [hld] at y2; have hq : (fn.ep == n.ep) = true := by simp; omega
     go_enter Tryz.func56, Tryz.ntmps56; go_wp2_with fail; go_quiet (fail); obtain ⟨w1, hw1⟩ : ∃ y, y = w.drewN nq := ⟨_, rfl⟩; rw [← hw1]; have hb1 : Below w.heap.size w w1 := hw1 ▸ kp_drewN _ _; obtain ⟨_, u1, u2, _⟩ := PN.tops (Thing.next HT.out hb1); rw [hld] at u2; obtain ⟨t1, t3, _⟩ := HFR.out w1 (HK0.out w1 hb1); have HB1 := hid hb1; clear hw1 hb1; go_wp2_with fail; go_quiet (fail); obtain ⟨w2, hw2⟩ : ∃ y, y = w1.drewN nq := ⟨_, rfl⟩; rw [← hw2]; have hb2 : Below w.heap.size w w2 := HB1.out.trans ((hw2 ▸ kp_drewN _ _ : Below w1.heap.size w1 w2).mono HB1.out.size); obtain ⟨w3, hw3⟩ : ∃ y, y = w2 := ⟨_, rfl⟩; rw [← hw3]; subst hw3; have HP : Hid (∃ S2, (PN b (turnNd n fn)).p S2 w3 ∧ (∀ z, S2 z → S z ∨ w.heap.size ≤ z) ∧ Off S w w3) := hid ⟨S, by unfold turnNd; rw [if_neg (by omega)]; exact Thing.next HT.out hb2, fun _ h => .inl h, Off.of S hb2⟩; have HKW : Hid (∀ u, Below w3.heap.size w3 u → K u) := hid fun u hu => HK0.out u (hb2.trans (hu.mono hb2.size)); clear hw2 hb2 u1 u2 t1 t3; obtain ⟨S2, hp2, hS2, hof2⟩ := HP.out; obtain ⟨cb2, bm2, A2, n2, c2, W2, col2, hx2⟩ := hp2; have hlg2 : (turnNd n fn).lg = n.lg := by unfold turnNd; split <;> rfl
     obtain ⟨_, v3, hlrf⟩ := HFR.out w3 (HKW.out w3 (Below.refl _ _)); obtain ⟨_, _, _, x3, _⟩ := hx2.tops; have hn2 : n2 ≤ 200 := by rw [← hx2.llen, hlg2]; exact hi.lg
     have hnf : nf ≤ 200 := by rw [← hlrf.len]; exact hif.lg
     have HAL : Hid (∀ u, Below w3.heap.size w3 u → Calls Tryz.prog 85 #[.slice A2 n2 c2, .slice Af nf cf] u fun e w' => e = .returned (.int .i64 (sameLg n.lg fn.lg)) ∧ ∃ m, w' = u.drewN m) := hid fun u hu => palike_ok A2 Af n2 nf c2 cf n.lg fn.lg u (hlg2 ▸ hx2.lr.next hu) (hlrf.next hu) (by omega); have HX2 := hid hx2; have HPS := hid (And.intro hS2 hof2); obtain ⟨j, hj⟩ : ∃ x, sameLg n.lg fn.lg = x := ⟨_, rfl⟩; have hjn : j ≤ n2 := by rw [← hx2.llen, hlg2, ← hj]; exact (sameLg_le _ _).1
     have hjf : j ≤ nf := by rw [← hlrf.len, ← hj]; exact (sameLg_le _ _).2
     rw [hj] at HAL; have HJ := hid hj; have HLG2 := hid hlg2; clear hx2 hS2 hof2 hj hlrf hlg2 HP; go_wp2_with fail; go_quiet (first | (go_at_call 85; exact Calls.quiet_of (HAL.out _ (kp_drewN _ _)))); obtain ⟨w4, hw4⟩ : ∃ y, y = w3.drewN nq := ⟨_, rfl⟩; rw [← hw4]; have hb4 : Below w3.heap.size w3 w4 := hw4 ▸ kp_drewN _ _; have hx4 := HX2.out.keep (fun q hq => hb4.block q (HX2.out.lt q hq)) hb4.size; obtain ⟨_, _, _, x4, _⟩ := hx4.tops; obtain ⟨_, v4, hlr4⟩ := HFR.out w4 (HKW.out w4 hb4); obtain ⟨r, hr⟩ : ∃ x, nf - j = x := ⟨_, rfl⟩; obtain ⟨cr, hcr⟩ : ∃ x, cf - j = x := ⟨_, rfl⟩; obtain ⟨mt, hmt⟩ : ∃ x, m.toNat = x := ⟨_, rfl⟩; obtain ⟨q, hq⟩ : ∃ x, min r mt = x := ⟨_, rfl⟩; have hmx := max0 m; have hmn := minN r mt; rw [hmt] at hmx; rw [hq] at hmn; have hqr : q ≤ r := by omega
     have hrc : r ≤ cr := by omega
     obtain ⟨Ad, hcut1, hlr5⟩ := hlr4.cut1 60 Tryz.underlying60 entsize15 (i := j) hjf hfc; rw [hr, hcr] at hcut1; rw [hr] at hlr5; obtain ⟨Ae, hcut2, hlr6⟩ := hlr5.cut0 (c := cr) 60 Tryz.underlying60 entsize15 (j := q) hqr hrc
     have hnc2 : n2 ≤ c2 := by
      obtain ⟨_, _, h1, h2, _⟩ := own_form_s hx4.lg; injection h1 with _ _ h1; omega
     have hcut3 := cutN15 A2 (n := n2) (c := c2) (k := j) hjn hnc2; obtain ⟨i0, hi0, hz0, hz1, hz2⟩ := info_parts entinfo15; have hown := own_takeN hx4.lg hjn; obtain ⟨A5, c5, w5, hrun, hown5, hg5, hwh⟩ := run_append_many (P := Tryz.prog) 60 60 69 i0 _ 2 24 Tryz.underlying60 hi0 hz0 hz1 hz2 rfl (by omega) hown _ Ae q cr _ (by rw [lgC_length, hlr6.len]) hlr6.rd (lgC_one _) (by omega) (by omega)
     have hl5 : (turnNd n fn).lg.take j ++ (fn.lg.drop j).take q = fn.lg.take (j + q) := by
      rw [List.take_add, HLG2.out, ← HJ.out, sameLg_take]
     rw [← lgC_append, hl5] at hown5; have hst := hx4.stored (Below.refl _ _) hown5 hg5 hwh; have hf5 := (cellsAt (hst.2.2.trans hx4.top) 3 (v := .slice A2 n2 c2) rfl).2; have hv5 := (cellsAt (hst.2.2.trans hx4.top) 3 (v := .slice A2 n2 c2) rfl).1
     have hqm : q = manyNd n fn m := by
      unfold manyNd; rw [HJ.out, hmt, ← hq, ← hr, (HFR.out w3 (HKW.out w3 (Below.refl _ _))).2.2.len]
     have hfin : Turn (PN b { turnNd n fn with lg := fn.lg.take (j + q) }) S w (w5.setCell ⟨b, 3, none⟩ (.slice A5 (j + q) c5)) := by
      refine Turn.over HPS.out.1 (HPS.out.2.trans (Off.of (fun _ => False) hb4) fun _ h => h.elim) ⟨⟨_, ⟨_, _, _, _, _, _, _, hst.1⟩, fun z hz => hz.imp id (·.1)⟩, hst.2.1.wide fun z hz => hz.elim (fun e => e ▸ HX2.out.sb.1) (·.1)⟩
     have HF := hid hfin; have HQM := hid hqm; have HRUN := hid hrun; clear hx4 hlr4 hlr5 hlr6 hown hown5 hg5 hwh hst hqm hfin hl5 hrun hr hcr hmt hq hb4 hw4; go_wp2_with (at_builtin; refine wpList_append_run rfl _ _ _ rfl _ _ rfl rfl HRUN.out ?_); go_ret; refine ⟨by rw [← HQM.out]; rfl, ?_⟩; rw [← HQM.out, HJ.out]; exact HF.out
   · have hq : (fn.ep == n.ep) = false := by simp; omega
     go_enter Tryz.func56, Tryz.ntmps56; go_wp2_with fail; go_quiet (fail); obtain ⟨w1, hw1⟩ : ∃ y, y = w.drewN nq := ⟨_, rfl⟩; rw [← hw1]; have hb1 : Below w.heap.size w w1 := hw1 ▸ kp_drewN _ _; obtain ⟨_, u1, u2, _⟩ := PN.tops (Thing.next HT.out hb1); obtain ⟨t1, t3, _⟩ := HFR.out w1 (HK0.out w1 hb1); have HB1 := hid hb1; clear hw1 hb1; go_wp2_with fail; go_quiet (fail); obtain ⟨w2, hw2⟩ : ∃ y, y = w1.drewN nq := ⟨_, rfl⟩; rw [← hw2]; have hb2 : Below w.heap.size w w2 := HB1.out.trans ((hw2 ▸ kp_drewN _ _ : Below w1.heap.size w1 w2).mono HB1.out.size); obtain ⟨s1, s3, _⟩ := HFR.out w2 (HK0.out w2 hb2); have HEN := hid (penter_ok fn.ep false (Thing.next HT.out hb2)); have HB2 := hid hb2; clear hw2 hb2 u1 u2; go_wp2_with fail; refine HEN.out.mono ?_; rintro e w3 ⟨rfl, ht⟩
     have HP : Hid (∃ S2, (PN b (turnNd n fn)).p S2 w3 ∧ (∀ z, S2 z → S z ∨ w.heap.size ≤ z) ∧ Off S w w3) := hid (by
      have ht2 := ht.ahead HB2.out; obtain ⟨⟨S2, k1, k2⟩, k3⟩ := ht2
      exact ⟨S2, by unfold turnNd; rw [if_pos hlt]; exact k1, k2, k3⟩)
     have HKW : Hid (∀ u, Below w3.heap.size w3 u → K u) := hid fun u hu => HK1.out hlt u (by
      obtain ⟨_, _, _, k3⟩ := HP.out
      exact k3.trans (Off.of (fun _ => False) hu) fun _ h => h.elim)
     clear ht HEN s1 s3 t1 t3; obtain ⟨S2, hp2, hS2, hof2⟩ := HP.out; obtain ⟨cb2, bm2, A2, n2, c2, W2, col2, hx2⟩ := hp2; have hlg2 : (turnNd n fn).lg = n.lg := by unfold turnNd; split <;> rfl
     obtain ⟨_, v3, hlrf⟩ := HFR.out w3 (HKW.out w3 (Below.refl _ _)); obtain ⟨_, _, _, x3, _⟩ := hx2.tops; have hn2 : n2 ≤ 200 := by rw [← hx2.llen, hlg2]; exact hi.lg
     have hnf : nf ≤ 200 := by rw [← hlrf.len]; exact hif.lg
     have HAL : Hid (∀ u, Below w3.heap.size w3 u → Calls Tryz.prog 85 #[.slice A2 n2 c2, .slice Af nf cf] u fun e w' => e = .returned (.int .i64 (sameLg n.lg fn.lg)) ∧ ∃ m, w' = u.drewN m) := hid fun u hu => palike_ok A2 Af n2 nf c2 cf n.lg fn.lg u (hlg2 ▸ hx2.lr.next hu) (hlrf.next hu) (by omega); have HX2 := hid hx2; have HPS := hid (And.intro hS2 hof2); obtain ⟨j, hj⟩ : ∃ x, sameLg n.lg fn.lg = x := ⟨_, rfl⟩; have hjn : j ≤ n2 := by rw [← hx2.llen, hlg2, ← hj]; exact (sameLg_le _ _).1
     have hjf : j ≤ nf := by rw [← hlrf.len, ← hj]; exact (sameLg_le _ _).2
     rw [hj] at HAL; have HJ := hid hj; have HLG2 := hid hlg2; clear hx2 hS2 hof2 hj hlrf hlg2 HP; go_wp2_with fail; go_quiet (first | (go_at_call 85; exact Calls.quiet_of (HAL.out _ (kp_drewN _ _)))); obtain ⟨w4, hw4⟩ : ∃ y, y = w3.drewN nq := ⟨_, rfl⟩; rw [← hw4]; have hb4 : Below w3.heap.size w3 w4 := hw4 ▸ kp_drewN _ _; have hx4 := HX2.out.keep (fun q hq => hb4.block q (HX2.out.lt q hq)) hb4.size; obtain ⟨_, _, _, x4, _⟩ := hx4.tops; obtain ⟨_, v4, hlr4⟩ := HFR.out w4 (HKW.out w4 hb4); obtain ⟨r, hr⟩ : ∃ x, nf - j = x := ⟨_, rfl⟩; obtain ⟨cr, hcr⟩ : ∃ x, cf - j = x := ⟨_, rfl⟩; obtain ⟨mt, hmt⟩ : ∃ x, m.toNat = x := ⟨_, rfl⟩; obtain ⟨q, hq⟩ : ∃ x, min r mt = x := ⟨_, rfl⟩; have hmx := max0 m; have hmn := minN r mt; rw [hmt] at hmx; rw [hq] at hmn; have hqr : q ≤ r := by omega
     have hrc : r ≤ cr := by omega
     obtain ⟨Ad, hcut1, hlr5⟩ := hlr4.cut1 60 Tryz.underlying60 entsize15 (i := j) hjf hfc; rw [hr, hcr] at hcut1; rw [hr] at hlr5; obtain ⟨Ae, hcut2, hlr6⟩ := hlr5.cut0 (c := cr) 60 Tryz.underlying60 entsize15 (j := q) hqr hrc
     have hnc2 : n2 ≤ c2 := by
      obtain ⟨_, _, h1, h2, _⟩ := own_form_s hx4.lg; injection h1 with _ _ h1; omega
     have hcut3 := cutN15 A2 (n := n2) (c := c2) (k := j) hjn hnc2; obtain ⟨i0, hi0, hz0, hz1, hz2⟩ := info_parts entinfo15; have hown := own_takeN hx4.lg hjn; obtain ⟨A5, c5, w5, hrun, hown5, hg5, hwh⟩ := run_append_many (P := Tryz.prog) 60 60 69 i0 _ 2 24 Tryz.underlying60 hi0 hz0 hz1 hz2 rfl (by omega) hown _ Ae q cr _ (by rw [lgC_length, hlr6.len]) hlr6.rd (lgC_one _) (by omega) (by omega)
     have hl5 : (turnNd n fn).lg.take j ++ (fn.lg.drop j).take q = fn.lg.take (j + q) := by
      rw [List.take_add, HLG2.out, ← HJ.out, sameLg_take]
     rw [← lgC_append, hl5] at hown5; have hst := hx4.stored (Below.refl _ _) hown5 hg5 hwh; have hf5 := (cellsAt (hst.2.2.trans hx4.top) 3 (v := .slice A2 n2 c2) rfl).2; have hv5 := (cellsAt (hst.2.2.trans hx4.top) 3 (v := .slice A2 n2 c2) rfl).1
     have hqm : q = manyNd n fn m := by
      unfold manyNd; rw [HJ.out, hmt, ← hq, ← hr, (HFR.out w3 (HKW.out w3 (Below.refl _ _))).2.2.len]
     have hfin : Turn (PN b { turnNd n fn with lg := fn.lg.take (j + q) }) S w (w5.setCell ⟨b, 3, none⟩ (.slice A5 (j + q) c5)) := by
      refine Turn.over HPS.out.1 (HPS.out.2.trans (Off.of (fun _ => False) hb4) fun _ h => h.elim) ⟨⟨_, ⟨_, _, _, _, _, _, _, hst.1⟩, fun z hz => hz.imp id (·.1)⟩, hst.2.1.wide fun z hz => hz.elim (fun e => e ▸ HX2.out.sb.1) (·.1)⟩
     have HF := hid hfin; have HQM := hid hqm; have HRUN := hid hrun; clear hx4 hlr4 hlr5 hlr6 hown hown5 hg5 hwh hst hqm hfin hl5 hrun hr hcr hmt hq hb4 hw4; go_wp2_with (at_builtin; refine wpList_append_run rfl _ _ _ rfl _ _ rfl rfl HRUN.out ?_); go_ret; refine ⟨by rw [← HQM.out]; rfl, ?_⟩; rw [← HQM.out, HJ.out]; exact HF.out
theorem PN.from (h : (PN f fn).p S w) : From f fn fun u => ∀ q, S q → u.heap[q]? = w.heap[q]? ∧ w.heap.size ≤ u.heap.size := by
 obtain ⟨cb, bm, AL, nl, cl, W, col, hx⟩ := h; refine ⟨AL, nl, cl, ?_, fun u hu => ?_⟩
 · obtain ⟨_, _, h1, h2, _⟩ := own_form_s hx.lg; injection h1 with _ _ h1; omega
 · have h2 := hx.keep (fun q hq => (hu q hq).1) (hu _ hx.sb.1).2; obtain ⟨_, h3, _, h4, _⟩ := h2.tops; exact ⟨h3, h4, h2.lr⟩
theorem pcopy15_ok (m : Int) {T : Nat → Prop} (h : (PN b n).p S w) (hf : (PN f fn).p T w) (hd : ∀ k, S k → ¬ T k) (hi : NdI k n) (hif : NdI kf fn) :
 Calls Tryz.prog 56 #[.pointer (some ⟨b, 0, none⟩), .pointer (some ⟨f, 0, none⟩), .int .i64 m] w fun e' w' => e' = .returned (.int .i64 (copyNd n fn m).1) ∧ Turn (PN b (copyNd n fn m).2) S w w' :=
 pcopyG_ok m h hi hif _ (PN.from hf) (fun _ hu q hq => ⟨hu.block q ((PN f fn).lt hf q hq), hu.size⟩) (fun _ _ hu q hq => ⟨hu.block q ((PN f fn).lt hf q hq) (fun e => hd q e hq), hu.size⟩)
end
end

/- The landed node does what the laws ask of a node. -/
section
open Go.RowKit
set_option maxRecDepth 100000
end

/- The landed cluster as a thing: a block, a row of pointers, the nodes; has: contract. -/
section
open Go.RowKit
set_option maxRecDepth 100000
structure PUx (b : Nat) (c : Cu) (g cap : Nat) (bs : Nat → Nat) (T S : Nat → Prop) (w : World) : Prop where
 top : w.heap[b]? = some (.cells #[.slice (some ⟨g, 0, none⟩) c.n cap, .int .u64 c.pm.e, .int .i64 c.pm.p, .int .u64 c.pm.c] 86 (0, 0))
 pt : ∀ i, i < c.n → w.cell? ⟨g, i, none⟩ = some (.pointer (some ⟨bs i, 0, none⟩))
 nd : (Many PN c.n bs c.ns).p T w
 sb : S b
 sg : S g
 gb : g ≠ b
 tg : ¬ T g
 tb : ¬ T b
 ts : ∀ k, T k → S k
 lt : ∀ k, S k → k < w.heap.size
theorem PUx.keep {b : Nat} {c : Cu} {g cap : Nat} {bs : Nat → Nat} {T S : Nat → Prop} {w w' : World} (h : PUx b c g cap bs T S w) (hk : ∀ k, S k → w'.heap[k]? = w.heap[k]?) (hz : w.heap.size ≤ w'.heap.size) : PUx b c g cap bs T S w' :=
 { h with
  top := (hk _ h.sb).trans h.top
  pt := fun i hi => (World.cell?_of_block (a := ⟨g, i, none⟩) (hk g h.sg)).trans (h.pt i hi)
  nd := (Many PN c.n bs c.ns).keep h.nd (fun k e => hk k (h.ts k e)) hz
  lt := fun k e => Nat.lt_of_lt_of_le (h.lt k e) hz }
def PU (b : Nat) (c : Cu) : Thing where
 p := fun S w => ∃ g cap bs T, PUx b c g cap bs T S w
 keep := fun ⟨_, _, _, _, h⟩ hk hz => ⟨_, _, _, _, h.keep hk hz⟩
 lt := fun ⟨_, _, _, _, h⟩ => h.lt
section
variable {b : Nat} {c : Cu} {g cap : Nat} {bs : Nat → Nat} {T S : Nat → Prop} {w w' : World} {k : Nat}
theorem PUx.tops (h : PUx b c g cap bs T S w) : w.cell? ⟨b, 0, none⟩ = some (.slice (some ⟨g, 0, none⟩) c.n cap) ∧ w.cell? ⟨b, 1, none⟩ = some (.int .u64 c.pm.e) ∧ w.cell? ⟨b, 2, none⟩ = some (.int .i64 c.pm.p) ∧ w.cell? ⟨b, 3, none⟩ = some (.int .u64 c.pm.c) :=
 ⟨(cellsAt h.top 0 rfl).1, (cellsAt h.top 1 rfl).1, (cellsAt h.top 2 rfl).1, (cellsAt h.top 3 rfl).1⟩
theorem PUx.ptr (h : PUx b c g cap bs T S w) {n : Int} (hn : c.Is n) : w.cell? ⟨g, n.toNat, none⟩ = some (.pointer (some ⟨bs n.toNat, 0, none⟩)) := h.pt _ hn.lt.1
theorem PUx.later (h : PUx b c g cap bs T S w) : ∀ u, Below w.heap.size w u → PUx b c g cap bs T S u := fun _ hu => h.keep (fun k e => hu.block k (h.lt k e)) hu.size
theorem PUx.moved (h : PUx b c g cap bs T S w) {c' : Cu} {ns : Nat → Nd} (hn : c'.n = c.n) (hns : c'.ns = ns) (ht : Turn (Many PN c.n bs ns) T w w') {u : World} (hu : u.heap[b]? = some (.cells #[.slice (some ⟨g, 0, none⟩) c'.n cap, .int .u64 c'.pm.e, .int .i64 c'.pm.p, .int .u64 c'.pm.c] 86 (0, 0))) (ho : Off (fun k => k = b) w' u) : Turn (PU b c') S w u := by
 obtain ⟨⟨T', k1, k2⟩, ko⟩ := ht; subst hns; have hb := h.lt b h.sb; have hg := h.lt g h.sg; have hz := ko.size
 have ntb : ¬ T' b := fun e => by
  rcases k2 _ e with e | e
  · exact h.tb e
  · omega
 refine ⟨⟨fun k => S k ∨ T' k, ⟨g, cap, bs, T', { top := hu, pt := fun i hi => ?_, nd := ?_, sb := .inl h.sb, sg := .inl h.sg, gb := h.gb, tg := fun e => ?_, tb := ntb, ts := fun k e => .inr e, lt := fun k e => ?_ }⟩, fun k e => ?_⟩, (ko.wide h.ts).trans ho fun i hi => .inl (hi ▸ h.sb)⟩
 · rw [hn] at hi; exact (World.cell?_of_block (a := ⟨g, i, none⟩) (ho.block g (Nat.lt_of_lt_of_le hg hz) h.gb)).trans ((World.cell?_of_block (a := ⟨g, i, none⟩) (ko.block g hg h.tg)).trans (h.pt i hi))
 · rw [hn]; exact Thing.off k1 ho fun k e1 e2 => ntb (e2 ▸ e1)
 · rcases k2 _ e with e | e
   · exact h.tg e
   · omega
 · refine Nat.lt_of_lt_of_le ?_ ho.size; rcases e with e | e
   · exact Nat.lt_of_lt_of_le (h.lt k e) hz
   · exact (Many PN c.n bs c'.ns).lt k1 k e
 · rcases e with e | e
   · exact .inl e
   · exact (k2 k e).imp (h.ts k) id
theorem PUx.turn (h : PUx b c g cap bs T S w) {ns : Nat → Nd} (ht : Turn (Many PN c.n bs ns) T w w') : Turn (PU b ⟨c.n, ns, c.pm⟩) S w w' :=
 h.moved (c' := ⟨c.n, ns, c.pm⟩) rfl rfl ht ((ht.off.block b (h.lt b h.sb) h.tb).trans h.top) (Off.refl _ _)
theorem PUx.told (h : PUx b c g cap bs T S w) {ns : Nat → Nd} {A : Option Addr} (ht : Told1 (Many PN c.n bs ns) T A w w') : Told1 (PU b ⟨c.n, ns, c.pm⟩) S A w w' := by
 obtain ⟨⟨T', k1, k2, k4⟩, ko⟩ := ht; have hb := h.lt b h.sb; have hg := h.lt g h.sg; refine ⟨⟨fun k => S k ∨ T' k, ⟨g, cap, bs, T', { top := (ko.block b hb h.tb).trans h.top, pt := fun i hi => (World.cell?_of_block (a := ⟨g, i, none⟩) (ko.block g hg h.tg)).trans (h.pt i hi), nd := k1, sb := .inl h.sb, sg := .inl h.sg, gb := h.gb, tg := fun e => ?_, tb := fun e => ?_, ts := fun k e => .inr e, lt := fun k e => ?_ }⟩, fun k e => ?_, fun ad hA => ⟨(k4 ad hA).1, (k4 ad hA).2.1, fun e => ?_⟩⟩, ko.wide h.ts⟩
 · rcases k2 _ e with e | e
   · exact h.tg e
   · omega
 · rcases k2 _ e with e | e
   · exact h.tb e
   · omega
 · rcases e with e | e
   · exact Nat.lt_of_lt_of_le (h.lt k e) ko.size
   · exact (Many PN c.n bs ns).lt k1 k e
 · rcases e with e | e
   · exact .inl e
   · exact (k2 k e).imp (h.ts k) id
 · rcases e with e | e
   · have := h.lt _ e; have := (k4 ad hA).1; omega
   · exact (k4 ad hA).2.2 e
theorem phas_ok (n : Int) (h : PUx b c g cap bs T S w) :
 Calls Tryz.prog 57 #[.pointer (some ⟨b, 0, none⟩), .int .i64 n] w fun e w' => e = .returned (.bool (decide (c.Is n))) ∧ w = w' := by
 obtain ⟨c0, _⟩ := h.tops; have hd : decide (c.Is n) = (decide (0 ≤ n) && decide (n < c.n)) := by unfold Cu.Is; exact Bool.decide_and _ _
 rw [hd]; clear h hd; by_cases h0 : 0 ≤ n
 · go_enter Tryz.func57, Tryz.ntmps57; go_wp2_with fail; go_ret; exact ⟨by rw [decide_eq_true h0, Bool.true_and]; rfl, rfl⟩
 · have h0' : n < 0 := by omega
   go_enter Tryz.func57, Tryz.ntmps57; go_wp2_with fail; go_ret; exact ⟨by rw [decide_eq_false (by omega : ¬ 0 ≤ n), Bool.false_and]; rfl, rfl⟩
end
end

/- The landed cluster: what is asked of a node, by the function that ask is handed: contracts. -/
section
open Go.RowKit
set_option maxRecDepth 100000
section
variable {b : Nat} {c : Cu} {g cap : Nat} {bs : Nat → Nat} {T S : Nat → Prop} {w w' : World} {k : Nat} {R : Value → World → Prop}
theorem askEp_ok (n : Int) (h : PUx b c g cap bs T S w) (hn : c.Is n) (HQ : Calls Tryz.prog 41 #[.pointer (some ⟨bs n.toNat, 0, none⟩)] w fun e w' => ∃ v, e = .returned v ∧ R v w') :
 Calls Tryz.prog 40 #[.pointer (some ⟨b, 0, none⟩), .int .i64 n, .int .u64 0, .func (.func 41) #[] #[]] w fun e w' => ∃ v, e = .returned v ∧ R v w' := by
 have HIS := hid (phas_ok n h); rw [decide_eq_true hn] at HIS; have hp := h.ptr hn; obtain ⟨c0, _⟩ := h.tops; have hi0 : 0 ≤ n := hn.1; have hi1 : n < (c.n : Int) := hn.2; have HH := hid HQ; clear h HQ; go_enter Tryz.func40, Tryz.ntmps40; go_wp2_with fail; refine HIS.out.mono ?_; rintro e w2 ⟨rfl, rfl⟩; go_wp2_with fail; refine HH.out.mono ?_; rintro e w3 ⟨v, rfl, hr⟩; have HR := hid hr; clear hr; go_wp2_with fail; go_ret; exact ⟨v, rfl, HR.out⟩
theorem askEp_no (n : Int) (h : PUx b c g cap bs T S w) (hn : ¬ c.Is n) :
 Calls Tryz.prog 40 #[.pointer (some ⟨b, 0, none⟩), .int .i64 n, .int .u64 0, .func (.func 41) #[] #[]] w fun e w' => e = .returned (.int .u64 0) ∧ w = w' := by
 have HIS := hid (phas_ok n h); rw [decide_eq_false hn] at HIS; clear h; go_enter Tryz.func40, Tryz.ntmps40; go_wp2_with fail; refine HIS.out.mono ?_; rintro e w2 ⟨rfl, rfl⟩; go_wp2_with fail; go_ret; exact ⟨rfl, rfl⟩
theorem askLag_ok (n : Int) (h : PUx b c g cap bs T S w) (hn : c.Is n) (HQ : Calls Tryz.prog 46 #[.pointer (some ⟨b, 0, none⟩), .pointer (some ⟨bs n.toNat, 0, none⟩)] w fun e w' => ∃ v, e = .returned v ∧ R v w') :
 Calls Tryz.prog 40 #[.pointer (some ⟨b, 0, none⟩), .int .i64 n, .int .u64 0, .func (.func 46) #[.pointer (some ⟨b, 0, none⟩)] #[]] w fun e w' => ∃ v, e = .returned v ∧ R v w' := by
 have HIS := hid (phas_ok n h); rw [decide_eq_true hn] at HIS; have hp := h.ptr hn; obtain ⟨c0, _⟩ := h.tops; have hi0 : 0 ≤ n := hn.1; have hi1 : n < (c.n : Int) := hn.2; have HH := hid HQ; clear h HQ; go_enter Tryz.func40, Tryz.ntmps40; go_wp2_with fail; refine HIS.out.mono ?_; rintro e w2 ⟨rfl, rfl⟩; go_wp2_with fail; refine HH.out.mono ?_; rintro e w3 ⟨v, rfl, hr⟩; have HR := hid hr; clear hr; go_wp2_with fail; go_ret; exact ⟨v, rfl, HR.out⟩
theorem askLag_no (n : Int) (h : PUx b c g cap bs T S w) (hn : ¬ c.Is n) :
 Calls Tryz.prog 40 #[.pointer (some ⟨b, 0, none⟩), .int .i64 n, .int .u64 0, .func (.func 46) #[.pointer (some ⟨b, 0, none⟩)] #[]] w fun e w' => e = .returned (.int .u64 0) ∧ w = w' := by
 have HIS := hid (phas_ok n h); rw [decide_eq_false hn] at HIS; clear h; go_enter Tryz.func40, Tryz.ntmps40; go_wp2_with fail; refine HIS.out.mono ?_; rintro e w2 ⟨rfl, rfl⟩; go_wp2_with fail; go_ret; exact ⟨rfl, rfl⟩
theorem askLd_ok (n : Int) (h : PUx b c g cap bs T S w) (hn : c.Is n) (HQ : Calls Tryz.prog 43 #[.pointer (some ⟨bs n.toNat, 0, none⟩)] w fun e w' => ∃ v, e = .returned v ∧ R v w') :
 Calls Tryz.prog 42 #[.pointer (some ⟨b, 0, none⟩), .int .i64 n, .bool false, .func (.func 43) #[] #[]] w fun e w' => ∃ v, e = .returned v ∧ R v w' := by
 have HIS := hid (phas_ok n h); rw [decide_eq_true hn] at HIS; have hp := h.ptr hn; obtain ⟨c0, _⟩ := h.tops; have hi0 : 0 ≤ n := hn.1; have hi1 : n < (c.n : Int) := hn.2; have HH := hid HQ; clear h HQ; go_enter Tryz.func42, Tryz.ntmps42; go_wp2_with fail; refine HIS.out.mono ?_; rintro e w2 ⟨rfl, rfl⟩; go_wp2_with fail; refine HH.out.mono ?_; rintro e w3 ⟨v, rfl, hr⟩; have HR := hid hr; clear hr; go_wp2_with fail; go_ret; exact ⟨v, rfl, HR.out⟩
theorem askLd_no (n : Int) (h : PUx b c g cap bs T S w) (hn : ¬ c.Is n) :
 Calls Tryz.prog 42 #[.pointer (some ⟨b, 0, none⟩), .int .i64 n, .bool false, .func (.func 43) #[] #[]] w fun e w' => e = .returned (.bool false) ∧ w = w' := by
 have HIS := hid (phas_ok n h); rw [decide_eq_false hn] at HIS; clear h; go_enter Tryz.func42, Tryz.ntmps42; go_wp2_with fail; refine HIS.out.mono ?_; rintro e w2 ⟨rfl, rfl⟩; go_wp2_with fail; go_ret; exact ⟨rfl, rfl⟩
theorem askCl_ok (n : Int) (x : Nat) (h : PUx b c g cap bs T S w) (hn : c.Is n) (HQ : Calls Tryz.prog 59 #[.pointer (some ⟨bs n.toNat, 0, none⟩), .pointer (some ⟨x, 0, none⟩)] w fun e w' => ∃ v, e = .returned v ∧ R v w') :
 Calls Tryz.prog 42 #[.pointer (some ⟨b, 0, none⟩), .int .i64 n, .bool false, .func (.func 59) #[] #[.pointer (some ⟨x, 0, none⟩)]] w fun e w' => ∃ v, e = .returned v ∧ R v w' := by
 have HIS := hid (phas_ok n h); rw [decide_eq_true hn] at HIS; have hp := h.ptr hn; obtain ⟨c0, _⟩ := h.tops; have hi0 : 0 ≤ n := hn.1; have hi1 : n < (c.n : Int) := hn.2; have HH := hid HQ; clear h HQ; go_enter Tryz.func42, Tryz.ntmps42; go_wp2_with fail; refine HIS.out.mono ?_; rintro e w2 ⟨rfl, rfl⟩; go_wp2_with fail; refine HH.out.mono ?_; rintro e w3 ⟨v, rfl, hr⟩; have HR := hid hr; clear hr; go_wp2_with fail; go_ret; exact ⟨v, rfl, HR.out⟩
theorem askCl_no (n : Int) (x : Nat) (h : PUx b c g cap bs T S w) (hn : ¬ c.Is n) :
 Calls Tryz.prog 42 #[.pointer (some ⟨b, 0, none⟩), .int .i64 n, .bool false, .func (.func 59) #[] #[.pointer (some ⟨x, 0, none⟩)]] w fun e w' => e = .returned (.bool false) ∧ w = w' := by
 have HIS := hid (phas_ok n h); rw [decide_eq_false hn] at HIS; clear h; go_enter Tryz.func42, Tryz.ntmps42; go_wp2_with fail; refine HIS.out.mono ?_; rintro e w2 ⟨rfl, rfl⟩; go_wp2_with fail; go_ret; exact ⟨rfl, rfl⟩
theorem askLg_ok (n : Int) (h : PUx b c g cap bs T S w) (hn : c.Is n) (HQ : Calls Tryz.prog 45 #[.pointer (some ⟨bs n.toNat, 0, none⟩)] w fun e w' => ∃ v, e = .returned v ∧ R v w') :
 Calls Tryz.prog 44 #[.pointer (some ⟨b, 0, none⟩), .int .i64 n, .slice none 0 0, .func (.func 45) #[] #[]] w fun e w' => ∃ v, e = .returned v ∧ R v w' := by
 have HIS := hid (phas_ok n h); rw [decide_eq_true hn] at HIS; have hp := h.ptr hn; obtain ⟨c0, _⟩ := h.tops; have hi0 : 0 ≤ n := hn.1; have hi1 : n < (c.n : Int) := hn.2; have HH := hid HQ; clear h HQ; go_enter Tryz.func44, Tryz.ntmps44; go_wp2_with fail; refine HIS.out.mono ?_; rintro e w2 ⟨rfl, rfl⟩; go_wp2_with fail; refine HH.out.mono ?_; rintro e w3 ⟨v, rfl, hr⟩; have HR := hid hr; clear hr; go_wp2_with fail; go_ret; exact ⟨v, rfl, HR.out⟩
theorem askLg_no (n : Int) (h : PUx b c g cap bs T S w) (hn : ¬ c.Is n) :
 Calls Tryz.prog 44 #[.pointer (some ⟨b, 0, none⟩), .int .i64 n, .slice none 0 0, .func (.func 45) #[] #[]] w fun e w' => e = .returned (.slice none 0 0) ∧ w = w' := by
 have HIS := hid (phas_ok n h); rw [decide_eq_false hn] at HIS; clear h; go_enter Tryz.func44, Tryz.ntmps44; go_wp2_with fail; refine HIS.out.mono ?_; rintro e w2 ⟨rfl, rfl⟩; go_wp2_with fail; go_ret; exact ⟨rfl, rfl⟩
theorem askCp_ok (n : Int) (x y : Nat) (h : PUx b c g cap bs T S w) (hn : c.Is n) (HQ : Calls Tryz.prog 55 #[.pointer (some ⟨bs n.toNat, 0, none⟩), .pointer (some ⟨x, 0, none⟩), .pointer (some ⟨y, 0, none⟩)] w fun e w' => ∃ v, e = .returned v ∧ R v w') :
 Calls Tryz.prog 54 #[.pointer (some ⟨b, 0, none⟩), .int .i64 n, .int .i64 0, .func (.func 55) #[] #[.pointer (some ⟨x, 0, none⟩), .pointer (some ⟨y, 0, none⟩)]] w fun e w' => ∃ v, e = .returned v ∧ R v w' := by
 have HIS := hid (phas_ok n h); rw [decide_eq_true hn] at HIS; have hp := h.ptr hn; obtain ⟨c0, _⟩ := h.tops; have hi0 : 0 ≤ n := hn.1; have hi1 : n < (c.n : Int) := hn.2; have HH := hid HQ; clear h HQ; go_enter Tryz.func54, Tryz.ntmps54; go_wp2_with fail; refine HIS.out.mono ?_; rintro e w2 ⟨rfl, rfl⟩; go_wp2_with fail; refine HH.out.mono ?_; rintro e w3 ⟨v, rfl, hr⟩; have HR := hid hr; clear hr; go_wp2_with fail; go_ret; exact ⟨v, rfl, HR.out⟩
theorem askCp_no (n : Int) (x y : Nat) (h : PUx b c g cap bs T S w) (hn : ¬ c.Is n) :
 Calls Tryz.prog 54 #[.pointer (some ⟨b, 0, none⟩), .int .i64 n, .int .i64 0, .func (.func 55) #[] #[.pointer (some ⟨x, 0, none⟩), .pointer (some ⟨y, 0, none⟩)]] w fun e w' => e = .returned (.int .i64 0) ∧ w = w' := by
 have HIS := hid (phas_ok n h); rw [decide_eq_false hn] at HIS; clear h; go_enter Tryz.func54, Tryz.ntmps54; go_wp2_with fail; refine HIS.out.mono ?_; rintro e w2 ⟨rfl, rfl⟩; go_wp2_with fail; go_ret; exact ⟨rfl, rfl⟩
end
end

/- The landed cluster: Nodes, Newest, Epoch, Leads, Log, Close, lag, Lag: contracts. -/
section
open Go.RowKit
set_option maxRecDepth 100000
section
variable {b : Nat} {c : Cu} {g cap : Nat} {bs : Nat → Nat} {T S : Nat → Prop} {w w' : World} {k : Nat} {R : Value → World → Prop}
theorem pnodes16_ok (h : (PU b c).p S w) :
 Calls Tryz.prog 16 #[.pointer (some ⟨b, 0, none⟩)] w fun e w' => e = .returned (.int .i64 c.n) ∧ Below w.heap.size w w' := by
 obtain ⟨g, cap, bs, T, hx⟩ := h; obtain ⟨c0, _⟩ := hx.tops; clear hx; go_enter Tryz.func16, Tryz.ntmps16; go_wp2_with fail; go_ret; exact ⟨rfl, Below.refl _ _⟩
theorem pnewest16_ok (h : (PU b c).p S w) :
 Calls Tryz.prog 15 #[.pointer (some ⟨b, 0, none⟩)] w fun e w' => e = .returned (.agg #[.int .u64 c.pm.e, .int .i64 c.pm.p, .int .u64 c.pm.c]) ∧ Below w.heap.size w w' := by
 obtain ⟨g, cap, bs, T, hx⟩ := h; have hx1 := hx.later _ (kp_new w (.cells #[.int .u64 0, .int .i64 0, .int .u64 0] 45)); obtain ⟨_, c1, c2, c3⟩ := hx1.tops; obtain ⟨_, d1, d2, d3⟩ := hx.tops; clear hx hx1; go_enter Tryz.func15, Tryz.ntmps15; go_wp2_with fail; refine bodyPost_ret (v := .agg #[.int .u64 c.pm.e, .int .i64 c.pm.p, .int .u64 c.pm.c]) ?_ rfl ⟨rfl, ?_⟩
 · rw [results_cell1 rfl]; go_simp
 · exact kp_new _ _
theorem pepoch16_ok (n : Int) (h : (PU b c).p S w) :
 Calls Tryz.prog 17 #[.pointer (some ⟨b, 0, none⟩), .int .i64 n] w fun e w' => e = .returned (.int .u64 (epCu c n)) ∧ Below w.heap.size w w' := by
 obtain ⟨g, cap, bs, T, hx⟩ := h; unfold epCu; by_cases hn : c.Is n
 · rw [if_pos hn]; have HQ := hid (askEp_ok (R := fun v w' => v = .int .u64 (c.at n).ep ∧ Below w.heap.size w w') n hx hn ((Many.ask (Q := fun e _ => e = .returned (.int .u64 (c.at n).ep)) hx.nd hn.lt.1 fun S' hS' => pepoch15_ok hS').mono fun _ _ ⟨he, hb⟩ => ⟨_, he, rfl, hb⟩)); clear hx; go_enter Tryz.func17, Tryz.ntmps17; go_wp2_with fail; refine HQ.out.mono ?_; rintro e w2 ⟨v, rfl, rfl, hb⟩; have HB := hid hb; clear hb; go_wp2_with fail; go_ret; exact ⟨rfl, HB.out⟩
 · rw [if_neg hn]; have HQ := hid (askEp_no n hx hn); clear hx; go_enter Tryz.func17, Tryz.ntmps17; go_wp2_with fail; refine HQ.out.mono ?_; rintro e w2 ⟨rfl, rfl⟩; go_wp2_with fail; go_ret; exact ⟨rfl, Below.refl _ _⟩
theorem pleads16_ok (n : Int) (h : (PU b c).p S w) :
 Calls Tryz.prog 18 #[.pointer (some ⟨b, 0, none⟩), .int .i64 n] w fun e w' => e = .returned (.bool (ldCu c n)) ∧ Below w.heap.size w w' := by
 obtain ⟨g, cap, bs, T, hx⟩ := h; unfold ldCu; by_cases hn : c.Is n
 · rw [if_pos hn]; have HQ := hid (askLd_ok (R := fun v w' => v = .bool (c.at n).ld ∧ Below w.heap.size w w') n hx hn ((Many.ask (Q := fun e _ => e = .returned (.bool (c.at n).ld)) hx.nd hn.lt.1 fun S' hS' => pleads15_ok hS').mono fun _ _ ⟨he, hb⟩ => ⟨_, he, rfl, hb⟩)); clear hx; go_enter Tryz.func18, Tryz.ntmps18; go_wp2_with fail; refine HQ.out.mono ?_; rintro e w2 ⟨v, rfl, rfl, hb⟩; have HB := hid hb; clear hb; go_wp2_with fail; go_ret; exact ⟨rfl, HB.out⟩
 · rw [if_neg hn]; have HQ := hid (askLd_no n hx hn); clear hx; go_enter Tryz.func18, Tryz.ntmps18; go_wp2_with fail; refine HQ.out.mono ?_; rintro e w2 ⟨rfl, rfl⟩; go_wp2_with fail; go_ret; exact ⟨rfl, Below.refl _ _⟩
def ToldL (b : Nat) (c : Cu) (S : Nat → Prop) (l : List Lg) (w : World) (v : Value) (w' : World) : Prop := ∃ A m d, v = .slice A m d ∧ m ≤ d ∧ LR w' A m l ∧ Told1 (PU b c) S A w w'
theorem PUx.log (h : PUx b c g cap bs T S w) (hI : CuI k c) {n : Int} (hn : c.Is n) :
 Calls Tryz.prog 45 #[.pointer (some ⟨bs n.toNat, 0, none⟩)] w fun e w' => ∃ v, e = .returned v ∧ ToldL b c S (c.at n).lg w v w' := by
 refine (Many.told (Q := fun e w' A m d => e = .returned (.slice A m d) ∧ m ≤ d ∧ LR w' A m (c.at n).lg) (x := c.ns n.toNat) h.nd hn.lt.1 fun S' hS' => (plog15_ok hS' (hI.nd _)).mono fun _ _ ⟨A, m, d, h1, h2, h3, h4⟩ => ⟨A, m, d, ⟨h1, h2, h3⟩, h4⟩).mono ?_; rintro e w' ⟨A, m, d, ⟨h1, h2, h3⟩, h4⟩; rw [upd3_self] at h4; exact ⟨_, h1, A, m, d, rfl, h2, h3, h.told h4⟩
theorem plog16_ok (n : Int) (h : (PU b c).p S w) (hI : CuI k c) :
 Calls Tryz.prog 21 #[.pointer (some ⟨b, 0, none⟩), .int .i64 n] w fun e w' => ∃ A m d, e = .returned (.slice A m d) ∧ m ≤ d ∧ LR w' A m (lgCu c n) ∧ Told1 (PU b c) S A w w' := by
 have HT := hid h; obtain ⟨g, cap, bs, T, hx⟩ := h; unfold lgCu; by_cases hn : c.Is n
 · rw [if_pos hn]; have HQ := hid (askLg_ok n hx hn (hx.log hI hn)); clear hx; go_enter Tryz.func21, Tryz.ntmps21; go_wp2_with fail; refine HQ.out.mono ?_; rintro e w2 ⟨v, rfl, A, m, d, rfl, hr⟩; have HR := hid hr; clear hr; go_wp2_with fail; go_ret; exact ⟨A, m, d, rfl, HR.out⟩
 · rw [if_neg hn]; have HQ := hid (askLg_no n hx hn); clear hx; go_enter Tryz.func21, Tryz.ntmps21; go_wp2_with fail; refine HQ.out.mono ?_; rintro e w2 ⟨rfl, rfl⟩; go_wp2_with fail; go_ret; exact ⟨none, 0, 0, rfl, Nat.le_refl _, LR.nil _, (Turn.here HT.out).none⟩
theorem pcls1_ok (a x : Nat) (cn : Int) (h0 : w.cell? ⟨x, 0, none⟩ = some (.int .i64 cn)) (HQ : Calls Tryz.prog 60 #[.pointer (some ⟨a, 0, none⟩), .int .i64 cn] w fun e w' => ∃ v, e = .returned v ∧ R v w') :
 Calls Tryz.prog 59 #[.pointer (some ⟨a, 0, none⟩), .pointer (some ⟨x, 0, none⟩)] w fun e w' => ∃ v, e = .returned v ∧ R v w' := by
 have HH := hid HQ; clear HQ; go_enter Tryz.func59, Tryz.ntmps59; go_wp2_with fail; refine HH.out.mono ?_; rintro e w3 ⟨v, rfl, hr⟩; have HR := hid hr; clear hr; go_wp2_with fail; go_ret; exact ⟨v, rfl, HR.out⟩
theorem pclose16_ok (n cn : Int) (h : (PU b c).p S w) (hI : CuI k c) (hc : I64n cn) :
 Calls Tryz.prog 31 #[.pointer (some ⟨b, 0, none⟩), .int .i64 n, .int .i64 cn] w fun e w' => e = .returned (.bool (clsCu c n cn).1) ∧ Turn (PU b (clsCu c n cn).2) S w w' := by
 have HT := hid h; obtain ⟨g, cap, bs, T, hx⟩ := h; obtain ⟨w1, hw1⟩ : ∃ u, w.alloc (.cells #[.int .i64 cn] 3) = u := ⟨_, rfl⟩; have k1 : Below w.heap.size w w1 := hw1 ▸ kp_new w _; have b1 : w1.cell? ⟨w.heap.size, 0, none⟩ = some (.int .i64 cn) := (cellsAt (hw1 ▸ heap_alloc_new w _ : w1.heap[w.heap.size]? = some (.cells #[.int .i64 cn] 3 (0, 0))) 0 rfl).1; have hx1 := hx.later w1 k1; have HW1 := hid hw1; have HK1 := hid k1; unfold clsCu; by_cases hn : c.Is n
 · rw [if_neg (Decidable.not_not.2 hn)]; have HQ := hid (askCl_ok (R := fun v w' => v = .bool (decide (0 ≤ idxOp cn (c.at n).op)) ∧ Turn (PU b (c.put n (closeNd (c.at n) cn))) S w w') n w.heap.size hx1 hn (pcls1_ok _ _ cn b1 ((Many.op (x := closeNd (c.at n) cn) (Q := fun e _ => e = .returned (.bool (decide (0 ≤ idxOp cn (c.at n).op)))) hx1.nd hn.lt.1 fun S' hS' => pclose15_ok cn hc (hI.nd _).nd hS').mono fun _ _ ⟨he, ht⟩ => ⟨_, he, rfl, (hx1.turn ht).ahead k1⟩))); clear hx hx1 hw1 k1 b1; go_enter Tryz.func31, Tryz.ntmps31; go_wp2_with fail; rw [HW1.out]; refine HQ.out.mono ?_; rintro e w2 ⟨v, rfl, rfl, ht⟩; have HTU := hid ht; clear ht; go_wp2_with fail; go_ret; exact ⟨rfl, HTU.out⟩
 · rw [if_pos hn]; have HQ := hid (askCl_no n w.heap.size hx1 hn); clear hx hx1 hw1 k1 b1; go_enter Tryz.func31, Tryz.ntmps31; go_wp2_with fail; rw [HW1.out]; refine HQ.out.mono ?_; rintro e w2 ⟨rfl, rfl⟩; go_wp2_with fail; go_ret; exact ⟨rfl, Turn.same HT.out HK1.out⟩
theorem pepoch15_at {b : Nat} {n : Nd} {S : Nat → Prop} {w : World} (h : (PN b n).p S w) :
 Calls Tryz.prog 41 #[.pointer (some ⟨b, 0, none⟩)] w fun e w' => e = .returned (.int .u64 n.ep) ∧ w = w' := by
 obtain ⟨cb, bm, AL, nl, cl, W, col, hx⟩ := h; obtain ⟨_, c1, _⟩ := hx.tops; clear hx; go_enter Tryz.func41, Tryz.ntmps41; go_wp2_with fail; go_ret; exact ⟨rfl, rfl⟩
theorem PUx.epoch (h : PUx b c g cap bs T S w) {n : Int} (hn : c.Is n) :
 Calls Tryz.prog 41 #[.pointer (some ⟨bs n.toNat, 0, none⟩)] w fun e w' => e = .returned (.int .u64 (c.at n).ep) ∧ w = w' := by
 obtain ⟨Ss, h1, _⟩ := h.nd; exact pepoch15_at (h1 _ hn.lt.1)
set_option maxHeartbeats 4000000 in
theorem plag1_ok (n : Int) (h : PUx b c g cap bs T S w) (hI : CuI k c) (hn : c.Is n) :
 Calls Tryz.prog 46 #[.pointer (some ⟨b, 0, none⟩), .pointer (some ⟨bs n.toNat, 0, none⟩)] w fun e w' => ∃ v, e = .returned v ∧ v = .int .u64 (lagCu c n) ∧ Turn (PU b c) S w w' := by
 have HE : Hid (∀ q, Calls Tryz.prog 41 #[.pointer (some ⟨bs n.toNat, 0, none⟩)] (w.drewN q) fun e w' => e = .returned (.int .u64 (c.at n).ep) ∧ w' = w.drewN q) := hid fun q => ((h.later _ (kp_drewN w q)).epoch hn).mono fun _ _ ⟨h1, h2⟩ => ⟨h1, h2.symm⟩; have HC : Hid (∀ u, Below w.heap.size w u → u.cell? ⟨b, 1, none⟩ = some (.int .u64 c.pm.e)) := hid fun u hu => (h.later u hu).tops.2.1; have HP : Hid (∀ u, Below w.heap.size w u → (PU b c).p S u) := hid fun u hu => ⟨_, _, _, _, h.later u hu⟩; have HLN : Hid (∀ u, Below w.heap.size w u → Calls Tryz.prog 45 #[.pointer (some ⟨bs n.toNat, 0, none⟩)] u fun e w' => ∃ v, e = .returned v ∧ ToldL b c S (c.at n).lg u v w') := hid fun u hu => (h.later u hu).log hI hn
 have HL : Hid (∀ S' u, (PU b c).p S' u → Calls Tryz.prog 21 #[.pointer (some ⟨b, 0, none⟩), .int .i64 c.pm.p] u fun e w' => ∃ A m d, e = .returned (.slice A m d) ∧ m ≤ d ∧ LR w' A m c.first.lg ∧ Told1 (PU b c) S' A u w') := hid fun S' u hu => by
  have := plog16_ok c.pm.p hu hI; unfold lgCu at this; rw [if_pos hI.is] at this; exact this
 have HC2 : Hid (∀ S' u, (PU b c).p S' u → u.cell? ⟨b, 2, none⟩ = some (.int .i64 c.pm.p)) := hid fun S' u ⟨_, _, _, _, hu⟩ => hu.tops.2.2.1; have hle : (c.at n).ep = c.pm.e → (c.at n).lg.length ≤ c.first.lg.length := fun e => hI.pre_le hn.lt.1 e; have hpl2 : c.first.lg.length ≤ 200 := (hI.nd _).lg; obtain ⟨lv, hlv⟩ : ∃ x, lagCu c n = x := ⟨_, rfl⟩; have HLV := hid hlv; unfold lagCu at hlv; rw [if_neg (Decidable.not_not.2 hn)] at hlv; rw [HLV.out]; clear HLV; obtain ⟨ep, hep⟩ : ∃ x, (c.at n).ep = x := ⟨_, rfl⟩; rw [hep] at HE hle hlv; have c1 := HC.out w (Below.refl _ _); by_cases he : ep = c.pm.e
 · have HLE := hid (hle he); rw [if_neg (fun h => h he)] at hlv; have HVV := hid hlv; have HPL := hid hpl2; rw [he] at HE; clear h hle hlv hep he hpl2; generalize c.pm.e = pe at *; go_enter Tryz.func46, Tryz.ntmps46; go_wp2_with fail; go_quiet (first | (go_at_call 41; exact Calls.quiet_of_same (HE.out _))); have KQ := hid (kp_drewN w nq); obtain ⟨wq, hwq⟩ : ∃ u, w.drewN nq = u := ⟨_, rfl⟩; rw [hwq] at KQ ⊢; clear hwq c1; go_wp2_with fail; refine (HLN.out wq KQ.out).mono ?_; rintro e w3 ⟨v, rfl, A, m, d, rfl, h1, h2, h3⟩; have H2 := hid h2.len; obtain ⟨S3, p3, s3, _⟩ := h3.at_; have c2 := HC2.out S3 w3 p3; have HS3 : Hid (∀ k, S3 k → S k ∨ w.heap.size ≤ k) := hid fun k hk => (s3 k hk).imp id fun e => Nat.le_trans KQ.out.size e; have HO3 := hid ((Off.of S KQ.out).trans h3.off fun _ h => .inl h); have HL3 := hid (HL.out S3 w3 p3); clear h1 h2 h3 p3 s3 HLN HL HC2 HP; go_wp2_with fail; refine HL3.out.mono ?_; rintro e w4 ⟨A4, m4, d4, rfl, h5, h6, h7⟩; have H6 := hid h6.len; have HT4 := hid (Turn.over HS3.out HO3.out h7.turn); have hmm : (m : Int) ≤ m4 ∧ (m4 : Int) ≤ 200 := by have := HLE.out; have := HPL.out; have := H6.out; have := H2.out; omega
   have hw1 : IntKind.i64.wrap ((m4 : Int) - m) = (m4 : Int) - m := by rw [IntKind.wrap_i64]; omega
   have hw2 : IntKind.u64.wrap ((m4 : Int) - m) = (m4 : Int) - m := by rw [IntKind.wrap_u64]; omega
   clear h5 h6 h7 c2 hmm; go_wp2_with fail; go_ret; exact ⟨_, rfl, by rw [← HVV.out, H6.out, H2.out]; rfl, HT4.out⟩
 · have heq : (ep == c.pm.e) = false := by simpa using he
   rw [if_pos he] at hlv; have HVV := hid hlv; have HPL := hid hpl2; clear h hle hlv hep he hpl2; generalize c.pm.e = pe at *; go_enter Tryz.func46, Tryz.ntmps46; go_wp2_with fail; go_quiet (first | (go_at_call 41; exact Calls.quiet_of_same (HE.out _))); have KQ := hid (kp_drewN w nq); obtain ⟨wq, hwq⟩ : ∃ u, w.drewN nq = u := ⟨_, rfl⟩; rw [hwq] at KQ ⊢; clear hwq c1; have HPQ := hid (HP.out wq KQ.out); have c2 := HC2.out S wq HPQ.out; have HL3 := hid (HL.out S wq HPQ.out); clear HLN HL HC2 HP; go_wp2_with fail; refine HL3.out.mono ?_; rintro e w4 ⟨A4, m4, d4, rfl, h5, h6, h7⟩; have H6 := hid h6.len; have HT4 := hid (h7.turn.ahead KQ.out); have hmm : (m4 : Int) ≤ 200 := by have := HPL.out; have := H6.out; omega
   have hw1 : IntKind.i64.wrap (m4 : Int) = (m4 : Int) := by rw [IntKind.wrap_i64]; omega
   have hw2 : IntKind.u64.wrap (m4 : Int) = (m4 : Int) := by rw [IntKind.wrap_u64]; omega
   clear h5 h6 h7 c2 hmm; go_wp2_with fail; go_ret; exact ⟨_, rfl, by rw [← HVV.out, H6.out]; rfl, HT4.out⟩
theorem plag16_ok (n : Int) (h : (PU b c).p S w) (hI : CuI k c) :
 Calls Tryz.prog 22 #[.pointer (some ⟨b, 0, none⟩), .int .i64 n] w fun e w' => e = .returned (.int .u64 (lagCu c n)) ∧ Turn (PU b c) S w w' := by
 have HT := hid h; obtain ⟨g, cap, bs, T, hx⟩ := h; by_cases hn : c.Is n
 · have HQ := hid (askLag_ok n hx hn (plag1_ok n hx hI hn)); generalize lagCu c n = lv at *; clear hx; go_enter Tryz.func22, Tryz.ntmps22; go_wp2_with fail; refine HQ.out.mono ?_; rintro e w2 ⟨v, rfl, rfl, ht⟩; have HTU := hid ht; clear ht; go_wp2_with fail; go_ret; exact ⟨rfl, HTU.out⟩
 · rw [show lagCu c n = 0 from by unfold lagCu; rw [if_pos hn]]; have HQ := hid (askLag_no n hx hn); clear hx; go_enter Tryz.func22, Tryz.ntmps22; go_wp2_with fail; refine HQ.out.mono ?_; rintro e w2 ⟨rfl, rfl⟩; go_wp2_with fail; go_ret; exact ⟨rfl, Turn.here HT.out⟩
end
end

/- The landed cluster: Run: contract. -/
section
open Go.RowKit
set_option maxRecDepth 100000
theorem Told1.pastK {Y : Thing} {S K : Nat → Prop} {A : Option Addr} {w w1 w3 w4 : World} (hb : Below w.heap.size w w1) (hS : ∀ k, S k → k < w.heap.size) (ht : Told1 Y S A w1 w3) (hK : ∀ k, K k → w.heap.size ≤ k ∧ k < w1.heap.size) (ho : Off K w3 w4) : Told1 Y S A w w4 := by
 obtain ⟨⟨S', h1, h2, h3⟩, h4⟩ := ht; have hz := hb.size; refine ⟨⟨S', Thing.off h1 ho fun k e1 e2 => ?_, fun k e => (h2 k e).imp id fun e => by omega, fun ad e => ⟨by have := (h3 ad e).1; omega, Nat.lt_of_lt_of_le (h3 ad e).2.1 ho.size, (h3 ad e).2.2⟩⟩, ((Off.of S hb).trans h4 fun i hi => .inl hi).trans ho fun i hi => .inr (hK i hi).1⟩; have := hK k e2; rcases h2 k e1 with e | e
 · have := hS k e; omega
 · omega
def rpZ : Obj := .cells #[.int .i64 0, .int .u64 0, .int .u64 0, .slice none 0 0] 73 (0, 0)
theorem rp_set (u : World) (q : Nat) (r : Rp) (A : Option Addr) (m d : Nat) : Off (fun k => k = q) u ((((u.setCell ⟨q, 0, none⟩ (.int .i64 r.e)).setCell ⟨q, 1, none⟩ (.int .u64 r.ep)).setCell ⟨q, 2, none⟩ (.int .u64 r.pl)).setCell ⟨q, 3, none⟩ (.slice A m d)) :=
 ((((Off.refl (fun k => k = q) u).setCell (p := ⟨q, 0, none⟩) (.inl rfl) _).setCell (p := ⟨q, 1, none⟩) (.inl rfl) _).setCell (p := ⟨q, 2, none⟩) (.inl rfl) _).setCell (p := ⟨q, 3, none⟩) (.inl rfl) _
def ToldR (Y : Thing) (S : Nat → Prop) (r : Rp) (w : World) (e : Ending) (w' : World) : Prop := ∃ A m d, e = .returned (rpV r A m d) ∧ XR w' A m r.ts ∧ Told1 Y S A w w'
theorem ToldR.past {Y : Thing} {S : Nat → Prop} {r : Rp} {A : Option Addr} {m d q : Nat} {w w1 w3 : World} (hb : Below w.heap.size w w1) (hS : ∀ k, S k → k < w.heap.size) (hq : w.heap.size ≤ q) (h1 : w1.heap[q]? = some rpZ) (hr : XR w3 A m r.ts) (ht : Told1 Y S A w1 w3) :
 ToldR Y S r w (.returned (rpV r A m d)) ((((w3.setCell ⟨q, 0, none⟩ (.int .i64 r.e)).setCell ⟨q, 1, none⟩ (.int .u64 r.ep)).setCell ⟨q, 2, none⟩ (.int .u64 r.pl)).setCell ⟨q, 3, none⟩ (.slice A m d)) := by
 have hql : q < w1.heap.size := (Array.getElem?_eq_some_iff.1 h1).1; have h3 : w3.heap[q]? = some rpZ := (ht.off.block q hql fun e => by have := hS q e; omega).trans h1; exact ⟨A, m, d, rfl, hr.pastT h3 rp0_none (rp_set w3 q r A m d), Told1.pastK (K := fun k => k = q) hb hS ht (fun k e => by omega) (rp_set w3 q r A m d)⟩
section
variable {Y : Thing} {b : Nat} {c : Cu} {g cap : Nat} {bs : Nat → Nat} {T S : Nat → Prop} {w w' : World} {k : Nat}
set_option maxHeartbeats 4000000 in
theorem prun1_ok (a x1 x2 x3 x4 : Nat) (cn e : Int) (rd : Bool) (s : ByteArray) (r : Rp) (hS : ∀ k, S k → k < w.heap.size) (y1 : w.cell? ⟨x1, 0, none⟩ = some (.int .i64 cn)) (y2 : w.cell? ⟨x2, 0, none⟩ = some (.int .u64 e)) (y3 : w.cell? ⟨x3, 0, none⟩ = some (.bool rd)) (y4 : w.cell? ⟨x4, 0, none⟩ = some (.string s))
 (HQ : ∀ u, Below w.heap.size w u → Calls Tryz.prog 53 #[.pointer (some ⟨a, 0, none⟩), .int .i64 cn, .int .u64 e, .bool rd, .string s] u (ToldR Y S r u)) :
 Calls Tryz.prog 52 #[.pointer (some ⟨a, 0, none⟩), .pointer (some ⟨x1, 0, none⟩), .pointer (some ⟨x2, 0, none⟩), .pointer (some ⟨x3, 0, none⟩), .pointer (some ⟨x4, 0, none⟩)] w (ToldR Y S r w) := by
 suffices hall : ∀ R : Ending → World → Prop, (∀ e' w', ToldR Y S r w e' w' → R e' w') → Calls Tryz.prog 52 #[.pointer (some ⟨a, 0, none⟩), .pointer (some ⟨x1, 0, none⟩), .pointer (some ⟨x2, 0, none⟩), .pointer (some ⟨x3, 0, none⟩), .pointer (some ⟨x4, 0, none⟩)] w R from hall _ fun _ _ h => h
 intro R hR; obtain ⟨w1, hw1⟩ : ∃ u, w.alloc (.cells #[.int .i64 0, .int .u64 0, .int .u64 0, .slice none 0 0] 73) = u := ⟨_, rfl⟩; have k1 : Below w.heap.size w w1 := hw1 ▸ kp_new w _; have b1 : w1.heap[w.heap.size]? = some rpZ := by rw [← hw1]; exact heap_alloc_new w _
 have z1 : w1.cell? ⟨x1, 0, none⟩ = some (.int .i64 cn) := (k1.cell (p := ⟨x1, 0, none⟩) (World.block_lt_of_cell? _ _ y1)).trans y1; have z2 : w1.cell? ⟨x2, 0, none⟩ = some (.int .u64 e) := (k1.cell (p := ⟨x2, 0, none⟩) (World.block_lt_of_cell? _ _ y2)).trans y2; have z3 : w1.cell? ⟨x3, 0, none⟩ = some (.bool rd) := (k1.cell (p := ⟨x3, 0, none⟩) (World.block_lt_of_cell? _ _ y3)).trans y3; have z4 : w1.cell? ⟨x4, 0, none⟩ = some (.string s) := (k1.cell (p := ⟨x4, 0, none⟩) (World.block_lt_of_cell? _ _ y4)).trans y4; have HQ1 := hid (HQ w1 k1); have HW1 := hid hw1; have HK1 := hid k1; have HB1 := hid b1; have HS := hid hS; have HR := hid hR; rw [← hw1] at z1 z2 z3 z4; clear hw1 k1 b1 y1 y2 y3 y4 HQ hS hR; go_enter Tryz.func52, Tryz.ntmps52; go_wp2_with fail; rw [HW1.out]; refine HQ1.out.mono ?_; rintro e' w3 ⟨A, m, d, rfl, hr, ht⟩; have hb3 : w3.heap[w.heap.size]? = some rpZ := (ht.off.block _ (Array.getElem?_eq_some_iff.1 HB1.out).1 fun e => by have := HS.out _ e; omega).trans HB1.out; unfold rpZ at hb3; obtain ⟨s0, q0⟩ := cellsAt hb3 0 (v := .int .i64 0) rfl; obtain ⟨s1, q1⟩ := cellsAt hb3 1 (v := .int .u64 0) rfl; obtain ⟨s2, q2⟩ := cellsAt hb3 2 (v := .int .u64 0) rfl; obtain ⟨s3, q3⟩ := cellsAt hb3 3 (v := .slice none 0 0) rfl; have HF := hid (HR.out _ _ (ToldR.past (d := d) HK1.out HS.out (Nat.le_refl _) HB1.out hr ht)); clear hr ht hb3 z1 z2 z3 z4; unfold rpV at HF ⊢; go_wp2_with fail; refine bodyPost_ret (v := .agg #[.int .i64 r.e, .int .u64 r.ep, .int .u64 r.pl, .slice A m d]) ?_ rfl HF.out; rw [results_cell1 rfl]; go_simp
set_option maxHeartbeats 4000000 in
theorem paskr_ok (n cn e : Int) (rd : Bool) (s : ByteArray) (x1 x2 x3 x4 : Nat) (h : PUx b c g cap bs T S w) (hL : Lw w) (hI : CuI k c) (hk : k ≤ 800) (hs : Sm s) (hc : I64n cn) (hn : c.Is n)
 (y1 : w.cell? ⟨x1, 0, none⟩ = some (.int .i64 cn)) (y2 : w.cell? ⟨x2, 0, none⟩ = some (.int .u64 e)) (y3 : w.cell? ⟨x3, 0, none⟩ = some (.bool rd)) (y4 : w.cell? ⟨x4, 0, none⟩ = some (.string s)) :
 Calls Tryz.prog 51 #[.pointer (some ⟨b, 0, none⟩), .int .i64 n, .agg #[.int .i64 6, .int .u64 0, .int .u64 0, .slice none 0 0], .func (.func 52) #[] #[.pointer (some ⟨x1, 0, none⟩), .pointer (some ⟨x2, 0, none⟩), .pointer (some ⟨x3, 0, none⟩), .pointer (some ⟨x4, 0, none⟩)]] w (ToldR (PU b (c.put n (runNd (c.at n) cn e rd s).2)) S (runNd (c.at n) cn e rd s).1 w) := by
 suffices hall : ∀ R : Ending → World → Prop, (∀ e' w', ToldR (PU b (c.put n (runNd (c.at n) cn e rd s).2)) S (runNd (c.at n) cn e rd s).1 w e' w' → R e' w') → Calls Tryz.prog 51 #[.pointer (some ⟨b, 0, none⟩), .int .i64 n, .agg #[.int .i64 6, .int .u64 0, .int .u64 0, .slice none 0 0], .func (.func 52) #[] #[.pointer (some ⟨x1, 0, none⟩), .pointer (some ⟨x2, 0, none⟩), .pointer (some ⟨x3, 0, none⟩), .pointer (some ⟨x4, 0, none⟩)]] w R from hall _ fun _ _ h => h
 intro R hR; obtain ⟨w1, hw1⟩ : ∃ u, (w.alloc (.cells #[.int .i64 6, .int .u64 0, .int .u64 0, .slice none 0 0] 73)).alloc (.cells #[.int .i64 0, .int .u64 0, .int .u64 0, .slice none 0 0] 73) = u := ⟨_, rfl⟩; have k1 : Below w.heap.size w w1 := hw1 ▸ kp_alloc (kp_new w _) _
 have b1 : w1.heap[w.heap.size + 1]? = some rpZ := by
  rw [← hw1]; have := heap_alloc_new (w.alloc (.cells #[.int .i64 6, .int .u64 0, .int .u64 0, .slice none 0 0] 73)) (.cells #[.int .i64 0, .int .u64 0, .int .u64 0, .slice none 0 0] 73); rwa [World.size_alloc] at this
 have z1 : w1.cell? ⟨x1, 0, none⟩ = some (.int .i64 cn) := (k1.cell (p := ⟨x1, 0, none⟩) (World.block_lt_of_cell? _ _ y1)).trans y1; have z2 : w1.cell? ⟨x2, 0, none⟩ = some (.int .u64 e) := (k1.cell (p := ⟨x2, 0, none⟩) (World.block_lt_of_cell? _ _ y2)).trans y2; have z3 : w1.cell? ⟨x3, 0, none⟩ = some (.bool rd) := (k1.cell (p := ⟨x3, 0, none⟩) (World.block_lt_of_cell? _ _ y3)).trans y3; have z4 : w1.cell? ⟨x4, 0, none⟩ = some (.string s) := (k1.cell (p := ⟨x4, 0, none⟩) (World.block_lt_of_cell? _ _ y4)).trans y4; have hx1 := h.later w1 k1; have HIS := hid (phas_ok n hx1); rw [decide_eq_true hn] at HIS; have hp := hx1.ptr hn; obtain ⟨c0, _⟩ := hx1.tops; have hi0 : 0 ≤ n := hn.1; have hi1 : n < (c.n : Int) := hn.2; obtain ⟨Ss, h1, h2, h3⟩ := hx1.nd
 have hq0 := Many.told (Q := fun e' w' A m d => e' = .returned (rpV (runNd (c.at n) cn e rd s).1 A m d) ∧ XR w' A m (runNd (c.at n) cn e rd s).1.ts) (x := (runNd (c.at n) cn e rd s).2) hx1.nd hn.lt.1 fun S' hS' =>
  (prun1_ok (Y := PN (bs n.toNat) (runNd (c.at n) cn e rd s).2) (S := S') (bs n.toNat) x1 x2 x3 x4 cn e rd s (runNd (c.at n) cn e rd s).1 (fun k hk => (PN (bs n.toNat) (c.ns n.toNat)).lt hS' k hk) z1 z2 z3 z4 fun u hu =>
   (prunR15_ok cn e rd s (hL.next (k1.trans (hu.mono k1.size))) (Thing.next hS' hu) (hI.nd _) hk hs hc).mono fun _ _ h => h).mono fun _ _ ⟨A, m, d, e1, e2, e3⟩ => ⟨A, m, d, ⟨e1, e2⟩, e3⟩
 have HQ : Hid (Calls Tryz.prog 52 #[.pointer (some ⟨bs n.toNat, 0, none⟩), .pointer (some ⟨x1, 0, none⟩), .pointer (some ⟨x2, 0, none⟩), .pointer (some ⟨x3, 0, none⟩), .pointer (some ⟨x4, 0, none⟩)] w1 (ToldR (PU b (c.put n (runNd (c.at n) cn e rd s).2)) S (runNd (c.at n) cn e rd s).1 w1)) := hid (hq0.mono fun _ _ ⟨A, m, d, ⟨e1, e2⟩, e3⟩ => ⟨A, m, d, e1, e2, hx1.told e3⟩); clear hq0; generalize runNd (c.at n) cn e rd s = r at HQ hR; have HW1 := hid hw1; have HK1 := hid k1; have HB1 := hid b1; have HS := hid h.lt; have HR := hid hR; clear hw1 k1 b1 y1 y2 y3 y4 z1 z2 z3 z4 h hx1 h1 h2 h3 hR hL; go_enter Tryz.func51, Tryz.ntmps51; go_wp2_with fail; rw [HW1.out]; refine HIS.out.mono ?_; rintro e' w2 ⟨rfl, rfl⟩; go_wp2_with fail; refine HQ.out.mono ?_; rintro e' w3 ⟨A, m, d, rfl, hr, ht⟩; have hb3 : w3.heap[w.heap.size + 1]? = some rpZ := (ht.off.block _ (Array.getElem?_eq_some_iff.1 HB1.out).1 fun e => by have := HS.out _ e; omega).trans HB1.out; unfold rpZ at hb3; obtain ⟨s0, q0⟩ := cellsAt hb3 0 (v := .int .i64 0) rfl; obtain ⟨s1, q1⟩ := cellsAt hb3 1 (v := .int .u64 0) rfl; obtain ⟨s2, q2⟩ := cellsAt hb3 2 (v := .int .u64 0) rfl; obtain ⟨s3, q3⟩ := cellsAt hb3 3 (v := .slice none 0 0) rfl; have HF := hid (HR.out _ _ (ToldR.past (d := d) HK1.out HS.out (Nat.le_succ _) HB1.out hr ht)); clear hr ht hb3 hp c0; unfold rpV at HF ⊢; go_wp2_with fail; refine bodyPost_ret (v := .agg #[.int .i64 r.1.e, .int .u64 r.1.ep, .int .u64 r.1.pl, .slice A m d]) ?_ rfl HF.out; rw [results_cell1 rfl]; go_simp
theorem paskr_no (n : Int) (x1 x2 x3 x4 : Nat) (h : PUx b c g cap bs T S w) (hn : ¬ c.Is n) :
 Calls Tryz.prog 51 #[.pointer (some ⟨b, 0, none⟩), .int .i64 n, .agg #[.int .i64 6, .int .u64 0, .int .u64 0, .slice none 0 0], .func (.func 52) #[] #[.pointer (some ⟨x1, 0, none⟩), .pointer (some ⟨x2, 0, none⟩), .pointer (some ⟨x3, 0, none⟩), .pointer (some ⟨x4, 0, none⟩)]] w fun e' w' => e' = .returned (rpV ⟨6, 0, 0, []⟩ none 0 0) ∧ Below w.heap.size w w' := by
 obtain ⟨w1, hw1⟩ : ∃ u, (w.alloc (.cells #[.int .i64 6, .int .u64 0, .int .u64 0, .slice none 0 0] 73)).alloc (.cells #[.int .i64 0, .int .u64 0, .int .u64 0, .slice none 0 0] 73) = u := ⟨_, rfl⟩; have k1 : Below w.heap.size w w1 := hw1 ▸ kp_alloc (kp_new w _) _
 have b0 : w1.heap[w.heap.size]? = some (.cells #[.int .i64 6, .int .u64 0, .int .u64 0, .slice none 0 0] 73 (0, 0)) := by
  rw [← hw1]; exact (Below.heap_alloc _ _ _ (by simp)).trans (heap_alloc_new w _)
 have b1 : w1.heap[w.heap.size + 1]? = some rpZ := by
  rw [← hw1]; have := heap_alloc_new (w.alloc (.cells #[.int .i64 6, .int .u64 0, .int .u64 0, .slice none 0 0] 73)) (.cells #[.int .i64 0, .int .u64 0, .int .u64 0, .slice none 0 0] 73); rwa [World.size_alloc] at this
 have HIS := hid (phas_ok n (h.later w1 k1)); rw [decide_eq_false hn] at HIS; have HW1 := hid hw1; have HK1 := hid k1; unfold rpZ at b1; obtain ⟨t0, _⟩ := cellsAt b0 0 (v := .int .i64 6) rfl; obtain ⟨t1, _⟩ := cellsAt b0 1 (v := .int .u64 0) rfl; obtain ⟨t2, _⟩ := cellsAt b0 2 (v := .int .u64 0) rfl; obtain ⟨t3, _⟩ := cellsAt b0 3 (v := .slice none 0 0) rfl; obtain ⟨s0, q0⟩ := cellsAt b1 0 (v := .int .i64 0) rfl; obtain ⟨s1, q1⟩ := cellsAt b1 1 (v := .int .u64 0) rfl; obtain ⟨s2, q2⟩ := cellsAt b1 2 (v := .int .u64 0) rfl; obtain ⟨s3, q3⟩ := cellsAt b1 3 (v := .slice none 0 0) rfl; clear hw1 k1 b0 b1 h; go_enter Tryz.func51, Tryz.ntmps51; go_wp2_with fail; rw [HW1.out]; refine HIS.out.mono ?_; rintro e' w2 ⟨rfl, rfl⟩; go_wp2_with fail; refine bodyPost_ret (v := rpV ⟨6, 0, 0, []⟩ none 0 0) ?_ rfl ⟨rfl, ?_⟩
 · rw [results_cell1 rfl]; unfold rpV; go_simp
 · exact (((HK1.out.setCell (Nat.le_succ _) _).setCell (Nat.le_succ _) _).setCell (Nat.le_succ _) _).setCell (Nat.le_succ _) _
theorem alloc_keep {w : World} {q : Nat} {o o' : Obj} (h : w.heap[q]? = some o) : (w.alloc o').heap[q]? = some o := (Below.heap_alloc w o' q (Array.getElem?_eq_some_iff.1 h).1).trans h
theorem alloc_at {w : World} {q : Nat} (h : w.heap.size = q) (cs : Array Value) (t : TypeId) : (w.alloc (.cells cs t)).heap[q]? = some (.cells cs t (0, 0)) := h ▸ heap_alloc_new w _
set_option maxHeartbeats 4000000 in
theorem prun16_ok (n cn e : Int) (rd : Bool) (s : ByteArray) (hL : Lw w) (h : (PU b c).p S w) (hI : CuI k c) (hk : k ≤ 800) (hs : Sm s) (hc : I64n cn) :
 Calls Tryz.prog 27 #[.pointer (some ⟨b, 0, none⟩), .int .i64 n, .int .i64 cn, .int .u64 e, .bool rd, .string s] w (ToldR (PU b (runCu c n cn e rd s).2) S (runCu c n cn e rd s).1 w) := by
 suffices hall : ∀ R : Ending → World → Prop, (∀ e' w', ToldR (PU b (runCu c n cn e rd s).2) S (runCu c n cn e rd s).1 w e' w' → R e' w') → Calls Tryz.prog 27 #[.pointer (some ⟨b, 0, none⟩), .int .i64 n, .int .i64 cn, .int .u64 e, .bool rd, .string s] w R from hall _ fun _ _ h => h
 intro R hR; have HT := hid h; have HS := hid fun k => (PU b c).lt h k; obtain ⟨g, cap, bs, T, hx⟩ := h; obtain ⟨w1, hw1⟩ : ∃ u, ((((w.alloc (.cells #[.int .i64 cn] 3)).alloc (.cells #[.int .u64 e] 32)).alloc (.cells #[.bool rd] 4)).alloc (.cells #[.string s] 9)).alloc (.cells #[.int .i64 0, .int .u64 0, .int .u64 0, .slice none 0 0] 73) = u := ⟨_, rfl⟩; have k1 : Below w.heap.size w w1 := hw1 ▸ kp_alloc (kp_alloc (kp_alloc (kp_alloc (kp_new w _) _) _) _) _; have b0 : w1.heap[w.heap.size]? = some (.cells #[.int .i64 cn] 3 (0, 0)) := hw1 ▸ alloc_keep (alloc_keep (alloc_keep (alloc_keep (alloc_at rfl _ _)))); have b2 : w1.heap[w.heap.size + 1]? = some (.cells #[.int .u64 e] 32 (0, 0)) := hw1 ▸ alloc_keep (alloc_keep (alloc_keep (alloc_at (by simp) _ _))); have b3 : w1.heap[w.heap.size + 1 + 1]? = some (.cells #[.bool rd] 4 (0, 0)) := hw1 ▸ alloc_keep (alloc_keep (alloc_at (by simp) _ _)); have b4 : w1.heap[w.heap.size + 1 + 1 + 1]? = some (.cells #[.string s] 9 (0, 0)) := hw1 ▸ alloc_keep (alloc_at (by simp) _ _); have b1 : w1.heap[w.heap.size + 1 + 1 + 1 + 1]? = some rpZ := hw1 ▸ alloc_at (by simp) _ _; have y1 := (cellsAt b0 0 (v := .int .i64 cn) rfl).1; have y2 := (cellsAt b2 0 (v := .int .u64 e) rfl).1; have y3 := (cellsAt b3 0 (v := .bool rd) rfl).1; have y4 := (cellsAt b4 0 (v := .string s) rfl).1; have hx1 := hx.later w1 k1; have HW1 := hid hw1; have HK1 := hid k1; have HB1 := hid b1; have HR := hid hR; by_cases hn : c.Is n
 · have hr : runCu c n cn e rd s = ((runNd (c.at n) cn e rd s).1, c.put n (runNd (c.at n) cn e rd s).2) := by unfold runCu; rw [if_neg (Decidable.not_not.2 hn)]
   have HQ := hid (paskr_ok n cn e rd s w.heap.size (w.heap.size + 1) (w.heap.size + 1 + 1) (w.heap.size + 1 + 1 + 1) hx1 (hL.next k1) hI hk hs hc hn y1 y2 y3 y4); rw [← show (runCu c n cn e rd s).2 = c.put n (runNd (c.at n) cn e rd s).2 from by rw [hr], ← show (runCu c n cn e rd s).1 = (runNd (c.at n) cn e rd s).1 from by rw [hr]] at HQ; generalize runCu c n cn e rd s = r at HQ HR; clear hw1 k1 b0 b1 b2 b3 b4 y1 y2 y3 y4 hx hx1 hR hL hr HT; go_enter Tryz.func27, Tryz.ntmps27; go_wp2_with fail; rw [HW1.out]; go_wp2_with fail; refine HQ.out.mono ?_; rintro e' w3 ⟨A, m, d, rfl, hr, ht⟩; have hb3 : w3.heap[w.heap.size + 1 + 1 + 1 + 1]? = some rpZ := (ht.off.block _ (Array.getElem?_eq_some_iff.1 HB1.out).1 fun e => by have := HS.out _ e; omega).trans HB1.out; unfold rpZ at hb3; obtain ⟨s0, q0⟩ := cellsAt hb3 0 (v := .int .i64 0) rfl; obtain ⟨s1, q1⟩ := cellsAt hb3 1 (v := .int .u64 0) rfl; obtain ⟨s2, q2⟩ := cellsAt hb3 2 (v := .int .u64 0) rfl; obtain ⟨s3, q3⟩ := cellsAt hb3 3 (v := .slice none 0 0) rfl; have HF := hid (HR.out _ _ (ToldR.past (d := d) HK1.out HS.out (by omega) HB1.out hr ht)); clear hr ht hb3; unfold rpV at HF ⊢; go_wp2_with fail; refine bodyPost_ret (v := .agg #[.int .i64 r.1.e, .int .u64 r.1.ep, .int .u64 r.1.pl, .slice A m d]) ?_ rfl HF.out; rw [results_cell1 rfl]; go_simp
 · have hr : runCu c n cn e rd s = (⟨6, 0, 0, []⟩, c) := by unfold runCu; rw [if_pos hn]
   rw [hr] at HR; have HQ := hid (paskr_no n w.heap.size (w.heap.size + 1) (w.heap.size + 1 + 1) (w.heap.size + 1 + 1 + 1) hx1 hn); clear hw1 k1 b0 b1 b2 b3 b4 y1 y2 y3 y4 hx hx1 hR hL hr; go_enter Tryz.func27, Tryz.ntmps27; go_wp2_with fail; rw [HW1.out]; go_wp2_with fail; refine HQ.out.mono ?_; rintro e' w3 ⟨rfl, k3⟩; have hb3 : w3.heap[w.heap.size + 1 + 1 + 1 + 1]? = some rpZ := (k3.block _ (Array.getElem?_eq_some_iff.1 HB1.out).1).trans HB1.out; unfold rpZ at hb3; obtain ⟨s0, q0⟩ := cellsAt hb3 0 (v := .int .i64 0) rfl; obtain ⟨s1, q1⟩ := cellsAt hb3 1 (v := .int .u64 0) rfl; obtain ⟨s2, q2⟩ := cellsAt hb3 2 (v := .int .u64 0) rfl; obtain ⟨s3, q3⟩ := cellsAt hb3 3 (v := .slice none 0 0) rfl; have HF := hid (HR.out _ _ (ToldR.past (A := none) (m := 0) (d := 0) HK1.out HS.out (by omega) HB1.out (XR.nil w3) (Turn.same (Thing.next HT.out HK1.out) k3).none)); clear k3 hb3; unfold rpV at HF ⊢; go_wp2_with fail; refine bodyPost_ret (v := .agg #[.int .i64 6, .int .u64 0, .int .u64 0, .slice none 0 0]) ?_ rfl HF.out; rw [results_cell1 rfl]; go_simp
end
end
end Go.Proofs.YtdhnpmagapbmhaaGreatDoor
