/-
  Contracts and plain functions that the law stands on, part 14 of 24.
-/
import Derived.Test.YtdhnpmagapbmhaaGreatDoorQD13
import Derived.Deep.AppendSrc
namespace Go.Proofs.YtdhnpmagapbmhaaGreatDoor
/- The document's layer 16: a cluster in memory; Promote, Copy: contracts. -/
section
open Go.RowKit
set_option maxRecDepth 100000
def prV (p : Pr16) : Value := .agg #[.int .u64 p.e, .int .i64 p.p, .int .u64 p.c]
def prO : Obj := .cells #[.int .u64 0, .int .i64 0, .int .u64 0] 39 (0, 0)
theorem results_ct16 {fn : Func} {p u : Tmp} {ty : TypeId} (h : fn.results = #[.cell p ty, .tmp u]) (tmps : Array Value) (P : Program) (w : World) :
 (results fn tmps).run P w =
  ((asAddr (tmps.getD p undef)).run P w).andThen fun a w₁ => ((loadVar ty a).run P w₁).andThen fun v w₂ => .ok (.tuple #[v, tmps.getD u undef]) w₂ := by
 simp only [results, h]; simp [Sem.run_bind, Result.andThen]
section
variable {b : Nat} {c : Cu} {g cap : Nat} {bs : Nat → Nat} {T S : Nat → Prop} {w w' : World} {k : Nat}
theorem RCx.retop (h : RCx b c g cap bs T S w) (p : Pr16) (ht : w'.heap[b]? = some (.cells #[.slice (some ⟨g, 0, none⟩) c.n cap, .int .u64 p.e, .int .i64 p.p, .int .u64 p.c] 49 (0, 0))) (hk : ∀ k, S k → k ≠ b → w'.heap[k]? = w.heap[k]?) (hz : w.heap.size ≤ w'.heap.size) : RCx b ⟨c.n, c.ns, p⟩ g cap bs T S w' :=
 { h with
  top := ht
  pt := fun i hi => (World.cell?_of_block (a := ⟨g, i, none⟩) (hk g h.sg h.gb)).trans (h.pt i hi)
  nd := (Many RN c.n bs c.ns).keep h.nd (fun k e => hk k (h.ts k e) fun e2 => h.tb (e2 ▸ e)) hz
  lt := fun k e => Nat.lt_of_lt_of_le (h.lt k e) hz }
set_option maxHeartbeats 16000000 in
theorem rcpro_ok (n : Int) (h : (RC b c).p S w) (hI : CuI k c) (hk : k ≤ 800) :
 Calls Tryz.prog 38 #[.pointer (some ⟨b, 0, none⟩), .int .i64 n] w fun e w' => e = .returned (.tuple #[prV (proCu c n).1.1, .int .i64 (proCu c n).1.2]) ∧ Turn (RC b (proCu c n).2) S w w' := by
 have HT := hid h; obtain ⟨g, cap, bs, T, hx⟩ := h; obtain ⟨w1, hw1⟩ : ∃ u, w.alloc (.cells #[.int .u64 0, .int .i64 0, .int .u64 0] 39) = u := ⟨_, rfl⟩; have k1 : Below w.heap.size w w1 := hw1 ▸ kp_new w _; have b1 : w1.heap[w.heap.size]? = some prO := by rw [← hw1]; exact heap_alloc_new w _
 have hx1 := hx.later w1 k1; have HIS := hid (rcis_ok n hx1); have HK1 := hid k1; have HW1 := hid hw1; have HB1 := hid b1; have HX1 := hid hx1; have HX := hid hx; by_cases hn : c.Is n
 rotate_left
 · have hr : proCu c n = ((⟨0, 0, 0⟩, 6), c) := by unfold proCu; rw [if_pos hn]
   rw [hr]; rw [decide_eq_false hn] at HIS; unfold prO at b1; obtain ⟨s0, q0⟩ := cellsAt b1 0 (v := .int .u64 0) rfl; obtain ⟨s1, q1⟩ := cellsAt b1 1 (v := .int .i64 0) rfl; obtain ⟨s2, q2⟩ := cellsAt b1 2 (v := .int .u64 0) rfl; clear hr k1 hw1 b1 hx1 hx; go_enter Tryz.func38, Tryz.ntmps38; go_wp2_with fail; rw [HW1.out]; refine HIS.out.mono ?_; rintro e w2 ⟨rfl, rfl⟩; go_wp2_with fail; refine bodyPost_ret (v := .tuple #[prV ⟨0, 0, 0⟩, .int .i64 6]) ?_ rfl ⟨rfl, ?_⟩
   · rw [results_ct16 rfl]; unfold prV; go_simp
   · exact Turn.same HT.out (((HK1.out.setCell (Nat.le_refl _) _).setCell (Nat.le_refl _) _).setCell (Nat.le_refl _) _)
 rw [decide_eq_true hn] at HIS; have hi0 : 0 ≤ n := hn.1; have hi1 : n < (c.n : Int) := hn.2; by_cases hp : n = c.pm.p
 · have hr : proCu c n = ((⟨0, 0, 0⟩, 7), c) := by unfold proCu; rw [if_neg (Decidable.not_not.2 hn), if_pos hp]
   rw [hr]; unfold prO at b1; obtain ⟨s0, q0⟩ := cellsAt b1 0 (v := .int .u64 0) rfl; obtain ⟨s1, q1⟩ := cellsAt b1 1 (v := .int .i64 0) rfl; obtain ⟨s2, q2⟩ := cellsAt b1 2 (v := .int .u64 0) rfl; obtain ⟨_, _, c2, _⟩ := hx1.tops; rw [← hp] at c2; clear hr k1 hw1 b1 hx1 hx hp; go_enter Tryz.func38, Tryz.ntmps38; go_wp2_with fail; rw [HW1.out]; refine HIS.out.mono ?_; rintro e w2 ⟨rfl, rfl⟩; go_wp2_with fail; refine bodyPost_ret (v := .tuple #[prV ⟨0, 0, 0⟩, .int .i64 7]) ?_ rfl ⟨rfl, ?_⟩
   · rw [results_ct16 rfl]; unfold prV; go_simp
   · exact Turn.same HT.out (((HK1.out.setCell (Nat.le_refl _) _).setCell (Nat.le_refl _) _).setCell (Nat.le_refl _) _)
 have hr : proCu c n = ((nextPm c n, 0), ⟨c.n, upd3 c.ns n.toNat (leadNd (c.at n) (c.pm.e + 1)), nextPm c n⟩) := by unfold proCu; rw [if_neg (Decidable.not_not.2 hn), if_neg hp]
 rw [hr]; obtain ⟨AL, nl, cl, hnl, hlog⟩ := hx1.log hn.lt.1; obtain ⟨PL, pl, cp, hpl, hplog⟩ := hx1.log hI.is.lt.1
 have HC : Hid (∀ u, Below w1.heap.size w1 u → (u.cell? ⟨b, 0, none⟩ = some (.slice (some ⟨g, 0, none⟩) c.n cap) ∧ u.cell? ⟨b, 1, none⟩ = some (.int .u64 c.pm.e) ∧ u.cell? ⟨b, 2, none⟩ = some (.int .i64 c.pm.p)) ∧ u.cell? ⟨g, n.toNat, none⟩ = some (.pointer (some ⟨bs n.toNat, 0, none⟩)) ∧ u.cell? ⟨g, c.pm.p.toNat, none⟩ = some (.pointer (some ⟨bs c.pm.p.toNat, 0, none⟩)) ∧
  u.cell? ⟨bs n.toNat, 2, none⟩ = some (.slice AL nl cl) ∧ u.cell? ⟨bs c.pm.p.toNat, 2, none⟩ = some (.slice PL pl cp) ∧ LR u AL nl (c.at n).lg ∧ LR u PL pl c.first.lg) := hid fun u hu => by
  have h1 := hx1.later u hu; obtain ⟨t0, t1, t2, _⟩ := h1.tops; exact ⟨⟨t0, t1, t2⟩, h1.ptr hn, h1.ptr hI.is, (hlog u hu).2.1, (hplog u hu).2.1, (hlog u hu).2.2, (hplog u hu).2.2⟩
 have hp0 : 0 ≤ c.pm.p := hI.is.1; have hp1 : c.pm.p < (c.n : Int) := hI.is.2; have hnp : (n == c.pm.p) = false := by simpa using hp
 have hnl' : (c.at n).lg.length = nl := hnl; have hpl' : c.first.lg.length = pl := hpl; have hnl2 : nl ≤ 200 := by rw [← hnl]; exact (hI.nd _).lg
 have hpl2 : pl ≤ 200 := by rw [← hpl]; exact (hI.nd _).lg
 have HNL := hid hnl'; have HPL := hid hpl'; have hee : IntKind.u64.wrap (c.pm.e + 1) = c.pm.e + 1 := by have := hI.e1; have := hI.ek; rw [IntKind.wrap_u64]; omega
 have HLE : Hid ((c.at n).ep ≤ c.pm.e + 1) := hid (by have := hI.ep _ hn.lt.1; show (c.ns n.toNat).ep ≤ _; omega); obtain ⟨⟨a0, a1, a2⟩, a3, a4, a5, a6, _⟩ := HC.out w1 (Below.refl _ _); have HNT := hid hn.lt.1; obtain ⟨kc, hkc⟩ : ∃ x, sameLg (c.at n).lg c.first.lg = x := ⟨_, rfl⟩; have HKC := hid hkc; have hnx : nextPm c n = ⟨c.pm.e + 1, n, kc⟩ := by unfold nextPm; rw [hkc]
 rw [hnx]; clear hr k1 hw1 b1 hx1 hx hlog hplog hnl hpl hnl' hpl' hp hkc hnx; have HCN := hid (rfl : c.first = c.first); obtain ⟨pp, hpp⟩ : ∃ x, c.pm.p = x := ⟨_, rfl⟩; obtain ⟨ee, hpe⟩ : ∃ x, c.pm.e = x := ⟨_, rfl⟩; rw [hpp] at a2 a4 a6 hp0 hp1 hnp HC; rw [hpe] at a1 hee HLE HC ⊢; have HPP := hid hpp; have HPE := hid hpe; clear hpp hpe; go_enter Tryz.func38, Tryz.ntmps38; go_wp2_with fail; rw [HW1.out]; refine HIS.out.mono ?_; rintro e w2 ⟨rfl, rfl⟩; go_wp2_with fail; go_quiet (fail); have KQ := hid (kp_drewN w1 nq); obtain ⟨wq, hwq⟩ : ∃ u, w1.drewN nq = u := ⟨_, rfl⟩; rw [hwq] at KQ ⊢; clear hwq a0 a1 a2 a3 a4 a5 a6; go_wp2_with fail
 go_loopw [8] (fun i wr => ∃ q : Nat, q ≤ kc ∧ i = .int .i64 q ∧ Hid (Below w1.heap.size w1 wr)) (fun i _ => nl - (intOf i).toNat)
 case atStart => exact ⟨0, Nat.zero_le _, rfl, KQ⟩
 case round =>
  obtain ⟨q, hq, rfl, hw⟩ := hrel; clear KQ; obtain ⟨⟨a0, a1, a2⟩, a3, a4, a5, a6, hla, hlb⟩ := HC.out wr hw.out; have hsl := sameLg_le (c.at n).lg c.first.lg; rw [HKC.out, HNL.out, HPL.out] at hsl; obtain ⟨hs1, hs2⟩ := hsl; have g5 : (0 : Int) ≤ (q : Int) := by omega
  by_cases hin : q < kc
  · have g1 : decide ((q : Int) < (nl : Int)) = true := decide_eq_true (by omega); have g2 : decide ((q : Int) < (pl : Int)) = true := decide_eq_true (by omega); have g3 : (q : Int) < (nl : Int) := by omega
    have g4 : (q : Int) < (pl : Int) := by omega
    have hql : q < (c.at n).lg.length := by rw [HNL.out]; omega
    have hql2 : q < c.first.lg.length := by rw [HPL.out]; omega
    obtain ⟨ad, hA, _, hc⟩ := hla.at_ hql; subst hA; obtain ⟨ad', hA', _, hc'⟩ := hlb.at_ hql2; subst hA'; obtain ⟨d0, d1⟩ := hc _ (Below.refl _ _); obtain ⟨e0, e1⟩ := hc' _ (Below.refl _ _); have hE := fun u => eql_ents 100 rfl (c.at n).lg[q].e c.first.lg[q].e (c.at n).lg[q].t c.first.lg[q].t u; have hd : decide ((⟨(c.at n).lg[q].e, (c.at n).lg[q].t⟩ : Lg) = ⟨c.first.lg[q].e, c.first.lg[q].t⟩) = true := decide_eq_true (sameLg_at _ _ q hql hql2 (by rw [HKC.out]; exact hin)); rw [hd] at hE; clear hd hc hc' hla hlb hs1 hs2; generalize (c.at n).lg[q].e = x at *; generalize c.first.lg[q].e = x' at *; generalize (c.at n).lg[q].t = s at *; generalize c.first.lg[q].t = s' at *; go_wp2_with fail; go_quiet (fail); have K2 := hid (hw.out.trans ((kp_drewN wr nq).mono hw.out.size)); obtain ⟨wz, hwz⟩ : ∃ u, wr.drewN nq = u := ⟨_, rfl⟩; rw [hwz] at K2 ⊢; clear hwz a0 a1 a2 a3 a4 a5 a6 d0 d1 e0 e1 hw; go_wp2_with fail; go_roundw
    case rel => exact ⟨q + 1, by omega, by go_num, K2⟩
    case measure => simp [intOf]; omega
  · obtain rfl : q = kc := by omega
    have hwc : IntKind.u64.wrap (q : Int) = (q : Int) := by rw [IntKind.wrap_u64]; omega
    rcases (show (q < nl ∧ q < pl) ∨ (q < nl ∧ ¬ q < pl) ∨ ¬ q < nl by omega) with ⟨h1, h2⟩ | ⟨h1, h2⟩ | h1
    focus
     have hql : q < (c.at n).lg.length := by rw [HNL.out]; omega
     have hql2 : q < c.first.lg.length := by rw [HPL.out]; omega
     obtain ⟨ad, hA, _, hc⟩ := hla.at_ hql; subst hA; obtain ⟨ad', hA', _, hc'⟩ := hlb.at_ hql2; subst hA'; obtain ⟨d0, d1⟩ := hc _ (Below.refl _ _); obtain ⟨e0, e1⟩ := hc' _ (Below.refl _ _); have g1 : decide ((q : Int) < (nl : Int)) = true := decide_eq_true (by omega); have g2 : decide ((q : Int) < (pl : Int)) = true := decide_eq_true (by omega); have g3 : (q : Int) < (nl : Int) := by omega
     have g4 : (q : Int) < (pl : Int) := by omega
     have hE := fun u => eql_ents 100 rfl (c.at n).lg[q].e c.first.lg[q].e (c.at n).lg[q].t c.first.lg[q].t u
     have hd : decide ((⟨(c.at n).lg[q].e, (c.at n).lg[q].t⟩ : Lg) = ⟨c.first.lg[q].e, c.first.lg[q].t⟩) = false := decide_eq_false fun e => by
      have h1 := sameLg_ne (c.at n).lg c.first.lg (by rw [HKC.out]; exact hql) (by rw [HKC.out]; exact hql2); simp only [HKC.out] at h1; exact h1 e
     rw [hd] at hE; clear hd hc hc' hla hlb hs1 hs2; generalize (c.at n).lg[q].e = x at *; generalize c.first.lg[q].e = x' at *; generalize (c.at n).lg[q].t = s at *; generalize c.first.lg[q].t = s' at *; go_wp2_with fail; go_quiet (fail); have K2 := hid (hw.out.trans ((kp_drewN wr nq).mono hw.out.size)); obtain ⟨wz, hwz⟩ : ∃ u, wr.drewN nq = u := ⟨_, rfl⟩; rw [hwz] at K2 ⊢; clear hwz a0 a1 a2 a3 a4 a5 a6 d0 d1 e0 e1 hw hE g1 g2 g3 g4 hql hql2
    rotate_left
    focus
     have g1 : decide ((q : Int) < (nl : Int)) = true := decide_eq_true (by omega); have g2 : decide ((q : Int) < (pl : Int)) = false := decide_eq_false (by omega); have g3 : (q : Int) < (nl : Int) := by omega
     have g4 : ¬ (q : Int) < (pl : Int) := by omega
     clear hla hlb; go_wp2_with fail; go_quiet (fail); have K2 := hid (hw.out.trans ((kp_drewN wr nq).mono hw.out.size)); obtain ⟨wz, hwz⟩ : ∃ u, wr.drewN nq = u := ⟨_, rfl⟩; rw [hwz] at K2 ⊢; clear hwz a0 a1 a2 a3 a4 a5 a6 hw g1 g2 g3 g4 hs1 hs2
    rotate_left
    focus
     have g1 : decide ((q : Int) < (nl : Int)) = false := decide_eq_false (by omega); have g3 : ¬ (q : Int) < (nl : Int) := by omega
     clear hla hlb; go_wp2_with fail; go_quiet (fail); have K2 := hid (hw.out.trans ((kp_drewN wr nq).mono hw.out.size)); obtain ⟨wz, hwz⟩ : ∃ u, wr.drewN nq = u := ⟨_, rfl⟩; rw [hwz] at K2 ⊢; clear hwz a0 a1 a2 a3 a4 a5 a6 hw g1 g3 hs1 hs2
    rotate_left
    all_goals
     obtain ⟨⟨a0, a1, a2⟩, a3, a4, a5, a6, _⟩ := HC.out wz K2.out; have hxz := HX1.out.later wz K2.out; have f1 := (cellsAt hxz.top 1 (v := .int .u64 c.pm.e) rfl).2; have f2 := (cellsAt hxz.top 2 (v := .int .i64 c.pm.p) rfl).2; obtain ⟨f3a, f3⟩ := cellsAt hxz.top 3 (v := .int .u64 c.pm.c) rfl; have HXZ := hid hxz; clear hxz; go_wp2_with fail; obtain ⟨wx, hwx⟩ : ∃ u, ((wz.setCell ⟨b, 1, none⟩ (.int .u64 (ee + 1))).setCell ⟨b, 2, none⟩ (.int .i64 n)).setCell ⟨b, 3, none⟩ (.int .u64 q) = u := ⟨_, rfl⟩
     have htx : wx.heap[b]? = some (.cells #[.slice (some ⟨g, 0, none⟩) c.n cap, .int .u64 (ee + 1), .int .i64 n, .int .u64 q] 49 (0, 0)) := by
      rw [← hwx]; exact heap_setCell_same _ b 3 _ _ _ (heap_setCell_same _ b 2 _ _ _ (heap_setCell_same wz b 1 _ _ _ HXZ.out.top))
     have hox : Off (fun k => k = b) wz wx := hwx ▸ (((Off.refl (fun k => k = b) wz).setCell (p := ⟨b, 1, none⟩) (.inl rfl) _).setCell (p := ⟨b, 2, none⟩) (.inl rfl) _).setCell (p := ⟨b, 3, none⟩) (.inl rfl) _; have hxx : RCx b ⟨c.n, c.ns, ⟨ee + 1, n, q⟩⟩ g cap bs T S wx := HXZ.out.retop ⟨ee + 1, n, q⟩ htx (fun k hk hne => hox.block k (HXZ.out.lt k hk) hne) hox.size; have hrb : wx.heap[w.heap.size]? = some prO := (hox.block _ (by have := (Array.getElem?_eq_some_iff.1 HB1.out).1; have := K2.out.size; omega) fun e => by have := HX.out.lt b HX.out.sb; omega).trans ((K2.out.block _ (Array.getElem?_eq_some_iff.1 HB1.out).1).trans HB1.out)
     have HC2 : Hid (∀ u, Below wx.heap.size wx u → u.cell? ⟨b, 0, none⟩ = some (.slice (some ⟨g, 0, none⟩) c.n cap) ∧ u.cell? ⟨b, 1, none⟩ = some (.int .u64 (ee + 1)) ∧ u.cell? ⟨g, n.toNat, none⟩ = some (.pointer (some ⟨bs n.toNat, 0, none⟩))) := hid fun u hu => by
      have h1 := hxx.later u hu; obtain ⟨t0, t1, _⟩ := h1.tops; exact ⟨t0, t1, h1.ptr (c := ⟨c.n, c.ns, ⟨ee + 1, n, q⟩⟩) ⟨hi0, hi1⟩⟩
     obtain ⟨FN, hFN⟩ : ∃ F : World → Prop, ∀ z, F z ↔ Turn (Many RN c.n bs (upd3 c.ns n.toNat (leadNd (c.at n) (ee + 1)))) T wx z := ⟨_, fun _ => Iff.rfl⟩
     have HCALL : Hid (∀ u, Below wx.heap.size wx u → Calls Tryz.prog 35 #[.pointer (some ⟨bs n.toNat, 0, none⟩), .int .u64 (ee + 1)] u fun e w' => e = .returned (.bool true) ∧ FN w') := hid fun u hu => by
      have hd : decide ((c.at n).ep ≤ ee + 1) = true := decide_eq_true HLE.out; refine (Many.op (x := leadNd (c.at n) (ee + 1)) (hxx.later u hu).nd HNT.out fun S' hS' => rlead15_ok (ee + 1) hS').mono fun e z ⟨he, ht⟩ => ⟨he.trans (by rw [hd]), (hFN z).2 (ht.ahead hu)⟩
     have HFN := hid hFN; have HKR : Hid (∀ (i : Nat) (u : World), Kp2 12 99 i u u) := hid (Kp2.refl _ _); have HXX := hid hxx; have HRB := hid hrb; have HOX := hid hox; rw [hwx]; clear hwx htx hox hxx hrb hFN a0 a1 a2 a3 a4 a5 a6 f1 f2 f3a f3; refine wp_region_specs6 (S := SL6 12 wx FN) (Kp := Kp2 12 99) (Sp := [(82, Stl.eq (.pointer (some ⟨b, 0, none⟩))), (83, Stl.eq (.pointer (some ⟨b, 0, none⟩))), (84, Stl.eq (.pointer (some ⟨b, 0, none⟩))), (85, Stl.eq (.slice (some ⟨g, 0, none⟩) c.n cap)), (86, Stl.eq (.int .i64 n)), (87, Stl.eq (.pointer (some ⟨g, n.toNat, none⟩))), (88, Stl.eq (.pointer (some ⟨bs n.toNat, 0, none⟩))), (89, Stl.eq (.pointer (some ⟨b, 0, none⟩))), (90, Stl.eq (.pointer (some ⟨b, 0, none⟩))), (91, Stl.eq (.pointer (some ⟨b, 1, none⟩))), (92, Stl.eq (.pointer (some ⟨b, 1, none⟩))), (93, Stl.eq (.int .u64 (ee + 1))), (94, Stl.eq (.bool true))]) (by kernel_rfl) (by kernel_rfl) (SL6.of rfl (kp_drewN _ 1)) ?_ ?_
     · refine .cons ?_ ?_
       · intro L a u hL hst hS hdep hq hno; refine .inl ⟨trivial, ?_⟩; have g0 := gd (v := .pointer (some ⟨b, 0, none⟩)) (hst.out 0 (by kernel_rfl)); go_simp; exact Went6.same (HKR.out _ _) hS rfl
       refine .cons ?_ ?_
       · intro L a u hL hst hS hdep hq hno; refine .inl ⟨trivial, ?_⟩; have g82 := gd (hdep 82); go_simp; exact Went6.same (HKR.out _ _) hS rfl
       refine .cons ?_ ?_
       · intro L a u hL hst hS hdep hq hno; refine .inl ⟨trivial, ?_⟩; have g83 := gd (hdep 83); go_simp; exact Went6.same (HKR.out _ _) hS rfl
       refine .cons ?_ ?_
       · intro L a u hL hst hS hdep hq hno; refine .inl ⟨trivial, ?_⟩; have g84 := gd (hdep 84); have h9 : L 12 = false := hno 12 12; have hB : Below wx.heap.size wx u := SL6.ahead hS h9; have yy := (HC2.out u hB).1; go_simp; exact Went6.same (HKR.out _ _) hS rfl
       refine .cons ?_ ?_
       · intro L a u hL hst hS hdep hq hno; refine .inl ⟨trivial, ?_⟩; have g1 := gd (v := .int .i64 n) (hst.out 1 (by kernel_rfl)); go_simp; exact Went6.same (HKR.out _ _) hS rfl
       refine .cons ?_ ?_
       · intro L a u hL hst hS hdep hq hno; refine .inl ⟨trivial, ?_⟩; have g85 := gd (hdep 85); have g86 := gd (hdep 86); go_simp; exact Went6.same (HKR.out _ _) hS rfl
       refine .cons ?_ ?_
       · intro L a u hL hst hS hdep hq hno; refine .inl ⟨trivial, ?_⟩; have g87 := gd (hdep 87); have h9 : L 12 = false := hno 12 12; have hB : Below wx.heap.size wx u := SL6.ahead hS h9; have yy := (HC2.out u hB).2.2; go_simp; exact Went6.same (HKR.out _ _) hS rfl
       refine .cons ?_ ?_
       · intro L a u hL hst hS hdep hq hno; refine .inl ⟨trivial, ?_⟩; have g0 := gd (v := .pointer (some ⟨b, 0, none⟩)) (hst.out 0 (by kernel_rfl)); go_simp; exact Went6.same (HKR.out _ _) hS rfl
       refine .cons ?_ ?_
       · intro L a u hL hst hS hdep hq hno; refine .inl ⟨trivial, ?_⟩; have g89 := gd (hdep 89); go_simp; exact Went6.same (HKR.out _ _) hS rfl
       refine .cons ?_ ?_
       · intro L a u hL hst hS hdep hq hno; refine .inl ⟨trivial, ?_⟩; have g90 := gd (hdep 90); go_simp; exact Went6.same (HKR.out _ _) hS rfl
       refine .cons ?_ ?_
       · intro L a u hL hst hS hdep hq hno; refine .inl ⟨trivial, ?_⟩; have g91 := gd (hdep 91); go_simp; exact Went6.same (HKR.out _ _) hS rfl
       refine .cons ?_ ?_
       · intro L a u hL hst hS hdep hq hno; refine .inl ⟨trivial, ?_⟩; have g92 := gd (hdep 92); have h9 : L 12 = false := hno 12 12; have hB : Below wx.heap.size wx u := SL6.ahead hS h9; have yy := (HC2.out u hB).2.1; go_simp; exact Went6.same (HKR.out _ _) hS rfl
       refine .cons ?_ ?_
       · intro L a u hL hst hS hdep hq hno; refine .inl ⟨trivial, ?_⟩; have g88 := gd (hdep 88); have g93 := gd (hdep 93); go_simp; refine (HCALL.out u (SL6.ahead hS hL)).mono ?_; rintro e' u' ⟨rfl, ht'⟩; exact Went6.next (SL6.last done_same ht') (fun h _ => absurd rfl h) rfl
       exact EachOp.nil
     · intro L a u hLs hst hS hdep; have h82 : a.tmps.getD 82 undef = .pointer (some ⟨b, 0, none⟩) := hdep 82; have h83 : a.tmps.getD 83 undef = .pointer (some ⟨b, 0, none⟩) := hdep 83; have h84 : a.tmps.getD 84 undef = .pointer (some ⟨b, 0, none⟩) := hdep 84; have h85 : a.tmps.getD 85 undef = .slice (some ⟨g, 0, none⟩) c.n cap := hdep 85; have h86 : a.tmps.getD 86 undef = .int .i64 n := hdep 86; have h87 : a.tmps.getD 87 undef = .pointer (some ⟨g, n.toNat, none⟩) := hdep 87; have h88 : a.tmps.getD 88 undef = .pointer (some ⟨bs n.toNat, 0, none⟩) := hdep 88; have h89 : a.tmps.getD 89 undef = .pointer (some ⟨b, 0, none⟩) := hdep 89; have h90 : a.tmps.getD 90 undef = .pointer (some ⟨b, 0, none⟩) := hdep 90; have h91 : a.tmps.getD 91 undef = .pointer (some ⟨b, 1, none⟩) := hdep 91; have h92 : a.tmps.getD 92 undef = .pointer (some ⟨b, 1, none⟩) := hdep 92; have h93 : a.tmps.getD 93 undef = .int .u64 (ee + 1) := hdep 93; have h94 : a.tmps.getD 94 undef = .bool true := hdep 94; have hfr := hst.frame [(82, .pointer (some ⟨b, 0, none⟩)), (83, .pointer (some ⟨b, 0, none⟩)), (84, .pointer (some ⟨b, 0, none⟩)), (85, .slice (some ⟨g, 0, none⟩) c.n cap), (86, .int .i64 n), (87, .pointer (some ⟨g, n.toNat, none⟩)), (88, .pointer (some ⟨bs n.toNat, 0, none⟩)), (89, .pointer (some ⟨b, 0, none⟩)), (90, .pointer (some ⟨b, 0, none⟩)), (91, .pointer (some ⟨b, 1, none⟩)), (92, .pointer (some ⟨b, 1, none⟩)), (93, .int .u64 (ee + 1)), (94, .bool true)] (by kernel_rfl) ⟨h82, h83, h84, h85, h86, h87, h88, h89, h90, h91, h92, h93, h94, trivial⟩; clear hst hdep h82 h83 h84 h85 h86 h87 h88 h89 h90 h91 h92 h93 h94; subst hfr; simp only [List.foldl_cons, List.foldl_nil, List.setIfInBounds_toArray, List.set_cons_zero, List.set_cons_succ]; have ht := (HFN.out u).1 (SL6.done hS (hLs 12 (by kernel_rfl))); clear hS hLs; have hb3 : u.heap[b]? = some (.cells #[.slice (some ⟨g, 0, none⟩) c.n cap, .int .u64 (ee + 1), .int .i64 n, .int .u64 q] 49 (0, 0)) := (ht.off.block _ (HXX.out.lt b HXX.out.sb) HXX.out.tb).trans HXX.out.top; have hr3 : u.heap[w.heap.size]? = some prO := (ht.off.block _ (Array.getElem?_eq_some_iff.1 HRB.out).1 fun e => by have := HX.out.lt _ (HX1.out.ts _ e); omega).trans HRB.out; have HTU := hid (HXX.out.turn ht); obtain ⟨t1, _⟩ := cellsAt hb3 1 (v := .int .u64 (ee + 1)) rfl; obtain ⟨t2, _⟩ := cellsAt hb3 2 (v := .int .i64 n) rfl; obtain ⟨t3, _⟩ := cellsAt hb3 3 (v := .int .u64 q) rfl; unfold prO at hr3; obtain ⟨s0, q0⟩ := cellsAt hr3 0 (v := .int .u64 0) rfl; obtain ⟨s1, q1⟩ := cellsAt hr3 1 (v := .int .i64 0) rfl; obtain ⟨s2, q2⟩ := cellsAt hr3 2 (v := .int .u64 0) rfl; clear ht hb3 hr3; go_wp2_with fail; refine bodyPost_ret (v := .tuple #[prV ⟨ee + 1, n, q⟩, .int .i64 0]) ?_ rfl ⟨rfl, ?_⟩
       · rw [results_ct16 rfl]; unfold prV; go_simp
       · have hsz : w.heap.size < w1.heap.size := (Array.getElem?_eq_some_iff.1 HB1.out).1; have hof : Off S w wx := (Off.of S (HK1.out.trans (K2.out.mono HK1.out.size))).trans HOX.out fun i hi => .inl (by rw [hi]; exact HX.out.sb); have hwx : w.heap.size < wx.heap.size := (Array.getElem?_eq_some_iff.1 HRB.out).1; exact Turn.pastO (K := fun k => k = w.heap.size) hof HX.out.lt HTU.out (fun k e => by omega) ((((Off.refl (fun k => k = w.heap.size) u).setCell (p := ⟨w.heap.size, 0, none⟩) (.inl rfl) _).setCell (p := ⟨w.heap.size, 1, none⟩) (.inl rfl) _).setCell (p := ⟨w.heap.size, 2, none⟩) (.inl rfl) _)
set_option maxHeartbeats 16000000 in
theorem rccopy_ok (n m : Int) (h : (RC b c).p S w) (hI : CuI k c) :
 Calls Tryz.prog 39 #[.pointer (some ⟨b, 0, none⟩), .int .i64 n, .int .i64 m] w fun e w' => e = .returned (.int .i64 (cpyCu c n m).1) ∧ Turn (RC b (cpyCu c n m).2) S w w' := by
 have HT := hid h; obtain ⟨g, cap, bs, T, hx⟩ := h; have HIS := hid (rcis_ok n hx); have HX := hid hx; by_cases hn : c.Is n
 rotate_left
 · have hr : cpyCu c n m = (0, c) := by unfold cpyCu; rw [if_pos (.inl hn)]
   rw [hr]; rw [decide_eq_false hn] at HIS; clear hr hx; go_enter Tryz.func39, Tryz.ntmps39; go_wp2_with fail; refine HIS.out.mono ?_; rintro e w2 ⟨rfl, rfl⟩; go_wp2_with fail; go_ret; exact ⟨rfl, Turn.here HT.out⟩
 rw [decide_eq_true hn] at HIS; by_cases hp : n = c.pm.p
 · have hr : cpyCu c n m = (0, c) := by unfold cpyCu; rw [if_pos (.inr hp)]
   rw [hr]; obtain ⟨_, _, c2, _⟩ := hx.tops; rw [← hp] at c2; clear hr hx hp; go_enter Tryz.func39, Tryz.ntmps39; go_wp2_with fail; refine HIS.out.mono ?_; rintro e w2 ⟨rfl, rfl⟩; go_wp2_with fail; go_ret; exact ⟨rfl, Turn.here HT.out⟩
 have hr : cpyCu c n m = ((copyNd (c.at n) c.first m).1, c.put n (copyNd (c.at n) c.first m).2) := by unfold cpyCu; rw [if_neg (fun e => e.elim (fun e => e hn) hp)]
 rw [hr]; have hi0 : 0 ≤ n := hn.1; have hi1 : n < (c.n : Int) := hn.2; have hp0 : 0 ≤ c.pm.p := hI.is.1; have hp1 : c.pm.p < (c.n : Int) := hI.is.2; have hnp : (n == c.pm.p) = false := by simpa using hp
 have HC : Hid (∀ u, Below w.heap.size w u → (u.cell? ⟨b, 0, none⟩ = some (.slice (some ⟨g, 0, none⟩) c.n cap) ∧ u.cell? ⟨b, 2, none⟩ = some (.int .i64 c.pm.p)) ∧ u.cell? ⟨g, n.toNat, none⟩ = some (.pointer (some ⟨bs n.toNat, 0, none⟩)) ∧ u.cell? ⟨g, c.pm.p.toNat, none⟩ = some (.pointer (some ⟨bs c.pm.p.toNat, 0, none⟩))) := hid fun u hu => by
  have h1 := hx.later u hu; obtain ⟨t0, t1, t2, _⟩ := h1.tops; exact ⟨⟨t0, t2⟩, h1.ptr hn, h1.ptr hI.is⟩
 obtain ⟨r1, hr1⟩ : ∃ x, (copyNd (c.at n) c.first m).1 = x := ⟨_, rfl⟩; obtain ⟨FN, hFN⟩ : ∃ F : World → Prop, ∀ z, F z ↔ Turn (Many RN c.n bs (upd3 c.ns n.toNat (copyNd (c.at n) c.first m).2)) T w z := ⟨_, fun _ => Iff.rfl⟩
 have HCALL : Hid (∀ u, Below w.heap.size w u → Calls Tryz.prog 64 #[.pointer (some ⟨bs n.toNat, 0, none⟩), .pointer (some ⟨bs c.pm.p.toNat, 0, none⟩), .int .i64 m] u fun e w' => e = .returned (.int .i64 r1) ∧ FN w') := hid fun u hu => by
  refine (Many.op2 (x := (copyNd (c.at n) c.first m).2) (hx.later u hu).nd hn.lt.1 hI.is.lt.1 (hn.ne hI.is hp) fun S' T' hS' hT' hd => (rcopy15_ok m hS' hT' hd (hI.nd _).lg (hI.nd _).lg).mono fun _ _ ⟨he, hl⟩ => ⟨he, hl.turn (RN.own hS')⟩).mono fun e z ⟨he, ht⟩ => ⟨he.trans (by rw [← hr1]; rfl), (hFN z).2 (ht.ahead hu)⟩
 have HFN := hid hFN; have HR1 := hid hr1; rw [hr1]; obtain ⟨⟨a0, a2⟩, a3, a4⟩ := HC.out w (Below.refl _ _); clear hr hx hp hFN hr1; obtain ⟨pp, hpp⟩ : ∃ x, c.pm.p = x := ⟨_, rfl⟩; rw [hpp] at a2 a4 hp0 hp1 hnp HC HCALL; have HPP := hid hpp; have HKR : Hid (∀ (i : Nat) (u : World), Kp2 19 99 i u u) := hid (Kp2.refl _ _); clear hpp; go_enter Tryz.func39, Tryz.ntmps39; go_wp2_with fail; refine HIS.out.mono ?_; rintro e w2 ⟨rfl, rfl⟩; go_wp2_with fail; clear a0 a2 a3 a4; refine wp_region_specs6 (S := SL6 19 w FN) (Kp := Kp2 19 99) (Sp := [(20, Stl.eq (.pointer (some ⟨b, 0, none⟩))), (21, Stl.eq (.pointer (some ⟨b, 0, none⟩))), (22, Stl.eq (.pointer (some ⟨b, 0, none⟩))), (23, Stl.eq (.slice (some ⟨g, 0, none⟩) c.n cap)), (24, Stl.eq (.int .i64 n)), (25, Stl.eq (.pointer (some ⟨g, n.toNat, none⟩))), (26, Stl.eq (.pointer (some ⟨bs n.toNat, 0, none⟩))), (27, Stl.eq (.pointer (some ⟨b, 0, none⟩))), (28, Stl.eq (.pointer (some ⟨b, 0, none⟩))), (29, Stl.eq (.pointer (some ⟨b, 0, none⟩))), (30, Stl.eq (.slice (some ⟨g, 0, none⟩) c.n cap)), (31, Stl.eq (.pointer (some ⟨b, 0, none⟩))), (32, Stl.eq (.pointer (some ⟨b, 0, none⟩))), (33, Stl.eq (.pointer (some ⟨b, 1, none⟩))), (34, Stl.eq (.pointer (some ⟨b, 2, none⟩))), (35, Stl.eq (.int .i64 pp)), (36, Stl.eq (.pointer (some ⟨g, pp.toNat, none⟩))), (37, Stl.eq (.pointer (some ⟨bs pp.toNat, 0, none⟩))), (38, Stl.eq (.int .i64 m)), (39, Stl.eq (.int .i64 r1)), (6, Stl.eq (.int .i64 r1))]) (by kernel_rfl) (by kernel_rfl) (SL6.of rfl (kp_drewN _ 1)) ?_ ?_
 · refine .cons ?_ ?_
   · intro L a u hL hst hS hdep hq hno; refine .inl ⟨trivial, ?_⟩; have g0 := gd (v := .pointer (some ⟨b, 0, none⟩)) (hst.out 0 (by kernel_rfl)); go_simp; exact Went6.same (HKR.out _ _) hS rfl
   refine .cons ?_ ?_
   · intro L a u hL hst hS hdep hq hno; refine .inl ⟨trivial, ?_⟩; have g20 := gd (hdep 20); go_simp; exact Went6.same (HKR.out _ _) hS rfl
   refine .cons ?_ ?_
   · intro L a u hL hst hS hdep hq hno; refine .inl ⟨trivial, ?_⟩; have g21 := gd (hdep 21); go_simp; exact Went6.same (HKR.out _ _) hS rfl
   refine .cons ?_ ?_
   · intro L a u hL hst hS hdep hq hno; refine .inl ⟨trivial, ?_⟩; have g22 := gd (hdep 22); have h9 : L 19 = false := hno 12 19; have hB : Below w.heap.size w u := SL6.ahead hS h9; have yy := (HC.out u hB).1.1; go_simp; exact Went6.same (HKR.out _ _) hS rfl
   refine .cons ?_ ?_
   · intro L a u hL hst hS hdep hq hno; refine .inl ⟨trivial, ?_⟩; have g1 := gd (v := .int .i64 n) (hst.out 1 (by kernel_rfl)); go_simp; exact Went6.same (HKR.out _ _) hS rfl
   refine .cons ?_ ?_
   · intro L a u hL hst hS hdep hq hno; refine .inl ⟨trivial, ?_⟩; have g23 := gd (hdep 23); have g24 := gd (hdep 24); go_simp; exact Went6.same (HKR.out _ _) hS rfl
   refine .cons ?_ ?_
   · intro L a u hL hst hS hdep hq hno; refine .inl ⟨trivial, ?_⟩; have g25 := gd (hdep 25); have h9 : L 19 = false := hno 12 19; have hB : Below w.heap.size w u := SL6.ahead hS h9; have yy := (HC.out u hB).2.1; go_simp; exact Went6.same (HKR.out _ _) hS rfl
   refine .cons ?_ ?_
   · intro L a u hL hst hS hdep hq hno; refine .inl ⟨trivial, ?_⟩; have g0 := gd (v := .pointer (some ⟨b, 0, none⟩)) (hst.out 0 (by kernel_rfl)); go_simp; exact Went6.same (HKR.out _ _) hS rfl
   refine .cons ?_ ?_
   · intro L a u hL hst hS hdep hq hno; refine .inl ⟨trivial, ?_⟩; have g27 := gd (hdep 27); go_simp; exact Went6.same (HKR.out _ _) hS rfl
   refine .cons ?_ ?_
   · intro L a u hL hst hS hdep hq hno; refine .inl ⟨trivial, ?_⟩; have g28 := gd (hdep 28); go_simp; exact Went6.same (HKR.out _ _) hS rfl
   refine .cons ?_ ?_
   · intro L a u hL hst hS hdep hq hno; refine .inl ⟨trivial, ?_⟩; have g29 := gd (hdep 29); have h9 : L 19 = false := hno 12 19; have hB : Below w.heap.size w u := SL6.ahead hS h9; have yy := (HC.out u hB).1.1; go_simp; exact Went6.same (HKR.out _ _) hS rfl
   refine .cons ?_ ?_
   · intro L a u hL hst hS hdep hq hno; refine .inl ⟨trivial, ?_⟩; have g0 := gd (v := .pointer (some ⟨b, 0, none⟩)) (hst.out 0 (by kernel_rfl)); go_simp; exact Went6.same (HKR.out _ _) hS rfl
   refine .cons ?_ ?_
   · intro L a u hL hst hS hdep hq hno; refine .inl ⟨trivial, ?_⟩; have g31 := gd (hdep 31); go_simp; exact Went6.same (HKR.out _ _) hS rfl
   refine .cons ?_ ?_
   · intro L a u hL hst hS hdep hq hno; refine .inl ⟨trivial, ?_⟩; have g32 := gd (hdep 32); go_simp; exact Went6.same (HKR.out _ _) hS rfl
   refine .cons ?_ ?_
   · intro L a u hL hst hS hdep hq hno; refine .inl ⟨trivial, ?_⟩; have g33 := gd (hdep 33); go_simp; exact Went6.same (HKR.out _ _) hS rfl
   refine .cons ?_ ?_
   · intro L a u hL hst hS hdep hq hno; refine .inl ⟨trivial, ?_⟩; have g34 := gd (hdep 34); have h9 : L 19 = false := hno 12 19; have hB : Below w.heap.size w u := SL6.ahead hS h9; have yy := (HC.out u hB).1.2; go_simp; exact Went6.same (HKR.out _ _) hS rfl
   refine .cons ?_ ?_
   · intro L a u hL hst hS hdep hq hno; refine .inl ⟨trivial, ?_⟩; have g30 := gd (hdep 30); have g35 := gd (hdep 35); go_simp; exact Went6.same (HKR.out _ _) hS rfl
   refine .cons ?_ ?_
   · intro L a u hL hst hS hdep hq hno; refine .inl ⟨trivial, ?_⟩; have g36 := gd (hdep 36); have h9 : L 19 = false := hno 12 19; have hB : Below w.heap.size w u := SL6.ahead hS h9; have yy := (HC.out u hB).2.2; go_simp; exact Went6.same (HKR.out _ _) hS rfl
   refine .cons ?_ ?_
   · intro L a u hL hst hS hdep hq hno; refine .inl ⟨trivial, ?_⟩; have g2 := gd (v := .int .i64 m) (hst.out 2 (by kernel_rfl)); go_simp; exact Went6.same (HKR.out _ _) hS rfl
   refine .cons ?_ ?_
   · intro L a u hL hst hS hdep hq hno; refine .inl ⟨trivial, ?_⟩; have g26 := gd (hdep 26); have g37 := gd (hdep 37); have g38 := gd (hdep 38); go_simp; refine (HCALL.out u (SL6.ahead hS hL)).mono ?_; rintro e' u' ⟨rfl, ht'⟩; exact Went6.next (SL6.last done_same ht') (fun h _ => absurd rfl h) rfl
   refine .cons ?_ ?_
   · intro L a u hL hst hS hdep hq hno; refine .inl ⟨trivial, ?_⟩; have g39 := gd (hdep 39); go_simp; exact Went6.same (HKR.out _ _) (SL6.last (done_mono (hq 12 19)) (SL6.done hS (hq 12 19))) rfl
   exact EachOp.nil
 · intro L a u hLs hst hS hdep; have h20 : a.tmps.getD 20 undef = .pointer (some ⟨b, 0, none⟩) := hdep 20; have h21 : a.tmps.getD 21 undef = .pointer (some ⟨b, 0, none⟩) := hdep 21; have h22 : a.tmps.getD 22 undef = .pointer (some ⟨b, 0, none⟩) := hdep 22; have h23 : a.tmps.getD 23 undef = .slice (some ⟨g, 0, none⟩) c.n cap := hdep 23; have h24 : a.tmps.getD 24 undef = .int .i64 n := hdep 24; have h25 : a.tmps.getD 25 undef = .pointer (some ⟨g, n.toNat, none⟩) := hdep 25; have h26 : a.tmps.getD 26 undef = .pointer (some ⟨bs n.toNat, 0, none⟩) := hdep 26; have h27 : a.tmps.getD 27 undef = .pointer (some ⟨b, 0, none⟩) := hdep 27; have h28 : a.tmps.getD 28 undef = .pointer (some ⟨b, 0, none⟩) := hdep 28; have h29 : a.tmps.getD 29 undef = .pointer (some ⟨b, 0, none⟩) := hdep 29; have h30 : a.tmps.getD 30 undef = .slice (some ⟨g, 0, none⟩) c.n cap := hdep 30; have h31 : a.tmps.getD 31 undef = .pointer (some ⟨b, 0, none⟩) := hdep 31; have h32 : a.tmps.getD 32 undef = .pointer (some ⟨b, 0, none⟩) := hdep 32; have h33 : a.tmps.getD 33 undef = .pointer (some ⟨b, 1, none⟩) := hdep 33; have h34 : a.tmps.getD 34 undef = .pointer (some ⟨b, 2, none⟩) := hdep 34; have h35 : a.tmps.getD 35 undef = .int .i64 pp := hdep 35; have h36 : a.tmps.getD 36 undef = .pointer (some ⟨g, pp.toNat, none⟩) := hdep 36; have h37 : a.tmps.getD 37 undef = .pointer (some ⟨bs pp.toNat, 0, none⟩) := hdep 37; have h38 : a.tmps.getD 38 undef = .int .i64 m := hdep 38; have h39 : a.tmps.getD 39 undef = .int .i64 r1 := hdep 39; have h6 : a.tmps.getD 6 undef = .int .i64 r1 := hdep 6; have hfr := hst.frame [(20, .pointer (some ⟨b, 0, none⟩)), (21, .pointer (some ⟨b, 0, none⟩)), (22, .pointer (some ⟨b, 0, none⟩)), (23, .slice (some ⟨g, 0, none⟩) c.n cap), (24, .int .i64 n), (25, .pointer (some ⟨g, n.toNat, none⟩)), (26, .pointer (some ⟨bs n.toNat, 0, none⟩)), (27, .pointer (some ⟨b, 0, none⟩)), (28, .pointer (some ⟨b, 0, none⟩)), (29, .pointer (some ⟨b, 0, none⟩)), (30, .slice (some ⟨g, 0, none⟩) c.n cap), (31, .pointer (some ⟨b, 0, none⟩)), (32, .pointer (some ⟨b, 0, none⟩)), (33, .pointer (some ⟨b, 1, none⟩)), (34, .pointer (some ⟨b, 2, none⟩)), (35, .int .i64 pp), (36, .pointer (some ⟨g, pp.toNat, none⟩)), (37, .pointer (some ⟨bs pp.toNat, 0, none⟩)), (38, .int .i64 m), (39, .int .i64 r1), (6, .int .i64 r1)] (by kernel_rfl) ⟨h20, h21, h22, h23, h24, h25, h26, h27, h28, h29, h30, h31, h32, h33, h34, h35, h36, h37, h38, h39, h6, trivial⟩; clear hst hdep h20 h21 h22 h23 h24 h25 h26 h27 h28 h29 h30 h31 h32 h33 h34 h35 h36 h37 h38 h39 h6; subst hfr; simp only [List.foldl_cons, List.foldl_nil, List.setIfInBounds_toArray, List.set_cons_zero, List.set_cons_succ]; have HTU := hid (HX.out.turn ((HFN.out u).1 (SL6.done hS (hLs 19 (by kernel_rfl)))))
   clear hS hLs; go_wp2_with fail; go_ret; exact ⟨rfl, HTU.out⟩
end
end

/- An append of one element of several cells that tells where the row lies: where it lay, or in a new block (no function of the program is named here). -/
section
open Go.RowKit
set_option maxRecDepth 100000
theorem run_append_wide {P : Program} {w : World} (t ty e : TypeId) (i : TypeInfo) (z : Value) (size bytes : Nat) (ht : P.underlying t = some (.slice e)) (hi : P.info? e = some i) (hz : i.zero = some z)
 (hsize : i.size = size) (hby : i.bytes = bytes) (hzs : z.cells.size = size) (hsz : 0 < size) {A : Option Addr} {n c : Nat} {xs : List Value} (hown : w.ownsRow 0 e size (.slice A n c) n xs) (B : Nat) (ad : Addr) (c1 : Nat) (news : List Value) (hm : news.length = size)
 (hrd : Rd w B (some ad) news) (h1 : ∀ u ∈ news, u.oneCell' = true) (hn : n + 1 ≤ 10000) (hbytes : bytes ≤ 1000) :
 ∃ A' c' w', (Builtin.append_ #[t, t] ty #[.slice A n c, .slice (some ad) 1 c1]).run P w = .ok (.slice A' (n + 1) c') w' ∧ w'.ownsRow 0 e size (.slice A' (n + 1) c') (n + 1) (xs ++ news) ∧ w.grownBy w' (Value.slice A n c).ownBlock ∧
  ((Value.slice A' (n + 1) c').ownBlock = (Value.slice A n c).ownBlock ∨ ∃ g, (Value.slice A' (n + 1) c').ownBlock = some g ∧ w.heap.size ≤ g) := by
 have hcell : ∀ j u, news[j]? = some u → w.cell? (ad.add j) = some u := fun j u hu => by
  rcases hrd with h | ⟨ad', h, _, hc⟩
  · subst h; simp at hu
  · injection h with h; subst h; exact hc j u hu
 have hb1 : (n + 1) * bytes ≤ 140737488355328 := by
  have : (n + 1) * bytes ≤ 10000 * 1000 := Nat.mul_le_mul hn hbytes; omega
 obtain ⟨v', w', hr, h2, h3⟩ := run_append_rds (P := P) (w := w) 0 t ty e i z size bytes ht hi hz hsize hby hzs hsz (.slice A n c) n xs hown B (some ad) 1 c1 news (by omega) hrd h1 (by unfold maxLen; omega) hb1 (Nat.zero_le _); obtain ⟨A', c', rfl, _, _⟩ := own_form_s h2; refine ⟨A', c', w', hr, h2, h3, ?_⟩; rcases hown.2 with ⟨h4, h5⟩ | ⟨g, cap, cur, h4, hbg, hg, hnc, hcm, hcs, htake⟩
 · injection h4 with e1 e2 e3; subst e1 e2 e3; obtain ⟨v2, w2, hr2, h22, _⟩ := run_append_rds (P := P) (w := w) w.heap.size t ty e i z size bytes ht hi hz hsize hby hzs hsz (.slice none 0 0) 0 xs ⟨hown.1, .inl ⟨rfl, rfl⟩⟩ B (some ad) 1 c1 news (by omega) hrd h1 (by unfold maxLen; omega) hb1 (Nat.le_refl _); rw [hr] at hr2; injection hr2 with e1 e2; subst e1
   cases hq : (Value.slice A' (0 + 1) c').ownBlock with
   | none => exact .inl rfl
   | some g => exact .inr ⟨g, rfl, (h22.lt g hq).1⟩
 · injection h4 with e1 _ e3; subst e1 e3; have hs : Src P i.size t (.slice (some ad) 1 c1) 1 news w := Src.ofSlice w ht ad 1 c1 _ (by simp [hsize, hm]) hcell h1; by_cases hroom : n + 1 ≤ c
   · have hmul : (n + 1) * size ≤ c * size := Nat.mul_le_mul_right _ hroom; rw [Nat.add_mul, Nat.one_mul] at hmul
     have hr2 := run_append_room_src (P := P) w t t ty e i ht hi g 0 n c _ 1 news hs hroom (fun j hj => by
      have hj' : j < size := by rw [← hm]; exact hj
      rw [hsize, Nat.zero_add, cell_of_row _ _ (n * size + j) cur e (0, 0) hg, Array.getElem?_eq_getElem (by omega)]
      rfl) (fun j hj => frozen_of_row w g _ cur e hg)
     rw [hr] at hr2; injection hr2 with e1 _; injection e1 with e1 _ _; subst e1; exact .inl rfl
   · have hold : (Builtin.firstCells i.size n (.slice (some ⟨g, 0, none⟩) n c)).run P w.drew = .ok xs.toArray w.drew := run_firstCells_some _ _ _ _ _ _ _ (by rw [hown.1, hsize]) fun j u hu => hown.cells (g := g) rfl j u hu; have hr2 := run_append_grow_src (P := P) w t t ty e i z ht hi hz (some ⟨g, 0, none⟩) n c xs hold _ 1 news hs (by omega) (by omega) (growslice_fits (by omega) (by rw [hby]; exact hb1)); rw [hr] at hr2; injection hr2 with e1 _; injection e1 with e1 _ _; subst e1; exact .inr ⟨_, rfl, Nat.le_refl _⟩
end

/- The document's layer 16: a cluster in memory; New: contract. -/
section
open Go.RowKit
set_option maxRecDepth 100000
theorem nptrinfo16 : (Tryz.prog.info? 51).map (fun i => (i.zero, i.size, i.bytes)) = some (some (.pointer none), 1, 8) := by kernel_rfl
def ptC (bs : Nat → Nat) (n : Nat) : List Value := (List.range n).map fun i => .pointer (some ⟨bs i, 0, none⟩)
theorem ptC_at (bs : Nat → Nat) {n i : Nat} (h : i < n) : (ptC bs n)[i]? = some (.pointer (some ⟨bs i, 0, none⟩)) := by simp [ptC, h]
theorem ptC_more (bs : Nat → Nat) (n b : Nat) : ptC (upd3 bs n b) (n + 1) = ptC bs n ++ [.pointer (some ⟨b, 0, none⟩)] := by
 unfold ptC; rw [List.range_succ, List.map_append]; congr 1
 · exact List.map_congr_left fun i hi => by rw [upd3_ne _ _ (by have := List.mem_range.1 hi; omega)]
 · simp [upd3_at]
theorem Rd.of_blk {u : World} {g : Nat} {v : Value} {t : TypeId} (h : u.heap[g]? = some (.cells #[v] t (0, 0))) : Rd u (g + 1) (some ⟨g, 0, none⟩) [v] := .inr ⟨_, rfl, Nat.lt_succ_self _, fun j x hx => by
 match j, hx with
 | 0, hx =>
   rw [show (⟨g, 0, none⟩ : Addr).add 0 = ⟨g, 0, none⟩ from by unfold Addr.add; split <;> simp_all, (cellsAt h 0 (v := v) rfl).1]
   simpa using hx⟩
structure NewS (w : World) (cb qt : Nat) (At : Option Addr) (ct q : Nat) (A : Option Addr) (cap : Nat) (bs : Nat → Nat) (T : Nat → Prop) (wr : World) : Prop where
 top : wr.heap[cb]? = some (.cells #[.slice At qt ct, .int .u64 1, .int .i64 0, .int .u64 0] 49 (0, 0))
 own : wr.ownsRow (cb + 1) 51 1 (.slice A q cap) q (ptC bs q)
 nd : (Many RN q bs fun _ => newNd).p T wr
 tt : ∀ k, T k → cb < k ∧ (Value.slice A q cap).ownBlock ≠ some k
 low : Below w.heap.size w wr
theorem NewS.next {w wr u : World} {cb qt ct q cap : Nat} {At A : Option Addr} {bs : Nat → Nat} {T : Nat → Prop} (h : NewS w cb qt At ct q A cap bs T wr) (hb : Below wr.heap.size wr u) : NewS w cb qt At ct q A cap bs T u :=
 ⟨(hb.block cb (Array.getElem?_eq_some_iff.1 h.top).1).trans h.top, own_below_s h.own hb (Nat.le_refl _), Thing.next h.nd hb, h.tt, h.low.trans (hb.mono h.low.size)⟩
theorem own_base16 {w : World} {B n size : Nat} {e : TypeId} {v : Value} {xs : List Value} (h : w.ownsRow 0 e size v n xs) (hB : ∀ g, v.ownBlock = some g → B ≤ g) : w.ownsRow B e size v n xs := by
 refine ⟨h.1, ?_⟩; rcases h.2 with h2 | ⟨g, cap, cur, hv, hg, r⟩
 · exact .inl h2
 · exact .inr ⟨g, cap, cur, hv, hB g (by rw [hv]; rfl), r⟩
def SN16 (W : World) (F : World → Prop) (L : Nat → Bool) (u : World) : Prop :=
 bif L 10 then F u else bif L 7 then True
 else bif L 6 then Below W.heap.size W u ∧ u.heap.size = W.heap.size + 2 ∧ (RN W.heap.size newNd).p (fun k => k = W.heap.size) u ∧ u.heap[W.heap.size + 1]? = some (.cells #[.pointer (some ⟨W.heap.size, 0, none⟩)] 51 (0, 0))
 else bif L 5 then Below W.heap.size W u ∧ u.heap.size = W.heap.size + 1 ∧ (RN W.heap.size newNd).p (fun k => k = W.heap.size) u
 else Below W.heap.size W u ∧ u.heap.size = W.heap.size
section
variable {W u : World} {F : World → Prop} {L : Nat → Bool}
theorem SN16.g0 (h : SN16 W F L u) (h5 : L 5 = false) (h6 : L 6 = false) (h7 : L 7 = false) (h10 : L 10 = false) : Below W.heap.size W u ∧ u.heap.size = W.heap.size := by
 unfold SN16 at h; rw [h10, h7, h6, h5] at h; exact h
theorem SN16.g5 (h : SN16 W F L u) (h5 : L 5 = true) (h6 : L 6 = false) (h7 : L 7 = false) (h10 : L 10 = false) : Below W.heap.size W u ∧ u.heap.size = W.heap.size + 1 ∧ (RN W.heap.size newNd).p (fun k => k = W.heap.size) u := by
 unfold SN16 at h; rw [h10, h7, h6, h5] at h; exact h
theorem SN16.g6 (h : SN16 W F L u) (h6 : L 6 = true) (h7 : L 7 = false) (h10 : L 10 = false) : Below W.heap.size W u ∧ u.heap.size = W.heap.size + 2 ∧ (RN W.heap.size newNd).p (fun k => k = W.heap.size) u ∧ u.heap[W.heap.size + 1]? = some (.cells #[.pointer (some ⟨W.heap.size, 0, none⟩)] 51 (0, 0)) := by
 unfold SN16 at h; rw [h10, h7, h6] at h; exact h
theorem SN16.m5 (h5 : L 5 = true) (h6 : L 6 = false) (h7 : L 7 = false) (h10 : L 10 = false) (h : Below W.heap.size W u ∧ u.heap.size = W.heap.size + 1 ∧ (RN W.heap.size newNd).p (fun k => k = W.heap.size) u) : SN16 W F L u := by
 unfold SN16; rw [h10, h7, h6, h5]; exact h
theorem SN16.m6 (h6 : L 6 = true) (h7 : L 7 = false) (h10 : L 10 = false) (h : Below W.heap.size W u ∧ u.heap.size = W.heap.size + 2 ∧ (RN W.heap.size newNd).p (fun k => k = W.heap.size) u ∧ u.heap[W.heap.size + 1]? = some (.cells #[.pointer (some ⟨W.heap.size, 0, none⟩)] 51 (0, 0))) : SN16 W F L u := by
 unfold SN16; rw [h10, h7, h6]; exact h
theorem SN16.m7 (h7 : L 7 = true) (h10 : L 10 = false) : SN16 W F L u := by
 unfold SN16; rw [h10, h7]; exact trivial
theorem SN16.m10 (h10 : L 10 = true) (h : F u) : SN16 W F L u := by
 unfold SN16; rw [h10]; exact h
theorem SN16.done (h : SN16 W F L u) (h10 : L 10 = true) : F u := by
 unfold SN16 at h; rw [h10] at h; exact h
theorem SN16.below (h : SN16 W F L u) (h7 : L 7 = false) (h10 : L 10 = false) : Below W.heap.size W u := by
 cases h6 : L 6 with
 | true => exact (SN16.g6 h h6 h7 h10).1
 | false =>
   cases h5 : L 5 with
   | true => exact (SN16.g5 h h5 h6 h7 h10).1
   | false => exact (SN16.g0 h h5 h6 h7 h10).1
end
def rowN16 (n : Nat) (G : Option Addr → Nat → World → Prop) : Stl (Kp2 7 10) where
 p := fun L v u => L 7 = true ∧ ∃ D e, v = .slice D n e ∧ (L 10 = false → (∀ D e u u', G D e u → Below u.heap.size u u' → G D e u') ∧ G D e u)
 st := fun i L v u u' hi h hk => by
  obtain ⟨h0, D, e, hv, h⟩ := h; refine ⟨done_mono h0, D, e, hv, fun h2 => ?_⟩; obtain ⟨a2, b2⟩ := done_not h2; exact ⟨(h a2).1, (h a2).1 D e u u' (h a2).2 (hk (fun e => by subst e; rw [hi] at h0; cases h0) (fun e => b2 e.symm))⟩
theorem wp_append_run {P : Program} {o : Oper} {a : Act} {w : World} {K : Act → World → Prop} {Q : Exit → Act → World → Prop} {s x : Operand} {t : TypeId}
 (ho : o.op = .call { callee := .builtin .append, args := #[s, x], argTypes := #[t, t] }) {v y : Value} (hs : a.eval s = v) (hx : a.eval x = y) {v3 : Value} {w3 : World}
 (hrun : (Builtin.append_ #[t, t] o.type #[v, y]).run P w = .ok v3 w3) (h : K (a.put o.dst v3) w3) : o.wp P a w K Q := by
 unfold Oper.wp execOp; simp only [ho, resolve, invoke, builtin, Sem.run_bind, Sem.run_pure, Result.andThen_ok, List.map_toArray, List.map_cons, List.map_nil, hs, hx, hrun]; exact h
theorem rnew15_at (w : World) :
 Calls Tryz.prog 34 #[] w fun e w' => e = .returned (.pointer (some ⟨w.heap.size, 0, none⟩)) ∧ (RN w.heap.size newNd).p (fun k => k = w.heap.size) w' ∧ w'.heap.size = w.heap.size + 1 ∧ Below w.heap.size w w' := by
 go_enter Tryz.func34, Tryz.ntmps34; go_wp2_with fail; go_ret; exact ⟨rfl, ⟨none, 0, 0, none, 0, 0, [], { top := heap_alloc_new w _, lg := LR.nil _, own := World.ownsRow_nil _ _ _ _, len := rfl, at_ := fun j h1 => absurd h1 (Nat.not_lt_zero _), sb := rfl, sl := fun _ e => (by cases e), so := fun g hg => by simp [Value.ownBlock] at hg, st := fun j h1 => absurd h1 (Nat.not_lt_zero _), lt := fun k hk => by subst hk; simp }⟩, by simp, kp_new w _⟩
section
variable {w wr u u' : World} {cb qt ct q : Nat} {At A A5 : Option Addr} {cap c5 : Nat} {bs : Nat → Nat} {T : Nat → Prop}
theorem NewS.append (h : NewS w cb q A cap q A cap bs T wr) (hcb : w.heap.size = cb) (hB : Below wr.heap.size wr u) (hz : u.heap.size = wr.heap.size + 2) (hp : (RN wr.heap.size newNd).p (fun k => k = wr.heap.size) u)
 (hown0 : u'.ownsRow 0 51 1 (.slice A5 (q + 1) c5) (q + 1) (ptC bs q ++ [.pointer (some ⟨wr.heap.size, 0, none⟩)])) (hg : u.grownBy u' (Value.slice A q cap).ownBlock)
 (hwh : (Value.slice A5 (q + 1) c5).ownBlock = (Value.slice A q cap).ownBlock ∨ ∃ g, (Value.slice A5 (q + 1) c5).ownBlock = some g ∧ u.heap.size ≤ g) :
 NewS w cb q A cap (q + 1) A5 c5 (upd3 bs q wr.heap.size) (fun k => T k ∨ k = wr.heap.size) u' := by
 have hrow : ∀ g, (Value.slice A q cap).ownBlock = some g → cb + 1 ≤ g ∧ g < wr.heap.size := fun g e => h.own.lt g e; have hcbl : cb < wr.heap.size := (Array.getElem?_eq_some_iff.1 h.top).1
 have hown : u'.ownsRow (cb + 1) 51 1 (.slice A5 (q + 1) c5) (q + 1) (ptC bs q ++ [.pointer (some ⟨wr.heap.size, 0, none⟩)]) := own_base16 hown0 fun g e => by
  rcases hwh with e2 | ⟨g', e2, hgl⟩
  · rw [e2] at e; exact (hrow g e).1
  · rw [e2] at e; injection e with e; omega
 have hnb : ∀ k, k < u.heap.size → (Value.slice A q cap).ownBlock ≠ some k → u'.heap[k]? = u.heap[k]? := fun k hk hne => hg.block k hk fun e => hne e.symm; have ht : u'.heap[cb]? = some (.cells #[.slice A q cap, .int .u64 1, .int .i64 0, .int .u64 0] 49 (0, 0)) := (hnb cb (by omega) fun e => by have := (hrow cb e).1; omega).trans ((hB.block cb hcbl).trans h.top); have hTlt : ∀ k, T k → k < wr.heap.size := fun k hk => (Many RN q bs fun _ => newNd).lt h.nd k hk
 have keepT : ∀ k, T k ∨ k = wr.heap.size → u'.heap[k]? = u.heap[k]? := fun k hk => by
  refine hnb k ?_ ?_
  · rcases hk with hk | hk
    · have := hTlt k hk; omega
    · omega
  · rcases hk with hk | hk
    · exact (h.tt k hk).2
    · intro e; have := (hrow k e).2; omega
 refine ⟨ht, ?_, ?_, ?_, ?_⟩
 · rw [ptC_more]; exact hown
 · have := Many.as (bs' := upd3 bs q wr.heap.size) (ns' := fun _ => newNd) (Many.more (x := newNd) (b := wr.heap.size) h.nd hp (fun k hk => by rw [hk]; exact Nat.le_refl _) hB) (fun _ _ => rfl) fun i _ => by
    by_cases e : i = q
    · subst e; rw [upd3_at]
    · rw [upd3_ne _ _ e]
   exact (Many RN (q + 1) (upd3 bs q wr.heap.size) fun _ => newNd).keep this keepT hg.size
 · intro k hk; refine ⟨?_, fun e => ?_⟩
   · rcases hk with hk | hk
     · exact (h.tt k hk).1
     · omega
   · rcases hwh with e2 | ⟨g, e2, hgl⟩
     · rw [e2] at e; rcases hk with hk | hk
       · exact (h.tt k hk).2 e
       · have := (hrow k e).2; omega
     · rw [e2] at e; injection e with e; rcases hk with hk | hk
       · have := hTlt k hk; omega
       · omega
 · have h1 : Below w.heap.size w u := h.low.trans (hB.mono h.low.size); exact h1.grown hg h1.size fun k e => by have := (hrow k e).1; omega
theorem NewS.store (h : NewS w cb qt At ct q A cap bs T u) (hcb : w.heap.size = cb) : NewS w cb q A cap q A cap bs T (u.setCell ⟨cb, 0, none⟩ (.slice A q cap)) := by
 have hset : ∀ k, k ≠ cb → (u.setCell ⟨cb, 0, none⟩ (.slice A q cap)).heap[k]? = u.heap[k]? := fun k hk => set_other hk; refine ⟨heap_setCell_same u cb 0 _ _ _ h.top, ownsRow_setCell_other (a := ⟨cb, 0, none⟩) h.own (own_type_ne h.own h.top (by decide)) _, (Many RN q bs fun _ => newNd).keep h.nd (fun k hk => hset k (by have := (h.tt k hk).1; omega)) (by rw [set_size]; exact Nat.le_refl _), h.tt, h.low.setCell (by show w.heap.size ≤ cb; omega) _⟩
end
set_option maxHeartbeats 8000000 in
theorem rcnew_ok (n : Int) (w : World) (h1 : 1 ≤ n) (h6 : n ≤ 6) :
 Calls Tryz.prog 11 #[.int .i64 n] w fun e w' => ∃ b, e = .returned (.tuple #[.pointer (some ⟨b, 0, none⟩), .int .i64 0]) ∧ (∃ S, (RC b (newCu n.toNat)).p S w' ∧ ∀ k, S k → w.heap.size ≤ k) ∧ Below w.heap.size w w' := by
 obtain ⟨m, rfl⟩ : ∃ m : Nat, n = m := ⟨n.toNat, by omega⟩; obtain ⟨cb, hcb⟩ : ∃ x, w.heap.size = x := ⟨_, rfl⟩; obtain ⟨w1, hw1⟩ : ∃ u, w.alloc (.cells #[.slice none 0 0, .int .u64 1, .int .i64 0, .int .u64 0] 49) = u := ⟨_, rfl⟩; obtain ⟨i0, hi, hz0, hz1, hz2⟩ := info_parts nptrinfo16; have HCB := hid hcb; have HW1 := hid hw1; have HNS0 : Hid (∃ A cap bs T, NewS w cb 0 A cap 0 A cap bs T w1) := hid ⟨none, 0, fun _ => 0, fun _ => False, ⟨by rw [← hw1, ← hcb]; exact heap_alloc_new w _, ⟨rfl, .inl ⟨rfl, rfl⟩⟩, Many.none w1, fun _ h => h.elim, hw1 ▸ kp_new w _⟩⟩; have hm1 : 1 ≤ m := by omega
 have hm6 : m ≤ 6 := by omega
 clear hw1 hcb h1 h6; go_enter Tryz.func11, Tryz.ntmps11; go_wp2_with fail; rw [HW1.out, HCB.out]
 go_loopw [5] (fun i wr => ∃ q : Nat, q ≤ m ∧ i = .int .i64 q ∧ Hid (∃ A cap bs T, NewS w cb q A cap q A cap bs T wr)) (fun i _ => m - (intOf i).toNat)
 case atStart => exact ⟨0, Nat.zero_le _, rfl, HNS0⟩
 case round =>
  obtain ⟨q, hq, rfl, hs⟩ := hrel; clear HNS0; by_cases hlt : q < m
  · obtain ⟨A, cap, bs, T, hns⟩ := hs.out; have HC : Hid (∀ u, Below wr.heap.size wr u → u.cell? ⟨cb, 0, none⟩ = some (.slice A q cap)) := hid fun u hu => (cellsAt (hns.next hu).top 0 rfl).1; have HOW : Hid (∀ u, Below wr.heap.size wr u → u.ownsRow 0 51 1 (.slice A q cap) q (ptC bs q)) := hid fun u hu => own_base_s (hns.next hu).own (Nat.zero_le _); obtain ⟨GN, hGN⟩ : ∃ G : Option Addr → Nat → World → Prop, ∀ D e u, G D e u ↔ NewS w cb q A cap (q + 1) D e (upd3 bs q wr.heap.size) (fun k => T k ∨ k = wr.heap.size) u := ⟨_, fun _ _ _ => Iff.rfl⟩; obtain ⟨FN, hFN⟩ : ∃ F : World → Prop, ∀ u, F u ↔ ∃ A cap bs T, NewS w cb (q + 1) A cap (q + 1) A cap bs T u := ⟨_, fun _ => Iff.rfl⟩
    have HMK : Hid (∀ u, Below wr.heap.size wr u → u.heap.size = wr.heap.size + 2 → (RN wr.heap.size newNd).p (fun k => k = wr.heap.size) u → ∀ A5 c5 u', u'.ownsRow 0 51 1 (.slice A5 (q + 1) c5) (q + 1) (ptC bs q ++ [.pointer (some ⟨wr.heap.size, 0, none⟩)]) → u.grownBy u' (Value.slice A q cap).ownBlock →
     ((Value.slice A5 (q + 1) c5).ownBlock = (Value.slice A q cap).ownBlock ∨ ∃ g, (Value.slice A5 (q + 1) c5).ownBlock = some g ∧ u.heap.size ≤ g) → GN A5 c5 u') := hid fun u h1 h2 h3 A5 c5 u' h4 h5 h6 => (hGN _ _ _).2 (hns.append HCB.out h1 h2 h3 h4 h5 h6)
    have HKG : Hid (∀ D e u u', GN D e u → Below u.heap.size u u' → GN D e u') := hid fun D e u u' h1 h2 => (hGN _ _ _).2 (((hGN _ _ _).1 h1).next h2)
    have HST : Hid (∀ D e u, GN D e u → u.cell? ⟨cb, 0, none⟩ = some (.slice A q cap) ∧ u.frozen? ⟨cb, 0, none⟩ = false ∧ FN (u.setCell ⟨cb, 0, none⟩ (.slice D (q + 1) e))) := hid fun D e u h1 => by
     have h2 := (hGN _ _ _).1 h1; obtain ⟨t0, z0⟩ := cellsAt h2.top 0 (v := .slice A q cap) rfl; exact ⟨t0, z0, (hFN _).2 ⟨_, _, _, _, h2.store HCB.out⟩⟩
    have HFN := hid hFN; have HKR : Hid (∀ (i : Nat) (u : World), Kp2 7 10 i u u) := hid (Kp2.refl _ _); have hq6 : q ≤ 6 := by omega
    clear hs hns hGN hFN; go_wp2_with fail; refine wp_region_specs6 (S := SN16 wr FN) (Kp := Kp2 7 10) (Sp := [(20, Stl.eq (.pointer (some ⟨cb, 0, none⟩))), (21, Stl.eq (.pointer (some ⟨cb, 0, none⟩))), (22, Stl.eq (.pointer (some ⟨cb, 0, none⟩))), (23, Stl.eq (.pointer (some ⟨cb, 0, none⟩))), (24, Stl.eq (.slice A q cap)), (25, Stl.eq (.pointer (some ⟨wr.heap.size, 0, none⟩))), (26, Stl.eq (.slice (some ⟨wr.heap.size + 1, 0, none⟩) 1 1)), (27, rowN16 (q + 1) GN), (28, Stl.eq (.pointer (some ⟨cb, 0, none⟩))), (29, Stl.eq (.pointer (some ⟨cb, 0, none⟩)))]) (by kernel_rfl) (by kernel_rfl) (⟨kp_drewN _ 1, rfl⟩) ?_ ?_
    · refine .cons ?_ ?_
      · intro L a u hL hst hS hdep hq hno; refine .inl ⟨trivial, ?_⟩; have g4 := gd (v := .pointer (some ⟨cb, 0, none⟩)) (hst.out 4 (by kernel_rfl)); go_simp; exact Went6.same (HKR.out _ _) hS rfl
      refine .cons ?_ ?_
      · intro L a u hL hst hS hdep hq hno; refine .inl ⟨trivial, ?_⟩; have g4 := gd (v := .pointer (some ⟨cb, 0, none⟩)) (hst.out 4 (by kernel_rfl)); go_simp; exact Went6.same (HKR.out _ _) hS rfl
      refine .cons ?_ ?_
      · intro L a u hL hst hS hdep hq hno; refine .inl ⟨trivial, ?_⟩; have g21 := gd (hdep 21); go_simp; exact Went6.same (HKR.out _ _) hS rfl
      refine .cons ?_ ?_
      · intro L a u hL hst hS hdep hq hno; refine .inl ⟨trivial, ?_⟩; have g22 := gd (hdep 22); go_simp; exact Went6.same (HKR.out _ _) hS rfl
      refine .cons ?_ ?_
      · intro L a u hL hst hS hdep hq hno; refine .inl ⟨trivial, ?_⟩; have g23 := gd (hdep 23); have h7 : L 7 = false := hno 12 7; have h10 : L 10 = false := hno 12 10; have yy := HC.out u (SN16.below hS h7 h10); go_simp; exact Went6.same (HKR.out _ _) hS rfl
      refine .cons ?_ ?_
      · intro L a u hL hst hS hdep hq hno; refine .inl ⟨trivial, ?_⟩; go_simp; have h6 : L 6 = false := hno 12 6; have h7 : L 7 = false := hno 12 7; have h10 : L 10 = false := hno 12 10; obtain ⟨hB, hz⟩ := SN16.g0 hS hL h6 h7 h10; refine (rnew15_at u).mono ?_; rintro e' u' ⟨rfl, hp', hz', hk'⟩; rw [hz] at hp' hz' ⊢; exact Went6.next (SN16.m5 done_same h6 h7 h10 ⟨hB.trans (hk'.mono hB.size), hz', hp'⟩) (fun _ _ => hk') rfl
      refine .cons ?_ ?_
      · intro L a u hL hst hS hdep hq hno; refine .inl ⟨trivial, ?_⟩; have g25 := gd (hdep 25); go_simp; have h5 : L 5 = true := hq 12 5; have h7 : L 7 = false := hno 12 7; have h10 : L 10 = false := hno 12 10; obtain ⟨hB, hz, hp⟩ := SN16.g5 hS h5 hL h7 h10; rw [hz]; have hk' := kp_new u (.cells #[.pointer (some ⟨wr.heap.size, 0, none⟩)] 51); exact Went6.next (SN16.m6 done_same h7 h10 ⟨hB.trans (hk'.mono hB.size), by rw [World.size_alloc, hz], Thing.next hp hk', by have := heap_alloc_new u (.cells #[.pointer (some ⟨wr.heap.size, 0, none⟩)] 51); rwa [hz] at this⟩) (fun _ _ => hk') rfl
      refine .cons ?_ ?_
      · intro L a u hL hst hS hdep hq hno; have h24 : a.tmps.getD 24 undef = .slice A q cap := hdep 24; have h26 : a.tmps.getD 26 undef = .slice (some ⟨wr.heap.size + 1, 0, none⟩) 1 1 := hdep 26; refine .inl ⟨trivial, ?_⟩; have g24 := gd h24; have g26 := gd h26; have h6 : L 6 = true := hq 12 6; have h10 : L 10 = false := hno 12 10; obtain ⟨hB, hz, hp, hbs⟩ := SN16.g6 hS h6 hL h10; obtain ⟨A5, c5, u', hrun, hown', hg', hwh⟩ := run_append_wide (P := Tryz.prog) 47 47 51 i0 _ 1 8 Tryz.underlying47 hi hz0 hz1 hz2 rfl (by omega) (HOW.out u hB) (wr.heap.size + 2) ⟨wr.heap.size + 1, 0, none⟩ 1 [.pointer (some ⟨wr.heap.size, 0, none⟩)] rfl (Rd.of_blk hbs) (by simp [Value.oneCell']) (by omega) (by omega); refine wp_append_run rfl h24 h26 hrun ?_; exact ⟨_, rfl, SN16.m7 done_same h10, fun h _ => absurd rfl h, fun t e => by injection e with e; subst e; exact ⟨done_same, A5, c5, rfl, fun _ => ⟨HKG.out, HMK.out u hB hz hp A5 c5 u' hown' hg' hwh⟩⟩⟩
      refine .cons ?_ ?_
      · intro L a u hL hst hS hdep hq hno; refine .inl ⟨trivial, ?_⟩; have g20 := gd (hdep 20); go_simp; exact Went6.same (HKR.out _ _) hS rfl
      refine .cons ?_ ?_
      · intro L a u hL hst hS hdep hq hno; refine .inl ⟨trivial, ?_⟩; have g28 := gd (hdep 28); go_simp; exact Went6.same (HKR.out _ _) hS rfl
      refine .cons ?_ ?_
      · intro L a u hL hst hS hdep hq hno; obtain ⟨_, D27, e27, h27, m27⟩ := hdep 27; refine .inl ⟨trivial, ?_⟩; have g27 := gd h27; have g29 := gd (hdep 29); obtain ⟨t0, z0, hF⟩ := HST.out D27 e27 u (m27 hL).2; go_simp; exact ⟨undef, rfl, SN16.m10 done_same hF, fun _ h => absurd rfl h, fun t e => by cases e⟩
      exact EachOp.nil
    · intro L a u hLs hst hS hdep; have h20 : a.tmps.getD 20 undef = .pointer (some ⟨cb, 0, none⟩) := hdep 20; have h21 : a.tmps.getD 21 undef = .pointer (some ⟨cb, 0, none⟩) := hdep 21; have h22 : a.tmps.getD 22 undef = .pointer (some ⟨cb, 0, none⟩) := hdep 22; have h23 : a.tmps.getD 23 undef = .pointer (some ⟨cb, 0, none⟩) := hdep 23; have h24 : a.tmps.getD 24 undef = .slice A q cap := hdep 24; have h25 : a.tmps.getD 25 undef = .pointer (some ⟨wr.heap.size, 0, none⟩) := hdep 25; have h26 : a.tmps.getD 26 undef = .slice (some ⟨wr.heap.size + 1, 0, none⟩) 1 1 := hdep 26; obtain ⟨_, D27, e27, h27, m27⟩ := hdep 27; have h28 : a.tmps.getD 28 undef = .pointer (some ⟨cb, 0, none⟩) := hdep 28; have h29 : a.tmps.getD 29 undef = .pointer (some ⟨cb, 0, none⟩) := hdep 29; have hfr := hst.frame [(20, .pointer (some ⟨cb, 0, none⟩)), (21, .pointer (some ⟨cb, 0, none⟩)), (22, .pointer (some ⟨cb, 0, none⟩)), (23, .pointer (some ⟨cb, 0, none⟩)), (24, .slice A q cap), (25, .pointer (some ⟨wr.heap.size, 0, none⟩)), (26, .slice (some ⟨wr.heap.size + 1, 0, none⟩) 1 1), (27, .slice D27 (q + 1) e27), (28, .pointer (some ⟨cb, 0, none⟩)), (29, .pointer (some ⟨cb, 0, none⟩))] (by kernel_rfl) ⟨h20, h21, h22, h23, h24, h25, h26, h27, h28, h29, trivial⟩; clear hst hdep h20 h21 h22 h23 h24 h25 h26 h27 h28 h29; subst hfr; simp only [List.foldl_cons, List.foldl_nil, List.setIfInBounds_toArray, List.set_cons_zero, List.set_cons_succ]; have HNS2 := hid ((HFN.out u).1 (SN16.done hS (hLs 10 (by kernel_rfl)))); clear hS hLs; go_wp2_with fail; go_roundw
      case rel => exact ⟨q + 1, by omega, by go_num, HNS2⟩
      case measure => simp [intOf]; omega
  · obtain rfl : q = m := by omega
    obtain ⟨A, cap, bs, T, hns⟩ := hs.out
    have hA : ∃ g, A = some ⟨g, 0, none⟩ ∧ q ≤ cap := by
     rcases hns.own.2 with ⟨_, h2⟩ | ⟨g, cap', cur, hv, _, _, hle, _⟩
     · omega
     · injection hv with h1 _ h3; exact ⟨g, h1, by rw [h3]; exact hle⟩
    obtain ⟨g, rfl, hcap⟩ := hA; have hgb := hns.own.lt g rfl
    have hpt : ∀ i, i < q → wr.cell? ⟨g, i, none⟩ = some (.pointer (some ⟨bs i, 0, none⟩)) := fun i hi => by
     have h1 := hns.own.cells (g := g) rfl i _ (ptC_at bs hi); have ha : (⟨g, 0, none⟩ : Addr).add i = ⟨g, i, none⟩ := by unfold Addr.add; split <;> simp_all
     first | exact h1 | (rw [ha] at h1; exact h1)
    have HQ := hid (Many.op (i := 0) (x := leadNd newNd 1) hns.nd (by omega) fun S' hS' => rlead15_ok 1 hS'); have hp0 := hpt 0 (by omega); obtain ⟨t0, _⟩ := cellsAt hns.top 0 (v := .slice (some ⟨g, 0, none⟩) q cap) rfl; have HNS := hid hns; have HGB := hid hgb; have HPT := hid hpt; have hq1 : (0 : Int) < (q : Int) := by omega
    clear hs hns hgb hpt; go_wp2_with fail; refine HQ.out.mono ?_; rintro e w5 ⟨rfl, ht⟩; have HT := hid ht; clear ht HQ; go_wp2_with fail; go_ret2; have hns := HNS.out; obtain ⟨⟨T', k1, k2⟩, ko⟩ := HT.out; have hcbl : cb < wr.heap.size := (Array.getElem?_eq_some_iff.1 hns.top).1; have htb : ¬ T cb := fun e => by have := (hns.tt cb e).1; omega
    have htg : ¬ T g := fun e => (hns.tt g e).2 rfl; have hgl : g < wr.heap.size := HGB.out.2; have hcb := HCB.out; refine ⟨cb, rfl, ⟨fun k => k = cb ∨ k = g ∨ T' k, ⟨g, cap, bs, T', { top := (ko.block cb hcbl htb).trans hns.top, pt := fun i hi => (World.cell?_of_block (a := ⟨g, i, none⟩) (ko.block g hgl htg)).trans (HPT.out i hi), nd := k1, sb := .inl rfl, sg := .inr (.inl rfl), gb := by have := HGB.out.1; omega, tg := fun e => (k2 _ e).elim htg fun e => by omega, tb := fun e => (k2 _ e).elim htb fun e => by omega, ts := fun k e => .inr (.inr e), lt := fun k hk => ?_ }⟩, fun k hk => ?_⟩, hns.low.trans (ko.below (fun k e => by have := (hns.tt k e).1; omega) hns.low.size)⟩
    · have hz := ko.size; rcases hk with hk | hk | hk
      · omega
      · omega
      · exact (Many RN q bs _).lt k1 k hk
    · rcases hk with hk | hk | hk
      · omega
      · have := HGB.out.1; omega
      · rcases k2 k hk with e | e
        · have := (hns.tt k e).1; omega
        · have := hns.low.size; omega
theorem rcno_ok (n : Int) (w : World) (h : ¬ (1 ≤ n ∧ n ≤ 6)) :
 Calls Tryz.prog 11 #[.int .i64 n] w fun e w' => e = .returned (.tuple #[.pointer none, .int .i64 1]) ∧ w = w' := by
 by_cases h1 : n < 1
 · clear h; go_enter Tryz.func11, Tryz.ntmps11; go_wp2_with fail; go_ret2; exact ⟨rfl, rfl⟩
 · have h2 : 6 < n := by omega
   clear h; go_enter Tryz.func11, Tryz.ntmps11; go_wp2_with fail; go_ret2; exact ⟨rfl, rfl⟩
end

/- slices.IndexFunc, slices.ContainsFunc at a token's predicate: contracts. -/
section
open Go.RowKit
set_option maxRecDepth 100000
def TokPred (g : FuncId) (p : Tok → Bool) : Prop := ∀ (t : Tk) (w : World), Calls Tryz.prog g #[.agg #[.int .i64 t.k, .string t.t]] w fun e w' => e = .returned (.bool (p t.says)) ∧ Below w.heap.size w w'
def firstAt (p : Tok → Bool) (l : List Tok) : Int := match l.findIdx? p with | some k => (k : Int) | none => -1
theorem firstAt_hit {p : Tok → Bool} {l : List Tok} {k : Nat} (hk : k < l.length) (h : p l[k] = true) (hno : ∀ x ∈ l.take k, p x = false) : firstAt p l = (k : Int) := by
 have : l.findIdx? p = some k := by
  rw [List.findIdx?_eq_some_iff_getElem]; refine ⟨hk, h, fun j hj => ?_⟩; rw [hno _ (List.mem_iff_getElem.2 ⟨j, by rw [List.length_take]; omega, by rw [List.getElem_take]⟩)]; simp
 unfold firstAt; rw [this]
theorem firstAt_miss {p : Tok → Bool} {l : List Tok} (hno : ∀ x ∈ l, p x = false) : firstAt p l = -1 := by
 have : l.findIdx? p = none := by
  rw [List.findIdx?_eq_none_iff]; exact hno
 unfold firstAt; rw [this]
theorem firstAt_any (p : Tok → Bool) (l : List Tok) : decide (0 ≤ firstAt p l) = l.any p := by
 unfold firstAt
 cases h : l.findIdx? p with
 | none =>
   rw [List.findIdx?_eq_none_iff] at h; have : l.any p = false := by rw [List.any_eq_false]; intro x hx; rw [h x hx]; simp
   rw [this]; rfl
 | some k =>
   rw [List.findIdx?_eq_some_iff_getElem] at h; obtain ⟨hk, h1, _⟩ := h; have : l.any p = true := by rw [List.any_eq_true]; exact ⟨_, List.getElem_mem hk, h1⟩
   rw [this]; simp
theorem says_take (ts : List Tk) (k : Nat) : (saysT ts).take k = saysT (ts.take k) := by simp [saysT, List.map_take]
theorem says_at {ts : List Tk} {k : Nat} (h : k < ts.length) : (saysT ts)[k]'(by rw [saysT_length]; exact h) = ts[k].says := by simp [saysT]
set_option maxHeartbeats 400000 in
theorem indexFunc_ok (g : FuncId) (p : Tok → Bool) (hp : TokPred g p) (eg : ∀ args w, (callFunc g args).run Tryz.prog w = .ok (.enter g args) w) (A : Option Addr) (n c : Nat) (ts : List Tk) (w : World) (h : TR w A n ts) (hn : n ≤ 1000000) :
 Calls Tryz.prog 103 #[.slice A n c, .func (.func g) #[] #[]] w fun e w' => e = .returned (.int .i64 (firstAt p (saysT ts))) ∧ Below w.heap.size w w' := by
 have hlen := hid h.len; have hP := hid hp; clear hp; go_enter Tryz.func103, Tryz.ntmps103
 go_wp2
 go_loopw [8] (fun i wr => ∃ k : Nat, k ≤ n ∧ i = .int .i64 k ∧ Hid (∀ x ∈ (saysT ts).take k, p x = false) ∧ Below w.heap.size w wr) (fun i _ => n - (intOf i).toNat)
 case atStart => exact ⟨0, Nat.zero_le _, rfl, hid (by simp), Below.refl _ _⟩
 case round =>
  obtain ⟨k, hk, rfl, hno, kw⟩ := hrel; by_cases hlt : k < n
  · have hkl : k < ts.length := by rw [hlen.out]; exact hlt
    obtain ⟨ad, rfl, _, hcc⟩ := h.at_ hkl; obtain ⟨c0, c1⟩ := hcc _ kw; have hC := hid (hP.out ts[k] wr); have hks : k < (saysT ts).length := by rw [saysT_length]; exact hkl
    have hsa := says_at hkl; clear hcc
    cases hs : p ts[k].says with
    | false =>
      have hno2 : Hid (∀ x ∈ (saysT ts).take (k + 1), p x = false) := hid (by
       rw [List.take_succ_eq_append_getElem hks]; intro x hx; rcases List.mem_append.1 hx with h1 | h1
       · exact hno.out x h1
       · rw [List.mem_singleton.1 h1, hsa]; exact hs)
      rw [hs] at hC; clear hs hsa hno; generalize ts[k].k = x at *; generalize ts[k].t = s at *; go_wp2_with fail; refine hC.out.mono ?_; rintro e w1 ⟨rfl, k1⟩; go_wp2_with fail; go_roundw
      case rel => exact ⟨k + 1, by omega, by go_num, hno2, kp_trans kw k1⟩
      case measure => simp [intOf]; omega
    | true =>
      have hF := firstAt_hit hks (by rw [hsa]; exact hs) hno.out; have HF := hid hF; rw [hs] at hC; clear hs hsa hno hF; generalize ts[k].k = x at *; generalize ts[k].t = s at *; go_wp2_with fail; refine hC.out.mono ?_; rintro e w1 ⟨rfl, k1⟩; go_wp2_with fail; go_ret; exact ⟨by rw [HF.out]; rfl, kp_trans kw k1⟩
  · obtain rfl : k = n := by omega
    have h1 := hno.out; rw [List.take_of_length_le (by rw [saysT_length, hlen.out]; exact Nat.le_refl _)] at h1; have HF := hid (firstAt_miss h1); clear h1; go_wp2_with fail; go_ret; exact ⟨by rw [HF.out]; rfl, kw⟩
theorem containsFunc_ok (g : FuncId) (p : Tok → Bool) (hp : TokPred g p) (eg : ∀ args w, (callFunc g args).run Tryz.prog w = .ok (.enter g args) w) (A : Option Addr) (n c : Nat) (ts : List Tk) (w : World) (h : TR w A n ts) (hn : n ≤ 1000000) :
 Calls Tryz.prog 72 #[.slice A n c, .func (.func g) #[] #[]] w fun e w' => e = .returned (.bool ((saysT ts).any p)) ∧ Below w.heap.size w w' := by
 have hI := hid (indexFunc_ok g p hp eg A n c ts w h hn); have HF := hid (firstAt_any p (saysT ts)); generalize firstAt p (saysT ts) = r at *; go_enter Tryz.func72, Tryz.ntmps72; go_wp2_with fail; refine hI.out.mono ?_; rintro e w1 ⟨rfl, k1⟩; go_wp2_with fail; go_ret; exact ⟨ret_bool (by rw [← HF.out]), k1⟩
end
end Go.Proofs.YtdhnpmagapbmhaaGreatDoor
