/-
  Contracts and plain functions that the law stands on, part 13 of 24.
-/
import Derived.Test.YtdhnpmagapbmhaaGreatDoorQD12
import Derived.Deep.CutBlock
import Derived.KernelRfl
namespace Go.Proofs.YtdhnpmagapbmhaaGreatDoor
/- The document's layer 15: Copy: contracts (of two nodes; of one from itself). -/
section
open Go.RowKit
set_option maxRecDepth 100000
def lenV : Value → Nat
 | .slice _ n _ => n
 | _ => 0
section
variable {b f : Nat} {n fn : Nd} {S T : Nat → Prop} {w : World}
set_option maxHeartbeats 64000000 in
theorem rcopy15_ok (m : Int) (h : (RN b n).p S w) (hf : (RN f fn).p T w) (hd : ∀ k, S k → ¬ T k) (hl : n.lg.length ≤ 200) (hfl0 : fn.lg.length ≤ 200) :
 Calls Tryz.prog 64 #[.pointer (some ⟨b, 0, none⟩), .pointer (some ⟨f, 0, none⟩), .int .i64 m] w fun e w' => e = .returned (.int .i64 (copyNd n fn m).1) ∧ Lays b (copyNd n fn m).2 S w w' := by
 have HT := hid h; obtain ⟨AL, nl, cl, AO, no, co, os, hx0⟩ := h; obtain ⟨FL, fl, fc, FO, fo, fco, fos, hy0⟩ := hf; obtain ⟨c0, c1, c2, c3, f0, f1, f2, f3⟩ := hx0.tops; obtain ⟨d0, d1, d2, d3, _⟩ := hy0.tops; have HX := hid hx0; have HY := hid hy0; have HNL : Hid (n.lg.length = nl) := hid hx0.lg.len; have HFL : Hid (fn.lg.length = fl) := hid hy0.lg.len; have HNL2 : Hid (nl ≤ 200) := hid (by rw [← hx0.lg.len]; exact hl); have HFL2 : Hid (fl ≤ 200) := hid (by rw [← hy0.lg.len]; exact hfl0); have hfb : f ≠ b := fun e => hd b hx0.sb (e ▸ hy0.sb); have HDJ := hid hd; have hblt : b < w.heap.size := hx0.lt b hx0.sb; obtain ⟨i0, hi, hz0, hz1, hz2⟩ := info_parts entinfo; clear hx0 hy0 hd hl hfl0; by_cases hno : fn.ep < n.ep ∨ (fn.ep = n.ep ∧ n.ld = true)
 · rw [show copyNd n fn m = (0, n) from if_pos hno]; by_cases h1 : fn.ep < n.ep
   · have g1 : decide (fn.ep < n.ep) = true := decide_eq_true h1; clear hno; go_enter Tryz.func64, Tryz.ntmps64; go_wp2_with fail; go_quiet (fail); go_wp2_with fail; go_ret; exact ⟨rfl, ⟨_, Thing.next HT.out (kp_drewN _ _), fun _ h => .inl h⟩, Off.of _ (kp_drewN _ _)⟩
   · obtain ⟨h2, h3⟩ := hno.resolve_left h1; have g1 : decide (fn.ep < n.ep) = false := decide_eq_false h1; have g2 : (fn.ep == n.ep) = true := by simpa using h2
     rw [h3] at c1; clear hno h1 h2 h3; go_enter Tryz.func64, Tryz.ntmps64; go_wp2_with fail; go_quiet (fail); go_wp2_with fail; go_ret; exact ⟨rfl, ⟨_, Thing.next HT.out (kp_drewN _ _), fun _ h => .inl h⟩, Off.of _ (kp_drewN _ _)⟩
 · have HCP : Hid (copyNd n fn m = ((manyNd n fn m : Int), { turnNd n fn with lg := fn.lg.take (sameLg n.lg fn.lg + manyNd n fn m) })) := hid (if_neg hno); have g1 : decide (fn.ep < n.ep) = false := decide_eq_false fun h => hno (.inl h); go_enter Tryz.func64, Tryz.ntmps64
   go_upto_region 1 with fail
   go_cut [34] from 9 (fun s34 wx => s34 = .bool false ∧ Below w.heap.size w wx)
   case first =>
    by_cases h2 : fn.ep = n.ep
    · have hld : n.ld = false := by
       cases hl : n.ld with
       | false => rfl
       | true => exact absurd (.inr ⟨h2, hl⟩) hno
      rw [hld] at c1; have g2 : (fn.ep == n.ep) = true := by simpa using h2
      clear hno h2; go_quiet (fail); go_wp2_with fail; go_meet; exact ⟨rfl, kp_drewN w nq⟩
    · have g2 : (fn.ep == n.ep) = false := by simpa using h2
      clear hno h2; go_quiet (fail); go_wp2_with fail; go_meet; exact ⟨rfl, kp_drewN w nq⟩
   case rest =>
   obtain ⟨rfl, ka⟩ := hcut; obtain ⟨wa, rfl⟩ : ∃ u, u = wc := ⟨_, rfl⟩; obtain ⟨c0, c1, c2, c3, f0, f1, f2, f3⟩ := (HX.out.keep (fun k e => ka.block k (HX.out.lt k e)) ka.size).tops; obtain ⟨d0, d1, d2, d3, _⟩ := (HY.out.keep (fun k e => ka.block k (HY.out.lt k e)) ka.size).tops; obtain ⟨gz, hgz⟩ : ∃ z, decide (n.ep < fn.ep) = z := ⟨_, rfl⟩; have HGZ := hid hgz; have HKA0 := hid ka; clear ka hno
   go_upto_region 3 with fail
   go_quiet (fail); obtain ⟨wy, hwy⟩ : ∃ u, wa.drewN nq = u := ⟨_, rfl⟩; have ky : Below w.heap.size w wy := HKA0.out.trans ((hwy ▸ kp_drewN wa nq : Below wa.heap.size wa wy).mono HKA0.out.size); rw [hwy]; have hxy := HX.out.keep (fun k e => ky.block k (HX.out.lt k e)) ky.size; have hyy := HY.out.keep (fun k e => ky.block k (HY.out.lt k e)) ky.size; obtain ⟨c0, c1, c2, c3, f0, f1, f2, f3⟩ := hxy.tops; obtain ⟨d0, d1, d2, d3, _⟩ := hyy.tops; clear hgz hwy
   go_upto_if 43 with fail
   go_cut [6] from 9 (fun s6 wx => s6 = .int .i64 0 ∧ ∃ (te : Int) (tl : Bool) (tp : List Op15) (AO1 : Option Addr) (no1 co1 : Nat) (os1 : List OpR), turnNd n fn = ⟨te, tl, n.lg, tp⟩ ∧ Hid (RNx b ⟨te, tl, n.lg, tp⟩ AL nl cl AO1 no1 co1 os1 S wx) ∧ Hid (Off (fun k => k = b) w wx) ∧ Hid (RNx f fn FL fl fc FO fo fco fos T wx))
   case first =>
    cases gz with
    | true =>
      have h4 : n.ep < fn.ep := of_decide_eq_true HGZ.out; obtain ⟨wz, hwz⟩ : ∃ u, ((wy.setCell ⟨b, 0, none⟩ (.int .u64 fn.ep)).setCell ⟨b, 1, none⟩ (.bool false)).setCell ⟨b, 3, none⟩ (.slice none 0 0) = u := ⟨_, rfl⟩; have hz : wz.heap.size = wy.heap.size := by rw [← hwz, set_size, set_size, set_size]
      have hoth : ∀ k, k ≠ b → wz.heap[k]? = wy.heap[k]? := fun k hk => by rw [← hwz]; exact (set_other hk).trans ((set_other hk).trans (set_other hk))
      have HXZ : Hid (RNx b ⟨fn.ep, false, n.lg, []⟩ AL nl cl none 0 0 [] S wz) := hid (hxy.noop fn.ep false (by rw [← hwz]; exact heap_setCell_same _ b 3 _ _ (.slice none 0 0) (heap_setCell_same _ b 1 _ _ (.bool false) (heap_setCell_same wy b 0 _ _ (.int .u64 fn.ep) hxy.top))) (fun k _ hk => hoth k hk) (by rw [hz]; exact Nat.le_refl _)); have HZW : Hid (Off (fun k => k = b) w wz) := hid (by rw [← hwz]; exact Off.setCell (S := fun k => k = b) (p := ⟨b, 3, none⟩) (Off.setCell (S := fun k => k = b) (p := ⟨b, 1, none⟩) (Off.setCell (S := fun k => k = b) (p := ⟨b, 0, none⟩) (Off.of (fun k => k = b) ky) (.inl rfl) _) (.inl rfl) _) (.inl rfl) _); have HYZ := hid (hyy.keep (w' := wz) (fun k e => hoth k fun e2 => HDJ.out b HX.out.sb (e2 ▸ e)) (by rw [hz]; exact Nat.le_refl _)); have HWZ := hid hwz; have HH4 := hid h4; clear hxy hyy hz hoth hwz ky h4; go_wp2_with fail; rw [HWZ.out]; go_meet; exact ⟨rfl, fn.ep, false, [], none, 0, 0, [], if_pos HH4.out, HXZ, HZW, HYZ⟩
    | false =>
      have HXZ := hid hxy; have HYZ := hid hyy; have HZW : Hid (Off (fun k => k = b) w wy) := hid (Off.of _ ky); clear hxy hyy ky; go_wp2_with fail; go_meet; exact ⟨rfl, n.ep, n.ld, n.op, AO, no, co, os, if_neg (of_decide_eq_false HGZ.out), HXZ, HZW, HYZ⟩
   case rest =>
   clear hxy hyy ky HGZ c0 c1 c2 c3 f0 f1 f2 f3 d0 d1 d2 d3 g1 HKA0; obtain ⟨rfl, te, tl, tp, AO1, no1, co1, os1, htn, HXZ, HZW, HYZ⟩ := hcut; rw [htn] at HCP; obtain ⟨wz, rfl⟩ : ∃ u, u = wc := ⟨_, rfl⟩; clear htn
   have HFZ : Hid (∀ u, Below wz.heap.size wz u → u.cell? ⟨f, 2, none⟩ = some (.slice FL fl fc) ∧ LR u FL fl fn.lg) := hid fun u hu => by
    have h := HYZ.out.keep (fun k e => hu.block k (HYZ.out.lt k e)) hu.size; exact ⟨h.tops.2.2.1, h.lg⟩
   have HO0 : Hid ((wz.alloc (.cells #[] 100)).ownsRow wz.heap.size 100 2 (.slice (some ⟨wz.heap.size, 0, none⟩) 0 0) 0 (lgC (n.lg.take 0))) := hid (own_new_s wz wz.heap.size 2 100 0 [] rfl (Nat.le_refl _) (Nat.zero_le _)); have HK0 := hid (kp_new wz (.cells #[] 100))
   go_upto_block 0 with fail
   go_cut [7] from 9 (fun s7 wx => ∃ (k e : Nat) (D : Option Addr), s7 = .slice D (k + 0) e ∧ k ≤ fl ∧ Hid (sameLg n.lg fn.lg = k) ∧ Hid (wx.ownsRow wz.heap.size 100 2 (.slice D (k + 0) e) (k + 0) (lgC (fn.lg.take (k + 0)))) ∧ Hid (Below wz.heap.size wz wx))
   case first =>
    go_wp2_with fail
    go_loopw [7] (fun l wr => ∃ (k e : Nat) (D : Option Addr), l = .slice D k e ∧ k ≤ sameLg n.lg fn.lg ∧ Hid (wr.ownsRow wz.heap.size 100 2 (.slice D k e) k (lgC (n.lg.take k))) ∧ Hid (Below wz.heap.size wz wr)) (fun l _ => nl - lenV l)
    case atStart => exact ⟨0, 0, _, rfl, Nat.zero_le _, HO0, HK0⟩
    case round =>
     obtain ⟨k, e, D, rfl, hks, ho, hw⟩ := hrel; clear HO0 HK0; obtain ⟨_, _, y2, _⟩ := (HXZ.out.keep (fun k e => hw.out.block k (HXZ.out.lt k e)) hw.out.size).tops; obtain ⟨z2, hfl⟩ := HFZ.out wr hw.out; have hkn : k ≤ nl := by have := (sameLg_le n.lg fn.lg).1; have := HNL.out; omega
     have hkf : k ≤ fl := by have := (sameLg_le n.lg fn.lg).2; have := HFL.out; omega
     by_cases hlt : k < nl ∧ k < fl
     · obtain ⟨h1, h2⟩ := hlt; have hkl : k < n.lg.length := by rw [HNL.out]; exact h1
       have hkl2 : k < fn.lg.length := by rw [HFL.out]; exact h2
       have hlr : LR wr AL nl n.lg := (HXZ.out.keep (fun k e => hw.out.block k (HXZ.out.lt k e)) hw.out.size).lg; obtain ⟨ad, rfl, hadl, hc⟩ := hlr.at_ (j := k) hkl; obtain ⟨ad', hA', _, hc'⟩ := hfl.at_ hkl2; first | subst hA' | (injection hA' with hA'; subst hA')
       obtain ⟨c0, c1⟩ := hc _ (Below.refl _ _); obtain ⟨d0, d1⟩ := hc' _ (Below.refl _ _); have g1 : decide ((k : Int) < (nl : Int)) = true := decide_eq_true (by omega); have g2 : decide ((k : Int) < (fl : Int)) = true := decide_eq_true (by omega); have g3 : (k : Int) < (nl : Int) := by omega
       have g4 : (k : Int) < (fl : Int) := by omega
       have g5 : (0 : Int) ≤ (k : Int) := by omega
       have hE := fun u => eql_ents 100 rfl n.lg[k].e fn.lg[k].e n.lg[k].t fn.lg[k].t u; by_cases hee : n.lg[k] = fn.lg[k]
       · have hd : decide ((⟨n.lg[k].e, n.lg[k].t⟩ : Lg) = ⟨fn.lg[k].e, fn.lg[k].t⟩) = true := decide_eq_true hee; rw [hd] at hE
         have hks2 : k + 1 ≤ sameLg n.lg fn.lg := by
          rcases Nat.lt_or_ge k (sameLg n.lg fn.lg) with h | h
          · exact h
          · have e1 : sameLg n.lg fn.lg = k := by omega
            have hne := sameLg_ne n.lg fn.lg (by omega) (by omega); simp only [e1] at hne; exact absurd hee hne
         have HNX : Hid (lgC (n.lg.take (k + 1)) = lgC (n.lg.take k) ++ [.int .u64 n.lg[k].e, .string n.lg[k].t]) := hid (by
          rw [List.take_succ_eq_append_getElem hkl, lgC_append]
          rfl)
         have HSM : Hid (k ≤ 1000) := hid (by have := HNL2.out; omega); clear hee hd hc hc' hlr hfl; generalize n.lg[k].e = x at *; generalize fn.lg[k].e = x' at *; generalize n.lg[k].t = s at *; generalize fn.lg[k].t = s' at *; go_wp2_with fail; go_quiet (fail); obtain ⟨wq, hwq⟩ : ∃ u, wr.drewN nq = u := ⟨_, rfl⟩; have kq : Below wr.heap.size wr wq := hwq ▸ kp_drewN wr nq; rw [hwq]; have hbq := hw.out.trans (kq.mono hw.out.size); obtain ⟨_, _, y2, _⟩ := (HXZ.out.keep (fun k e => hbq.block k (HXZ.out.lt k e)) hbq.size).tops; have c0' := (World.cell?_of_block (a := ad.add (k * 2)) (kq.block _ (by rw [add_block]; exact hadl))).trans c0; have c1' := (World.cell?_of_block (a := ⟨(ad.add (k * 2)).block, (ad.add (k * 2)).off + 1, none⟩) (kq.block _ (by show (ad.add (k * 2)).block < _; rw [add_block]; exact hadl))).trans c1; have HO1 := hid ((own_below_s ho.out kq (Nat.le_refl _)).alloc (.cells #[.int .u64 x, .string s] 100)); have HR1 : Hid (Rd (wq.alloc (.cells #[.int .u64 x, .string s] 100)) (wq.heap.size + 1) (some ⟨wq.heap.size, 0, none⟩) [.int .u64 x, .string s]) := hid (Rd.new wq 100 [.int .u64 x, .string s]); have HKA := hid (hbq.alloc hbq.size (.cells #[.int .u64 x, .string s] 100)); have HS1 := hid HKA.out.size; clear c0 c1 d0 d1 hbq hwq kq ho hw z2; go_wp2_with (at_builtin; refine wpList_append_rds rfl (.tmp 95) (.tmp 104) _ rfl wz.heap.size 100 i0 _ 2 24 Tryz.underlying53 hi hz0 hz1 hz2 rfl (by omega) _ k _ rfl HO1.out _ _ 1 _ [.int .u64 x, .string s] rfl rfl HR1.out (by simp [Value.oneCell']) (by have := HSM.out; unfold maxLen; omega) (by have := HSM.out; omega) HS1.out ?_; intro v3 w3 hown3 hg3; obtain ⟨D3, e3, rfl, _, _⟩ := own_form_s hown3; have HO3 := hid hown3; have HK3 := hid (HKA.out.trans (below_own_s HO1.out hg3 HS1.out)); clear hown3 hg3); go_roundw
         case rel => exact ⟨k + 1, e3, D3, rfl, hks2, hid (by rw [HNX.out]; exact HO3.out), HK3⟩
         case measure => simp [lenV]; omega
       · have hd : decide ((⟨n.lg[k].e, n.lg[k].t⟩ : Lg) = ⟨fn.lg[k].e, fn.lg[k].t⟩) = false := decide_eq_false hee; rw [hd] at hE
         have HSA : Hid (sameLg n.lg fn.lg = k) := hid (by
          rcases Nat.lt_or_ge k (sameLg n.lg fn.lg) with h | h
          · exact absurd (sameLg_at n.lg fn.lg k hkl hkl2 h) hee
          · omega)
         clear hee hd hc hc' hlr hfl hks; generalize n.lg[k].e = x at *; generalize fn.lg[k].e = x' at *; generalize n.lg[k].t = s at *; generalize fn.lg[k].t = s' at *; go_wp2_with fail; go_quiet (fail); obtain ⟨wq, hwq⟩ : ∃ u, wr.drewN nq = u := ⟨_, rfl⟩; have kq : Below wr.heap.size wr wq := hwq ▸ kp_drewN wr nq; rw [hwq]; have HWB : Hid (Below wz.heap.size wz wq) := hid (hw.out.trans (kq.mono hw.out.size)); have hoq := own_below_s ho.out kq (Nat.le_refl _)
         have HOQ : Hid (wq.ownsRow wz.heap.size 100 2 (.slice D k e) (k + 0) (lgC (fn.lg.take (k + 0)))) := hid (by
          have h1 := sameLg_take n.lg fn.lg; rw [HSA.out] at h1; rw [Nat.add_zero, ← h1]
          exact hoq)
         clear hwq kq ho hw hoq; go_wp2_with fail; go_meet; exact ⟨k, e, D, rfl, hkf, HSA, HOQ, HWB⟩
     · have HSA : Hid (sameLg n.lg fn.lg = k) := hid (by
        have h1 := (sameLg_le n.lg fn.lg).1; have h2 := (sameLg_le n.lg fn.lg).2; have := HNL.out; have := HFL.out
        omega)
       clear hks hfl; by_cases h1 : k < nl
       · have h2 : ¬ k < fl := fun h => hlt ⟨h1, h⟩; have g1 : decide ((k : Int) < (nl : Int)) = true := decide_eq_true (by omega); have g2 : decide ((k : Int) < (fl : Int)) = false := decide_eq_false (by omega); have g3 : (k : Int) < (nl : Int) := by omega
         have g4 : ¬ (k : Int) < (fl : Int) := by omega
         clear hlt; go_wp2_with fail; go_quiet (fail); clear g1 g2 g3 g4 h1 h2; obtain ⟨wq, hwq⟩ : ∃ u, wr.drewN nq = u := ⟨_, rfl⟩; have kq : Below wr.heap.size wr wq := hwq ▸ kp_drewN wr nq; rw [hwq]; have HWB : Hid (Below wz.heap.size wz wq) := hid (hw.out.trans (kq.mono hw.out.size)); have hoq := own_below_s ho.out kq (Nat.le_refl _)
         have HOQ : Hid (wq.ownsRow wz.heap.size 100 2 (.slice D k e) (k + 0) (lgC (fn.lg.take (k + 0)))) := hid (by
          have h1 := sameLg_take n.lg fn.lg; rw [HSA.out] at h1; rw [Nat.add_zero, ← h1]
          exact hoq)
         clear hwq kq ho hw hoq; go_wp2_with fail; go_meet; exact ⟨k, e, D, rfl, hkf, HSA, HOQ, HWB⟩
       · have g1 : decide ((k : Int) < (nl : Int)) = false := decide_eq_false (by omega); have g3 : ¬ (k : Int) < (nl : Int) := by omega
         clear hlt; go_wp2_with fail; go_quiet (fail); clear g1 g3 h1; obtain ⟨wq, hwq⟩ : ∃ u, wr.drewN nq = u := ⟨_, rfl⟩; have kq : Below wr.heap.size wr wq := hwq ▸ kp_drewN wr nq; rw [hwq]; have HWB : Hid (Below wz.heap.size wz wq) := hid (hw.out.trans (kq.mono hw.out.size)); have hoq := own_below_s ho.out kq (Nat.le_refl _)
         have HOQ : Hid (wq.ownsRow wz.heap.size 100 2 (.slice D k e) (k + 0) (lgC (fn.lg.take (k + 0)))) := hid (by
          have h1 := sameLg_take n.lg fn.lg; rw [HSA.out] at h1; rw [Nat.add_zero, ← h1]
          exact hoq)
         clear hwq kq ho hw hoq; go_wp2_with fail; go_meet; exact ⟨k, e, D, rfl, hkf, HSA, HOQ, HWB⟩
   case rest =>
   obtain ⟨k, e, D, rfl, hkf2, HSA, HOQ, HWB⟩ := hcut
   have hmn : manyNd n fn m = min (fl - k) m.toNat := by
    unfold manyNd; rw [HSA.out, HFL.out]
   have HMN := hid hmn; have hfl2 := HFL2.out; clear hmn HO0 HK0; go_wp2_with fail
   go_loopw [7, 8] (fun l i wr => ∃ (q e : Nat) (D : Option Addr), l = .slice D (k + q) e ∧ i = .int .i64 q ∧ q ≤ manyNd n fn m ∧ Hid (wr.ownsRow wz.heap.size 100 2 (.slice D (k + q) e) (k + q) (lgC (fn.lg.take (k + q)))) ∧ Hid (Below wz.heap.size wz wr)) (fun _ i _ => fl - (intOf i).toNat)
   case atStart => exact ⟨0, e, D, rfl, rfl, Nat.zero_le _, HOQ, HWB⟩
   case round =>
    obtain ⟨q, e, D, rfl, rfl, hq, ho, hw⟩ := hrel; clear HOQ HWB; obtain ⟨z2, hfl⟩ := HFZ.out wr hw.out; by_cases h5 : k + q < fl
    · by_cases h6 : (q : Int) < m
      · have g6 : ((k + q : Nat) : Int) < (fl : Int) := by omega
        have hq2 : q + 1 ≤ manyNd n fn m := by rw [HMN.out]; omega
        have hkl2 : k + q < fn.lg.length := by rw [HFL.out]; exact h5
        obtain ⟨ad', hA', hadl', hc'⟩ := hfl.at_ hkl2; first | subst hA' | (injection hA' with hA'; subst hA')
        obtain ⟨d0, d1⟩ := hc' _ (Below.refl _ _)
        have HNX : Hid (lgC (fn.lg.take (k + q + 1)) = lgC (fn.lg.take (k + q)) ++ [.int .u64 fn.lg[k + q].e, .string fn.lg[k + q].t]) := hid (by
         rw [List.take_succ_eq_append_getElem hkl2, lgC_append]
         rfl)
        have HSM : Hid (k + q ≤ 1000) := hid (by omega); have g5 : (0 : Int) ≤ ((k + q : Nat) : Int) := by omega
        clear hc' hfl; generalize fn.lg[k + q].e = x at *; generalize fn.lg[k + q].t = s at *; have HO1 := hid (ho.out.alloc (.cells #[.int .u64 x, .string s] 100)); have HR1 : Hid (Rd (wr.alloc (.cells #[.int .u64 x, .string s] 100)) (wr.heap.size + 1) (some ⟨wr.heap.size, 0, none⟩) [.int .u64 x, .string s]) := hid (Rd.new wr 100 [.int .u64 x, .string s]); have HKA := hid (hw.out.alloc hw.out.size (.cells #[.int .u64 x, .string s] 100)); have HS1 := hid HKA.out.size; clear ho hw; go_wp2_with (at_builtin; refine wpList_append_rds rfl (.tmp 119) (.tmp 128) _ rfl wz.heap.size 100 i0 _ 2 24 Tryz.underlying53 hi hz0 hz1 hz2 rfl (by omega) _ (k + q) _ rfl HO1.out _ _ 1 _ [.int .u64 x, .string s] rfl rfl HR1.out (by simp [Value.oneCell']) (by have := HSM.out; unfold maxLen; omega) (by have := HSM.out; omega) HS1.out ?_; intro v3 w3 hown3 hg3; obtain ⟨D3, e3, rfl, _, _⟩ := own_form_s hown3; have HO3 := hid hown3; have HK3 := hid (HKA.out.trans (below_own_s HO1.out hg3 HS1.out)); clear hown3 hg3); go_roundw
        case rel => exact ⟨q + 1, e3, D3, rfl, by go_num, hq2, hid (by show World.ownsRow _ _ _ _ _ (k + q + 1) (lgC (fn.lg.take (k + q + 1))); rw [HNX.out]; exact HO3.out), HK3⟩
        case measure => simp [intOf]; omega
      · have hqe : q = manyNd n fn m := by rw [HMN.out] at hq ⊢; omega
        have g6 : ((k + q : Nat) : Int) < (fl : Int) := by omega
        clear hfl; have hrx := HXZ.out.keep (fun k e => hw.out.block k (HXZ.out.lt k e)) hw.out.size; obtain ⟨_, _, y2, _, _, _, f2, _⟩ := hrx.tops; have hb6 := heap_setCell_same wr b 2 _ _ (.slice D (k + q) e) hrx.top; have ho6 : (wr.setCell ⟨b, 2, none⟩ (.slice D (k + q) e)).ownsRow wz.heap.size 100 2 (.slice D (k + q) e) (k + q) (lgC (fn.lg.take (k + q))) := ownsRow_setCell_other (a := ⟨b, 2, none⟩) ho.out (own_type_ne ho.out hrx.top (by decide)) _; have hof : Off (fun k => k = b) wz (wr.setCell ⟨b, 2, none⟩ (.slice D (k + q) e)) := Off.setCell (S := fun k => k = b) (p := ⟨b, 2, none⟩) (Off.of (fun k => k = b) hw.out) (.inl rfl) _; have hrl := HXZ.out.relog hb6 (LR.of_own ho6) (fun ad e => by subst e; exact ho6.lt _ rfl) (fun k hk hkb => hof.block k (HXZ.out.lt k hk) hkb) hof.size
        have HFIN : Hid (Lays b (copyNd n fn m).2 S w (wr.setCell ⟨b, 2, none⟩ (.slice D (k + q) e))) := hid (by
         rw [HCP.out, HSA.out, ← hqe]; have hz := HZW.out.size
         exact ⟨⟨_, ⟨_, _, _, _, _, _, _, hrl⟩, fun k hk => hk.elim (fun e => .inl e) (fun e => .inr (by omega))⟩, HZW.out.trans hof fun _ h => .inl h⟩)
        have HQE : Hid ((copyNd n fn m).1 = (q : Int)) := hid (by rw [HCP.out, ← hqe]); clear hrx hb6 ho6 hof hrl hqe ho hw hq; go_wp2_with fail; go_ret; exact ⟨by rw [HQE.out]; rfl, HFIN.out⟩
    · have hqe : q = manyNd n fn m := by rw [HMN.out] at hq ⊢; omega
      have g6 : ¬ ((k + q : Nat) : Int) < (fl : Int) := by omega
      clear hfl; have hrx := HXZ.out.keep (fun k e => hw.out.block k (HXZ.out.lt k e)) hw.out.size; obtain ⟨_, _, y2, _, _, _, f2, _⟩ := hrx.tops; have hb6 := heap_setCell_same wr b 2 _ _ (.slice D (k + q) e) hrx.top; have ho6 : (wr.setCell ⟨b, 2, none⟩ (.slice D (k + q) e)).ownsRow wz.heap.size 100 2 (.slice D (k + q) e) (k + q) (lgC (fn.lg.take (k + q))) := ownsRow_setCell_other (a := ⟨b, 2, none⟩) ho.out (own_type_ne ho.out hrx.top (by decide)) _; have hof : Off (fun k => k = b) wz (wr.setCell ⟨b, 2, none⟩ (.slice D (k + q) e)) := Off.setCell (S := fun k => k = b) (p := ⟨b, 2, none⟩) (Off.of (fun k => k = b) hw.out) (.inl rfl) _; have hrl := HXZ.out.relog hb6 (LR.of_own ho6) (fun ad e => by subst e; exact ho6.lt _ rfl) (fun k hk hkb => hof.block k (HXZ.out.lt k hk) hkb) hof.size
      have HFIN : Hid (Lays b (copyNd n fn m).2 S w (wr.setCell ⟨b, 2, none⟩ (.slice D (k + q) e))) := hid (by
       rw [HCP.out, HSA.out, ← hqe]; have hz := HZW.out.size
       exact ⟨⟨_, ⟨_, _, _, _, _, _, _, hrl⟩, fun k hk => hk.elim (fun e => .inl e) (fun e => .inr (by omega))⟩, HZW.out.trans hof fun _ h => .inl h⟩)
      have HQE : Hid ((copyNd n fn m).1 = (q : Int)) := hid (by rw [HCP.out, ← hqe]); clear hrx hb6 ho6 hof hrl hqe ho hw hq; go_wp2_with fail; go_ret; exact ⟨by rw [HQE.out]; rfl, HFIN.out⟩
end
end

/- Layer 15: the law's own: contract. -/
section
open Go.RowKit
set_option maxRecDepth 100000
structure P3 (w : World) (A : Option Addr) (bs : Nat → Nat) : Prop where
 rd : Rd w w.heap.size A [.pointer (some ⟨bs 0, 0, none⟩), .pointer (some ⟨bs 1, 0, none⟩), .pointer (some ⟨bs 2, 0, none⟩)]
section
variable {a b : Nat} {W u : World} {G F : World → Prop} {L : Nat → Bool}
end
theorem Turn.ahead {Y : Thing} {S : Nat → Prop} {w u w' : World} (ht : Turn Y S u w') (hb : Below w.heap.size w u) : Turn Y S w w' := by
 obtain ⟨⟨S', h1, h2⟩, h3⟩ := ht; exact ⟨⟨S', h1, fun k hk => (h2 k hk).imp id fun e => Nat.le_trans hb.size e⟩, (Off.of S hb).trans h3 fun i hi => .inl hi⟩
theorem Turn.behind {Y : Thing} {S : Nat → Prop} {w w3 w5 w6 : World} {xb : Nat} (hxb : w.heap.size = xb) (hz : w3.heap.size = xb + 3) (hb : Below w.heap.size w w3) (hs : ∀ k, S k → k < w.heap.size) (ht : Turn Y S w3 w5) (ho : Off (fun k => xb ≤ k ∧ k < xb + 3) w5 w6) : Turn Y S w w6 := by
 obtain ⟨⟨S', h1, h2⟩, h3⟩ := ht; refine ⟨⟨S', Thing.off h1 ho fun k hk e => ?_, fun k hk => ?_⟩, ((Off.of S hb).trans h3 fun i hi => .inl hi).trans ho fun i hi => .inr (by omega)⟩
 · rcases h2 k hk with h | h
   · have := hs k h; omega
   · omega
 · rcases h2 k hk with h | h
   · exact .inl h
   · exact .inr (by omega)
section
variable {bs : Nat → Nat} {ns : Nat → Nd} {S : Nat → Prop} {w : World} {k : Nat}
end
end

/- Three things, one of which is asked for a row; a row that is told, and what is done behind it (no function of the program is named here). -/
section
open Go.RowKit
set_option maxRecDepth 100000
section
variable {α : Type} {P : Program} {w0 w w' : World} {X X' : Thing} {Y : Nat → α → Thing} {bs : Nat → Nat} {ns : Nat → α} {N S : Nat → Prop}
theorem upd3_self (ns : Nat → α) (i : Nat) : upd3 ns i (ns i) = ns := funext fun j => by
 unfold upd3; split
 · rename_i h; rw [h]
 · rfl
end
theorem Turn.none {Y : Thing} {S : Nat → Prop} {w w' : World} (h : Turn Y S w w') : Told1 Y S none w w' := by
 obtain ⟨⟨S', h1, h2⟩, h3⟩ := h; exact ⟨⟨S', h1, h2, fun ad h => by cases h⟩, h3⟩
theorem Told1.below {Y : Thing} {S : Nat → Prop} {A : Option Addr} {w w' w'' : World} (h : Told1 Y S A w w') (hb : Below w'.heap.size w' w'') : Told1 Y S A w w'' := by
 obtain ⟨⟨S', h1, h2, h4⟩, h3⟩ := h; exact ⟨⟨S', Thing.next h1 hb, h2, fun ad hA => ⟨(h4 ad hA).1, Nat.lt_of_lt_of_le (h4 ad hA).2.1 hb.size, (h4 ad hA).2.2⟩⟩, h3.trans (Off.of (fun _ => False) hb) fun _ h => h.elim⟩
theorem Told1.behind {Y : Thing} {S : Nat → Prop} {A : Option Addr} {w w3 w5 w6 : World} {xb : Nat} (hxb : w.heap.size = xb) (hz : w3.heap.size = xb + 3) (hb : Below w.heap.size w w3) (hs : ∀ k, S k → k < w.heap.size) (ht : Told1 Y S A w3 w5) (ho : Off (fun k => xb ≤ k ∧ k < xb + 3) w5 w6) : Told1 Y S A w w6 := by
 obtain ⟨⟨S', h1, h2, h4⟩, h3⟩ := ht; refine ⟨⟨S', Thing.off h1 ho fun k hk e => ?_, fun k hk => ?_, fun ad hA => ⟨by have := (h4 ad hA).1; omega, Nat.lt_of_lt_of_le (h4 ad hA).2.1 ho.size, (h4 ad hA).2.2⟩⟩, ((Off.of S hb).trans h3 fun i hi => .inl hi).trans ho fun i hi => .inr (by omega)⟩
 · rcases h2 k hk with h | h
   · have := hs k h; omega
   · omega
 · rcases h2 k hk with h | h
   · exact .inl h
   · exact .inr (by omega)
end

/- Layer 15: the law's do, over NodeC: contract. -/
section
open Go.RowKit
set_option maxRecDepth 100000
section
variable {X : Nat → Nd → Thing} {bs : Nat → Nat} {ns : Nat → Nd} {S : Nat → Prop} {w : World} {k : Nat}
end
end

/- Layer 15: three new nodes: contracts (the law's nodes; three of the document's). -/
section
open Go.RowKit
set_option maxRecDepth 100000
section
variable {X : Nat → Nd → Thing} {w : World}
end
end

/- Layer 15: the texts that the law's own calls say, plain. -/
section
open Go.RowKit
set_option maxRecDepth 100000
end

/- Layer 15: the law's own calls: they answer so. -/
section
open Go.RowKit
set_option maxRecDepth 100000
section
variable {P : Program} {w0 w w' : World} {X X' Y : Thing} {N K : Nat → Prop}
theorem Duo.told {f : FuncId} {args : Array Value} {Q : Ending → World → Option Addr → Nat → Nat → Prop} (h : Duo w0 X Y N w) (hop : ∀ S, X.p S w → Calls P f args w fun e w' => ∃ A m d, Q e w' A m d ∧ Told1 X' S A w w') :
 Calls P f args w fun e w' => ∃ A m d, Q e w' A m d ∧ Duo w0 X' Y (fun k => (∃ ad, A = some ad ∧ k = ad.block) ∨ N k) w' ∧ ∀ k, N k → w'.heap[k]? = w.heap[k]? := by
 obtain ⟨⟨S, T, h1, h2, h3, h4⟩, h5, h6⟩ := h; refine (hop S h1).mono fun e w' ⟨A, m, d, hq, ⟨S', g1, g2, g4⟩, g3⟩ => ⟨A, m, d, hq, ⟨⟨S', T, g1, Thing.off h2 g3 (fun k hk hk2 => h3 k hk2 hk), fun k hk hk2 => ?_, fun k hk => ?_⟩, h5.trans (g3.below (fun k hk => (h4 k (.inl hk)).1) h5.size), fun k hk => ?_⟩, fun k hk => g3.block k (h6 k hk) fun e => (h4 k (.inl e)).2 hk⟩
 · rcases g2 k hk with e | e
   · exact h3 k e hk2
   · have := Y.lt h2 k hk2; omega
 · have hz := h5.size; rcases hk with hk | hk
   · refine ⟨?_, fun hN => ?_⟩
     · rcases g2 k hk with e | e
       · exact (h4 k (.inl e)).1
       · omega
     · rcases hN with ⟨ad, hA, rfl⟩ | hN
       · exact (g4 ad hA).2.2 hk
       · rcases g2 k hk with e | e
         · exact (h4 k (.inl e)).2 hN
         · have := h6 k hN; omega
   · refine ⟨(h4 k (.inr hk)).1, fun hN => ?_⟩; rcases hN with ⟨ad, hA, rfl⟩ | hN
     · have := (g4 ad hA).1; have := Y.lt h2 _ hk; omega
     · exact (h4 k (.inr hk)).2 hN
 · rcases hk with ⟨ad, hA, rfl⟩ | hk
   · exact (g4 ad hA).2.1
   · exact Nat.lt_of_lt_of_le (h6 k hk) g3.size
theorem Duo.poke (h : Duo w0 X Y N w) (ho : Off K w w') (hK : ∀ k, K k → N k ∧ w0.heap.size ≤ k) : Duo w0 X Y N w' := by
 obtain ⟨⟨S, T, h1, h2, h3, h4⟩, h5, h6⟩ := h; exact ⟨⟨S, T, Thing.off h1 ho (fun k hk e => (h4 k (.inl hk)).2 (hK k e).1), Thing.off h2 ho (fun k hk e => (h4 k (.inr hk)).2 (hK k e).1), h3, h4⟩, h5.trans (ho.below (fun k hk => (hK k hk).2) h5.size), fun k hk => Nat.lt_of_lt_of_le (h6 k hk) ho.size⟩
end
def At15 (l : List (Nat × Obj)) (N : Nat → Prop) (u : World) : Prop := ∀ p ∈ l, N p.1 ∧ u.heap[p.1]? = some p.2
theorem At15.kept {l : List (Nat × Obj)} {N : Nat → Prop} {u u' : World} (h : At15 l N u) (hk : ∀ k, N k → u'.heap[k]? = u.heap[k]?) : At15 l N u' := fun p hp => ⟨(h p hp).1, (hk _ (h p hp).1).trans (h p hp).2⟩
theorem At15.wide {l : List (Nat × Obj)} {N N' : Nat → Prop} {u : World} (h : At15 l N u) (hk : ∀ k, N k → N' k) : At15 l N' u := fun p hp => ⟨hk _ (h p hp).1, (h p hp).2⟩
theorem Duo.told15 {P : Program} {w0 u : World} {X X' Y : Thing} {N : Nat → Prop} {l : List (Nat × Obj)} {f : FuncId} {args : Array Value} {Q : Ending → World → Option Addr → Nat → Nat → Prop} (h : Duo w0 X Y N u) (hl : At15 l N u) (hop : ∀ S, X.p S u → Calls P f args u fun e w' => ∃ A m d, Q e w' A m d ∧ Told1 X' S A u w') :
 Calls P f args u fun e u' => ∃ A m d N', Q e u' A m d ∧ Duo w0 X' Y N' u' ∧ At15 l N' u' ∧ (∀ ad, A = some ad → N' ad.block) ∧ (∀ k, N k → N' k ∧ u'.heap[k]? = u.heap[k]?) ∧ u.heap.size ≤ u'.heap.size :=
 (h.told (Q := fun e w' A m d => Q e w' A m d ∧ u.heap.size ≤ w'.heap.size) fun S hS => (hop S hS).mono fun _ _ ⟨A, m, d, hq, ht⟩ => ⟨A, m, d, ⟨hq, ht.off.size⟩, ht⟩).mono fun _ _ ⟨A, m, d, ⟨hq, hz⟩, hd, hk⟩ => ⟨A, m, d, _, hq, hd, (hl.kept hk).wide fun _ h => .inr h, fun ad h => .inl ⟨ad, h, rfl⟩, fun k h => ⟨.inr h, hk k h⟩, hz⟩
section
variable {X : Nat → Nd → Thing} {w : World}
end
end

/- Layer 15: three things, one of which is asked for a row; one thing that a call made itself, likewise (no function of the program is named here). -/
section
open Go.RowKit
set_option maxRecDepth 100000
section
variable {α : Type} {P : Program} {w0 w w' : World} {X X' : Thing} {Y : Nat → α → Thing} {bs : Nat → Nat} {ns : Nat → α} {N S : Nat → Prop}
end
end

/- Many things of one kind, in blocks of their own, as one thing; one of them is asked for a row (no function of the program is named here). -/
section
open Go.RowKit
set_option maxRecDepth 100000
section
variable {α : Type} {Y : Nat → α → Thing} {N : Nat} {bs : Nat → Nat} {ns : Nat → α} {S : Nat → Prop} {w w' : World} {P : Program}
def Many (Y : Nat → α → Thing) (N : Nat) (bs : Nat → Nat) (ns : Nat → α) : Thing where
 p := fun S w => ∃ Ss : Nat → Nat → Prop, (∀ i, i < N → (Y (bs i) (ns i)).p (Ss i) w) ∧ (∀ i j, i < N → j < N → i ≠ j → ∀ k, Ss i k → ¬ Ss j k) ∧ ∀ k, S k ↔ ∃ i, i < N ∧ Ss i k
 keep := fun ⟨Ss, h1, h2, h3⟩ hk hz => ⟨Ss, fun i hi => (Y (bs i) (ns i)).keep (h1 i hi) (fun k e => hk k ((h3 k).2 ⟨i, hi, e⟩)) hz, h2, h3⟩
 lt := fun ⟨_, h1, _, h3⟩ k hk => by
  obtain ⟨i, hi, e⟩ := (h3 k).1 hk; exact (Y (bs i) (ns i)).lt (h1 i hi) k e
theorem Many.turn {i : Nat} (hi : i < N) {x : α} {Ss : Nat → Nat → Prop} (h1 : ∀ i, i < N → (Y (bs i) (ns i)).p (Ss i) w) (h2 : ∀ i j, i < N → j < N → i ≠ j → ∀ k, Ss i k → ¬ Ss j k) (h3 : ∀ k, S k ↔ ∃ i, i < N ∧ Ss i k) (ht : Turn (Y (bs i) x) (Ss i) w w') :
 Turn (Many Y N bs (upd3 ns i x)) S w w' := by
 obtain ⟨⟨S', k1, k2⟩, ko⟩ := ht; have hlt : ∀ j, j < N → ∀ k, Ss j k → k < w.heap.size := fun j hj k hk => (Y (bs j) (ns j)).lt (h1 j hj) k hk; refine ⟨⟨fun k => ∃ j, j < N ∧ (upd3 Ss i S') j k, ⟨upd3 Ss i S', fun j hj => ?_, fun a c ha hc hac k e1 e2 => ?_, fun _ => Iff.rfl⟩, fun k hk => ?_⟩, ko.wide fun k hk => (h3 k).2 ⟨i, hi, hk⟩⟩
 · by_cases hji : j = i
   · subst hji; rw [upd3_at, upd3_at]; exact k1
   · rw [upd3_ne ns x hji, upd3_ne Ss S' hji]; exact Thing.off (h1 j hj) ko fun k e1 e2 => h2 j i hj hi hji k e1 e2
 · by_cases hai : a = i
   · subst hai; rw [upd3_at] at e1; rw [upd3_ne Ss S' (fun e => hac e.symm)] at e2; rcases k2 k e1 with e | e
     · exact h2 a c ha hc hac k e e2
     · have := hlt c hc k e2; omega
   · rw [upd3_ne Ss S' hai] at e1; by_cases hci : c = i
     · subst hci; rw [upd3_at] at e2; rcases k2 k e2 with e | e
       · exact h2 a c ha hc hac k e1 e
       · have := hlt a ha k e1; omega
     · rw [upd3_ne Ss S' hci] at e2; exact h2 a c ha hc hac k e1 e2
 · obtain ⟨j, hj, e⟩ := hk; by_cases hji : j = i
   · subst hji; rw [upd3_at] at e; exact (k2 k e).imp (fun e => (h3 k).2 ⟨j, hj, e⟩) id
   · rw [upd3_ne Ss S' hji] at e; exact .inl ((h3 k).2 ⟨j, hj, e⟩)
theorem Many.op {f : FuncId} {args : Array Value} {Q : Ending → World → Prop} {i : Nat} (h : (Many Y N bs ns).p S w) (hi : i < N) {x : α} (hop : ∀ S', (Y (bs i) (ns i)).p S' w → Calls P f args w fun e w' => Q e w' ∧ Turn (Y (bs i) x) S' w w') :
 Calls P f args w fun e w' => Q e w' ∧ Turn (Many Y N bs (upd3 ns i x)) S w w' := by
 obtain ⟨Ss, h1, h2, h3⟩ := h; exact (hop (Ss i) (h1 i hi)).mono fun _ _ ⟨hq, ht⟩ => ⟨hq, Many.turn hi h1 h2 h3 ht⟩
theorem Many.op2 {f : FuncId} {args : Array Value} {Q : Ending → World → Prop} {i j : Nat} (h : (Many Y N bs ns).p S w) (hi : i < N) (hj : j < N) (hij : i ≠ j) {x : α} (hop : ∀ S' T', (Y (bs i) (ns i)).p S' w → (Y (bs j) (ns j)).p T' w → (∀ k, S' k → ¬ T' k) → Calls P f args w fun e w' => Q e w' ∧ Turn (Y (bs i) x) S' w w') :
 Calls P f args w fun e w' => Q e w' ∧ Turn (Many Y N bs (upd3 ns i x)) S w w' := by
 obtain ⟨Ss, h1, h2, h3⟩ := h; exact (hop (Ss i) (Ss j) (h1 i hi) (h1 j hj) (h2 i j hi hj hij)).mono fun _ _ ⟨hq, ht⟩ => ⟨hq, Many.turn hi h1 h2 h3 ht⟩
theorem Many.ask {f : FuncId} {args : Array Value} {Q : Ending → World → Prop} {i : Nat} (h : (Many Y N bs ns).p S w) (hi : i < N) (hop : ∀ S', (Y (bs i) (ns i)).p S' w → Calls P f args w fun e w' => Q e w' ∧ Below w.heap.size w w') :
 Calls P f args w fun e w' => Q e w' ∧ Below w.heap.size w w' := by
 obtain ⟨Ss, h1, _⟩ := h; exact hop (Ss i) (h1 i hi)
theorem Many.told {f : FuncId} {args : Array Value} {Q : Ending → World → Option Addr → Nat → Nat → Prop} {i : Nat} (h : (Many Y N bs ns).p S w) (hi : i < N) {x : α} (hop : ∀ S', (Y (bs i) (ns i)).p S' w → Calls P f args w fun e w' => ∃ A m d, Q e w' A m d ∧ Told1 (Y (bs i) x) S' A w w') :
 Calls P f args w fun e w' => ∃ A m d, Q e w' A m d ∧ Told1 (Many Y N bs (upd3 ns i x)) S A w w' := by
 obtain ⟨Ss, h1, h2, h3⟩ := h; refine (hop (Ss i) (h1 i hi)).mono fun e w' ⟨A, m, d, hq, ⟨S', k1, k2, k4⟩, ko⟩ => ⟨A, m, d, hq, ?_⟩; have hlt : ∀ j, j < N → ∀ k, Ss j k → k < w.heap.size := fun j hj k hk => (Y (bs j) (ns j)).lt (h1 j hj) k hk; refine ⟨⟨fun k => ∃ j, j < N ∧ (upd3 Ss i S') j k, ⟨upd3 Ss i S', fun j hj => ?_, fun a c ha hc hac k e1 e2 => ?_, fun _ => Iff.rfl⟩, fun k hk => ?_, fun ad hA => ⟨(k4 ad hA).1, (k4 ad hA).2.1, ?_⟩⟩, ko.wide fun k hk => (h3 k).2 ⟨i, hi, hk⟩⟩
 · by_cases hji : j = i
   · subst hji; rw [upd3_at, upd3_at]; exact k1
   · rw [upd3_ne ns x hji, upd3_ne Ss S' hji]; exact Thing.off (h1 j hj) ko fun k e1 e2 => h2 j i hj hi hji k e1 e2
 · by_cases hai : a = i
   · subst hai; rw [upd3_at] at e1; rw [upd3_ne Ss S' (fun e => hac e.symm)] at e2; rcases k2 k e1 with e | e
     · exact h2 a c ha hc hac k e e2
     · have := hlt c hc k e2; omega
   · rw [upd3_ne Ss S' hai] at e1; by_cases hci : c = i
     · subst hci; rw [upd3_at] at e2; rcases k2 k e2 with e | e
       · exact h2 a c ha hc hac k e1 e
       · have := hlt a ha k e1; omega
     · rw [upd3_ne Ss S' hci] at e2; exact h2 a c ha hc hac k e1 e2
 · obtain ⟨j, hj, e⟩ := hk; by_cases hji : j = i
   · subst hji; rw [upd3_at] at e; exact (k2 k e).imp (fun e => (h3 k).2 ⟨j, hj, e⟩) id
   · rw [upd3_ne Ss S' hji] at e; exact .inl ((h3 k).2 ⟨j, hj, e⟩)
 · rintro ⟨j, hj, e⟩; by_cases hji : j = i
   · subst hji; rw [upd3_at] at e; exact (k4 ad hA).2.2 e
   · rw [upd3_ne Ss S' hji] at e; have := hlt j hj _ e; have := (k4 ad hA).1; omega
theorem Many.more {x : α} {b : Nat} {T : Nat → Prop} (h : (Many Y N bs ns).p S w) (hx : (Y b x).p T w') (hT : ∀ k, T k → w.heap.size ≤ k) (hb : Below w.heap.size w w') : (Many Y (N + 1) (upd3 bs N b) (upd3 ns N x)).p (fun k => S k ∨ T k) w' := by
 obtain ⟨Ss, h1, h2, h3⟩ := h; have hlt : ∀ j, j < N → ∀ k, Ss j k → k < w.heap.size := fun j hj k hk => (Y (bs j) (ns j)).lt (h1 j hj) k hk; refine ⟨upd3 Ss N T, fun i hi => ?_, fun i j hi hj hij k e1 e2 => ?_, fun k => ?_⟩
 · by_cases hN : i = N
   · subst hN; rw [upd3_at, upd3_at, upd3_at]; exact hx
   · rw [upd3_ne _ _ hN, upd3_ne _ _ hN, upd3_ne _ _ hN]; exact Thing.next (h1 i (by omega)) hb
 · by_cases hN : i = N
   · subst hN; rw [upd3_at] at e1; rw [upd3_ne _ _ (fun e => hij e.symm)] at e2; have := hT k e1; have := hlt j (by omega) k e2; omega
   · rw [upd3_ne _ _ hN] at e1; by_cases hM : j = N
     · subst hM; rw [upd3_at] at e2; have := hT k e2; have := hlt i (by omega) k e1; omega
     · rw [upd3_ne _ _ hM] at e2; exact h2 i j (by omega) (by omega) hij k e1 e2
 · constructor
   · rintro (hk | hk)
     · obtain ⟨i, hi, e⟩ := (h3 k).1 hk; exact ⟨i, by omega, by rw [upd3_ne _ _ (by omega)]; exact e⟩
     · exact ⟨N, by omega, by rw [upd3_at]; exact hk⟩
   · rintro ⟨i, hi, e⟩; by_cases hN : i = N
     · subst hN; rw [upd3_at] at e; exact .inr e
     · rw [upd3_ne _ _ hN] at e; exact .inl ((h3 k).2 ⟨i, by omega, e⟩)
theorem Many.none (w : World) : (Many Y 0 bs ns).p (fun _ => False) w := ⟨fun _ _ => False, fun _ h => absurd h (Nat.not_lt_zero _), fun _ _ h => absurd h (Nat.not_lt_zero _), fun _ => ⟨False.elim, fun ⟨_, h, _⟩ => absurd h (Nat.not_lt_zero _)⟩⟩
theorem Many.as {bs' : Nat → Nat} {ns' : Nat → α} (h : (Many Y N bs ns).p S w) (hb : ∀ i, i < N → bs' i = bs i) (hn : ∀ i, i < N → ns' i = ns i) : (Many Y N bs' ns').p S w := by
 obtain ⟨Ss, h1, h2, h3⟩ := h; exact ⟨Ss, fun i hi => by rw [hb i hi, hn i hi]; exact h1 i hi, h2, h3⟩
end
end

/- The document's layer 16: a cluster in memory; Is, Run, Close, Lag: contracts. -/
section
open Go.RowKit
set_option maxRecDepth 100000
theorem Turn.pastO {Y : Thing} {S K : Nat → Prop} {w w1 w3 w4 : World} (hb : Off S w w1) (hS : ∀ k, S k → k < w.heap.size) (ht : Turn Y S w1 w3) (hK : ∀ k, K k → w.heap.size ≤ k ∧ k < w1.heap.size) (ho : Off K w3 w4) : Turn Y S w w4 := by
 obtain ⟨⟨S', h1, h2⟩, h3⟩ := ht; refine ⟨⟨S', Thing.off h1 ho fun k e1 e2 => ?_, fun k e => (h2 k e).imp id fun e => Nat.le_trans hb.size e⟩, (hb.trans h3 fun i hi => .inl hi).trans ho fun i hi => .inr (hK i hi).1⟩; have := hK k e2; rcases h2 k e1 with e | e
 · have := hS k e; omega
 · omega
theorem Turn.pastK {Y : Thing} {S K : Nat → Prop} {w w1 w3 w4 : World} (hb : Below w.heap.size w w1) (hS : ∀ k, S k → k < w.heap.size) (ht : Turn Y S w1 w3) (hK : ∀ k, K k → w.heap.size ≤ k ∧ k < w1.heap.size) (ho : Off K w3 w4) : Turn Y S w w4 :=
 Turn.pastO (Off.of S hb) hS ht hK ho
theorem XR.pastT {u u' : World} {A : Option Addr} {m b : Nat} {ss : List ByteArray} {cs : Array Value} {t : TypeId} {fz : Nat × Nat} (h : XR u A m ss) (hb : u.heap[b]? = some (.cells cs t fz)) (hns : ∀ (i : Nat) (s : ByteArray), cs[i]? ≠ some (.string s)) (ho : Off (fun k => k = b) u u') : XR u' A m ss := by
 rcases ss with _ | ⟨s, ss⟩
 · exact ⟨h.len, .inl rfl⟩
 · refine h.off ho.size fun ad hA => ho.block _ ?_ ?_
   · obtain ⟨ad', hA', hlt, _⟩ := h.at_ (j := 0) (by simp); rw [hA] at hA'; obtain rfl : ad = ad' := Option.some.inj hA'; exact hlt
   · intro e; obtain ⟨ad', hA', _, hc⟩ := h.at_ (j := 0) (by simp); rw [hA] at hA'; obtain rfl : ad = ad' := Option.some.inj hA'; have hh : u.heap[(ad.add 0).block]? = some (.cells cs t fz) := by rw [add_block, e]; exact hb
     unfold World.cell? at hc; rw [hh] at hc; dsimp only at hc; split at hc
     · cases hc
     · exact hns _ _ hc
theorem rp0_none (i : Nat) (s : ByteArray) : (#[.int .i64 0, .int .u64 0, .int .u64 0, .slice none 0 0] : Array Value)[i]? ≠ some (.string s) := by
 match i with
 | 0 => simp
 | 1 => simp
 | 2 => simp
 | 3 => simp
 | n + 4 => simp
structure RCx (b : Nat) (c : Cu) (g cap : Nat) (bs : Nat → Nat) (T S : Nat → Prop) (w : World) : Prop where
 top : w.heap[b]? = some (.cells #[.slice (some ⟨g, 0, none⟩) c.n cap, .int .u64 c.pm.e, .int .i64 c.pm.p, .int .u64 c.pm.c] 49 (0, 0))
 pt : ∀ i, i < c.n → w.cell? ⟨g, i, none⟩ = some (.pointer (some ⟨bs i, 0, none⟩))
 nd : (Many RN c.n bs c.ns).p T w
 sb : S b
 sg : S g
 gb : g ≠ b
 tg : ¬ T g
 tb : ¬ T b
 ts : ∀ k, T k → S k
 lt : ∀ k, S k → k < w.heap.size
theorem RCx.keep {b : Nat} {c : Cu} {g cap : Nat} {bs : Nat → Nat} {T S : Nat → Prop} {w w' : World} (h : RCx b c g cap bs T S w) (hk : ∀ k, S k → w'.heap[k]? = w.heap[k]?) (hz : w.heap.size ≤ w'.heap.size) : RCx b c g cap bs T S w' :=
 { h with
  top := (hk _ h.sb).trans h.top
  pt := fun i hi => (World.cell?_of_block (a := ⟨g, i, none⟩) (hk g h.sg)).trans (h.pt i hi)
  nd := (Many RN c.n bs c.ns).keep h.nd (fun k e => hk k (h.ts k e)) hz
  lt := fun k e => Nat.lt_of_lt_of_le (h.lt k e) hz }
def RC (b : Nat) (c : Cu) : Thing where
 p := fun S w => ∃ g cap bs T, RCx b c g cap bs T S w
 keep := fun ⟨_, _, _, _, h⟩ hk hz => ⟨_, _, _, _, h.keep hk hz⟩
 lt := fun ⟨_, _, _, _, h⟩ => h.lt
section
variable {b : Nat} {c : Cu} {g cap : Nat} {bs : Nat → Nat} {T S : Nat → Prop} {w w' : World} {k : Nat}
theorem RCx.tops (h : RCx b c g cap bs T S w) : w.cell? ⟨b, 0, none⟩ = some (.slice (some ⟨g, 0, none⟩) c.n cap) ∧ w.cell? ⟨b, 1, none⟩ = some (.int .u64 c.pm.e) ∧ w.cell? ⟨b, 2, none⟩ = some (.int .i64 c.pm.p) ∧ w.cell? ⟨b, 3, none⟩ = some (.int .u64 c.pm.c) :=
 ⟨(cellsAt h.top 0 rfl).1, (cellsAt h.top 1 rfl).1, (cellsAt h.top 2 rfl).1, (cellsAt h.top 3 rfl).1⟩
theorem RCx.ptr (h : RCx b c g cap bs T S w) {n : Int} (hn : c.Is n) : w.cell? ⟨g, n.toNat, none⟩ = some (.pointer (some ⟨bs n.toNat, 0, none⟩)) := h.pt _ hn.lt.1
theorem RCx.node (h : RCx b c g cap bs T S w) {i : Nat} (hi : i < c.n) : ∃ AL nl cl AO no co os S', RNx (bs i) (c.ns i) AL nl cl AO no co os S' w ∧ ∀ k, S' k → T k := by
 obtain ⟨Ss, h1, _, h3⟩ := h.nd; obtain ⟨AL, nl, cl, AO, no, co, os, hx⟩ := h1 i hi; exact ⟨AL, nl, cl, AO, no, co, os, Ss i, hx, fun k e => (h3 k).2 ⟨i, hi, e⟩⟩
theorem RCx.turn (h : RCx b c g cap bs T S w) {ns : Nat → Nd} (ht : Turn (Many RN c.n bs ns) T w w') : Turn (RC b ⟨c.n, ns, c.pm⟩) S w w' := by
 obtain ⟨⟨T', k1, k2⟩, ko⟩ := ht; have hb := h.lt b h.sb; have hg := h.lt g h.sg; refine ⟨⟨fun k => S k ∨ T' k, ⟨g, cap, bs, T', { top := (ko.block b hb h.tb).trans h.top, pt := fun i hi => (World.cell?_of_block (a := ⟨g, i, none⟩) (ko.block g hg h.tg)).trans (h.pt i hi), nd := k1, sb := .inl h.sb, sg := .inl h.sg, gb := h.gb, tg := fun e => ?_, tb := fun e => ?_, ts := fun k e => .inr e, lt := fun k e => ?_ }⟩, fun k e => ?_⟩, ko.wide h.ts⟩
 · rcases k2 _ e with e | e
   · exact h.tg e
   · omega
 · rcases k2 _ e with e | e
   · exact h.tb e
   · omega
 · rcases e with e | e
   · exact Nat.lt_of_lt_of_le (h.lt k e) ko.size
   · exact (Many RN c.n bs ns).lt k1 k e
 · rcases e with e | e
   · exact .inl e
   · exact (k2 k e).imp (h.ts k) id
theorem rcis_ok (n : Int) (h : RCx b c g cap bs T S w) :
 Calls Tryz.prog 24 #[.pointer (some ⟨b, 0, none⟩), .int .i64 n] w fun e w' => e = .returned (.bool (decide (c.Is n))) ∧ w = w' := by
 obtain ⟨c0, _⟩ := h.tops; have hd : decide (c.Is n) = (decide (0 ≤ n) && decide (n < c.n)) := by unfold Cu.Is; exact Bool.decide_and _ _
 rw [hd]; clear h hd; by_cases h0 : 0 ≤ n
 · go_enter Tryz.func24, Tryz.ntmps24; go_wp2_with fail; go_ret; exact ⟨by rw [decide_eq_true h0, Bool.true_and]; rfl, rfl⟩
 · have h0' : n < 0 := by omega
   go_enter Tryz.func24, Tryz.ntmps24; go_wp2_with fail; go_ret; exact ⟨by rw [decide_eq_false (by omega : ¬ 0 ≤ n), Bool.false_and]; rfl, rfl⟩
set_option maxHeartbeats 4000000 in
theorem rcrun_ok (n cn e : Int) (rd : Bool) (s : ByteArray) (h : (RC b c).p S w) (hI : CuI k c) (hk : k ≤ 800) (hs : Sm s) (hc : I64n cn) :
 Calls Tryz.prog 36 #[.pointer (some ⟨b, 0, none⟩), .int .i64 n, .int .i64 cn, .int .u64 e, .bool rd, .string s] w fun e' w' => ∃ A m d, e' = .returned (rpV (runCu c n cn e rd s).1 A m d) ∧ XR w' A m (runCu c n cn e rd s).1.ts ∧ Turn (RC b (runCu c n cn e rd s).2) S w w' := by
 have HT := hid h; obtain ⟨g, cap, bs, T, hx⟩ := h; obtain ⟨w1, hw1⟩ : ∃ u, w.alloc (.cells #[.int .i64 0, .int .u64 0, .int .u64 0, .slice none 0 0] 37) = u := ⟨_, rfl⟩; have k1 : Below w.heap.size w w1 := hw1 ▸ kp_new w _; have b1 : w1.heap[w.heap.size]? = some (.cells #[.int .i64 0, .int .u64 0, .int .u64 0, .slice none 0 0] 37 (0, 0)) := by rw [← hw1]; exact heap_alloc_new w _
 have hx1 := hx.keep (fun k e => k1.block k (hx.lt k e)) k1.size; have HIS := hid (rcis_ok n hx1); have HK1 := hid k1; have HW1 := hid hw1; have HB1 := hid b1; have HX1 := hid hx1; have HX := hid hx; by_cases hn : c.Is n
 · have hr : runCu c n cn e rd s = ((runNd (c.at n) cn e rd s).1, c.put n (runNd (c.at n) cn e rd s).2) := by unfold runCu; rw [if_neg (Decidable.not_not.2 hn)]
   rw [hr]; rw [decide_eq_true hn] at HIS; have hp := hx1.ptr hn; obtain ⟨c0, _⟩ := hx1.tops; have hi0 : 0 ≤ n := hn.1; have hi1 : n < (c.n : Int) := hn.2; have HQ := hid (Many.op (x := (runNd (c.at n) cn e rd s).2) hx1.nd hn.lt.1 fun S' hS' => (rrun15_ok cn e rd s hS' (hI.nd _) hk hs hc.1 hc.2).mono fun _ _ ⟨A, m, d, he, hr, hl⟩ => (⟨⟨A, m, d, he, hr⟩, hl⟩ : (∃ A m d, _ = Ending.returned (rpV (runNd (c.ns n.toNat) cn e rd s).1 A m d) ∧ XR _ A m (runNd (c.ns n.toNat) cn e rd s).1.ts) ∧ _)); rw [show c.ns n.toNat = c.at n from rfl] at HQ; generalize runNd (c.at n) cn e rd s = R at HQ ⊢; clear hr k1 hw1 b1 hx1 hx HT; go_enter Tryz.func36, Tryz.ntmps36; go_wp2_with fail; rw [HW1.out]; refine HIS.out.mono ?_; rintro e w2 ⟨rfl, rfl⟩; go_wp2_with fail; refine HQ.out.mono ?_; rintro e w3 ⟨⟨A, m, d, rfl, hr⟩, ht⟩; have hb3 : w3.heap[w.heap.size]? = some (.cells #[.int .i64 0, .int .u64 0, .int .u64 0, .slice none 0 0] 37 (0, 0)) := (ht.off.block _ (Array.getElem?_eq_some_iff.1 HB1.out).1 fun e => by have := HX.out.lt _ (HX1.out.ts _ e); omega).trans HB1.out; obtain ⟨s0, q0⟩ := cellsAt hb3 0 (v := .int .i64 0) rfl; obtain ⟨s1, q1⟩ := cellsAt hb3 1 (v := .int .u64 0) rfl; obtain ⟨s2, q2⟩ := cellsAt hb3 2 (v := .int .u64 0) rfl; obtain ⟨s3, q3⟩ := cellsAt hb3 3 (v := .slice none 0 0) rfl; have HR := hid hr; have HTU := hid (HX1.out.turn ht); have HB3 := hid hb3; clear hr ht hb3; unfold rpV; go_wp2_with fail; refine bodyPost_ret (v := rpV R.1 A m d) ?_ rfl ⟨A, m, d, rfl, ?_, ?_⟩
   · rw [results_cell1 rfl]; unfold rpV; go_simp
   · exact HR.out.pastT HB3.out rp0_none (((((Off.refl (fun k => k = w.heap.size) w3).setCell (p := ⟨w.heap.size, 0, none⟩) (.inl rfl) _).setCell (p := ⟨w.heap.size, 1, none⟩) (.inl rfl) _).setCell (p := ⟨w.heap.size, 2, none⟩) (.inl rfl) _).setCell (p := ⟨w.heap.size, 3, none⟩) (.inl rfl) _)
   · refine Turn.pastK (K := fun k => k = w.heap.size) HK1.out HX.out.lt HTU.out (fun k e => by have := (Array.getElem?_eq_some_iff.1 HB1.out).1; omega) ?_; exact ((((Off.refl (fun k => k = w.heap.size) w3).setCell (p := ⟨w.heap.size, 0, none⟩) (.inl rfl) _).setCell (p := ⟨w.heap.size, 1, none⟩) (.inl rfl) _).setCell (p := ⟨w.heap.size, 2, none⟩) (.inl rfl) _).setCell (p := ⟨w.heap.size, 3, none⟩) (.inl rfl) _
 · have hr : runCu c n cn e rd s = (⟨6, 0, 0, []⟩, c) := by unfold runCu; rw [if_pos hn]
   rw [hr]; rw [decide_eq_false hn] at HIS; obtain ⟨s0, q0⟩ := cellsAt b1 0 (v := .int .i64 0) rfl; obtain ⟨s1, q1⟩ := cellsAt b1 1 (v := .int .u64 0) rfl; obtain ⟨s2, q2⟩ := cellsAt b1 2 (v := .int .u64 0) rfl; obtain ⟨s3, q3⟩ := cellsAt b1 3 (v := .slice none 0 0) rfl; clear hr k1 hw1 b1 hx1 hx; go_enter Tryz.func36, Tryz.ntmps36; go_wp2_with fail; rw [HW1.out]; refine HIS.out.mono ?_; rintro e w2 ⟨rfl, rfl⟩; go_wp2_with fail; refine bodyPost_ret (v := rpV ⟨6, 0, 0, []⟩ none 0 0) ?_ rfl ⟨none, 0, 0, rfl, XR.nil _, ?_⟩
   · rw [results_cell1 rfl]; unfold rpV; go_simp
   · refine Turn.same HT.out ?_; exact (((HK1.out.setCell (Nat.le_refl _) _).setCell (Nat.le_refl _) _).setCell (Nat.le_refl _) _).setCell (Nat.le_refl _) _
set_option maxHeartbeats 4000000 in
theorem rcclose_ok (n cn : Int) (h : (RC b c).p S w) (hI : CuI k c) (hk : k ≤ 800) :
 Calls Tryz.prog 37 #[.pointer (some ⟨b, 0, none⟩), .int .i64 n, .int .i64 cn] w fun e w' => e = .returned (.bool (clsCu c n cn).1) ∧ Turn (RC b (clsCu c n cn).2) S w w' := by
 have HT := hid h; obtain ⟨g, cap, bs, T, hx⟩ := h; have HIS := hid (rcis_ok n hx); have HX := hid hx; by_cases hn : c.Is n
 · have hr : clsCu c n cn = (decide (0 ≤ idxOp cn (c.at n).op), c.put n (closeNd (c.at n) cn)) := by unfold clsCu; rw [if_neg (Decidable.not_not.2 hn)]
   rw [hr]; rw [decide_eq_true hn] at HIS; have hp := hx.ptr hn; obtain ⟨c0, _⟩ := hx.tops; have hi0 : 0 ≤ n := hn.1; have hi1 : n < (c.n : Int) := hn.2; have HQ := hid (Many.op (x := closeNd (c.at n) cn) hx.nd hn.lt.1 fun S' hS' => (rclose15_ok cn hS' (hI.nd _).nd (by have := (hI.nd n.toNat).ol; omega)).mono fun _ _ ⟨he, hl⟩ => ⟨he, hl.turn (RN.own hS')⟩); rw [show c.ns n.toNat = c.at n from rfl] at HQ; clear hr hx HT; go_enter Tryz.func37, Tryz.ntmps37; go_wp2_with fail; refine HIS.out.mono ?_; rintro e w2 ⟨rfl, rfl⟩; go_wp2_with fail; refine HQ.out.mono ?_; rintro e w3 ⟨rfl, ht⟩; have HTU := hid (HX.out.turn ht); clear ht; go_wp2_with fail; go_ret; exact ⟨rfl, HTU.out⟩
 · have hr : clsCu c n cn = (false, c) := by unfold clsCu; rw [if_pos hn]
   rw [hr]; rw [decide_eq_false hn] at HIS; clear hr hx; go_enter Tryz.func37, Tryz.ntmps37; go_wp2_with fail; refine HIS.out.mono ?_; rintro e w2 ⟨rfl, rfl⟩; go_wp2_with fail; go_ret; exact ⟨rfl, Turn.here HT.out⟩
theorem RCx.log (h : RCx b c g cap bs T S w) {i : Nat} (hi : i < c.n) : ∃ AL nl cl, (c.ns i).lg.length = nl ∧ ∀ u, Below w.heap.size w u → u.cell? ⟨bs i, 0, none⟩ = some (.int .u64 (c.ns i).ep) ∧ u.cell? ⟨bs i, 2, none⟩ = some (.slice AL nl cl) ∧ LR u AL nl (c.ns i).lg := by
 obtain ⟨AL, nl, cl, AO, no, co, os, S', hx, hS'⟩ := h.node hi; refine ⟨AL, nl, cl, hx.lg.len, fun u hu => ?_⟩; have hx2 := hx.keep (fun k e => hu.block k (hx.lt k e)) hu.size; obtain ⟨c0, _, c2, _⟩ := hx2.tops; exact ⟨c0, c2, hx2.lg⟩
theorem RCx.later (h : RCx b c g cap bs T S w) : ∀ u, Below w.heap.size w u → RCx b c g cap bs T S u := fun _ hu => h.keep (fun k e => hu.block k (h.lt k e)) hu.size
set_option maxHeartbeats 4000000 in
theorem rclag_ok (n : Int) (h : (RC b c).p S w) (hI : CuI k c) :
 Calls Tryz.prog 23 #[.pointer (some ⟨b, 0, none⟩), .int .i64 n] w fun e w' => e = .returned (.int .u64 (lagCu c n)) ∧ Below w.heap.size w w' := by
 obtain ⟨g, cap, bs, T, hx⟩ := h; have HIS := hid (rcis_ok n hx); by_cases hn : c.Is n
 · rw [decide_eq_true hn] at HIS; obtain ⟨AL, nl, cl, hnl, hlog⟩ := hx.log hn.lt.1; obtain ⟨PL, pl, cp, hpl, hplog⟩ := hx.log hI.is.lt.1
   have HC : Hid (∀ u, Below w.heap.size w u → (u.cell? ⟨b, 0, none⟩ = some (.slice (some ⟨g, 0, none⟩) c.n cap) ∧ u.cell? ⟨b, 1, none⟩ = some (.int .u64 c.pm.e) ∧ u.cell? ⟨b, 2, none⟩ = some (.int .i64 c.pm.p)) ∧ u.cell? ⟨g, n.toNat, none⟩ = some (.pointer (some ⟨bs n.toNat, 0, none⟩)) ∧ u.cell? ⟨g, c.pm.p.toNat, none⟩ = some (.pointer (some ⟨bs c.pm.p.toNat, 0, none⟩)) ∧
    u.cell? ⟨bs n.toNat, 0, none⟩ = some (.int .u64 (c.at n).ep) ∧ u.cell? ⟨bs n.toNat, 2, none⟩ = some (.slice AL nl cl) ∧ u.cell? ⟨bs c.pm.p.toNat, 2, none⟩ = some (.slice PL pl cp)) := hid fun u hu => by
    have h1 := hx.later u hu; obtain ⟨t0, t1, t2, _⟩ := h1.tops; exact ⟨⟨t0, t1, t2⟩, h1.ptr hn, h1.ptr hI.is, (hlog u hu).1, (hlog u hu).2.1, (hplog u hu).2.1⟩
   have hi0 : 0 ≤ n := hn.1; have hi1 : n < (c.n : Int) := hn.2; have hp0 : 0 ≤ c.pm.p := hI.is.1; have hp1 : c.pm.p < (c.n : Int) := hI.is.2
   have hv : lagCu c n = if (c.at n).ep ≠ c.pm.e then (pl : Int) else (pl : Int) - nl := by
    unfold lagCu; rw [if_neg (Decidable.not_not.2 hn), show c.first.lg.length = pl from hpl, show (c.at n).lg.length = nl from hnl]
   rw [hv]
   have hle : (c.at n).ep = c.pm.e → nl ≤ pl := fun e => by
    have := hI.pre_le hn.lt.1 e; rw [← hnl, ← hpl]; exact this
   have hpl2 : pl ≤ 200 := by rw [← hpl]; exact (hI.nd _).lg
   obtain ⟨⟨a0, a1, a2⟩, a3, a4, a5, a6, a7⟩ := HC.out w (Below.refl _ _); have HLE := hid hle; obtain ⟨lv, hlv⟩ : ∃ x, (if (c.at n).ep ≠ c.pm.e then (pl : Int) else (pl : Int) - nl) = x := ⟨_, rfl⟩; rw [hlv]; have HLV := hid hlv; clear hx hlog hplog hv hnl hpl hle hlv; obtain ⟨pp, hpp⟩ : ∃ x, c.pm.p = x := ⟨_, rfl⟩; rw [hpp] at a2 a4 a7 hp0 hp1 HC; clear hpp; go_enter Tryz.func23, Tryz.ntmps23; go_wp2_with fail; refine HIS.out.mono ?_; rintro e w2 ⟨rfl, rfl⟩; go_wp2_with fail; go_quiet (fail); have KQ := hid (kp_drewN w nq); obtain ⟨wq, hwq⟩ : ∃ u, w.drewN nq = u := ⟨_, rfl⟩; rw [hwq] at KQ ⊢; clear hwq a0 a1 a2 a3 a4 a5 a6 a7; obtain ⟨⟨a0, a1, a2⟩, a3, a4, a5, a6, a7⟩ := HC.out wq KQ.out; by_cases he : (c.at n).ep = c.pm.e
   · have he' : ((c.at n).ep != c.pm.e) = false := by simpa using he
     have hle := HLE.out he; have HE := hid he; have hw1 : IntKind.i64.wrap ((pl : Int) - nl) = (pl : Int) - nl := by rw [IntKind.wrap_i64]; omega
     have hw2 : IntKind.u64.wrap ((pl : Int) - nl) = (pl : Int) - nl := by rw [IntKind.wrap_u64]; omega
     clear he; go_wp2_with fail; go_quiet (fail); have K2 := hid (KQ.out.trans ((kp_drewN wq nq).mono KQ.out.size)); obtain ⟨wz, hwz⟩ : ∃ u, wq.drewN nq = u := ⟨_, rfl⟩; rw [hwz] at K2 ⊢; clear hwz a0 a1 a2 a3 a4 a5 a6 a7 KQ; obtain ⟨⟨a0, a1, a2⟩, a3, a4, a5, a6, a7⟩ := HC.out wz K2.out; go_wp2_with fail; go_ret; exact ⟨by rw [← HLV.out, if_neg (Decidable.not_not.2 HE.out)]; rfl, K2.out⟩
   · have he' : ((c.at n).ep != c.pm.e) = true := by simpa using he
     have HE := hid he; have hw2 : IntKind.u64.wrap (pl : Int) = (pl : Int) := by rw [IntKind.wrap_u64]; omega
     clear he; go_wp2_with fail; go_quiet (fail); have K2 := hid (KQ.out.trans ((kp_drewN wq nq).mono KQ.out.size)); obtain ⟨wz, hwz⟩ : ∃ u, wq.drewN nq = u := ⟨_, rfl⟩; rw [hwz] at K2 ⊢; clear hwz a0 a1 a2 a3 a4 a5 a6 a7 KQ; go_wp2_with fail; go_ret; exact ⟨by rw [← HLV.out, if_pos HE.out]; rfl, K2.out⟩
 · have hv : lagCu c n = 0 := by unfold lagCu; rw [if_pos hn]
   rw [hv]; rw [decide_eq_false hn] at HIS; clear hv hx; go_enter Tryz.func23, Tryz.ntmps23; go_wp2_with fail; refine HIS.out.mono ?_; rintro e w2 ⟨rfl, rfl⟩; go_wp2_with fail; go_ret; exact ⟨rfl, Below.refl _ _⟩
end
end

/- Layer 16: what the laws ask of the project's cluster, as one statement (to be proved of the landed code), over a thing that is the cluster. -/
section
open Go.RowKit
set_option maxRecDepth 100000
structure ClusterC (X : Nat → Cu → Thing) : Prop where
 new : ∀ (n : Int) (w : World), Lw w → 1 ≤ n → n ≤ 6 → Calls Tryz.prog 10 #[.int .i64 n] w fun e w' => ∃ b, e = .returned (.tuple #[.pointer (some ⟨b, 0, none⟩), .int .i64 0]) ∧ (∃ S, (X b (newCu n.toNat)).p S w' ∧ ∀ k, S k → w.heap.size ≤ k) ∧ Below w.heap.size w w'
 no : ∀ (n : Int) (w : World), I64n n → ¬ (1 ≤ n ∧ n ≤ 6) → Calls Tryz.prog 10 #[.int .i64 n] w fun e w' => e = .returned (.tuple #[.pointer none, .int .i64 1]) ∧ Below w.heap.size w w'
 nodes : ∀ (b : Nat) (c : Cu) (k : Nat) (S : Nat → Prop) (w : World), (X b c).p S w → CuI k c →
  Calls Tryz.prog 16 #[.pointer (some ⟨b, 0, none⟩)] w fun e w' => e = .returned (.int .i64 c.n) ∧ Below w.heap.size w w'
 newest : ∀ (b : Nat) (c : Cu) (k : Nat) (S : Nat → Prop) (w : World), (X b c).p S w → CuI k c →
  Calls Tryz.prog 15 #[.pointer (some ⟨b, 0, none⟩)] w fun e w' => e = .returned (.agg #[.int .u64 c.pm.e, .int .i64 c.pm.p, .int .u64 c.pm.c]) ∧ Below w.heap.size w w'
 promote : ∀ (b : Nat) (c : Cu) (k : Nat) (n : Int) (S : Nat → Prop) (w : World), (X b c).p S w → CuI k c → k ≤ 800 → I64n n →
  Calls Tryz.prog 30 #[.pointer (some ⟨b, 0, none⟩), .int .i64 n] w fun e w' => e = .returned (.tuple #[.agg #[.int .u64 (proCu c n).1.1.e, .int .i64 (proCu c n).1.1.p, .int .u64 (proCu c n).1.1.c], .int .i64 (proCu c n).1.2]) ∧ Turn (X b (proCu c n).2) S w w'
 copy : ∀ (b : Nat) (c : Cu) (k : Nat) (n m : Int) (S : Nat → Prop) (w : World), (X b c).p S w → CuI k c → k ≤ 800 → I64n n → I64n m →
  Calls Tryz.prog 29 #[.pointer (some ⟨b, 0, none⟩), .int .i64 n, .int .i64 m] w fun e w' => e = .returned (.int .i64 (cpyCu c n m).1) ∧ Turn (X b (cpyCu c n m).2) S w w'
 run : ∀ (b : Nat) (c : Cu) (k : Nat) (n cn e : Int) (rd : Bool) (s : ByteArray) (S : Nat → Prop) (w : World), Lw w → (X b c).p S w → CuI k c → k ≤ 800 → Sm s → I64n n → I64n cn → U64n e →
  Calls Tryz.prog 27 #[.pointer (some ⟨b, 0, none⟩), .int .i64 n, .int .i64 cn, .int .u64 e, .bool rd, .string s] w fun e' w' => ∃ A m d, e' = .returned (rpV (runCu c n cn e rd s).1 A m d) ∧ XR w' A m (runCu c n cn e rd s).1.ts ∧ Told1 (X b (runCu c n cn e rd s).2) S A w w'
 close : ∀ (b : Nat) (c : Cu) (k : Nat) (n cn : Int) (S : Nat → Prop) (w : World), (X b c).p S w → CuI k c → k ≤ 800 → I64n n → I64n cn →
  Calls Tryz.prog 31 #[.pointer (some ⟨b, 0, none⟩), .int .i64 n, .int .i64 cn] w fun e w' => e = .returned (.bool (clsCu c n cn).1) ∧ Turn (X b (clsCu c n cn).2) S w w'
 epoch : ∀ (b : Nat) (c : Cu) (k : Nat) (n : Int) (S : Nat → Prop) (w : World), (X b c).p S w → CuI k c → I64n n →
  Calls Tryz.prog 17 #[.pointer (some ⟨b, 0, none⟩), .int .i64 n] w fun e w' => e = .returned (.int .u64 (epCu c n)) ∧ Below w.heap.size w w'
 leads : ∀ (b : Nat) (c : Cu) (k : Nat) (n : Int) (S : Nat → Prop) (w : World), (X b c).p S w → CuI k c → I64n n →
  Calls Tryz.prog 18 #[.pointer (some ⟨b, 0, none⟩), .int .i64 n] w fun e w' => e = .returned (.bool (ldCu c n)) ∧ Below w.heap.size w w'
 log : ∀ (b : Nat) (c : Cu) (k : Nat) (n : Int) (S : Nat → Prop) (w : World), (X b c).p S w → CuI k c → I64n n →
  Calls Tryz.prog 21 #[.pointer (some ⟨b, 0, none⟩), .int .i64 n] w fun e w' => ∃ A m d, e = .returned (.slice A m d) ∧ m ≤ d ∧ LR w' A m (lgCu c n) ∧ Told1 (X b c) S A w w'
 lag : ∀ (b : Nat) (c : Cu) (k : Nat) (n : Int) (S : Nat → Prop) (w : World), (X b c).p S w → CuI k c → I64n n →
  Calls Tryz.prog 22 #[.pointer (some ⟨b, 0, none⟩), .int .i64 n] w fun e w' => e = .returned (.int .u64 (lagCu c n)) ∧ Turn (X b c) S w w'
end
end Go.Proofs.YtdhnpmagapbmhaaGreatDoor
