/-
  Contracts and plain functions that the law stands on, part 16 of 24.
-/
import Derived.Test.YtaoegiohnebnhaaGreatDoorQD15
namespace Go.Proofs.YtaoegiohnebnhaaGreatDoor
/- The document's layer 15: Copy: contracts (of two nodes; of one from itself). -/
section
open Go.RowKit
set_option maxRecDepth 100000

def lenV : Value → Nat
  | .slice _ n _ => n
  | _ => 0
section
variable {b f : Nat} {n fn : Nd} {S T : Nat → Prop} {w : World}
set_option maxHeartbeats 64000000 in
theorem rcopy15_ok (m : Int) (h : (RN b n).p S w) (hf : (RN f fn).p T w) (hd : ∀ k, S k → ¬ T k) (hl : n.lg.length ≤ 200) (hfl0 : fn.lg.length ≤ 200) :
    Calls Tryz.prog 36 #[.pointer (some ⟨b, 0, none⟩), .pointer (some ⟨f, 0, none⟩), .int .i64 m] w fun e w' => e = .returned (.int .i64 (copyNd n fn m).1) ∧ Lays b (copyNd n fn m).2 S w w' := by
  have HT := Lib.hid h
  obtain ⟨AL, nl, cl, AO, no, co, os, hx0⟩ := h
  obtain ⟨FL, fl, fc, FO, fo, fco, fos, hy0⟩ := hf
  obtain ⟨c0, c1, c2, c3, f0, f1, f2, f3⟩ := hx0.tops
  obtain ⟨d0, d1, d2, d3, _⟩ := hy0.tops
  have HX := Lib.hid hx0
  have HY := Lib.hid hy0
  have HNL : Hid (n.lg.length = nl) := Lib.hid hx0.lg.len
  have HFL : Hid (fn.lg.length = fl) := Lib.hid hy0.lg.len
  have HNL2 : Hid (nl ≤ 200) := Lib.hid (by rw [← hx0.lg.len]; exact hl)
  have HFL2 : Hid (fl ≤ 200) := Lib.hid (by rw [← hy0.lg.len]; exact hfl0)
  have hfb : f ≠ b := fun e => hd b hx0.sb (e ▸ hy0.sb)
  have HDJ := Lib.hid hd
  have hblt : b < w.heap.size := hx0.lt b hx0.sb
  obtain ⟨i0, hi, hz0, hz1, hz2⟩ := info_parts entinfo
  clear hx0 hy0 hd hl hfl0
  by_cases hno : fn.ep < n.ep ∨ (fn.ep = n.ep ∧ n.ld = true)
  · rw [show copyNd n fn m = (0, n) from if_pos hno]
    by_cases h1 : fn.ep < n.ep
    · have g1 : decide (fn.ep < n.ep) = true := decide_eq_true h1
      clear hno
      go_enter Tryz.func36, Tryz.ntmps36
      go_wp2_with fail
      go_quiet (fail)
      go_wp2_with fail
      go_ret
      exact ⟨rfl, ⟨_, Thing.next HT.out (kp_drewN _ _), fun _ h => .inl h⟩, Off.of _ (kp_drewN _ _)⟩
    · obtain ⟨h2, h3⟩ := hno.resolve_left h1
      have g1 : decide (fn.ep < n.ep) = false := decide_eq_false h1
      have g2 : (fn.ep == n.ep) = true := by simpa using h2
      rw [h3] at c1
      clear hno h1 h2 h3
      go_enter Tryz.func36, Tryz.ntmps36
      go_wp2_with fail
      go_quiet (fail)
      go_wp2_with fail
      go_ret
      exact ⟨rfl, ⟨_, Thing.next HT.out (kp_drewN _ _), fun _ h => .inl h⟩, Off.of _ (kp_drewN _ _)⟩
  · have HCP : Hid (copyNd n fn m = ((manyNd n fn m : Int), { turnNd n fn with lg := fn.lg.take (sameLg n.lg fn.lg + manyNd n fn m) })) := Lib.hid (if_neg hno)
    have h1 : ¬ fn.ep < n.ep := fun h => hno (.inl h)
    have g1 : decide (fn.ep < n.ep) = false := decide_eq_false h1
    by_cases h2 : fn.ep = n.ep
    · have hld : n.ld = false := by
        cases hl : n.ld with
        | false => rfl
        | true => exact absurd (.inr ⟨h2, hl⟩) hno
      rw [hld] at c1
      have g2 : (fn.ep == n.ep) = true := by simpa using h2
      have h4 : ¬ n.ep < fn.ep := by omega
      have g4 : decide (n.ep < fn.ep) = false := decide_eq_false h4
      rw [show turnNd n fn = n from if_neg h4] at HCP
      clear hno h1 h2
      go_enter Tryz.func36, Tryz.ntmps36
      go_wp2_with fail
      go_quiet (fail)
      obtain ⟨wa, hwa⟩ : ∃ u, w.drewN nq = u := ⟨_, rfl⟩
      have ka : Below w.heap.size w wa := hwa ▸ kp_drewN w nq
      rw [hwa]
      obtain ⟨c0, c1, c2, c3, f0, f1, f2, f3⟩ := (HX.out.keep (fun k e => ka.block k (HX.out.lt k e)) ka.size).tops
      obtain ⟨d0, d1, d2, d3, _⟩ := (HY.out.keep (fun k e => ka.block k (HY.out.lt k e)) ka.size).tops
      have HKA0 := Lib.hid ka
      clear hwa ka
      go_wp2_with fail
      go_quiet (fail)
      obtain ⟨wz, hwz⟩ : ∃ u, wa.drewN nq = u := ⟨_, rfl⟩
      have kz : Below w.heap.size w wz := HKA0.out.trans ((hwz ▸ kp_drewN wa nq : Below wa.heap.size wa wz).mono HKA0.out.size)
      rw [hwz]
      have HXZ := Lib.hid (HX.out.keep (fun k e => kz.block k (HX.out.lt k e)) kz.size)
      have HZW : Hid (Off (fun k => k = b) w wz) := Lib.hid (Off.of _ kz)
      have HYZ := Lib.hid (HY.out.keep (fun k e => kz.block k (HY.out.lt k e)) kz.size)
      go_wp2_with fail
      have HFZ : Hid (∀ u, Below wz.heap.size wz u → u.cell? ⟨f, 2, none⟩ = some (.slice FL fl fc) ∧ LR u FL fl fn.lg) := Lib.hid fun u hu => by
        have h := HYZ.out.keep (fun k e => hu.block k (HYZ.out.lt k e)) hu.size
        exact ⟨h.tops.2.2.1, h.lg⟩
      have HO0 : Hid ((wz.alloc (.cells #[] 71)).ownsRow wz.heap.size 71 2 (.slice (some ⟨wz.heap.size, 0, none⟩) 0 0) 0 (lgC (n.lg.take 0))) := Lib.hid (own_new_s wz wz.heap.size 2 71 0 [] rfl (Nat.le_refl _) (Nat.zero_le _))
      have HK0 := Lib.hid (kp_new wz (.cells #[] 71))
      go_loopw [7] (fun l wr => ∃ (k e : Nat) (D : Option Addr), l = .slice D k e ∧ k ≤ sameLg n.lg fn.lg ∧ Hid (wr.ownsRow wz.heap.size 71 2 (.slice D k e) k (lgC (n.lg.take k))) ∧ Hid (Below wz.heap.size wz wr)) (fun l _ => nl - lenV l)
      case atStart => exact ⟨0, 0, _, rfl, Nat.zero_le _, HO0, HK0⟩
      case round =>
        obtain ⟨k, e, D, rfl, hks, ho, hw⟩ := hrel
        clear HO0 HK0
        obtain ⟨_, _, y2, _⟩ := (HXZ.out.keep (fun k e => hw.out.block k (HXZ.out.lt k e)) hw.out.size).tops
        obtain ⟨z2, hfl⟩ := HFZ.out wr hw.out
        have hkn : k ≤ nl := by have := (sameLg_le n.lg fn.lg).1; have := HNL.out; omega
        have hkf : k ≤ fl := by have := (sameLg_le n.lg fn.lg).2; have := HFL.out; omega
        by_cases hlt : k < nl ∧ k < fl
        · obtain ⟨h1, h2⟩ := hlt
          have hkl : k < n.lg.length := by rw [HNL.out]; exact h1
          have hkl2 : k < fn.lg.length := by rw [HFL.out]; exact h2
          have hlr : LR wr AL nl n.lg := (HXZ.out.keep (fun k e => hw.out.block k (HXZ.out.lt k e)) hw.out.size).lg
          obtain ⟨ad, rfl, hadl, hc⟩ := hlr.at_ (j := k) hkl
          obtain ⟨ad', hA', _, hc'⟩ := hfl.at_ hkl2
          first | subst hA' | (injection hA' with hA'; subst hA')
          obtain ⟨c0, c1⟩ := hc _ (Below.refl _ _)
          obtain ⟨d0, d1⟩ := hc' _ (Below.refl _ _)
          have g1 : decide ((k : Int) < (nl : Int)) = true := decide_eq_true (by omega)
          have g2 : decide ((k : Int) < (fl : Int)) = true := decide_eq_true (by omega)
          have g3 : (k : Int) < (nl : Int) := by omega
          have g4 : (k : Int) < (fl : Int) := by omega
          have g5 : (0 : Int) ≤ (k : Int) := by omega
          have hE := fun u => eql_ents 71 rfl n.lg[k].e fn.lg[k].e n.lg[k].t fn.lg[k].t u
          by_cases hee : n.lg[k] = fn.lg[k]
          · have hd : decide ((⟨n.lg[k].e, n.lg[k].t⟩ : Lg) = ⟨fn.lg[k].e, fn.lg[k].t⟩) = true := decide_eq_true hee
            rw [hd] at hE
            have hks2 : k + 1 ≤ sameLg n.lg fn.lg := by
              rcases Nat.lt_or_ge k (sameLg n.lg fn.lg) with h | h
              · exact h
              · have e1 : sameLg n.lg fn.lg = k := by omega
                have hne := sameLg_ne n.lg fn.lg (by omega) (by omega)
                simp only [e1] at hne
                exact absurd hee hne
            have HNX : Hid (lgC (n.lg.take (k + 1)) = lgC (n.lg.take k) ++ [.int .u64 n.lg[k].e, .string n.lg[k].t]) := Lib.hid (by
              rw [List.take_succ_eq_append_getElem hkl, lgC_append]
              rfl)
            have HSM : Hid (k ≤ 1000) := Lib.hid (by have := HNL2.out; omega)
            clear hee hd hc hc' hlr hfl
            generalize n.lg[k].e = x at *
            generalize fn.lg[k].e = x' at *
            generalize n.lg[k].t = s at *
            generalize fn.lg[k].t = s' at *
            go_wp2_with fail
            go_quiet (fail)
            obtain ⟨wq, hwq⟩ : ∃ u, wr.drewN nq = u := ⟨_, rfl⟩
            have kq : Below wr.heap.size wr wq := hwq ▸ kp_drewN wr nq
            rw [hwq]
            have hbq := hw.out.trans (kq.mono hw.out.size)
            obtain ⟨_, _, y2, _⟩ := (HXZ.out.keep (fun k e => hbq.block k (HXZ.out.lt k e)) hbq.size).tops
            have c0' := (World.cell?_of_block (a := ad.add (k * 2)) (kq.block _ (by rw [add_block]; exact hadl))).trans c0
            have c1' := (World.cell?_of_block (a := ⟨(ad.add (k * 2)).block, (ad.add (k * 2)).off + 1, none⟩) (kq.block _ (by show (ad.add (k * 2)).block < _; rw [add_block]; exact hadl))).trans c1
            have HO1 := Lib.hid ((own_below_s ho.out kq (Nat.le_refl _)).alloc (.cells #[.int .u64 x, .string s] 71))
            have HR1 : Hid (Rd (wq.alloc (.cells #[.int .u64 x, .string s] 71)) (wq.heap.size + 1) (some ⟨wq.heap.size, 0, none⟩) [.int .u64 x, .string s]) := Lib.hid (Rd.new wq 71 [.int .u64 x, .string s])
            have HKA := Lib.hid (hbq.alloc hbq.size (.cells #[.int .u64 x, .string s] 71))
            have HS1 := Lib.hid HKA.out.size
            clear c0 c1 d0 d1 hbq hwq kq ho hw z2
            go_wp2_with (at_builtin; refine wpList_append_rds rfl (.tmp 95) (.tmp 104) _ rfl wz.heap.size 71 i0 _ 2 24 Tryz.underlying51 hi hz0 hz1 hz2 rfl (by omega) _ k _ rfl HO1.out _ _ 1 _ [.int .u64 x, .string s] rfl rfl HR1.out (by simp [Value.oneCell']) (by have := HSM.out; unfold maxLen; omega) (by have := HSM.out; omega) HS1.out ?_; intro v3 w3 hown3 hg3; obtain ⟨D3, e3, rfl, _, _⟩ := own_form_s hown3; have HO3 := Lib.hid hown3; have HK3 := Lib.hid (HKA.out.trans (below_own_s HO1.out hg3 HS1.out)); clear hown3 hg3)
            go_roundw
            case rel => exact ⟨k + 1, e3, D3, rfl, hks2, Lib.hid (by rw [HNX.out]; exact HO3.out), HK3⟩
            case measure => simp [lenV]; omega
          · have hd : decide ((⟨n.lg[k].e, n.lg[k].t⟩ : Lg) = ⟨fn.lg[k].e, fn.lg[k].t⟩) = false := decide_eq_false hee
            rw [hd] at hE
            have HSA : Hid (sameLg n.lg fn.lg = k) := Lib.hid (by
              rcases Nat.lt_or_ge k (sameLg n.lg fn.lg) with h | h
              · exact absurd (sameLg_at n.lg fn.lg k hkl hkl2 h) hee
              · omega)
            clear hee hd hc hc' hlr hfl hks
            generalize n.lg[k].e = x at *
            generalize fn.lg[k].e = x' at *
            generalize n.lg[k].t = s at *
            generalize fn.lg[k].t = s' at *
            go_wp2_with fail
            go_quiet (fail)
            obtain ⟨wq, hwq⟩ : ∃ u, wr.drewN nq = u := ⟨_, rfl⟩
            have kq : Below wr.heap.size wr wq := hwq ▸ kp_drewN wr nq
            rw [hwq]
            have HWB : Hid (Below wz.heap.size wz wq) := Lib.hid (hw.out.trans (kq.mono hw.out.size))
            have hoq := own_below_s ho.out kq (Nat.le_refl _)
            have HOQ : Hid (wq.ownsRow wz.heap.size 71 2 (.slice D k e) (k + 0) (lgC (fn.lg.take (k + 0)))) := Lib.hid (by
              have h1 := sameLg_take n.lg fn.lg
              rw [HSA.out] at h1
              rw [Nat.add_zero, ← h1]
              exact hoq)
            have hmn : manyNd n fn m = min (fl - k) m.toNat := by
              unfold manyNd
              rw [HSA.out, HFL.out]
            have HMN := Lib.hid hmn
            have hkf2 : k ≤ fl := hkf
            have hfl2 := HFL2.out
            clear hwq kq ho hw hoq hmn
            go_wp2_with fail
            go_loopw [7, 8] (fun l i wr => ∃ (q e : Nat) (D : Option Addr), l = .slice D (k + q) e ∧ i = .int .i64 q ∧ q ≤ manyNd n fn m ∧ Hid (wr.ownsRow wz.heap.size 71 2 (.slice D (k + q) e) (k + q) (lgC (fn.lg.take (k + q)))) ∧ Hid (Below wz.heap.size wz wr)) (fun _ i _ => fl - (intOf i).toNat)
            case atStart => exact ⟨0, e, D, rfl, rfl, Nat.zero_le _, HOQ, HWB⟩
            case round =>
              obtain ⟨q, e, D, rfl, rfl, hq, ho, hw⟩ := hrel
              clear HOQ HWB
              obtain ⟨z2, hfl⟩ := HFZ.out wr hw.out
              by_cases h5 : k + q < fl
              · by_cases h6 : (q : Int) < m
                · have g6 : ((k + q : Nat) : Int) < (fl : Int) := by omega
                  have hq2 : q + 1 ≤ manyNd n fn m := by rw [HMN.out]; omega
                  have hkl2 : k + q < fn.lg.length := by rw [HFL.out]; exact h5
                  obtain ⟨ad', hA', hadl', hc'⟩ := hfl.at_ hkl2
                  first | subst hA' | (injection hA' with hA'; subst hA')
                  obtain ⟨d0, d1⟩ := hc' _ (Below.refl _ _)
                  have HNX : Hid (lgC (fn.lg.take (k + q + 1)) = lgC (fn.lg.take (k + q)) ++ [.int .u64 fn.lg[k + q].e, .string fn.lg[k + q].t]) := Lib.hid (by
                    rw [List.take_succ_eq_append_getElem hkl2, lgC_append]
                    rfl)
                  have HSM : Hid (k + q ≤ 1000) := Lib.hid (by omega)
                  have g5 : (0 : Int) ≤ ((k + q : Nat) : Int) := by omega
                  clear hc' hfl
                  generalize fn.lg[k + q].e = x at *
                  generalize fn.lg[k + q].t = s at *
                  have HO1 := Lib.hid (ho.out.alloc (.cells #[.int .u64 x, .string s] 71))
                  have HR1 : Hid (Rd (wr.alloc (.cells #[.int .u64 x, .string s] 71)) (wr.heap.size + 1) (some ⟨wr.heap.size, 0, none⟩) [.int .u64 x, .string s]) := Lib.hid (Rd.new wr 71 [.int .u64 x, .string s])
                  have HKA := Lib.hid (hw.out.alloc hw.out.size (.cells #[.int .u64 x, .string s] 71))
                  have HS1 := Lib.hid HKA.out.size
                  clear ho hw
                  go_wp2_with (at_builtin; refine wpList_append_rds rfl (.tmp 119) (.tmp 128) _ rfl wz.heap.size 71 i0 _ 2 24 Tryz.underlying51 hi hz0 hz1 hz2 rfl (by omega) _ (k + q) _ rfl HO1.out _ _ 1 _ [.int .u64 x, .string s] rfl rfl HR1.out (by simp [Value.oneCell']) (by have := HSM.out; unfold maxLen; omega) (by have := HSM.out; omega) HS1.out ?_; intro v3 w3 hown3 hg3; obtain ⟨D3, e3, rfl, _, _⟩ := own_form_s hown3; have HO3 := Lib.hid hown3; have HK3 := Lib.hid (HKA.out.trans (below_own_s HO1.out hg3 HS1.out)); clear hown3 hg3)
                  go_roundw
                  case rel => exact ⟨q + 1, e3, D3, rfl, by go_num, hq2, Lib.hid (by show World.ownsRow _ _ _ _ _ (k + q + 1) (lgC (fn.lg.take (k + q + 1))); rw [HNX.out]; exact HO3.out), HK3⟩
                  case measure => simp [intOf]; omega
                · have hqe : q = manyNd n fn m := by rw [HMN.out] at hq ⊢; omega
                  have g6 : ((k + q : Nat) : Int) < (fl : Int) := by omega
                  clear hfl
                  have hrx := HXZ.out.keep (fun k e => hw.out.block k (HXZ.out.lt k e)) hw.out.size
                  obtain ⟨_, _, y2, _, _, _, f2, _⟩ := hrx.tops
                  have hb6 := heap_setCell_same wr b 2 _ _ (.slice D (k + q) e) hrx.top
                  have ho6 : (wr.setCell ⟨b, 2, none⟩ (.slice D (k + q) e)).ownsRow wz.heap.size 71 2 (.slice D (k + q) e) (k + q) (lgC (fn.lg.take (k + q))) := ownsRow_setCell_other (a := ⟨b, 2, none⟩) ho.out (own_type_ne ho.out hrx.top (by decide)) _
                  have hof : Off (fun k => k = b) wz (wr.setCell ⟨b, 2, none⟩ (.slice D (k + q) e)) := Off.setCell (S := fun k => k = b) (p := ⟨b, 2, none⟩) (Off.of (fun k => k = b) hw.out) (.inl rfl) _
                  have hrl := HXZ.out.relog hb6 (LR.of_own ho6) (fun ad e => by subst e; exact ho6.lt _ rfl) (fun k hk hkb => hof.block k (HXZ.out.lt k hk) hkb) hof.size
                  have HFIN : Hid (Lays b (copyNd n fn m).2 S w (wr.setCell ⟨b, 2, none⟩ (.slice D (k + q) e))) := Lib.hid (by
                    rw [HCP.out, HSA.out, ← hqe]
                    have hz := HZW.out.size
                    exact ⟨⟨_, ⟨_, _, _, _, _, _, _, hrl⟩, fun k hk => hk.elim (fun e => .inl e) (fun e => .inr (by omega))⟩, HZW.out.trans hof fun _ h => .inl h⟩)
                  have HQE : Hid ((copyNd n fn m).1 = (q : Int)) := Lib.hid (by rw [HCP.out, ← hqe])
                  clear hrx hb6 ho6 hof hrl hqe ho hw hq
                  go_wp2_with fail
                  go_ret
                  exact ⟨by rw [HQE.out]; rfl, HFIN.out⟩
              · have hqe : q = manyNd n fn m := by rw [HMN.out] at hq ⊢; omega
                have g6 : ¬ ((k + q : Nat) : Int) < (fl : Int) := by omega
                clear hfl
                have hrx := HXZ.out.keep (fun k e => hw.out.block k (HXZ.out.lt k e)) hw.out.size
                obtain ⟨_, _, y2, _, _, _, f2, _⟩ := hrx.tops
                have hb6 := heap_setCell_same wr b 2 _ _ (.slice D (k + q) e) hrx.top
                have ho6 : (wr.setCell ⟨b, 2, none⟩ (.slice D (k + q) e)).ownsRow wz.heap.size 71 2 (.slice D (k + q) e) (k + q) (lgC (fn.lg.take (k + q))) := ownsRow_setCell_other (a := ⟨b, 2, none⟩) ho.out (own_type_ne ho.out hrx.top (by decide)) _
                have hof : Off (fun k => k = b) wz (wr.setCell ⟨b, 2, none⟩ (.slice D (k + q) e)) := Off.setCell (S := fun k => k = b) (p := ⟨b, 2, none⟩) (Off.of (fun k => k = b) hw.out) (.inl rfl) _
                have hrl := HXZ.out.relog hb6 (LR.of_own ho6) (fun ad e => by subst e; exact ho6.lt _ rfl) (fun k hk hkb => hof.block k (HXZ.out.lt k hk) hkb) hof.size
                have HFIN : Hid (Lays b (copyNd n fn m).2 S w (wr.setCell ⟨b, 2, none⟩ (.slice D (k + q) e))) := Lib.hid (by
                  rw [HCP.out, HSA.out, ← hqe]
                  have hz := HZW.out.size
                  exact ⟨⟨_, ⟨_, _, _, _, _, _, _, hrl⟩, fun k hk => hk.elim (fun e => .inl e) (fun e => .inr (by omega))⟩, HZW.out.trans hof fun _ h => .inl h⟩)
                have HQE : Hid ((copyNd n fn m).1 = (q : Int)) := Lib.hid (by rw [HCP.out, ← hqe])
                clear hrx hb6 ho6 hof hrl hqe ho hw hq
                go_wp2_with fail
                go_ret
                exact ⟨by rw [HQE.out]; rfl, HFIN.out⟩
        · have HSA : Hid (sameLg n.lg fn.lg = k) := Lib.hid (by
            have h1 := (sameLg_le n.lg fn.lg).1
            have h2 := (sameLg_le n.lg fn.lg).2
            have := HNL.out
            have := HFL.out
            omega)
          clear hks hfl
          by_cases h1 : k < nl
          · have h2 : ¬ k < fl := fun h => hlt ⟨h1, h⟩
            have g1 : decide ((k : Int) < (nl : Int)) = true := decide_eq_true (by omega)
            have g2 : decide ((k : Int) < (fl : Int)) = false := decide_eq_false (by omega)
            have g3 : (k : Int) < (nl : Int) := by omega
            have g4 : ¬ (k : Int) < (fl : Int) := by omega
            clear hlt
            go_wp2_with fail
            go_quiet (fail)
            clear g1 g2 g3 g4 h1 h2
            obtain ⟨wq, hwq⟩ : ∃ u, wr.drewN nq = u := ⟨_, rfl⟩
            have kq : Below wr.heap.size wr wq := hwq ▸ kp_drewN wr nq
            rw [hwq]
            have HWB : Hid (Below wz.heap.size wz wq) := Lib.hid (hw.out.trans (kq.mono hw.out.size))
            have hoq := own_below_s ho.out kq (Nat.le_refl _)
            have HOQ : Hid (wq.ownsRow wz.heap.size 71 2 (.slice D k e) (k + 0) (lgC (fn.lg.take (k + 0)))) := Lib.hid (by
              have h1 := sameLg_take n.lg fn.lg
              rw [HSA.out] at h1
              rw [Nat.add_zero, ← h1]
              exact hoq)
            have hmn : manyNd n fn m = min (fl - k) m.toNat := by
              unfold manyNd
              rw [HSA.out, HFL.out]
            have HMN := Lib.hid hmn
            have hkf2 : k ≤ fl := hkf
            have hfl2 := HFL2.out
            clear hwq kq ho hw hoq hmn
            go_wp2_with fail
            go_loopw [7, 8] (fun l i wr => ∃ (q e : Nat) (D : Option Addr), l = .slice D (k + q) e ∧ i = .int .i64 q ∧ q ≤ manyNd n fn m ∧ Hid (wr.ownsRow wz.heap.size 71 2 (.slice D (k + q) e) (k + q) (lgC (fn.lg.take (k + q)))) ∧ Hid (Below wz.heap.size wz wr)) (fun _ i _ => fl - (intOf i).toNat)
            case atStart => exact ⟨0, e, D, rfl, rfl, Nat.zero_le _, HOQ, HWB⟩
            case round =>
              obtain ⟨q, e, D, rfl, rfl, hq, ho, hw⟩ := hrel
              clear HOQ HWB
              obtain ⟨z2, hfl⟩ := HFZ.out wr hw.out
              by_cases h5 : k + q < fl
              · by_cases h6 : (q : Int) < m
                · have g6 : ((k + q : Nat) : Int) < (fl : Int) := by omega
                  have hq2 : q + 1 ≤ manyNd n fn m := by rw [HMN.out]; omega
                  have hkl2 : k + q < fn.lg.length := by rw [HFL.out]; exact h5
                  obtain ⟨ad', hA', hadl', hc'⟩ := hfl.at_ hkl2
                  first | subst hA' | (injection hA' with hA'; subst hA')
                  obtain ⟨d0, d1⟩ := hc' _ (Below.refl _ _)
                  have HNX : Hid (lgC (fn.lg.take (k + q + 1)) = lgC (fn.lg.take (k + q)) ++ [.int .u64 fn.lg[k + q].e, .string fn.lg[k + q].t]) := Lib.hid (by
                    rw [List.take_succ_eq_append_getElem hkl2, lgC_append]
                    rfl)
                  have HSM : Hid (k + q ≤ 1000) := Lib.hid (by omega)
                  have g5 : (0 : Int) ≤ ((k + q : Nat) : Int) := by omega
                  clear hc' hfl
                  generalize fn.lg[k + q].e = x at *
                  generalize fn.lg[k + q].t = s at *
                  have HO1 := Lib.hid (ho.out.alloc (.cells #[.int .u64 x, .string s] 71))
                  have HR1 : Hid (Rd (wr.alloc (.cells #[.int .u64 x, .string s] 71)) (wr.heap.size + 1) (some ⟨wr.heap.size, 0, none⟩) [.int .u64 x, .string s]) := Lib.hid (Rd.new wr 71 [.int .u64 x, .string s])
                  have HKA := Lib.hid (hw.out.alloc hw.out.size (.cells #[.int .u64 x, .string s] 71))
                  have HS1 := Lib.hid HKA.out.size
                  clear ho hw
                  go_wp2_with (at_builtin; refine wpList_append_rds rfl (.tmp 119) (.tmp 128) _ rfl wz.heap.size 71 i0 _ 2 24 Tryz.underlying51 hi hz0 hz1 hz2 rfl (by omega) _ (k + q) _ rfl HO1.out _ _ 1 _ [.int .u64 x, .string s] rfl rfl HR1.out (by simp [Value.oneCell']) (by have := HSM.out; unfold maxLen; omega) (by have := HSM.out; omega) HS1.out ?_; intro v3 w3 hown3 hg3; obtain ⟨D3, e3, rfl, _, _⟩ := own_form_s hown3; have HO3 := Lib.hid hown3; have HK3 := Lib.hid (HKA.out.trans (below_own_s HO1.out hg3 HS1.out)); clear hown3 hg3)
                  go_roundw
                  case rel => exact ⟨q + 1, e3, D3, rfl, by go_num, hq2, Lib.hid (by show World.ownsRow _ _ _ _ _ (k + q + 1) (lgC (fn.lg.take (k + q + 1))); rw [HNX.out]; exact HO3.out), HK3⟩
                  case measure => simp [intOf]; omega
                · have hqe : q = manyNd n fn m := by rw [HMN.out] at hq ⊢; omega
                  have g6 : ((k + q : Nat) : Int) < (fl : Int) := by omega
                  clear hfl
                  have hrx := HXZ.out.keep (fun k e => hw.out.block k (HXZ.out.lt k e)) hw.out.size
                  obtain ⟨_, _, y2, _, _, _, f2, _⟩ := hrx.tops
                  have hb6 := heap_setCell_same wr b 2 _ _ (.slice D (k + q) e) hrx.top
                  have ho6 : (wr.setCell ⟨b, 2, none⟩ (.slice D (k + q) e)).ownsRow wz.heap.size 71 2 (.slice D (k + q) e) (k + q) (lgC (fn.lg.take (k + q))) := ownsRow_setCell_other (a := ⟨b, 2, none⟩) ho.out (own_type_ne ho.out hrx.top (by decide)) _
                  have hof : Off (fun k => k = b) wz (wr.setCell ⟨b, 2, none⟩ (.slice D (k + q) e)) := Off.setCell (S := fun k => k = b) (p := ⟨b, 2, none⟩) (Off.of (fun k => k = b) hw.out) (.inl rfl) _
                  have hrl := HXZ.out.relog hb6 (LR.of_own ho6) (fun ad e => by subst e; exact ho6.lt _ rfl) (fun k hk hkb => hof.block k (HXZ.out.lt k hk) hkb) hof.size
                  have HFIN : Hid (Lays b (copyNd n fn m).2 S w (wr.setCell ⟨b, 2, none⟩ (.slice D (k + q) e))) := Lib.hid (by
                    rw [HCP.out, HSA.out, ← hqe]
                    have hz := HZW.out.size
                    exact ⟨⟨_, ⟨_, _, _, _, _, _, _, hrl⟩, fun k hk => hk.elim (fun e => .inl e) (fun e => .inr (by omega))⟩, HZW.out.trans hof fun _ h => .inl h⟩)
                  have HQE : Hid ((copyNd n fn m).1 = (q : Int)) := Lib.hid (by rw [HCP.out, ← hqe])
                  clear hrx hb6 ho6 hof hrl hqe ho hw hq
                  go_wp2_with fail
                  go_ret
                  exact ⟨by rw [HQE.out]; rfl, HFIN.out⟩
              · have hqe : q = manyNd n fn m := by rw [HMN.out] at hq ⊢; omega
                have g6 : ¬ ((k + q : Nat) : Int) < (fl : Int) := by omega
                clear hfl
                have hrx := HXZ.out.keep (fun k e => hw.out.block k (HXZ.out.lt k e)) hw.out.size
                obtain ⟨_, _, y2, _, _, _, f2, _⟩ := hrx.tops
                have hb6 := heap_setCell_same wr b 2 _ _ (.slice D (k + q) e) hrx.top
                have ho6 : (wr.setCell ⟨b, 2, none⟩ (.slice D (k + q) e)).ownsRow wz.heap.size 71 2 (.slice D (k + q) e) (k + q) (lgC (fn.lg.take (k + q))) := ownsRow_setCell_other (a := ⟨b, 2, none⟩) ho.out (own_type_ne ho.out hrx.top (by decide)) _
                have hof : Off (fun k => k = b) wz (wr.setCell ⟨b, 2, none⟩ (.slice D (k + q) e)) := Off.setCell (S := fun k => k = b) (p := ⟨b, 2, none⟩) (Off.of (fun k => k = b) hw.out) (.inl rfl) _
                have hrl := HXZ.out.relog hb6 (LR.of_own ho6) (fun ad e => by subst e; exact ho6.lt _ rfl) (fun k hk hkb => hof.block k (HXZ.out.lt k hk) hkb) hof.size
                have HFIN : Hid (Lays b (copyNd n fn m).2 S w (wr.setCell ⟨b, 2, none⟩ (.slice D (k + q) e))) := Lib.hid (by
                  rw [HCP.out, HSA.out, ← hqe]
                  have hz := HZW.out.size
                  exact ⟨⟨_, ⟨_, _, _, _, _, _, _, hrl⟩, fun k hk => hk.elim (fun e => .inl e) (fun e => .inr (by omega))⟩, HZW.out.trans hof fun _ h => .inl h⟩)
                have HQE : Hid ((copyNd n fn m).1 = (q : Int)) := Lib.hid (by rw [HCP.out, ← hqe])
                clear hrx hb6 ho6 hof hrl hqe ho hw hq
                go_wp2_with fail
                go_ret
                exact ⟨by rw [HQE.out]; rfl, HFIN.out⟩
          · have g1 : decide ((k : Int) < (nl : Int)) = false := decide_eq_false (by omega)
            have g3 : ¬ (k : Int) < (nl : Int) := by omega
            clear hlt
            go_wp2_with fail
            go_quiet (fail)
            clear g1 g3 h1
            obtain ⟨wq, hwq⟩ : ∃ u, wr.drewN nq = u := ⟨_, rfl⟩
            have kq : Below wr.heap.size wr wq := hwq ▸ kp_drewN wr nq
            rw [hwq]
            have HWB : Hid (Below wz.heap.size wz wq) := Lib.hid (hw.out.trans (kq.mono hw.out.size))
            have hoq := own_below_s ho.out kq (Nat.le_refl _)
            have HOQ : Hid (wq.ownsRow wz.heap.size 71 2 (.slice D k e) (k + 0) (lgC (fn.lg.take (k + 0)))) := Lib.hid (by
              have h1 := sameLg_take n.lg fn.lg
              rw [HSA.out] at h1
              rw [Nat.add_zero, ← h1]
              exact hoq)
            have hmn : manyNd n fn m = min (fl - k) m.toNat := by
              unfold manyNd
              rw [HSA.out, HFL.out]
            have HMN := Lib.hid hmn
            have hkf2 : k ≤ fl := hkf
            have hfl2 := HFL2.out
            clear hwq kq ho hw hoq hmn
            go_wp2_with fail
            go_loopw [7, 8] (fun l i wr => ∃ (q e : Nat) (D : Option Addr), l = .slice D (k + q) e ∧ i = .int .i64 q ∧ q ≤ manyNd n fn m ∧ Hid (wr.ownsRow wz.heap.size 71 2 (.slice D (k + q) e) (k + q) (lgC (fn.lg.take (k + q)))) ∧ Hid (Below wz.heap.size wz wr)) (fun _ i _ => fl - (intOf i).toNat)
            case atStart => exact ⟨0, e, D, rfl, rfl, Nat.zero_le _, HOQ, HWB⟩
            case round =>
              obtain ⟨q, e, D, rfl, rfl, hq, ho, hw⟩ := hrel
              clear HOQ HWB
              obtain ⟨z2, hfl⟩ := HFZ.out wr hw.out
              by_cases h5 : k + q < fl
              · by_cases h6 : (q : Int) < m
                · have g6 : ((k + q : Nat) : Int) < (fl : Int) := by omega
                  have hq2 : q + 1 ≤ manyNd n fn m := by rw [HMN.out]; omega
                  have hkl2 : k + q < fn.lg.length := by rw [HFL.out]; exact h5
                  obtain ⟨ad', hA', hadl', hc'⟩ := hfl.at_ hkl2
                  first | subst hA' | (injection hA' with hA'; subst hA')
                  obtain ⟨d0, d1⟩ := hc' _ (Below.refl _ _)
                  have HNX : Hid (lgC (fn.lg.take (k + q + 1)) = lgC (fn.lg.take (k + q)) ++ [.int .u64 fn.lg[k + q].e, .string fn.lg[k + q].t]) := Lib.hid (by
                    rw [List.take_succ_eq_append_getElem hkl2, lgC_append]
                    rfl)
                  have HSM : Hid (k + q ≤ 1000) := Lib.hid (by omega)
                  have g5 : (0 : Int) ≤ ((k + q : Nat) : Int) := by omega
                  clear hc' hfl
                  generalize fn.lg[k + q].e = x at *
                  generalize fn.lg[k + q].t = s at *
                  have HO1 := Lib.hid (ho.out.alloc (.cells #[.int .u64 x, .string s] 71))
                  have HR1 : Hid (Rd (wr.alloc (.cells #[.int .u64 x, .string s] 71)) (wr.heap.size + 1) (some ⟨wr.heap.size, 0, none⟩) [.int .u64 x, .string s]) := Lib.hid (Rd.new wr 71 [.int .u64 x, .string s])
                  have HKA := Lib.hid (hw.out.alloc hw.out.size (.cells #[.int .u64 x, .string s] 71))
                  have HS1 := Lib.hid HKA.out.size
                  clear ho hw
                  go_wp2_with (at_builtin; refine wpList_append_rds rfl (.tmp 119) (.tmp 128) _ rfl wz.heap.size 71 i0 _ 2 24 Tryz.underlying51 hi hz0 hz1 hz2 rfl (by omega) _ (k + q) _ rfl HO1.out _ _ 1 _ [.int .u64 x, .string s] rfl rfl HR1.out (by simp [Value.oneCell']) (by have := HSM.out; unfold maxLen; omega) (by have := HSM.out; omega) HS1.out ?_; intro v3 w3 hown3 hg3; obtain ⟨D3, e3, rfl, _, _⟩ := own_form_s hown3; have HO3 := Lib.hid hown3; have HK3 := Lib.hid (HKA.out.trans (below_own_s HO1.out hg3 HS1.out)); clear hown3 hg3)
                  go_roundw
                  case rel => exact ⟨q + 1, e3, D3, rfl, by go_num, hq2, Lib.hid (by show World.ownsRow _ _ _ _ _ (k + q + 1) (lgC (fn.lg.take (k + q + 1))); rw [HNX.out]; exact HO3.out), HK3⟩
                  case measure => simp [intOf]; omega
                · have hqe : q = manyNd n fn m := by rw [HMN.out] at hq ⊢; omega
                  have g6 : ((k + q : Nat) : Int) < (fl : Int) := by omega
                  clear hfl
                  have hrx := HXZ.out.keep (fun k e => hw.out.block k (HXZ.out.lt k e)) hw.out.size
                  obtain ⟨_, _, y2, _, _, _, f2, _⟩ := hrx.tops
                  have hb6 := heap_setCell_same wr b 2 _ _ (.slice D (k + q) e) hrx.top
                  have ho6 : (wr.setCell ⟨b, 2, none⟩ (.slice D (k + q) e)).ownsRow wz.heap.size 71 2 (.slice D (k + q) e) (k + q) (lgC (fn.lg.take (k + q))) := ownsRow_setCell_other (a := ⟨b, 2, none⟩) ho.out (own_type_ne ho.out hrx.top (by decide)) _
                  have hof : Off (fun k => k = b) wz (wr.setCell ⟨b, 2, none⟩ (.slice D (k + q) e)) := Off.setCell (S := fun k => k = b) (p := ⟨b, 2, none⟩) (Off.of (fun k => k = b) hw.out) (.inl rfl) _
                  have hrl := HXZ.out.relog hb6 (LR.of_own ho6) (fun ad e => by subst e; exact ho6.lt _ rfl) (fun k hk hkb => hof.block k (HXZ.out.lt k hk) hkb) hof.size
                  have HFIN : Hid (Lays b (copyNd n fn m).2 S w (wr.setCell ⟨b, 2, none⟩ (.slice D (k + q) e))) := Lib.hid (by
                    rw [HCP.out, HSA.out, ← hqe]
                    have hz := HZW.out.size
                    exact ⟨⟨_, ⟨_, _, _, _, _, _, _, hrl⟩, fun k hk => hk.elim (fun e => .inl e) (fun e => .inr (by omega))⟩, HZW.out.trans hof fun _ h => .inl h⟩)
                  have HQE : Hid ((copyNd n fn m).1 = (q : Int)) := Lib.hid (by rw [HCP.out, ← hqe])
                  clear hrx hb6 ho6 hof hrl hqe ho hw hq
                  go_wp2_with fail
                  go_ret
                  exact ⟨by rw [HQE.out]; rfl, HFIN.out⟩
              · have hqe : q = manyNd n fn m := by rw [HMN.out] at hq ⊢; omega
                have g6 : ¬ ((k + q : Nat) : Int) < (fl : Int) := by omega
                clear hfl
                have hrx := HXZ.out.keep (fun k e => hw.out.block k (HXZ.out.lt k e)) hw.out.size
                obtain ⟨_, _, y2, _, _, _, f2, _⟩ := hrx.tops
                have hb6 := heap_setCell_same wr b 2 _ _ (.slice D (k + q) e) hrx.top
                have ho6 : (wr.setCell ⟨b, 2, none⟩ (.slice D (k + q) e)).ownsRow wz.heap.size 71 2 (.slice D (k + q) e) (k + q) (lgC (fn.lg.take (k + q))) := ownsRow_setCell_other (a := ⟨b, 2, none⟩) ho.out (own_type_ne ho.out hrx.top (by decide)) _
                have hof : Off (fun k => k = b) wz (wr.setCell ⟨b, 2, none⟩ (.slice D (k + q) e)) := Off.setCell (S := fun k => k = b) (p := ⟨b, 2, none⟩) (Off.of (fun k => k = b) hw.out) (.inl rfl) _
                have hrl := HXZ.out.relog hb6 (LR.of_own ho6) (fun ad e => by subst e; exact ho6.lt _ rfl) (fun k hk hkb => hof.block k (HXZ.out.lt k hk) hkb) hof.size
                have HFIN : Hid (Lays b (copyNd n fn m).2 S w (wr.setCell ⟨b, 2, none⟩ (.slice D (k + q) e))) := Lib.hid (by
                  rw [HCP.out, HSA.out, ← hqe]
                  have hz := HZW.out.size
                  exact ⟨⟨_, ⟨_, _, _, _, _, _, _, hrl⟩, fun k hk => hk.elim (fun e => .inl e) (fun e => .inr (by omega))⟩, HZW.out.trans hof fun _ h => .inl h⟩)
                have HQE : Hid ((copyNd n fn m).1 = (q : Int)) := Lib.hid (by rw [HCP.out, ← hqe])
                clear hrx hb6 ho6 hof hrl hqe ho hw hq
                go_wp2_with fail
                go_ret
                exact ⟨by rw [HQE.out]; rfl, HFIN.out⟩
    · have g2 : (fn.ep == n.ep) = false := by simpa using h2
      have h4 : n.ep < fn.ep := by omega
      have g4 : decide (n.ep < fn.ep) = true := decide_eq_true h4
      rw [show turnNd n fn = ⟨fn.ep, false, n.lg, []⟩ from if_pos h4] at HCP
      clear hno h1 h2
      go_enter Tryz.func36, Tryz.ntmps36
      go_wp2_with fail
      go_quiet (fail)
      obtain ⟨wa, hwa⟩ : ∃ u, w.drewN nq = u := ⟨_, rfl⟩
      have ka : Below w.heap.size w wa := hwa ▸ kp_drewN w nq
      rw [hwa]
      obtain ⟨c0, c1, c2, c3, f0, f1, f2, f3⟩ := (HX.out.keep (fun k e => ka.block k (HX.out.lt k e)) ka.size).tops
      obtain ⟨d0, d1, d2, d3, _⟩ := (HY.out.keep (fun k e => ka.block k (HY.out.lt k e)) ka.size).tops
      have HKA0 := Lib.hid ka
      clear hwa ka
      go_wp2_with fail
      go_quiet (fail)
      obtain ⟨wy, hwy⟩ : ∃ u, wa.drewN nq = u := ⟨_, rfl⟩
      have ky : Below w.heap.size w wy := HKA0.out.trans ((hwy ▸ kp_drewN wa nq : Below wa.heap.size wa wy).mono HKA0.out.size)
      rw [hwy]
      have hxy := HX.out.keep (fun k e => ky.block k (HX.out.lt k e)) ky.size
      have hyy := HY.out.keep (fun k e => ky.block k (HY.out.lt k e)) ky.size
      obtain ⟨c0, c1, c2, c3, f0, f1, f2, f3⟩ := hxy.tops
      obtain ⟨d0, d1, d2, d3, _⟩ := hyy.tops
      obtain ⟨wz, hwz⟩ : ∃ u, ((wy.setCell ⟨b, 0, none⟩ (.int .u64 fn.ep)).setCell ⟨b, 1, none⟩ (.bool false)).setCell ⟨b, 3, none⟩ (.slice none 0 0) = u := ⟨_, rfl⟩
      have hz : wz.heap.size = wy.heap.size := by rw [← hwz, set_size, set_size, set_size]
      have hoth : ∀ k, k ≠ b → wz.heap[k]? = wy.heap[k]? := fun k hk => by rw [← hwz]; exact (set_other hk).trans ((set_other hk).trans (set_other hk))
      have HXZ : Hid (RNx b ⟨fn.ep, false, n.lg, []⟩ AL nl cl none 0 0 [] S wz) := Lib.hid (hxy.noop fn.ep false (by rw [← hwz]; exact heap_setCell_same _ b 3 _ _ (.slice none 0 0) (heap_setCell_same _ b 1 _ _ (.bool false) (heap_setCell_same wy b 0 _ _ (.int .u64 fn.ep) hxy.top))) (fun k _ hk => hoth k hk) (by rw [hz]; exact Nat.le_refl _))
      have HZW : Hid (Off (fun k => k = b) w wz) := Lib.hid (by rw [← hwz]; exact Off.setCell (S := fun k => k = b) (p := ⟨b, 3, none⟩) (Off.setCell (S := fun k => k = b) (p := ⟨b, 1, none⟩) (Off.setCell (S := fun k => k = b) (p := ⟨b, 0, none⟩) (Off.of (fun k => k = b) ky) (.inl rfl) _) (.inl rfl) _) (.inl rfl) _)
      have HYZ := Lib.hid (hyy.keep (w' := wz) (fun k e => hoth k fun e2 => HDJ.out b HX.out.sb (e2 ▸ e)) (by rw [hz]; exact Nat.le_refl _))
      have HWZ := Lib.hid hwz
      have HZS : Hid (wy.heap.size = wz.heap.size) := Lib.hid hz.symm
      have hblt : b < wy.heap.size := by have := ky.size; omega
      clear hxy hyy hz hoth hwy ky hwz
      go_wp2_with fail
      rw [HWZ.out, HZS.out]
      have HFZ : Hid (∀ u, Below wz.heap.size wz u → u.cell? ⟨f, 2, none⟩ = some (.slice FL fl fc) ∧ LR u FL fl fn.lg) := Lib.hid fun u hu => by
        have h := HYZ.out.keep (fun k e => hu.block k (HYZ.out.lt k e)) hu.size
        exact ⟨h.tops.2.2.1, h.lg⟩
      have HO0 : Hid ((wz.alloc (.cells #[] 71)).ownsRow wz.heap.size 71 2 (.slice (some ⟨wz.heap.size, 0, none⟩) 0 0) 0 (lgC (n.lg.take 0))) := Lib.hid (own_new_s wz wz.heap.size 2 71 0 [] rfl (Nat.le_refl _) (Nat.zero_le _))
      have HK0 := Lib.hid (kp_new wz (.cells #[] 71))
      go_loopw [7] (fun l wr => ∃ (k e : Nat) (D : Option Addr), l = .slice D k e ∧ k ≤ sameLg n.lg fn.lg ∧ Hid (wr.ownsRow wz.heap.size 71 2 (.slice D k e) k (lgC (n.lg.take k))) ∧ Hid (Below wz.heap.size wz wr)) (fun l _ => nl - lenV l)
      case atStart => exact ⟨0, 0, _, rfl, Nat.zero_le _, HO0, HK0⟩
      case round =>
        obtain ⟨k, e, D, rfl, hks, ho, hw⟩ := hrel
        clear HO0 HK0
        obtain ⟨_, _, y2, _⟩ := (HXZ.out.keep (fun k e => hw.out.block k (HXZ.out.lt k e)) hw.out.size).tops
        obtain ⟨z2, hfl⟩ := HFZ.out wr hw.out
        have hkn : k ≤ nl := by have := (sameLg_le n.lg fn.lg).1; have := HNL.out; omega
        have hkf : k ≤ fl := by have := (sameLg_le n.lg fn.lg).2; have := HFL.out; omega
        by_cases hlt : k < nl ∧ k < fl
        · obtain ⟨h1, h2⟩ := hlt
          have hkl : k < n.lg.length := by rw [HNL.out]; exact h1
          have hkl2 : k < fn.lg.length := by rw [HFL.out]; exact h2
          have hlr : LR wr AL nl n.lg := (HXZ.out.keep (fun k e => hw.out.block k (HXZ.out.lt k e)) hw.out.size).lg
          obtain ⟨ad, rfl, hadl, hc⟩ := hlr.at_ (j := k) hkl
          obtain ⟨ad', hA', _, hc'⟩ := hfl.at_ hkl2
          first | subst hA' | (injection hA' with hA'; subst hA')
          obtain ⟨c0, c1⟩ := hc _ (Below.refl _ _)
          obtain ⟨d0, d1⟩ := hc' _ (Below.refl _ _)
          have g1 : decide ((k : Int) < (nl : Int)) = true := decide_eq_true (by omega)
          have g2 : decide ((k : Int) < (fl : Int)) = true := decide_eq_true (by omega)
          have g3 : (k : Int) < (nl : Int) := by omega
          have g4 : (k : Int) < (fl : Int) := by omega
          have g5 : (0 : Int) ≤ (k : Int) := by omega
          have hE := fun u => eql_ents 71 rfl n.lg[k].e fn.lg[k].e n.lg[k].t fn.lg[k].t u
          by_cases hee : n.lg[k] = fn.lg[k]
          · have hd : decide ((⟨n.lg[k].e, n.lg[k].t⟩ : Lg) = ⟨fn.lg[k].e, fn.lg[k].t⟩) = true := decide_eq_true hee
            rw [hd] at hE
            have hks2 : k + 1 ≤ sameLg n.lg fn.lg := by
              rcases Nat.lt_or_ge k (sameLg n.lg fn.lg) with h | h
              · exact h
              · have e1 : sameLg n.lg fn.lg = k := by omega
                have hne := sameLg_ne n.lg fn.lg (by omega) (by omega)
                simp only [e1] at hne
                exact absurd hee hne
            have HNX : Hid (lgC (n.lg.take (k + 1)) = lgC (n.lg.take k) ++ [.int .u64 n.lg[k].e, .string n.lg[k].t]) := Lib.hid (by
              rw [List.take_succ_eq_append_getElem hkl, lgC_append]
              rfl)
            have HSM : Hid (k ≤ 1000) := Lib.hid (by have := HNL2.out; omega)
            clear hee hd hc hc' hlr hfl
            generalize n.lg[k].e = x at *
            generalize fn.lg[k].e = x' at *
            generalize n.lg[k].t = s at *
            generalize fn.lg[k].t = s' at *
            go_wp2_with fail
            go_quiet (fail)
            obtain ⟨wq, hwq⟩ : ∃ u, wr.drewN nq = u := ⟨_, rfl⟩
            have kq : Below wr.heap.size wr wq := hwq ▸ kp_drewN wr nq
            rw [hwq]
            have hbq := hw.out.trans (kq.mono hw.out.size)
            obtain ⟨_, _, y2, _⟩ := (HXZ.out.keep (fun k e => hbq.block k (HXZ.out.lt k e)) hbq.size).tops
            have c0' := (World.cell?_of_block (a := ad.add (k * 2)) (kq.block _ (by rw [add_block]; exact hadl))).trans c0
            have c1' := (World.cell?_of_block (a := ⟨(ad.add (k * 2)).block, (ad.add (k * 2)).off + 1, none⟩) (kq.block _ (by show (ad.add (k * 2)).block < _; rw [add_block]; exact hadl))).trans c1
            have HO1 := Lib.hid ((own_below_s ho.out kq (Nat.le_refl _)).alloc (.cells #[.int .u64 x, .string s] 71))
            have HR1 : Hid (Rd (wq.alloc (.cells #[.int .u64 x, .string s] 71)) (wq.heap.size + 1) (some ⟨wq.heap.size, 0, none⟩) [.int .u64 x, .string s]) := Lib.hid (Rd.new wq 71 [.int .u64 x, .string s])
            have HKA := Lib.hid (hbq.alloc hbq.size (.cells #[.int .u64 x, .string s] 71))
            have HS1 := Lib.hid HKA.out.size
            clear c0 c1 d0 d1 hbq hwq kq ho hw z2
            go_wp2_with (at_builtin; refine wpList_append_rds rfl (.tmp 95) (.tmp 104) _ rfl wz.heap.size 71 i0 _ 2 24 Tryz.underlying51 hi hz0 hz1 hz2 rfl (by omega) _ k _ rfl HO1.out _ _ 1 _ [.int .u64 x, .string s] rfl rfl HR1.out (by simp [Value.oneCell']) (by have := HSM.out; unfold maxLen; omega) (by have := HSM.out; omega) HS1.out ?_; intro v3 w3 hown3 hg3; obtain ⟨D3, e3, rfl, _, _⟩ := own_form_s hown3; have HO3 := Lib.hid hown3; have HK3 := Lib.hid (HKA.out.trans (below_own_s HO1.out hg3 HS1.out)); clear hown3 hg3)
            go_roundw
            case rel => exact ⟨k + 1, e3, D3, rfl, hks2, Lib.hid (by rw [HNX.out]; exact HO3.out), HK3⟩
            case measure => simp [lenV]; omega
          · have hd : decide ((⟨n.lg[k].e, n.lg[k].t⟩ : Lg) = ⟨fn.lg[k].e, fn.lg[k].t⟩) = false := decide_eq_false hee
            rw [hd] at hE
            have HSA : Hid (sameLg n.lg fn.lg = k) := Lib.hid (by
              rcases Nat.lt_or_ge k (sameLg n.lg fn.lg) with h | h
              · exact absurd (sameLg_at n.lg fn.lg k hkl hkl2 h) hee
              · omega)
            clear hee hd hc hc' hlr hfl hks
            generalize n.lg[k].e = x at *
            generalize fn.lg[k].e = x' at *
            generalize n.lg[k].t = s at *
            generalize fn.lg[k].t = s' at *
            go_wp2_with fail
            go_quiet (fail)
            obtain ⟨wq, hwq⟩ : ∃ u, wr.drewN nq = u := ⟨_, rfl⟩
            have kq : Below wr.heap.size wr wq := hwq ▸ kp_drewN wr nq
            rw [hwq]
            have HWB : Hid (Below wz.heap.size wz wq) := Lib.hid (hw.out.trans (kq.mono hw.out.size))
            have hoq := own_below_s ho.out kq (Nat.le_refl _)
            have HOQ : Hid (wq.ownsRow wz.heap.size 71 2 (.slice D k e) (k + 0) (lgC (fn.lg.take (k + 0)))) := Lib.hid (by
              have h1 := sameLg_take n.lg fn.lg
              rw [HSA.out] at h1
              rw [Nat.add_zero, ← h1]
              exact hoq)
            have hmn : manyNd n fn m = min (fl - k) m.toNat := by
              unfold manyNd
              rw [HSA.out, HFL.out]
            have HMN := Lib.hid hmn
            have hkf2 : k ≤ fl := hkf
            have hfl2 := HFL2.out
            clear hwq kq ho hw hoq hmn
            go_wp2_with fail
            go_loopw [7, 8] (fun l i wr => ∃ (q e : Nat) (D : Option Addr), l = .slice D (k + q) e ∧ i = .int .i64 q ∧ q ≤ manyNd n fn m ∧ Hid (wr.ownsRow wz.heap.size 71 2 (.slice D (k + q) e) (k + q) (lgC (fn.lg.take (k + q)))) ∧ Hid (Below wz.heap.size wz wr)) (fun _ i _ => fl - (intOf i).toNat)
            case atStart => exact ⟨0, e, D, rfl, rfl, Nat.zero_le _, HOQ, HWB⟩
            case round =>
              obtain ⟨q, e, D, rfl, rfl, hq, ho, hw⟩ := hrel
              clear HOQ HWB
              obtain ⟨z2, hfl⟩ := HFZ.out wr hw.out
              by_cases h5 : k + q < fl
              · by_cases h6 : (q : Int) < m
                · have g6 : ((k + q : Nat) : Int) < (fl : Int) := by omega
                  have hq2 : q + 1 ≤ manyNd n fn m := by rw [HMN.out]; omega
                  have hkl2 : k + q < fn.lg.length := by rw [HFL.out]; exact h5
                  obtain ⟨ad', hA', hadl', hc'⟩ := hfl.at_ hkl2
                  first | subst hA' | (injection hA' with hA'; subst hA')
                  obtain ⟨d0, d1⟩ := hc' _ (Below.refl _ _)
                  have HNX : Hid (lgC (fn.lg.take (k + q + 1)) = lgC (fn.lg.take (k + q)) ++ [.int .u64 fn.lg[k + q].e, .string fn.lg[k + q].t]) := Lib.hid (by
                    rw [List.take_succ_eq_append_getElem hkl2, lgC_append]
                    rfl)
                  have HSM : Hid (k + q ≤ 1000) := Lib.hid (by omega)
                  have g5 : (0 : Int) ≤ ((k + q : Nat) : Int) := by omega
                  clear hc' hfl
                  generalize fn.lg[k + q].e = x at *
                  generalize fn.lg[k + q].t = s at *
                  have HO1 := Lib.hid (ho.out.alloc (.cells #[.int .u64 x, .string s] 71))
                  have HR1 : Hid (Rd (wr.alloc (.cells #[.int .u64 x, .string s] 71)) (wr.heap.size + 1) (some ⟨wr.heap.size, 0, none⟩) [.int .u64 x, .string s]) := Lib.hid (Rd.new wr 71 [.int .u64 x, .string s])
                  have HKA := Lib.hid (hw.out.alloc hw.out.size (.cells #[.int .u64 x, .string s] 71))
                  have HS1 := Lib.hid HKA.out.size
                  clear ho hw
                  go_wp2_with (at_builtin; refine wpList_append_rds rfl (.tmp 119) (.tmp 128) _ rfl wz.heap.size 71 i0 _ 2 24 Tryz.underlying51 hi hz0 hz1 hz2 rfl (by omega) _ (k + q) _ rfl HO1.out _ _ 1 _ [.int .u64 x, .string s] rfl rfl HR1.out (by simp [Value.oneCell']) (by have := HSM.out; unfold maxLen; omega) (by have := HSM.out; omega) HS1.out ?_; intro v3 w3 hown3 hg3; obtain ⟨D3, e3, rfl, _, _⟩ := own_form_s hown3; have HO3 := Lib.hid hown3; have HK3 := Lib.hid (HKA.out.trans (below_own_s HO1.out hg3 HS1.out)); clear hown3 hg3)
                  go_roundw
                  case rel => exact ⟨q + 1, e3, D3, rfl, by go_num, hq2, Lib.hid (by show World.ownsRow _ _ _ _ _ (k + q + 1) (lgC (fn.lg.take (k + q + 1))); rw [HNX.out]; exact HO3.out), HK3⟩
                  case measure => simp [intOf]; omega
                · have hqe : q = manyNd n fn m := by rw [HMN.out] at hq ⊢; omega
                  have g6 : ((k + q : Nat) : Int) < (fl : Int) := by omega
                  clear hfl
                  have hrx := HXZ.out.keep (fun k e => hw.out.block k (HXZ.out.lt k e)) hw.out.size
                  obtain ⟨_, _, y2, _, _, _, f2, _⟩ := hrx.tops
                  have hb6 := heap_setCell_same wr b 2 _ _ (.slice D (k + q) e) hrx.top
                  have ho6 : (wr.setCell ⟨b, 2, none⟩ (.slice D (k + q) e)).ownsRow wz.heap.size 71 2 (.slice D (k + q) e) (k + q) (lgC (fn.lg.take (k + q))) := ownsRow_setCell_other (a := ⟨b, 2, none⟩) ho.out (own_type_ne ho.out hrx.top (by decide)) _
                  have hof : Off (fun k => k = b) wz (wr.setCell ⟨b, 2, none⟩ (.slice D (k + q) e)) := Off.setCell (S := fun k => k = b) (p := ⟨b, 2, none⟩) (Off.of (fun k => k = b) hw.out) (.inl rfl) _
                  have hrl := HXZ.out.relog hb6 (LR.of_own ho6) (fun ad e => by subst e; exact ho6.lt _ rfl) (fun k hk hkb => hof.block k (HXZ.out.lt k hk) hkb) hof.size
                  have HFIN : Hid (Lays b (copyNd n fn m).2 S w (wr.setCell ⟨b, 2, none⟩ (.slice D (k + q) e))) := Lib.hid (by
                    rw [HCP.out, HSA.out, ← hqe]
                    have hz := HZW.out.size
                    exact ⟨⟨_, ⟨_, _, _, _, _, _, _, hrl⟩, fun k hk => hk.elim (fun e => .inl e) (fun e => .inr (by omega))⟩, HZW.out.trans hof fun _ h => .inl h⟩)
                  have HQE : Hid ((copyNd n fn m).1 = (q : Int)) := Lib.hid (by rw [HCP.out, ← hqe])
                  clear hrx hb6 ho6 hof hrl hqe ho hw hq
                  go_wp2_with fail
                  go_ret
                  exact ⟨by rw [HQE.out]; rfl, HFIN.out⟩
              · have hqe : q = manyNd n fn m := by rw [HMN.out] at hq ⊢; omega
                have g6 : ¬ ((k + q : Nat) : Int) < (fl : Int) := by omega
                clear hfl
                have hrx := HXZ.out.keep (fun k e => hw.out.block k (HXZ.out.lt k e)) hw.out.size
                obtain ⟨_, _, y2, _, _, _, f2, _⟩ := hrx.tops
                have hb6 := heap_setCell_same wr b 2 _ _ (.slice D (k + q) e) hrx.top
                have ho6 : (wr.setCell ⟨b, 2, none⟩ (.slice D (k + q) e)).ownsRow wz.heap.size 71 2 (.slice D (k + q) e) (k + q) (lgC (fn.lg.take (k + q))) := ownsRow_setCell_other (a := ⟨b, 2, none⟩) ho.out (own_type_ne ho.out hrx.top (by decide)) _
                have hof : Off (fun k => k = b) wz (wr.setCell ⟨b, 2, none⟩ (.slice D (k + q) e)) := Off.setCell (S := fun k => k = b) (p := ⟨b, 2, none⟩) (Off.of (fun k => k = b) hw.out) (.inl rfl) _
                have hrl := HXZ.out.relog hb6 (LR.of_own ho6) (fun ad e => by subst e; exact ho6.lt _ rfl) (fun k hk hkb => hof.block k (HXZ.out.lt k hk) hkb) hof.size
                have HFIN : Hid (Lays b (copyNd n fn m).2 S w (wr.setCell ⟨b, 2, none⟩ (.slice D (k + q) e))) := Lib.hid (by
                  rw [HCP.out, HSA.out, ← hqe]
                  have hz := HZW.out.size
                  exact ⟨⟨_, ⟨_, _, _, _, _, _, _, hrl⟩, fun k hk => hk.elim (fun e => .inl e) (fun e => .inr (by omega))⟩, HZW.out.trans hof fun _ h => .inl h⟩)
                have HQE : Hid ((copyNd n fn m).1 = (q : Int)) := Lib.hid (by rw [HCP.out, ← hqe])
                clear hrx hb6 ho6 hof hrl hqe ho hw hq
                go_wp2_with fail
                go_ret
                exact ⟨by rw [HQE.out]; rfl, HFIN.out⟩
        · have HSA : Hid (sameLg n.lg fn.lg = k) := Lib.hid (by
            have h1 := (sameLg_le n.lg fn.lg).1
            have h2 := (sameLg_le n.lg fn.lg).2
            have := HNL.out
            have := HFL.out
            omega)
          clear hks hfl
          by_cases h1 : k < nl
          · have h2 : ¬ k < fl := fun h => hlt ⟨h1, h⟩
            have g1 : decide ((k : Int) < (nl : Int)) = true := decide_eq_true (by omega)
            have g2 : decide ((k : Int) < (fl : Int)) = false := decide_eq_false (by omega)
            have g3 : (k : Int) < (nl : Int) := by omega
            have g4 : ¬ (k : Int) < (fl : Int) := by omega
            clear hlt
            go_wp2_with fail
            go_quiet (fail)
            clear g1 g2 g3 g4 h1 h2
            obtain ⟨wq, hwq⟩ : ∃ u, wr.drewN nq = u := ⟨_, rfl⟩
            have kq : Below wr.heap.size wr wq := hwq ▸ kp_drewN wr nq
            rw [hwq]
            have HWB : Hid (Below wz.heap.size wz wq) := Lib.hid (hw.out.trans (kq.mono hw.out.size))
            have hoq := own_below_s ho.out kq (Nat.le_refl _)
            have HOQ : Hid (wq.ownsRow wz.heap.size 71 2 (.slice D k e) (k + 0) (lgC (fn.lg.take (k + 0)))) := Lib.hid (by
              have h1 := sameLg_take n.lg fn.lg
              rw [HSA.out] at h1
              rw [Nat.add_zero, ← h1]
              exact hoq)
            have hmn : manyNd n fn m = min (fl - k) m.toNat := by
              unfold manyNd
              rw [HSA.out, HFL.out]
            have HMN := Lib.hid hmn
            have hkf2 : k ≤ fl := hkf
            have hfl2 := HFL2.out
            clear hwq kq ho hw hoq hmn
            go_wp2_with fail
            go_loopw [7, 8] (fun l i wr => ∃ (q e : Nat) (D : Option Addr), l = .slice D (k + q) e ∧ i = .int .i64 q ∧ q ≤ manyNd n fn m ∧ Hid (wr.ownsRow wz.heap.size 71 2 (.slice D (k + q) e) (k + q) (lgC (fn.lg.take (k + q)))) ∧ Hid (Below wz.heap.size wz wr)) (fun _ i _ => fl - (intOf i).toNat)
            case atStart => exact ⟨0, e, D, rfl, rfl, Nat.zero_le _, HOQ, HWB⟩
            case round =>
              obtain ⟨q, e, D, rfl, rfl, hq, ho, hw⟩ := hrel
              clear HOQ HWB
              obtain ⟨z2, hfl⟩ := HFZ.out wr hw.out
              by_cases h5 : k + q < fl
              · by_cases h6 : (q : Int) < m
                · have g6 : ((k + q : Nat) : Int) < (fl : Int) := by omega
                  have hq2 : q + 1 ≤ manyNd n fn m := by rw [HMN.out]; omega
                  have hkl2 : k + q < fn.lg.length := by rw [HFL.out]; exact h5
                  obtain ⟨ad', hA', hadl', hc'⟩ := hfl.at_ hkl2
                  first | subst hA' | (injection hA' with hA'; subst hA')
                  obtain ⟨d0, d1⟩ := hc' _ (Below.refl _ _)
                  have HNX : Hid (lgC (fn.lg.take (k + q + 1)) = lgC (fn.lg.take (k + q)) ++ [.int .u64 fn.lg[k + q].e, .string fn.lg[k + q].t]) := Lib.hid (by
                    rw [List.take_succ_eq_append_getElem hkl2, lgC_append]
                    rfl)
                  have HSM : Hid (k + q ≤ 1000) := Lib.hid (by omega)
                  have g5 : (0 : Int) ≤ ((k + q : Nat) : Int) := by omega
                  clear hc' hfl
                  generalize fn.lg[k + q].e = x at *
                  generalize fn.lg[k + q].t = s at *
                  have HO1 := Lib.hid (ho.out.alloc (.cells #[.int .u64 x, .string s] 71))
                  have HR1 : Hid (Rd (wr.alloc (.cells #[.int .u64 x, .string s] 71)) (wr.heap.size + 1) (some ⟨wr.heap.size, 0, none⟩) [.int .u64 x, .string s]) := Lib.hid (Rd.new wr 71 [.int .u64 x, .string s])
                  have HKA := Lib.hid (hw.out.alloc hw.out.size (.cells #[.int .u64 x, .string s] 71))
                  have HS1 := Lib.hid HKA.out.size
                  clear ho hw
                  go_wp2_with (at_builtin; refine wpList_append_rds rfl (.tmp 119) (.tmp 128) _ rfl wz.heap.size 71 i0 _ 2 24 Tryz.underlying51 hi hz0 hz1 hz2 rfl (by omega) _ (k + q) _ rfl HO1.out _ _ 1 _ [.int .u64 x, .string s] rfl rfl HR1.out (by simp [Value.oneCell']) (by have := HSM.out; unfold maxLen; omega) (by have := HSM.out; omega) HS1.out ?_; intro v3 w3 hown3 hg3; obtain ⟨D3, e3, rfl, _, _⟩ := own_form_s hown3; have HO3 := Lib.hid hown3; have HK3 := Lib.hid (HKA.out.trans (below_own_s HO1.out hg3 HS1.out)); clear hown3 hg3)
                  go_roundw
                  case rel => exact ⟨q + 1, e3, D3, rfl, by go_num, hq2, Lib.hid (by show World.ownsRow _ _ _ _ _ (k + q + 1) (lgC (fn.lg.take (k + q + 1))); rw [HNX.out]; exact HO3.out), HK3⟩
                  case measure => simp [intOf]; omega
                · have hqe : q = manyNd n fn m := by rw [HMN.out] at hq ⊢; omega
                  have g6 : ((k + q : Nat) : Int) < (fl : Int) := by omega
                  clear hfl
                  have hrx := HXZ.out.keep (fun k e => hw.out.block k (HXZ.out.lt k e)) hw.out.size
                  obtain ⟨_, _, y2, _, _, _, f2, _⟩ := hrx.tops
                  have hb6 := heap_setCell_same wr b 2 _ _ (.slice D (k + q) e) hrx.top
                  have ho6 : (wr.setCell ⟨b, 2, none⟩ (.slice D (k + q) e)).ownsRow wz.heap.size 71 2 (.slice D (k + q) e) (k + q) (lgC (fn.lg.take (k + q))) := ownsRow_setCell_other (a := ⟨b, 2, none⟩) ho.out (own_type_ne ho.out hrx.top (by decide)) _
                  have hof : Off (fun k => k = b) wz (wr.setCell ⟨b, 2, none⟩ (.slice D (k + q) e)) := Off.setCell (S := fun k => k = b) (p := ⟨b, 2, none⟩) (Off.of (fun k => k = b) hw.out) (.inl rfl) _
                  have hrl := HXZ.out.relog hb6 (LR.of_own ho6) (fun ad e => by subst e; exact ho6.lt _ rfl) (fun k hk hkb => hof.block k (HXZ.out.lt k hk) hkb) hof.size
                  have HFIN : Hid (Lays b (copyNd n fn m).2 S w (wr.setCell ⟨b, 2, none⟩ (.slice D (k + q) e))) := Lib.hid (by
                    rw [HCP.out, HSA.out, ← hqe]
                    have hz := HZW.out.size
                    exact ⟨⟨_, ⟨_, _, _, _, _, _, _, hrl⟩, fun k hk => hk.elim (fun e => .inl e) (fun e => .inr (by omega))⟩, HZW.out.trans hof fun _ h => .inl h⟩)
                  have HQE : Hid ((copyNd n fn m).1 = (q : Int)) := Lib.hid (by rw [HCP.out, ← hqe])
                  clear hrx hb6 ho6 hof hrl hqe ho hw hq
                  go_wp2_with fail
                  go_ret
                  exact ⟨by rw [HQE.out]; rfl, HFIN.out⟩
              · have hqe : q = manyNd n fn m := by rw [HMN.out] at hq ⊢; omega
                have g6 : ¬ ((k + q : Nat) : Int) < (fl : Int) := by omega
                clear hfl
                have hrx := HXZ.out.keep (fun k e => hw.out.block k (HXZ.out.lt k e)) hw.out.size
                obtain ⟨_, _, y2, _, _, _, f2, _⟩ := hrx.tops
                have hb6 := heap_setCell_same wr b 2 _ _ (.slice D (k + q) e) hrx.top
                have ho6 : (wr.setCell ⟨b, 2, none⟩ (.slice D (k + q) e)).ownsRow wz.heap.size 71 2 (.slice D (k + q) e) (k + q) (lgC (fn.lg.take (k + q))) := ownsRow_setCell_other (a := ⟨b, 2, none⟩) ho.out (own_type_ne ho.out hrx.top (by decide)) _
                have hof : Off (fun k => k = b) wz (wr.setCell ⟨b, 2, none⟩ (.slice D (k + q) e)) := Off.setCell (S := fun k => k = b) (p := ⟨b, 2, none⟩) (Off.of (fun k => k = b) hw.out) (.inl rfl) _
                have hrl := HXZ.out.relog hb6 (LR.of_own ho6) (fun ad e => by subst e; exact ho6.lt _ rfl) (fun k hk hkb => hof.block k (HXZ.out.lt k hk) hkb) hof.size
                have HFIN : Hid (Lays b (copyNd n fn m).2 S w (wr.setCell ⟨b, 2, none⟩ (.slice D (k + q) e))) := Lib.hid (by
                  rw [HCP.out, HSA.out, ← hqe]
                  have hz := HZW.out.size
                  exact ⟨⟨_, ⟨_, _, _, _, _, _, _, hrl⟩, fun k hk => hk.elim (fun e => .inl e) (fun e => .inr (by omega))⟩, HZW.out.trans hof fun _ h => .inl h⟩)
                have HQE : Hid ((copyNd n fn m).1 = (q : Int)) := Lib.hid (by rw [HCP.out, ← hqe])
                clear hrx hb6 ho6 hof hrl hqe ho hw hq
                go_wp2_with fail
                go_ret
                exact ⟨by rw [HQE.out]; rfl, HFIN.out⟩
          · have g1 : decide ((k : Int) < (nl : Int)) = false := decide_eq_false (by omega)
            have g3 : ¬ (k : Int) < (nl : Int) := by omega
            clear hlt
            go_wp2_with fail
            go_quiet (fail)
            clear g1 g3 h1
            obtain ⟨wq, hwq⟩ : ∃ u, wr.drewN nq = u := ⟨_, rfl⟩
            have kq : Below wr.heap.size wr wq := hwq ▸ kp_drewN wr nq
            rw [hwq]
            have HWB : Hid (Below wz.heap.size wz wq) := Lib.hid (hw.out.trans (kq.mono hw.out.size))
            have hoq := own_below_s ho.out kq (Nat.le_refl _)
            have HOQ : Hid (wq.ownsRow wz.heap.size 71 2 (.slice D k e) (k + 0) (lgC (fn.lg.take (k + 0)))) := Lib.hid (by
              have h1 := sameLg_take n.lg fn.lg
              rw [HSA.out] at h1
              rw [Nat.add_zero, ← h1]
              exact hoq)
            have hmn : manyNd n fn m = min (fl - k) m.toNat := by
              unfold manyNd
              rw [HSA.out, HFL.out]
            have HMN := Lib.hid hmn
            have hkf2 : k ≤ fl := hkf
            have hfl2 := HFL2.out
            clear hwq kq ho hw hoq hmn
            go_wp2_with fail
            go_loopw [7, 8] (fun l i wr => ∃ (q e : Nat) (D : Option Addr), l = .slice D (k + q) e ∧ i = .int .i64 q ∧ q ≤ manyNd n fn m ∧ Hid (wr.ownsRow wz.heap.size 71 2 (.slice D (k + q) e) (k + q) (lgC (fn.lg.take (k + q)))) ∧ Hid (Below wz.heap.size wz wr)) (fun _ i _ => fl - (intOf i).toNat)
            case atStart => exact ⟨0, e, D, rfl, rfl, Nat.zero_le _, HOQ, HWB⟩
            case round =>
              obtain ⟨q, e, D, rfl, rfl, hq, ho, hw⟩ := hrel
              clear HOQ HWB
              obtain ⟨z2, hfl⟩ := HFZ.out wr hw.out
              by_cases h5 : k + q < fl
              · by_cases h6 : (q : Int) < m
                · have g6 : ((k + q : Nat) : Int) < (fl : Int) := by omega
                  have hq2 : q + 1 ≤ manyNd n fn m := by rw [HMN.out]; omega
                  have hkl2 : k + q < fn.lg.length := by rw [HFL.out]; exact h5
                  obtain ⟨ad', hA', hadl', hc'⟩ := hfl.at_ hkl2
                  first | subst hA' | (injection hA' with hA'; subst hA')
                  obtain ⟨d0, d1⟩ := hc' _ (Below.refl _ _)
                  have HNX : Hid (lgC (fn.lg.take (k + q + 1)) = lgC (fn.lg.take (k + q)) ++ [.int .u64 fn.lg[k + q].e, .string fn.lg[k + q].t]) := Lib.hid (by
                    rw [List.take_succ_eq_append_getElem hkl2, lgC_append]
                    rfl)
                  have HSM : Hid (k + q ≤ 1000) := Lib.hid (by omega)
                  have g5 : (0 : Int) ≤ ((k + q : Nat) : Int) := by omega
                  clear hc' hfl
                  generalize fn.lg[k + q].e = x at *
                  generalize fn.lg[k + q].t = s at *
                  have HO1 := Lib.hid (ho.out.alloc (.cells #[.int .u64 x, .string s] 71))
                  have HR1 : Hid (Rd (wr.alloc (.cells #[.int .u64 x, .string s] 71)) (wr.heap.size + 1) (some ⟨wr.heap.size, 0, none⟩) [.int .u64 x, .string s]) := Lib.hid (Rd.new wr 71 [.int .u64 x, .string s])
                  have HKA := Lib.hid (hw.out.alloc hw.out.size (.cells #[.int .u64 x, .string s] 71))
                  have HS1 := Lib.hid HKA.out.size
                  clear ho hw
                  go_wp2_with (at_builtin; refine wpList_append_rds rfl (.tmp 119) (.tmp 128) _ rfl wz.heap.size 71 i0 _ 2 24 Tryz.underlying51 hi hz0 hz1 hz2 rfl (by omega) _ (k + q) _ rfl HO1.out _ _ 1 _ [.int .u64 x, .string s] rfl rfl HR1.out (by simp [Value.oneCell']) (by have := HSM.out; unfold maxLen; omega) (by have := HSM.out; omega) HS1.out ?_; intro v3 w3 hown3 hg3; obtain ⟨D3, e3, rfl, _, _⟩ := own_form_s hown3; have HO3 := Lib.hid hown3; have HK3 := Lib.hid (HKA.out.trans (below_own_s HO1.out hg3 HS1.out)); clear hown3 hg3)
                  go_roundw
                  case rel => exact ⟨q + 1, e3, D3, rfl, by go_num, hq2, Lib.hid (by show World.ownsRow _ _ _ _ _ (k + q + 1) (lgC (fn.lg.take (k + q + 1))); rw [HNX.out]; exact HO3.out), HK3⟩
                  case measure => simp [intOf]; omega
                · have hqe : q = manyNd n fn m := by rw [HMN.out] at hq ⊢; omega
                  have g6 : ((k + q : Nat) : Int) < (fl : Int) := by omega
                  clear hfl
                  have hrx := HXZ.out.keep (fun k e => hw.out.block k (HXZ.out.lt k e)) hw.out.size
                  obtain ⟨_, _, y2, _, _, _, f2, _⟩ := hrx.tops
                  have hb6 := heap_setCell_same wr b 2 _ _ (.slice D (k + q) e) hrx.top
                  have ho6 : (wr.setCell ⟨b, 2, none⟩ (.slice D (k + q) e)).ownsRow wz.heap.size 71 2 (.slice D (k + q) e) (k + q) (lgC (fn.lg.take (k + q))) := ownsRow_setCell_other (a := ⟨b, 2, none⟩) ho.out (own_type_ne ho.out hrx.top (by decide)) _
                  have hof : Off (fun k => k = b) wz (wr.setCell ⟨b, 2, none⟩ (.slice D (k + q) e)) := Off.setCell (S := fun k => k = b) (p := ⟨b, 2, none⟩) (Off.of (fun k => k = b) hw.out) (.inl rfl) _
                  have hrl := HXZ.out.relog hb6 (LR.of_own ho6) (fun ad e => by subst e; exact ho6.lt _ rfl) (fun k hk hkb => hof.block k (HXZ.out.lt k hk) hkb) hof.size
                  have HFIN : Hid (Lays b (copyNd n fn m).2 S w (wr.setCell ⟨b, 2, none⟩ (.slice D (k + q) e))) := Lib.hid (by
                    rw [HCP.out, HSA.out, ← hqe]
                    have hz := HZW.out.size
                    exact ⟨⟨_, ⟨_, _, _, _, _, _, _, hrl⟩, fun k hk => hk.elim (fun e => .inl e) (fun e => .inr (by omega))⟩, HZW.out.trans hof fun _ h => .inl h⟩)
                  have HQE : Hid ((copyNd n fn m).1 = (q : Int)) := Lib.hid (by rw [HCP.out, ← hqe])
                  clear hrx hb6 ho6 hof hrl hqe ho hw hq
                  go_wp2_with fail
                  go_ret
                  exact ⟨by rw [HQE.out]; rfl, HFIN.out⟩
              · have hqe : q = manyNd n fn m := by rw [HMN.out] at hq ⊢; omega
                have g6 : ¬ ((k + q : Nat) : Int) < (fl : Int) := by omega
                clear hfl
                have hrx := HXZ.out.keep (fun k e => hw.out.block k (HXZ.out.lt k e)) hw.out.size
                obtain ⟨_, _, y2, _, _, _, f2, _⟩ := hrx.tops
                have hb6 := heap_setCell_same wr b 2 _ _ (.slice D (k + q) e) hrx.top
                have ho6 : (wr.setCell ⟨b, 2, none⟩ (.slice D (k + q) e)).ownsRow wz.heap.size 71 2 (.slice D (k + q) e) (k + q) (lgC (fn.lg.take (k + q))) := ownsRow_setCell_other (a := ⟨b, 2, none⟩) ho.out (own_type_ne ho.out hrx.top (by decide)) _
                have hof : Off (fun k => k = b) wz (wr.setCell ⟨b, 2, none⟩ (.slice D (k + q) e)) := Off.setCell (S := fun k => k = b) (p := ⟨b, 2, none⟩) (Off.of (fun k => k = b) hw.out) (.inl rfl) _
                have hrl := HXZ.out.relog hb6 (LR.of_own ho6) (fun ad e => by subst e; exact ho6.lt _ rfl) (fun k hk hkb => hof.block k (HXZ.out.lt k hk) hkb) hof.size
                have HFIN : Hid (Lays b (copyNd n fn m).2 S w (wr.setCell ⟨b, 2, none⟩ (.slice D (k + q) e))) := Lib.hid (by
                  rw [HCP.out, HSA.out, ← hqe]
                  have hz := HZW.out.size
                  exact ⟨⟨_, ⟨_, _, _, _, _, _, _, hrl⟩, fun k hk => hk.elim (fun e => .inl e) (fun e => .inr (by omega))⟩, HZW.out.trans hof fun _ h => .inl h⟩)
                have HQE : Hid ((copyNd n fn m).1 = (q : Int)) := Lib.hid (by rw [HCP.out, ← hqe])
                clear hrx hb6 ho6 hof hrl hqe ho hw hq
                go_wp2_with fail
                go_ret
                exact ⟨by rw [HQE.out]; rfl, HFIN.out⟩
set_option maxHeartbeats 64000000 in
theorem rcopy15_self (m : Int) (h : (RN b n).p S w) (hl : n.lg.length ≤ 200) :
    Calls Tryz.prog 36 #[.pointer (some ⟨b, 0, none⟩), .pointer (some ⟨b, 0, none⟩), .int .i64 m] w fun e w' => e = .returned (.int .i64 (copyNd n n m).1) ∧ Lays b (copyNd n n m).2 S w w' := by
  have HT := Lib.hid h
  obtain ⟨AL, nl, cl, AO, no, co, os, hx0⟩ := h
  obtain ⟨c0, c1, c2, c3, f0, f1, f2, f3⟩ := hx0.tops
  have HX := Lib.hid hx0
  have HY := HX
  have HNL : Hid (n.lg.length = nl) := Lib.hid hx0.lg.len
  have HFL := HNL
  have HNL2 : Hid (nl ≤ 200) := Lib.hid (by rw [← hx0.lg.len]; exact hl)
  have HFL2 := HNL2
  have hblt : b < w.heap.size := hx0.lt b hx0.sb
  obtain ⟨i0, hi, hz0, hz1, hz2⟩ := info_parts entinfo
  clear hx0 hl
  by_cases hno : n.ep < n.ep ∨ (n.ep = n.ep ∧ n.ld = true)
  · rw [show copyNd n n m = (0, n) from if_pos hno]
    by_cases h1 : n.ep < n.ep
    · exact absurd h1 (Int.lt_irrefl _)
    · obtain ⟨_, h3⟩ := hno.resolve_left h1
      have g1 : decide (n.ep < n.ep) = false := decide_eq_false h1
      have g2 : (n.ep == n.ep) = true := by simp
      rw [h3] at c1
      clear hno h1 h3
      go_enter Tryz.func36, Tryz.ntmps36
      go_wp2_with fail
      go_quiet (fail)
      go_wp2_with fail
      go_ret
      exact ⟨rfl, ⟨_, Thing.next HT.out (kp_drewN _ _), fun _ h => .inl h⟩, Off.of _ (kp_drewN _ _)⟩
  · have HCP : Hid (copyNd n n m = ((manyNd n n m : Int), { turnNd n n with lg := n.lg.take (sameLg n.lg n.lg + manyNd n n m) })) := Lib.hid (if_neg hno)
    have h1 : ¬ n.ep < n.ep := fun h => hno (.inl h)
    have g1 : decide (n.ep < n.ep) = false := decide_eq_false h1
    by_cases h2 : n.ep = n.ep
    · have hld : n.ld = false := by
        cases hl : n.ld with
        | false => rfl
        | true => exact absurd (.inr ⟨h2, hl⟩) hno
      rw [hld] at c1
      have g2 : (n.ep == n.ep) = true := by simp
      have h4 : ¬ n.ep < n.ep := by omega
      have g4 : decide (n.ep < n.ep) = false := decide_eq_false h4
      rw [show turnNd n n = n from if_neg h4] at HCP
      clear hno h1
      go_enter Tryz.func36, Tryz.ntmps36
      go_wp2_with fail
      go_quiet (fail)
      obtain ⟨wa, hwa⟩ : ∃ u, w.drewN nq = u := ⟨_, rfl⟩
      have ka : Below w.heap.size w wa := hwa ▸ kp_drewN w nq
      rw [hwa]
      obtain ⟨c0, c1, c2, c3, f0, f1, f2, f3⟩ := (HX.out.keep (fun k e => ka.block k (HX.out.lt k e)) ka.size).tops
      obtain ⟨d0, d1, d2, d3, _⟩ := (HY.out.keep (fun k e => ka.block k (HY.out.lt k e)) ka.size).tops
      have HKA0 := Lib.hid ka
      clear hwa ka
      go_wp2_with fail
      go_quiet (fail)
      obtain ⟨wz, hwz⟩ : ∃ u, wa.drewN nq = u := ⟨_, rfl⟩
      have kz : Below w.heap.size w wz := HKA0.out.trans ((hwz ▸ kp_drewN wa nq : Below wa.heap.size wa wz).mono HKA0.out.size)
      rw [hwz]
      have HXZ := Lib.hid (HX.out.keep (fun k e => kz.block k (HX.out.lt k e)) kz.size)
      have HZW : Hid (Off (fun k => k = b) w wz) := Lib.hid (Off.of _ kz)
      have HYZ := Lib.hid (HY.out.keep (fun k e => kz.block k (HY.out.lt k e)) kz.size)
      go_wp2_with fail
      have HFZ : Hid (∀ u, Below wz.heap.size wz u → u.cell? ⟨b, 2, none⟩ = some (.slice AL nl cl) ∧ LR u AL nl n.lg) := Lib.hid fun u hu => by
        have h := HYZ.out.keep (fun k e => hu.block k (HYZ.out.lt k e)) hu.size
        exact ⟨h.tops.2.2.1, h.lg⟩
      have HO0 : Hid ((wz.alloc (.cells #[] 71)).ownsRow wz.heap.size 71 2 (.slice (some ⟨wz.heap.size, 0, none⟩) 0 0) 0 (lgC (n.lg.take 0))) := Lib.hid (own_new_s wz wz.heap.size 2 71 0 [] rfl (Nat.le_refl _) (Nat.zero_le _))
      have HK0 := Lib.hid (kp_new wz (.cells #[] 71))
      go_loopw [7] (fun l wr => ∃ (k e : Nat) (D : Option Addr), l = .slice D k e ∧ k ≤ sameLg n.lg n.lg ∧ Hid (wr.ownsRow wz.heap.size 71 2 (.slice D k e) k (lgC (n.lg.take k))) ∧ Hid (Below wz.heap.size wz wr)) (fun l _ => nl - lenV l)
      case atStart => exact ⟨0, 0, _, rfl, Nat.zero_le _, HO0, HK0⟩
      case round =>
        obtain ⟨k, e, D, rfl, hks, ho, hw⟩ := hrel
        clear HO0 HK0
        obtain ⟨_, _, y2, _⟩ := (HXZ.out.keep (fun k e => hw.out.block k (HXZ.out.lt k e)) hw.out.size).tops
        obtain ⟨z2, hfl⟩ := HFZ.out wr hw.out
        have hkn : k ≤ nl := by have := (sameLg_le n.lg n.lg).1; have := HNL.out; omega
        have hkf : k ≤ nl := by have := (sameLg_le n.lg n.lg).2; have := HFL.out; omega
        by_cases hlt : k < nl ∧ k < nl
        · obtain ⟨h1, h2⟩ := hlt
          have hkl : k < n.lg.length := by rw [HNL.out]; exact h1
          have hkl2 : k < n.lg.length := by rw [HFL.out]; exact h2
          have hlr : LR wr AL nl n.lg := (HXZ.out.keep (fun k e => hw.out.block k (HXZ.out.lt k e)) hw.out.size).lg
          obtain ⟨ad, rfl, hadl, hc⟩ := hlr.at_ (j := k) hkl
          obtain ⟨ad', hA', _, hc'⟩ := hfl.at_ hkl2
          first | subst hA' | (injection hA' with hA'; subst hA')
          obtain ⟨c0, c1⟩ := hc _ (Below.refl _ _)
          obtain ⟨d0, d1⟩ := hc' _ (Below.refl _ _)
          have g1 : decide ((k : Int) < (nl : Int)) = true := decide_eq_true (by omega)
          have g2 : decide ((k : Int) < (nl : Int)) = true := decide_eq_true (by omega)
          have g3 : (k : Int) < (nl : Int) := by omega
          have g4 : (k : Int) < (nl : Int) := by omega
          have g5 : (0 : Int) ≤ (k : Int) := by omega
          have hE := fun u => eql_ents 71 rfl n.lg[k].e n.lg[k].e n.lg[k].t n.lg[k].t u
          by_cases hee : n.lg[k] = n.lg[k]
          · have hd : decide ((⟨n.lg[k].e, n.lg[k].t⟩ : Lg) = ⟨n.lg[k].e, n.lg[k].t⟩) = true := decide_eq_true hee
            rw [hd] at hE
            have hks2 : k + 1 ≤ sameLg n.lg n.lg := by
              rcases Nat.lt_or_ge k (sameLg n.lg n.lg) with h | h
              · exact h
              · have e1 : sameLg n.lg n.lg = k := by omega
                have hne := sameLg_ne n.lg n.lg (by omega) (by omega)
                simp only [e1] at hne
                exact absurd hee hne
            have HNX : Hid (lgC (n.lg.take (k + 1)) = lgC (n.lg.take k) ++ [.int .u64 n.lg[k].e, .string n.lg[k].t]) := Lib.hid (by
              rw [List.take_succ_eq_append_getElem hkl, lgC_append]
              rfl)
            have HSM : Hid (k ≤ 1000) := Lib.hid (by have := HNL2.out; omega)
            clear hee hd hc hc' hlr hfl
            generalize n.lg[k].e = x at *
            generalize n.lg[k].e = x' at *
            generalize n.lg[k].t = s at *
            generalize n.lg[k].t = s' at *
            go_wp2_with fail
            go_quiet (fail)
            obtain ⟨wq, hwq⟩ : ∃ u, wr.drewN nq = u := ⟨_, rfl⟩
            have kq : Below wr.heap.size wr wq := hwq ▸ kp_drewN wr nq
            rw [hwq]
            have hbq := hw.out.trans (kq.mono hw.out.size)
            obtain ⟨_, _, y2, _⟩ := (HXZ.out.keep (fun k e => hbq.block k (HXZ.out.lt k e)) hbq.size).tops
            have c0' := (World.cell?_of_block (a := ad.add (k * 2)) (kq.block _ (by rw [add_block]; exact hadl))).trans c0
            have c1' := (World.cell?_of_block (a := ⟨(ad.add (k * 2)).block, (ad.add (k * 2)).off + 1, none⟩) (kq.block _ (by show (ad.add (k * 2)).block < _; rw [add_block]; exact hadl))).trans c1
            have HO1 := Lib.hid ((own_below_s ho.out kq (Nat.le_refl _)).alloc (.cells #[.int .u64 x, .string s] 71))
            have HR1 : Hid (Rd (wq.alloc (.cells #[.int .u64 x, .string s] 71)) (wq.heap.size + 1) (some ⟨wq.heap.size, 0, none⟩) [.int .u64 x, .string s]) := Lib.hid (Rd.new wq 71 [.int .u64 x, .string s])
            have HKA := Lib.hid (hbq.alloc hbq.size (.cells #[.int .u64 x, .string s] 71))
            have HS1 := Lib.hid HKA.out.size
            clear c0 c1 d0 d1 hbq hwq kq ho hw z2
            go_wp2_with (at_builtin; refine wpList_append_rds rfl (.tmp 95) (.tmp 104) _ rfl wz.heap.size 71 i0 _ 2 24 Tryz.underlying51 hi hz0 hz1 hz2 rfl (by omega) _ k _ rfl HO1.out _ _ 1 _ [.int .u64 x, .string s] rfl rfl HR1.out (by simp [Value.oneCell']) (by have := HSM.out; unfold maxLen; omega) (by have := HSM.out; omega) HS1.out ?_; intro v3 w3 hown3 hg3; obtain ⟨D3, e3, rfl, _, _⟩ := own_form_s hown3; have HO3 := Lib.hid hown3; have HK3 := Lib.hid (HKA.out.trans (below_own_s HO1.out hg3 HS1.out)); clear hown3 hg3)
            go_roundw
            case rel => exact ⟨k + 1, e3, D3, rfl, hks2, Lib.hid (by rw [HNX.out]; exact HO3.out), HK3⟩
            case measure => simp [lenV]; omega
          · exact absurd rfl hee
        · have HSA : Hid (sameLg n.lg n.lg = k) := Lib.hid (by
            have h1 := (sameLg_le n.lg n.lg).1
            have h2 := (sameLg_le n.lg n.lg).2
            have := HNL.out
            have := HFL.out
            omega)
          clear hks hfl
          by_cases h1 : k < nl
          · exact absurd ⟨h1, h1⟩ hlt
          · have g1 : decide ((k : Int) < (nl : Int)) = false := decide_eq_false (by omega)
            have g3 : ¬ (k : Int) < (nl : Int) := by omega
            clear hlt
            go_wp2_with fail
            go_quiet (fail)
            clear g1 g3 h1
            obtain ⟨wq, hwq⟩ : ∃ u, wr.drewN nq = u := ⟨_, rfl⟩
            have kq : Below wr.heap.size wr wq := hwq ▸ kp_drewN wr nq
            rw [hwq]
            have HWB : Hid (Below wz.heap.size wz wq) := Lib.hid (hw.out.trans (kq.mono hw.out.size))
            have hoq := own_below_s ho.out kq (Nat.le_refl _)
            have HOQ : Hid (wq.ownsRow wz.heap.size 71 2 (.slice D k e) (k + 0) (lgC (n.lg.take (k + 0)))) := Lib.hid (by
              have h1 := sameLg_take n.lg n.lg
              rw [HSA.out] at h1
              rw [Nat.add_zero, ← h1]
              exact hoq)
            have hmn : manyNd n n m = min (nl - k) m.toNat := by
              unfold manyNd
              rw [HSA.out, HFL.out]
            have HMN := Lib.hid hmn
            have hkf2 : k ≤ nl := hkf
            have hfl2 := HFL2.out
            clear hwq kq ho hw hoq hmn
            go_wp2_with fail
            go_loopw [7, 8] (fun l i wr => ∃ (q e : Nat) (D : Option Addr), l = .slice D (k + q) e ∧ i = .int .i64 q ∧ q ≤ manyNd n n m ∧ Hid (wr.ownsRow wz.heap.size 71 2 (.slice D (k + q) e) (k + q) (lgC (n.lg.take (k + q)))) ∧ Hid (Below wz.heap.size wz wr)) (fun _ i _ => nl - (intOf i).toNat)
            case atStart => exact ⟨0, e, D, rfl, rfl, Nat.zero_le _, HOQ, HWB⟩
            case round =>
              obtain ⟨q, e, D, rfl, rfl, hq, ho, hw⟩ := hrel
              clear HOQ HWB
              obtain ⟨z2, hfl⟩ := HFZ.out wr hw.out
              by_cases h5 : k + q < nl
              · by_cases h6 : (q : Int) < m
                · have g6 : ((k + q : Nat) : Int) < (nl : Int) := by omega
                  have hq2 : q + 1 ≤ manyNd n n m := by rw [HMN.out]; omega
                  have hkl2 : k + q < n.lg.length := by rw [HFL.out]; exact h5
                  obtain ⟨ad', hA', hadl', hc'⟩ := hfl.at_ hkl2
                  first | subst hA' | (injection hA' with hA'; subst hA')
                  obtain ⟨d0, d1⟩ := hc' _ (Below.refl _ _)
                  have HNX : Hid (lgC (n.lg.take (k + q + 1)) = lgC (n.lg.take (k + q)) ++ [.int .u64 n.lg[k + q].e, .string n.lg[k + q].t]) := Lib.hid (by
                    rw [List.take_succ_eq_append_getElem hkl2, lgC_append]
                    rfl)
                  have HSM : Hid (k + q ≤ 1000) := Lib.hid (by omega)
                  have g5 : (0 : Int) ≤ ((k + q : Nat) : Int) := by omega
                  clear hc' hfl
                  generalize n.lg[k + q].e = x at *
                  generalize n.lg[k + q].t = s at *
                  have HO1 := Lib.hid (ho.out.alloc (.cells #[.int .u64 x, .string s] 71))
                  have HR1 : Hid (Rd (wr.alloc (.cells #[.int .u64 x, .string s] 71)) (wr.heap.size + 1) (some ⟨wr.heap.size, 0, none⟩) [.int .u64 x, .string s]) := Lib.hid (Rd.new wr 71 [.int .u64 x, .string s])
                  have HKA := Lib.hid (hw.out.alloc hw.out.size (.cells #[.int .u64 x, .string s] 71))
                  have HS1 := Lib.hid HKA.out.size
                  clear ho hw
                  go_wp2_with (at_builtin; refine wpList_append_rds rfl (.tmp 119) (.tmp 128) _ rfl wz.heap.size 71 i0 _ 2 24 Tryz.underlying51 hi hz0 hz1 hz2 rfl (by omega) _ (k + q) _ rfl HO1.out _ _ 1 _ [.int .u64 x, .string s] rfl rfl HR1.out (by simp [Value.oneCell']) (by have := HSM.out; unfold maxLen; omega) (by have := HSM.out; omega) HS1.out ?_; intro v3 w3 hown3 hg3; obtain ⟨D3, e3, rfl, _, _⟩ := own_form_s hown3; have HO3 := Lib.hid hown3; have HK3 := Lib.hid (HKA.out.trans (below_own_s HO1.out hg3 HS1.out)); clear hown3 hg3)
                  go_roundw
                  case rel => exact ⟨q + 1, e3, D3, rfl, by go_num, hq2, Lib.hid (by show World.ownsRow _ _ _ _ _ (k + q + 1) (lgC (n.lg.take (k + q + 1))); rw [HNX.out]; exact HO3.out), HK3⟩
                  case measure => simp [intOf]; omega
                · have hqe : q = manyNd n n m := by rw [HMN.out] at hq ⊢; omega
                  have g6 : ((k + q : Nat) : Int) < (nl : Int) := by omega
                  clear hfl
                  have hrx := HXZ.out.keep (fun k e => hw.out.block k (HXZ.out.lt k e)) hw.out.size
                  obtain ⟨_, _, y2, _, _, _, f2, _⟩ := hrx.tops
                  have hb6 := heap_setCell_same wr b 2 _ _ (.slice D (k + q) e) hrx.top
                  have ho6 : (wr.setCell ⟨b, 2, none⟩ (.slice D (k + q) e)).ownsRow wz.heap.size 71 2 (.slice D (k + q) e) (k + q) (lgC (n.lg.take (k + q))) := ownsRow_setCell_other (a := ⟨b, 2, none⟩) ho.out (own_type_ne ho.out hrx.top (by decide)) _
                  have hof : Off (fun k => k = b) wz (wr.setCell ⟨b, 2, none⟩ (.slice D (k + q) e)) := Off.setCell (S := fun k => k = b) (p := ⟨b, 2, none⟩) (Off.of (fun k => k = b) hw.out) (.inl rfl) _
                  have hrl := HXZ.out.relog hb6 (LR.of_own ho6) (fun ad e => by subst e; exact ho6.lt _ rfl) (fun k hk hkb => hof.block k (HXZ.out.lt k hk) hkb) hof.size
                  have HFIN : Hid (Lays b (copyNd n n m).2 S w (wr.setCell ⟨b, 2, none⟩ (.slice D (k + q) e))) := Lib.hid (by
                    rw [HCP.out, HSA.out, ← hqe]
                    have hz := HZW.out.size
                    exact ⟨⟨_, ⟨_, _, _, _, _, _, _, hrl⟩, fun k hk => hk.elim (fun e => .inl e) (fun e => .inr (by omega))⟩, HZW.out.trans hof fun _ h => .inl h⟩)
                  have HQE : Hid ((copyNd n n m).1 = (q : Int)) := Lib.hid (by rw [HCP.out, ← hqe])
                  clear hrx hb6 ho6 hof hrl hqe ho hw hq
                  go_wp2_with fail
                  go_ret
                  exact ⟨by rw [HQE.out]; rfl, HFIN.out⟩
              · have hqe : q = manyNd n n m := by rw [HMN.out] at hq ⊢; omega
                have g6 : ¬ ((k + q : Nat) : Int) < (nl : Int) := by omega
                clear hfl
                have hrx := HXZ.out.keep (fun k e => hw.out.block k (HXZ.out.lt k e)) hw.out.size
                obtain ⟨_, _, y2, _, _, _, f2, _⟩ := hrx.tops
                have hb6 := heap_setCell_same wr b 2 _ _ (.slice D (k + q) e) hrx.top
                have ho6 : (wr.setCell ⟨b, 2, none⟩ (.slice D (k + q) e)).ownsRow wz.heap.size 71 2 (.slice D (k + q) e) (k + q) (lgC (n.lg.take (k + q))) := ownsRow_setCell_other (a := ⟨b, 2, none⟩) ho.out (own_type_ne ho.out hrx.top (by decide)) _
                have hof : Off (fun k => k = b) wz (wr.setCell ⟨b, 2, none⟩ (.slice D (k + q) e)) := Off.setCell (S := fun k => k = b) (p := ⟨b, 2, none⟩) (Off.of (fun k => k = b) hw.out) (.inl rfl) _
                have hrl := HXZ.out.relog hb6 (LR.of_own ho6) (fun ad e => by subst e; exact ho6.lt _ rfl) (fun k hk hkb => hof.block k (HXZ.out.lt k hk) hkb) hof.size
                have HFIN : Hid (Lays b (copyNd n n m).2 S w (wr.setCell ⟨b, 2, none⟩ (.slice D (k + q) e))) := Lib.hid (by
                  rw [HCP.out, HSA.out, ← hqe]
                  have hz := HZW.out.size
                  exact ⟨⟨_, ⟨_, _, _, _, _, _, _, hrl⟩, fun k hk => hk.elim (fun e => .inl e) (fun e => .inr (by omega))⟩, HZW.out.trans hof fun _ h => .inl h⟩)
                have HQE : Hid ((copyNd n n m).1 = (q : Int)) := Lib.hid (by rw [HCP.out, ← hqe])
                clear hrx hb6 ho6 hof hrl hqe ho hw hq
                go_wp2_with fail
                go_ret
                exact ⟨by rw [HQE.out]; rfl, HFIN.out⟩
    · exact absurd rfl h2
end
end
end Go.Proofs.YtaoegiohnebnhaaGreatDoor
