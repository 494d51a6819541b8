/-
  Contracts and plain functions that the law stands on, part 11 of 24.
-/
import Derived.Test.YtdhnpmagapbmhaaGreatDoorQD10
namespace Go.Proofs.YtdhnpmagapbmhaaGreatDoor
/- The document's layer 15: do: contract. -/
section
open Go.RowKit
set_option maxRecDepth 100000
theorem own_set15 {w : World} {base n c size : Nat} {e : TypeId} {g : Nat} {xs : List Value} (h : w.ownsRow base e size (.slice (some ⟨g, 0, none⟩) n c) n xs) (i : Nat) (v : Value) : (w.setCell ⟨g, i, none⟩ v).ownsRow base e size (.slice (some ⟨g, 0, none⟩) n c) n (xs.set i v) := by
 refine ⟨by rw [List.length_set]; exact h.1, ?_⟩; rcases h.2 with ⟨h1, _⟩ | ⟨g', cap, cur, h1, hb, hg, hc, hm, hs, ht⟩
 · cases h1
 · injection h1 with h1 h2 h3; injection h1 with h1; injection h1 with h1 h4 h5; subst h1 h3; refine .inr ⟨g, c, cur.set! i v, rfl, hb, heap_setCell_same w g i cur e v hg, hc, hm, by simpa using hs, ?_⟩; rw [← ht]; simp [Array.set!_eq_setIfInBounds, List.take_set]
section
variable {b : Nat} {n : Nd} {AL : Option Addr} {nl cl : Nat} {AO : Option Addr} {no co : Nat} {os : List OpR} {S : Nat → Prop} {w u : World}
theorem RNx.rewait {g i m e : Nat} {Dd : Option Addr} {ts' : List ByteArray} (h : RNx b n AL nl cl (some ⟨g, 0, none⟩) no co os S w) (hB : Below w.heap.size w u) (hi : i < os.length) (hi2 : i < n.op.length) (hrow : u.ownsRow w.heap.size 9 1 (.slice Dd m e) m (tvs ts')) :
 RNx b { n with op := n.op.set i ⟨n.op[i].c, ts'⟩ } AL nl cl (some ⟨g, 0, none⟩) no co (os.set i ⟨os[i].c, Dd, m, e⟩) (fun k => S k ∨ (w.heap.size ≤ k ∧ k < (u.setCell ⟨g, i * 2 + 1, none⟩ (.slice Dd m e)).heap.size)) (u.setCell ⟨g, i * 2 + 1, none⟩ (.slice Dd m e)) := by
 have hu := h.keep (w' := u) (fun k e => hB.block k (h.lt k e)) hB.size; have hg := h.so g rfl; have hgl := h.lt g hg.1; have hz : (u.setCell ⟨g, i * 2 + 1, none⟩ (.slice Dd m e)).heap.size = u.heap.size := set_size _ _ _; have hd : ∀ ad, Dd = some ad → w.heap.size ≤ ad.block ∧ ad.block < u.heap.size := fun ad e => by subst e; exact hrow.lt _ rfl
 refine {
  top := (set_other (fun e => hg.2 e.symm)).trans hu.top
  lg := hu.lg.off (by rw [hz]; exact Nat.le_refl _) fun ad e => set_other fun e2 => (h.sl ad e).2.2 (by rw [e2]; rfl)
  own := by rw [opC_set os i ⟨os[i].c, Dd, m, e⟩ hi rfl]; exact own_set15 hu.own _ _
  len := by rw [List.length_set]; simpa using h.len
  at_ := fun j h1 h2 => ?_
  sb := .inl h.sb
  sl := fun ad e => ⟨.inl (h.sl ad e).1, (h.sl ad e).2⟩
  so := fun k e => ⟨.inl (h.so k e).1, (h.so k e).2⟩
  st := fun j h1 ad e => ?_
  lt := fun k hk => hk.elim (fun hk => by rw [hz]; exact Nat.lt_of_lt_of_le (h.lt k hk) hB.size) (fun hk => hk.2) }
 · have h1' : j < os.length := by simpa using h1
   have h2' : j < n.op.length := by simpa using h2
   by_cases hji : i = j
   · subst hji; simp only [List.getElem_set_self]
     exact ⟨(h.at_ i hi hi2).1, (XR.of_own hrow).off (by rw [hz]; exact Nat.le_refl _) fun ad e => set_other fun e2 => by
      have e3 : ad.block = g := e2; have := (hd ad e).1
      omega⟩
   · simp only [List.getElem_set_ne hji]; exact ⟨(h.at_ j h1' h2').1, (hu.at_ j h1' h2').2.off (by rw [hz]; exact Nat.le_refl _) fun ad e => set_other fun e2 => (h.st j h1' ad e).2.2 (by rw [e2]; rfl)⟩
 · have h1' : j < os.length := by simpa using h1
   by_cases hji : i = j
   · subst hji; rw [List.getElem_set_self] at e; have := hd ad e
     exact ⟨.inr ⟨this.1, by rw [hz]; exact this.2⟩, by have := h.lt b h.sb; omega, fun e2 => by
      have e3 : g = ad.block := Option.some.inj e2
      omega⟩
   · rw [List.getElem_set_ne hji] at e; exact ⟨.inl (h.st j h1' ad e).1, (h.st j h1' ad e).2⟩
end
section
variable {b : Nat} {n : Nd} {S : Nat → Prop} {w : World}
set_option maxHeartbeats 32000000 in
theorem rdo15_ok (c is : Int) (s : ByteArray) (h : (RN b n).p S w) (hl : n.lg.length ≤ 200) (hnd : (n.op.map Op15.c).Nodup) (hol : n.op.length ≤ 900) (hoc : ∀ o ∈ n.op, o.ts.length ≤ 200) :
 Calls Tryz.prog 87 #[.pointer (some ⟨b, 0, none⟩), .int .i64 c, .int .i64 is, .string s] w fun e w' => e = .returned (.int .i64 (doNd n c is s).1) ∧ Turn (RN b (doNd n c is s).2) S w w' := by
 have HT := hid h; have HF := hid (rfind15_ok c h (by omega)); have hown := RN.own h; have HCL := hid (fun (w : World) (S : Nat → Prop) (h : (RN b n).p S w) => rclose15_ok c h hnd (by omega)); have HL := hid hl; by_cases hneg : idxOp c n.op < 0
 · have hop : opOf c n.op = none := opOf_none.2 (idxOp_no hneg); have hge : ¬ 0 ≤ idxOp c n.op := by omega
   obtain ⟨ix, hix⟩ : ∃ x, idxOp c n.op = x := ⟨_, rfl⟩; rw [hix] at HF hneg hge; clear hix h hl hnd hoc HCL; by_cases i4 : is = 4
   · subst i4; have hd : doNd n c 4 s = (7, n) := by unfold doNd; rw [hop]; dsimp only; rw [if_pos (.inl rfl)]
     rw [hd]; clear hd; go_enter Tryz.func87, Tryz.ntmps87; go_wp2_with fail; refine HF.out.mono ?_; rintro e w1 ⟨rfl, rfl⟩; clear HF; go_wp2_with fail; go_ret; exact ⟨rfl, Turn.here HT.out⟩
   by_cases i5 : is = 5
   · subst i5; have hd : doNd n c 5 s = (7, n) := by unfold doNd; rw [hop]; dsimp only; rw [if_pos (.inr rfl)]
     rw [hd]; clear hd; go_enter Tryz.func87, Tryz.ntmps87; go_wp2_with fail; refine HF.out.mono ?_; rintro e w1 ⟨rfl, rfl⟩; clear HF; go_wp2_with fail; go_ret; exact ⟨rfl, Turn.here HT.out⟩
   by_cases i3 : is = 3
   · subst i3; have hd : doNd n c 3 s = (0, { n with op := n.op ++ [⟨c, []⟩] }) := by unfold doNd; rw [hop]; dsimp only; rw [if_neg (by omega), if_pos rfl]
     rw [hd]; clear hd; obtain ⟨AL, nl, cl, AO, no, co, os, hx0⟩ := HT.out; have holen := hx0.olen; have hlen := hx0.len; obtain ⟨_, _, _, y3, _, _, _, f3⟩ := hx0.tops; have hblt : b < w.heap.size := hx0.lt b hx0.sb; have HX := hid hx0; have HRD := hid (rd_own2 hx0.own); have HN := hid (And.intro holen hlen); have HO1 : Hid ((w.alloc (.cells #[] 160)).ownsRow w.heap.size 160 2 (.slice (some ⟨w.heap.size, 0, none⟩) 0 0) 0 []) := hid (own_new_s w w.heap.size 2 160 0 [] rfl (Nat.le_refl _) (Nat.zero_le _)); have HR1 := hid ((HRD.out.below (kp_new w (.cells #[] 160)) (Nat.le_refl _))); have HS1 := hid (show w.heap.size ≤ (w.alloc (.cells #[] 160)).heap.size by simp); have HK1 := hid (kp_new w (.cells #[] 160)); have HL1 : Hid ((opC os).length = no * 2) := hid (by rw [opC_length]; omega); have HNO : Hid (no ≤ 1000) := hid (by omega); obtain ⟨i0, hi, hz0, hz1, hz2⟩ := info_parts opninfo; clear hx0 holen hlen; go_enter Tryz.func87, Tryz.ntmps87; go_wp2_with fail; refine HF.out.mono ?_; rintro e w1 ⟨rfl, rfl⟩; clear HF; go_wp2_with (at_builtin; first | (refine wpList_append_rds rfl (.tmp 37) (.tmp 41) _ rfl w.heap.size 160 i0 _ 2 32 Tryz.underlying54 hi hz0 hz1 hz2 rfl (by omega) _ 0 _ rfl HO1.out _ _ _ _ (opC os) rfl HL1.out HR1.out (opC_one _) (by have := HNO.out; unfold maxLen; omega) (by have := HNO.out; omega) HS1.out ?_; intro v3 w3 hown3 hg3; rw [Nat.zero_add, List.nil_append] at hown3; obtain ⟨A3, c3, rfl, _, _⟩ := own_form_s hown3; have HO3 := hid hown3; have HK3 := hid (HK1.out.trans (below_own_s HO1.out hg3 HS1.out)); have HO4 := hid (hown3.alloc (.cells #[.int .i64 c, .slice none 0 0] 160)); have HR4 : Hid (Rd (w3.alloc (.cells #[.int .i64 c, .slice none 0 0] 160)) (w3.heap.size + 1) (some ⟨w3.heap.size, 0, none⟩) [.int .i64 c, .slice none 0 0]) := hid (Rd.new w3 160 [.int .i64 c, .slice none 0 0]); have HK4 := hid (HK3.out.alloc HK3.out.size (.cells #[.int .i64 c, .slice none 0 0] 160)); clear hown3 hg3) | (refine wpList_append_rds rfl (.tmp 42) (.tmp 45) _ rfl w.heap.size 160 i0 _ 2 32 Tryz.underlying54 hi hz0 hz1 hz2 rfl (by omega) _ no _ rfl HO4.out _ _ 1 _ [.int .i64 c, .slice none 0 0] rfl rfl HR4.out (by simp [Value.oneCell']) (by have := HNO.out; unfold maxLen; omega) (by have := HNO.out; omega) HK4.out.size ?_; intro v5 w5 hown5 hg5; obtain ⟨A5, c5, rfl, _, _⟩ := own_form_s hown5; have HO5 := hid hown5; have HK5 := hid (HK4.out.trans (below_own_s HO4.out hg5 HK4.out.size)); obtain ⟨_, _, _, k3, _, _, _, p3⟩ := (HX.out.keep (fun k e => HK5.out.block k (HX.out.lt k e)) HK5.out.size).tops; clear hown5 hg5)); go_wp2_with fail; go_ret; have hx5 := HX.out.keep (fun k e => HK5.out.block k (HX.out.lt k e)) HK5.out.size; have hb6 := heap_setCell_same w5 b 3 _ _ (.slice A5 (no + 1) c5) hx5.top
     have ho6 : (w5.setCell ⟨b, 3, none⟩ (.slice A5 (no + 1) c5)).ownsRow w.heap.size 160 2 (.slice A5 (no + 1) c5) (no + 1) (opC (os ++ [⟨c, none, 0, 0⟩])) := by
      rw [opC_append]; exact ownsRow_setCell_other (a := ⟨b, 3, none⟩) HO5.out (own_type_ne HO5.out hx5.top (by decide)) _
     have hof : Off (fun k => k = b) w (w5.setCell ⟨b, 3, none⟩ (.slice A5 (no + 1) c5)) := Off.setCell (S := fun k => k = b) (p := ⟨b, 3, none⟩) (Off.of (fun k => k = b) HK5.out) (.inl rfl) _; obtain ⟨ho1, ho2⟩ := HN.out
     have hrl := HX.out.reop (l' := n.op ++ [⟨c, []⟩]) hb6 ho6 (by simp; omega) (fun j h1 h2 => by
      have h1' : j < os.length + 1 := by simpa using h1
      by_cases hj : j < os.length
      · have hj2 : j < n.op.length := by omega
        rw [List.getElem_append_left hj, List.getElem_append_left hj2]; exact ⟨(HX.out.at_ j hj hj2).1, .inl ⟨j, hj, hj2, rfl, rfl⟩⟩
      · obtain rfl : j = os.length := by omega
        have e1 : (os ++ [(⟨c, none, 0, 0⟩ : OpR)])[os.length] = ⟨c, none, 0, 0⟩ := by rw [List.getElem_append_right (Nat.le_refl _)]; simp
        have e2 : (n.op ++ [(⟨c, []⟩ : Op15)])[os.length] = ⟨c, []⟩ := by rw [List.getElem_append_right (by omega)]; simp
        rw [e1, e2]
        exact ⟨rfl, .inr ⟨rfl, rfl, rfl⟩⟩) (fun k hk hkb => hof.block k (HX.out.lt k hk) hkb) hof.size
     exact ⟨rfl, Lays.turn ⟨⟨fun k => S k ∨ (w.heap.size ≤ k ∧ k < (w5.setCell ⟨b, 3, none⟩ (.slice A5 (no + 1) c5)).heap.size), ⟨_, _, _, _, _, _, _, hrl⟩, fun k hk => hk.elim (fun e => .inl e) (fun e => .inr e.1)⟩, hof⟩ hown⟩
   by_cases i2 : is = 2
   · subst i2; have hd : doNd n c 2 s = layNd n [s] := by unfold doNd; rw [hop]; dsimp only; rw [if_neg (by omega), if_neg (by omega), if_pos (by omega)]
     rw [hd]; clear hd; have HQ := hid (rlay15_ok (some ⟨w.heap.size, 0, none⟩) 1 1 [s] (Thing.next HT.out (kp_new w (.cells #[.string s] 9))) HL.out (XR.new w 9 [s]) (fun ad e => by injection e with e; subst e; have := (RN b n).lt HT.out b hown; show w.heap.size ≠ b; omega) (by omega)); go_enter Tryz.func87, Tryz.ntmps87; go_wp2_with fail; refine HF.out.mono ?_; rintro e w1 ⟨rfl, rfl⟩; clear HF; go_wp2_with fail; refine HQ.out.mono ?_; rintro e w3 ⟨rfl, h3⟩; have HW3 := hid ((Off.of S (kp_new w (.cells #[.string s] 9))).trans (h3.turn hown).off fun _ h => .inl h); have HA3 := hid h3.at_; clear HQ h3; go_wp2_with fail; go_ret; obtain ⟨S', hp, hs⟩ := HA3.out; exact ⟨rfl, ⟨⟨S', hp, fun k hk => (hs k hk).elim .inl fun e => .inr (by simp at e; omega)⟩, HW3.out⟩⟩
   by_cases i7 : is = 7
   · subst i7; have hd : doNd n c 7 s = layNd n [s] := by unfold doNd; rw [hop]; dsimp only; rw [if_neg (by omega), if_neg (by omega), if_pos (by omega)]
     rw [hd]; clear hd; have HQ := hid (rlay15_ok (some ⟨w.heap.size, 0, none⟩) 1 1 [s] (Thing.next HT.out (kp_new w (.cells #[.string s] 9))) HL.out (XR.new w 9 [s]) (fun ad e => by injection e with e; subst e; have := (RN b n).lt HT.out b hown; show w.heap.size ≠ b; omega) (by omega)); go_enter Tryz.func87, Tryz.ntmps87; go_wp2_with fail; refine HF.out.mono ?_; rintro e w1 ⟨rfl, rfl⟩; clear HF; go_wp2_with fail; refine HQ.out.mono ?_; rintro e w3 ⟨rfl, h3⟩; have HW3 := hid ((Off.of S (kp_new w (.cells #[.string s] 9))).trans (h3.turn hown).off fun _ h => .inl h); have HA3 := hid h3.at_; clear HQ h3; go_wp2_with fail; go_ret; obtain ⟨S', hp, hs⟩ := HA3.out; exact ⟨rfl, ⟨⟨S', hp, fun k hk => (hs k hk).elim .inl fun e => .inr (by simp at e; omega)⟩, HW3.out⟩⟩
   have j4 : (is == 4) = false := by simpa using i4
   have j5 : (is == 5) = false := by simpa using i5
   have j3 : (is == 3) = false := by simpa using i3
   have j2 : (is == 2) = false := by simpa using i2
   have j7 : (is == 7) = false := by simpa using i7
   have hd : doNd n c is s = (0, n) := by unfold doNd; rw [hop]; dsimp only; rw [if_neg (by omega), if_neg i3, if_neg (by omega)]
   rw [hd]; clear hd; go_enter Tryz.func87, Tryz.ntmps87; go_wp2_with fail; refine HF.out.mono ?_; rintro e w1 ⟨rfl, rfl⟩; clear HF; go_wp2_with fail; go_ret; exact ⟨rfl, Turn.here HT.out⟩
 · obtain ⟨i, hi⟩ : ∃ i : Nat, idxOp c n.op = i := ⟨(idxOp c n.op).toNat, by omega⟩; obtain ⟨hil, hop⟩ := idxOp_of hi; obtain ⟨_, hic, hifirst⟩ := idxOp_is hi; rw [hi] at HF; have hneg' : ¬ (i : Int) < 0 := by omega
   have hge' : (0 : Int) ≤ (i : Int) := by omega
   have hts := hoc _ (List.getElem_mem hil); obtain ⟨AL, nl, cl, AO, no, co, os, hx0⟩ := h; have holen := hx0.olen; have hlen := hx0.len; have hio : i < os.length := by omega
   obtain ⟨g, rfl, hSg, hgb, z0, z1, z2⟩ := hx0.opat hio; have HX := hid hx0; have HXT := hid (hx0.at_ i hio hil).2; have HST := hid (hx0.st i hio); obtain ⟨_, _, _, y3, _⟩ := hx0.tops; obtain ⟨tA, hA⟩ : ∃ x, os[i].A = x := ⟨_, rfl⟩; obtain ⟨tn, hn⟩ : ∃ x, os[i].n = x := ⟨_, rfl⟩; obtain ⟨td, hd0⟩ : ∃ x, os[i].d = x := ⟨_, rfl⟩; obtain ⟨ts, ht⟩ : ∃ x, n.op[i].ts = x := ⟨_, rfl⟩; rw [hA, hn, hd0] at z1; rw [hA, hn, ht] at HXT; rw [hA] at HST; rw [ht] at hop hts; have htn : ts.length = tn := HXT.out.len; have hin : (i : Int) < (no : Int) := by omega
   clear hx0 hA hn hd0 hneg hnd hoc hl; by_cases i3 : is = 3
   · subst i3; have hd : doNd n c 3 s = (7, n) := by unfold doNd; rw [hop]; dsimp only; rw [if_pos rfl]
     rw [hd]; clear hd; go_enter Tryz.func87, Tryz.ntmps87; go_wp2_with fail; refine HF.out.mono ?_; rintro e w1 ⟨rfl, rfl⟩; clear HF; go_wp2_with fail; go_ret; exact ⟨rfl, Turn.here HT.out⟩
   by_cases i4 : is = 4
   · subst i4; have hd : doNd n c 4 s = layNd (closeNd n c) ts := by unfold doNd; rw [hop]; dsimp only; rw [if_neg (by omega), if_pos rfl]
     rw [hd]; clear hd; have HQ := hid (HCL.out w S HT.out); have HTN : Hid (tn ≤ 200) := hid (by omega); go_enter Tryz.func87, Tryz.ntmps87; go_wp2_with fail; refine HF.out.mono ?_; rintro e w1 ⟨rfl, rfl⟩; clear HF; go_wp2_with fail; refine HQ.out.mono ?_; rintro e w3 ⟨rfl, h3⟩; obtain ⟨S3, hp3, hs3⟩ := h3.at_; have HQ2 := hid (rlay15_ok tA tn td ts hp3 HL.out (HXT.out.offO h3.off fun ad e => (HST.out ad e).2.1) (fun ad e => (HST.out ad e).2.1) HTN.out); have HH3 := hid h3; have HS3 := hid hs3; clear HQ h3 hp3 hs3; go_wp2_with fail; refine HQ2.out.mono ?_; rintro e w4 ⟨rfl, h4⟩; have hz3 := HH3.out.off.size; obtain ⟨⟨S4, hp4, hs4⟩, ho4⟩ := h4; have HA4 : Hid (Turn (RN b (layNd (closeNd n c) ts).2) S w w4) := hid ⟨⟨S4, hp4, fun k hk => (hs4 k hk).elim (HS3.out k) (fun e => .inr (by omega))⟩, (HH3.out.off.trans ho4 fun _ h => .inl h).wide fun k hk => by rw [hk]; exact hown⟩; clear hp4 hs4 ho4 hz3; go_wp2_with fail; go_ret; exact ⟨rfl, HA4.out⟩
   by_cases i5 : is = 5
   · subst i5; have hd : doNd n c 5 s = (0, closeNd n c) := by unfold doNd; rw [hop]; dsimp only; rw [if_neg (by omega), if_neg (by omega), if_pos rfl]
     rw [hd]; clear hd; have HQ := hid (HCL.out w S HT.out); go_enter Tryz.func87, Tryz.ntmps87; go_wp2_with fail; refine HF.out.mono ?_; rintro e w1 ⟨rfl, rfl⟩; clear HF; go_wp2_with fail; refine HQ.out.mono ?_; rintro e w3 ⟨rfl, h3⟩; have HA3 := hid (h3.turn hown); clear HQ h3; go_wp2_with fail; go_ret; exact ⟨rfl, HA3.out⟩
   by_cases i2 : is = 2
   · subst i2; by_cases hbig : 200 ≤ ts.length
     · have hd : doNd n c 2 s = (5, n) := by unfold doNd; rw [hop]; dsimp only; rw [if_neg (by omega), if_neg (by omega), if_neg (by omega), if_pos (by omega), if_pos hbig]
       rw [hd]; clear hd; have hb2 : (200 : Int) ≤ (tn : Int) := by omega
       clear hbig htn; go_enter Tryz.func87, Tryz.ntmps87; go_wp2_with fail; refine HF.out.mono ?_; rintro e w1 ⟨rfl, rfl⟩; clear HF; go_wp2_with fail; go_ret; exact ⟨rfl, Turn.here HT.out⟩
     · have hd : doNd n c 2 s = (0, { n with op := putOp c (ts ++ [s]) n.op }) := by unfold doNd; rw [hop]; dsimp only; rw [if_neg (by omega), if_neg (by omega), if_neg (by omega), if_pos (by omega), if_neg hbig]
       rw [hd]; clear hd; have hb2 : ¬ (200 : Int) ≤ (tn : Int) := by omega
       have HPU : Hid (putOp c (ts ++ [s]) n.op = n.op.set i ⟨n.op[i].c, ts ++ [s]⟩) := hid (by rw [putOp_at (ts ++ [s]) hil hifirst hic, hic]); have htn2 : tn ≤ 200 := by omega
       have hblt : b < w.heap.size := HX.out.lt b HX.out.sb; have hglt : g < w.heap.size := HX.out.lt g hSg; have HTR := hid HXT.out.rd; have HTL : Hid ((tvs ts).length = tn * 1) := hid (by rw [tvs_length]; omega); obtain ⟨i0, hi', hz0, hz1, hz2⟩ := info_parts strinfo6; clear hbig htn hi hts holen hlen; go_enter Tryz.func87, Tryz.ntmps87; go_wp2_with fail; refine HF.out.mono ?_; rintro e w1 ⟨rfl, rfl⟩; clear HF; go_wp2_with fail; obtain ⟨FN, hFN⟩ : ∃ F : World → Prop, ∀ z, F z ↔ (Turn (RN b { n with op := putOp c (ts ++ [s]) n.op }) S w z) := ⟨_, fun _ => Iff.rfl⟩; have HFN := hid hFN; clear hFN; have HKR : Hid (∀ (i : Nat) (u : World), Kp2 17 20 i u u) := hid (Kp2.refl _ _); refine wp_region_specs6 (S := SL6 20 w FN) (Kp := Kp2 17 20) (Sp := [(104, Stl.eq (.pointer (some ⟨b, 0, none⟩))), (105, Stl.eq (.pointer (some ⟨b, 0, none⟩))), (106, Stl.eq (.pointer (some ⟨b, 3, none⟩))), (107, Stl.eq (.slice (some ⟨g, 0, none⟩) no co)), (108, Stl.eq (.int .i64 i)), (109, nilL 17 20 w.heap.size 9 1), (110, Stl.eq (.pointer (some ⟨b, 0, none⟩))), (111, Stl.eq (.pointer (some ⟨b, 0, none⟩))), (112, Stl.eq (.pointer (some ⟨b, 3, none⟩))), (113, Stl.eq (.slice (some ⟨g, 0, none⟩) no co)), (114, Stl.eq (.int .i64 i)), (115, Stl.eq (.pointer (some ⟨g, i * 2, none⟩))), (116, Stl.eq (.pointer (some ⟨g, i * 2 + 1, none⟩))), (117, Stl.eq (.slice tA tn td)), (118, rowL 17 20 w.heap.size 9 1 tn (tvs ts)), (119, Stl.eq (.string s)), (120, rowL 17 20 w.heap.size 9 1 1 [.string s]), (121, rowK 17 20 w.heap.size 9 1 (tn + 1) (tvs ts ++ [.string s])), (122, Stl.eq (.pointer (some ⟨g, i * 2, none⟩))), (123, Stl.eq (.pointer (some ⟨g, i * 2 + 1, none⟩)))]) (by kernel_rfl) (by kernel_rfl) (SL6.of rfl (kp_drewN _ 1)) ?_ ?_
       · refine .cons ?_ ?_
         · intro L a u hL hst hS hdep hq hno; refine .inl ⟨trivial, ?_⟩; have g0 := gd (v := .pointer (some ⟨b, 0, none⟩)) (hst.out 0 (by kernel_rfl)); go_simp; exact Went6.same (HKR.out _ _) hS rfl
         refine .cons ?_ ?_
         · intro L a u hL hst hS hdep hq hno; refine .inl ⟨trivial, ?_⟩; have g104 := gd (hdep 104); go_simp; exact Went6.same (HKR.out _ _) hS rfl
         refine .cons ?_ ?_
         · intro L a u hL hst hS hdep hq hno; refine .inl ⟨trivial, ?_⟩; have g105 := gd (hdep 105); go_simp; exact Went6.same (HKR.out _ _) hS rfl
         refine .cons ?_ ?_
         · intro L a u hL hst hS hdep hq hno; refine .inl ⟨trivial, ?_⟩; have g106 := gd (hdep 106); have h20 : L 20 = false := hno 12 20; have hB : Below w.heap.size w u := SL6.ahead hS h20; have hS2 : ∀ u', Below w.heap.size w u' → SL6 20 w FN L u' := fun u' h => SL6.of h20 h; obtain ⟨_, _, _, y3, _⟩ := (HX.out.keep (fun k e => hB.block k (HX.out.lt k e)) hB.size).tops; go_simp; exact Went6.same (HKR.out _ _) hS rfl
         refine .cons ?_ ?_
         · intro L a u hL hst hS hdep hq hno; refine .inl ⟨trivial, ?_⟩; have g9 := gd (v := .int .i64 i) (hst.out 9 (by kernel_rfl)); go_simp; exact Went6.same (HKR.out _ _) hS rfl
         refine .cons ?_ ?_
         · intro L a u hL hst hS hdep hq hno; refine .inl ⟨trivial, ?_⟩; go_simp; have h20 : L 20 = false := hno 12 20; have hB : Below w.heap.size w u := SL6.ahead hS h20; have hS2 : ∀ u', Below w.heap.size w u' → SL6 20 w FN L u' := fun u' h => SL6.of h20 h; exact Went6.next (hS2 _ (hB.alloc hB.size _)) (fun _ _ => kp_new _ _) ⟨_, rfl, fun _ _ => own_base_s (own_new_s u u.heap.size 1 9 0 [] rfl (Nat.le_refl _) (Nat.zero_le _)) hB.size⟩
         refine .cons ?_ ?_
         · intro L a u hL hst hS hdep hq hno; refine .inl ⟨trivial, ?_⟩; have g0 := gd (v := .pointer (some ⟨b, 0, none⟩)) (hst.out 0 (by kernel_rfl)); go_simp; exact Went6.same (HKR.out _ _) hS rfl
         refine .cons ?_ ?_
         · intro L a u hL hst hS hdep hq hno; refine .inl ⟨trivial, ?_⟩; have g110 := gd (hdep 110); go_simp; exact Went6.same (HKR.out _ _) hS rfl
         refine .cons ?_ ?_
         · intro L a u hL hst hS hdep hq hno; refine .inl ⟨trivial, ?_⟩; have g111 := gd (hdep 111); go_simp; exact Went6.same (HKR.out _ _) hS rfl
         refine .cons ?_ ?_
         · intro L a u hL hst hS hdep hq hno; refine .inl ⟨trivial, ?_⟩; have g112 := gd (hdep 112); have h20 : L 20 = false := hno 12 20; have hB : Below w.heap.size w u := SL6.ahead hS h20; have hS2 : ∀ u', Below w.heap.size w u' → SL6 20 w FN L u' := fun u' h => SL6.of h20 h; obtain ⟨_, _, _, y3, _⟩ := (HX.out.keep (fun k e => hB.block k (HX.out.lt k e)) hB.size).tops; go_simp; exact Went6.same (HKR.out _ _) hS rfl
         refine .cons ?_ ?_
         · intro L a u hL hst hS hdep hq hno; refine .inl ⟨trivial, ?_⟩; have g9 := gd (v := .int .i64 i) (hst.out 9 (by kernel_rfl)); go_simp; exact Went6.same (HKR.out _ _) hS rfl
         refine .cons ?_ ?_
         · intro L a u hL hst hS hdep hq hno; refine .inl ⟨trivial, ?_⟩; have g113 := gd (hdep 113); have g114 := gd (hdep 114); go_simp; exact Went6.same (HKR.out _ _) hS rfl
         refine .cons ?_ ?_
         · intro L a u hL hst hS hdep hq hno; refine .inl ⟨trivial, ?_⟩; have g115 := gd (hdep 115); go_simp; exact Went6.same (HKR.out _ _) hS rfl
         refine .cons ?_ ?_
         · intro L a u hL hst hS hdep hq hno; refine .inl ⟨trivial, ?_⟩; have g116 := gd (hdep 116); have h20 : L 20 = false := hno 12 20; have hB : Below w.heap.size w u := SL6.ahead hS h20; have hS2 : ∀ u', Below w.heap.size w u' → SL6 20 w FN L u' := fun u' h => SL6.of h20 h; have zz : u.cell? ⟨g, i * 2 + 1, none⟩ = some (.slice tA tn td) := (World.cell?_of_block (a := ⟨g, i * 2 + 1, none⟩) (hB.block g hglt)).trans z1; go_simp; exact Went6.same (HKR.out _ _) hS rfl
         refine .cons ?_ ?_
         · intro L a u hL hst hS hdep hq hno; obtain ⟨q109, h109, r109⟩ := hdep 109; have h117 : a.tmps.getD 117 undef = .slice tA tn td := hdep 117; refine .inl ⟨trivial, ?_⟩; have g109 := gd h109; have g117 := gd h117; have h20 : L 20 = false := hno 12 20; have hB : Below w.heap.size w u := SL6.ahead hS h20; have hS2 : ∀ u', Below w.heap.size w u' → SL6 20 w FN L u' := fun u' h => SL6.of h20 h; refine wp_append_empty (.tmp 109) (.tmp 117) _ rfl w.heap.size 9 i0 _ 1 16 Tryz.underlying35 hi' hz0 hz1 hz2 rfl (by omega) q109 h109 (r109 (hno 12 17) h20) _ tA tn td (tvs ts) h117 HTL.out (HTR.out.below hB (Nat.le_refl _)) (tvs_one _) (by unfold maxLen; omega) (by omega) hB.size ?_; intro v3 u3 hown3 hb3; obtain ⟨D3, e3, rfl, _, _⟩ := own_form_s hown3; exact ⟨_, rfl, hS2 _ (hB.trans (hb3.mono hB.size)), fun _ _ => hb3, fun t e => by injection e with e; subst e; exact ⟨_, _, rfl, fun _ _ => hown3⟩⟩
         refine .cons ?_ ?_
         · intro L a u hL hst hS hdep hq hno; refine .inl ⟨trivial, ?_⟩; have g3 := gd (v := .string s) (hst.out 3 (by kernel_rfl)); go_simp; exact Went6.same (HKR.out _ _) hS rfl
         refine .cons ?_ ?_
         · intro L a u hL hst hS hdep hq hno; refine .inl ⟨trivial, ?_⟩; have g119 := gd (hdep 119); go_simp; have h20 : L 20 = false := hno 12 20; have hB : Below w.heap.size w u := SL6.ahead hS h20; have hS2 : ∀ u', Below w.heap.size w u' → SL6 20 w FN L u' := fun u' h => SL6.of h20 h; exact Went6.next (hS2 _ (hB.alloc hB.size _)) (fun _ _ => kp_new _ _) ⟨_, _, rfl, fun _ _ => own_base_s (own_new_s u u.heap.size 1 9 1 [.string s] rfl (Nat.le_refl _) (by decide)) hB.size⟩
         refine .cons ?_ ?_
         · intro L a u hL hst hS hdep hq hno; obtain ⟨D118, e118, h118, r118⟩ := hdep 118; obtain ⟨D120, e120, h120, r120⟩ := hdep 120; refine .inl ⟨trivial, ?_⟩; have g118 := gd h118; have g120 := gd h120; have h20 : L 20 = false := hno 12 20; have hB : Below w.heap.size w u := SL6.ahead hS h20; have hS2 : ∀ u', Below w.heap.size w u' → SL6 20 w FN L u' := fun u' h => SL6.of h20 h; refine wp_append_rds (.tmp 118) (.tmp 120) _ rfl w.heap.size 9 i0 _ 1 16 Tryz.underlying35 hi' hz0 hz1 hz2 rfl (by omega) _ tn _ h118 (r118 hL h20) _ _ 1 _ [.string s] h120 rfl (Rd.of_own (r120 hL h20)) (by simp [Value.oneCell']) (by unfold maxLen; omega) (by omega) hB.size ?_; intro v5 u5 hown5 hg5; obtain ⟨D5, e5, rfl, _, _⟩ := own_form_s hown5; exact ⟨_, rfl, hS2 _ (hB.trans (below_own_s (r118 hL h20) hg5 hB.size)), fun h _ => absurd rfl h, fun t e => by injection e with e; subst e; exact ⟨done_same, _, _, rfl, fun _ => hown5⟩⟩
         refine .cons ?_ ?_
         · intro L a u hL hst hS hdep hq hno; refine .inl ⟨trivial, ?_⟩; have g107 := gd (hdep 107); have g108 := gd (hdep 108); go_simp; exact Went6.same (HKR.out _ _) hS rfl
         refine .cons ?_ ?_
         · intro L a u hL hst hS hdep hq hno; refine .inl ⟨trivial, ?_⟩; have g122 := gd (hdep 122); go_simp; exact Went6.same (HKR.out _ _) hS rfl
         refine .cons ?_ ?_
         · intro L a u hL hst hS hdep hq hno; obtain ⟨_, D121, e121, h121, r121⟩ := hdep 121; refine .inl ⟨trivial, ?_⟩; have g121 := gd h121; have g123 := gd (hdep 123); have hB : Below w.heap.size w u := SL6.ahead hS hL; have zz : u.cell? ⟨g, i * 2 + 1, none⟩ = some (.slice tA tn td) := (World.cell?_of_block (a := ⟨g, i * 2 + 1, none⟩) (hB.block g hglt)).trans z1; have zf : u.frozen? ⟨g, i * 2 + 1, none⟩ = false := ((HX.out.keep (fun k e => hB.block k (HX.out.lt k e)) hB.size).opat hio).elim fun g2 hh => by obtain ⟨e, _, _, _, _, hf⟩ := hh; injection e with e; injection e with e; subst e; exact hf
           go_simp; have hr6 := r121 hL; have ho6 : u.ownsRow w.heap.size 9 1 (.slice D121 (tn + 1) e121) (tn + 1) (tvs (ts ++ [s])) := by rw [tvs_append]; exact hr6
           have hrl := HX.out.rewait hB hio hil ho6; refine ⟨undef, rfl, SL6.last done_same ((HFN.out _).2 ?_), fun _ h => absurd rfl h, fun t e => by cases e⟩; rw [HPU.out]; exact ⟨⟨fun k => S k ∨ (w.heap.size ≤ k ∧ k < (u.setCell ⟨g, i * 2 + 1, none⟩ (.slice D121 (tn + 1) e121)).heap.size), ⟨_, _, _, _, _, _, _, hrl⟩, fun k hk => hk.elim (fun e => .inl e) (fun e => .inr e.1)⟩, Off.setCell (p := ⟨g, i * 2 + 1, none⟩) (Off.of S hB) (.inl hSg) _⟩
         exact EachOp.nil
       · intro L a u hLs hst hS hdep; have h104 : a.tmps.getD 104 undef = .pointer (some ⟨b, 0, none⟩) := hdep 104; have h105 : a.tmps.getD 105 undef = .pointer (some ⟨b, 0, none⟩) := hdep 105; have h106 : a.tmps.getD 106 undef = .pointer (some ⟨b, 3, none⟩) := hdep 106; have h107 : a.tmps.getD 107 undef = .slice (some ⟨g, 0, none⟩) no co := hdep 107; have h108 : a.tmps.getD 108 undef = .int .i64 i := hdep 108; obtain ⟨q109, h109, _⟩ := hdep 109; have h110 : a.tmps.getD 110 undef = .pointer (some ⟨b, 0, none⟩) := hdep 110; have h111 : a.tmps.getD 111 undef = .pointer (some ⟨b, 0, none⟩) := hdep 111; have h112 : a.tmps.getD 112 undef = .pointer (some ⟨b, 3, none⟩) := hdep 112; have h113 : a.tmps.getD 113 undef = .slice (some ⟨g, 0, none⟩) no co := hdep 113; have h114 : a.tmps.getD 114 undef = .int .i64 i := hdep 114; have h115 : a.tmps.getD 115 undef = .pointer (some ⟨g, i * 2, none⟩) := hdep 115; have h116 : a.tmps.getD 116 undef = .pointer (some ⟨g, i * 2 + 1, none⟩) := hdep 116; have h117 : a.tmps.getD 117 undef = .slice tA tn td := hdep 117; obtain ⟨D118, e118, h118, _⟩ := hdep 118; have h119 : a.tmps.getD 119 undef = .string s := hdep 119; obtain ⟨D120, e120, h120, _⟩ := hdep 120; obtain ⟨_, D121, e121, h121, _⟩ := hdep 121; have h122 : a.tmps.getD 122 undef = .pointer (some ⟨g, i * 2, none⟩) := hdep 122; have h123 : a.tmps.getD 123 undef = .pointer (some ⟨g, i * 2 + 1, none⟩) := hdep 123; have hfr := hst.frame [(104, .pointer (some ⟨b, 0, none⟩)), (105, .pointer (some ⟨b, 0, none⟩)), (106, .pointer (some ⟨b, 3, none⟩)), (107, .slice (some ⟨g, 0, none⟩) no co), (108, .int .i64 i), (109, .slice (some ⟨q109, 0, none⟩) 0 0), (110, .pointer (some ⟨b, 0, none⟩)), (111, .pointer (some ⟨b, 0, none⟩)), (112, .pointer (some ⟨b, 3, none⟩)), (113, .slice (some ⟨g, 0, none⟩) no co), (114, .int .i64 i), (115, .pointer (some ⟨g, i * 2, none⟩)), (116, .pointer (some ⟨g, i * 2 + 1, none⟩)), (117, .slice tA tn td), (118, .slice D118 tn e118), (119, .string s), (120, .slice D120 1 e120), (121, .slice D121 (tn + 1) e121), (122, .pointer (some ⟨g, i * 2, none⟩)), (123, .pointer (some ⟨g, i * 2 + 1, none⟩))] (by kernel_rfl) ⟨h104, h105, h106, h107, h108, h109, h110, h111, h112, h113, h114, h115, h116, h117, h118, h119, h120, h121, h122, h123, trivial⟩; clear hst hdep h104 h105 h106 h107 h108 h109 h110 h111 h112 h113 h114 h115 h116 h117 h118 h119 h120 h121 h122 h123; subst hfr; simp only [List.foldl_cons, List.foldl_nil, List.setIfInBounds_toArray, List.set_cons_zero, List.set_cons_succ]; have HFIN : Hid (Turn (RN b { n with op := putOp c (ts ++ [s]) n.op }) S w u) := hid ((HFN.out u).1 (SL6.done hS (hLs 20 (by kernel_rfl)))); clear hS hLs; go_wp2_with fail
         go_ret; exact ⟨rfl, HFIN.out⟩
   by_cases i7 : is = 7
   · subst i7; by_cases hbig : 200 ≤ ts.length
     · have hd : doNd n c 7 s = (5, n) := by unfold doNd; rw [hop]; dsimp only; rw [if_neg (by omega), if_neg (by omega), if_neg (by omega), if_pos (by omega), if_pos hbig]
       rw [hd]; clear hd; have hb2 : (200 : Int) ≤ (tn : Int) := by omega
       clear hbig htn; go_enter Tryz.func87, Tryz.ntmps87; go_wp2_with fail; refine HF.out.mono ?_; rintro e w1 ⟨rfl, rfl⟩; clear HF; go_wp2_with fail; go_ret; exact ⟨rfl, Turn.here HT.out⟩
     · have hd : doNd n c 7 s = (0, { n with op := putOp c (ts ++ [s]) n.op }) := by unfold doNd; rw [hop]; dsimp only; rw [if_neg (by omega), if_neg (by omega), if_neg (by omega), if_pos (by omega), if_neg hbig]
       rw [hd]; clear hd; have hb2 : ¬ (200 : Int) ≤ (tn : Int) := by omega
       have HPU : Hid (putOp c (ts ++ [s]) n.op = n.op.set i ⟨n.op[i].c, ts ++ [s]⟩) := hid (by rw [putOp_at (ts ++ [s]) hil hifirst hic, hic]); have htn2 : tn ≤ 200 := by omega
       have hblt : b < w.heap.size := HX.out.lt b HX.out.sb; have hglt : g < w.heap.size := HX.out.lt g hSg; have HTR := hid HXT.out.rd; have HTL : Hid ((tvs ts).length = tn * 1) := hid (by rw [tvs_length]; omega); obtain ⟨i0, hi', hz0, hz1, hz2⟩ := info_parts strinfo6; clear hbig htn hi hts holen hlen; go_enter Tryz.func87, Tryz.ntmps87; go_wp2_with fail; refine HF.out.mono ?_; rintro e w1 ⟨rfl, rfl⟩; clear HF; go_wp2_with fail; obtain ⟨FN, hFN⟩ : ∃ F : World → Prop, ∀ z, F z ↔ (Turn (RN b { n with op := putOp c (ts ++ [s]) n.op }) S w z) := ⟨_, fun _ => Iff.rfl⟩; have HFN := hid hFN; clear hFN; have HKR : Hid (∀ (i : Nat) (u : World), Kp2 17 20 i u u) := hid (Kp2.refl _ _); refine wp_region_specs6 (S := SL6 20 w FN) (Kp := Kp2 17 20) (Sp := [(104, Stl.eq (.pointer (some ⟨b, 0, none⟩))), (105, Stl.eq (.pointer (some ⟨b, 0, none⟩))), (106, Stl.eq (.pointer (some ⟨b, 3, none⟩))), (107, Stl.eq (.slice (some ⟨g, 0, none⟩) no co)), (108, Stl.eq (.int .i64 i)), (109, nilL 17 20 w.heap.size 9 1), (110, Stl.eq (.pointer (some ⟨b, 0, none⟩))), (111, Stl.eq (.pointer (some ⟨b, 0, none⟩))), (112, Stl.eq (.pointer (some ⟨b, 3, none⟩))), (113, Stl.eq (.slice (some ⟨g, 0, none⟩) no co)), (114, Stl.eq (.int .i64 i)), (115, Stl.eq (.pointer (some ⟨g, i * 2, none⟩))), (116, Stl.eq (.pointer (some ⟨g, i * 2 + 1, none⟩))), (117, Stl.eq (.slice tA tn td)), (118, rowL 17 20 w.heap.size 9 1 tn (tvs ts)), (119, Stl.eq (.string s)), (120, rowL 17 20 w.heap.size 9 1 1 [.string s]), (121, rowK 17 20 w.heap.size 9 1 (tn + 1) (tvs ts ++ [.string s])), (122, Stl.eq (.pointer (some ⟨g, i * 2, none⟩))), (123, Stl.eq (.pointer (some ⟨g, i * 2 + 1, none⟩)))]) (by kernel_rfl) (by kernel_rfl) (SL6.of rfl (kp_drewN _ 1)) ?_ ?_
       · refine .cons ?_ ?_
         · intro L a u hL hst hS hdep hq hno; refine .inl ⟨trivial, ?_⟩; have g0 := gd (v := .pointer (some ⟨b, 0, none⟩)) (hst.out 0 (by kernel_rfl)); go_simp; exact Went6.same (HKR.out _ _) hS rfl
         refine .cons ?_ ?_
         · intro L a u hL hst hS hdep hq hno; refine .inl ⟨trivial, ?_⟩; have g104 := gd (hdep 104); go_simp; exact Went6.same (HKR.out _ _) hS rfl
         refine .cons ?_ ?_
         · intro L a u hL hst hS hdep hq hno; refine .inl ⟨trivial, ?_⟩; have g105 := gd (hdep 105); go_simp; exact Went6.same (HKR.out _ _) hS rfl
         refine .cons ?_ ?_
         · intro L a u hL hst hS hdep hq hno; refine .inl ⟨trivial, ?_⟩; have g106 := gd (hdep 106); have h20 : L 20 = false := hno 12 20; have hB : Below w.heap.size w u := SL6.ahead hS h20; have hS2 : ∀ u', Below w.heap.size w u' → SL6 20 w FN L u' := fun u' h => SL6.of h20 h; obtain ⟨_, _, _, y3, _⟩ := (HX.out.keep (fun k e => hB.block k (HX.out.lt k e)) hB.size).tops; go_simp; exact Went6.same (HKR.out _ _) hS rfl
         refine .cons ?_ ?_
         · intro L a u hL hst hS hdep hq hno; refine .inl ⟨trivial, ?_⟩; have g9 := gd (v := .int .i64 i) (hst.out 9 (by kernel_rfl)); go_simp; exact Went6.same (HKR.out _ _) hS rfl
         refine .cons ?_ ?_
         · intro L a u hL hst hS hdep hq hno; refine .inl ⟨trivial, ?_⟩; go_simp; have h20 : L 20 = false := hno 12 20; have hB : Below w.heap.size w u := SL6.ahead hS h20; have hS2 : ∀ u', Below w.heap.size w u' → SL6 20 w FN L u' := fun u' h => SL6.of h20 h; exact Went6.next (hS2 _ (hB.alloc hB.size _)) (fun _ _ => kp_new _ _) ⟨_, rfl, fun _ _ => own_base_s (own_new_s u u.heap.size 1 9 0 [] rfl (Nat.le_refl _) (Nat.zero_le _)) hB.size⟩
         refine .cons ?_ ?_
         · intro L a u hL hst hS hdep hq hno; refine .inl ⟨trivial, ?_⟩; have g0 := gd (v := .pointer (some ⟨b, 0, none⟩)) (hst.out 0 (by kernel_rfl)); go_simp; exact Went6.same (HKR.out _ _) hS rfl
         refine .cons ?_ ?_
         · intro L a u hL hst hS hdep hq hno; refine .inl ⟨trivial, ?_⟩; have g110 := gd (hdep 110); go_simp; exact Went6.same (HKR.out _ _) hS rfl
         refine .cons ?_ ?_
         · intro L a u hL hst hS hdep hq hno; refine .inl ⟨trivial, ?_⟩; have g111 := gd (hdep 111); go_simp; exact Went6.same (HKR.out _ _) hS rfl
         refine .cons ?_ ?_
         · intro L a u hL hst hS hdep hq hno; refine .inl ⟨trivial, ?_⟩; have g112 := gd (hdep 112); have h20 : L 20 = false := hno 12 20; have hB : Below w.heap.size w u := SL6.ahead hS h20; have hS2 : ∀ u', Below w.heap.size w u' → SL6 20 w FN L u' := fun u' h => SL6.of h20 h; obtain ⟨_, _, _, y3, _⟩ := (HX.out.keep (fun k e => hB.block k (HX.out.lt k e)) hB.size).tops; go_simp; exact Went6.same (HKR.out _ _) hS rfl
         refine .cons ?_ ?_
         · intro L a u hL hst hS hdep hq hno; refine .inl ⟨trivial, ?_⟩; have g9 := gd (v := .int .i64 i) (hst.out 9 (by kernel_rfl)); go_simp; exact Went6.same (HKR.out _ _) hS rfl
         refine .cons ?_ ?_
         · intro L a u hL hst hS hdep hq hno; refine .inl ⟨trivial, ?_⟩; have g113 := gd (hdep 113); have g114 := gd (hdep 114); go_simp; exact Went6.same (HKR.out _ _) hS rfl
         refine .cons ?_ ?_
         · intro L a u hL hst hS hdep hq hno; refine .inl ⟨trivial, ?_⟩; have g115 := gd (hdep 115); go_simp; exact Went6.same (HKR.out _ _) hS rfl
         refine .cons ?_ ?_
         · intro L a u hL hst hS hdep hq hno; refine .inl ⟨trivial, ?_⟩; have g116 := gd (hdep 116); have h20 : L 20 = false := hno 12 20; have hB : Below w.heap.size w u := SL6.ahead hS h20; have hS2 : ∀ u', Below w.heap.size w u' → SL6 20 w FN L u' := fun u' h => SL6.of h20 h; have zz : u.cell? ⟨g, i * 2 + 1, none⟩ = some (.slice tA tn td) := (World.cell?_of_block (a := ⟨g, i * 2 + 1, none⟩) (hB.block g hglt)).trans z1; go_simp; exact Went6.same (HKR.out _ _) hS rfl
         refine .cons ?_ ?_
         · intro L a u hL hst hS hdep hq hno; obtain ⟨q109, h109, r109⟩ := hdep 109; have h117 : a.tmps.getD 117 undef = .slice tA tn td := hdep 117; refine .inl ⟨trivial, ?_⟩; have g109 := gd h109; have g117 := gd h117; have h20 : L 20 = false := hno 12 20; have hB : Below w.heap.size w u := SL6.ahead hS h20; have hS2 : ∀ u', Below w.heap.size w u' → SL6 20 w FN L u' := fun u' h => SL6.of h20 h; refine wp_append_empty (.tmp 109) (.tmp 117) _ rfl w.heap.size 9 i0 _ 1 16 Tryz.underlying35 hi' hz0 hz1 hz2 rfl (by omega) q109 h109 (r109 (hno 12 17) h20) _ tA tn td (tvs ts) h117 HTL.out (HTR.out.below hB (Nat.le_refl _)) (tvs_one _) (by unfold maxLen; omega) (by omega) hB.size ?_; intro v3 u3 hown3 hb3; obtain ⟨D3, e3, rfl, _, _⟩ := own_form_s hown3; exact ⟨_, rfl, hS2 _ (hB.trans (hb3.mono hB.size)), fun _ _ => hb3, fun t e => by injection e with e; subst e; exact ⟨_, _, rfl, fun _ _ => hown3⟩⟩
         refine .cons ?_ ?_
         · intro L a u hL hst hS hdep hq hno; refine .inl ⟨trivial, ?_⟩; have g3 := gd (v := .string s) (hst.out 3 (by kernel_rfl)); go_simp; exact Went6.same (HKR.out _ _) hS rfl
         refine .cons ?_ ?_
         · intro L a u hL hst hS hdep hq hno; refine .inl ⟨trivial, ?_⟩; have g119 := gd (hdep 119); go_simp; have h20 : L 20 = false := hno 12 20; have hB : Below w.heap.size w u := SL6.ahead hS h20; have hS2 : ∀ u', Below w.heap.size w u' → SL6 20 w FN L u' := fun u' h => SL6.of h20 h; exact Went6.next (hS2 _ (hB.alloc hB.size _)) (fun _ _ => kp_new _ _) ⟨_, _, rfl, fun _ _ => own_base_s (own_new_s u u.heap.size 1 9 1 [.string s] rfl (Nat.le_refl _) (by decide)) hB.size⟩
         refine .cons ?_ ?_
         · intro L a u hL hst hS hdep hq hno; obtain ⟨D118, e118, h118, r118⟩ := hdep 118; obtain ⟨D120, e120, h120, r120⟩ := hdep 120; refine .inl ⟨trivial, ?_⟩; have g118 := gd h118; have g120 := gd h120; have h20 : L 20 = false := hno 12 20; have hB : Below w.heap.size w u := SL6.ahead hS h20; have hS2 : ∀ u', Below w.heap.size w u' → SL6 20 w FN L u' := fun u' h => SL6.of h20 h; refine wp_append_rds (.tmp 118) (.tmp 120) _ rfl w.heap.size 9 i0 _ 1 16 Tryz.underlying35 hi' hz0 hz1 hz2 rfl (by omega) _ tn _ h118 (r118 hL h20) _ _ 1 _ [.string s] h120 rfl (Rd.of_own (r120 hL h20)) (by simp [Value.oneCell']) (by unfold maxLen; omega) (by omega) hB.size ?_; intro v5 u5 hown5 hg5; obtain ⟨D5, e5, rfl, _, _⟩ := own_form_s hown5; exact ⟨_, rfl, hS2 _ (hB.trans (below_own_s (r118 hL h20) hg5 hB.size)), fun h _ => absurd rfl h, fun t e => by injection e with e; subst e; exact ⟨done_same, _, _, rfl, fun _ => hown5⟩⟩
         refine .cons ?_ ?_
         · intro L a u hL hst hS hdep hq hno; refine .inl ⟨trivial, ?_⟩; have g107 := gd (hdep 107); have g108 := gd (hdep 108); go_simp; exact Went6.same (HKR.out _ _) hS rfl
         refine .cons ?_ ?_
         · intro L a u hL hst hS hdep hq hno; refine .inl ⟨trivial, ?_⟩; have g122 := gd (hdep 122); go_simp; exact Went6.same (HKR.out _ _) hS rfl
         refine .cons ?_ ?_
         · intro L a u hL hst hS hdep hq hno; obtain ⟨_, D121, e121, h121, r121⟩ := hdep 121; refine .inl ⟨trivial, ?_⟩; have g121 := gd h121; have g123 := gd (hdep 123); have hB : Below w.heap.size w u := SL6.ahead hS hL; have zz : u.cell? ⟨g, i * 2 + 1, none⟩ = some (.slice tA tn td) := (World.cell?_of_block (a := ⟨g, i * 2 + 1, none⟩) (hB.block g hglt)).trans z1; have zf : u.frozen? ⟨g, i * 2 + 1, none⟩ = false := ((HX.out.keep (fun k e => hB.block k (HX.out.lt k e)) hB.size).opat hio).elim fun g2 hh => by obtain ⟨e, _, _, _, _, hf⟩ := hh; injection e with e; injection e with e; subst e; exact hf
           go_simp; have hr6 := r121 hL; have ho6 : u.ownsRow w.heap.size 9 1 (.slice D121 (tn + 1) e121) (tn + 1) (tvs (ts ++ [s])) := by rw [tvs_append]; exact hr6
           have hrl := HX.out.rewait hB hio hil ho6; refine ⟨undef, rfl, SL6.last done_same ((HFN.out _).2 ?_), fun _ h => absurd rfl h, fun t e => by cases e⟩; rw [HPU.out]; exact ⟨⟨fun k => S k ∨ (w.heap.size ≤ k ∧ k < (u.setCell ⟨g, i * 2 + 1, none⟩ (.slice D121 (tn + 1) e121)).heap.size), ⟨_, _, _, _, _, _, _, hrl⟩, fun k hk => hk.elim (fun e => .inl e) (fun e => .inr e.1)⟩, Off.setCell (p := ⟨g, i * 2 + 1, none⟩) (Off.of S hB) (.inl hSg) _⟩
         exact EachOp.nil
       · intro L a u hLs hst hS hdep; have h104 : a.tmps.getD 104 undef = .pointer (some ⟨b, 0, none⟩) := hdep 104; have h105 : a.tmps.getD 105 undef = .pointer (some ⟨b, 0, none⟩) := hdep 105; have h106 : a.tmps.getD 106 undef = .pointer (some ⟨b, 3, none⟩) := hdep 106; have h107 : a.tmps.getD 107 undef = .slice (some ⟨g, 0, none⟩) no co := hdep 107; have h108 : a.tmps.getD 108 undef = .int .i64 i := hdep 108; obtain ⟨q109, h109, _⟩ := hdep 109; have h110 : a.tmps.getD 110 undef = .pointer (some ⟨b, 0, none⟩) := hdep 110; have h111 : a.tmps.getD 111 undef = .pointer (some ⟨b, 0, none⟩) := hdep 111; have h112 : a.tmps.getD 112 undef = .pointer (some ⟨b, 3, none⟩) := hdep 112; have h113 : a.tmps.getD 113 undef = .slice (some ⟨g, 0, none⟩) no co := hdep 113; have h114 : a.tmps.getD 114 undef = .int .i64 i := hdep 114; have h115 : a.tmps.getD 115 undef = .pointer (some ⟨g, i * 2, none⟩) := hdep 115; have h116 : a.tmps.getD 116 undef = .pointer (some ⟨g, i * 2 + 1, none⟩) := hdep 116; have h117 : a.tmps.getD 117 undef = .slice tA tn td := hdep 117; obtain ⟨D118, e118, h118, _⟩ := hdep 118; have h119 : a.tmps.getD 119 undef = .string s := hdep 119; obtain ⟨D120, e120, h120, _⟩ := hdep 120; obtain ⟨_, D121, e121, h121, _⟩ := hdep 121; have h122 : a.tmps.getD 122 undef = .pointer (some ⟨g, i * 2, none⟩) := hdep 122; have h123 : a.tmps.getD 123 undef = .pointer (some ⟨g, i * 2 + 1, none⟩) := hdep 123; have hfr := hst.frame [(104, .pointer (some ⟨b, 0, none⟩)), (105, .pointer (some ⟨b, 0, none⟩)), (106, .pointer (some ⟨b, 3, none⟩)), (107, .slice (some ⟨g, 0, none⟩) no co), (108, .int .i64 i), (109, .slice (some ⟨q109, 0, none⟩) 0 0), (110, .pointer (some ⟨b, 0, none⟩)), (111, .pointer (some ⟨b, 0, none⟩)), (112, .pointer (some ⟨b, 3, none⟩)), (113, .slice (some ⟨g, 0, none⟩) no co), (114, .int .i64 i), (115, .pointer (some ⟨g, i * 2, none⟩)), (116, .pointer (some ⟨g, i * 2 + 1, none⟩)), (117, .slice tA tn td), (118, .slice D118 tn e118), (119, .string s), (120, .slice D120 1 e120), (121, .slice D121 (tn + 1) e121), (122, .pointer (some ⟨g, i * 2, none⟩)), (123, .pointer (some ⟨g, i * 2 + 1, none⟩))] (by kernel_rfl) ⟨h104, h105, h106, h107, h108, h109, h110, h111, h112, h113, h114, h115, h116, h117, h118, h119, h120, h121, h122, h123, trivial⟩; clear hst hdep h104 h105 h106 h107 h108 h109 h110 h111 h112 h113 h114 h115 h116 h117 h118 h119 h120 h121 h122 h123; subst hfr; simp only [List.foldl_cons, List.foldl_nil, List.setIfInBounds_toArray, List.set_cons_zero, List.set_cons_succ]; have HFIN : Hid (Turn (RN b { n with op := putOp c (ts ++ [s]) n.op }) S w u) := hid ((HFN.out u).1 (SL6.done hS (hLs 20 (by kernel_rfl)))); clear hS hLs; go_wp2_with fail
         go_ret; exact ⟨rfl, HFIN.out⟩
   have j4 : (is == 4) = false := by simpa using i4
   have j5 : (is == 5) = false := by simpa using i5
   have j3 : (is == 3) = false := by simpa using i3
   have j2 : (is == 2) = false := by simpa using i2
   have j7 : (is == 7) = false := by simpa using i7
   have hd : doNd n c is s = (0, n) := by unfold doNd; rw [hop]; dsimp only; rw [if_neg i3, if_neg i4, if_neg i5, if_neg (by omega)]
   rw [hd]; clear hd; go_enter Tryz.func87, Tryz.ntmps87; go_wp2_with fail; refine HF.out.mono ?_; rintro e w1 ⟨rfl, rfl⟩; clear HF; go_wp2_with fail; go_ret; exact ⟨rfl, Turn.here HT.out⟩
end
end
end Go.Proofs.YtdhnpmagapbmhaaGreatDoor
