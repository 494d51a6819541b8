/-
  Contracts and plain functions that the law stands on, part 7 of 24.
-/
import Derived.Test.YtdhnpmagapbmhaaGreatDoorQD6
import Derived.Lib.SliceRun
import Derived.Laws.StructEq
namespace Go.Proofs.YtdhnpmagapbmhaaGreatDoor
/- The document's layer 15: Close, lay: contracts. -/
section
open Go.RowKit
set_option maxRecDepth 100000
section
variable {P : Program} {w : World}
end
structure Lays (b : Nat) (n' : Nd) (S : Nat → Prop) (w w' : World) : Prop where
 at_ : ∃ S', (RN b n').p S' w' ∧ ∀ k, S' k → S k ∨ w.heap.size ≤ k
 off : Off (fun k => k = b) w w'
theorem XR.offO {w w' : World} {S : Nat → Prop} {A : Option Addr} {n : Nat} {ss : List ByteArray} (h : XR w A n ss) (ho : Off S w w') (hn : ∀ ad, A = some ad → ¬ S ad.block) : XR w' A n ss := by
 refine ⟨h.len, ?_⟩; rcases h.rd with h1 | ⟨ad, e, hlt, hc⟩
 · exact .inl h1
 · exact .inr ⟨ad, e, Nat.lt_of_lt_of_le hlt ho.size, fun j u hu => (World.cell?_of_block (by rw [add_block]; exact ho.block _ hlt (hn ad e))).trans (hc j u hu)⟩
section
variable {b : Nat} {n n' n'' : Nd} {S : Nat → Prop} {w w' w'' : World}
theorem RN.own (h : (RN b n).p S w) : S b := by
 obtain ⟨_, _, _, _, _, _, _, h⟩ := h; exact h.sb
theorem Lays.turn (h : Lays b n' S w w') (hb : S b) : Turn (RN b n') S w w' := ⟨h.at_, h.off.wide fun k hk => by rw [hk]; exact hb⟩
theorem Lays.here (h : (RN b n).p S w) : Lays b n S w w := ⟨⟨S, h, fun _ h => .inl h⟩, Off.refl _ _⟩
set_option maxHeartbeats 16000000 in
theorem rlay15_ok (A1 : Option Addr) (n1 c1 : Nat) (ts : List ByteArray) (h : (RN b n).p S w) (hl : n.lg.length ≤ 200) (hx : XR w A1 n1 ts) (hne : ∀ ad, A1 = some ad → ad.block ≠ b) (hn1 : n1 ≤ 200) :
 Calls Tryz.prog 112 #[.pointer (some ⟨b, 0, none⟩), .slice A1 n1 c1] w fun e w' => e = .returned (.int .i64 (layNd n ts).1) ∧ Lays b (layNd n ts).2 S w w' := by
 have HT := hid h; obtain ⟨AL, nl, cl, AO, no, co, os, hx0⟩ := h; obtain ⟨_, _, c2, _⟩ := hx0.tops; have hnl := hx0.lg.len; have HXR := hid hx; have hlen := hx.len; have hwr : IntKind.i64.wrap ((nl : Int) + (n1 : Int)) = (nl : Int) + n1 := by rw [IntKind.wrap_i64]; omega
 have HNE := hid hne; clear hx0 hx hne; by_cases hbig : 200 < n.lg.length + ts.length
 · rw [show layNd n ts = (5, n) from if_pos hbig]; have hb2 : (200 : Int) < (nl : Int) + n1 := by omega
   clear hbig hnl hlen; go_enter Tryz.func112, Tryz.ntmps112; go_wp2_with fail; go_ret; exact ⟨rfl, Lays.here HT.out⟩
 rw [show layNd n ts = (0, { n with lg := n.lg ++ ts.map fun t => ⟨n.ep, t⟩ }) from if_neg hbig]; have hb2 : ¬ (200 : Int) < (nl : Int) + n1 := by omega
 have HSM : Hid (nl + n1 ≤ 200) := hid (by omega); have HNL := hid hnl; have HTL := hid hlen; obtain ⟨i0, hi, hz0, hz1, hz2⟩ := info_parts entinfo; have HB0 : Hid (Lays b { n with lg := n.lg ++ (ts.take 0).map fun t => ⟨n.ep, t⟩ } S w w) := hid (by simpa using Lays.here HT.out); clear hbig hnl hlen; go_enter Tryz.func112, Tryz.ntmps112; go_wp2_with fail
 go_loopw [5] (fun i wr => ∃ k : Nat, k ≤ n1 ∧ i = .int .i64 k ∧ Hid (Lays b { n with lg := n.lg ++ (ts.take k).map fun t => ⟨n.ep, t⟩ } S w wr)) (fun i _ => n1 - (intOf i).toNat)
 case atStart => exact ⟨0, Nat.zero_le _, rfl, HB0⟩
 case round =>
  obtain ⟨k, hk, rfl, hs⟩ := hrel; clear HB0; by_cases hlt : k < n1
  · have hkt : k < ts.length := by rw [HTL.out]; exact hlt
    obtain ⟨S', hp, hS'⟩ := hs.out.at_; obtain ⟨AL', m, cl', AO', no', co', os', hx0⟩ := hp; have HX := hid hx0; have hmL := hx0.lg.len
    have HMX : Hid (m = nl + k) := hid (by
     rw [← hmL, ← HNL.out]; simp only [List.length_append, List.length_map, List.length_take]
     omega)
    have HAPP : Hid (n.lg ++ (ts.take (k + 1)).map (fun t => (⟨n.ep, t⟩ : Lg)) = (n.lg ++ (ts.take k).map fun t => ⟨n.ep, t⟩) ++ [⟨n.ep, ts[k]⟩]) := hid (by
     rw [List.take_succ_eq_append_getElem hkt, List.map_append, List.append_assoc]
     rfl)
    have hxr0 := HXR.out.offO hs.out.off fun ad e => HNE.out ad e; obtain ⟨ad, hA, hadl, hxt⟩ := hxr0.at_ hkt; subst hA; have HTX : Hid (∀ u, Below wr.heap.size wr u → u.cell? (ad.add k) = some (.string ts[k])) := hid fun u hu => by rw [hu.cell (by rw [add_block]; exact hadl)]; exact hxt
    obtain ⟨t, ht⟩ : ∃ x, ts[k] = x := ⟨_, rfl⟩; rw [ht] at HTX HAPP hxt; obtain ⟨ls, hls⟩ : ∃ x, (n.lg ++ (ts.take k).map fun t => (⟨n.ep, t⟩ : Lg)) = x := ⟨_, rfl⟩; rw [hls] at HX HAPP; have HLG := hid HX.out.lg.rd; have HLN : Hid ((lgC ls).length = m * 2) := hid (by rw [lgC_length, HX.out.lg.len]); obtain ⟨y0, _, y2, y3, _⟩ := HX.out.tops; have hblt : b < wr.heap.size := HX.out.lt b HX.out.sb; have hadw : (ad.add k).block < wr.heap.size := by rw [add_block]; exact hadl
    have hmx : m ≤ 200 := by have := HMX.out; have := HSM.out; omega
    have hi0 : (0 : Int) ≤ (k : Int) := by omega
    have hi1 : (k : Int) < (n1 : Int) := by omega
    have HHS := hid (And.intro hs.out.off hS'); clear hs hS' hmL hx0 ht hls hxr0; go_wp2_with fail; obtain ⟨FN, hFN⟩ : ∃ F : World → Prop, ∀ z, F z ↔ (Lays b { n with lg := n.lg ++ (ts.take (k + 1)).map fun t => ⟨n.ep, t⟩ } S w z) := ⟨_, fun _ => Iff.rfl⟩; have HFN := hid hFN; clear hFN; have HKR : Hid (∀ (i : Nat) (u : World), Kp2 17 20 i u u) := hid (Kp2.refl _ _); refine wp_region_specs6 (S := SL6 20 wr FN) (Kp := Kp2 17 20) (Sp := [(21, Stl.eq (.pointer (some ⟨b, 0, none⟩))), (22, nilL 17 20 wr.heap.size 100 2), (23, Stl.eq (.pointer (some ⟨b, 0, none⟩))), (24, Stl.eq (.pointer (some ⟨b, 0, none⟩))), (25, Stl.eq (.pointer (some ⟨b, 2, none⟩))), (26, Stl.eq (.slice AL' m cl')), (27, rowL 17 20 wr.heap.size 100 2 m (lgC ls)), (28, Stl.eq (.pointer (some ⟨b, 0, none⟩))), (29, Stl.eq (.pointer (some ⟨b, 0, none⟩))), (30, Stl.eq (.pointer (some ⟨b, 0, none⟩))), (31, Stl.eq (.int .u64 n.ep)), (32, Stl.eq (.slice (some ad) n1 c1)), (33, Stl.eq (.int .i64 k)), (34, Stl.eq (.pointer (some (ad.add k)))), (35, Stl.eq (.string t)), (36, Stl.eq (.agg #[.int .u64 n.ep, .string t])), (37, rowL 17 20 wr.heap.size 100 2 1 [.int .u64 n.ep, .string t]), (38, rowK 17 20 wr.heap.size 100 2 (m + 1) ((lgC ls) ++ [.int .u64 n.ep, .string t])), (39, Stl.eq (.pointer (some ⟨b, 0, none⟩))), (40, Stl.eq (.pointer (some ⟨b, 2, none⟩)))]) (by kernel_rfl) (by kernel_rfl) (SL6.of rfl (kp_drewN _ 1)) ?_ ?_
    · refine .cons ?_ ?_
      · intro L a u hL hst hS hdep hq hno; refine .inl ⟨trivial, ?_⟩; have g0 := gd (v := .pointer (some ⟨b, 0, none⟩)) (hst.out 0 (by kernel_rfl)); go_simp; exact Went6.same (HKR.out _ _) hS rfl
      refine .cons ?_ ?_
      · intro L a u hL hst hS hdep hq hno; refine .inl ⟨trivial, ?_⟩; go_simp; have h20 : L 20 = false := hno 12 20; have hB : Below wr.heap.size wr u := SL6.ahead hS h20; have hS2 : ∀ u', Below wr.heap.size wr u' → SL6 20 wr FN L u' := fun u' h => SL6.of h20 h; exact Went6.next (hS2 _ (hB.alloc hB.size _)) (fun _ _ => kp_new _ _) ⟨_, rfl, fun _ _ => own_base_s (own_new_s u u.heap.size 2 100 0 [] rfl (Nat.le_refl _) (Nat.zero_le _)) hB.size⟩
      refine .cons ?_ ?_
      · intro L a u hL hst hS hdep hq hno; refine .inl ⟨trivial, ?_⟩; have g0 := gd (v := .pointer (some ⟨b, 0, none⟩)) (hst.out 0 (by kernel_rfl)); go_simp; exact Went6.same (HKR.out _ _) hS rfl
      refine .cons ?_ ?_
      · intro L a u hL hst hS hdep hq hno; refine .inl ⟨trivial, ?_⟩; have g23 := gd (hdep 23); go_simp; exact Went6.same (HKR.out _ _) hS rfl
      refine .cons ?_ ?_
      · intro L a u hL hst hS hdep hq hno; refine .inl ⟨trivial, ?_⟩; have g24 := gd (hdep 24); go_simp; exact Went6.same (HKR.out _ _) hS rfl
      refine .cons ?_ ?_
      · intro L a u hL hst hS hdep hq hno; refine .inl ⟨trivial, ?_⟩; have g25 := gd (hdep 25); have h20 : L 20 = false := hno 12 20; have hB : Below wr.heap.size wr u := SL6.ahead hS h20; have hS2 : ∀ u', Below wr.heap.size wr u' → SL6 20 wr FN L u' := fun u' h => SL6.of h20 h; obtain ⟨y0, _, y2, _, _, _, f2, _⟩ := (HX.out.keep (fun k e => hB.block k (HX.out.lt k e)) hB.size).tops; go_simp; exact Went6.same (HKR.out _ _) hS rfl
      refine .cons ?_ ?_
      · intro L a u hL hst hS hdep hq hno; obtain ⟨q22, h22, r22⟩ := hdep 22; have h26 : a.tmps.getD 26 undef = .slice AL' m cl' := hdep 26; refine .inl ⟨trivial, ?_⟩; have g22 := gd h22; have g26 := gd h26; have h20 : L 20 = false := hno 12 20; have hB : Below wr.heap.size wr u := SL6.ahead hS h20; have hS2 : ∀ u', Below wr.heap.size wr u' → SL6 20 wr FN L u' := fun u' h => SL6.of h20 h; refine wp_append_empty (.tmp 22) (.tmp 26) _ rfl wr.heap.size 100 i0 _ 2 24 Tryz.underlying53 hi hz0 hz1 hz2 rfl (by omega) q22 h22 (r22 (hno 12 17) h20) _ AL' m cl' (lgC ls) h26 HLN.out (HLG.out.below hB (Nat.le_refl _)) (lgC_one _) (by unfold maxLen; omega) (by omega) hB.size ?_; intro v3 u3 hown3 hb3; obtain ⟨D3, e3, rfl, _, _⟩ := own_form_s hown3; exact ⟨_, rfl, hS2 _ (hB.trans (hb3.mono hB.size)), fun _ _ => hb3, fun t e => by injection e with e; subst e; exact ⟨_, _, rfl, fun _ _ => hown3⟩⟩
      refine .cons ?_ ?_
      · intro L a u hL hst hS hdep hq hno; refine .inl ⟨trivial, ?_⟩; have g0 := gd (v := .pointer (some ⟨b, 0, none⟩)) (hst.out 0 (by kernel_rfl)); go_simp; exact Went6.same (HKR.out _ _) hS rfl
      refine .cons ?_ ?_
      · intro L a u hL hst hS hdep hq hno; refine .inl ⟨trivial, ?_⟩; have g28 := gd (hdep 28); go_simp; exact Went6.same (HKR.out _ _) hS rfl
      refine .cons ?_ ?_
      · intro L a u hL hst hS hdep hq hno; refine .inl ⟨trivial, ?_⟩; have g29 := gd (hdep 29); go_simp; exact Went6.same (HKR.out _ _) hS rfl
      refine .cons ?_ ?_
      · intro L a u hL hst hS hdep hq hno; refine .inl ⟨trivial, ?_⟩; have g30 := gd (hdep 30); have h20 : L 20 = false := hno 12 20; have hB : Below wr.heap.size wr u := SL6.ahead hS h20; have hS2 : ∀ u', Below wr.heap.size wr u' → SL6 20 wr FN L u' := fun u' h => SL6.of h20 h; obtain ⟨y0, _, y2, _, _, _, f2, _⟩ := (HX.out.keep (fun k e => hB.block k (HX.out.lt k e)) hB.size).tops; go_simp; exact Went6.same (HKR.out _ _) hS rfl
      refine .cons ?_ ?_
      · intro L a u hL hst hS hdep hq hno; refine .inl ⟨trivial, ?_⟩; have g1 := gd (v := .slice (some ad) n1 c1) (hst.out 1 (by kernel_rfl)); go_simp; exact Went6.same (HKR.out _ _) hS rfl
      refine .cons ?_ ?_
      · intro L a u hL hst hS hdep hq hno; refine .inl ⟨trivial, ?_⟩; have g5 := gd (v := .int .i64 k) (hst.out 5 (by kernel_rfl)); go_simp; exact Went6.same (HKR.out _ _) hS rfl
      refine .cons ?_ ?_
      · intro L a u hL hst hS hdep hq hno; refine .inl ⟨trivial, ?_⟩; have g32 := gd (hdep 32); have g33 := gd (hdep 33); go_simp; exact Went6.same (HKR.out _ _) hS rfl
      refine .cons ?_ ?_
      · intro L a u hL hst hS hdep hq hno; refine .inl ⟨trivial, ?_⟩; have g34 := gd (hdep 34); have h20 : L 20 = false := hno 12 20; have hB : Below wr.heap.size wr u := SL6.ahead hS h20; have hS2 : ∀ u', Below wr.heap.size wr u' → SL6 20 wr FN L u' := fun u' h => SL6.of h20 h; have xr := HTX.out u hB; go_simp; exact Went6.same (HKR.out _ _) hS rfl
      refine .cons ?_ ?_
      · intro L a u hL hst hS hdep hq hno; refine .inl ⟨trivial, ?_⟩; have g31 := gd (hdep 31); have g35 := gd (hdep 35); go_simp; exact Went6.same (HKR.out _ _) hS rfl
      refine .cons ?_ ?_
      · intro L a u hL hst hS hdep hq hno; refine .inl ⟨trivial, ?_⟩; have g36 := gd (hdep 36); go_simp; have h20 : L 20 = false := hno 12 20; have hB : Below wr.heap.size wr u := SL6.ahead hS h20; have hS2 : ∀ u', Below wr.heap.size wr u' → SL6 20 wr FN L u' := fun u' h => SL6.of h20 h; exact Went6.next (hS2 _ (hB.alloc hB.size _)) (fun _ _ => kp_new _ _) ⟨_, _, rfl, fun _ _ => own_base_s (own_new_s u u.heap.size 2 100 1 [.int .u64 n.ep, .string t] rfl (Nat.le_refl _) (by decide)) hB.size⟩
      refine .cons ?_ ?_
      · intro L a u hL hst hS hdep hq hno; obtain ⟨D27, e27, h27, r27⟩ := hdep 27; obtain ⟨D37, e37, h37, r37⟩ := hdep 37; refine .inl ⟨trivial, ?_⟩; have g27 := gd h27; have g37 := gd h37; have h20 : L 20 = false := hno 12 20; have hB : Below wr.heap.size wr u := SL6.ahead hS h20; have hS2 : ∀ u', Below wr.heap.size wr u' → SL6 20 wr FN L u' := fun u' h => SL6.of h20 h; refine wp_append_rds (.tmp 27) (.tmp 37) _ rfl wr.heap.size 100 i0 _ 2 24 Tryz.underlying53 hi hz0 hz1 hz2 rfl (by omega) _ m _ h27 (r27 hL h20) _ _ 1 _ [.int .u64 n.ep, .string t] h37 rfl (rd_own2 (r37 hL h20)) (by simp [Value.oneCell']) (by unfold maxLen; omega) (by omega) hB.size ?_; intro v5 u5 hown5 hg5; obtain ⟨D5, e5, rfl, _, _⟩ := own_form_s hown5; exact ⟨_, rfl, hS2 _ (hB.trans (below_own_s (r27 hL h20) hg5 hB.size)), fun h _ => absurd rfl h, fun t e => by injection e with e; subst e; exact ⟨done_same, _, _, rfl, fun _ => hown5⟩⟩
      refine .cons ?_ ?_
      · intro L a u hL hst hS hdep hq hno; refine .inl ⟨trivial, ?_⟩; have g21 := gd (hdep 21); go_simp; exact Went6.same (HKR.out _ _) hS rfl
      refine .cons ?_ ?_
      · intro L a u hL hst hS hdep hq hno; refine .inl ⟨trivial, ?_⟩; have g39 := gd (hdep 39); go_simp; exact Went6.same (HKR.out _ _) hS rfl
      refine .cons ?_ ?_
      · intro L a u hL hst hS hdep hq hno; obtain ⟨_, D38, e38, h38, r38⟩ := hdep 38; refine .inl ⟨trivial, ?_⟩; have g38 := gd h38; have g40 := gd (hdep 40); obtain ⟨y0, _, y2, _, _, _, f2, _⟩ := (HX.out.keep (fun k e => (SL6.ahead hS hL).block k (HX.out.lt k e)) (SL6.ahead hS hL).size).tops; go_simp; have hB : Below wr.heap.size wr u := SL6.ahead hS hL; have hx5 := HX.out.keep (fun k e => hB.block k (HX.out.lt k e)) hB.size; have hb6 := heap_setCell_same u b 2 _ _ (.slice D38 (m + 1) e38) hx5.top; have hr6 := r38 hL
        have ho6 : (u.setCell ⟨b, 2, none⟩ (.slice D38 (m + 1) e38)).ownsRow wr.heap.size 100 2 (.slice D38 (m + 1) e38) (m + 1) (lgC (ls ++ [⟨n.ep, t⟩])) := by
         rw [lgC_append]; exact ownsRow_setCell_other (a := ⟨b, 2, none⟩) hr6 (own_type_ne hr6 hx5.top (by decide)) _
        have hof : Off (fun k => k = b) wr (u.setCell ⟨b, 2, none⟩ (.slice D38 (m + 1) e38)) := Off.setCell (S := fun k => k = b) (p := ⟨b, 2, none⟩) (Off.of (fun k => k = b) hB) (.inl rfl) _; have hrl := HX.out.relog hb6 (LR.of_own ho6) (fun ad e => by subst e; exact ho6.lt _ rfl) (fun k hk hkb => hof.block k (HX.out.lt k hk) hkb) hof.size; refine ⟨undef, rfl, SL6.last done_same ((HFN.out _).2 ?_), fun _ h => absurd rfl h, fun t e => by cases e⟩; rw [HAPP.out]; obtain ⟨ho, hs⟩ := HHS.out; have hz := ho.size; exact ⟨⟨_, ⟨_, _, _, _, _, _, _, hrl⟩, fun k hk => hk.elim (hs k) fun e => .inr (by omega)⟩, ho.trans hof fun _ h => .inl h⟩
      exact EachOp.nil
    · intro L a u hLs hst hS hdep; have h21 : a.tmps.getD 21 undef = .pointer (some ⟨b, 0, none⟩) := hdep 21; obtain ⟨q22, h22, _⟩ := hdep 22; have h23 : a.tmps.getD 23 undef = .pointer (some ⟨b, 0, none⟩) := hdep 23; have h24 : a.tmps.getD 24 undef = .pointer (some ⟨b, 0, none⟩) := hdep 24; have h25 : a.tmps.getD 25 undef = .pointer (some ⟨b, 2, none⟩) := hdep 25; have h26 : a.tmps.getD 26 undef = .slice AL' m cl' := hdep 26; obtain ⟨D27, e27, h27, _⟩ := hdep 27; have h28 : a.tmps.getD 28 undef = .pointer (some ⟨b, 0, none⟩) := hdep 28; have h29 : a.tmps.getD 29 undef = .pointer (some ⟨b, 0, none⟩) := hdep 29; have h30 : a.tmps.getD 30 undef = .pointer (some ⟨b, 0, none⟩) := hdep 30; have h31 : a.tmps.getD 31 undef = .int .u64 n.ep := hdep 31; have h32 : a.tmps.getD 32 undef = .slice (some ad) n1 c1 := hdep 32; have h33 : a.tmps.getD 33 undef = .int .i64 k := hdep 33; have h34 : a.tmps.getD 34 undef = .pointer (some (ad.add k)) := hdep 34; have h35 : a.tmps.getD 35 undef = .string t := hdep 35; have h36 : a.tmps.getD 36 undef = .agg #[.int .u64 n.ep, .string t] := hdep 36; obtain ⟨D37, e37, h37, _⟩ := hdep 37; obtain ⟨_, D38, e38, h38, _⟩ := hdep 38; have h39 : a.tmps.getD 39 undef = .pointer (some ⟨b, 0, none⟩) := hdep 39; have h40 : a.tmps.getD 40 undef = .pointer (some ⟨b, 2, none⟩) := hdep 40; have hfr := hst.frame [(21, .pointer (some ⟨b, 0, none⟩)), (22, .slice (some ⟨q22, 0, none⟩) 0 0), (23, .pointer (some ⟨b, 0, none⟩)), (24, .pointer (some ⟨b, 0, none⟩)), (25, .pointer (some ⟨b, 2, none⟩)), (26, .slice AL' m cl'), (27, .slice D27 m e27), (28, .pointer (some ⟨b, 0, none⟩)), (29, .pointer (some ⟨b, 0, none⟩)), (30, .pointer (some ⟨b, 0, none⟩)), (31, .int .u64 n.ep), (32, .slice (some ad) n1 c1), (33, .int .i64 k), (34, .pointer (some (ad.add k))), (35, .string t), (36, .agg #[.int .u64 n.ep, .string t]), (37, .slice D37 1 e37), (38, .slice D38 (m + 1) e38), (39, .pointer (some ⟨b, 0, none⟩)), (40, .pointer (some ⟨b, 2, none⟩))] (by kernel_rfl) ⟨h21, h22, h23, h24, h25, h26, h27, h28, h29, h30, h31, h32, h33, h34, h35, h36, h37, h38, h39, h40, trivial⟩; clear hst hdep h21 h22 h23 h24 h25 h26 h27 h28 h29 h30 h31 h32 h33 h34 h35 h36 h37 h38 h39 h40; subst hfr; simp only [List.foldl_cons, List.foldl_nil, List.setIfInBounds_toArray, List.set_cons_zero, List.set_cons_succ]; have h20 := hLs 20 (by kernel_rfl); have HFIN : Hid (Lays b { n with lg := n.lg ++ (ts.take (k + 1)).map fun t => ⟨n.ep, t⟩ } S w u) := hid ((HFN.out u).1 (SL6.done hS h20)); clear hS hLs h20; go_wp2_with fail; go_roundw
      case rel => exact ⟨k + 1, by omega, by go_num, HFIN⟩
      case measure => simp [intOf]; omega
  · obtain rfl : k = n1 := by omega
    rw [List.take_of_length_le (by rw [HTL.out]; exact Nat.le_refl _)] at hs; go_wp2_with fail; go_ret; exact ⟨rfl, hs.out⟩
theorem cut2_0 {w : World} {B : Nat} {A : Option Addr} {n c : Nat} {xs : List Value} (hr : Rd w B A xs) (P : Program) (t : TypeId) (ht : P.underlying t = some (.slice (P.elem t))) (hz : (P.info? (P.elem t)).map (·.size) = some 2) {j : Nat} (y : Int) (hy : y = j) (hj : j ≤ n) (hc : n ≤ c) :
 ∃ A', (∀ u, (Instr.slice t (.slice A n c) none (some (.int .i64 y)) none).run P u = .ok (.slice A' j c) u) ∧ Rd w B A' (xs.take (j * 2)) := by
 obtain ⟨ti, hti, hsz⟩ := Option.map_eq_some_iff.1 hz; refine ⟨A, fun u => ?_, hr.front _⟩; subst hy; rw [run_slice_h u t A n c ht .i64 j (by omega) (by omega)]
 cases A with
 | none => simp [sizeOf, typeInfo, hti, hsz, sliced, Result.andThen]
 | some ad => simp [sizeOf, typeInfo, hti, hsz, sliced, Result.andThen, Addr.add]
theorem cut2_1 {w : World} {B : Nat} {A : Option Addr} {n c : Nat} {xs : List Value} (hl : xs.length = n * 2) (hr : Rd w B A xs) (P : Program) (t : TypeId) (ht : P.underlying t = some (.slice (P.elem t))) (hz : (P.info? (P.elem t)).map (·.size) = some 2) {i : Nat} (x : Int) (hx : x = i) (hi : i ≤ n) (hc : n ≤ c) :
 ∃ A', (∀ u, (Instr.slice t (.slice A n c) (some (.int .i64 x)) none none).run P u = .ok (.slice A' (n - i) (c - i)) u) ∧ Rd w B A' (xs.drop (i * 2)) := by
 obtain ⟨ti, hti, hsz⟩ := Option.map_eq_some_iff.1 hz; have hr2 := hr.cut (k := i * 2) (cap := c * 2) (by omega)
 have e : (if c * 2 = i * 2 then A else A.map (·.add (i * 2))) = if c = i then A else A.map (·.add (i * 2)) := by
  by_cases hci : c = i
  · rw [if_pos hci, if_pos (by rw [hci])]
  · rw [if_neg hci, if_neg (by omega)]
 rw [e] at hr2; refine ⟨_, fun u => ?_, hr2⟩; subst hx; rw [run_slice_l u t A n c ht .i64 i (by omega) (by omega)]; simp [sizeOf, typeInfo, hti, hsz, sliced, Result.andThen]
set_option maxHeartbeats 16000000 in
theorem rclose15_ok (c : Int) (h : (RN b n).p S w) (hnd : (n.op.map Op15.c).Nodup) (hop : n.op.length ≤ 1000) :
 Calls Tryz.prog 63 #[.pointer (some ⟨b, 0, none⟩), .int .i64 c] w fun e w' => e = .returned (.bool (decide (0 ≤ idxOp c n.op))) ∧ Lays b (closeNd n c) S w w' := by
 have HF := hid (rfind15_ok c h hop); have HT := hid h; obtain ⟨AL, nl, cl, AO, no, co, os, hx0⟩ := h; by_cases hneg : idxOp c n.op < 0
 · have hcl : closeNd n c = n := by
    unfold closeNd; rw [dropOp_no (idxOp_no hneg)]
   rw [hcl, decide_eq_false (by omega)]; generalize idxOp c n.op = ix at *; clear hx0; go_enter Tryz.func63, Tryz.ntmps63; go_wp2_with fail; refine HF.out.mono ?_; rintro e w1 ⟨rfl, rfl⟩; go_wp2_with fail; go_ret; exact ⟨rfl, Lays.here HT.out⟩
 · obtain ⟨i, hi⟩ : ∃ i : Nat, idxOp c n.op = i := ⟨(idxOp c n.op).toNat, by omega⟩; obtain ⟨hil, hic, _⟩ := idxOp_is hi; have HDO : Hid (dropOp c n.op = n.op.take i ++ n.op.drop (i + 1)) := hid (dropOp_at hil hnd hic); rw [decide_eq_true (by omega)]; rw [hi] at HF; have holen := hx0.olen; have hlen := hx0.len; have hin : i < no := by omega
   have hcap : no ≤ co := by
    obtain ⟨_, _, e, h1, _⟩ := own_form_s hx0.own; injection e with _ _ e; omega
   have hxl : (opC os).length = no * 2 := by rw [opC_length]; omega
   have hrd := rd_own2 hx0.own; obtain ⟨A1, run1, hr1⟩ := cut2_0 hrd Tryz.prog 54 (by kernel_rfl) (by kernel_rfl) (j := i) i rfl (by omega) hcap; obtain ⟨A2, run2, hr2⟩ := cut2_1 hxl hrd Tryz.prog 54 (by kernel_rfl) (by kernel_rfl) (i := i + 1) ((i : Int) + 1) (by omega) (by omega) hcap; rw [← opC_take] at hr1; rw [← opC_drop] at hr2; obtain ⟨n2, hn2⟩ : ∃ n2, n2 = no - (i + 1) := ⟨_, rfl⟩; obtain ⟨c2, hc2⟩ : ∃ c2, c2 = co - (i + 1) := ⟨_, rfl⟩; rw [← hn2, ← hc2] at run2; have hwr : IntKind.i64.wrap ((i : Int) + 1) = (i : Int) + 1 := by rw [IntKind.wrap_i64]; omega
   have HX := hid hx0; have HR1 := hid hr1; have HR2 := hid hr2; have HL1 : Hid ((opC (os.take i)).length = i * 2) := hid (by rw [opC_length, List.length_take]; omega); have HL2 : Hid ((opC (os.drop (i + 1))).length = n2 * 2) := hid (by rw [opC_length, List.length_drop]; omega); have HOL := hid (And.intro holen (And.intro hlen hn2)); obtain ⟨i0, hi0, hz0, hz1, hz2⟩ := info_parts opninfo; have hi := hi0; have hblt : b < w.heap.size := hx0.lt b hx0.sb; have hino : no ≤ 1000 := by omega
   have hn2o : n2 ≤ 1000 := by omega
   clear hx0 hr1 hr2 hxl hrd hnd hneg hic hi0 hn2 hc2; go_enter Tryz.func63, Tryz.ntmps63; go_wp2_with fail; refine HF.out.mono ?_; rintro e w1 ⟨rfl, rfl⟩; clear HF; go_wp2_with fail; obtain ⟨FN, hFN⟩ : ∃ F : World → Prop, ∀ z, F z ↔ (Lays b (closeNd n c) S w z) := ⟨_, fun _ => Iff.rfl⟩; have HFN := hid hFN; clear hFN; have HKR : Hid (∀ (i : Nat) (u : World), Kp2 16 19 i u u) := hid (Kp2.refl _ _); refine wp_region_specs6 (S := SL6 19 w FN) (Kp := Kp2 16 19) (Sp := [(11, Stl.eq (.pointer (some ⟨b, 0, none⟩))), (12, nilL 16 19 w.heap.size 160 2), (13, Stl.eq (.pointer (some ⟨b, 0, none⟩))), (14, Stl.eq (.pointer (some ⟨b, 0, none⟩))), (15, Stl.eq (.pointer (some ⟨b, 3, none⟩))), (16, Stl.eq (.slice AO no co)), (17, Stl.eq (.int .i64 i)), (18, Stl.eq (.slice A1 i co)), (19, rowL 16 19 w.heap.size 160 2 i (opC (os.take i))), (20, Stl.eq (.pointer (some ⟨b, 0, none⟩))), (21, Stl.eq (.pointer (some ⟨b, 0, none⟩))), (22, Stl.eq (.pointer (some ⟨b, 3, none⟩))), (23, Stl.eq (.slice AO no co)), (24, Stl.eq (.int .i64 i)), (25, Stl.eq (.int .i64 ((i : Int) + 1))), (26, Stl.eq (.slice A2 n2 c2)), (27, rowK 16 19 w.heap.size 160 2 (i + n2) (opC (os.take i) ++ opC (os.drop (i + 1)))), (28, Stl.eq (.pointer (some ⟨b, 0, none⟩))), (29, Stl.eq (.pointer (some ⟨b, 3, none⟩)))]) (by kernel_rfl) (by kernel_rfl) (SL6.of rfl (kp_drewN _ 1)) ?_ ?_
   · refine .cons ?_ ?_
     · intro L a u hL hst hS hdep hq hno; refine .inl ⟨trivial, ?_⟩; have g0 := gd (v := .pointer (some ⟨b, 0, none⟩)) (hst.out 0 (by kernel_rfl)); go_simp; exact Went6.same (HKR.out _ _) hS rfl
     refine .cons ?_ ?_
     · intro L a u hL hst hS hdep hq hno; refine .inl ⟨trivial, ?_⟩; go_simp; have h20 : L 19 = false := hno 12 19; have hB : Below w.heap.size w u := SL6.ahead hS h20; have hS2 : ∀ u', Below w.heap.size w u' → SL6 19 w FN L u' := fun u' h => SL6.of h20 h; exact Went6.next (hS2 _ (hB.alloc hB.size _)) (fun _ _ => kp_new _ _) ⟨_, rfl, fun _ _ => own_base_s (own_new_s u u.heap.size 2 160 0 [] rfl (Nat.le_refl _) (Nat.zero_le _)) hB.size⟩
     refine .cons ?_ ?_
     · intro L a u hL hst hS hdep hq hno; refine .inl ⟨trivial, ?_⟩; have g0 := gd (v := .pointer (some ⟨b, 0, none⟩)) (hst.out 0 (by kernel_rfl)); go_simp; exact Went6.same (HKR.out _ _) hS rfl
     refine .cons ?_ ?_
     · intro L a u hL hst hS hdep hq hno; refine .inl ⟨trivial, ?_⟩; have g13 := gd (hdep 13); go_simp; exact Went6.same (HKR.out _ _) hS rfl
     refine .cons ?_ ?_
     · intro L a u hL hst hS hdep hq hno; refine .inl ⟨trivial, ?_⟩; have g14 := gd (hdep 14); go_simp; exact Went6.same (HKR.out _ _) hS rfl
     refine .cons ?_ ?_
     · intro L a u hL hst hS hdep hq hno; refine .inl ⟨trivial, ?_⟩; have g15 := gd (hdep 15); have h20 : L 19 = false := hno 12 19; have hB : Below w.heap.size w u := SL6.ahead hS h20; have hS2 : ∀ u', Below w.heap.size w u' → SL6 19 w FN L u' := fun u' h => SL6.of h20 h; obtain ⟨_, _, _, y3, _, _, _, f3⟩ := (HX.out.keep (fun k e => hB.block k (HX.out.lt k e)) hB.size).tops; go_simp; exact Went6.same (HKR.out _ _) hS rfl
     refine .cons ?_ ?_
     · intro L a u hL hst hS hdep hq hno; refine .inl ⟨trivial, ?_⟩; have g5 := gd (v := .int .i64 i) (hst.out 5 (by kernel_rfl)); go_simp; exact Went6.same (HKR.out _ _) hS rfl
     refine .cons ?_ ?_
     · intro L a u hL hst hS hdep hq hno; refine .inl ⟨trivial, ?_⟩; have g16 := gd (hdep 16); have g17 := gd (hdep 17); go_simp; exact Went6.same (HKR.out _ _) hS rfl
     refine .cons ?_ ?_
     · intro L a u hL hst hS hdep hq hno; obtain ⟨q12, h12, r12⟩ := hdep 12; have h18 : a.tmps.getD 18 undef = .slice A1 i co := hdep 18; refine .inl ⟨trivial, ?_⟩; have g12 := gd h12; have g18 := gd h18; have h20 : L 19 = false := hno 12 19; have hB : Below w.heap.size w u := SL6.ahead hS h20; have hS2 : ∀ u', Below w.heap.size w u' → SL6 19 w FN L u' := fun u' h => SL6.of h20 h; refine wp_append_empty (.tmp 12) (.tmp 18) _ rfl w.heap.size 160 i0 _ 2 32 Tryz.underlying54 hi hz0 hz1 hz2 rfl (by omega) q12 h12 (r12 (hno 12 16) h20) _ A1 i co (opC (os.take i)) h18 HL1.out (HR1.out.below hB (Nat.le_refl _)) (opC_one _) (by unfold maxLen; omega) (by omega) hB.size ?_; intro v3 u3 hown3 hb3; obtain ⟨D3, e3, rfl, _, _⟩ := own_form_s hown3; exact ⟨_, rfl, hS2 _ (hB.trans (hb3.mono hB.size)), fun _ _ => hb3, fun t e => by injection e with e; subst e; exact ⟨_, _, rfl, fun _ _ => hown3⟩⟩
     refine .cons ?_ ?_
     · intro L a u hL hst hS hdep hq hno; refine .inl ⟨trivial, ?_⟩; have g0 := gd (v := .pointer (some ⟨b, 0, none⟩)) (hst.out 0 (by kernel_rfl)); go_simp; exact Went6.same (HKR.out _ _) hS rfl
     refine .cons ?_ ?_
     · intro L a u hL hst hS hdep hq hno; refine .inl ⟨trivial, ?_⟩; have g20 := gd (hdep 20); go_simp; exact Went6.same (HKR.out _ _) hS rfl
     refine .cons ?_ ?_
     · intro L a u hL hst hS hdep hq hno; refine .inl ⟨trivial, ?_⟩; have g21 := gd (hdep 21); go_simp; exact Went6.same (HKR.out _ _) hS rfl
     refine .cons ?_ ?_
     · intro L a u hL hst hS hdep hq hno; refine .inl ⟨trivial, ?_⟩; have g22 := gd (hdep 22); have h20 : L 19 = false := hno 12 19; have hB : Below w.heap.size w u := SL6.ahead hS h20; have hS2 : ∀ u', Below w.heap.size w u' → SL6 19 w FN L u' := fun u' h => SL6.of h20 h; obtain ⟨_, _, _, y3, _, _, _, f3⟩ := (HX.out.keep (fun k e => hB.block k (HX.out.lt k e)) hB.size).tops; go_simp; exact Went6.same (HKR.out _ _) hS rfl
     refine .cons ?_ ?_
     · intro L a u hL hst hS hdep hq hno; refine .inl ⟨trivial, ?_⟩; have g5 := gd (v := .int .i64 i) (hst.out 5 (by kernel_rfl)); go_simp; exact Went6.same (HKR.out _ _) hS rfl
     refine .cons ?_ ?_
     · intro L a u hL hst hS hdep hq hno; refine .inl ⟨trivial, ?_⟩; have g24 := gd (hdep 24); go_simp; exact Went6.same (HKR.out _ _) hS rfl
     refine .cons ?_ ?_
     · intro L a u hL hst hS hdep hq hno; refine .inl ⟨trivial, ?_⟩; have g23 := gd (hdep 23); have g25 := gd (hdep 25); go_simp; exact Went6.same (HKR.out _ _) hS rfl
     refine .cons ?_ ?_
     · intro L a u hL hst hS hdep hq hno; obtain ⟨D19, e19, h19, r19⟩ := hdep 19; have h26 : a.tmps.getD 26 undef = .slice A2 n2 c2 := hdep 26; refine .inl ⟨trivial, ?_⟩; have g19 := gd h19; have g26 := gd h26; have h20 : L 19 = false := hno 12 19; have hB : Below w.heap.size w u := SL6.ahead hS h20; have hS2 : ∀ u', Below w.heap.size w u' → SL6 19 w FN L u' := fun u' h => SL6.of h20 h; refine wp_append_rds (.tmp 19) (.tmp 26) _ rfl w.heap.size 160 i0 _ 2 32 Tryz.underlying54 hi hz0 hz1 hz2 rfl (by omega) _ i _ h19 (r19 hL h20) _ A2 n2 c2 (opC (os.drop (i + 1))) h26 HL2.out (HR2.out.below hB (Nat.le_refl _)) (opC_one _) (by unfold maxLen; omega) (by omega) hB.size ?_; intro v5 u5 hown5 hg5; obtain ⟨D5, e5, rfl, _, _⟩ := own_form_s hown5; exact ⟨_, rfl, hS2 _ (hB.trans (below_own_s (r19 hL h20) hg5 hB.size)), fun h _ => absurd rfl h, fun t e => by injection e with e; subst e; exact ⟨done_same, _, _, rfl, fun _ => hown5⟩⟩
     refine .cons ?_ ?_
     · intro L a u hL hst hS hdep hq hno; refine .inl ⟨trivial, ?_⟩; have g11 := gd (hdep 11); go_simp; exact Went6.same (HKR.out _ _) hS rfl
     refine .cons ?_ ?_
     · intro L a u hL hst hS hdep hq hno; refine .inl ⟨trivial, ?_⟩; have g28 := gd (hdep 28); go_simp; exact Went6.same (HKR.out _ _) hS rfl
     refine .cons ?_ ?_
     · intro L a u hL hst hS hdep hq hno; obtain ⟨_, D27, e27, h27, r27⟩ := hdep 27; refine .inl ⟨trivial, ?_⟩; have g27 := gd h27; have g29 := gd (hdep 29); have hB : Below w.heap.size w u := SL6.ahead hS hL; obtain ⟨_, _, _, y3, _, _, _, f3⟩ := (HX.out.keep (fun k e => hB.block k (HX.out.lt k e)) hB.size).tops; go_simp; have hx5 := HX.out.keep (fun k e => hB.block k (HX.out.lt k e)) hB.size; have hb6 := heap_setCell_same u b 3 _ _ (.slice D27 (i + n2) e27) hx5.top; have hr6 := r27 hL
       have ho6 : (u.setCell ⟨b, 3, none⟩ (.slice D27 (i + n2) e27)).ownsRow w.heap.size 160 2 (.slice D27 (i + n2) e27) (i + n2) (opC (os.take i ++ os.drop (i + 1))) := by
        rw [opC_append]; exact ownsRow_setCell_other (a := ⟨b, 3, none⟩) hr6 (own_type_ne hr6 hx5.top (by decide)) _
       have hof : Off (fun k => k = b) w (u.setCell ⟨b, 3, none⟩ (.slice D27 (i + n2) e27)) := Off.setCell (S := fun k => k = b) (p := ⟨b, 3, none⟩) (Off.of (fun k => k = b) hB) (.inl rfl) _; refine ⟨undef, rfl, SL6.last done_same ((HFN.out _).2 ?_), fun _ h => absurd rfl h, fun t e => by cases e⟩; obtain ⟨ho1, ho2, ho3⟩ := HOL.out
       have hrl := HX.out.reop (l' := dropOp c n.op) hb6 ho6 (by rw [HDO.out]; simp only [List.length_append, List.length_take, List.length_drop]; omega) (fun j h1 h2 => by
        have key : ∀ (q : Nat) (q1 : q < os.length) (q2 : q < n.op.length), (os.take i ++ os.drop (i + 1))[j]? = some os[q] → (n.op.take i ++ n.op.drop (i + 1))[j]? = some n.op[q] → (os.take i ++ os.drop (i + 1))[j].c = (dropOp c n.op)[j].c ∧ ((∃ i_1, ∃ (q1 : i_1 < os.length) (q2 : i_1 < n.op.length), (os.take i ++ os.drop (i + 1))[j] = os[i_1] ∧ (dropOp c n.op)[j] = n.op[i_1]) ∨ ((os.take i ++ os.drop (i + 1))[j].A = none ∧ (os.take i ++ os.drop (i + 1))[j].n = 0 ∧ (dropOp c n.op)[j].ts = [])) := fun q q1 q2 e1 e2 => by
         have f1 : (os.take i ++ os.drop (i + 1))[j] = os[q] := by rw [List.getElem?_eq_getElem h1] at e1; exact Option.some.inj e1
         have f2 : (dropOp c n.op)[j] = n.op[q] := by
          rw [← HDO.out, List.getElem?_eq_getElem h2] at e2; exact Option.some.inj e2
         rw [f1, f2]; exact ⟨(HX.out.at_ q q1 q2).1, .inl ⟨q, q1, q2, rfl, rfl⟩⟩
        have hj : j < os.length - 1 := by
         simp only [List.length_append, List.length_take, List.length_drop] at h1; omega
        by_cases hji : j < i
        · refine key j (by omega) (by omega) ?_ ?_
          · rw [List.getElem?_append_left (by rw [List.length_take]; omega), List.getElem?_take_of_lt hji, List.getElem?_eq_getElem]
          · rw [List.getElem?_append_left (by rw [List.length_take]; omega), List.getElem?_take_of_lt hji, List.getElem?_eq_getElem]
        · refine key (j + 1) (by omega) (by omega) ?_ ?_
          · rw [List.getElem?_append_right (by rw [List.length_take]; omega), List.length_take, List.getElem?_drop, List.getElem?_eq_getElem (by omega)]; congr 2; omega
          · rw [List.getElem?_append_right (by rw [List.length_take]; omega), List.length_take, List.getElem?_drop, List.getElem?_eq_getElem (by omega)]; congr 2
            omega) (fun k hk hkb => hof.block k (HX.out.lt k hk) hkb) hof.size
       exact ⟨⟨fun k => S k ∨ (w.heap.size ≤ k ∧ k < (u.setCell ⟨b, 3, none⟩ (.slice D27 (i + n2) e27)).heap.size), ⟨_, _, _, _, _, _, _, hrl⟩, fun k hk => hk.elim (fun e => .inl e) (fun e => .inr e.1)⟩, hof⟩
     exact EachOp.nil
   · intro L a u hLs hst hS hdep; have h11 : a.tmps.getD 11 undef = .pointer (some ⟨b, 0, none⟩) := hdep 11; obtain ⟨q12, h12, _⟩ := hdep 12; have h13 : a.tmps.getD 13 undef = .pointer (some ⟨b, 0, none⟩) := hdep 13; have h14 : a.tmps.getD 14 undef = .pointer (some ⟨b, 0, none⟩) := hdep 14; have h15 : a.tmps.getD 15 undef = .pointer (some ⟨b, 3, none⟩) := hdep 15; have h16 : a.tmps.getD 16 undef = .slice AO no co := hdep 16; have h17 : a.tmps.getD 17 undef = .int .i64 i := hdep 17; have h18 : a.tmps.getD 18 undef = .slice A1 i co := hdep 18; obtain ⟨D19, e19, h19, _⟩ := hdep 19; have h20 : a.tmps.getD 20 undef = .pointer (some ⟨b, 0, none⟩) := hdep 20; have h21 : a.tmps.getD 21 undef = .pointer (some ⟨b, 0, none⟩) := hdep 21; have h22 : a.tmps.getD 22 undef = .pointer (some ⟨b, 3, none⟩) := hdep 22; have h23 : a.tmps.getD 23 undef = .slice AO no co := hdep 23; have h24 : a.tmps.getD 24 undef = .int .i64 i := hdep 24; have h25 : a.tmps.getD 25 undef = .int .i64 ((i : Int) + 1) := hdep 25; have h26 : a.tmps.getD 26 undef = .slice A2 n2 c2 := hdep 26; obtain ⟨_, D27, e27, h27, _⟩ := hdep 27; have h28 : a.tmps.getD 28 undef = .pointer (some ⟨b, 0, none⟩) := hdep 28; have h29 : a.tmps.getD 29 undef = .pointer (some ⟨b, 3, none⟩) := hdep 29; have hfr := hst.frame [(11, .pointer (some ⟨b, 0, none⟩)), (12, .slice (some ⟨q12, 0, none⟩) 0 0), (13, .pointer (some ⟨b, 0, none⟩)), (14, .pointer (some ⟨b, 0, none⟩)), (15, .pointer (some ⟨b, 3, none⟩)), (16, .slice AO no co), (17, .int .i64 i), (18, .slice A1 i co), (19, .slice D19 i e19), (20, .pointer (some ⟨b, 0, none⟩)), (21, .pointer (some ⟨b, 0, none⟩)), (22, .pointer (some ⟨b, 3, none⟩)), (23, .slice AO no co), (24, .int .i64 i), (25, .int .i64 ((i : Int) + 1)), (26, .slice A2 n2 c2), (27, .slice D27 (i + n2) e27), (28, .pointer (some ⟨b, 0, none⟩)), (29, .pointer (some ⟨b, 3, none⟩))] (by kernel_rfl) ⟨h11, h12, h13, h14, h15, h16, h17, h18, h19, h20, h21, h22, h23, h24, h25, h26, h27, h28, h29, trivial⟩; clear hst hdep h11 h12 h13 h14 h15 h16 h17 h18 h19 h20 h21 h22 h23 h24 h25 h26 h27 h28 h29; subst hfr; simp only [List.foldl_cons, List.foldl_nil, List.setIfInBounds_toArray, List.set_cons_zero, List.set_cons_succ]; have HFIN : Hid (Lays b (closeNd n c) S w u) := hid ((HFN.out u).1 (SL6.done hS (hLs 19 (by kernel_rfl)))); clear hS hLs; go_wp2_with fail; go_ret; exact ⟨rfl, HFIN.out⟩
end
end

/- The document's layer 6, and the law's own helpers: pairs, Table, Same, Texts, large: contracts. -/
section
open Go.RowKit
set_option maxRecDepth 100000
theorem kvinfoR : (Tryz.prog.info? 187).map (fun i => (i.zero, i.size, i.bytes)) = some (some (.agg #[.string ⟨#[]⟩, .string ⟨#[]⟩]), 2, 32) := by kernel_rfl
theorem OK.empty (e : TypeId) (w : World) : OK e (w.alloc (.cells #[] e)) w.heap.size (some ⟨w.heap.size, 0, none⟩) 0 0 [] :=
 ⟨own_new_s w w.heap.size 2 e 0 [] rfl (Nat.le_refl _) (by simp [maxLen]), Nat.le_refl _⟩
theorem take_same6 {α : Type} [DecidableEq α] {xs ys : List α} {k : Nat} (hx : k < xs.length) (hy : k < ys.length) (h : xs.take k = ys.take k) (he : xs[k] = ys[k]) : xs.take (k + 1) = ys.take (k + 1) := by
 rw [List.take_succ_eq_append_getElem hx, List.take_succ_eq_append_getElem hy, h, he]
set_option maxHeartbeats 2000000 in
theorem texts6_ok (A A' : Option Addr) (n n' c c' : Nat) (xs ys : List ByteArray) (w : World) (hx : XR w A n xs) (hy : XR w A' n' ys) (hn : n ≤ 1000000) (hn' : n' ≤ 1000000) (b : Bool) (hb : Hid (decide (xs = ys) = b)) :
 Calls Tryz.prog 28 #[.slice A n c, .slice A' n' c'] w fun e w' => e = .returned (.bool b) ∧ ∃ m, w' = w.drewN m := by
 by_cases hll : n = n'
 · subst hll; have hlx := hid hx.len; have hly := hid hy.len; go_enter Tryz.func28, Tryz.ntmps28
   go_wp2
   go_loopw [5] (fun i wr => ∃ k m : Nat, k ≤ n ∧ i = .int .i64 k ∧ Hid (xs.take k = ys.take k) ∧ wr = w.drewN m) (fun i _ => n - (intOf i).toNat)
   case atStart => exact ⟨0, 0, Nat.zero_le _, rfl, hid (by simp), rfl⟩
   case round =>
    obtain ⟨k, m, hk, rfl, he, hw⟩ := hrel; have hx' : XR wr A n xs := by subst hw; exact hx.next (kp_drewN _ _)
    have hy' : XR wr A' n ys := by subst hw; exact hy.next (kp_drewN _ _)
    have HW := hid hw; clear hw hx hy; by_cases hlt : k < n
    · have hkx : k < xs.length := by rw [hlx.out]; omega
      have hky : k < ys.length := by rw [hly.out]; omega
      obtain ⟨ad, rfl, _, c0⟩ := hx'.at_ hkx; obtain ⟨ad', rfl, _, d0⟩ := hy'.at_ hky; clear hx' hy'; by_cases hee : xs[k] = ys[k]
      · have hsn : Hid (xs.take (k + 1) = ys.take (k + 1)) := hid (take_same6 hkx hky he.out hee); rw [hee] at c0; clear hee; generalize ys[k] = y at *; have hq : (y.toList == y.toList) = true := by simp
        go_wp2
        go_quiet (fail)
        go_wp2
        go_roundw
        case rel => exact ⟨k + 1, m + nq, by omega, by go_num, hsn, by rw [HW.out, World.drewN_drewN]⟩
        case measure => simp [intOf]; omega
      · have hf : b = false := by
         rw [← hb.out]; simp only [decide_eq_false_iff_not]; rintro rfl; exact hee rfl
        subst hf
        have hq : (xs[k].toList == ys[k].toList) = false := by
         simp only [beq_eq_false_iff_ne, ne_eq]; exact fun h => hee (bytes_ext h)
        clear hee; generalize xs[k] = x at *; generalize ys[k] = y at *
        go_wp2
        go_quiet (fail)
        go_wp2
        go_ret; exact ⟨rfl, m + nq, by rw [HW.out, World.drewN_drewN]⟩
    · have hf : b = true := by
       rw [← hb.out]; have h1 := he.out; rw [List.take_of_length_le (by rw [hlx.out]; omega), List.take_of_length_le (by rw [hly.out]; omega)] at h1; simp [h1]
      subst hf
      go_wp2
      go_ret; exact ⟨rfl, m, HW.out⟩
 · have hf : b = false := by
    rw [← hb.out]; simp only [decide_eq_false_iff_not]; rintro rfl; have := hx.len; have := hy.len; omega
   subst hf; have ht : ((n : Int) != (n' : Int)) = true := by rw [bne_iff_ne]; omega
   go_enter Tryz.func28, Tryz.ntmps28
   go_wp2
   go_ret; exact ⟨rfl, 0, rfl⟩
end

/- What the document's layer 6 reads and writes of a table, pair by pair: the same as the plain functions (no function of the program is named here). -/
section
open Go.RowKit
set_option maxRecDepth 100000
structure WSt where
 out : List Kv
 n : Int
 done : Bool
def stepW (d : Int) (k v : ByteArray) (s : WSt) (p : Kv) : WSt :=
 if d = 3 ∧ s.done = false ∧ ltB k p.k = true then ⟨s.out ++ [⟨k, v⟩] ++ [p], s.n, true⟩
 else if p.k ≠ k ∨ d < 3 ∨ 5 < d then ⟨s.out ++ [p], s.n, s.done⟩
 else ⟨if d = 5 then s.out else s.out ++ [⟨k, v⟩], 1, true⟩
def finalW (d : Int) (k v : ByteArray) (s : WSt) : List Kv × Int := (if d = 3 ∧ s.done = false then s.out ++ [⟨k, v⟩] else s.out, if d = 3 then 1 else s.n)
theorem foldW_below (d : Int) (k v : ByteArray) : ∀ (l : List Kv) (s : WSt), (∀ p ∈ l, ltB p.k k = true) → l.foldl (stepW d k v) s = ⟨s.out ++ l, s.n, s.done⟩
 | [], s, _ => by simp
 | p :: r, s, h => by
   have hp := h p (by simp)
   have e : stepW d k v s p = ⟨s.out ++ [p], s.n, s.done⟩ := by
    unfold stepW; rw [if_neg (by rw [ltB_asymm hp]; simp), if_pos (.inl (ltB_ne hp))]
   rw [List.foldl_cons, e, foldW_below d k v r _ fun q hq => h q (List.mem_cons_of_mem _ hq)]; simp
theorem foldW_above (d : Int) (k v : ByteArray) : ∀ (l : List Kv) (s : WSt), (∀ p ∈ l, ltB k p.k = true) → (d ≠ 3 ∨ s.done = true) → l.foldl (stepW d k v) s = ⟨s.out ++ l, s.n, s.done⟩
 | [], s, _, _ => by simp
 | p :: r, s, h, hd => by
   have hp := h p (by simp)
   have e : stepW d k v s p = ⟨s.out ++ [p], s.n, s.done⟩ := by
    unfold stepW; rw [if_neg (by rintro ⟨h1, h2, _⟩; rcases hd with hd | hd; exact hd h1; rw [hd] at h2; cases h2), if_pos (.inl (ltB_ne hp).symm)]
   rw [List.foldl_cons, e, foldW_above d k v r ⟨s.out ++ [p], s.n, s.done⟩ (fun q hq => h q (List.mem_cons_of_mem _ hq)) hd]; simp
theorem foldW_put (k v : ByteArray) {l : List Kv} {s : WSt} (h : ∀ p ∈ l, ltB k p.k = true) (hd : s.done = false) : finalW 3 k v (l.foldl (stepW 3 k v) s) = (s.out ++ ⟨k, v⟩ :: l, 1) := by
 cases l with
 | nil => simp [finalW, hd]
 | cons p r =>
   have hp := h p (by simp)
   have e : stepW 3 k v s p = ⟨s.out ++ [⟨k, v⟩] ++ [p], s.n, true⟩ := by
    unfold stepW; rw [if_pos ⟨rfl, hd, hp⟩]
   rw [List.foldl_cons, e, foldW_above 3 k v r _ (fun q hq => h q (List.mem_cons_of_mem _ hq)) (.inr rfl)]; simp [finalW]
theorem fold_there (d : Int) (k v qv : ByteArray) (a r : List Kv) (hb : ∀ p ∈ a, ltB p.k k = true) (ha : ∀ p ∈ r, ltB k p.k = true) :
 finalW d k v ((a ++ ⟨k, qv⟩ :: r).foldl (stepW d k v) ⟨[], 0, false⟩) = if d = 3 ∨ d = 4 then (a ++ ⟨k, v⟩ :: r, 1) else if d = 5 then (a ++ r, 1) else (a ++ ⟨k, qv⟩ :: r, 0) := by
 rw [List.foldl_append, foldW_below d k v _ _ hb, List.foldl_cons]; by_cases h3 : d < 3 ∨ 5 < d
 · have e1 : stepW d k v ⟨[] ++ a, 0, false⟩ ⟨k, qv⟩ = ⟨a ++ [⟨k, qv⟩], 0, false⟩ := by
    unfold stepW; rw [if_neg (by omega), if_pos (.inr h3)]; simp
   rw [e1, foldW_above d k v r _ ha (.inl (by omega)), if_neg (by omega), if_neg (by omega)]; simp only [finalW]; rw [if_neg (by omega), if_neg (by omega)]; simp
 · have e1 : stepW d k v ⟨[] ++ a, 0, false⟩ ⟨k, qv⟩ = ⟨if d = 5 then a else a ++ [⟨k, v⟩], 1, true⟩ := by
    unfold stepW
    rw [if_neg (by rw [ltB_irrefl]; simp), if_neg (by
     rintro (h | h)
     · exact h rfl
     · exact h3 h)]
    simp
   rw [e1, foldW_above d k v r _ ha (.inr rfl)]; simp only [finalW]; rw [if_neg (by simp)]; by_cases h5 : d = 5
   · subst h5; simp
   · have h34 : d = 3 ∨ d = 4 := by omega
     rw [if_neg h5, if_pos h34]; have e1 : (if d = 3 then (1 : Int) else 1) = 1 := by split <;> rfl
     rw [e1]; simp
theorem fold_away (d : Int) (k v : ByteArray) (a r : List Kv) (hb : ∀ p ∈ a, ltB p.k k = true) (ha : ∀ p ∈ r, ltB k p.k = true) :
 finalW d k v ((a ++ r).foldl (stepW d k v) ⟨[], 0, false⟩) = if d = 3 then (a ++ ⟨k, v⟩ :: r, 1) else (a ++ r, 0) := by
 rw [List.foldl_append, foldW_below d k v _ _ hb]; by_cases h3 : d = 3
 · subst h3; rw [foldW_put k v ha rfl]; simp
 · rw [foldW_above d k v r _ ha (.inl h3), if_neg h3]; simp only [finalW]; rw [if_neg (fun h => h3 h.1), if_neg h3]; simp
theorem fold_writes (d : Int) (k v : ByteArray) {l : List Kv} (hs : Srt l) : finalW d k v (l.foldl (stepW d k v) ⟨[], 0, false⟩) = writesF d k v l := by
 have hb := front_below (k := k) (l := l); have ha := rest_above (k := k) hs; have el : l.take (posF k l) ++ l.drop (posF k l) = l := List.take_append_drop _ _; have hw : writesF d k v l = if d = 3 ∨ (d = 4 ∧ thereF k l = true) then (l.take (posF k l) ++ ⟨k, v⟩ :: restF k l, 1) else if d = 5 ∧ thereF k l = true then (l.take (posF k l) ++ restF k l, 1) else (l, 0) := rfl
 cases ht : thereF k l with
 | true =>
   obtain ⟨hp, e⟩ := there_lt ht; have hr : restF k l = l.drop (posF k l + 1) := by unfold restF; rw [ht]; rfl
   rw [hr] at ha hw; rw [List.drop_eq_getElem_cons hp] at el
   have e2 : l[posF k l] = ⟨k, l[posF k l].v⟩ := by
    have : ∀ q : Kv, q.k = k → q = ⟨k, q.v⟩ := fun q h => by cases q; cases h; rfl
    exact this _ e
   rw [e2] at el; have := fold_there d k v (l[posF k l]).v _ _ hb ha; rw [el] at this; rw [this, hw, ht]; simp
 | false =>
   have hr : restF k l = l.drop (posF k l) := by unfold restF; rw [ht]; rfl
   rw [hr] at ha hw; have := fold_away d k v _ _ hb ha; rw [el] at this; rw [this, hw, ht]; simp
def stepR (d : Int) (k : ByteArray) (s : List ByteArray) (p : Kv) : List ByteArray :=
 if d = 1 ∧ p.k = k then s ++ [p.v] else if d = 2 ∧ s.length < 20 then s ++ [p.k, p.v] else s
theorem foldR_get (k : ByteArray) : ∀ (l : List Kv) (s : List ByteArray), (∀ p ∈ l, p.k ≠ k) → l.foldl (stepR 1 k) s = s
 | [], _, _ => rfl
 | p :: r, s, h => by
   have e : stepR 1 k s p = s := by
    unfold stepR; rw [if_neg (fun e => h p (by simp) e.2), if_neg (by omega)]
   rw [List.foldl_cons, e]; exact foldR_get k r s fun q hq => h q (List.mem_cons_of_mem _ hq)
theorem foldR_all (k : ByteArray) : ∀ (l : List Kv) (s : List ByteArray) (j : Nat), s.length = 2 * j → j ≤ 10 → l.foldl (stepR 2 k) s = s ++ ((l.take (10 - j)).flatMap fun p => [p.k, p.v])
 | [], s, _, _, _ => by simp
 | p :: r, s, j, hs, hj => by
   rw [List.foldl_cons]; by_cases h : j < 10
   · have e : stepR 2 k s p = s ++ [p.k, p.v] := by
      unfold stepR; rw [if_neg (by omega), if_pos ⟨rfl, by omega⟩]
     rw [e, foldR_all k r _ (j + 1) (by rw [List.length_append, hs]; simp; omega) (by omega), show 10 - j = (10 - (j + 1)) + 1 from by omega, List.take_succ_cons]; simp
   · obtain rfl : j = 10 := by omega
     have e : stepR 2 k s p = s := by
      unfold stepR; rw [if_neg (by omega), if_neg (by omega)]
     rw [e, foldR_all k r s 10 hs (Nat.le_refl _)]; simp
theorem foldR_other (d : Int) (k : ByteArray) (h1 : d ≠ 1) (h2 : d ≠ 2) : ∀ (l : List Kv) (s : List ByteArray), l.foldl (stepR d k) s = s
 | [], _ => rfl
 | p :: r, s => by
   have e : stepR d k s p = s := by
    unfold stepR; rw [if_neg (fun e => h1 e.1), if_neg (fun e => h2 e.1)]
   rw [List.foldl_cons, e]; exact foldR_other d k h1 h2 r s
theorem fold_reads (d : Int) (k : ByteArray) {l : List Kv} (hs : Srt l) : l.foldl (stepR d k) [] = readsF d k l := by
 by_cases h1 : d = 1
 · subst h1; have hb := front_below (k := k) (l := l); have ha := rest_above (k := k) hs; have el : l.take (posF k l) ++ l.drop (posF k l) = l := List.take_append_drop _ _; have hw : readsF 1 k l = if thereF k l then [(l.getD (posF k l) default).v] else [] := by unfold readsF; rw [if_pos rfl]
   cases ht : thereF k l with
   | true =>
     obtain ⟨hp, e⟩ := there_lt ht; have hr : restF k l = l.drop (posF k l + 1) := by unfold restF; rw [ht]; rfl
     rw [hr] at ha; rw [hw, ht, if_pos rfl, List.getD_eq_getElem?_getD, List.getElem?_eq_getElem hp, Option.getD_some]; rw [List.drop_eq_getElem_cons hp] at el
     have e3 : stepR 1 k [] l[posF k l] = [l[posF k l].v] := by
      unfold stepR; rw [if_pos ⟨rfl, e⟩]; rfl
     conv => lhs; rw [← el]
     rw [List.foldl_append, foldR_get k _ _ fun p hp => ltB_ne (hb p hp), List.foldl_cons, e3, foldR_get k _ _ fun p hp => (ltB_ne (ha p hp)).symm]
   | false =>
     have hr : restF k l = l.drop (posF k l) := by unfold restF; rw [ht]; rfl
     rw [hr] at ha; rw [hw, ht, if_neg (by simp)]
     conv => lhs; rw [← el]
     rw [List.foldl_append, foldR_get k _ _ fun p hp => ltB_ne (hb p hp), foldR_get k _ _ fun p hp => (ltB_ne (ha p hp)).symm]
 · by_cases h2 : d = 2
   · subst h2; rw [foldR_all k l [] 0 rfl (by omega)]; rfl
   · rw [foldR_other d k h1 h2]; unfold readsF; rw [if_neg h1, if_neg h2]
end

/- The document's layer 6: what is read of a table and written to it: contracts. -/
section
open Go.RowKit
set_option maxRecDepth 100000
set_option maxHeartbeats 4000000 in
theorem rreads_ok (d : Int) (k v : ByteArray) (A : Option Addr) (n c : Nat) (ts : List Kv) (w : World) (h : KR w A n ts) (hs : Srt ts) (hn : n ≤ 1000) :
 Calls Tryz.prog 89 #[.agg #[.int .i64 d, .string k, .string v], .slice A n c] w fun e w' => ∃ A' n' c', e = .returned (.slice A' n' c') ∧ XR w' A' n' (readsF d k ts) ∧ n' ≤ 2000 ∧ Below w.heap.size w w' := by
 obtain ⟨i0, hi, hz0, hz1, hz2⟩ := info_parts strinfo6; have kw := kp_new w (.cells #[.int .i64 d, .string k, .string v] 163); have HF := hid (fold_reads d k hs); have HL := hid h.len; have HH := hid h; have hbx : ∀ u, Below (w.alloc (.cells #[.int .i64 d, .string k, .string v] 163)).heap.size (w.alloc (.cells #[.int .i64 d, .string k, .string v] 163)) u → _ := fun u hu => box3 hu; have HBX := hid hbx; have h0 := kp_new (w.alloc (.cells #[.int .i64 d, .string k, .string v] 163)) (.cells #[] 9); have HK0 := hid h0
 have hown0 : Hid (((w.alloc (.cells #[.int .i64 d, .string k, .string v] 163)).alloc (.cells #[] 9)).ownsRow (w.heap.size + 1) 9 1 (.slice (some ⟨w.heap.size + 1, 0, none⟩) 0 0) 0 []) := hid (by
  have := own_new_s (w.alloc (.cells #[.int .i64 d, .string k, .string v] 163)) (w.heap.size + 1) 1 9 0 [] rfl (by simp) (by simp [maxLen])
  simpa using this)
 clear hbx h hs h0; go_enter Tryz.func89, Tryz.ntmps89; go_wp2_with fail
 go_loopw [5, 6] (fun o i wr => ∃ (q z : Nat) (B : Option Addr) (e : Nat), q ≤ n ∧ z ≤ 2 * q ∧ i = .int .i64 q ∧ o = .slice B z e ∧ wr.ownsRow (w.heap.size + 1) 9 1 (.slice B z e) z (tvs ((ts.take q).foldl (stepR d k) [])) ∧ Below (w.alloc (.cells #[.int .i64 d, .string k, .string v] 163)).heap.size (w.alloc (.cells #[.int .i64 d, .string k, .string v] 163)) wr) (fun _ i _ => n - (intOf i).toNat)
 case atStart => exact ⟨0, 0, _, 0, Nat.zero_le _, Nat.zero_le _, rfl, rfl, hown0.out, HK0.out⟩
 case round =>
  obtain ⟨q, z, B, e, hq, hz, rfl, rfl, ho, kr⟩ := hrel; have K0 := kp_trans kw kr; have hsw : w.heap.size + 1 ≤ wr.heap.size := by have := kr.size; simpa using this
  by_cases hlt : q < n
  · have hkl : q < ts.length := by rw [HL.out]; exact hlt
    obtain ⟨b0, b1, _⟩ := HBX.out wr kr
    have hfold : Hid ((ts.take (q + 1)).foldl (stepR d k) [] = stepR d k ((ts.take q).foldl (stepR d k) []) ts[q]) := hid (by
     rw [List.take_succ_eq_append_getElem hkl, List.foldl_append]
     rfl)
    have hlo : ((ts.take q).foldl (stepR d k) []).length = z := by have := ho.1; rw [tvs_length] at this; omega
    obtain ⟨ad, rfl, had, hc⟩ := HH.out.at_ hkl; have HC := hid hc; obtain ⟨c0, c1⟩ := hc _ K0; have hst : stepR d k ((ts.take q).foldl (stepR d k) []) ts[q] = if d = 1 ∧ ts[q].k = k then (ts.take q).foldl (stepR d k) [] ++ [ts[q].v] else if d = 2 ∧ ((ts.take q).foldl (stepR d k) []).length < 20 then (ts.take q).foldl (stepR d k) [] ++ [ts[q].k, ts[q].v] else (ts.take q).foldl (stepR d k) [] := rfl; rw [hlo] at hst; rw [hst] at hfold; have hz2000 : z ≤ 2000 := by omega
    have HZ := hid hz; clear hc hst hlo hz; generalize (ts.take q).foldl (stepR d k) [] = acc at *; generalize ts[q].k = x at *; generalize ts[q].v = y at *; by_cases h1 : d = 1
    · subst h1; by_cases hxk : x = k
      · have hq1 : (x.toList == k.toList) = true := by rw [hxk]; simp
        have hf : Hid ((ts.take (q + 1)).foldl (stepR 1 k) [] = acc ++ [y]) := hid (by rw [hfold.out, if_pos ⟨rfl, hxk⟩]); clear hfold hxk; go_wp2_with fail; go_quiet (fail); have kq : Below wr.heap.size wr (wr.drewN nq) := kp_drewN wr nq; have hoq : (wr.drewN nq).ownsRow (w.heap.size + 1) 9 1 (.slice B z e) z (tvs acc) := own_below_s ho kq (Nat.le_refl _); have KQ := kp_trans K0 kq; have krq := kp_trans kr kq; generalize wr.drewN nq = wq at *; obtain ⟨d0, d1⟩ := HC.out _ KQ; obtain ⟨g0, g1, _⟩ := HBX.out wq krq; have HO := hid (hoq.alloc (.cells #[.string y] 9)); have HSRC : Hid (Rd (wq.alloc (.cells #[.string y] 9)) (wq.heap.size + 1) (some ⟨wq.heap.size, 0, none⟩) [.string y]) := hid (Rd.new wq 9 [.string y]); have HSW := hid (show w.heap.size + 1 ≤ (wq.alloc (.cells #[.string y] 9)).heap.size by have := krq.size; simp at this ⊢; omega); clear ho hoq c0 c1 b0 b1 kr kq K0; go_wp2_with (at_builtin; refine wpList_append_rd rfl _ _ _ rfl (w.heap.size + 1) 9 i0 _ 16 Tryz.underlying35 hi hz0 hz1 hz2 rfl _ z _ rfl HO.out _ _ _ _ [.string y] rfl rfl HSRC.out (by simp [Value.oneCell']) (by unfold maxLen; omega) (by omega) HSW.out ?_; intro v3 w3 hown3 hg3; obtain ⟨A3, c3, rfl, _, _⟩ := own_form hown3; have k3 := (kp_alloc krq (.cells #[.string y] 9)).trans ((below_own_s HO.out hg3 HSW.out).mono (by simp)); obtain ⟨e0, e1, _⟩ := HBX.out w3 k3); go_roundw
        case rel =>
         refine ⟨q + 1, z + 1, A3, c3, by omega, by have := HZ.out; omega, by go_num, rfl, ?_, k3⟩; rw [hf.out, tvs_append]; exact hown3
        case measure => simp [intOf]; omega
      · have hq1 : (x.toList == k.toList) = false := by
         simp only [beq_eq_false_iff_ne, ne_eq]; exact fun h => hxk (bytes_ext h)
        have hf : Hid ((ts.take (q + 1)).foldl (stepR 1 k) [] = acc) := hid (by rw [hfold.out, if_neg (fun h => hxk h.2), if_neg (by omega)]); clear hfold hxk; go_wp2_with fail; go_quiet (fail); have kq : Below wr.heap.size wr (wr.drewN nq) := kp_drewN wr nq; have hoq : Hid ((wr.drewN nq).ownsRow (w.heap.size + 1) 9 1 (.slice B z e) z (tvs acc)) := hid (own_below_s ho kq (Nat.le_refl _)); have krq := kp_trans kr kq; generalize wr.drewN nq = wq at *; obtain ⟨g0, g1, _⟩ := HBX.out wq krq; clear ho c0 c1 b0 b1 kr kq K0; go_wp2_with fail; go_roundw
        case rel => exact ⟨q + 1, z, B, e, by omega, by have := HZ.out; omega, by go_num, rfl, by rw [hf.out]; exact hoq.out, krq⟩
        case measure => simp [intOf]; omega
    · have n1 : (d == 1) = false := by simpa using h1
      by_cases h2 : d = 2 ∧ z < 20
      · obtain ⟨rfl, hz20⟩ := h2; have hz20i : (z : Int) < 20 := by omega
        have hf : Hid ((ts.take (q + 1)).foldl (stepR 2 k) [] = acc ++ [x, y]) := hid (by rw [hfold.out, if_neg (by omega), if_pos ⟨rfl, hz20⟩]); clear hfold h1; go_wp2_with fail; go_quiet (fail); have kq : Below wr.heap.size wr (wr.drewN nq) := kp_drewN wr nq; have hoq : (wr.drewN nq).ownsRow (w.heap.size + 1) 9 1 (.slice B z e) z (tvs acc) := own_below_s ho kq (Nat.le_refl _); have KQ := kp_trans K0 kq; have krq := kp_trans kr kq; generalize wr.drewN nq = wq at *; obtain ⟨d0, d1⟩ := HC.out _ KQ; obtain ⟨g0, g1, _⟩ := HBX.out wq krq; have HOQ := hid hoq; have hql : (q : Int) < (n : Int) := by omega
        clear ho hoq c0 c1 b0 b1 kr kq K0; have HO := hid (HOQ.out.drew.alloc (.cells #[.string x, .string y] 9)); have HSRC : Hid (Rd (wq.drew.alloc (.cells #[.string x, .string y] 9)) (wq.heap.size + 1) (some ⟨wq.heap.size, 0, none⟩) [.string x, .string y]) := hid (Rd.new wq.drew 9 [.string x, .string y]); have HSW := hid (show w.heap.size + 1 ≤ (wq.drew.alloc (.cells #[.string x, .string y] 9)).heap.size by have := krq.size; simp at this ⊢; omega); clear HOQ; go_wp2_with fail; go_region_law (refine step_append_rd rfl (.tmp 43) (.tmp 54) _ rfl (w.heap.size + 1) 9 i0 _ 16 Tryz.underlying35 hi hz0 hz1 hz2 rfl _ z _ rfl HO.out _ _ _ _ [.string x, .string y] rfl rfl HSRC.out (by simp [Value.oneCell']) (by unfold maxLen; omega) (by omega) HSW.out ?_; intro v3 w3 hown3 hg3; obtain ⟨A3, c3, rfl, _, _⟩ := own_form hown3; have k3 := (kp_alloc (krq.drew) (.cells #[.string x, .string y] 9)).trans ((below_own_s HO.out hg3 HSW.out).mono (by simp)); obtain ⟨e0, e1, _⟩ := HBX.out w3 k3)
        all_goals
         go_wp2_with fail; go_roundw
         case rel =>
          refine ⟨q + 1, z + 2, A3, c3, by omega, by have := HZ.out; omega, by go_num, rfl, ?_, k3⟩; rw [hf.out, tvs_append]; exact hown3
         case measure => simp [intOf]; omega
      · have hf : Hid ((ts.take (q + 1)).foldl (stepR d k) [] = acc) := hid (by rw [hfold.out, if_neg (fun h => h1 h.1), if_neg h2])
        have hg : (d == 2) = false ∨ ((d == 2) = true ∧ ¬ (z : Int) < 20) := by
         by_cases hd : d = 2
         · exact .inr ⟨by simpa using hd, by have := fun h => h2 ⟨hd, h⟩; omega⟩
         · exact .inl (by simpa using hd)
        clear hfold h1 h2; rcases hg with hg | ⟨hg, hg2⟩
        all_goals
         go_wp2_with fail; go_quiet (fail); have kq : Below wr.heap.size wr (wr.drewN nq) := kp_drewN wr nq; have hoq : Hid ((wr.drewN nq).ownsRow (w.heap.size + 1) 9 1 (.slice B z e) z (tvs acc)) := hid (own_below_s ho kq (Nat.le_refl _)); have krq := kp_trans kr kq; generalize wr.drewN nq = wq at *; obtain ⟨g0, g1, _⟩ := HBX.out wq krq; clear ho c0 c1 b0 b1 kr kq K0; go_wp2_with fail; go_roundw
         case rel => exact ⟨q + 1, z, B, e, by omega, by have := HZ.out; omega, by go_num, rfl, by rw [hf.out]; exact hoq.out, krq⟩
         case measure => simp [intOf]; omega
  · obtain rfl : q = n := by omega
    rw [List.take_of_length_le (by rw [HL.out]; exact Nat.le_refl _), HF.out] at ho; go_wp2_with fail; go_ret; exact ⟨B, z, e, rfl, XR.of_own ho, by omega, K0⟩
end
end Go.Proofs.YtdhnpmagapbmhaaGreatDoor
