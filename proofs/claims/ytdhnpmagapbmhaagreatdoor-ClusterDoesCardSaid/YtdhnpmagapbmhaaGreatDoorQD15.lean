/-
  Contracts and plain functions that the law stands on, part 15 of 24.
-/
import Derived.Test.YtdhnpmagapbmhaaGreatDoorQD14
import Derived.Lib.SliceRun
import Derived.Maps.OwnOps
import Derived.StringKeys
import Derived.Maps.OwnSet
import Derived.Tactics
import Derived.Tactics2
import Derived.Defers
import Derived.Laws.Pointers
import Derived.Laws.LoneSync
import Derived.RegionTactic
import Derived.RegionCalls
import Derived.ChangeAlike
import Derived.Laws.NewBlocks
import Derived.Deep.RegionWith
import Derived.Deep.Cut
namespace Go.Proofs.YtdhnpmagapbmhaaGreatDoor
/- slices.DeleteFunc at tokens: contract. -/
section
open Go.RowKit
set_option maxRecDepth 100000
theorem add_at (g j : Nat) : (⟨g, 0, none⟩ : Addr).add j = ⟨g, j, none⟩ := by
 unfold Addr.add; split
 · rename_i h; simp_all
 · simp
theorem pair_kept {w w2 : World} {x y : Value} {t : TypeId} (k : Below (w.alloc (.cells #[x, y] t)).heap.size (w.alloc (.cells #[x, y] t)) w2) : w2.cell? ⟨w.heap.size, 0, none⟩ = some x ∧ w2.cell? ⟨w.heap.size, 1, none⟩ = some y := by
 have hb : w2.heap[w.heap.size]? = some (.cells #[x, y] t (0, 0)) := (k.block _ (by simp)).trans (heap_alloc_new w _); constructor
 · rw [cell_of_row _ _ 0 #[x, y] t (0, 0) hb]; rfl
 · rw [cell_of_row _ _ 1 #[x, y] t (0, 0) hb]; rfl
structure RowG (w : World) (g : Nat) (us : List Tk) : Prop where
 cell : ∀ j (h : j < us.length), (w.cell? ⟨g, j * 2, none⟩ = some (.int .i64 us[j].k) ∧ w.cell? ⟨g, j * 2 + 1, none⟩ = some (.string us[j].t)) ∧ w.frozen? ⟨g, j * 2, none⟩ = false ∧ w.frozen? ⟨g, j * 2 + 1, none⟩ = false
 lt : g < w.heap.size
theorem RowG.keep {w w' : World} {g : Nat} {us : List Tk} (h : RowG w g us) (hk : w'.heap[g]? = w.heap[g]?) (hs : w.heap.size ≤ w'.heap.size) : RowG w' g us := by
 refine ⟨fun j hj => ?_, Nat.lt_of_lt_of_le h.lt hs⟩; have hc : ∀ p : Addr, p.block = g → w'.cell? p = w.cell? p := fun p hp => World.cell?_of_block (by rw [hp]; exact hk); have hf : ∀ p : Addr, p.block = g → w'.frozen? p = w.frozen? p := fun p hp => by unfold World.frozen?; rw [hp, hk]
 obtain ⟨⟨c0, c1⟩, f0, f1⟩ := h.cell j hj; exact ⟨⟨(hc _ rfl).trans c0, (hc _ rfl).trans c1⟩, (hf _ rfl).trans f0, (hf _ rfl).trans f1⟩
theorem RowG.next {w w' : World} {g : Nat} {us : List Tk} (h : RowG w g us) (hb : Below w.heap.size w w') : RowG w' g us := h.keep (hb.block g h.lt) hb.size
theorem RowG.set {w : World} {g : Nat} {us : List Tk} (h : RowG w g us) (k : Nat) (t : Tk) : RowG ((w.setCell ⟨g, k * 2, none⟩ (.int .i64 t.k)).setCell ⟨g, k * 2 + 1, none⟩ (.string t.t)) g (us.set k t) := by
 refine ⟨fun j hj => ?_, by simpa [World.setCell] using h.lt⟩; rw [List.length_set] at hj; obtain ⟨⟨c0, c1⟩, f0, f1⟩ := h.cell j hj; refine ⟨?_, by simpa using f0, by simpa using f1⟩; by_cases e : k = j
 · subst e; simp only [List.getElem_set_self]; refine ⟨?_, ?_⟩
   · rw [World.cell?_setCell_other _ _ _ _ (by simp)]; exact World.cell?_setCell_same _ _ _ c0
   · refine World.cell?_setCell_same _ _ _ (u := .string us[k].t) ?_; rw [World.cell?_setCell_other _ _ _ _ (by simp)]; exact c1
 · rw [List.getElem_set_ne e]; refine ⟨?_, ?_⟩
   · rw [World.cell?_setCell_other _ _ _ _ (by simp; try omega), World.cell?_setCell_other _ _ _ _ (by simp; try omega)]; exact c0
   · rw [World.cell?_setCell_other _ _ _ _ (by simp; try omega), World.cell?_setCell_other _ _ _ _ (by simp; try omega)]; exact c1
theorem RowG.tr {w : World} {g : Nat} {us : List Tk} (h : RowG w g us) : TR w (some ⟨g, 0, none⟩) us.length us := by
 refine ⟨rfl, .inr ⟨_, rfl, h.lt, fun j u hu => ?_⟩⟩; rw [add_at]; have hj : j < (tkC us).length := (List.getElem?_eq_some_iff.1 hu).1; rw [tkC_length] at hj; have hq : j / 2 < us.length := by omega
 obtain ⟨⟨c0, c1⟩, _, _⟩ := h.cell (j / 2) hq; obtain ⟨t0, t1⟩ := tkC_at us (j / 2) hq; rcases Nat.mod_two_eq_zero_or_one j with e | e
 · have e2 : j / 2 * 2 = j := by omega
   rw [e2] at c0 t0; rw [c0, ← t0, hu]
 · have e2 : j / 2 * 2 + 1 = j := by omega
   rw [e2] at c1 t1; rw [c1, ← t1, hu]
theorem OT.rowG {e : TypeId} {w : World} {base : Nat} {A : Option Addr} {n c : Nat} {ts : List Tk} (h : OT e w base A n c ts) (hn : 0 < n) : ∃ g, A = some ⟨g, 0, none⟩ ∧ base ≤ g ∧ RowG w g ts := by
 rcases h.own.2 with ⟨_, h0⟩ | ⟨g, cap, cur, hv, hg, hh, _, _, hs, hx⟩
 · omega
 · injection hv with hA; refine ⟨g, hA, hg, fun j hj => ?_, (Array.getElem?_eq_some_iff.1 hh).1⟩; obtain ⟨t0, t1⟩ := tkC_at ts j hj; rw [← hx] at t0 t1; have hlen := h.len; rw [List.getElem?_take_of_lt (by omega), Array.getElem?_toList] at t0 t1; refine ⟨⟨?_, ?_⟩, ?_, ?_⟩
   · rw [cell_of_row _ _ _ cur e (0, 0) hh]; exact t0
   · rw [cell_of_row _ _ _ cur e (0, 0) hh]; exact t1
   · unfold World.frozen?; simp [hh]
   · unfold World.frozen?; simp [hh]
theorem below_cells {base g : Nat} {w : World} : ∀ (vs : List Value) {w1 : World} (o : Nat), Below base w w1 → base ≤ g → Below base w (w1.setCells g o vs)
 | [], _, _, h, _ => h
 | v :: r, _, o, h, hg => by
   rw [World.setCells]; exact below_cells r (o + 1) (h.setCell hg v) hg
theorem TR.cleared {w : World} {g k : Nat} {us : List Tk} (h : TR w (some ⟨g, 0, none⟩) k us) (vs : List Value) : TR (w.setCells g (k * 2) vs) (some ⟨g, 0, none⟩) k us := by
 refine ⟨h.len, ?_⟩; have hs := (below_cells (base := 0) vs (k * 2) (Below.refl 0 w) (Nat.zero_le g)).size; rcases h.rd with h0 | ⟨ad, hA, hb, hc⟩
 · exact .inl h0
 · injection hA with hA; subst hA; refine .inr ⟨_, rfl, Nat.lt_of_lt_of_le hb hs, fun j u hu => ?_⟩; have hj : j < (tkC us).length := (List.getElem?_eq_some_iff.1 hu).1; rw [tkC_length, h.len] at hj; rw [← hc j u hu, add_at]; exact World.cell?_setCells_out g vs (k * 2) w ⟨g, j, none⟩ fun _ _ => .inl hj
theorem run_clear_toks (w : World) (ty : TypeId) (b o n c : Nat) (hn : 0 < n) (hc : ∀ j, j < n * 2 → (w.cell? ⟨b, o + j, none⟩).isSome = true) (hf : ∀ j, j < n * 2 → w.frozen? ⟨b, o + j, none⟩ = false) :
 ∃ vs : List Value, vs.length = n * 2 ∧ (Builtin.clear_ #[119] ty #[.slice (some ⟨b, o, none⟩) n c]).run Tryz.prog w = .ok (.tuple #[]) (w.setCells b o vs) := by
 have hv : ∀ w, (zeroValue 142).run Tryz.prog w = .ok (.agg #[.int .i64 0, .string ⟨#[]⟩]) w := fun _ => by kernel_rfl
 have hz : (Value.agg #[.int .i64 0, .string ⟨#[]⟩]).cells = #[.int .i64 0, .string ⟨#[]⟩] := rfl
 have hl : (Builtin.zeroCells (Value.agg #[.int .i64 0, .string ⟨#[]⟩]).cells n).toList.length = n * 2 := by
  rw [hz]; simp [Builtin.zeroCells]
 have h1 : ∀ v ∈ (Builtin.zeroCells (Value.agg #[.int .i64 0, .string ⟨#[]⟩]).cells n).toList, v.oneCell' = true := by
  intro v hv'; rw [hz] at hv'; simp only [Builtin.zeroCells, Array.toList_map, List.mem_map] at hv'; obtain ⟨i, _, rfl⟩ := hv'; have : i % 2 = 0 ∨ i % 2 = 1 := by omega
  rcases this with e | e <;> simp [e, Value.oneCell']
 generalize (Value.agg #[.int .i64 0, .string ⟨#[]⟩]) = z at hv hl h1; refine ⟨_, hl, ?_⟩; have hst := run_storeCells_cells (P := Tryz.prog) b o (Builtin.zeroCells z.cells n).toList 0 w (by rw [hl]; simpa using hc) (by rw [hl]; simpa using hf) h1; simp only [Nat.add_zero] at hst; clear hl h1; obtain ⟨m, rfl⟩ : ∃ m, n = m + 1 := ⟨n - 1, by omega⟩; simp [Builtin.clear_, run_underlying Tryz.underlying119, hv, hst]
theorem firstAt_cases (p : Tok → Bool) (l : List Tok) : (firstAt p l = -1 ∧ l.filter (fun t => !p t) = l) ∨ ∃ k : Nat, firstAt p l = (k : Int) ∧ k < l.length ∧ (l.take (k + 1)).filter (fun t => !p t) = l.take k := by
 unfold firstAt
 cases h : l.findIdx? p with
 | none =>
   rw [List.findIdx?_eq_none_iff] at h; exact .inl ⟨rfl, List.filter_eq_self.2 fun x hx => by rw [h x hx]; rfl⟩
 | some k =>
   rw [List.findIdx?_eq_some_iff_getElem] at h; obtain ⟨hk, h1, h2⟩ := h; refine .inr ⟨k, rfl, hk, ?_⟩; rw [List.take_succ_eq_append_getElem hk, List.filter_append]; have e1 : [l[k]].filter (fun t => !p t) = [] := by simp [h1]
   rw [e1, List.append_nil]; refine List.filter_eq_self.2 fun x hx => ?_; obtain ⟨j, hj, rfl⟩ := List.mem_iff_getElem.1 hx; rw [List.length_take] at hj; rw [List.getElem_take]; have := h2 j (by omega); simpa using this
set_option maxHeartbeats 1000000 in
theorem deleteFunc_ok (g : FuncId) (p : Tok → Bool) (hp : TokPred g p) (eg : ∀ args w, (callFunc g args).run Tryz.prog w = .ok (.enter g args) w) (A : Option Addr) (n c : Nat) (ts : List Tk) (w : World) (base : Nat) (h : OT 142 w base A n c ts) (hbase : base ≤ w.heap.size) (hn : n ≤ 1000000) :
 Calls Tryz.prog 81 #[.slice A n c, .func (.func g) #[] #[]] w fun e w' => ∃ (us : List Tk) (k : Nat), e = .returned (.slice A k c) ∧ TR w' A k us ∧ k ≤ n ∧ Hid (saysT us = (saysT ts).filter fun t => !p t) ∧ Below base w w' := by
 have hlen := hid h.len; have hcap := h.cap; have hI := hid (indexFunc_ok g p hp eg A n c ts w h.tr hn); have hP := hid hp; clear hp; rcases firstAt_cases p (saysT ts) with ⟨hF, hall⟩ | ⟨i0, hF, hi0, hpre⟩
 · rw [hF] at hI; have HA := hid hall.symm; clear hF hall; have HT := hid h; clear h; go_enter Tryz.func81, Tryz.ntmps81; go_wp2_with fail; refine hI.out.mono ?_; rintro e w1 ⟨rfl, k1⟩; go_wp2_with fail; go_ret; exact ⟨ts, n, rfl, HT.out.tr.next k1, Nat.le_refl _, HA, k1.mono hbase⟩
 · rw [hF] at hI; rw [saysT_length] at hi0; have hin : i0 < n := by rw [← hlen.out]; exact hi0
   obtain ⟨gb, rfl, hgb, hrow⟩ := h.rowG (by omega); have hst : Hid (saysT (ts.take i0) = (saysT (ts.take (i0 + 1))).filter fun t => !p t) := hid (by rw [← says_take, ← says_take, hpre]); have hne : ((i0 : Int) == -1) = false := beq_eq_false_iff_ne.2 (by omega); have HR := hid hrow; clear hF hpre h hrow; go_enter Tryz.func81, Tryz.ntmps81; go_wp2_with fail; refine hI.out.mono ?_; rintro e w1 ⟨rfl, k1⟩; go_wp2_with fail
   go_loopw [5, 6] (fun i j wr => ∃ (k m : Nat) (us : List Tk), i = .int .i64 k ∧ j = .int .i64 m ∧ k < m ∧ m ≤ n ∧ us.length = n ∧ RowG wr gb us ∧ Hid (saysT (us.take k) = (saysT (ts.take m)).filter fun t => !p t) ∧ Hid (us.drop m = ts.drop m) ∧ Below base w wr) (fun _ j _ => n - (intOf j).toNat)
   case atStart => exact ⟨i0, i0 + 1, ts, rfl, by go_num, by omega, by omega, hlen.out, HR.out.next k1, hst, hid rfl, k1.mono hbase⟩
   case round =>
    obtain ⟨k, m, us, rfl, rfl, hkm, hm, hul, hr, hx, hd, kw⟩ := hrel; clear hst HR; by_cases hlt : m < n
    · have hml : m < us.length := by omega
      have hmt : m < ts.length := by rw [hlen.out]; exact hlt
      have he : us[m] = ts[m] := by
       have e1 := congrArg (fun l => l[0]?) hd.out; simp only [List.getElem?_drop, Nat.add_zero, List.getElem?_eq_getElem hml, List.getElem?_eq_getElem hmt, Option.some.injEq] at e1; exact e1
      obtain ⟨⟨c0, c1⟩, _, _⟩ := hr.cell m hml; have hC := hid (hP.out us[m])
      have hd2 : Hid (us.drop (m + 1) = ts.drop (m + 1)) := hid (by
       have e1 := congrArg (fun l => l.drop 1) hd.out
       simpa only [List.drop_drop] using e1)
      have htk : (saysT (ts.take (m + 1))).filter (fun t => !p t) = (saysT (ts.take m)).filter (fun t => !p t) ++ (if p us[m].says then [] else [us[m].says]) := by
       rw [List.take_succ_eq_append_getElem hmt, saysT_append, List.filter_append, ← he]; cases hq : p us[m].says <;> simp [saysT, hq]
      cases hq : p us[m].says with
      | true =>
        have hx2 : Hid (saysT (us.take k) = (saysT (ts.take (m + 1))).filter fun t => !p t) := hid (by rw [htk, hq, hx.out]; simp); rw [hq] at hC; have HRR := hid hr; clear hx htk hq he hd hr; generalize us[m].k = x at *; generalize us[m].t = s at *; go_wp2_with fail; refine (hC.out _).mono ?_; rintro e w2 ⟨rfl, k2⟩; go_wp2_with fail; go_roundw
        case rel => exact ⟨k, m + 1, us, rfl, by go_num, by omega, by omega, hul, (HRR.out.next (kp_new _ _)).next k2, hx2, hd2, kw.trans ((kp_trans (kp_new wr (.cells #[.int .i64 x, .string s] 142)) k2).mono (Nat.le_trans hbase kw.size))⟩
        case measure => simp [intOf]; omega
      | false =>
        have hkl : k < us.length := by omega
        have hx2 : Hid (saysT ((us.set k us[m]).take (k + 1)) = (saysT (ts.take (m + 1))).filter fun t => !p t) := hid (by
         rw [htk, hq, ← hx.out, List.take_succ_eq_append_getElem (by rw [List.length_set]; exact hkl), List.getElem_set_self, saysT_append, List.take_set_of_le (Nat.le_refl _)]
         rfl)
        have hd3 : Hid ((us.set k us[m]).drop (m + 1) = ts.drop (m + 1)) := hid (by rw [List.drop_set_of_lt (by omega)]; exact hd2.out); have hul3 : (us.set k us[m]).length = n := by rw [List.length_set]; exact hul
        have hset : ∀ W, RowG W gb us → RowG ((W.setCell ⟨gb, k * 2, none⟩ (.int .i64 us[m].k)).setCell ⟨gb, k * 2 + 1, none⟩ (.string us[m].t)) gb (us.set k us[m]) := fun W hW => hW.set k us[m]; rw [hq] at hC; have HRR := hid hr; have HST := hid hset; clear hx htk hq he hd hr hd2 hset; generalize us.set k us[m] = us3 at *; generalize us[m].k = x at *; generalize us[m].t = s at *; go_wp2_with fail; refine (hC.out _).mono ?_; rintro e w2 ⟨rfl, k2⟩; obtain ⟨d0, d1⟩ := pair_kept k2; have hr2 := (HRR.out.next (kp_new _ _)).next k2; obtain ⟨⟨e0, e1⟩, z0, z1⟩ := hr2.cell k hkl; have HR2 := hid hr2; have kw2 := kw.trans ((kp_trans (kp_new wr (.cells #[.int .i64 x, .string s] 142)) k2).mono (Nat.le_trans hbase kw.size)); clear hr2; go_wp2_with fail; go_roundw
        case rel => exact ⟨k + 1, m + 1, us3, by go_num, by go_num, by omega, by omega, hul3, HST.out _ HR2.out, hx2, hd3, (kw2.setCell hgb _).setCell hgb _⟩
        case measure => simp [intOf]; omega
    · obtain rfl : m = n := by omega
      have hck : ¬ c = k := by omega
      have hcl := hr
      obtain ⟨vs, hvl, hrun⟩ := run_clear_toks wr 0 gb (k * 2) (m - k) (c - k) (by omega) (fun j hj => by
       have hq : (k * 2 + j) / 2 < us.length := by omega
       obtain ⟨⟨q0, q1⟩, _, _⟩ := hr.cell _ hq; rcases Nat.mod_two_eq_zero_or_one j with e | e
       · rw [show (k * 2 + j) / 2 * 2 = k * 2 + j by omega] at q0; rw [q0]; rfl
       · rw [show (k * 2 + j) / 2 * 2 + 1 = k * 2 + j by omega] at q1
         rw [q1]; rfl) (fun j hj => by
       have hq : (k * 2 + j) / 2 < us.length := by omega
       obtain ⟨_, q0, q1⟩ := hr.cell _ hq; rcases Nat.mod_two_eq_zero_or_one j with e | e
       · rw [show (k * 2 + j) / 2 * 2 = k * 2 + j by omega] at q0; exact q0
       · rw [show (k * 2 + j) / 2 * 2 + 1 = k * 2 + j by omega] at q1
         exact q1)
      have htr : TR (wr.setCells gb (k * 2) vs) (some ⟨gb, 0, none⟩) k (us.take k) := (hr.tr.front (by omega)).cleared vs; have hkb : Below base w (wr.setCells gb (k * 2) vs) := below_cells vs _ kw hgb; have hfin : Hid (saysT (us.take k) = (saysT ts).filter fun t => !p t) := hid (by rw [hx.out, List.take_of_length_le (by rw [hlen.out]; exact Nat.le_refl _)]); have HTR := hid htr; have HKB := hid hkb; clear hx hd hr hcl htr hkb; go_wp2_with fail; go_ret; exact ⟨us.take k, k, rfl, HTR.out, by omega, hfin, HKB.out⟩
end

/- Maps of texts to numbers, as they read. -/
section
open Go.RowKit Go.Maps Go.WideMaps
set_option maxRecDepth 100000
theorem sKey : Keyed Tryz.prog 9 := string_keyed Tryz.underlying9
theorem sZero (w : World) : (zeroValue 3).run Tryz.prog w = .ok (.int .i64 0) w := by kernel_rfl
def datM (L : List (List UInt8 × Int)) : DataW Unit := L.foldl (fun D p => D.put (.string p.1) (.lit (.int .i64 p.2))) (.map [])
theorem datM_push (L : List (List UInt8 × Int)) (x : List UInt8) (c : Int) : datM (L ++ [(x, c)]) = (datM L).put (.string x) (.lit (.int .i64 c)) := by simp [datM, List.foldl_append]
theorem datM_isMap (L : List (List UInt8 × Int)) : IsMap (datM L) := by
 unfold datM
 suffices h : ∀ (L : List (List UInt8 × Int)) (D : DataW Unit), IsMap D → IsMap (L.foldl (fun D p => D.put (.string p.1) (.lit (.int .i64 p.2))) D) from h L _ isMap_empty
 intro L
 induction L with
 | nil => exact fun D h => h
 | cons p r ih => exact fun D h => ih _ (h.put _ _)
def MapAt (w : World) (b : Nat) (L : List (List UInt8 × Int)) : Prop := w.ownsMap Tryz.prog 9 (plainElem Tryz.prog 3) b L.length (datM L)
theorem MapAt.keep {w w' : World} {b : Nat} {L : List (List UInt8 × Int)} (h : MapAt w b L) (hk : w'.heap[b]? = w.heap[b]?) : MapAt w' b L := by
 obtain ⟨es, clock, hb, r⟩ := h; exact ⟨es, clock, hk.trans hb, r⟩
theorem MapAt.lt {w : World} {b : Nat} {L : List (List UInt8 × Int)} (h : MapAt w b L) : b < w.heap.size := World.ownsMap.lt h
theorem datM_at (L : List (List UInt8 × Int)) (x : List UInt8) (z : DataW Unit) : (datM L).atKey (.string x) z = ((L.reverse.find? fun p => decide (p.1 = x)).map fun p => (.lit (.int .i64 p.2) : DataW Unit)).getD z := by
 induction h : L.reverse generalizing L with
 | nil =>
   obtain rfl : L = [] := by simpa using h
   rfl
 | cons p r ih =>
   obtain rfl : L = r.reverse ++ [p] := by rw [← List.reverse_reverse L, h]; simp
   obtain ⟨k, v⟩ := p; rw [datM_push, List.find?_cons]; by_cases hk : k = x
   · subst hk; rw [atKey_put_same (datM_isMap _) (by simp [WideAt.IsKeyLit]), decide_eq_true rfl]; rfl
   · rw [atKey_put_other (by simpa using fun e => hk e.symm), decide_eq_false hk]; exact ih _ (by simp)
end

/- The map of the words that begin statements (firstWords of package class): contract. -/
section
open Go.RowKit Go.Maps Go.WideMaps
set_option maxRecDepth 100000
structure Laid (w0 : World) (b : Nat) (L : List (List UInt8 × Int)) (w : World) : Prop where
 map : MapAt w b L
 low : Below w0.heap.size w0 w
 new : w0.heap.size ≤ b
theorem wpList_insert {w0 : World} {b : Nat} {L : List (List UInt8 × Int)} {w : World} (hl : Laid w0 b L w) (hn : L.length < 1000) {ops : Array Oper} {rest : List Oper} {o : Oper} {a : Act} {Q : Exit → Act → World → Prop}
 (hg : o.guard = none) (m x v : Operand) (hop : o.op = Op.insert 116 m x v) (s : ByteArray) (c : Int) (hm : a.eval m = .map (some b)) (hx : a.eval x = .string s) (hv : a.eval v = .int .i64 c) (hs : s.size ≤ maxLen) (hc : (Lit.int .i64 c).wf = true)
 (hK : ∀ w', Laid w0 b (L ++ [(s.data.toList, c)]) w' → wpList Tryz.prog ops Q rest (a.put o.dst undef) w') :
 wpList Tryz.prog ops Q (o :: rest) a w := by
 refine wpList_plain hg fun K' hK' => ?_; obtain ⟨w', hrun, r1, r2⟩ := World.ownsMap.update hl.map sKey Tryz.underlying116 (by unfold maxLen; omega) (keyOf_string_mk Tryz.underlying9 hs) (plainElem_int Tryz.underlying3 hc); unfold Oper.wp; simp [execOp, hop, hm, hx, hv, hrun, Result.andThen]; refine hK' _ _ (hK w' ⟨?_, ?_, hl.new⟩)
 · unfold MapAt; rw [datM_push, List.length_append]; exact r1
 · exact hl.low.grown r2 hl.low.size (fun k hk => by cases hk; exact hl.new)
set_option maxHeartbeats 2000000 in
theorem firstWords_ok (w : World) : Calls Tryz.prog 106 #[] w fun e w' => ∃ b, e = .returned (.map (some b)) ∧ Laid w b famL w' := by
 have hmm := @run_makeMap Tryz.prog; have hl : Laid w w.heap.size [] (w.alloc (.map #[] 0)) := ⟨World.ownsMap_made _ _ _ _, kp_new _ _, Nat.le_refl _⟩; go_enter Tryz.func106, Tryz.ntmps106; go_wp2_with (refine wpList_insert hl (by simp) rfl _ _ _ rfl _ _ rfl rfl rfl (by decide) (by decide) ?_; clear hl; intro w1 hl); go_ret; exact ⟨_, rfl, hl⟩
end

/- sync.Once, one goroutine: the lock and the mark, as the library lays them: contracts. -/
section
open Go.RowKit
set_option maxRecDepth 100000
theorem raceOff (w : World) : (callFunc 187 #[]).run Tryz.prog w = .ok (.value (.tuple #[])) w := run_call_mark0 Tryz.func187 (by kernel_rfl) (by kernel_rfl) (by kernel_rfl) .disable (by kernel_rfl) w
theorem raceOn (w : World) : (callFunc 189 #[]).run Tryz.prog w = .ok (.value (.tuple #[])) w := run_call_mark0 Tryz.func189 (by kernel_rfl) (by kernel_rfl) (by kernel_rfl) .enable (by kernel_rfl) w
theorem raceGot (a : Addr) (w : World) : (callFunc 190 #[.pointer (some a)]).run Tryz.prog w = .ok (.value (.tuple #[])) w := run_call_marked Tryz.func190 (by kernel_rfl) (by kernel_rfl) (by kernel_rfl) .acquire (by kernel_rfl) a w
theorem raceGave (a : Addr) (w : World) : (callFunc 192 #[.pointer (some a)]).run Tryz.prog w = .ok (.value (.tuple #[])) w := run_call_marked Tryz.func192 (by kernel_rfl) (by kernel_rfl) (by kernel_rfl) .releaseMerge (by kernel_rfl) a w
theorem mark_deferred (a : Addr) (x : Value) (u : FrameMode) (w : World) (hc : w.cell? a = some x) (hz : w.frozen? a = false) :
 CallsD Tryz.prog 152 #[.pointer (some a), .bool true] u w fun e u' w' => u' = u ∧ (e = .returned (.tuple #[]) ∧ w' = w.drew.setCell a (.int .u32 1)) := by
 have hc' : w.drew.cell? a = some x := by go_simp
 have hz' : w.drew.frozen? a = false := by go_simp
 have hst := run_call_store (P := Tryz.prog) Tryz.func176 (by kernel_rfl) (by kernel_rfl) (by kernel_rfl) (by kernel_rfl) (k := .u32) (y := 1) hc' hz'
 go_enter_d Tryz.func152, Tryz.ntmps152
 go_wp2
 go_region_calls
 all_goals (go_end0; exact ⟨rfl, rfl⟩)
theorem give_deferred (a : Addr) (u : FrameMode) (w : World) (hc : w.cell? a = some (.int .i32 1)) (hz : w.frozen? a = false) :
 CallsD Tryz.prog 151 #[.pointer (some a)] u w fun e u' w' => u' = u ∧ (e = .returned (.tuple #[]) ∧ w' = w.setCell a (.int .i32 0)) := by
 have hd := raceOff; have he := raceOn; have hr := raceGave; have hadd := run_call_add (P := Tryz.prog) Tryz.func193 (by kernel_rfl) (by kernel_rfl) (by kernel_rfl) .i32 (by kernel_rfl) (y := -1) (s := 0) hc hz (by simp [go_sem]; rfl); have hcv := run_convert_to_unsafe (P := Tryz.prog) (src := 261) (dst := 238) Tryz.underlying261 Tryz.underlying238 (by kernel_rfl) hc
 go_enter_d Tryz.func151, Tryz.ntmps151
 go_wp2
 go_end0
 go_wp2
 go_end0; exact ⟨rfl, rfl⟩
theorem take_free (a : Addr) (w : World) (hc : w.cell? a = some (.int .i32 0)) (hz : w.frozen? a = false) :
 Calls Tryz.prog 150 #[.pointer (some a)] w fun e w' => e = .returned (.tuple #[]) ∧ w' = w.setCell a (.int .i32 1) := by
 have hd := raceOff; have he := raceOn; have ha := raceGot; have hcas := run_call_cas_hit (P := Tryz.prog) Tryz.func188 (by kernel_rfl) (by kernel_rfl) (by kernel_rfl) .i32 (by kernel_rfl) (y := 1) hc hz; have hc' : (w.setCell a (.int .i32 1)).cell? a = some (.int .i32 1) := World.cell?_setCell_same w a _ hc; have hcv := run_convert_to_unsafe (P := Tryz.prog) (src := 261) (dst := 238) Tryz.underlying261 Tryz.underlying238 (by kernel_rfl) hc'; go_enter Tryz.func150, Tryz.ntmps150
 go_wp2
 first | go_end0 | (simp only [Exit.inBlock, Exit.then]; refine bodyPost_ret (results_none rfl _ _ _) rfl ?_) | refine bodyPost_ret (results_none rfl _ _ _) rfl ?_
 go_wp2
 go_end0; exact ⟨rfl, rfl⟩
theorem asked (a : Addr) (d : Int) (w : World) (h : w.cell? a = some (.int .u32 d)) : Calls Tryz.prog 123 #[.pointer (some a)] w fun e w' => e = .returned (.bool (d != 0)) ∧ w = w' := by
 have hl := run_call_load (P := Tryz.prog) Tryz.func149 (by kernel_rfl) (by kernel_rfl) (by kernel_rfl) .u32 (by kernel_rfl) h; go_enter Tryz.func123, Tryz.ntmps123
 go_wp2
 go_ret; exact ⟨rfl, rfl⟩
end

/- A Classer in memory; its words, made once: contracts. -/
section
open Go.RowKit
set_option maxRecDepth 100000
def Cls (w : World) (b : Nat) (c0 c1 c2 c3 : Value) : Prop := w.heap[b]? = some (.cells #[c0, c1, c2, c3] 118 (0, 0))
section
variable {w : World} {b : Nat} {c0 c1 c2 c3 : Value}
theorem Cls.lt (h : Cls w b c0 c1 c2 c3) : b < w.heap.size := (Array.getElem?_eq_some_iff.1 h).1
theorem Cls.keep {w' : World} (h : Cls w b c0 c1 c2 c3) (hk : w'.heap[b]? = w.heap[b]?) : Cls w' b c0 c1 c2 c3 := hk.trans h
theorem Cls.next {w' : World} (h : Cls w b c0 c1 c2 c3) (hb : Below w.heap.size w w') : Cls w' b c0 c1 c2 c3 := h.keep (hb.block b h.lt)
theorem Cls.cells (h : Cls w b c0 c1 c2 c3) : w.cell? ⟨b, 0, none⟩ = some c0 ∧ w.cell? ⟨b, 1, none⟩ = some c1 ∧ w.cell? ⟨b, 2, none⟩ = some c2 ∧ w.cell? ⟨b, 3, none⟩ = some c3 := by
 refine ⟨?_, ?_, ?_, ?_⟩
 · rw [cell_of_row _ _ 0 _ _ (0, 0) h]; rfl
 · rw [cell_of_row _ _ 1 _ _ (0, 0) h]; rfl
 · rw [cell_of_row _ _ 2 _ _ (0, 0) h]; rfl
 · rw [cell_of_row _ _ 3 _ _ (0, 0) h]; rfl
theorem Cls.thaw (h : Cls w b c0 c1 c2 c3) (k : Nat) : w.frozen? ⟨b, k, none⟩ = false := by
 unfold Cls at h; unfold World.frozen?; simp [h]
theorem Cls.set0 (h : Cls w b c0 c1 c2 c3) (u : Value) : Cls (w.setCell ⟨b, 0, none⟩ u) b u c1 c2 c3 := by unfold Cls at *; simp [World.setCell, Array.getElem?_modify, h]
theorem Cls.set1 (h : Cls w b c0 c1 c2 c3) (u : Value) : Cls (w.setCell ⟨b, 1, none⟩ u) b c0 u c2 c3 := by unfold Cls at *; simp [World.setCell, Array.getElem?_modify, h]
theorem Cls.set3 (h : Cls w b c0 c1 c2 c3) (u : Value) : Cls (w.setCell ⟨b, 3, none⟩ u) b c0 c1 c2 u := by unfold Cls at *; simp [World.setCell, Array.getElem?_modify, h]
end
set_option maxHeartbeats 1000000 in
theorem closure_ok (b : Nat) (pl : Addr) (c0 c1 c2 c3 : Value) (w : World) (h : Cls w b c0 c1 c2 c3) (hp : w.cell? pl = some (.pointer (some ⟨b, 0, none⟩))) (hpl : pl.block < w.heap.size) :
 Calls Tryz.prog 105 #[.pointer (some pl)] w fun e w' => e = .returned (.tuple #[]) ∧ ∃ bm w1, Laid w.drew bm famL w1 ∧ w' = w1.setCell ⟨b, 3, none⟩ (.map (some bm)) := by
 have hc := h.cells.2.2.2; have hz := h.thaw 3; have hp' : w.drew.cell? pl = some (.pointer (some ⟨b, 0, none⟩)) := by go_simp
 have hc' : w.drew.cell? ⟨b, 3, none⟩ = some c3 := by go_simp
 have hz' : w.drew.frozen? ⟨b, 3, none⟩ = false := by go_simp
 have HC := hid h; have HPL := hid hpl; clear hpl h; go_enter Tryz.func105, Tryz.ntmps105
 go_wp2
 go_region_with (go_at_call 106; refine (firstWords_ok _).mono ?_; rintro e w1 ⟨bm, rfl, hl⟩; have p1 := (hl.low.cell HPL.out).trans hp'; have q1 := (HC.out.keep (hl.low.block b HC.out.lt)).cells.2.2.2; have z1 := (HC.out.keep (hl.low.block b HC.out.lt)).thaw 3; have HL := hid hl; clear hl)
 all_goals
  go_wp2
  go_end0; exact ⟨rfl, _, _, HL.out, rfl⟩
structure Made (w : World) (b bm : Nat) (x : Value) (w' : World) : Prop where
 cls : Cls w' b (.int .u32 1) (.int .i32 0) x (.map (some bm))
 map : MapAt w' bm famL
 ne : bm ≠ b
 bel : Bel b w w'
end

/- A Classer asked for its words: Do, families, New, Known: contracts. -/
section
open Go.RowKit Go.Maps
set_option maxRecDepth 100000
theorem MapAt.next {w w' : World} {b : Nat} {L : List (List UInt8 × Int)} (h : MapAt w b L) (hb : Below w.heap.size w w') : MapAt w' b L := h.keep (hb.block b h.lt)
end

/- classOf, explained of package class: contracts. -/
section
open Go.RowKit Go.Maps
set_option maxRecDepth 100000
theorem Rd.bel {w w' : World} {b : Nat} {A : Option Addr} {xs : List Value} (h : Rd w w.heap.size A xs) (hb : Bel b w w') (hne : ∀ ad, A = some ad → ad.block ≠ b) : Rd w' w'.heap.size A xs := by
 rcases h with h | ⟨ad, e, hlt, hc⟩
 · exact .inl h
 · exact .inr ⟨ad, e, Nat.lt_of_lt_of_le hlt hb.size, fun j u hu => (World.cell?_of_block (hb.block _ (by rw [add_block]; exact hlt) (by rw [add_block]; exact hne ad e))).trans (hc j u hu)⟩
structure TQ (b : Nat) (w : World) (A : Option Addr) (n c : Nat) (ts : List Tk) : Prop where
 tr : TR w A n ts
 off : ∀ ad, A = some ad → ad.block ≠ b
 cap : n ≤ c
 few : n ≤ 1000000
 short : ∀ t ∈ ts, t.t.size ≤ 1000000
section
variable {b : Nat} {w w' : World} {A : Option Addr} {n c : Nat} {ts : List Tk}
theorem TQ.bel (h : TQ b w A n c ts) (hb : Bel b w w') : TQ b w' A n c ts := ⟨⟨h.tr.len, h.tr.rd.bel hb h.off⟩, h.off, h.cap, h.few, h.short⟩
theorem TQ.next (h : TQ b w A n c ts) (hb : Below w.heap.size w w') : TQ b w' A n c ts := h.bel (Bel.of b hb)
end
theorem TQ.rest {b : Nat} {w : World} {ad : Addr} {n c : Nat} {t : Tk} {r : List Tk} (h : TQ b w (some ad) n c (t :: r)) : TQ b w (if c = 1 then some ad else some ⟨ad.block, ad.off + 2, none⟩) (n - 1) (c - 1) r := by
 have hn : r.length + 1 = n := by have := h.tr.len; simpa using this
 have hc := h.cap; have hf := h.few; refine ⟨⟨by omega, ?_⟩, fun ad' e => ?_, by omega, by omega, fun t ht => h.short t (List.mem_cons_of_mem _ ht)⟩
 · rcases h.tr.rd with h0 | ⟨ad', e, hb, hcc⟩
   · have := congrArg List.length h0; rw [tkC_length] at this; simp at this
   · injection e with e; subst e; by_cases h1 : c = 1
     · obtain rfl : r = [] := List.eq_nil_of_length_eq_zero (by omega); exact .inl rfl
     · rw [if_neg h1]; refine .inr ⟨_, rfl, hb, fun j u hu => ?_⟩
       have e1 : (⟨ad.block, ad.off + 2, none⟩ : Addr).add j = ad.add (2 + j) := by
        rw [← add_add]; congr 1
       rw [e1]; refine hcc _ u ?_; have e2 : tkC (t :: r) = t.cells ++ tkC r := by simp [tkC]
       rw [e2, List.getElem?_append_right (by simp [Tk.cells])]; simpa [Tk.cells] using hu
 · by_cases h1 : c = 1
   · rw [if_pos h1] at e; exact h.off ad' e
   · rw [if_neg h1] at e; injection e with e; subst e; exact h.off ad rfl
theorem fam_of {x : List UInt8} {c : Int} (h : (datM famL).atKey (.string x) (.lit (.int .i64 0)) = .lit (.int .i64 c)) : c = famF x := by
 rw [datM_at] at h; unfold famF
 cases hf : famL.reverse.find? fun p => decide (p.1 = x) with
 | none => rw [hf] at h; simp at h; simp [h]
 | some p => rw [hf] at h; simp at h; simp [h]
theorem stopPred : TokPred 73 stopF := fun t w => isStop_ok t w
theorem hintPred : TokPred 82 isHintF := fun t w => isHint_ok t w
end

/- classOf, explained, withoutHints of package class, at every row of tokens: contracts. -/
section
open Go.RowKit Go.Maps
set_option maxRecDepth 100000
theorem withoutHints_ok (A : Option Addr) (n c : Nat) (ts : List Tk) (w : World) (base : Nat) (h : OT 142 w base A n c ts) (hbase : base ≤ w.heap.size) (hn : n ≤ 1000000) :
 Calls Tryz.prog 50 #[.slice A n c] w fun e w' => ∃ (us : List Tk) (k : Nat), e = .returned (.slice A k c) ∧ TR w' A k us ∧ k ≤ n ∧ Hid (saysT us = (saysT ts).filter fun t => !isHintF t) ∧ Below base w w' := by
 have hD := hid (deleteFunc_ok _ _ hintPred (fun _ _ => rfl) A n c ts w base h hbase hn); clear h; go_enter Tryz.func50, Tryz.ntmps50; go_wp2_with fail; refine hD.out.mono ?_; rintro e w1 ⟨us, k, rfl, hr, hk, hs, kb⟩; go_wp2_with fail; go_ret; exact ⟨us, k, rfl, hr, hk, hs, kb⟩
end

/- Class, Asks of package class: contracts. -/
section
open Go.RowKit Go.Maps
set_option maxRecDepth 100000
theorem saysT_short {ts : List Tk} {m : Nat} (h : ∀ t ∈ saysT ts, t.2.length ≤ m) : ∀ t ∈ ts, t.t.size ≤ m := fun t ht => by
 have := h t.says (List.mem_map.2 ⟨t, ht, rfl⟩); simpa [Tk.says, text_len] using this
theorem OT.fresh {e : TypeId} {w : World} {base : Nat} {A : Option Addr} {n c : Nat} {ts : List Tk} (h : OT e w base A n c ts) : Fresh base A := own_fresh h.own
end

/- A Classer whose map of words lies in blocks of which M holds: contracts, as of any Classer. -/
section
open Go.RowKit Go.Maps
set_option maxRecDepth 100000
theorem doSlow_m (b : Nat) (pl : Addr) (x c3 : Value) (w : World) (hpb : ¬ b = pl.block) (h : Cls w b (.int .u32 0) (.int .i32 0) x c3) (hp : w.cell? pl = some (.pointer (some ⟨b, 0, none⟩))) (hpl : pl.block < w.heap.size) :
 Calls Tryz.prog 124 #[.pointer (some ⟨b, 0, none⟩), .func (.func 105) #[] #[.pointer (some pl)]] w fun e w' => e = .returned (.tuple #[]) ∧ ∃ bm, Made w b bm x w' ∧ w.heap.size ≤ bm := by
 have h1 := h.set1 (.int .i32 1); have hp1 : (w.setCell ⟨b, 1, none⟩ (.int .i32 1)).cell? pl = some (.pointer (some ⟨b, 0, none⟩)) := (World.cell?_setCell_other _ ⟨b, 1, none⟩ pl _ (fun e => hpb (by rw [← e]))).trans hp; have hpl1 : pl.block < (w.setCell ⟨b, 1, none⟩ (.int .i32 1)).heap.size := by simpa [World.setCell] using hpl
 have H := hid h; have H1 := hid h1; have HP := hid hp1; have HPL := hid hpl1; have hnot : ∀ (x : Bool) (w : World), (Op.unary .not (.bool x)).run Tryz.prog w = .ok (.bool (!x)) w := fun _ _ => rfl; clear h h1 hp hp1 hpl hpl1
 go_enter_defers Tryz.func124, Tryz.ntmps124
 go_wp2_with (go_at_call 150; refine (take_free ⟨b, 1, none⟩ _ H.out.cells.2.1 (H.out.thaw 1)).mono ?_; rintro e w' ⟨rfl, rfl⟩); refine (asked ⟨b, 0, none⟩ 0 _ H1.out.cells.1).mono ?_; rintro e w2 ⟨rfl, rfl⟩; go_wp2_with (go_at_call 105; refine (closure_ok b pl _ _ x c3 _ H1.out HP.out HPL.out).mono ?_; rintro e w3 ⟨rfl, bm, w4, hl, rfl⟩); have hk := hl.low.block b H1.out.lt; have g4 := H1.out.keep hk; have g5 := g4.set3 (.map (some bm)); refine leaves_cons (f := 152) (args := #[.pointer (some ⟨b, 0, none⟩), .bool true]) (by simp) (by simp [go_sem]) ?_; refine (mark_deferred ⟨b, 0, none⟩ (.int .u32 0) .returning _ g5.cells.1 (g5.thaw 0)).mono ?_; rintro e u' w'' ⟨rfl, rfl, rfl⟩; have g6 : Cls ((w4.setCell ⟨b, 3, none⟩ (.map (some bm))).drew.setCell ⟨b, 0, none⟩ (.int .u32 1)) b (.int .u32 1) (.int .i32 1) x (.map (some bm)) := Cls.set0 (w := (w4.setCell ⟨b, 3, none⟩ (.map (some bm))).drew) g5 _; refine leaves_cons (f := 151) (args := #[.pointer (some ⟨b, 1, none⟩)]) (by simp [settle]) (by simp [go_sem]) ?_; refine (give_deferred ⟨b, 1, none⟩ _ _ g6.cells.2.1 (g6.thaw 1)).mono ?_; rintro e u' w'' ⟨rfl, rfl, rfl⟩
 have hbm : bm ≠ b := by
  have h3 := hl.new; have h4 := H1.out.lt; have h5 : (w.setCell ⟨b, 1, none⟩ (.int .i32 1)).drew.heap.size = (w.setCell ⟨b, 1, none⟩ (.int .i32 1)).heap.size := rfl; omega
 have hm : MapAt ((((w4.setCell ⟨b, 3, none⟩ (.map (some bm))).drew.setCell ⟨b, 0, none⟩ (.int .u32 1))).setCell ⟨b, 1, none⟩ (.int .i32 0)) bm famL := by
  refine hl.map.keep ?_; rw [Below.heap_setCell _ _ _ _ hbm, Below.heap_setCell _ _ _ _ hbm]; exact Below.heap_setCell _ _ _ _ hbm
 have hbel : Bel b w ((((w4.setCell ⟨b, 3, none⟩ (.map (some bm))).drew.setCell ⟨b, 0, none⟩ (.int .u32 1))).setCell ⟨b, 1, none⟩ (.int .i32 0)) := by
  have e1 : Bel b w (w.setCell ⟨b, 1, none⟩ (.int .i32 1)) := Bel.setCell (Bel.of b (Below.refl _ w)) _ rfl _; have e2 : Bel b (w.setCell ⟨b, 1, none⟩ (.int .i32 1)) w4 := Bel.ofDrew hl.low; have e3 := (e1.trans e2).setCell ⟨b, 3, none⟩ rfl (.map (some bm)); exact Bel.setCell (Bel.setCell e3.drew ⟨b, 0, none⟩ rfl _) ⟨b, 1, none⟩ rfl _
 have hfin : Made w b bm x ((((w4.setCell ⟨b, 3, none⟩ (.map (some bm))).drew.setCell ⟨b, 0, none⟩ (.int .u32 1))).setCell ⟨b, 1, none⟩ (.int .i32 0)) := ⟨g6.set1 _, hm, hbm, hbel⟩
 have hnew : w.heap.size ≤ bm := by
  have h3 := hl.new; have h5 : (w.setCell ⟨b, 1, none⟩ (.int .i32 1)).drew.heap.size = w.heap.size := by simp [World.setCell, World.drew]
  omega
 have HF := hid (And.intro hfin hnew); clear hfin hnew hm hbel g6 g5 g4 hk hl; simp [Leaves, settle, results, Tryz.results124]; exact ⟨bm, HF.out⟩
def CLm (M : Nat → Prop) (w : World) (b : Nat) : Prop := (∀ k, w.heap.size ≤ k → M k) ∧ ∃ x, Cls w b (.int .u32 0) (.int .i32 0) x (.map none) ∨ ∃ bm, Cls w b (.int .u32 1) (.int .i32 0) x (.map (some bm)) ∧ MapAt w bm famL ∧ bm ≠ b ∧ M bm
section
variable {M : Nat → Prop}
theorem CLm.lt {w : World} {b : Nat} (h : CLm M w b) : b < w.heap.size := by
 obtain ⟨_, x, h | ⟨bm, h, _⟩⟩ := h
 · exact h.lt
 · exact h.lt
theorem CLm.next {w w' : World} {b : Nat} (h : CLm M w b) (hb : Below w.heap.size w w') : CLm M w' b := by
 obtain ⟨hM, x, h | ⟨bm, h, hm, hne⟩⟩ := h
 · exact ⟨fun k hk => hM k (Nat.le_trans hb.size hk), x, .inl (h.next hb)⟩
 · exact ⟨fun k hk => hM k (Nat.le_trans hb.size hk), x, .inr ⟨bm, h.next hb, hm.next hb, hne⟩⟩
theorem do_m (b : Nat) (pl : Addr) (w : World) (hpb : ¬ b = pl.block) (h : CLm M w b) (hp : w.cell? pl = some (.pointer (some ⟨b, 0, none⟩))) (hpl : pl.block < w.heap.size) :
 Calls Tryz.prog 104 #[.pointer (some ⟨b, 0, none⟩), .func (.func 105) #[] #[.pointer (some pl)]] w fun e w' => e = .returned (.tuple #[]) ∧ ∃ bm x, Made w b bm x w' ∧ M bm := by
 have hnot : ∀ (x : Bool) (w : World), (Op.unary .not (.bool x)).run Tryz.prog w = .ok (.bool (!x)) w := fun _ _ => rfl; obtain ⟨hM, x, h | ⟨bm, h, hm, hne, hmb⟩⟩ := h
 · have hA := hid (asked ⟨b, 0, none⟩ 0 w h.cells.1); have hS := hid (doSlow_m b pl x _ w hpb h hp hpl); have HM0 := hid hM; clear h hp hM; go_enter Tryz.func104, Tryz.ntmps104; go_wp2_with fail; refine hA.out.mono ?_; rintro e w2 ⟨rfl, rfl⟩; go_wp2_with fail; refine hS.out.mono ?_; rintro e w3 ⟨rfl, bm, hm, hnew⟩; have HM := hid (And.intro hm (HM0.out bm hnew)); clear hm hnew; go_wp2_with fail; go_end0; exact ⟨rfl, bm, x, HM.out⟩
 · have hA := hid (asked ⟨b, 0, none⟩ 1 w h.cells.1); have hM1 : Made w b bm x w := ⟨h, hm, hne, Bel.of b (Below.refl _ _)⟩; have HM := hid (And.intro hM1 hmb); clear h hp hm hM1 hM hmb; go_enter Tryz.func104, Tryz.ntmps104; go_wp2_with fail; refine hA.out.mono ?_; rintro e w2 ⟨rfl, rfl⟩; go_wp2_with fail; go_end0; exact ⟨rfl, bm, x, HM.out⟩
theorem families_m (b : Nat) (w : World) (h : CLm M w b) :
 Calls Tryz.prog 74 #[.pointer (some ⟨b, 0, none⟩)] w fun e w' => ∃ bm, e = .returned (.map (some bm)) ∧ MapAt w' bm famL ∧ bm ≠ b ∧ CLm M w' b ∧ Bel b w w' := by
 have hmf : ∀ (fn : Fn) (first cap : Array Value) (w : World), (Instr.makeFunc fn first cap).run Tryz.prog w = .ok (.func fn first cap) w := fun _ _ _ _ => rfl; have hlt := h.lt; have hM := h.1; have kw := kp_new w (.cells #[.pointer (some ⟨b, 0, none⟩)] 65); have p0 : (w.alloc (.cells #[.pointer (some ⟨b, 0, none⟩)] 65)).cell? ⟨w.heap.size, 0, none⟩ = some (.pointer (some ⟨b, 0, none⟩)) := by simp
 have hD := hid (do_m b ⟨w.heap.size, 0, none⟩ _ (by simp; omega) (h.next kw) p0 (by simp)); have hblk : (w.alloc (.cells #[.pointer (some ⟨b, 0, none⟩)] 65)).heap[w.heap.size]? = some (.cells #[.pointer (some ⟨b, 0, none⟩)] 65 (0, 0)) := heap_alloc_new w _; have HB := hid hblk; have HLT := hid hlt; have HM0 := hid hM; clear hblk hlt h p0 hM; go_enter Tryz.func74, Tryz.ntmps74; go_wp2_with fail; refine hD.out.mono ?_; rintro e w1 ⟨rfl, bm, x, hm, hmb⟩
 have q0 : w1.cell? ⟨w.heap.size, 0, none⟩ = some (.pointer (some ⟨b, 0, none⟩)) := by
  rw [cell_of_row _ _ 0 _ _ (0, 0) ((hm.bel.block w.heap.size (by simp) (by have := HLT.out; omega)).trans HB.out)]; rfl
 have q3 := hm.cls.cells.2.2.2; have HM := hid (And.intro hm hmb); clear hm hmb; go_wp2_with fail; go_ret; exact ⟨bm, rfl, HM.out.1.map, HM.out.1.ne, ⟨fun k hk => HM0.out k (by have h1 := HM.out.1.bel.size; rw [World.size_alloc] at h1; omega), x, .inr ⟨bm, HM.out.1.cls, HM.out.1.map, HM.out.1.ne, HM.out.2⟩⟩, (Bel.of b kw).trans HM.out.1.bel⟩
end
section
variable {M : Nat → Prop}
theorem families_word_m (b : Nat) (ad : Addr) (s : ByteArray) (v : Int) (w : World) (h : CLm M w b) (hc : w.cell? ⟨ad.block, ad.off + 1, none⟩ = some (.string s)) (hlt : ad.block < w.heap.size) (hne : ad.block ≠ b) (hs : s.size ≤ 1000000) (hv : famF s.data.toList = v) :
 Calls Tryz.prog 74 #[.pointer (some ⟨b, 0, none⟩)] w fun e w' => ∃ bm, e = .returned (.map (some bm)) ∧ w'.cell? ⟨ad.block, ad.off + 1, none⟩ = some (.string s) ∧
  (Instr.lookup 116 (.map (some bm)) (.string s) false).run Tryz.prog w' = .ok (.int .i64 v) w' ∧ Hid (CLm M w' b ∧ Bel b w w') := by
 refine (families_m b w h).mono ?_; rintro e w' ⟨bm, rfl, hm, _, hc', hb'⟩; obtain ⟨cc, hrun, hat, _⟩ := World.ownsMap.lookup_int hm sKey Tryz.underlying116 Tryz.underlying3 (sZero _) (Go.WideMaps.keyOf_string_mk Tryz.underlying9 (s := s) (by unfold maxLen; omega)); obtain rfl : cc = v := (fam_of hat).trans hv; have e : w'.cell? ⟨ad.block, ad.off + 1, none⟩ = w.cell? ⟨ad.block, ad.off + 1, none⟩ := World.cell?_of_block (hb'.block ad.block hlt hne); exact ⟨bm, rfl, e.trans hc, hrun, hid ⟨hc', hb'⟩⟩
def ExplTom (M : Nat → Prop) (b : Nat) (r : List Tk) : Prop := ∀ (A : Option Addr) (n c : Nat) (w : World), TQ b w A n c r → CLm M w b →
 Calls Tryz.prog 75 #[.pointer (some ⟨b, 0, none⟩), .slice A n c] w fun e w' => e = .returned (.int .i64 (exF (saysT r) (classF ((saysT r).drop 1)))) ∧ CLm M w' b ∧ Bel b w w'
theorem classOf_word_m (b : Nat) (A : Option Addr) (n c : Nat) (t : Tk) (r : List Tk) (w : World) (hq : TQ b w A n c (t :: r)) (hc : CLm M w b) (h1 : t.k = 1) (hs : (saysT (t :: r)).any stopF = false) (hx : ExplTom M b r) :
 Calls Tryz.prog 48 #[.pointer (some ⟨b, 0, none⟩), .slice A n c] w fun e w' => e = .returned (.int .i64 (classF (saysT (t :: r)))) ∧ CLm M w' b ∧ Bel b w w' := by
 have hF := classF_word (t := t.says) (r := saysT r) h1 hs; have hF : classF (saysT (t :: r)) = famB (famF t.t.data.toList) (saysT r) (exF (saysT r) (classF ((saysT r).drop 1))) := hF; rw [hF]; clear hF; have hcap := hq.cap; have HN : Hid (n = r.length + 1) := hid (by have := hq.tr.len; simpa using this.symm); have hn0 : 0 < n := by have := HN.out; omega
 have hnz : ((n : Int) == 0) = false := by simp; omega
 have hC := hid (containsFunc_ok _ _ stopPred (fun _ _ => rfl) A n c (t :: r) w hq.tr hq.few); rw [hs] at hC; clear hs; have HS := hid (hq.short t (by simp)); obtain ⟨ad, rfl, hlt, hcc⟩ := hq.tr.head; obtain ⟨c0, c1⟩ := hcc _ (Below.refl _ _); have hof := hq.off ad rfl; have HR := hid hq.rest; obtain ⟨k, s⟩ := t; simp only at h1 c0 c1 HS; subst h1; have HC1 := hid c1; have HOF := hid hof; have HLT := hid hlt; have HCL := hid hc; clear hcc hq hc hof hlt; obtain ⟨v, hv⟩ : ∃ v, famF s.data.toList = v := ⟨_, rfl⟩; rw [hv]; obtain ⟨R, hRR⟩ : ∃ R, R = famB v (saysT r) (exF (saysT r) (classF ((saysT r).drop 1))) := ⟨_, rfl⟩; rw [← hRR]; have HRR := hid hRR; have HV := hid hv; clear hv hRR; go_enter Tryz.func48, Tryz.ntmps48; go_wp2_with fail; refine hC.out.mono ?_; rintro e w1 ⟨rfl, k1⟩
 go_upto_region 4 with fail
 generalize (if c = 1 then some ad else some (⟨ad.block, ad.off + 2, none⟩ : Addr)) = A1 at *; have kd : Below w1.heap.size w1 w1.drew := kp_drewN w1 1; have HCD := hid ((HCL.out.next k1).next kd); have d1 : w1.cell? ⟨ad.block, ad.off + 1, none⟩ = some (.string s) := (k1.cell (p := ⟨ad.block, ad.off + 1, none⟩) HLT.out).trans HC1.out; have d1' : w1.drew.cell? ⟨ad.block, ad.off + 1, none⟩ = some (.string s) := d1
 go_cut [28] from 22 (fun s28 wx => s28 = .int .i64 v ∧ CLm M wx b ∧ Bel b w wx)
 case first =>
  go_region_with (go_at_call 74; refine (families_word_m b ad s v _ HCD.out d1' (Nat.lt_of_lt_of_le HLT.out k1.size) HOF.out HS.out HV.out).mono ?_; rintro e w' ⟨bm, rfl, d2, hrun, HC'⟩)
  all_goals (go_wp2_with fail; go_meet; exact ⟨rfl, HC'.out.1, (Bel.of b k1).trans ((Bel.of b kd).trans HC'.out.2)⟩)
 case rest =>
 obtain ⟨rfl, hcl, hbl⟩ := hcut; have hR := HR.out.bel hbl; clear hC HS HC1 HCL HCD d1 d1' c0 c1; by_cases h1 : v = 1
 · subst h1; have HG : Hid (R = 1) := hid HRR.out; go_wp2_with fail; go_ret; exact ⟨by rw [HG.out]; rfl, hcl, hbl⟩
 by_cases h2 : v = 2
 · subst h2; have hX := hid (hx A1 (n - 1) (c - 1) wc hR hcl); have HG : Hid (R = exF (saysT r) (classF ((saysT r).drop 1))) := hid HRR.out; generalize exF (saysT r) (classF ((saysT r).drop 1)) = x at *; go_wp2_with fail; refine hX.out.mono ?_; rintro e w2 ⟨rfl, hc2, hb2⟩; go_wp2_with fail; go_ret; exact ⟨by rw [HG.out]; rfl, hc2, hbl.trans hb2⟩
 by_cases h3 : v = 3
 · subst h3; have HG : Hid (R = 2) := hid HRR.out; go_wp2_with fail; go_ret; exact ⟨by rw [HG.out]; rfl, hcl, hbl⟩
 by_cases h4 : v = 4
 · subst h4; have hX := hid (selected_ok A1 (n - 1) (c - 1) r true wc hR.tr hR.few); have HG : Hid (R = selF (saysT r) true) := hid HRR.out; generalize selF (saysT r) true = x at *; go_wp2_with fail; refine hX.out.mono ?_; rintro e w2 ⟨rfl, k2⟩; go_wp2_with fail; go_ret; exact ⟨by rw [HG.out]; rfl, hcl.next k2, hbl.trans (Bel.of b k2)⟩
 by_cases h5 : v = 5
 · subst h5; have kb := kp_new wc (.cells #[.string ⟨#[83, 69, 76, 69, 67, 84]⟩] 9); have hS := SR.new wc 9 [⟨#[83, 69, 76, 69, 67, 84]⟩]; have hB := hid (hasWord_ok A1 (n - 1) (c - 1) r _ 1 1 _ _ (hR.tr.next kb) hS hR.few (by decide)); have hE : txs [⟨#[83, 69, 76, 69, 67, 84]⟩] = [wSELECT] := rfl; rw [hE] at hB; have HG : Hid (R = selF (saysT r) (hasF (saysT r) [wSELECT])) := hid HRR.out; clear hE hS; generalize hasF (saysT r) [wSELECT] = x at *; go_wp2_with fail; refine hB.out.mono ?_; rintro e w2 ⟨rfl, k2⟩; have k3 := kp_trans kb k2; have hX := hid (selected_ok A1 (n - 1) (c - 1) r x w2 (hR.tr.next k3) hR.few); clear hB; go_wp2_with fail; refine hX.out.mono ?_; rintro e w3 ⟨rfl, k4⟩; go_wp2_with fail; go_ret; exact ⟨by rw [HG.out]; rfl, hcl.next (kp_trans k3 k4), hbl.trans (Bel.of b (kp_trans k3 k4))⟩
 by_cases h6 : v = 6
 · subst h6; have kb := kp_new wc (.cells #[.string ⟨#[87, 79, 82, 75]⟩, .string ⟨#[84, 82, 65, 78, 83, 65, 67, 84, 73, 79, 78]⟩] 9); have hS := SR.new wc 9 [⟨#[87, 79, 82, 75]⟩, ⟨#[84, 82, 65, 78, 83, 65, 67, 84, 73, 79, 78]⟩]; have hB := hid (isBare_ok A1 (n - 1) (c - 1) r _ 2 2 _ _ (hR.tr.next kb) hS (by decide) hR.few); have hE : txs [⟨#[87, 79, 82, 75]⟩, ⟨#[84, 82, 65, 78, 83, 65, 67, 84, 73, 79, 78]⟩] = [wWORK, wTRANSACTION] := rfl; rw [hE] at hB; have HG : Hid (R = ifF 3 (bareF (saysT r) [wWORK, wTRANSACTION])) := hid HRR.out; clear hE hS; generalize bareF (saysT r) [wWORK, wTRANSACTION] = x at *; go_wp2_with fail; refine hB.out.mono ?_; rintro e w2 ⟨rfl, k2⟩; have k3 := kp_trans kb k2; clear hB; go_wp2_with fail; refine (classIf_ok 3 (x) w2).mono ?_; rintro e w3 ⟨rfl, rfl⟩; go_wp2_with fail; go_ret; exact ⟨by rw [HG.out]; rfl, hcl.next k3, hbl.trans (Bel.of b k3)⟩
 by_cases h7 : v = 7
 · subst h7; have kb := kp_new wc (.cells #[.string ⟨#[84, 82, 65, 78, 83, 65, 67, 84, 73, 79, 78]⟩] 9); have hS := SR.new wc 9 [⟨#[84, 82, 65, 78, 83, 65, 67, 84, 73, 79, 78]⟩]; have hB := hid (beginsWith_ok A1 (n - 1) (c - 1) r _ 1 1 _ _ (hR.tr.next kb) hS (by decide)); have hE : txs [⟨#[84, 82, 65, 78, 83, 65, 67, 84, 73, 79, 78]⟩] = [wTRANSACTION] := rfl; rw [hE] at hB; have HG : Hid (R = ifF 3 (headF (saysT r) [wTRANSACTION])) := hid HRR.out; clear hE hS; generalize headF (saysT r) [wTRANSACTION] = x at *; go_wp2_with fail; refine hB.out.mono ?_; rintro e w2 ⟨rfl, k2⟩; have k3 := kp_trans kb k2; clear hB; go_wp2_with fail; refine (classIf_ok 3 (x) w2).mono ?_; rintro e w3 ⟨rfl, rfl⟩; go_wp2_with fail; go_ret; exact ⟨by rw [HG.out]; rfl, hcl.next k3, hbl.trans (Bel.of b k3)⟩
 by_cases h8 : v = 8
 · subst h8; have kb := kp_new wc (.cells #[.string ⟨#[87, 79, 82, 75]⟩] 9); have hS := SR.new wc 9 [⟨#[87, 79, 82, 75]⟩]; have hB := hid (isBare_ok A1 (n - 1) (c - 1) r _ 1 1 _ _ (hR.tr.next kb) hS (by decide) hR.few); have hE : txs [⟨#[87, 79, 82, 75]⟩] = [wWORK] := rfl; rw [hE] at hB; have HG : Hid (R = ifF 4 (bareF (saysT r) [wWORK])) := hid HRR.out; clear hE hS; generalize bareF (saysT r) [wWORK] = x at *; go_wp2_with fail; refine hB.out.mono ?_; rintro e w2 ⟨rfl, k2⟩; have k3 := kp_trans kb k2; clear hB; go_wp2_with fail; refine (classIf_ok 4 (x) w2).mono ?_; rintro e w3 ⟨rfl, rfl⟩; go_wp2_with fail; go_ret; exact ⟨by rw [HG.out]; rfl, hcl.next k3, hbl.trans (Bel.of b k3)⟩
 by_cases h9 : v = 9
 · subst h9; have kb := kp_new wc (.cells #[.string ⟨#[87, 79, 82, 75]⟩] 9); have hS := SR.new wc 9 [⟨#[87, 79, 82, 75]⟩]; have hB := hid (isBare_ok A1 (n - 1) (c - 1) r _ 1 1 _ _ (hR.tr.next kb) hS (by decide) hR.few); have hE : txs [⟨#[87, 79, 82, 75]⟩] = [wWORK] := rfl; rw [hE] at hB; have HG : Hid (R = ifF 5 (bareF (saysT r) [wWORK])) := hid HRR.out; clear hE hS; generalize bareF (saysT r) [wWORK] = x at *; go_wp2_with fail; refine hB.out.mono ?_; rintro e w2 ⟨rfl, k2⟩; have k3 := kp_trans kb k2; clear hB; go_wp2_with fail; refine (classIf_ok 5 (x) w2).mono ?_; rintro e w3 ⟨rfl, rfl⟩; go_wp2_with fail; go_ret; exact ⟨by rw [HG.out]; rfl, hcl.next k3, hbl.trans (Bel.of b k3)⟩
 by_cases h10 : v = 10
 · subst h10; have kb := kp_new wc (.cells #[.string ⟨#[65, 85, 84, 79, 67, 79, 77, 77, 73, 84]⟩, .string ⟨#[71, 76, 79, 66, 65, 76]⟩, .string ⟨#[80, 69, 82, 83, 73, 83, 84]⟩] 9); have hS := SR.new wc 9 [⟨#[65, 85, 84, 79, 67, 79, 77, 77, 73, 84]⟩, ⟨#[71, 76, 79, 66, 65, 76]⟩, ⟨#[80, 69, 82, 83, 73, 83, 84]⟩]; have hB := hid (beginsWith_ok A1 (n - 1) (c - 1) r _ 3 3 _ _ (hR.tr.next kb) hS (by decide)); have hE : txs [⟨#[65, 85, 84, 79, 67, 79, 77, 77, 73, 84]⟩, ⟨#[71, 76, 79, 66, 65, 76]⟩, ⟨#[80, 69, 82, 83, 73, 83, 84]⟩] = [wAUTOCOMMIT, wGLOBAL, wPERSIST] := rfl; rw [hE] at hB; have HG : Hid (R = ifF 6 (!headF (saysT r) [wAUTOCOMMIT, wGLOBAL, wPERSIST])) := hid HRR.out; clear hE hS; generalize headF (saysT r) [wAUTOCOMMIT, wGLOBAL, wPERSIST] = x at *; have hnot : ∀ (x : Bool) (w : World), (Op.unary .not (.bool x)).run Tryz.prog w = .ok (.bool (!x)) w := fun _ _ => rfl; go_wp2_with fail; refine hB.out.mono ?_; rintro e w2 ⟨rfl, k2⟩; have k3 := kp_trans kb k2; clear hB; go_wp2_with fail; refine (classIf_ok 6 (!x) w2).mono ?_; rintro e w3 ⟨rfl, rfl⟩; go_wp2_with fail; go_ret; exact ⟨by rw [HG.out]; rfl, hcl.next k3, hbl.trans (Bel.of b k3)⟩
 have HG : Hid (R = 7) := hid (by
  rw [HRR.out]; unfold famB
  rw [if_neg h1, if_neg h2, if_neg h3, if_neg h4, if_neg h5, if_neg h6, if_neg h7, if_neg h8, if_neg h9, if_neg h10])
 go_wp2_with fail; go_ret; exact ⟨by rw [HG.out]; rfl, hcl, hbl⟩
def ClassTom (M : Nat → Prop) (b : Nat) (r : List Tk) : Prop := ∀ (A : Option Addr) (n c : Nat) (w : World), TQ b w A n c r → CLm M w b →
 Calls Tryz.prog 48 #[.pointer (some ⟨b, 0, none⟩), .slice A n c] w fun e w' => e = .returned (.int .i64 (classF (saysT r))) ∧ CLm M w' b ∧ Bel b w w'
theorem explained_m (b : Nat) (r : List Tk) (hx : ∀ u r', r = u :: r' → ClassTom M b r') : ExplTom M b r := by
 intro A n c w hq hc; have kb := kp_new w (.cells #[.string ⟨#[65, 78, 65, 76, 89, 90, 69]⟩, .string ⟨#[65, 78, 65, 76, 89, 83, 69]⟩] 9); have hS := SR.new w 9 [⟨#[65, 78, 65, 76, 89, 90, 69]⟩, ⟨#[65, 78, 65, 76, 89, 83, 69]⟩]; have hB := hid (beginsWith_ok A n c r _ 2 2 _ _ (hq.tr.next kb) hS (by decide)); have hE : txs [⟨#[65, 78, 65, 76, 89, 90, 69]⟩, ⟨#[65, 78, 65, 76, 89, 83, 69]⟩] = [wANALYZE, wANALYSE] := rfl; have hnot : ∀ (x : Bool) (w : World), (Op.unary .not (.bool x)).run Tryz.prog w = .ok (.bool (!x)) w := fun _ _ => rfl; rw [hE] at hB; clear hS hE
 cases hh : headF (saysT r) [wANALYZE, wANALYSE] with
 | false =>
   have HF : Hid (exF (saysT r) (classF ((saysT r).drop 1)) = 1) := hid (by unfold exF; rw [hh]; rfl); rw [hh] at hB; clear hh; go_enter Tryz.func75, Tryz.ntmps75; go_wp2_with fail; refine hB.out.mono ?_; rintro e w1 ⟨rfl, k1⟩; go_wp2_with fail; go_ret; exact ⟨by rw [HF.out]; rfl, hc.next (kp_trans kb k1), Bel.of b (kp_trans kb k1)⟩
 | true =>
   cases r with
   | nil => cases hh
   | cons u r' =>
     have hcap := hq.cap; have hn : 0 < n := by have := hq.tr.len; simp at this; omega
     obtain ⟨ad, rfl, _, _⟩ := hq.tr.head; have hC := hx u r' rfl; have HR := hid hq.rest; have HF : Hid (exF (saysT (u :: r')) (classF ((saysT (u :: r')).drop 1)) = if classF (saysT r') = 2 then 2 else if classF (saysT r') = 7 then 7 else 1) := hid (by unfold exF; rw [hh]; rfl); generalize exF (saysT (u :: r')) (classF ((saysT (u :: r')).drop 1)) = R at *; rw [hh] at hB; unfold ClassTom at hC; generalize classF (saysT r') = x at *; have HC := hid hC; have HCL := hid hc; clear hh hq hx hc hC; by_cases hc1 : c = 1
     · subst hc1; obtain rfl : n = 1 := by omega
       have HR2 : Hid (TQ b w (some ad) 0 0 r') := hid (by have := HR.out; rwa [if_pos rfl] at this); clear HR; go_enter Tryz.func75, Tryz.ntmps75; go_wp2_with fail; refine hB.out.mono ?_; rintro e w1 ⟨rfl, k1⟩; go_wp2_with fail; have k2 := kp_trans kb k1; have hq1 := HR2.out.next k2; have hc1 := HCL.out.next k2; have hCC := HC.out _ _ _ w1 hq1 hc1; clear hq1 hc1 HC HR2 HCL hB; refine Calls.mono hCC ?_; rintro e w2 ⟨rfl, hc2, hb2⟩; have hb3 := (Bel.of b k2).trans hb2; by_cases h2 : x = 2
       · subst h2; have HG : Hid (R = 2) := hid HF.out; go_wp2_with fail; go_ret; exact ⟨by rw [HG.out]; rfl, hc2, hb3⟩
       by_cases h7 : x = 7
       · subst h7; have HG : Hid (R = 7) := hid HF.out; go_wp2_with fail; go_ret; exact ⟨by rw [HG.out]; rfl, hc2, hb3⟩
       have HG : Hid (R = 1) := hid (by rw [HF.out, if_neg h2, if_neg h7]); go_wp2_with fail; go_ret; exact ⟨by rw [HG.out]; rfl, hc2, hb3⟩
     · have HR2 : Hid (TQ b w (some ⟨ad.block, ad.off + 2, none⟩) (n - 1) (c - 1) r') := hid (by have := HR.out; rwa [if_neg hc1] at this); clear HR; go_enter Tryz.func75, Tryz.ntmps75; go_wp2_with fail; refine hB.out.mono ?_; rintro e w1 ⟨rfl, k1⟩; go_wp2_with fail; have k2 := kp_trans kb k1; have hq1 := HR2.out.next k2; have hc1 := HCL.out.next k2; have hCC := HC.out _ _ _ w1 hq1 hc1; clear hq1 hc1 HC HR2 HCL hB; refine Calls.mono hCC ?_; rintro e w2 ⟨rfl, hc2, hb2⟩; have hb3 := (Bel.of b k2).trans hb2; by_cases h2 : x = 2
       · subst h2; have HG : Hid (R = 2) := hid HF.out; go_wp2_with fail; go_ret; exact ⟨by rw [HG.out]; rfl, hc2, hb3⟩
       by_cases h7 : x = 7
       · subst h7; have HG : Hid (R = 7) := hid HF.out; go_wp2_with fail; go_ret; exact ⟨by rw [HG.out]; rfl, hc2, hb3⟩
       have HG : Hid (R = 1) := hid (by rw [HF.out, if_neg h2, if_neg h7]); go_wp2_with fail; go_ret; exact ⟨by rw [HG.out]; rfl, hc2, hb3⟩
theorem classOf_nil_m (b : Nat) : ClassTom M b [] := by
 intro A n c w hq hc; obtain rfl : 0 = n := hq.tr.len; have HF : Hid (classF (saysT []) = 7) := hid classF_nil; go_enter Tryz.func48, Tryz.ntmps48; go_wp2_with fail; go_ret; exact ⟨by rw [HF.out]; rfl, hc, Bel.of b (Below.refl _ _)⟩
theorem classOf_no_m (b : Nat) (t : Tk) (r : List Tk) (h : t.k ≠ 1) : ClassTom M b (t :: r) := by
 intro A n c w hq hc; have HF : Hid (classF (saysT (t :: r)) = 7) := hid (classF_no (t := t.says) (r := saysT r) (.inl h)); have hn : 0 < n := by have := hq.tr.len; simp at this; omega
 have hnz : ((n : Int) == 0) = false := by simp; omega
 obtain ⟨ad, rfl, _, hcc⟩ := hq.tr.head; obtain ⟨c0, c1⟩ := hcc _ (Below.refl _ _); have h1 : (t.k != 1) = true := by simpa using h
 clear hcc; go_enter Tryz.func48, Tryz.ntmps48; go_wp2_with fail; go_ret; exact ⟨by rw [HF.out]; rfl, hc, Bel.of b (Below.refl _ _)⟩
theorem classOf_stop_m (b : Nat) (t : Tk) (r : List Tk) (h : t.k = 1) (hs : (saysT (t :: r)).any stopF = true) : ClassTom M b (t :: r) := by
 intro A n c w hq hc; have HF : Hid (classF (saysT (t :: r)) = 7) := hid (classF_no (t := t.says) (r := saysT r) (.inr hs)); have hn : 0 < n := by have := hq.tr.len; simp at this; omega
 have hnz : ((n : Int) == 0) = false := by simp; omega
 have hC := hid (containsFunc_ok _ _ stopPred (fun _ _ => rfl) A n c (t :: r) w hq.tr hq.few); rw [hs] at hC; clear hs; obtain ⟨ad, rfl, _, hcc⟩ := hq.tr.head; obtain ⟨c0, c1⟩ := hcc _ (Below.refl _ _); obtain ⟨k, s⟩ := t; simp only at h c0 c1; subst h; clear hcc; go_enter Tryz.func48, Tryz.ntmps48; go_wp2_with fail; refine hC.out.mono ?_; rintro e w1 ⟨rfl, k1⟩; go_wp2_with fail; go_ret; exact ⟨by rw [HF.out]; rfl, hc.next k1, Bel.of b k1⟩
theorem classOf_m (b : Nat) : ∀ (N : Nat) (ts : List Tk), ts.length ≤ N → ClassTom M b ts := by
 intro N
 induction N with
 | zero =>
   intro ts hl; obtain rfl : ts = [] := List.eq_nil_of_length_eq_zero (by omega); exact classOf_nil_m b
 | succ N ih =>
   intro ts hl
   cases ts with
   | nil => exact classOf_nil_m b
   | cons t r =>
     by_cases h : t.k = 1
     · cases hs : (saysT (t :: r)).any stopF with
       | true => exact classOf_stop_m b t r h hs
       | false =>
         intro A n c w hq hc; exact classOf_word_m b A n c t r w hq hc h hs (explained_m b r fun u r' e => ih r' (by subst e; simp at hl; omega))
     · exact classOf_no_m b t r h
theorem class_m (s : ByteArray) (b : Nat) (w : World) (hs : s.size ≤ maxLen) (hL : Lw w) (hc : CLm M w b) :
 Calls Tryz.prog 26 #[.pointer (some ⟨b, 0, none⟩), .string s] w fun e w' => e = .returned (.int .i64 (classA s.data.toList)) ∧ CLm M w' b ∧ Bel b w w' := by
 have hlex := lex_ok s w hs hL; unfold LexTo at hlex; have hlen := lexA_len s.data.toList; have hok := lexA_ok s.data.toList; have HX := hid hlex; have hA : classA s.data.toList = if (lexA s.data.toList).2 = 0 then classF (bodyF (lexA s.data.toList).1) else 0 := rfl; generalize lexA s.data.toList = LA at *; have HA := hid hA; have HLen := hid hlen; have HOk := hid hok; have HCL := hid hc; clear hlex hA hlen hok hc; go_enter Tryz.func26, Tryz.ntmps26; go_wp2_with fail; refine HX.out.mono ?_; rintro e w1 ⟨A, n, c, er, ts, rfl, ho, rfl, k1⟩; clear HX; by_cases he : er = 0
 · subst he; have HG : Hid (classA s.data.toList = classF (bodyF (saysT ts))) := hid HA.out; have hn : n ≤ 200 := by rw [← ho.len, ← saysT_length]; exact HLen.out
   have hcap := ho.cap; have hW := hid (withoutHints_ok A n c ts w1 w.heap.size ho k1.size (by omega)); have HO := hid ho; have HLT := hid HCL.out.lt; have HFr := hid ho.fresh; have HS := hid HOk.out; have HC1 := hid (HCL.out.next k1); clear HA HLen HOk ho; go_wp2_with fail; refine hW.out.mono ?_; rintro e w2 ⟨us, k, rfl, hr, hk, hus, k2⟩; have hE := hid (withoutEnd_ok A k c us w2 hr (by omega) (by omega)); clear hW; go_wp2_with fail; refine hE.out.mono ?_; rintro e w3 ⟨j, rfl, hj, hend, k3⟩; have kk : Below w.heap.size w w3 := (k1.trans k2).trans (k3.mono (k1.trans k2).size)
   have hq : TQ b w3 A j c (us.take j) := by
    refine ⟨(hr.next k3).front hj, fun ad e => ?_, by omega, by omega, ?_⟩
    · have h1 := HFr.out ad e; have h2 := HLT.out; omega
    · have hsub : ∀ t ∈ saysT us, t.2.length ≤ 200 := fun t ht => by
       rw [hus.out] at ht; exact (HS.out t (List.mem_filter.1 ht).1).1
      intro t ht; have := saysT_short hsub t (List.mem_of_mem_take ht); omega
   have hcl3 : CLm M w3 b := HCL.out.next kk
   have hbody : classF (bodyF (saysT ts)) = classF (saysT (us.take j)) := by
    unfold bodyF; rw [← hus.out, hend]
   have HB := hid hbody; have HCc := hid (classOf_m b _ (us.take j) (Nat.le_refl _) A j c w3 hq hcl3); clear hE hq hcl3 hbody hend; go_wp2_with fail; refine HCc.out.mono ?_; rintro e w4 ⟨rfl, hc4, hb4⟩; go_wp2_with fail; go_ret; exact ⟨by rw [HG.out, HB.out]; rfl, hc4, (Bel.of b kk).trans hb4⟩
 · have HG : Hid (classA s.data.toList = 0) := hid (by rw [HA.out, if_neg he]); clear HA; go_wp2_with fail; go_ret; exact ⟨by rw [HG.out]; rfl, HCL.out.next k1, Bel.of b k1⟩
end
end

/- Layer 15: what the laws' walks share: a Classer as a thing; calls on three nodes beside another thing; rows of entries, cut. -/
section
open Go.RowKit
set_option maxRecDepth 100000
theorem P3.kept {w w' : World} {g : Nat} {bs : Nat → Nat} (h : P3 w (some ⟨g, 0, none⟩) bs) (hz : w.heap.size ≤ w'.heap.size) (hk : w'.heap[g]? = w.heap[g]?) : P3 w' (some ⟨g, 0, none⟩) bs := ⟨h.rd.offR hz fun ad e => by injection e with e; subst e; exact hk⟩
theorem lgC_take : ∀ (rs : List Lg) (k : Nat), lgC (rs.take k) = (lgC rs).take (k * 2)
 | _, 0 => by simp [lgC]
 | [], k + 1 => by simp [lgC]
 | r :: rs, k + 1 => by
   have := lgC_take rs k; have e1 : (k + 1) * 2 = k * 2 + 2 := by omega
   rw [List.take_succ_cons]; simp only [lgC, List.flatMap_cons] at this ⊢; rw [this, e1]; simp
theorem lgC_drop : ∀ (rs : List Lg) (k : Nat), lgC (rs.drop k) = (lgC rs).drop (k * 2)
 | _, 0 => by simp [lgC]
 | [], k + 1 => by simp [lgC]
 | r :: rs, k + 1 => by
   have := lgC_drop rs k; have e1 : (k + 1) * 2 = k * 2 + 2 := by omega
   rw [List.drop_succ_cons]; simp only [lgC, List.flatMap_cons] at this ⊢; rw [this, e1]; simp
section
variable {w : World} {A : Option Addr} {n c : Nat} {ts : List Lg}
theorem LR.cut0 (h : LR w A n ts) (t : TypeId) (ht : Tryz.prog.underlying t = some (.slice (Tryz.prog.elem t))) (hz : (Tryz.prog.info? (Tryz.prog.elem t)).map (·.size) = some 2) {j : Nat} (hj : j ≤ n) (hc : n ≤ c) :
 ∃ A', (∀ u, (Instr.slice t (.slice A n c) none (some (.int .i64 (j : Int))) none).run Tryz.prog u = .ok (.slice A' j c) u) ∧ LR w A' j (ts.take j) := by
 obtain ⟨A', h1, h2⟩ := cut2_0 (j := j) h.rd Tryz.prog t ht hz j rfl hj hc; exact ⟨A', h1, by rw [List.length_take]; have := h.len; omega, by rw [lgC_take]; exact h2⟩
theorem LR.cut1 (h : LR w A n ts) (t : TypeId) (ht : Tryz.prog.underlying t = some (.slice (Tryz.prog.elem t))) (hz : (Tryz.prog.info? (Tryz.prog.elem t)).map (·.size) = some 2) {i : Nat} (hi : i ≤ n) (hc : n ≤ c) :
 ∃ A', (∀ u, (Instr.slice t (.slice A n c) (some (.int .i64 (i : Int))) none none).run Tryz.prog u = .ok (.slice A' (n - i) (c - i)) u) ∧ LR w A' (n - i) (ts.drop i) := by
 obtain ⟨A', h1, h2⟩ := cut2_1 (i := i) (by rw [lgC_length, h.len]) h.rd Tryz.prog t ht hz i rfl hi hc; exact ⟨A', h1, by rw [List.length_drop]; have := h.len; omega, by rw [lgC_drop]; exact h2⟩
end
def T0 : Thing where
 p := fun S _ => ∀ k, ¬ S k
 keep := fun h _ _ => h
 lt := fun h k hk => (h k hk).elim
theorem T0.none (w : World) : T0.p noneB w := fun _ h => h
def CT (cb : Nat) : Thing where
 p := fun S w => S cb ∧ (∀ k, S k → k < w.heap.size) ∧ ∃ x, Cls w cb (.int .u32 0) (.int .i32 0) x (.map none) ∨ ∃ bm, Cls w cb (.int .u32 1) (.int .i32 0) x (.map (some bm)) ∧ MapAt w bm famL ∧ bm ≠ cb ∧ S bm
 keep := fun ⟨h1, h2, x, h3⟩ hk hz => ⟨h1, fun k hk2 => Nat.lt_of_lt_of_le (h2 k hk2) hz, x, h3.imp (fun h => h.keep (hk _ h1)) fun ⟨bm, a, b, c, d⟩ => ⟨bm, a.keep (hk _ h1), b.keep (hk bm d), c, d⟩⟩
 lt := fun h => h.2.1
theorem newCT_ok (w : World) : Calls Tryz.prog 25 #[] w fun e w' => e = .returned (.pointer (some ⟨w.heap.size, 0, none⟩)) ∧ (CT w.heap.size).p (fun k => k = w.heap.size) w' ∧ Below w.heap.size w w' := by
 go_enter Tryz.func25, Tryz.ntmps25
 go_wp2
 go_ret; exact ⟨rfl, ⟨rfl, fun k hk => by subst hk; simp, _, .inl (heap_alloc_new w _)⟩, kp_new _ _⟩
section
variable {w0 w : World} {X Y : Thing} {N : Nat → Prop}
end
end
end Go.Proofs.YtdhnpmagapbmhaaGreatDoor
