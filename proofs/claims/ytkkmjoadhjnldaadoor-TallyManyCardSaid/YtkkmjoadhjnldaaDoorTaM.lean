/-
  Names are placed, by the call place of package tally: contract.
-/
import Derived.Test.YtkkmjoadhjnldaaDoorTaS
import Derived.Test.YtkkmjoadhjnldaaDoorTaC
import Derived.RegionTactic
import Derived.Laws.OwnMore
namespace Go.Proofs.YtkkmjoadhjnldaaDoor
open Go.RowKit Go.Maps Go.WideMaps
set_option maxRecDepth 100000

theorem atinfo : (Tryd.prog.info? 68).map (fun i => (i.zero, i.size, i.bytes)) = some (some (.agg #[.int .i64 0]), 1, 8) := by kernel_rfl
theorem madeT (n : Nat) : (madeCells (Value.agg #[.int .i64 0]).cells (n * 1)).toList = ivs (List.replicate n 0) := by
  apply List.ext_getElem
  · simp [madeCells, ivs]
  · intro i h1 h2
    simp [madeCells, ivs, Nat.mod_one, Value.cells]

theorem XR.off {w w' : World} {A : Option Addr} {n : Nat} {ss : List ByteArray} (h : XR w A n ss) (hz : w.heap.size ≤ w'.heap.size) (hk : ∀ ad, A = some ad → w'.heap[ad.block]? = w.heap[ad.block]?) : XR w' A n ss := by
  refine ⟨h.len, ?_⟩
  rcases h.rd with h | ⟨ad, e, hlt, hc⟩
  · exact .inl h
  · exact .inr ⟨ad, e, Nat.lt_of_lt_of_le hlt hz, fun j u hu => (World.cell?_of_block (by rw [add_block]; exact hk ad e)).trans (hc j u hu)⟩

theorem Bel.grown {b : Nat} {w w1 w2 : World} {row : Option Nat} (h : Bel b w w1) (hg : w1.grownBy w2 row) (hr : ∀ k, row = some k → w.heap.size ≤ k) : Bel b w w2 :=
  ⟨hg.os.trans h.os, hg.tape.trans h.tape, hg.output.trans h.output, Nat.le_trans h.size hg.size, fun i hi hn => (hg.block i (Nat.lt_of_lt_of_le hi h.size) (fun e => by have := hr i e.symm; omega)).trans (h.block i hi hn)⟩
theorem Bel.alloc {b : Nat} {w w1 : World} (h : Bel b w w1) (o : Obj) : Bel b w (w1.alloc o) := h.grown (World.grownBy_alloc w1 o none) (by simp)

section
variable {w : World} {b : Nat} {L : List (List UInt8 × Int)}
theorem MapAt.look (h : MapAt w b L) (s : ByteArray) (hs : s.size ≤ 1000) : ∃ c, (Instr.lookup 56 (.map (some b)) (.string s) true).run Tryd.prog w = .ok (.tuple #[.int .i64 c, .bool (Maps.has (datM L) (.string s.data.toList))]) w ∧ (datM L).atKey (.string s.data.toList) (.lit (.int .i64 0)) = .lit (.int .i64 c) := by
  obtain ⟨v, ps, hrun, hv⟩ := World.ownsMap.look_ok h sKey Tryd.underlying56 (sZero w) (plainElem_int Tryd.underlying3 (by decide)) (keyOf_string_mk Tryd.underlying9 (s := s) (by unfold maxLen; omega))
  obtain ⟨c, rfl, hc, _⟩ := plainElem_int_inv Tryd.underlying3 hv
  simp only [Prod.mk.injEq] at hc
  exact ⟨c, hrun, hc.1⟩
theorem MapAt.put (h : MapAt w b L) (hn : L.length < 1000) (s : ByteArray) (hs : s.size ≤ 1000) (c : Int) (hc : 0 ≤ c ∧ c < 1000) : ∃ w', (Instr.mapUpdate 56 (.map (some b)) (.string s) (.int .i64 c)).run Tryd.prog w = .ok () w' ∧ MapAt w' b (L ++ [(s.data.toList, c)]) ∧ w.grownBy w' (some b) := by
  have hwf : (Lit.int .i64 c).wf = true := by
    have e1 : IntKind.i64.min = -9223372036854775808 := rfl
    have e2 : IntKind.i64.max = 9223372036854775807 := rfl
    simp only [Lit.wf, Bool.and_eq_true, decide_eq_true_eq]
    omega
  obtain ⟨w', hrun, r1, r2⟩ := World.ownsMap.update h sKey Tryd.underlying56 (by unfold maxLen; omega) (keyOf_string_mk Tryd.underlying9 (s := s) (by unfold maxLen; omega)) (plainElem_int Tryd.underlying3 hwf)
  refine ⟨w', hrun, ?_, r2⟩
  unfold MapAt
  rw [datM_push, List.length_append]
  exact r1
end
/-- a look-up in the places of names -/
theorem look7 {w : World} {b : Nat} {l : List ByteArray} (h : MapAt w b (idxT (newT l))) (s : ByteArray) (hs : s.size ≤ 1000) :
    (Instr.lookup 56 (.map (some b)) (.string s) true).run Tryd.prog w = .ok (.tuple #[.int .i64 (if placeT s (newT l) < 0 then 0 else placeT s (newT l)), .bool (decide (0 ≤ placeT s (newT l)))]) w := by
  obtain ⟨c, hrun, hc⟩ := h.look s hs
  have hall := fun z => newT_at s z l
  rw [hall] at hc
  by_cases hp : placeT s (newT l) < 0
  · rw [if_pos hp] at hc
    have hh : Maps.has (datM (idxT (newT l))) (.string s.data.toList) = false := has_false_of_atKey fun z => by rw [hall, if_pos hp]
    simp only [DataW.lit.injEq, Lit.int.injEq, true_and] at hc
    subst hc
    rw [hrun, hh, if_pos hp, decide_eq_false (by omega)]
  · rw [if_neg hp] at hc
    have hh : Maps.has (datM (idxT (newT l))) (.string s.data.toList) = true := has_true_of_atKey fun z => by rw [hall, if_neg hp]
    simp only [DataW.lit.injEq, Lit.int.injEq, true_and] at hc
    rw [hrun, hh, if_neg hp, decide_eq_true (by omega), hc]

/-- the call's outcome -/
structure Placed (w : World) (b : Nat) (c0 c1 c2 : Value) (l : List ByteArray) (w' : World) : Prop where
  at_ : ∃ A n ca bm B cb, Tly w' b c0 c1 c2 (.slice A n ca) (.map (some bm)) (.slice B n cb) ∧ w'.ownsRow (w.heap.size + 1) 9 1 (.slice A n ca) n (tvs (newT l)) ∧ w'.ownsRow (w.heap.size + 1) 68 1 (.slice B n cb) n (ivs (List.replicate (newT l).length 0)) ∧ MapAt w' bm (idxT (newT l)) ∧ w.heap.size ≤ bm
  bel : Bel b w w'

set_option maxHeartbeats 4000000 in
theorem place_ok7 (b : Nat) (c0 c1 c2 c4 c5 : Value) (A : Option Addr) (n c : Nat) (l : List ByteArray) (w : World) (h : Tly w b c0 c1 c2 (.slice A n c) c4 c5) (hl : w.ownsRow 0 9 1 (.slice A n c) n (tvs l)) (hn : n ≤ 900) (hs : ∀ s ∈ l, s.size ≤ 1000) :
    Calls Tryd.prog 30 #[.pointer (some ⟨b, 0, none⟩)] w fun e w' => e = .returned (.tuple #[]) ∧ Placed w b c0 c1 c2 l w' := by
  obtain ⟨i0, hi, hz0, hz1, hz2⟩ := info_parts strinfo6
  obtain ⟨j0, gi, gz0, gz1, gz2⟩ := info_parts atinfo
  have hmm := @run_makeMap Tryd.prog
  have hlt := h.lt
  have hne : ∀ ad, A = some ad → ad.block ≠ b := fun ad e hh => by
    subst e
    exact h.off hl (by decide) (by simp [Value.ownBlock, hh])
  have hxr := XR.of_own hl
  have HLen := Lib.hid hxr.len
  have HX : Hid (∀ u, Bel b w u → XR u A n l) := Lib.hid fun u hu => hxr.off hu.size fun ad e => hu.block _ (by
    obtain rfl := e
    rcases hl.2 with ⟨h1, _⟩ | ⟨g, cap, cur, h1, _, hg, _⟩
    · cases h1
    · injection h1 with h1 _ _
      injection h1 with h1
      subst h1
      exact (Array.getElem?_eq_some_iff.1 hg).1) (hne ad e)
  have hz2w : ((w.setCell ⟨b, 3, none⟩ (.slice none 0 0)).setCell ⟨b, 4, none⟩ (.map (some w.heap.size))).heap.size = w.heap.size := by simp
  have hT1 := ((h.set3 (.slice none 0 0)).set4 (.map (some w.heap.size))).next (kp_new _ (.map #[] 0))
  have hM1 : MapAt (((w.setCell ⟨b, 3, none⟩ (.slice none 0 0)).setCell ⟨b, 4, none⟩ (.map (some w.heap.size))).alloc (.map #[] 0)) w.heap.size (idxT []) := by
    have h0 : MapAt (((w.setCell ⟨b, 3, none⟩ (.slice none 0 0)).setCell ⟨b, 4, none⟩ (.map (some w.heap.size))).alloc (.map #[] 0)) ((w.setCell ⟨b, 3, none⟩ (.slice none 0 0)).setCell ⟨b, 4, none⟩ (.map (some w.heap.size))).heap.size (idxT []) := World.ownsMap_made _ _ _ _
    rw [hz2w] at h0
    exact h0
  have hB1 : Bel b w (((w.setCell ⟨b, 3, none⟩ (.slice none 0 0)).setCell ⟨b, 4, none⟩ (.map (some w.heap.size))).alloc (.map #[] 0)) := Bel.alloc (((Bel.of b (Below.refl _ w)).setCell _ rfl _).setCell _ rfl _) _
  have g3 := h.cells.2.2.2.1
  have g4 := h.cells.2.2.2.2.1
  have z3 := h.thaw 3
  have z4 := h.thaw 4
  have HT1 := Lib.hid hT1
  have HM1 := Lib.hid hM1
  have HB1 := Lib.hid hB1
  have HS := Lib.hid hs
  clear hT1 hM1 hB1 hz2w hl hxr hne h hs
  go_enter Tryd.func30, Tryd.ntmps30
  go_wp2_with fail
  go_loopw [20] (fun i wr => ∃ (k : Nat) (A1 : Option Addr) (z ca : Nat) (acc : List ByteArray), k ≤ n ∧ z ≤ k ∧ i = .int .i64 k ∧ Hid (acc = newT (l.take k)) ∧ Hid (Tly wr b c0 c1 c2 (.slice A1 z ca) (.map (some w.heap.size)) c5) ∧
    Hid (wr.ownsRow (w.heap.size + 1) 9 1 (.slice A1 z ca) z (tvs acc)) ∧ Hid (MapAt wr w.heap.size (idxT acc)) ∧ Hid (Bel b w wr)) (fun i _ => n - (intOf i).toNat)
  case atStart => exact ⟨0, none, 0, 0, [], Nat.zero_le _, Nat.le_refl _, rfl, Lib.hid rfl, HT1, Lib.hid (World.ownsRow_nil _ _ _ _), HM1, HB1⟩
  case round =>
    obtain ⟨k, A1, z, ca, acc, hk, hzk, rfl, hacc, hT, hO, hM, hB⟩ := hrel
    have hla : acc.length = z := by have := hO.out.1; rw [tvs_length] at this; omega
    obtain ⟨_, _, _, b3, b4, b5⟩ := hT.out.cells
    by_cases hlt2 : k < n
    · have hkl : k < l.length := by rw [HLen.out]; exact hlt2
      obtain ⟨ad, rfl, had, c0'⟩ := (HX.out wr hB.out).at_ hkl
      have hsz := HS.out l[k] (List.getElem_mem hkl)
      have hnx : Hid (newT (l.take (k + 1)) = addN acc l[k]) := Lib.hid (by rw [newT_next l k hkl, hacc.out])
      have hM' := hM.out
      rw [hacc.out] at hM'
      have hlook := look7 hM' l[k] hsz
      rw [← hacc.out] at hlook
      clear hM' hacc
      have hadd : addN acc l[k] = if placeT l[k] acc < 0 then acc ++ [l[k]] else acc := rfl
      rw [hadd] at hnx
      clear hadd
      generalize l[k] = x at *
      by_cases hp : placeT x acc < 0
      · rw [if_pos hp] at hnx hlook
        rw [decide_eq_false (by omega)] at hlook
        have hnew : Hid (acc ++ [x] = newT (l.take (k + 1))) := Lib.hid hnx.out.symm
        obtain ⟨w1, hput, hM1', hg1⟩ := (show MapAt wr.drew w.heap.size (idxT acc) from hM.out).put (by rw [idxT_len]; omega) x hsz (z : Int) (by omega)
        have hbm : b ≠ w.heap.size := by omega
        have hT1' : Tly w1 b c0 c1 c2 (.slice A1 z ca) (.map (some w.heap.size)) c5 := hT.out.keep (hg1.block b (by exact hT.out.lt) (by simpa using hbm))
        have hO1 : w1.ownsRow (w.heap.size + 1) 9 1 (.slice A1 z ca) z (tvs acc) := own_keep hO.out fun g e => hg1.block g (hO.out.lt g e).2 (by
          have := (hO.out.lt g e).1
          simp
          omega)
        have hB1' : Bel b w w1 := hB.out.drew.grown hg1 (fun k e => by simp at e; omega)
        obtain ⟨_, _, _, d3, d4, d5⟩ := hT1'.cells
        have hsz1 : w.heap.size + 1 ≤ w1.heap.size := by
          have := hM1'.lt
          omega
        have HT2 := Lib.hid hT1'
        have HO2 := Lib.hid (hO1.alloc (.cells #[.string x] 9))
        have HM2 := Lib.hid hM1'
        have HB2 := Lib.hid hB1'
        have HSRC : Hid (Rd (w1.alloc (.cells #[.string x] 9)) (w1.heap.size + 1) (some ⟨w1.heap.size, 0, none⟩) [.string x]) := Lib.hid (Rd.new w1 9 [.string x])
        have HSW := Lib.hid (show w.heap.size + 1 ≤ (w1.alloc (.cells #[.string x] 9)).heap.size by simp; omega)
        have HTA := Lib.hid (HT2.out.next (kp_new w1 (.cells #[.string x] 9)))
        have hxz : acc.length = z := hla
        rw [← hxz] at hput
        have hput2 := hput
        rw [hxz] at hput2
        clear hput hnx hM1' hT1' hO1 hB1' hg1 hp
        go_wp2_with fail
        go_region
        all_goals
          go_wp2_with (at_builtin; refine wpList_append_rd rfl _ _ _ rfl (w.heap.size + 1) 9 i0 _ 16 Tryd.underlying22 hi hz0 hz1 hz2 rfl _ z _ rfl HO2.out _ _ _ _ [.string x] rfl rfl HSRC.out (by simp [Value.oneCell']) (by unfold maxLen; omega) (by omega) HSW.out ?_; intro v6 w6 hown6 hg6; obtain ⟨A6, c6, rfl, _, _⟩ := own_form hown6; have hT6 := Lib.hid (HTA.out.keep (hg6.block b HTA.out.lt (fun e => by have := (HO2.out.lt _ e.symm).1; omega))); obtain ⟨t0, t1, t2, t3, t4, t5⟩ := hT6.out.cells; have y3 := hT6.out.thaw 3)
          go_roundw
          case rel =>
            have hn7 := ownsRow_setCell_other (a := ⟨b, 3, none⟩) hown6 (hT6.out.off hown6 (by decide)) (.slice A6 (z + 1) c6)
            have hM6 : MapAt w6 w.heap.size (idxT acc ++ [(x.data.toList, (z : Int))]) := HM2.out.keep (by
              have e1 := hg6.block w.heap.size (by simp; omega) (fun e => by have := (HO2.out.lt _ e.symm).1; omega)
              have e2 := (kp_new w1 (.cells #[.string x] 9)).block w.heap.size (by omega)
              exact e1.trans e2)
            have k6 : Bel b w w6 := (HB2.out.alloc (.cells #[.string x] 9)).grown hg6 (fun k e => by have := (HO2.out.lt k e).1; omega)
            refine ⟨k + 1, A6, z + 1, c6, acc ++ [x], by omega, by omega, by go_num, hnew, Lib.hid (hT6.out.set3 _), Lib.hid ?_, Lib.hid ?_, Lib.hid (k6.setCell _ rfl _)⟩
            · rw [tvs_append]
              exact hn7
            · rw [idxT_push, hla]
              exact hM6.keep (Below.heap_setCell _ _ _ _ (by simp; omega))
          case measure => simp [intOf]; omega
      · rw [if_neg hp] at hnx hlook
        rw [decide_eq_true (by omega)] at hlook
        have hnew : Hid (acc = newT (l.take (k + 1))) := Lib.hid hnx.out.symm
        clear hnx
        generalize placeT x acc = p at *
        go_wp2_with fail
        go_roundw
        case rel => exact ⟨k + 1, A1, z, ca, acc, by omega, by omega, by go_num, hnew, hT, hO, hM, hB⟩
        case measure => simp [intOf]; omega
    · obtain rfl : k = n := by omega
      rw [List.take_of_length_le (by rw [HLen.out]; exact Nat.le_refl _)] at hacc
      obtain ⟨w2, hmk, ho2, hg2⟩ := run_makeSlice_full (P := Tryd.prog) (w := wr) (w.heap.size + 1) 57 68 j0 _ 1 Tryd.underlying57 gi gz0 gz1 .i64 .i64 z (by omega) (by rw [gz2]; omega) (by unfold maxLen; omega) (by have := hM.out.lt; omega)
      rw [madeT] at ho2
      have hT2 := hT.out.keep (hg2.block b hT.out.lt (by simp))
      obtain ⟨_, _, _, t3, t4, t5⟩ := hT2.cells
      have y5 := hT2.thaw 5
      have hO2 := own_keep hO.out fun g e => hg2.block g (hO.out.lt g e).2 (by simp)
      have hM2 := hM.out.keep (hg2.block w.heap.size hM.out.lt (by simp))
      have hB2 : Bel b w w2 := hB.out.grown hg2 (by simp)
      have hTf := hT2.set5 (.slice (some ⟨wr.heap.size, 0, none⟩) z z)
      have hOf := ownsRow_setCell_other (a := ⟨b, 5, none⟩) hO2 (hT2.off hO2 (by decide)) (.slice (some ⟨wr.heap.size, 0, none⟩) z z)
      have hof := ownsRow_setCell_other (a := ⟨b, 5, none⟩) ho2 (hT2.off ho2 (by decide)) (.slice (some ⟨wr.heap.size, 0, none⟩) z z)
      have hMf := hM2.keep (Below.heap_setCell w2 ⟨b, 5, none⟩ (.slice (some ⟨wr.heap.size, 0, none⟩) z z) w.heap.size (by simp; omega))
      have hBf := hB2.setCell ⟨b, 5, none⟩ rfl (.slice (some ⟨wr.heap.size, 0, none⟩) z z)
      rw [← hla] at hof
      have hfin : Placed w b c0 c1 c2 l (w2.setCell ⟨b, 5, none⟩ (.slice (some ⟨wr.heap.size, 0, none⟩) z z)) := by
        refine ⟨⟨A1, z, ca, w.heap.size, some ⟨wr.heap.size, 0, none⟩, z, hTf, ?_, ?_, ?_, Nat.le_refl _⟩, hBf⟩
        · rw [← hacc.out]; exact hOf
        · rw [← hacc.out]; rw [hla] at hof ⊢; exact hof
        · rw [← hacc.out]; exact hMf
      have HF := Lib.hid hfin
      clear hfin hTf hOf hof hMf hBf hT2 hO2 hM2 hB2 ho2 hg2
      go_wp2_with fail
      go_end0
      exact ⟨rfl, HF.out⟩
end Go.Proofs.YtkkmjoadhjnldaaDoor
