/-
  A tally's countOf, New, Names, Count, Add, Swap: contracts.
-/
import Derived.Test.YtkkmjoadhjnldaaDoorTaO
import Derived.Test.YtkkmjoadhjnldaaDoorTaN
import Derived.Test.YtkkmjoadhjnldaaDoorAtom
namespace Go.Proofs.YtkkmjoadhjnldaaDoor
open Go.RowKit Go.Maps
set_option maxRecDepth 100000

theorem Ready.pc {S : Nat → Prop} {w w' : World} {b : Nat} {l ns : List ByteArray} {cs : List Int} (h : Ready S w b l ns cs w') : PC S w b l ns cs w' := by
  obtain ⟨⟨S', A, n, ca, bm, B, cb, _, h2, h3⟩, ho⟩ := h
  exact ⟨⟨S', h2, h3⟩, ho⟩
/-- a count of a tally is set -/
theorem PM.set {S : Nat → Prop} {w : World} {b : Nat} {ns : List ByteArray} {cs : List Int} {A : Option Addr} {n ca bm g cb : Nat} (h : PM w b S ns cs A n ca bm (some ⟨g, 0, none⟩) cb) (hg : ∃ cur, w.heap[g]? = some (.cells cur 68 (0, 0))) (i : Nat) (y : Int) : PM (w.setCell ⟨g, i, none⟩ (.int .i64 y)) b S ns (cs.set i y) A n ca bm (some ⟨g, 0, none⟩) cb := by
  obtain ⟨⟨x, h1⟩, h2, h3, h4, s1, s2, s3⟩ := h
  obtain ⟨cur, hg⟩ := hg
  have hbg : b ≠ g := by
    rintro rfl
    unfold Tly at h1
    rw [h1] at hg
    simp only [Option.some.injEq, Obj.cells.injEq] at hg
    exact absurd hg.2.1 (by decide)
  have hmg : bm ≠ g := by
    rintro rfl
    obtain ⟨es, clock, hb, _⟩ := h4
    rw [hb] at hg
    cases hg
  refine ⟨⟨x, h1.keep (Below.heap_setCell _ _ _ _ hbg)⟩, ownsRow_setCell_other h2 (own_type_ne h2 hg (by decide)) _, ?_, h4.keep (Below.heap_setCell _ _ _ _ hmg), s1, s2, s3⟩
  rw [ivs_set]
  exact own_set h3 i _
theorem PT.set {S : Nat → Prop} {w : World} {b : Nat} {l ns : List ByteArray} {cs : List Int} {A : Option Addr} {n ca bm g cb : Nat} (h : PT S w b l ns cs) (hm : PM w b S ns cs A n ca bm (some ⟨g, 0, none⟩) cb) (hg : ∃ cur, w.heap[g]? = some (.cells cur 68 (0, 0))) (i : Nat) (y : Int) : PT S (w.setCell ⟨g, i, none⟩ (.int .i64 y)) b l ns (cs.set i y) :=
  ⟨h.names, h.few, h.short, h.inb, fun k hk => by have := h.lt k hk; simpa using this, .inr ⟨A, n, ca, bm, _, cb, hm.set hg i y⟩⟩

/-- there is no such name -/
theorem countOf_no (S : Nat → Prop) (b : Nat) (l ns : List ByteArray) (cs : List Int) (s : ByteArray) (w : World) (h : PT S w b l ns cs) (hs : s.size ≤ 1000) (hp : placeT s ns < 0) :
    Calls Tryd.prog 23 #[.pointer (some ⟨b, 0, none⟩), .string s] w fun e w' => e = .returned (.pointer none) ∧ Ready S w b l ns cs w' := by
  have HR := Lib.hid (ready7_ok S b l ns cs w h)
  have HN := Lib.hid h.names
  have HP := Lib.hid hp
  clear h hp
  go_enter Tryd.func23, Tryd.ntmps23
  go_wp2_with fail
  refine HR.out.mono ?_
  rintro e w1 ⟨rfl, hr⟩
  have HRR := Lib.hid hr
  obtain ⟨⟨S', A, n, ca, bm, B, cb, hm, _, _⟩, _⟩ := hr
  obtain ⟨x, ht⟩ := hm.cls
  obtain ⟨_, _, _, _, c4, _⟩ := ht.cells
  have hmap := hm.map
  rw [HN.out] at hmap
  have hlook := look7 hmap s hs
  rw [← HN.out, if_pos HP.out, decide_eq_false (by have := HP.out; omega)] at hlook
  clear hm ht hmap
  go_wp2_with fail
  go_ret
  exact ⟨rfl, HRR.out⟩

/-- where a name's count is -/
structure AtCount (S : Nat → Prop) (w : World) (b : Nat) (l ns : List ByteArray) (cs : List Int) (i g : Nat) (w' : World) : Prop where
  at_ : ∃ S' A n ca bm cb, PM w' b S' ns cs A n ca bm (some ⟨g, 0, none⟩) cb ∧ PT S' w' b l ns cs ∧ (∀ k, S' k → S k ∨ w.heap.size ≤ k)
  cell : ∃ h : i < cs.length, w'.cell? ⟨g, i, none⟩ = some (.int .i64 cs[i])
  thaw : w'.frozen? ⟨g, i, none⟩ = false
  row : ∃ cur, w'.heap[g]? = some (.cells cur 68 (0, 0))
  off : Off S w w'

theorem countOf_at (S : Nat → Prop) (b : Nat) (l ns : List ByteArray) (cs : List Int) (s : ByteArray) (i : Nat) (w : World) (h : PT S w b l ns cs) (hs : s.size ≤ 1000) (hp : placeT s ns = i) :
    Calls Tryd.prog 23 #[.pointer (some ⟨b, 0, none⟩), .string s] w fun e w' => ∃ g, e = .returned (.pointer (some ⟨g, i, none⟩)) ∧ AtCount S w b l ns cs i g w' := by
  have HR := Lib.hid (ready7_ok S b l ns cs w h)
  have HN := Lib.hid h.names
  have hlen := h.len
  obtain ⟨hin, _⟩ := placeT_is hp
  have hic : i < cs.length := by omega
  have HI := Lib.hid hic
  have HP := Lib.hid hp
  have hin9 : i ≤ 900 := by omega
  clear h hp hic hlen
  go_enter Tryd.func23, Tryd.ntmps23
  go_wp2_with fail
  refine HR.out.mono ?_
  rintro e w1 ⟨rfl, hr⟩
  obtain ⟨⟨S', A, n, ca, bm, B, cb, hm, hpt, hsub⟩, hoff⟩ := hr
  obtain ⟨x, ht⟩ := hm.cls
  obtain ⟨_, _, _, _, c4, c5⟩ := ht.cells
  have hmap := hm.map
  rw [HN.out] at hmap
  have hlook := look7 hmap s hs
  rw [← HN.out, HP.out, if_neg (by omega), decide_eq_true (by omega)] at hlook
  obtain ⟨g, rfl, d0, f0, hgl, hrow⟩ := ivs_cell hm.ct HI.out
  have hn : (i : Int) < (n : Int) := by
    have h1 := hm.ct.1
    rw [ivs_length] at h1
    have := HI.out
    omega
  have HF : Hid (AtCount S w b l ns cs i g w1) := Lib.hid ⟨⟨S', A, n, ca, bm, cb, hm, hpt, hsub⟩, ⟨HI.out, d0⟩, f0, hrow, hoff⟩
  clear hm ht hmap hpt hsub hoff d0 hrow
  go_wp2_with fail
  go_ret
  exact ⟨g, rfl, HF.out⟩

set_option maxHeartbeats 1000000 in
theorem pnew_ok (A : Option Addr) (N c : Nat) (l : List ByteArray) (w : World) (h : XR w A N l) (hN : N ≤ 900) (hs : ∀ s ∈ l, s.size ≤ 1000) :
    Calls Tryd.prog 8 #[.slice A N c] w fun e w' => ∃ S b, e = .returned (.pointer (some ⟨b, 0, none⟩)) ∧ PT S w' b l (newT l) (zeros (newT l).length) ∧ (∀ k, S k → w.heap.size ≤ k) ∧ Below w.heap.size w w' := by
  have HC := Lib.hid (clonet_ok A N c l w h (by omega))
  have HL := Lib.hid h.len
  have HS := Lib.hid hs
  clear h hs
  go_enter Tryd.func8, Tryd.ntmps8
  go_wp2_with fail
  refine HC.out.mono ?_
  rintro e w1 ⟨A', c', rfl, ho, k1⟩
  have hsz := k1.size
  have HO := Lib.hid ho
  have hll := HL.out
  have hpu : PU (w1.alloc (.cells #[.int .u32 0, .int .i32 0, .int .u32 0, .slice A' N c', .map none, .slice none 0 0] 59)) w1.heap.size (fun k => k = w1.heap.size ∨ (Value.slice A' N c').ownBlock = some k) l :=
    ⟨_, A', N, c', heap_alloc_new w1 _, own_base_s (ho.alloc _) (Nat.zero_le _), fun g e => .inr e⟩
  have hpt : PT (fun k => k = w1.heap.size ∨ (Value.slice A' N c').ownBlock = some k) (w1.alloc (.cells #[.int .u32 0, .int .i32 0, .int .u32 0, .slice A' N c', .map none, .slice none 0 0] 59)) w1.heap.size l (newT l) (zeros (newT l).length) := by
    refine ⟨rfl, by omega, HS.out, .inl rfl, ?_, .inl ⟨hpu, rfl⟩⟩
    rintro k (rfl | e)
    · simp
    · have := (ho.lt k e).2
      simp
      omega
  have HPT := Lib.hid hpt
  have kk := kp_alloc k1 (.cells #[.int .u32 0, .int .i32 0, .int .u32 0, .slice A' N c', .map none, .slice none 0 0] 59)
  have HK := Lib.hid kk
  clear hpt hpu ho kk
  go_wp2_with fail
  go_ret
  refine ⟨_, _, rfl, HPT.out, ?_, HK.out⟩
  rintro k (rfl | e)
  · exact hsz
  · exact (HO.out.lt k e).1

set_option maxHeartbeats 1000000 in
theorem names7_ok (S : Nat → Prop) (b : Nat) (l ns : List ByteArray) (cs : List Int) (w : World) (h : PT S w b l ns cs) :
    Calls Tryd.prog 11 #[.pointer (some ⟨b, 0, none⟩)] w fun e w' => ∃ A n c, e = .returned (.slice A n c) ∧ XR w' A n ns ∧ n ≤ 900 ∧ (∀ ad, A = some ad → w.heap.size ≤ ad.block ∧ ad.block < w'.heap.size) ∧ PC S w b l ns cs w' := by
  have HR := Lib.hid (ready7_ok S b l ns cs w h)
  have hlen := Lib.hid h.len
  clear h
  go_enter Tryd.func11, Tryd.ntmps11
  go_wp2_with fail
  refine HR.out.mono ?_
  rintro e w1 ⟨rfl, hr⟩
  obtain ⟨⟨S', A, n, ca, bm, B, cb, hm, hpt, hsub⟩, hoff⟩ := hr
  obtain ⟨x, ht⟩ := hm.cls
  obtain ⟨_, _, _, c3, _, _⟩ := ht.cells
  have hxr := XR.of_own hm.nm
  have hn9 : n ≤ 900 := by
    have := hxr.len
    have := hlen.out.2
    omega
  have HC := Lib.hid (clonet_ok A n ca ns w1 hxr (by omega))
  have HPT := Lib.hid hpt
  have HSUB := Lib.hid hsub
  have HOFF := Lib.hid hoff
  clear hm ht hxr hpt hsub hoff
  go_wp2_with fail
  refine HC.out.mono ?_
  rintro e w2 ⟨A', c', rfl, ho, k1⟩
  have HO := Lib.hid ho
  have HK := Lib.hid k1
  clear ho k1
  go_wp2_with fail
  go_ret
  refine ⟨A', n, c', rfl, XR.of_own HO.out, hn9, fun ad e => ?_, ⟨⟨S', HPT.out.next HK.out, HSUB.out⟩, HOFF.out.trans (Off.of (fun _ => False) HK.out) (fun i h => h.elim)⟩⟩
  have h1 := HO.out.lt ad.block (by rw [e]; rfl)
  have h2 := HOFF.out.size
  exact ⟨by omega, h1.2⟩

set_option maxHeartbeats 1000000 in
theorem count7_ok (S : Nat → Prop) (b : Nat) (l ns : List ByteArray) (cs : List Int) (s : ByteArray) (w : World) (h : PT S w b l ns cs) (hs : s.size ≤ 1000) :
    Calls Tryd.prog 16 #[.pointer (some ⟨b, 0, none⟩), .string s] w fun e w' => e = .returned (.tuple #[.int .i64 (countT ns cs s), .bool (decide (0 ≤ placeT s ns))]) ∧ PC S w b l ns cs w' := by
  have hC : countT ns cs s = if placeT s ns < 0 then 0 else cs.getD (placeT s ns).toNat 0 := rfl
  have hge := placeT_ge s ns
  by_cases hp : placeT s ns < 0
  · have HF := Lib.hid (countOf_no S b l ns cs s w h hs hp)
    rw [if_pos hp] at hC
    rw [hC, decide_eq_false (by omega)]
    clear h hC hp hge
    go_enter Tryd.func16, Tryd.ntmps16
    go_wp2_with fail
    refine HF.out.mono ?_
    rintro e w1 ⟨rfl, hr⟩
    have HR := Lib.hid hr
    clear hr
    go_wp2_with fail
    go_ret2
    exact ⟨rfl, HR.out.pc⟩
  · obtain ⟨i, hpi⟩ : ∃ i : Nat, placeT s ns = i := ⟨(placeT s ns).toNat, by omega⟩
    have HF := Lib.hid (countOf_at S b l ns cs s i w h hs hpi)
    rw [if_neg hp, hpi, Int.toNat_natCast] at hC
    rw [hC, hpi, decide_eq_true (by omega)]
    clear h hC hp hge hpi
    go_enter Tryd.func16, Tryd.ntmps16
    go_wp2_with fail
    refine HF.out.mono ?_
    rintro e w1 ⟨g, rfl, ha⟩
    obtain ⟨hic, hcell⟩ := ha.cell
    have HL := Lib.hid (atLoad_ok ⟨g, i, none⟩ cs[i] w1 hcell)
    have HE : Hid (cs.getD i 0 = cs[i]) := Lib.hid (by rw [List.getD_eq_getElem?_getD, List.getElem?_eq_getElem hic, Option.getD_some])
    have HA := Lib.hid ha
    generalize cs[i] = v at *
    clear ha hcell
    go_wp2_with fail
    refine HL.out.mono ?_
    rintro e w2 ⟨rfl, rfl⟩
    go_wp2_with fail
    go_ret2
    obtain ⟨S', A, n, ca, bm, cb, _, h2, h3⟩ := HA.out.at_
    exact ⟨by rw [HE.out]; rfl, ⟨⟨S', h2, h3⟩, HA.out.off⟩⟩

set_option maxHeartbeats 1000000 in
theorem add7_ok (S : Nat → Prop) (b : Nat) (l ns : List ByteArray) (cs : List Int) (s : ByteArray) (x : Int) (w : World) (h : PT S w b l ns cs) (hs : s.size ≤ 1000) :
    Calls Tryd.prog 12 #[.pointer (some ⟨b, 0, none⟩), .string s, .int .i64 x] w fun e w' => e = .returned (.bool (decide (0 ≤ placeT s ns))) ∧ PC S w b l ns (addT ns cs s x) w' := by
  have hC : addT ns cs s x = if placeT s ns < 0 then cs else moreT cs (placeT s ns).toNat x := rfl
  have hge := placeT_ge s ns
  by_cases hp : placeT s ns < 0
  · have HF := Lib.hid (countOf_no S b l ns cs s w h hs hp)
    rw [if_pos hp] at hC
    rw [hC, decide_eq_false (by omega)]
    clear h hC hp hge
    go_enter Tryd.func12, Tryd.ntmps12
    go_wp2_with fail
    refine HF.out.mono ?_
    rintro e w1 ⟨rfl, hr⟩
    have HR := Lib.hid hr
    clear hr
    go_wp2_with fail
    go_ret
    exact ⟨rfl, HR.out.pc⟩
  · obtain ⟨i, hpi⟩ : ∃ i : Nat, placeT s ns = i := ⟨(placeT s ns).toNat, by omega⟩
    have HF := Lib.hid (countOf_at S b l ns cs s i w h hs hpi)
    rw [if_neg hp, hpi, Int.toNat_natCast] at hC
    rw [hC, hpi, decide_eq_true (by omega)]
    clear h hC hp hge hpi
    go_enter Tryd.func12, Tryd.ntmps12
    go_wp2_with fail
    refine HF.out.mono ?_
    rintro e w1 ⟨g, rfl, ha⟩
    obtain ⟨hic, hcell⟩ := ha.cell
    have HL := Lib.hid (atAdd_ok ⟨g, i, none⟩ cs[i] x w1 hcell ha.thaw)
    have HE : Hid (moreT cs i x = cs.set i (wrapT (cs[i] + x))) := Lib.hid (by
      unfold moreT
      rw [List.getD_eq_getElem?_getD, List.getElem?_eq_getElem hic, Option.getD_some])
    have HA := Lib.hid ha
    generalize cs[i] = v at *
    clear ha hcell
    go_wp2_with fail
    refine HL.out.mono ?_
    rintro e w2 ⟨rfl, rfl⟩
    go_wp2_with fail
    go_ret
    obtain ⟨S', A, n, ca, bm, cb, h1, h2, h3⟩ := HA.out.at_
    refine ⟨rfl, ⟨⟨S', ?_, h3⟩, HA.out.off.setCell (h3 g (h1.sc g rfl)) _⟩⟩
    rw [HE.out]
    exact h2.set h1 HA.out.row i _

set_option maxHeartbeats 1000000 in
theorem swap7_ok (S : Nat → Prop) (b : Nat) (l ns : List ByteArray) (cs : List Int) (s : ByteArray) (x y : Int) (w : World) (h : PT S w b l ns cs) (hs : s.size ≤ 1000) :
    Calls Tryd.prog 14 #[.pointer (some ⟨b, 0, none⟩), .string s, .int .i64 x, .int .i64 y] w fun e w' => e = .returned (.bool (swapT ns cs s x y).2) ∧ PC S w b l ns (swapT ns cs s x y).1 w' := by
  have hC : swapT ns cs s x y = if placeT s ns < 0 then (cs, false) else if cs.getD (placeT s ns).toNat 0 = x then (cs.set (placeT s ns).toNat y, true) else (cs, false) := rfl
  have hge := placeT_ge s ns
  by_cases hp : placeT s ns < 0
  · have HF := Lib.hid (countOf_no S b l ns cs s w h hs hp)
    rw [if_pos hp] at hC
    rw [hC]
    clear h hC hp hge
    go_enter Tryd.func14, Tryd.ntmps14
    go_wp2_with fail
    refine HF.out.mono ?_
    rintro e w1 ⟨rfl, hr⟩
    have HR := Lib.hid hr
    clear hr
    go_wp2_with fail
    go_ret
    exact ⟨rfl, HR.out.pc⟩
  · obtain ⟨i, hpi⟩ : ∃ i : Nat, placeT s ns = i := ⟨(placeT s ns).toNat, by omega⟩
    have HF := Lib.hid (countOf_at S b l ns cs s i w h hs hpi)
    rw [if_neg hp, hpi, Int.toNat_natCast] at hC
    rw [hC]
    clear h hC hp hge hpi
    by_cases hx : cs.getD i 0 = x
    · rw [if_pos hx]
      have HX := Lib.hid hx
      clear hx
      go_enter Tryd.func14, Tryd.ntmps14
      go_wp2_with fail
      refine HF.out.mono ?_
      rintro e w1 ⟨g, rfl, ha⟩
      obtain ⟨hic, hcell⟩ := ha.cell
      have hv : cs[i] = x := by
        have := HX.out
        rwa [List.getD_eq_getElem?_getD, List.getElem?_eq_getElem hic, Option.getD_some] at this
      rw [hv] at hcell
      have HL := Lib.hid (atSwap_hit ⟨g, i, none⟩ x y w1 hcell ha.thaw)
      have HA := Lib.hid ha
      clear ha hcell hv
      go_wp2_with fail
      refine HL.out.mono ?_
      rintro e w2 ⟨rfl, rfl⟩
      go_wp2_with fail
      go_ret
      obtain ⟨S', A, n, ca, bm, cb, h1, h2, h3⟩ := HA.out.at_
      exact ⟨rfl, ⟨⟨S', h2.set h1 HA.out.row i _, h3⟩, HA.out.off.setCell (h3 g (h1.sc g rfl)) _⟩⟩
    · rw [if_neg hx]
      have HX := Lib.hid hx
      clear hx
      go_enter Tryd.func14, Tryd.ntmps14
      go_wp2_with fail
      refine HF.out.mono ?_
      rintro e w1 ⟨g, rfl, ha⟩
      obtain ⟨hic, hcell⟩ := ha.cell
      have hv : ¬ cs[i] = x := by
        have := HX.out
        rwa [List.getD_eq_getElem?_getD, List.getElem?_eq_getElem hic, Option.getD_some] at this
      have HL := Lib.hid (atSwap_miss ⟨g, i, none⟩ cs[i] x y w1 hcell ha.thaw hv)
      have HA := Lib.hid ha
      generalize cs[i] = v at *
      clear ha hcell hv
      go_wp2_with fail
      refine HL.out.mono ?_
      rintro e w2 ⟨rfl, rfl⟩
      go_wp2_with fail
      go_ret
      obtain ⟨S', A, n, ca, bm, cb, h1, h2, h3⟩ := HA.out.at_
      exact ⟨rfl, ⟨⟨S', h2, h3⟩, HA.out.off⟩⟩
end Go.Proofs.YtkkmjoadhjnldaaDoor
