/-
  The project's view as it lies; New, Epoch, Primary, forget, Learn, Later: contracts.
-/
import Derived.Test.YtpmkaceeomnijaaViK
import Derived.Test.YtpmkaceeomnijaaViF
import Derived.Test.YtpmkaceeomnijaaApp1
import Derived.Test.YtpmkaceeomnijaaApp2
import Derived.Lib.SliceRun
namespace Go.Proofs.Ytpmkaceeomnijaa
open Go.RowKit
set_option maxRecDepth 100000

theorem prominfo14 : (Try.prog.info? 57).map (fun i => (i.zero, i.size, i.bytes)) = some (some (.agg #[.int .u64 0, .int .u64 0]), 2, 16) := by kernel_rfl
theorem promsize14 : (Try.prog.info? (Try.prog.elem 52)).map (·.size) = some 2 := by kernel_rfl
/-- a view of the project's, as it lies -/
def PVp (b : Nat) (v : Vw) (S : Nat → Prop) (w : World) : Prop :=
  ∃ A n c l, w.heap[b]? = some (.cells #[.int .u64 v.ep, .int .i64 v.pr, .slice A n c] 54 (0, 0)) ∧ w.ownsRow 0 57 2 (.slice A n c) n (cuC l) ∧ Vk14 v l ∧ S b ∧ (∀ ad, A = some ad → S ad.block ∧ ad.block ≠ b) ∧ (∀ k, S k → k < w.heap.size)
def PV (b : Nat) (v : Vw) : Thing where
  p := PVp b v
  keep := fun ⟨A, n, c, l, h1, h2, h2', h3, h4, h5⟩ hk hz => ⟨A, n, c, l, (hk b h3).trans h1, own_keep h2 fun g e => by
    cases A with
    | none => cases e
    | some ad =>
      injection e with e
      subst e
      exact hk _ (h4 ad rfl).1, h2', h3, h4, fun k h => Nat.lt_of_lt_of_le (h5 k h) hz⟩
  lt := fun ⟨_, _, _, _, _, _, _, _, _, h5⟩ => h5
theorem cut14 (A : Option Addr) {n c k : Nat} (hk : k ≤ n) (hc : n ≤ c) (u : World) : (Instr.slice 52 (.slice A n c) none (some (.int .i64 (k : Int))) none).run Try.prog u = .ok (.slice A k c) u := by
  obtain ⟨ti, hti, hsz⟩ := Option.map_eq_some_iff.1 promsize14
  rw [run_slice_h u 52 A n c (by kernel_rfl) .i64 k (by omega) (by omega)]
  cases A with
  | none => simp [sizeOf, typeInfo, hti, hsz, sliced, Result.andThen]
  | some ad => simp [sizeOf, typeInfo, hti, hsz, sliced, Result.andThen, Addr.add]

section
variable {b : Nat} {v : Vw} {S : Nat → Prop} {w : World}
theorem PV.at_ (h : (PV b v).p S w) : ∃ A n c l, w.heap[b]? = some (.cells #[.int .u64 v.ep, .int .i64 v.pr, .slice A n c] 54 (0, 0)) ∧ w.ownsRow 0 57 2 (.slice A n c) n (cuC l) ∧ Vk14 v l ∧ S b ∧ (∀ ad, A = some ad → S ad.block ∧ ad.block ≠ b) ∧ (∀ k, S k → k < w.heap.size) := h
theorem PV.tops (h : (PV b v).p S w) : w.cell? ⟨b, 0, none⟩ = some (.int .u64 v.ep) ∧ w.cell? ⟨b, 1, none⟩ = some (.int .i64 v.pr) := by
  obtain ⟨A, n, c, l, h1, _⟩ := PV.at_ h
  exact ⟨(cellsAt h1 0 rfl).1, (cellsAt h1 1 rfl).1⟩
theorem pnew14_ok (pr : Int) (w : World) :
    Calls Try.prog 7 #[.int .i64 pr] w fun e w' => e = .returned (.pointer (some ⟨w.heap.size, 0, none⟩)) ∧ (PV w.heap.size (newVw pr)).p (fun k => k = w.heap.size) w' ∧ Below w.heap.size w w' := by
  go_enter Try.func7, Try.ntmps7
  go_wp2_with fail
  go_ret
  exact ⟨rfl, ⟨none, 0, 0, [], heap_alloc_new w _, ⟨rfl, .inl ⟨rfl, rfl⟩⟩, Vk14.nil _, rfl, fun _ e => (by cases e), fun k hk => by subst hk; simp⟩, kp_new w _⟩
theorem pepoch_ok (h : (PV b v).p S w) : Calls Try.prog 13 #[.pointer (some ⟨b, 0, none⟩)] w fun e w' => e = .returned (.int .u64 v.ep) ∧ Below w.heap.size w w' := by
  obtain ⟨c0, _⟩ := PV.tops h
  clear h
  go_enter Try.func13, Try.ntmps13
  go_wp2_with fail
  go_ret
  exact ⟨rfl, Below.refl _ _⟩
theorem pprimary_ok (h : (PV b v).p S w) : Calls Try.prog 14 #[.pointer (some ⟨b, 0, none⟩)] w fun e w' => e = .returned (.int .i64 v.pr) ∧ Below w.heap.size w w' := by
  obtain ⟨_, c1⟩ := PV.tops h
  clear h
  go_enter Try.func14, Try.ntmps14
  go_wp2_with fail
  go_ret
  exact ⟨rfl, Below.refl _ _⟩

set_option maxHeartbeats 8000000 in
theorem pforget_ok {A : Option Addr} {n c : Nat} {l : List (Int × Int)} (ep pr cut : Int) (hb : w.heap[b]? = some (.cells #[.int .u64 ep, .int .i64 pr, .slice A n c] 54 (0, 0))) (hx : w.ownsRow 0 57 2 (.slice A n c) n (cuC l)) (hr : List.Pairwise (fun a b : Int × Int => a.1 < b.1 ∧ a.2 < b.2) l) (hl : l.length ≤ 1000) :
    Calls Try.prog 22 #[.pointer (some ⟨b, 0, none⟩), .int .u64 cut] w fun e w' => e = .returned (.tuple #[]) ∧ ∃ k, k ≤ n ∧ w' = w.setCell ⟨b, 2, none⟩ (.slice A k c) ∧ (∀ y ∈ l.drop k, cut ≤ y.2) ∧ (∀ y ∈ l.take k, y.2 < cut) := by
  have hcu := CUR.of_own hx
  have hn := hcu.len
  have hnn : n ≤ 1000 := by omega
  obtain ⟨A', c', hv, hnc, _⟩ := own_form_s hx
  injection hv with ha _ hc
  subst ha hc
  obtain ⟨c2, f2⟩ := cellsAt hb 2 (v := .slice A n c) rfl
  have HX := Lib.hid hcu
  have HR := Lib.hid hr
  have HN := Lib.hid hn
  clear hb hx hr hcu hn hl
  go_enter Try.func22, Try.ntmps22
  go_wp2_with fail
  go_loopw [4] (fun i wr => ∃ k : Nat, k ≤ n ∧ i = .int .i64 k ∧ Hid (∀ y ∈ l.drop k, cut ≤ y.2) ∧ wr = w) (fun i _ => (intOf i).toNat)
  case atStart => exact ⟨n, Nat.le_refl _, rfl, Lib.hid (by rw [List.drop_of_length_le (by rw [HN.out]; exact Nat.le_refl _)]; intro y h; cases h), rfl⟩
  case round =>
    obtain ⟨k, hk, rfl, hd, rfl⟩ := hrel
    have HRUN := cut14 A hk hnc
    rcases Nat.eq_zero_or_pos k with h0 | hpos
    · have hg : decide ((0 : Int) < (k : Int)) = false := decide_eq_false (by omega)
      have HD := hd
      have HT : Hid (∀ y ∈ l.take k, y.2 < cut) := Lib.hid (by rw [h0]; intro y h; simp at h)
      clear hd
      subst h0
      go_wp2_with fail
      go_end0
      refine ⟨rfl, 0, hk, rfl, ?_⟩
      first | exact ⟨HD.out, HT.out⟩ | exact ⟨fun a b h => HD.out (a, b) h, fun a b h => by simp at h⟩
    · obtain ⟨s, hs⟩ : ∃ s, k = s + 1 := ⟨k - 1, by omega⟩
      have hsl : s < l.length := by rw [HN.out]; omega
      obtain ⟨ad, rfl, _, hc⟩ := HX.out.at_ hsl
      obtain ⟨d0, d1⟩ := hc wr (Below.refl _ _)
      have hsub : (k : Int) - 1 = (s : Int) := by omega
      have hwr1 : IntKind.i64.wrap ((k : Int) - 1) = (s : Int) := by rw [IntKind.wrap_i64]; omega
      have hwr2 : IntKind.i64.wrap (s : Int) = (s : Int) := by rw [IntKind.wrap_i64]; omega
      have hs0 : (0 : Int) ≤ (s : Int) := by omega
      have hs1 : (s : Int) < (n : Int) := by omega
      have HK : Hid (k = s + 1) := Lib.hid hs
      have HLS : Hid (∀ h : cut ≤ l[s].2, ∀ y ∈ l.drop s, cut ≤ y.2) := Lib.hid fun h y hy => by
        rw [List.drop_eq_getElem_cons hsl] at hy
        rcases List.mem_cons.1 hy with rfl | hy
        · exact h
        · exact hd.out y (by rw [HK.out]; exact hy)
      have HLT : Hid (∀ h : l[s].2 < cut, ∀ y ∈ l.take k, y.2 < cut) := Lib.hid fun h y hy => by
        rw [HK.out, List.take_succ_eq_append_getElem hsl] at hy
        rcases List.mem_append.1 hy with hy | hy
        · have hp := HR.out
          rw [← List.take_append_drop s l] at hp
          have := (List.pairwise_append.1 hp).2.2 y hy l[s] (by rw [List.drop_eq_getElem_cons hsl]; exact List.mem_cons_self)
          omega
        · obtain rfl := List.mem_singleton.1 hy
          exact h
      have HD := hd
      clear hd hc hs d0
      generalize l[s].2 = x2 at *
      have hg : decide ((0 : Int) < (k : Int)) = true := decide_eq_true (by omega)
      by_cases hge : cut ≤ x2
      · have HS := Lib.hid (HLS.out hge)
        clear HLS HLT HD HRUN
        go_wp2_with fail
        go_roundw
        case rel => exact ⟨s, by omega, by go_num, HS, trivial⟩
        case measure => simp [intOf]; omega
      · have hlt : x2 < cut := by omega
        have HT := Lib.hid (HLT.out hlt)
        clear HLS HLT
        go_wp2_with fail
        go_end0
        exact ⟨rfl, k, hk, rfl, fun a b h => HD.out (a, b) h, fun a b h => HT.out (a, b) h⟩

set_option maxHeartbeats 8000000 in
theorem plearn_ok {k : Nat} (m : Pm) (h : (PV b v).p S w) (hv : VwI k v) (hk : k ≤ 1000) :
    Calls Try.prog 15 #[.pointer (some ⟨b, 0, none⟩), .int .u64 m.e, .int .i64 m.p, .int .u64 m.c] w fun e w' => e = .returned (.bool (decide (v.ep < m.e))) ∧ Turn (PV b (learnC v m)) S w w' := by
  have HT := Lib.hid h
  obtain ⟨A, n, c, l, hb, hx, hkl, hS, hA, hlt⟩ := PV.at_ h
  obtain ⟨c0, f0⟩ := cellsAt hb 0 (v := .int .u64 v.ep) rfl
  obtain ⟨c1, f1⟩ := cellsAt hb 1 (v := .int .i64 v.pr) rfl
  have hll : l.length ≤ 1000 := Nat.le_trans hkl.len (Nat.le_trans hv.len hk)
  clear h
  by_cases hl : v.ep < m.e
  rotate_left
  · rw [decide_eq_false hl, show learnC v m = v from if_neg hl]
    have hl2 : m.e ≤ v.ep := by omega
    clear hl hx hA hlt hS hb hv hkl
    go_enter Try.func15, Try.ntmps15
    go_wp2_with fail
    go_ret
    exact ⟨rfl, Turn.here HT.out⟩
  · rw [decide_eq_true hl]
    have hl2 : ¬ m.e ≤ v.ep := by omega
    have HLE : Hid (learnC v m = ⟨m.e, m.p, v.l ++ [(m.e, m.c)]⟩) := Lib.hid (if_pos hl)
    have HNX : Hid (∀ j, (∀ y ∈ l.drop j, m.c ≤ y.2) → (∀ y ∈ l.take j, y.2 < m.c) → Vk14 (learnC v m) (l.take j ++ [(m.e, m.c)])) := Lib.hid fun j h1 h2 => hkl.learn hv m hl h1 h2
    obtain ⟨wq, hwq⟩ : ∃ y, (w.setCell ⟨b, 0, none⟩ (.int .u64 m.e)).setCell ⟨b, 1, none⟩ (.int .i64 m.p) = y := ⟨_, rfl⟩
    have hzq : wq.heap.size = w.heap.size := by rw [← hwq, set_size, set_size]
    have hbq : wq.heap[b]? = some (.cells #[.int .u64 m.e, .int .i64 m.p, .slice A n c] 54 (0, 0)) := by
      rw [← hwq]
      exact heap_setCell_same (w.setCell ⟨b, 0, none⟩ (.int .u64 m.e)) b 1 _ _ _ (heap_setCell_same w b 0 _ _ _ hb)
    have hoq : Off S w wq := hwq ▸ Off.setCell (Off.setCell (Off.refl S w) (.inl hS) _) (.inl hS) _
    have hne : ∀ ad, A = some ad → ad.block ≠ b := fun ad e => (hA ad e).2
    have hxq : wq.ownsRow 0 57 2 (.slice A n c) n (cuC l) := own_keep hx fun g e => by
      cases A with
      | none => cases e
      | some ad =>
        injection e with e
        subst e
        rw [← hwq]
        exact (set_other (hne ad rfl)).trans (set_other (hne ad rfl))
    have HF := Lib.hid (pforget_ok m.e m.p m.c hbq hxq hkl.ris hll)
    have HOQ := Lib.hid hoq
    have HBQ := Lib.hid hbq
    have HXQ := Lib.hid hxq
    have HWQ := Lib.hid hwq
    have HSB := Lib.hid hS
    have HLT := Lib.hid hlt
    have HAA := Lib.hid hA
    have HLL := Lib.hid hll
    have hltw : b < wq.heap.size := by rw [hzq]; exact hlt b hS
    have HLB := Lib.hid hltw
    have HLN : Hid (l.length = n) := Lib.hid (CUR.of_own hxq).len
    obtain ⟨i0, hi, hz0, hz1, hz2⟩ := info_parts prominfo14
    clear hl hb hx hS hA hlt hll hkl hv hwq hzq hbq hoq hne hxq hltw
    go_enter Try.func15, Try.ntmps15
    go_wp2_with fail
    rw [HWQ.out]
    refine HF.out.mono ?_
    rintro e w2 ⟨rfl, j, hj, hw2, hd, ht⟩
    have hb2 : w2.heap[b]? = some (.cells #[.int .u64 m.e, .int .i64 m.p, .slice A j c] 54 (0, 0)) := by
      rw [hw2]
      exact heap_setCell_same wq b 2 _ _ _ HBQ.out
    have hx2 : w2.ownsRow 0 57 2 (.slice A j c) j (cuC (l.take j)) := by
      rw [hw2]
      exact ownsRow_setCell_other (a := ⟨b, 2, none⟩) (own_take HXQ.out hj) (own_type_ne (own_take HXQ.out hj) HBQ.out (by decide)) _
    have ho2 : Off S w w2 := by rw [hw2]; exact Off.setCell HOQ.out (.inl HSB.out) _
    have HNX2 := Lib.hid (HNX.out j hd ht)
    obtain ⟨d2, g2⟩ := cellsAt hb2 2 (v := .slice A j c) rfl
    have HB2 := Lib.hid hb2
    have HO2 := Lib.hid ho2
    have HLB2 : Hid (b < w2.heap.size) := Lib.hid (Array.getElem?_eq_some_iff.1 hb2).1
    have HX3 := Lib.hid (hx2.alloc (.cells #[.int .u64 m.e, .int .u64 m.c] 57))
    have HR3 : Hid (Rd (w2.alloc (.cells #[.int .u64 m.e, .int .u64 m.c] 57)) (w2.heap.size + 1) (some ⟨w2.heap.size, 0, none⟩) [.int .u64 m.e, .int .u64 m.c]) := Lib.hid (Rd.new w2 57 [.int .u64 m.e, .int .u64 m.c])
    have hj2 : j ≤ 1000 := by have := HLN.out; have := HLL.out; omega
    obtain ⟨A5, c5, w5, hrun, hown5, hg5, hwh⟩ := run_append_wide (P := Try.prog) 52 52 57 i0 _ 2 16 Try.underlying52 hi hz0 hz1 hz2 rfl (by omega) HX3.out _ _ 1 [.int .u64 m.e, .int .u64 m.c] rfl HR3.out (by simp [Value.oneCell']) (by omega) (by omega)
    have HRUN := Lib.hid hrun
    have HO5 := Lib.hid hown5
    have HG5 := Lib.hid hg5
    have HWH := Lib.hid hwh
    have HB5 : Hid (w5.heap[b]? = some (.cells #[.int .u64 m.e, .int .i64 m.p, .slice A j c] 54 (0, 0))) := Lib.hid ((hg5.block b (by have := HLB2.out; simp; omega) (fun e => own_type_ne HX3.out (((World.grownBy_alloc w2 _ none).block _ HLB2.out (by simp)).trans HB2.out) (by decide) e.symm)).trans (((World.grownBy_alloc w2 _ none).block _ HLB2.out (by simp)).trans HB2.out))
    obtain ⟨k0, p0⟩ := cellsAt HB5.out 2 (v := .slice A j c) rfl
    clear hw2 hd ht hb2 hx2 ho2 HF HNX HWQ HBQ HXQ hrun hown5 hg5 hwh
    go_wp2_with (at_builtin; refine wpList_append_run rfl _ _ _ rfl _ _ rfl rfl HRUN.out ?_)
    go_ret
    have hb6 := heap_setCell_same w5 b 2 _ _ (.slice A5 (j + 1) c5) HB5.out
    have ho6 := ownsRow_setCell_other (a := ⟨b, 2, none⟩) HO5.out (own_type_ne HO5.out HB5.out (by decide)) (.slice A5 (j + 1) c5)
    have hz5 : w2.heap.size + 1 ≤ w5.heap.size := by have := HG5.out.size; simpa using this
    have hof5 : Off S w w5 := by
      refine HO2.out.trans (T := S) ⟨HG5.out.os, HG5.out.tape, HG5.out.output, by omega, fun k hk hn => ?_⟩ fun _ h => .inl h
      refine (HG5.out.block k (by simp; omega) fun e => ?_).trans ((World.grownBy_alloc w2 _ none).block k hk (by simp))
      cases A with
      | none => cases e
      | some ad =>
        injection e with e
        subst e
        exact hn (HAA.out ad rfl).1
    have hof : Off S w (w5.setCell ⟨b, 2, none⟩ (.slice A5 (j + 1) c5)) := Off.setCell hof5 (.inl HSB.out) _
    have hne5 : ∀ ad, A5 = some ad → ad.block ≠ b ∧ ad.block < w5.heap.size := fun ad e => by
      subst e
      have h1 := HO5.out.lt ad.block rfl
      refine ⟨fun e => own_type_ne HO5.out HB5.out (by decide) ?_, h1.2⟩
      rw [← e]
      rfl
    refine ⟨rfl, ⟨fun k => S k ∨ (∃ ad, A5 = some ad ∧ ad.block = k), ⟨A5, j + 1, c5, l.take j ++ [(m.e, m.c)], by rw [HLE.out]; exact hb6, by rw [cuC_append]; exact ho6, HNX2.out, .inl HSB.out, fun ad e => ⟨.inr ⟨ad, e, rfl⟩, (hne5 ad e).1⟩, fun k hk => ?_⟩, fun k hk => ?_⟩, hof⟩
    · rcases hk with hk | ⟨ad, e, rfl⟩
      · exact Nat.lt_of_lt_of_le (HLT.out k hk) hof.size
      · rw [set_size]
        exact (hne5 ad e).2
    · rcases hk with hk | ⟨ad, e, rfl⟩
      · exact .inl hk
      · rcases HWH.out with e2 | ⟨g, e2, hg⟩
        · cases A with
          | none =>
            rw [e] at e2
            cases e2
          | some ad0 =>
            rw [e] at e2
            injection e2 with e2
            rw [e2]
            exact .inl (HAA.out ad0 rfl).1
        · rw [e] at e2
          injection e2 with e2
          have := HO2.out.size
          simp only [World.size_alloc] at hg
          exact .inr (by omega)
end
end Go.Proofs.Ytpmkaceeomnijaa
