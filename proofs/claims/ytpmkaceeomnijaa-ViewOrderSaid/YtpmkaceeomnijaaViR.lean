/-
  The document's layer 14: views in memory; New, Learn, Bring, Covers, Later: contracts.
-/
import Derived.Test.YtpmkaceeomnijaaViP
import Derived.Test.YtpmkaceeomnijaaDuo
import Derived.BigRegion
import Derived.BigQuiet
namespace Go.Proofs.Ytpmkaceeomnijaa
open Go.RowKit
set_option maxRecDepth 100000

theorem cutinfo14 : (Try.prog.info? 60).map (fun i => (i.zero, i.size, i.bytes)) = some (some (.agg #[.int .u64 0, .int .u64 0]), 2, 16) := by kernel_rfl
/-- a view of the document's, as it lies -/
def RVp (b : Nat) (v : Vw) (S : Nat → Prop) (w : World) : Prop :=
  ∃ A n c, w.heap[b]? = some (.cells #[.int .u64 v.ep, .int .i64 v.pr, .slice A n c] 41 (0, 0)) ∧ CUR w A n v.l ∧ S b ∧ (∀ ad, A = some ad → S ad.block ∧ ad.block ≠ b) ∧ (∀ k, S k → k < w.heap.size)
def RV (b : Nat) (v : Vw) : Thing where
  p := RVp b v
  keep := fun ⟨A, n, c, h1, h2, h3, h4, h5⟩ hk hz => ⟨A, n, c, (hk b h3).trans h1, h2.off hz fun ad e => hk _ (h4 ad e).1, h3, h4, fun k h => Nat.lt_of_lt_of_le (h5 k h) hz⟩
  lt := fun ⟨_, _, _, _, _, _, _, h5⟩ => h5

theorem set_other {w : World} {p : Addr} {v : Value} {k : Nat} (h : k ≠ p.block) : (w.setCell p v).heap[k]? = w.heap[k]? := Below.heap_setCell _ _ _ _ fun e => h (by first | exact e | exact e.symm)
theorem set_size (w : World) (p : Addr) (v : Value) : (w.setCell p v).heap.size = w.heap.size := by simp [World.setCell]
theorem results_cell_tmp1 {fn : Func} {p u : Tmp} {ty : TypeId} (h : fn.results = #[.cell p ty, .tmp u]) (tmps : Array Value) (P : Program) (w : World) :
    (results fn tmps).run P w =
      ((asAddr (tmps.getD p undef)).run P w).andThen fun a w₁ => ((loadVar ty a).run P w₁).andThen fun v w₂ => .ok (.tuple #[v, tmps.getD u undef]) w₂ := by
  simp only [results, h]
  simp [Sem.run_bind, Result.andThen]
section
variable {b : Nat} {v : Vw} {S : Nat → Prop} {w : World}
theorem RV.at_ (h : (RV b v).p S w) : ∃ A n c, w.heap[b]? = some (.cells #[.int .u64 v.ep, .int .i64 v.pr, .slice A n c] 41 (0, 0)) ∧ CUR w A n v.l ∧ S b ∧ (∀ ad, A = some ad → S ad.block ∧ ad.block ≠ b) ∧ (∀ k, S k → k < w.heap.size) := h
theorem RV.tops (h : (RV b v).p S w) : w.cell? ⟨b, 0, none⟩ = some (.int .u64 v.ep) ∧ w.cell? ⟨b, 1, none⟩ = some (.int .i64 v.pr) := by
  obtain ⟨A, n, c, h1, _⟩ := RV.at_ h
  exact ⟨(cellsAt h1 0 rfl).1, (cellsAt h1 1 rfl).1⟩
theorem rnew14_ok (pr : Int) (w : World) :
    Calls Try.prog 8 #[.int .i64 pr] w fun e w' => e = .returned (.pointer (some ⟨w.heap.size, 0, none⟩)) ∧ (RV w.heap.size (newVw pr)).p (fun k => k = w.heap.size) w' ∧ Below w.heap.size w w' := by
  go_enter Try.func8, Try.ntmps8
  go_wp2_with fail
  go_ret
  exact ⟨rfl, ⟨none, 0, 0, heap_alloc_new w _, CUR.nil _, rfl, fun _ e => (by cases e), fun k hk => by subst hk; simp⟩, kp_new w _⟩

set_option maxHeartbeats 8000000 in
theorem rlearn_ok (m : Pm) (h : (RV b v).p S w) (hn : v.l.length ≤ 1000) :
    Calls Try.prog 16 #[.pointer (some ⟨b, 0, none⟩), .int .u64 m.e, .int .i64 m.p, .int .u64 m.c] w fun e w' => e = .returned (.bool (decide (v.ep < m.e))) ∧ Turn (RV b (learnC v m)) S w w' := by
  have HT := Lib.hid h
  obtain ⟨A, n, c, hb, hx, hS, hA, hlt⟩ := RV.at_ h
  obtain ⟨c0, f0⟩ := cellsAt hb 0 (v := .int .u64 v.ep) rfl
  obtain ⟨c1, f1⟩ := cellsAt hb 1 (v := .int .i64 v.pr) rfl
  obtain ⟨c2, f2⟩ := cellsAt hb 2 (v := .slice A n c) rfl
  clear h
  by_cases hl : v.ep < m.e
  rotate_left
  · rw [decide_eq_false hl, show learnC v m = v from if_neg hl]
    have hl2 : m.e ≤ v.ep := by omega
    clear hl hx hA hlt hS hb
    go_enter Try.func16, Try.ntmps16
    go_wp2_with fail
    go_ret
    exact ⟨rfl, Turn.here HT.out⟩
  · rw [decide_eq_true hl, show learnC v m = ⟨m.e, m.p, v.l ++ [(m.e, m.c)]⟩ from if_pos hl]
    have hl2 : ¬ m.e ≤ v.ep := by omega
    obtain ⟨wq, hwq⟩ : ∃ y, (w.setCell ⟨b, 0, none⟩ (.int .u64 m.e)).setCell ⟨b, 1, none⟩ (.int .i64 m.p) = y := ⟨_, rfl⟩
    have hzq : wq.heap.size = w.heap.size := by rw [← hwq, set_size, set_size]
    have hbq : wq.heap[b]? = some (.cells #[.int .u64 m.e, .int .i64 m.p, .slice A n c] 41 (0, 0)) := by
      rw [← hwq]
      exact heap_setCell_same (w.setCell ⟨b, 0, none⟩ (.int .u64 m.e)) b 1 _ _ _ (heap_setCell_same w b 0 _ _ _ hb)
    have hoq : Off S w wq := hwq ▸ Off.setCell (Off.setCell (Off.refl S w) (.inl hS) _) (.inl hS) _
    have hltb : b < wq.heap.size := by rw [hzq]; exact hlt b hS
    have hne : ∀ ad, A = some ad → ad.block ≠ b := fun ad e => (hA ad e).2
    have hxq : CUR wq A n v.l := hx.off (by rw [hzq]; exact Nat.le_refl _) fun ad e => by rw [← hwq]; exact (set_other (hne ad e)).trans (set_other (hne ad e))
    have HB1 : Hid ((wq.alloc (.cells #[] 60)).heap[b]? = some (.cells #[.int .u64 m.e, .int .i64 m.p, .slice A n c] 41 (0, 0))) := Lib.hid (((World.grownBy_alloc wq _ none).block _ hltb (by simp)).trans hbq)
    have HO1 : Hid ((wq.alloc (.cells #[] 60)).ownsRow wq.heap.size 60 2 (.slice (some ⟨w.heap.size, 0, none⟩) 0 0) 0 []) := Lib.hid (by rw [← hzq]; exact own_new_s wq wq.heap.size 2 60 0 [] rfl (Nat.le_refl _) (Nat.zero_le _))
    have HR1 := Lib.hid (hxq.next (kp_new wq (.cells #[] 60))).rd
    have HS1 := Lib.hid (show wq.heap.size ≤ (wq.alloc (.cells #[] 60)).heap.size by simp)
    have HN := Lib.hid hx.len
    have HNN : Hid (n ≤ 1000) := Lib.hid (by rw [← hx.len]; exact hn)
    have hltw : b < w.heap.size := hlt b hS
    have HWQ := Lib.hid hwq
    have HZQ := Lib.hid hzq
    have HLB := Lib.hid hltb
    have HOQ := Lib.hid hoq
    have HSB := Lib.hid hS
    have HLT := Lib.hid hlt
    obtain ⟨i0, hi, hz0, hz1, hz2⟩ := info_parts cutinfo14
    clear hbq hltb hzq hwq hb hx hxq hoq hne hl hlt hA hS hn
    go_enter Try.func16, Try.ntmps16
    go_wp2_with (at_builtin; first | (rw [HWQ.out]; refine wpList_append_rds rfl (.tmp 24) (.tmp 28) _ rfl wq.heap.size 60 i0 _ 2 16 Try.underlying39 hi hz0 hz1 hz2 rfl (by omega) _ 0 _ rfl HO1.out _ _ _ _ (cuC v.l) rfl (by rw [cuC_length, HN.out]) HR1.out (cuC_one _) (by have := HNN.out; unfold maxLen; omega) (by have := HNN.out; omega) HS1.out ?_; intro v3 w3 hown3 hg3; rw [Nat.zero_add, List.nil_append] at hown3; obtain ⟨A3, c3, rfl, _, _⟩ := own_form_s hown3; have HO3 := Lib.hid hown3; have HG3 := Lib.hid hg3; have HO4 := Lib.hid (hown3.alloc (.cells #[.int .u64 m.e, .int .u64 m.c] 60)); have HR4 : Hid (Rd (w3.alloc (.cells #[.int .u64 m.e, .int .u64 m.c] 60)) (w3.heap.size + 1) (some ⟨w3.heap.size, 0, none⟩) [.int .u64 m.e, .int .u64 m.c]) := Lib.hid (Rd.new w3 60 [.int .u64 m.e, .int .u64 m.c]); have HS4 := Lib.hid (show wq.heap.size ≤ (w3.alloc (.cells #[.int .u64 m.e, .int .u64 m.c] 60)).heap.size by have h1 := hg3.size; have h2 := HS1.out; simp; omega); have HB3 : Hid (w3.heap[b]? = some (.cells #[.int .u64 m.e, .int .i64 m.p, .slice A n c] 41 (0, 0))) := Lib.hid ((hg3.block b (by have := HS1.out; have := HLB.out; omega) (fun e => by have := (HO1.out.lt _ e.symm).1; have := HLB.out; omega)).trans HB1.out); clear hown3 hg3) | (refine wpList_append_rds rfl (.tmp 29) (.tmp 33) _ rfl wq.heap.size 60 i0 _ 2 16 Try.underlying39 hi hz0 hz1 hz2 rfl (by omega) _ n _ rfl HO4.out _ _ 1 _ [.int .u64 m.e, .int .u64 m.c] rfl rfl HR4.out (by simp [Value.oneCell']) (by have := HNN.out; unfold maxLen; omega) (by have := HNN.out; omega) HS4.out ?_; intro v5 w5 hown5 hg5; obtain ⟨A5, c5, rfl, _, _⟩ := own_form_s hown5; have HO5 := Lib.hid hown5; have HG5 := Lib.hid hg5; have HB5 : Hid (w5.heap[b]? = some (.cells #[.int .u64 m.e, .int .i64 m.p, .slice A n c] 41 (0, 0))) := Lib.hid ((hg5.block b (by have := HS4.out; have := HLB.out; omega) (fun e => by have := (HO4.out.lt _ e.symm).1; have := HLB.out; omega)).trans (((World.grownBy_alloc w3 _ none).block _ (Array.getElem?_eq_some_iff.1 HB3.out).1 (by simp)).trans HB3.out)); obtain ⟨k0, p0⟩ := cellsAt HB5.out 2 (v := .slice A n c) rfl; clear hown5 hg5))
    go_ret
    have hb6 := heap_setCell_same w5 b 2 _ _ (.slice A5 (n + 1) c5) HB5.out
    have ho6 := ownsRow_setCell_other (a := ⟨b, 2, none⟩) HO5.out (own_type_ne HO5.out HB5.out (by decide)) (.slice A5 (n + 1) c5)
    have k3 := (kp_new wq (.cells #[] 60)).trans (below_own_s HO1.out HG3.out HS1.out)
    have k5 := (kp_alloc k3 (.cells #[.int .u64 m.e, .int .u64 m.c] 60)).trans (below_own_s HO4.out HG5.out HS4.out)
    have hof : Off S w (w5.setCell ⟨b, 2, none⟩ (.slice A5 (n + 1) c5)) := Off.setCell (HOQ.out.trans (Off.of S k5) fun _ h => .inl h) (.inl HSB.out) _
    refine ⟨rfl, ⟨fun k => S k ∨ (w.heap.size ≤ k ∧ k < (w5.setCell ⟨b, 2, none⟩ (.slice A5 (n + 1) c5)).heap.size), ⟨A5, n + 1, c5, hb6, CUR.of_own (by rw [cuC_append]; exact ho6), .inl HSB.out, fun ad e => ?_, fun k hk => ?_⟩, fun k hk => hk.imp id And.left⟩, hof⟩
    · subst e
      have h1 := ho6.lt ad.block rfl
      refine ⟨.inr ⟨?_, h1.2⟩, ?_⟩
      · rw [← HZQ.out]; exact h1.1
      · have := HLB.out; omega
    · rcases hk with hk | hk
      · exact Nat.lt_of_lt_of_le (HLT.out k hk) hof.size
      · exact hk.2

set_option maxHeartbeats 8000000 in
theorem rbring_ok (t : Tk14) (h : (RV b v).p S w) (hn : v.l.length ≤ 1000) :
    Calls Try.prog 10 #[.pointer (some ⟨b, 0, none⟩), t.v] w fun e w' => e = .returned (.tuple #[(bringF v t).v, .bool (bringB v t)]) ∧ Below w.heap.size w w' := by
  obtain ⟨A, n, c, hb, hx, hS, hA, hlt⟩ := RV.at_ h
  obtain ⟨te, tp⟩ := t
  obtain ⟨w2, hw2⟩ : ∃ u, (w.alloc (.cells #[.int .u64 te, .int .u64 tp] 33)).alloc (.cells #[.int .u64 0, .int .u64 0] 33) = u := ⟨_, rfl⟩
  have k2 : Below w.heap.size w w2 := hw2 ▸ kp_alloc (kp_new _ _) _
  have hz2 : w2.heap.size = w.heap.size + 2 := by rw [← hw2]; simp
  have b1 : w2.heap[w.heap.size]? = some (.cells #[.int .u64 te, .int .u64 tp] 33 (0, 0)) := by
    rw [← hw2, heap_alloc_old _ _ (by simp)]
    exact heap_alloc_new w _
  have b2 : w2.heap[w.heap.size + 1]? = some (.cells #[.int .u64 0, .int .u64 0] 33 (0, 0)) := by
    rw [← hw2]
    have := heap_alloc_new (w.alloc (.cells #[.int .u64 te, .int .u64 tp] 33)) (.cells #[.int .u64 0, .int .u64 0] 33)
    rwa [World.size_alloc] at this
  have hbw : b < w.heap.size := hlt b hS
  have hb2 := (k2.block b hbw).trans hb
  have HB : Hid (∀ u, Below w2.heap.size w2 u → u.cell? ⟨b, 0, none⟩ = some (.int .u64 v.ep) ∧ u.cell? ⟨b, 2, none⟩ = some (.slice A n c) ∧ u.cell? ⟨w.heap.size, 0, none⟩ = some (.int .u64 te) ∧ u.cell? ⟨w.heap.size, 1, none⟩ = some (.int .u64 tp) ∧ u.cell? ⟨w.heap.size + 1, 0, none⟩ = some (.int .u64 0) ∧ u.cell? ⟨w.heap.size + 1, 1, none⟩ = some (.int .u64 0) ∧ u.frozen? ⟨w.heap.size + 1, 0, none⟩ = false ∧ u.frozen? ⟨w.heap.size + 1, 1, none⟩ = false) := Lib.hid fun u hu => by
    have h1 := (hu.block _ (by omega)).trans hb2
    have h2 := (hu.block _ (by omega)).trans b1
    have h3 := (hu.block _ (by omega)).trans b2
    exact ⟨(cellsAt h1 0 rfl).1, (cellsAt h1 2 rfl).1, (cellsAt h2 0 rfl).1, (cellsAt h2 1 rfl).1, (cellsAt h3 0 rfl).1, (cellsAt h3 1 rfl).1, (cellsAt h3 0 (v := .int .u64 0) rfl).2, (cellsAt h3 1 (v := .int .u64 0) rfl).2⟩
  have HX := Lib.hid (hx.next k2)
  have HXL : Hid (∀ ad, A = some ad → ad.block < w2.heap.size) := Lib.hid fun ad e => Nat.lt_of_lt_of_le (hlt _ (hA ad e).1) k2.size
  have HN := Lib.hid hx.len
  have HNN : Hid (n ≤ 1000) := Lib.hid (by rw [← hx.len]; exact hn)
  have hnn := HNN.out
  have HK2 := Lib.hid k2
  have HW2 := Lib.hid hw2
  obtain ⟨d0, _⟩ := cellsAt hb 0 (v := .int .u64 v.ep) rfl
  clear h hb hx hS hA hlt hb2 b1 b2 k2 hn hw2 hz2
  unfold Tk14.v
  by_cases hv : v.ep ≤ te
  · have e1 : bringF v ⟨te, tp⟩ = ⟨te, tp⟩ := if_pos hv
    have e2 : bringB v ⟨te, tp⟩ = true := decide_eq_true (.inl hv)
    rw [e1, e2]
    clear e1 e2 HX HXL HN HNN HW2 HK2 HB hnn
    go_enter Try.func10, Try.ntmps10
    go_wp2_with fail
    go_quiet (fail)
    go_wp2_with fail
    refine bodyPost_ret (v := .tuple #[.agg #[.int .u64 te, .int .u64 tp], .bool true]) ?_ rfl ⟨rfl, ?_⟩
    · rw [results_cell_tmp1 rfl]
      go_simp
    · exact (((kp_alloc (kp_new _ _) _).trans ((kp_drewN _ _).mono (by simp; omega))).setCell (Nat.le_succ _) _).setCell (Nat.le_succ _) _
  · have e1 : bringF v ⟨te, tp⟩ = ⟨v.ep, leftF te v.l tp⟩ := if_neg hv
    have e2 : bringB v ⟨te, tp⟩ = decide (leftF te v.l tp = tp) := decide_eq_decide.2 ⟨fun h => h.resolve_left hv, .inr⟩
    rw [e1, e2]
    clear e1 e2
    go_enter Try.func10, Try.ntmps10
    go_wp2_with fail
    go_quiet (fail)
    rw [HW2.out]
    have KQ := Lib.hid (kp_drewN w2 nq)
    obtain ⟨wq, hwq⟩ : ∃ u, w2.drewN nq = u := ⟨_, rfl⟩
    rw [hwq] at KQ ⊢
    obtain ⟨q0, q1, q2, q3, _⟩ := HB.out wq KQ.out
    clear hwq
    go_wp2_with fail
    go_loopw [6, 7] (fun lv i wr => ∃ k : Nat, k ≤ n ∧ i = .int .i64 k ∧ lv = .int .u64 (leftF te (v.l.take k) tp) ∧ Hid (Below w2.heap.size w2 wr)) (fun _ i _ => n - (intOf i).toNat)
    case atStart => exact ⟨0, Nat.zero_le _, rfl, rfl, KQ⟩
    case round =>
      obtain ⟨k, hk, rfl, rfl, hw⟩ := hrel
      clear KQ q0 q1 q2 q3
      obtain ⟨q0, q1, q2, q3, q4, q5, q6, q7⟩ := HB.out wr hw.out
      by_cases hlt : k < n
      · have hkl : k < v.l.length := by rw [HN.out]; exact hlt
        obtain ⟨ad, rfl, _, cx⟩ := HX.out.at_ hkl
        obtain ⟨d1, d2⟩ := cx wr hw.out
        have hnx : leftF te (v.l.take (k + 1)) tp = if te < v.l[k].1 ∧ v.l[k].2 < leftF te (v.l.take k) tp then v.l[k].2 else leftF te (v.l.take k) tp := by rw [List.take_succ_eq_append_getElem hkl, leftF_append]
        have hi0 : (0 : Int) ≤ (k : Int) := by omega
        have hi1 : (k : Int) < (n : Int) := by omega
        have HCX := Lib.hid (fun w' hw' => (cx w' hw').2)
        generalize v.l[k].1 = x1 at *
        generalize v.l[k].2 = x2 at *
        have HNX := Lib.hid hnx
        clear cx hnx
        obtain ⟨lv, hlv⟩ : ∃ x, leftF te (v.l.take k) tp = x := ⟨_, rfl⟩
        rw [hlv] at HNX ⊢
        clear hlv q4 q5 q6 q7
        by_cases h1 : te < x1
        · by_cases h2 : x2 < lv
          · rw [if_pos ⟨h1, h2⟩] at HNX
            go_wp2_with fail
            go_quiet (fail)
            have hw2 := Lib.hid (hw.out.trans ((kp_drewN wr nq).mono hw.out.size))
            obtain ⟨wz, hwz⟩ : ∃ u, wr.drewN nq = u := ⟨_, rfl⟩
            rw [hwz] at hw2 ⊢
            obtain ⟨_, z1, _⟩ := HB.out wz hw2.out
            have z2 := HCX.out wz hw2.out
            clear hwz hw d1 d2 q0 q1 q2 q3
            go_wp2_with fail
            go_roundw
            case rel => exact ⟨k + 1, by omega, by go_num, by rw [HNX.out], hw2⟩
            case measure => simp [intOf]; omega
          · rw [if_neg fun h => h2 h.2] at HNX
            go_wp2_with fail
            go_quiet (fail)
            have hw2 := Lib.hid (hw.out.trans ((kp_drewN wr nq).mono hw.out.size))
            obtain ⟨wz, hwz⟩ : ∃ u, wr.drewN nq = u := ⟨_, rfl⟩
            rw [hwz] at hw2 ⊢
            clear hwz hw d1 d2 q0 q1 q2 q3
            go_wp2_with fail
            go_roundw
            case rel => exact ⟨k + 1, by omega, by go_num, by rw [HNX.out], hw2⟩
            case measure => simp [intOf]; omega
        · rw [if_neg fun h => h1 h.1] at HNX
          have h1' : decide (te < x1) = false := decide_eq_false h1
          go_wp2_with fail
          go_quiet (fail)
          have hw2 := Lib.hid (hw.out.trans ((kp_drewN wr nq).mono hw.out.size))
          obtain ⟨wz, hwz⟩ : ∃ u, wr.drewN nq = u := ⟨_, rfl⟩
          rw [hwz] at hw2 ⊢
          clear hwz hw d1 d2 q0 q1 q2 q3
          go_wp2_with fail
          go_roundw
          case rel => exact ⟨k + 1, by omega, by go_num, by rw [HNX.out], hw2⟩
          case measure => simp [intOf]; omega
      · obtain rfl : k = n := by omega
        rw [List.take_of_length_le (by rw [HN.out]; exact Nat.le_refl _)]
        obtain ⟨lv, hlv⟩ : ∃ x, leftF te v.l tp = x := ⟨_, rfl⟩
        have HLV := Lib.hid hlv
        rw [hlv]
        clear hlv HX HN HNN HXL HW2
        go_wp2_with fail
        go_region
        go_wp2_with fail
        refine bodyPost_ret (v := .tuple #[.agg #[.int .u64 v.ep, .int .u64 lv], .bool (lv == tp)]) ?_ rfl ⟨by rw [HLV.out]; rfl, ?_⟩
        · rw [results_cell_tmp1 rfl]
          go_simp
        · exact (((HK2.out.trans (hw.out.mono HK2.out.size)).setCell (Nat.le_succ _) _).setCell (Nat.le_succ _) _).drew
theorem rcovers_ok (t : Tk14) (e p : Int) (h : (RV b v).p S w) (hn : v.l.length ≤ 1000) :
    Calls Try.prog 12 #[.pointer (some ⟨b, 0, none⟩), t.v, .int .u64 e, .int .u64 p] w fun e' w' => e' = .returned (.bool (coversB v t e p)) ∧ Below w.heap.size w w' := by
  obtain ⟨te, tp⟩ := t
  obtain ⟨w2, hw2⟩ : ∃ u, w.alloc (.cells #[.int .u64 te, .int .u64 tp] 33) = u := ⟨_, rfl⟩
  have k2 : Below w.heap.size w w2 := hw2 ▸ kp_new _ _
  have HR := Lib.hid (rbring_ok ⟨te, tp⟩ (Thing.next h k2) hn)
  obtain ⟨ub, hub⟩ : ∃ x, bringB v ⟨te, tp⟩ = x := ⟨_, rfl⟩
  obtain ⟨⟨ue, up⟩, hu⟩ : ∃ x, bringF v ⟨te, tp⟩ = x := ⟨_, rfl⟩
  unfold coversB
  rw [hub, hu] at HR ⊢
  dsimp only
  have HK := Lib.hid k2
  have HW := Lib.hid hw2
  clear hub hu h hn k2 hw2
  unfold Tk14.v at *
  dsimp only at HR
  go_enter Try.func12, Try.ntmps12
  go_wp2_with fail
  rw [HW.out]
  refine HR.out.mono ?_
  rintro e' w3 ⟨rfl, k3⟩
  have HK3 := Lib.hid (HK.out.trans (k3.mono HK.out.size))
  clear HR HK HW k3
  cases ub with
  | false =>
    go_wp2_with fail
    go_ret
    exact ⟨by simp, kp_alloc HK3.out _⟩
  | true =>
    by_cases h1 : ue = e
    · subst h1
      by_cases h2 : up ≤ p
      · go_wp2_with fail
        go_ret
        exact ⟨by simp, kp_alloc HK3.out _⟩
      · go_wp2_with fail
        go_ret
        exact ⟨by simp, kp_alloc HK3.out _⟩
    · have h1' : (ue == e) = false := by simpa using h1
      go_wp2_with fail
      go_ret
      exact ⟨by simp [h1], kp_alloc HK3.out _⟩
end
theorem rlater_ok (a c : Tk14) (w : World) :
    Calls Try.prog 18 #[a.v, c.v] w fun e w' => e = .returned (laterF a c).v ∧ Below w.heap.size w w' := by
  obtain ⟨ae, ap⟩ := a
  obtain ⟨ce, cp⟩ := c
  unfold laterF
  dsimp only
  by_cases h1 : ce < ae
  · rw [if_pos (.inl h1)]
    unfold Tk14.v
    go_enter Try.func18, Try.ntmps18
    go_wp2_with fail
    refine bodyPost_ret (v := .agg #[.int .u64 ae, .int .u64 ap]) ?_ rfl ⟨rfl, kp_alloc (kp_alloc (kp_new _ _) _) _⟩
    rw [results_cell1 rfl]
    go_simp
  by_cases h2 : ae = ce
  · subst h2
    by_cases h3 : cp < ap
    · rw [if_pos (.inr ⟨rfl, h3⟩)]
      unfold Tk14.v
      go_enter Try.func18, Try.ntmps18
      go_wp2_with fail
      refine bodyPost_ret (v := .agg #[.int .u64 ae, .int .u64 ap]) ?_ rfl ⟨rfl, kp_alloc (kp_alloc (kp_new _ _) _) _⟩
      rw [results_cell1 rfl]
      go_simp
    · rw [if_neg (by omega)]
      unfold Tk14.v
      go_enter Try.func18, Try.ntmps18
      go_wp2_with fail
      refine bodyPost_ret (v := .agg #[.int .u64 ae, .int .u64 cp]) ?_ rfl ⟨rfl, kp_alloc (kp_alloc (kp_new _ _) _) _⟩
      rw [results_cell1 rfl]
      go_simp
  · rw [if_neg (by omega)]
    have h2' : (ae == ce) = false := by simpa using h2
    unfold Tk14.v
    go_enter Try.func18, Try.ntmps18
    go_wp2_with fail
    refine bodyPost_ret (v := .agg #[.int .u64 ce, .int .u64 cp]) ?_ rfl ⟨rfl, kp_alloc (kp_alloc (kp_new _ _) _) _⟩
    rw [results_cell1 rfl]
    go_simp
end Go.Proofs.Ytpmkaceeomnijaa
