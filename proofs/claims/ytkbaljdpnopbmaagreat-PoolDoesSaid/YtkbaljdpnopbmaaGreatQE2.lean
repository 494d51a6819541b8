/-
  Contracts and plain functions that the law stands on, part 2 of 6.
-/
import Derived.Test.YtkbaljdpnopbmaaGreatQE1
import Derived.BigRegion
import Derived.BigQuiet
import Derived.RangeFuncNested
import Derived.RangeFuncBound
import Derived.RangeFuncCalls
import Derived.RangeFuncLeaves
import Derived.Shelf.Abstract
import Derived.Shelf.RegionOpen
import Derived.WalkKit
import Derived.OwnWalkIn
import Derived.TacticsInMore
import Derived.LoopNIn
import Derived.LoopIn
import Derived.StillTailTactics
import Derived.Lib.SliceRun
namespace Go.Proofs.YtkbaljdpnopbmaaGreat
/- The project's conn in memory: New, and what tells how it is: contracts. -/
section
open Go.RowKit
set_option maxRecDepth 100000

theorem cellsAt {w : World} {b : Nat} {cs : Array Value} {t : TypeId} (h : w.heap[b]? = some (.cells cs t (0, 0))) (i : Nat) {v : Value} (hi : cs[i]? = some v) : w.cell? ⟨b, i, none⟩ = some v ∧ w.frozen? ⟨b, i, none⟩ = false := by
  refine ⟨?_, frozen_of_row w b i cs t h⟩
  rw [cell_of_row _ _ i cs t (0, 0) h]
  exact hi
/-- a connection of the project's, as it lies -/
def ccells (ep : Int) (c : Cn) (z : Bool) : Array Value := #[.int .u64 ep, .int .i64 c.w, .int .u64 c.f, .int .i64 c.n, .int .u32 (bit c.d), .int .u32 (bit (c.g z))]
def CCp (b : Nat) (ep : Int) (c : Cn) (S : Nat → Prop) (w : World) : Prop :=
  ∃ z, w.heap[b]? = some (.cells (ccells ep c z) 128 (0, 0)) ∧ S b ∧ (∀ k, S k → k < w.heap.size) ∧ c.ok
def CC (b : Nat) (ep : Int) (c : Cn) : Thing where
  p := CCp b ep c
  keep := fun ⟨z, h1, h2, h3, h4⟩ hk hz => ⟨z, (hk b h2).trans h1, h2, fun k h => Nat.lt_of_lt_of_le (h3 k h) hz, h4⟩
  lt := fun ⟨_, _, _, h3, _⟩ => h3

section
variable {b : Nat} {ep : Int} {c : Cn} {S : Nat → Prop} {w : World}
theorem CC.at_ (h : (CC b ep c).p S w) : ∃ z, w.heap[b]? = some (.cells (ccells ep c z) 128 (0, 0)) ∧ S b ∧ (∀ k, S k → k < w.heap.size) ∧ c.ok := h
/-- what a call left of it -/
theorem CC.turn {w' : World} {c' : Cn} {z : Bool} (h : (CC b ep c).p S w) (hb : w'.heap[b]? = some (.cells (ccells ep c' z) 128 (0, 0))) (ho : Off S w w') (hc : c'.ok) : Turn (CC b ep c') S w w' := by
  obtain ⟨_, _, h2, h3, _⟩ := CC.at_ h
  exact ⟨⟨S, ⟨z, hb, h2, fun k hk => Nat.lt_of_lt_of_le (h3 k hk) ho.size, hc⟩, fun k hk => .inl hk⟩, ho⟩

theorem cnew_ok (ep : Int) (w : World) :
    Calls Tryz.prog 107 #[.int .u64 ep] w fun e w' => e = .returned (.pointer (some ⟨w.heap.size, 0, none⟩)) ∧ (CC w.heap.size ep (.idle false 0)).p (fun k => k = w.heap.size) w' ∧ Below w.heap.size w w' := by
  go_enter Tryz.func107, Tryz.ntmps107
  go_wp2_with fail
  go_ret
  exact ⟨rfl, ⟨false, heap_alloc_new w _, rfl, fun k hk => by subst hk; simp, trivial⟩, kp_new w _⟩

/-- who has it is somebody, where somebody has it -/
def Cn.held : Cn → Prop
  | .lent o _ _ _ => 1 ≤ o
  | .drains o _ _ _ => 1 ≤ o
  | _ => True
theorem Cn.ok.held : ∀ {c : Cn}, c.ok → c.held
  | .idle _ _, _ => trivial
  | .lent _ _ _ _, h => h
  | .drains _ _ _ _, h => h.1
  | .closed _ _, _ => trivial

theorem cstate_raw {z : Bool} (hb : w.heap[b]? = some (.cells (ccells ep c z) 128 (0, 0))) (hok : c.held) :
    Calls Tryz.prog 75 #[.pointer (some ⟨b, 0, none⟩)] w fun e w' => e = .returned (.int .i64 c.s) ∧ w = w' := by
  have H1 := Lib.hid (iLoad_ok ⟨b, 1, none⟩ c.w w (cellsAt hb 1 rfl).1)
  have H5 := Lib.hid (bLoad_ok ⟨b, 5, none⟩ (c.g z) w (cellsAt hb 5 rfl).1)
  clear hb
  cases c with
  | idle d n =>
    simp only [Cn.w, Cn.g] at H1 H5
    go_enter Tryz.func75, Tryz.ntmps75
    go_wp2_with fail
    refine H1.out.mono ?_
    rintro e w1 ⟨rfl, rfl⟩
    go_wp2_with fail
    go_ret
    exact ⟨rfl, rfl⟩
  | lent o f d n =>
    simp only [Cn.w, Cn.g] at H1 H5
    have h0 : (o == 0) = false := by simp; have : 1 ≤ o := hok; omega
    have h1 : (o == -1) = false := by simp; have : 1 ≤ o := hok; omega
    clear hok
    go_enter Tryz.func75, Tryz.ntmps75
    go_wp2_with fail
    refine H1.out.mono ?_
    rintro e w1 ⟨rfl, rfl⟩
    go_wp2_with fail
    refine H5.out.mono ?_
    rintro e w1 ⟨rfl, rfl⟩
    go_wp2_with fail
    go_ret
    exact ⟨rfl, rfl⟩
  | drains o f d n =>
    simp only [Cn.w, Cn.g] at H1 H5
    have h0 : (o == 0) = false := by simp; have : 1 ≤ o := hok; omega
    have h1 : (o == -1) = false := by simp; have : 1 ≤ o := hok; omega
    clear hok
    go_enter Tryz.func75, Tryz.ntmps75
    go_wp2_with fail
    refine H1.out.mono ?_
    rintro e w1 ⟨rfl, rfl⟩
    go_wp2_with fail
    refine H5.out.mono ?_
    rintro e w1 ⟨rfl, rfl⟩
    go_wp2_with fail
    go_ret
    exact ⟨rfl, rfl⟩
  | closed d n =>
    simp only [Cn.w, Cn.g] at H1 H5
    go_enter Tryz.func75, Tryz.ntmps75
    go_wp2_with fail
    refine H1.out.mono ?_
    rintro e w1 ⟨rfl, rfl⟩
    go_wp2_with fail
    go_ret
    exact ⟨rfl, rfl⟩
theorem cstate_ok (h : (CC b ep c).p S w) : Calls Tryz.prog 75 #[.pointer (some ⟨b, 0, none⟩)] w fun e w' => e = .returned (.int .i64 c.s) ∧ w = w' := by
  obtain ⟨z, hb, _, _, hok⟩ := CC.at_ h
  exact cstate_raw hb hok.held
theorem cowner_ok (h : (CC b ep c).p S w) : Calls Tryz.prog 76 #[.pointer (some ⟨b, 0, none⟩)] w fun e w' => e = .returned (.int .i64 c.o) ∧ w = w' := by
  obtain ⟨z, hb, _, _, hok⟩ := CC.at_ h
  have hk := hok.held
  have H1 := Lib.hid (iLoad_ok ⟨b, 1, none⟩ c.w w (cellsAt hb 1 rfl).1)
  clear hb hok h
  cases c with
  | idle d n =>
    simp only [Cn.w] at H1
    go_enter Tryz.func76, Tryz.ntmps76
    go_wp2_with fail
    refine H1.out.mono ?_
    rintro e w1 ⟨rfl, rfl⟩
    go_wp2_with fail
    go_ret
    exact ⟨rfl, rfl⟩
  | lent o f d n =>
    simp only [Cn.w] at H1
    have h1 : 1 ≤ o := hk
    clear hk
    go_enter Tryz.func76, Tryz.ntmps76
    go_wp2_with fail
    refine H1.out.mono ?_
    rintro e w1 ⟨rfl, rfl⟩
    go_wp2_with fail
    go_ret
    exact ⟨rfl, rfl⟩
  | drains o f d n =>
    simp only [Cn.w] at H1
    have h1 : 1 ≤ o := hk
    clear hk
    go_enter Tryz.func76, Tryz.ntmps76
    go_wp2_with fail
    refine H1.out.mono ?_
    rintro e w1 ⟨rfl, rfl⟩
    go_wp2_with fail
    go_ret
    exact ⟨rfl, rfl⟩
  | closed d n =>
    simp only [Cn.w] at H1
    go_enter Tryz.func76, Tryz.ntmps76
    go_wp2_with fail
    refine H1.out.mono ?_
    rintro e w1 ⟨rfl, rfl⟩
    go_wp2_with fail
    go_ret
    exact ⟨rfl, rfl⟩
theorem cflight_ok (h : (CC b ep c).p S w) : Calls Tryz.prog 77 #[.pointer (some ⟨b, 0, none⟩)] w fun e w' => e = .returned (.int .u64 c.f) ∧ w = w' := by
  obtain ⟨z, hb, _, _, hok⟩ := CC.at_ h
  have H1 := Lib.hid (uLoad_ok ⟨b, 2, none⟩ c.f w (cellsAt hb 2 rfl).1)
  clear hb hok h
  generalize c.f = f at *
  go_enter Tryz.func77, Tryz.ntmps77
  go_wp2_with fail
  refine H1.out.mono ?_
  rintro e w1 ⟨rfl, rfl⟩
  go_wp2_with fail
  go_ret
  exact ⟨rfl, rfl⟩
theorem cepoch_ok (h : (CC b ep c).p S w) : Calls Tryz.prog 59 #[.pointer (some ⟨b, 0, none⟩)] w fun e w' => e = .returned (.int .u64 ep) ∧ w = w' := by
  obtain ⟨z, hb, _, _, hok⟩ := CC.at_ h
  obtain ⟨c0, f0⟩ := cellsAt hb 0 (v := .int .u64 ep) rfl
  clear hb hok h
  go_enter Tryz.func59, Tryz.ntmps59
  go_wp2_with fail
  go_ret
  exact ⟨rfl, rfl⟩
end
end

/- The project's conn in memory: Lend, Send, Reply, Soil, Release, Drain, Break: contracts. -/
section
open Go.RowKit
set_option maxRecDepth 100000

section
variable {b : Nat} {ep : Int} {c : Cn} {S : Nat → Prop} {w : World}
/-- a cell of it is written -/
theorem cset {cs cs' : Array Value} {t : TypeId} (hb : w.heap[b]? = some (.cells cs t (0, 0))) (i : Nat) (v : Value) (hc : cs.setIfInBounds i v = cs') : (w.setCell ⟨b, i, none⟩ v).heap[b]? = some (.cells cs' t (0, 0)) := by
  rw [← hc]
  exact heap_setCell_same w b i _ _ _ hb
theorem Off.set1 {S : Nat → Prop} {w w' : World} {b : Nat} (h : Off S w w') (hb : S b) (i : Nat) (u : Value) : Off S w (w'.setCell ⟨b, i, none⟩ u) := h.setCell (p := ⟨b, i, none⟩) (.inl hb) u

theorem clend_ok (x : Int) (h : (CC b ep c).p S w) :
    Calls Tryz.prog 80 #[.pointer (some ⟨b, 0, none⟩), .int .i64 x] w fun e w' => e = .returned (.bool (c.lendA x)) ∧ Turn (CC b ep (c.lendC x)) S w w' := by
  have H := Lib.hid h
  obtain ⟨z, hb, hS, _, hok⟩ := CC.at_ h
  have hk := hok.held
  obtain ⟨c1, f1⟩ := cellsAt hb 1 (v := .int .i64 c.w) rfl
  clear h
  by_cases hx : 1 ≤ x
  · cases c with
    | idle d n =>
      have H1 := Lib.hid (iSwap_hit ⟨b, 1, none⟩ 0 x w c1 f1)
      have hA : Cn.lendA x (.idle d n) = true := by simpa [Cn.lendA] using hx
      have hC : Cn.lendC x (.idle d n) = .lent x 0 d n := by simp [Cn.lendC, hx]
      have HT : Hid (Turn (CC b ep (.lent x 0 d n)) S w (w.setCell ⟨b, 1, none⟩ (.int .i64 x))) := Lib.hid (CC.turn (z := z) H.out (cset hb 1 _ rfl) ((Off.refl _ _).set1 hS 1 _) hx)
      rw [hA, hC]
      clear hb hok hk c1 f1 H hA hC
      go_enter Tryz.func80, Tryz.ntmps80
      go_wp2_with fail
      refine H1.out.mono ?_
      rintro e w1 ⟨rfl, rfl⟩
      go_wp2_with fail
      go_ret
      exact ⟨rfl, HT.out⟩
    | lent o f d n =>
      have H1 := Lib.hid (iSwap_miss ⟨b, 1, none⟩ o 0 x w c1 f1 (by have : 1 ≤ o := hk; omega))
      clear hb hok hk c1 f1
      go_enter Tryz.func80, Tryz.ntmps80
      go_wp2_with fail
      refine H1.out.mono ?_
      rintro e w1 ⟨rfl, rfl⟩
      go_wp2_with fail
      go_ret
      exact ⟨rfl, Turn.here H.out⟩
    | drains o f d n =>
      have H1 := Lib.hid (iSwap_miss ⟨b, 1, none⟩ o 0 x w c1 f1 (by have : 1 ≤ o := hk; omega))
      clear hb hok hk c1 f1
      go_enter Tryz.func80, Tryz.ntmps80
      go_wp2_with fail
      refine H1.out.mono ?_
      rintro e w1 ⟨rfl, rfl⟩
      go_wp2_with fail
      go_ret
      exact ⟨rfl, Turn.here H.out⟩
    | closed d n =>
      have H1 := Lib.hid (iSwap_miss ⟨b, 1, none⟩ (-1) 0 x w c1 f1 (by decide))
      clear hb hok hk c1 f1
      go_enter Tryz.func80, Tryz.ntmps80
      go_wp2_with fail
      refine H1.out.mono ?_
      rintro e w1 ⟨rfl, rfl⟩
      go_wp2_with fail
      go_ret
      exact ⟨rfl, Turn.here H.out⟩
  · have hA : c.lendA x = false := by cases c <;> simp [Cn.lendA]; omega
    have hC : c.lendC x = c := by cases c <;> simp [Cn.lendC, hx]
    rw [hA, hC]
    clear hb hok hk c1 f1 hA hC
    go_enter Tryz.func80, Tryz.ntmps80
    go_wp2_with fail
    go_ret
    exact ⟨rfl, Turn.here H.out⟩

set_option maxHeartbeats 1000000 in
theorem csend_ok (y : Int) (h : (CC b ep c).p S w) :
    Calls Tryz.prog 46 #[.pointer (some ⟨b, 0, none⟩), .int .u64 y] w fun e w' => e = .returned (.int .i64 (c.sendA y)) ∧ Turn (CC b ep (c.sendC y)) S w w' := by
  have H := Lib.hid h
  obtain ⟨z, hb, hS, _, hok⟩ := CC.at_ h
  have HS := Lib.hid (cstate_ok h)
  clear h
  by_cases hy : y = 0
  · have hA : c.sendA y = 1 := by cases c <;> simp [Cn.sendA, hy]
    have hC : c.sendC y = c := by cases c <;> simp [Cn.sendC, hy]
    have hy1 : (y == 0) = true := by simpa using hy
    rw [hA, hC]
    clear hb hok hA hC hy HS
    go_enter Tryz.func46, Tryz.ntmps46
    go_wp2_with fail
    go_ret
    exact ⟨rfl, Turn.here H.out⟩
  · have hy1 : (y == 0) = false := by simpa using hy
    cases c with
    | idle d n =>
      have hA : Cn.sendA y (.idle d n) = 7 := by simp [Cn.sendA, hy]
      rw [hA]
      clear hb hok hA hy
      go_enter Tryz.func46, Tryz.ntmps46
      go_wp2_with fail
      refine HS.out.mono ?_
      rintro e w1 ⟨rfl, rfl⟩
      dsimp only [Cn.s]
      go_wp2_with fail
      go_ret
      exact ⟨rfl, Turn.here H.out⟩
    | drains o f d n =>
      have hA : Cn.sendA y (.drains o f d n) = 7 := by simp [Cn.sendA, hy]
      rw [hA]
      clear hb hok hA hy
      go_enter Tryz.func46, Tryz.ntmps46
      go_wp2_with fail
      refine HS.out.mono ?_
      rintro e w1 ⟨rfl, rfl⟩
      dsimp only [Cn.s]
      go_wp2_with fail
      go_ret
      exact ⟨rfl, Turn.here H.out⟩
    | closed d n =>
      have hA : Cn.sendA y (.closed d n) = 7 := by simp [Cn.sendA, hy]
      rw [hA]
      clear hb hok hA hy
      go_enter Tryz.func46, Tryz.ntmps46
      go_wp2_with fail
      refine HS.out.mono ?_
      rintro e w1 ⟨rfl, rfl⟩
      dsimp only [Cn.s]
      go_wp2_with fail
      go_ret
      exact ⟨rfl, Turn.here H.out⟩
    | lent o f d n =>
      obtain ⟨c2, f2⟩ := cellsAt hb 2 (v := .int .u64 f) rfl
      by_cases hf : f = 0
      · have hA : Cn.sendA y (.lent o f d n) = 0 := by simp [Cn.sendA, hy, hf]
        have hC : Cn.sendC y (.lent o f d n) = .lent o y d (IntKind.i64.wrap (n + 1)) := by simp [Cn.sendC, hy, hf]
        rw [hA, hC]
        rw [hf] at c2
        have H1 := Lib.hid (uSwap_hit ⟨b, 2, none⟩ 0 y w c2 f2)
        have hb1 := cset hb 2 (.int .u64 y) (cs' := ccells ep (.lent o y d n) z) rfl
        have HO := Lib.hid ((Off.refl S w).set1 hS 2 (.int .u64 y))
        obtain ⟨w2, hw2⟩ : ∃ u, u = w.setCell ⟨b, 2, none⟩ (.int .u64 y) := ⟨_, rfl⟩
        rw [← hw2] at H1 hb1 HO
        obtain ⟨c3, f3⟩ := cellsAt hb1 3 (v := .int .i64 n) rfl
        have H2 := Lib.hid (iAdd_ok ⟨b, 3, none⟩ n 1 w2 c3 f3)
        have HT : Hid (Turn (CC b ep (.lent o y d (IntKind.i64.wrap (n + 1)))) S w (w2.setCell ⟨b, 3, none⟩ (.int .i64 (IntKind.i64.wrap (n + 1))))) := Lib.hid (CC.turn (z := z) H.out (cset hb1 3 _ rfl) (HO.out.set1 hS 3 _) hok)
        generalize IntKind.i64.wrap (n + 1) = m at *
        clear hb hok hA hC hy hb1 c3 f3 hf c2 f2 H HO hw2
        go_enter Tryz.func46, Tryz.ntmps46
        go_wp2_with fail
        refine HS.out.mono ?_
        rintro e w1 ⟨rfl, rfl⟩
        dsimp only [Cn.s]
        go_wp2_with fail
        refine H1.out.mono ?_
        rintro e w1 ⟨rfl, rfl⟩
        go_wp2_with fail
        refine H2.out.mono ?_
        rintro e w1 ⟨rfl, rfl⟩
        go_wp2_with fail
        go_ret
        exact ⟨rfl, HT.out⟩
      · have hA : Cn.sendA y (.lent o f d n) = 7 := by simp [Cn.sendA, hy, hf]
        have hC : Cn.sendC y (.lent o f d n) = .lent o f d n := by simp [Cn.sendC, hf]
        rw [hA, hC]
        have H1 := Lib.hid (uSwap_miss ⟨b, 2, none⟩ f 0 y w c2 f2 hf)
        clear hb hok hA hC hy hf c2 f2
        go_enter Tryz.func46, Tryz.ntmps46
        go_wp2_with fail
        refine HS.out.mono ?_
        rintro e w1 ⟨rfl, rfl⟩
        dsimp only [Cn.s]
        go_wp2_with fail
        refine H1.out.mono ?_
        rintro e w1 ⟨rfl, rfl⟩
        go_wp2_with fail
        go_ret
        exact ⟨rfl, Turn.here H.out⟩

set_option maxHeartbeats 1000000 in
theorem creply_ok (y : Int) (h : (CC b ep c).p S w) :
    Calls Tryz.prog 49 #[.pointer (some ⟨b, 0, none⟩), .int .u64 y] w fun e w' => e = .returned (.bool (c.replyA y)) ∧ Turn (CC b ep (c.replyC y)) S w w' := by
  have H := Lib.hid h
  obtain ⟨z, hb, hS, _, hok⟩ := CC.at_ h
  have hk := hok.held
  obtain ⟨c2, f2⟩ := cellsAt hb 2 (v := .int .u64 c.f) rfl
  clear h
  by_cases hy : y = 0
  · have hA : c.replyA y = false := by simp [Cn.replyA, hy]
    have hC : c.replyC y = c := by cases c <;> simp [Cn.replyC, hy]
    have hy1 : (y == 0) = true := by simpa using hy
    rw [hA, hC]
    clear hb hok hA hC hy c2 f2 hk
    go_enter Tryz.func49, Tryz.ntmps49
    go_wp2_with fail
    go_ret
    exact ⟨rfl, Turn.here H.out⟩
  · have hy1 : (y == 0) = false := by simpa using hy
    by_cases hf : c.f = y
    · have hA : c.replyA y = true := by simp [Cn.replyA, hy, hf]
      rw [hA]
      rw [hf] at c2
      have H1 := Lib.hid (uSwap_hit ⟨b, 2, none⟩ y 0 w c2 f2)
      cases c with
      | idle d n => exact absurd hf.symm hy
      | closed d n => exact absurd hf.symm hy
      | lent o f d n =>
        have hf' : f = y := hf
        have hC : Cn.replyC y (.lent o f d n) = .lent o 0 d n := by simp [Cn.replyC, hy, hf']
        rw [hC]
        have hb1 := cset hb 2 (.int .u64 0) (cs' := ccells ep (.lent o 0 d n) z) rfl
        have HO := Lib.hid ((Off.refl S w).set1 hS 2 (.int .u64 0))
        obtain ⟨w2, hw2⟩ : ∃ u, u = w.setCell ⟨b, 2, none⟩ (.int .u64 0) := ⟨_, rfl⟩
        rw [← hw2] at H1 hb1 HO
        have HS := Lib.hid (cstate_raw hb1 hk)
        have HT : Hid (Turn (CC b ep (.lent o 0 d n)) S w w2) := Lib.hid (CC.turn (z := z) H.out hb1 HO.out hok)
        clear hb hok hk hA hC hy hb1 hf hf' c2 f2 H HO hw2
        go_enter Tryz.func49, Tryz.ntmps49
        go_wp2_with fail
        refine H1.out.mono ?_
        rintro e w1 ⟨rfl, rfl⟩
        go_wp2_with fail
        refine HS.out.mono ?_
        rintro e w1 ⟨rfl, rfl⟩
        dsimp only [Cn.s]
        go_wp2_with fail
        go_ret
        exact ⟨rfl, HT.out⟩
      | drains o f d n =>
        have hf' : f = y := hf
        have hC : Cn.replyC y (.drains o f d n) = .closed d n := by simp [Cn.replyC, hy, hf']
        rw [hC]
        have hb1 := cset hb 2 (.int .u64 0) (cs' := ccells ep (.drains o 0 d n) z) rfl
        have HO := Lib.hid ((Off.refl S w).set1 hS 2 (.int .u64 0))
        obtain ⟨w2, hw2⟩ : ∃ u, u = w.setCell ⟨b, 2, none⟩ (.int .u64 0) := ⟨_, rfl⟩
        rw [← hw2] at H1 hb1 HO
        have HS := Lib.hid (cstate_raw hb1 hk)
        obtain ⟨d1, g1⟩ := cellsAt hb1 1 (v := .int .i64 o) rfl
        have H2 := Lib.hid (iStore_ok ⟨b, 1, none⟩ _ (-1) w2 d1 g1)
        have HT : Hid (Turn (CC b ep (.closed d n)) S w (w2.setCell ⟨b, 1, none⟩ (.int .i64 (-1)))) := Lib.hid (CC.turn (z := true) H.out (cset hb1 1 _ rfl) (HO.out.set1 hS 1 _) trivial)
        clear hb hok hk hA hC hy hb1 hf hf' c2 f2 H HO hw2 d1 g1
        go_enter Tryz.func49, Tryz.ntmps49
        go_wp2_with fail
        refine H1.out.mono ?_
        rintro e w1 ⟨rfl, rfl⟩
        go_wp2_with fail
        refine HS.out.mono ?_
        rintro e w1 ⟨rfl, rfl⟩
        dsimp only [Cn.s]
        go_wp2_with fail
        refine H2.out.mono ?_
        rintro e w1 ⟨rfl, rfl⟩
        go_wp2_with fail
        go_ret
        exact ⟨rfl, HT.out⟩
    · have hA : c.replyA y = false := by simp [Cn.replyA, hf]
      have hC : c.replyC y = c := by
        cases c <;> simp only [Cn.replyC]
        · exact if_neg (fun h => hf h.2)
        · exact if_neg (fun h => hf h.2)
      rw [hA, hC]
      have H1 := Lib.hid (uSwap_miss ⟨b, 2, none⟩ c.f y 0 w c2 f2 hf)
      clear hb hok hA hC hy hf c2 f2 hk
      generalize c.f = f at *
      go_enter Tryz.func49, Tryz.ntmps49
      go_wp2_with fail
      refine H1.out.mono ?_
      rintro e w1 ⟨rfl, rfl⟩
      go_wp2_with fail
      go_ret
      exact ⟨rfl, Turn.here H.out⟩

theorem csoil_ok (h : (CC b ep c).p S w) :
    Calls Tryz.prog 53 #[.pointer (some ⟨b, 0, none⟩)] w fun e w' => e = .returned (.bool c.soilA) ∧ Turn (CC b ep c.soilC) S w w' := by
  have H := Lib.hid h
  obtain ⟨z, hb, hS, _, hok⟩ := CC.at_ h
  have HS := Lib.hid (cstate_ok h)
  clear h
  cases c with
  | lent o f d n =>
    obtain ⟨c4, f4⟩ := cellsAt hb 4 (v := .int .u32 (bit d)) rfl
    have H1 := Lib.hid (bStore_ok ⟨b, 4, none⟩ _ w c4 f4)
    have HT : Hid (Turn (CC b ep (.lent o f true n)) S w (w.drew.setCell ⟨b, 4, none⟩ (.int .u32 (bit true)))) := Lib.hid (CC.turn (z := z) H.out (cset (w := w.drew) hb 4 _ rfl) ((Off.refl S w).drew.set1 hS 4 _) hok)
    clear hb hok c4 f4 H
    go_enter Tryz.func53, Tryz.ntmps53
    go_wp2_with fail
    refine HS.out.mono ?_
    rintro e w1 ⟨rfl, rfl⟩
    dsimp only [Cn.s]
    go_wp2_with fail
    refine H1.out.mono ?_
    rintro e w1 ⟨rfl, rfl⟩
    go_wp2_with fail
    go_ret
    exact ⟨rfl, HT.out⟩
  | idle d n | drains o f d n | closed d n =>
    clear hb hok
    go_enter Tryz.func53, Tryz.ntmps53
    go_wp2_with fail
    refine HS.out.mono ?_
    rintro e w1 ⟨rfl, rfl⟩
    dsimp only [Cn.s]
    go_wp2_with fail
    go_ret
    exact ⟨rfl, Turn.here H.out⟩

set_option maxHeartbeats 1000000 in
theorem crelease_ok (h : (CC b ep c).p S w) :
    Calls Tryz.prog 91 #[.pointer (some ⟨b, 0, none⟩)] w fun e w' => e = .returned (.bool c.releaseA) ∧ Turn (CC b ep c.releaseC) S w w' := by
  have H := Lib.hid h
  obtain ⟨z, hb, hS, _, hok⟩ := CC.at_ h
  have HS := Lib.hid (cstate_ok h)
  obtain ⟨c1, f1⟩ := cellsAt hb 1 (v := .int .i64 c.w) rfl
  have H1 := Lib.hid (iLoad_ok ⟨b, 1, none⟩ c.w w c1)
  clear h
  cases c with
  | idle d n | drains o f d n | closed d n =>
    clear hb hok c1 f1
    simp only [Cn.w] at H1
    go_enter Tryz.func91, Tryz.ntmps91
    go_wp2_with fail
    refine H1.out.mono ?_
    rintro e w1 ⟨rfl, rfl⟩
    go_wp2_with fail
    refine HS.out.mono ?_
    rintro e w1 ⟨rfl, rfl⟩
    dsimp only [Cn.s]
    go_wp2_with fail
    go_ret
    exact ⟨rfl, Turn.here H.out⟩
  | lent o f d n =>
    have H2 := Lib.hid (uLoad_ok ⟨b, 2, none⟩ f w (cellsAt hb 2 rfl).1)
    simp only [Cn.w] at H1 c1
    by_cases hf : f = 0
    · have hf1 : (f == 0) = true := by simpa using hf
      have hA : Cn.releaseA (.lent o f d n) = true := by simpa [Cn.releaseA] using hf
      have H4 := Lib.hid (bLoad_ok ⟨b, 4, none⟩ d w (cellsAt hb 4 rfl).1)
      rw [hA]
      cases d with
      | true =>
        have hC : Cn.releaseC (.lent o f true n) = .closed true n := by simp [Cn.releaseC, hf]
        have H5 := Lib.hid (iSwap_hit ⟨b, 1, none⟩ o (-1) w c1 f1)
        have HT : Hid (Turn (CC b ep (.closed true n)) S w (w.setCell ⟨b, 1, none⟩ (.int .i64 (-1)))) := Lib.hid (CC.turn (z := false) H.out (by subst hf; exact cset hb 1 _ rfl) ((Off.refl S w).set1 hS 1 _) trivial)
        rw [hC]
        clear hb hok c1 f1 H hA hC hf
        go_enter Tryz.func91, Tryz.ntmps91
        go_wp2_with fail
        refine H1.out.mono ?_
        rintro e w1 ⟨rfl, rfl⟩
        go_wp2_with fail
        refine HS.out.mono ?_
        rintro e w1 ⟨rfl, rfl⟩
        dsimp only [Cn.s]
        go_wp2_with fail
        refine H2.out.mono ?_
        rintro e w1 ⟨rfl, rfl⟩
        go_wp2_with fail
        refine H4.out.mono ?_
        rintro e w1 ⟨rfl, rfl⟩
        go_wp2_with fail
        refine H5.out.mono ?_
        rintro e w1 ⟨rfl, rfl⟩
        go_wp2_with fail
        go_ret
        exact ⟨rfl, HT.out⟩
      | false =>
        have hC : Cn.releaseC (.lent o f false n) = .idle false n := by simp [Cn.releaseC, hf]
        have H5 := Lib.hid (iSwap_hit ⟨b, 1, none⟩ o 0 w c1 f1)
        have HT : Hid (Turn (CC b ep (.idle false n)) S w (w.setCell ⟨b, 1, none⟩ (.int .i64 0))) := Lib.hid (CC.turn (z := false) H.out (by subst hf; exact cset hb 1 _ rfl) ((Off.refl S w).set1 hS 1 _) trivial)
        rw [hC]
        clear hb hok c1 f1 H hA hC hf
        go_enter Tryz.func91, Tryz.ntmps91
        go_wp2_with fail
        refine H1.out.mono ?_
        rintro e w1 ⟨rfl, rfl⟩
        go_wp2_with fail
        refine HS.out.mono ?_
        rintro e w1 ⟨rfl, rfl⟩
        dsimp only [Cn.s]
        go_wp2_with fail
        refine H2.out.mono ?_
        rintro e w1 ⟨rfl, rfl⟩
        go_wp2_with fail
        refine H4.out.mono ?_
        rintro e w1 ⟨rfl, rfl⟩
        go_wp2_with fail
        refine H5.out.mono ?_
        rintro e w1 ⟨rfl, rfl⟩
        go_wp2_with fail
        go_ret
        exact ⟨rfl, HT.out⟩
    · have hf1 : (f == 0) = false := by simpa using hf
      have hA : Cn.releaseA (.lent o f d n) = false := by simpa [Cn.releaseA] using hf
      have hC : Cn.releaseC (.lent o f d n) = .lent o f d n := by simp [Cn.releaseC, hf]
      rw [hA, hC]
      clear hb hok c1 f1 hA hC hf
      go_enter Tryz.func91, Tryz.ntmps91
      go_wp2_with fail
      refine H1.out.mono ?_
      rintro e w1 ⟨rfl, rfl⟩
      go_wp2_with fail
      refine HS.out.mono ?_
      rintro e w1 ⟨rfl, rfl⟩
      dsimp only [Cn.s]
      go_wp2_with fail
      refine H2.out.mono ?_
      rintro e w1 ⟨rfl, rfl⟩
      go_wp2_with fail
      go_ret
      exact ⟨rfl, Turn.here H.out⟩

theorem cdrain_ok (h : (CC b ep c).p S w) :
    Calls Tryz.prog 60 #[.pointer (some ⟨b, 0, none⟩)] w fun e w' => e = .returned (.tuple #[]) ∧ Turn (CC b ep c.drainC) S w w' := by
  have H := Lib.hid h
  obtain ⟨z, hb, hS, _, hok⟩ := CC.at_ h
  obtain ⟨c1, f1⟩ := cellsAt hb 1 (v := .int .i64 c.w) rfl
  obtain ⟨c5, f5⟩ := cellsAt hb 5 (v := .int .u32 (bit (c.g z))) rfl
  have H2 := Lib.hid (uLoad_ok ⟨b, 2, none⟩ c.f w (cellsAt hb 2 rfl).1)
  have H1 := Lib.hid (iStore_ok ⟨b, 1, none⟩ _ (-1) w c1 f1)
  have H5 := Lib.hid (bStore_ok ⟨b, 5, none⟩ _ w c5 f5)
  clear h c1 f1 c5 f5
  by_cases hf : c.f = 0
  · have HT : Hid (Turn (CC b ep c.drainC) S w (w.setCell ⟨b, 1, none⟩ (.int .i64 (-1)))) := Lib.hid (by
      cases c with
      | idle d n => exact CC.turn (z := false) H.out (cset hb 1 _ rfl) ((Off.refl S w).set1 hS 1 _) trivial
      | lent o f d n =>
        have hf' : f = 0 := hf
        subst hf'
        exact CC.turn (z := false) H.out (cset hb 1 _ rfl) ((Off.refl S w).set1 hS 1 _) trivial
      | drains o f d n => exact absurd hf hok.2
      | closed d n => exact CC.turn (z := z) H.out (cset hb 1 _ rfl) ((Off.refl S w).set1 hS 1 _) trivial)
    have hf1 : (c.f == 0) = true := by simpa using hf
    generalize c.drainC = c' at *
    generalize c.f = f at *
    clear hb hok H hf H5
    go_enter Tryz.func60, Tryz.ntmps60
    go_wp2_with fail
    refine H2.out.mono ?_
    rintro e w1 ⟨rfl, rfl⟩
    go_wp2_with fail
    refine H1.out.mono ?_
    rintro e w1 ⟨rfl, rfl⟩
    go_wp2_with fail
    go_end0
    exact ⟨rfl, HT.out⟩
  · have HT : Hid (Turn (CC b ep c.drainC) S w (w.drew.setCell ⟨b, 5, none⟩ (.int .u32 (bit true)))) := Lib.hid (by
      cases c with
      | idle d n => exact absurd rfl hf
      | lent o f d n =>
        have hf' : f ≠ 0 := hf
        have hC : Cn.drainC (.lent o f d n) = .drains o f d n := by simp [Cn.drainC, hf']
        rw [hC]
        exact CC.turn (z := z) H.out (cset (w := w.drew) hb 5 _ rfl) ((Off.refl S w).drew.set1 hS 5 _) ⟨hok, hf'⟩
      | drains o f d n => exact CC.turn (z := z) H.out (cset (w := w.drew) hb 5 _ rfl) ((Off.refl S w).drew.set1 hS 5 _) hok
      | closed d n => exact absurd rfl hf)
    have hf1 : (c.f == 0) = false := by simpa using hf
    generalize c.drainC = c' at *
    generalize c.f = f at *
    clear hb hok H hf H1
    go_enter Tryz.func60, Tryz.ntmps60
    go_wp2_with fail
    refine H2.out.mono ?_
    rintro e w1 ⟨rfl, rfl⟩
    go_wp2_with fail
    refine H5.out.mono ?_
    rintro e w1 ⟨rfl, rfl⟩
    go_wp2_with fail
    first | go_end0 | (simp only [Exit.inBlock, Exit.then]; refine bodyPost_ret (results_none rfl _ _ _) rfl ?_) | refine bodyPost_ret (results_none rfl _ _ _) rfl ?_
    exact ⟨rfl, HT.out⟩

theorem cbreak_ok (h : (CC b ep c).p S w) :
    Calls Tryz.prog 56 #[.pointer (some ⟨b, 0, none⟩)] w fun e w' => e = .returned (.int .u64 c.f) ∧ Turn (CC b ep c.breakC) S w w' := by
  have H := Lib.hid h
  obtain ⟨z, hb, hS, _, hok⟩ := CC.at_ h
  obtain ⟨c1, f1⟩ := cellsAt hb 1 (v := .int .i64 c.w) rfl
  have H1 := Lib.hid (iStore_ok ⟨b, 1, none⟩ _ (-1) w c1 f1)
  have hb1 : (w.setCell ⟨b, 1, none⟩ (.int .i64 (-1))).heap[b]? = some (.cells #[.int .u64 ep, .int .i64 (-1), .int .u64 c.f, .int .i64 c.n, .int .u32 (bit c.d), .int .u32 (bit (c.g z))] 128 (0, 0)) := cset hb 1 _ rfl
  have HO := Lib.hid ((Off.refl S w).set1 hS 1 (.int .i64 (-1)))
  obtain ⟨w2, hw2⟩ : ∃ u, u = w.setCell ⟨b, 1, none⟩ (.int .i64 (-1)) := ⟨_, rfl⟩
  rw [← hw2] at H1 hb1 HO
  obtain ⟨c2, f2⟩ := cellsAt hb1 2 (v := .int .u64 c.f) rfl
  have H2 := Lib.hid (uChange_ok ⟨b, 2, none⟩ c.f 0 w2 c2 f2)
  have HT : Hid (Turn (CC b ep c.breakC) S w (w2.setCell ⟨b, 2, none⟩ (.int .u64 0))) := Lib.hid (CC.turn (z := c.g z) H.out (cset hb1 2 _ rfl) (HO.out.set1 hS 2 _) trivial)
  clear h hb hok H hb1 c1 f1 c2 f2 HO hw2
  generalize c.breakC = c' at *
  generalize c.f = f at *
  go_enter Tryz.func56, Tryz.ntmps56
  go_wp2_with fail
  refine H1.out.mono ?_
  rintro e w1 ⟨rfl, rfl⟩
  go_wp2_with fail
  refine H2.out.mono ?_
  rintro e w1 ⟨rfl, rfl⟩
  go_wp2_with fail
  go_ret
  exact ⟨rfl, HT.out⟩
end
end

/- The project's layer 8: a ring in an array, by the call: contracts. -/
section
open Go.RowKit
set_option maxRecDepth 100000

/-- a ring r of twelve, from f on: it says l -/
structure RingAt (r : List Int) (f : Nat) (l : List Int) : Prop where
  size : r.length = 12
  first : f < 12
  len : l.length ≤ 12
  at_ : ∀ i (hi : i < l.length), r[(f + i) % 12]? = some l[i]
theorem RingAt.nil {r : List Int} (h : r.length = 12) : RingAt r 0 [] := ⟨h, by decide, by decide, fun i hi => absurd hi (by simp)⟩
theorem RingAt.get {r : List Int} {f : Nat} {l : List Int} (h : RingAt r f l) {i : Nat} (hi : i < l.length) : ∃ hj : (f + i) % 12 < r.length, r[(f + i) % 12] = l[i] := by
  have := h.at_ i hi
  obtain ⟨h1, h2⟩ := List.getElem?_eq_some_iff.1 this
  exact ⟨h1, h2⟩
theorem RingAt.put {r : List Int} {f : Nat} {l : List Int} (h : RingAt r f l) (hl : l.length < 12) (x : Int) : RingAt (r.set ((f + l.length) % 12) x) f (l ++ [x]) := by
  have hs := h.size
  have hf := h.first
  refine ⟨by rw [List.length_set]; exact hs, hf, by simp; omega, fun i hi => ?_⟩
  rw [List.length_append, List.length_singleton] at hi
  by_cases he : i = l.length
  · subst he
    rw [List.getElem?_set_self (by omega)]
    simp
  · have hi2 : i < l.length := by omega
    rw [List.getElem?_set_ne (by omega), h.at_ i hi2, List.getElem_append_left hi2]
theorem RingAt.take {r : List Int} {f : Nat} {x : Int} {l : List Int} (h : RingAt r f (x :: l)) : RingAt r ((f + 1) % 12) l := by
  have hl := h.len
  refine ⟨h.size, by omega, by simp at hl; omega, fun i hi => ?_⟩
  have := h.at_ (i + 1) (by simpa using hi)
  rw [show ((f + 1) % 12 + i) % 12 = (f + (i + 1)) % 12 by omega, this]
  rfl
theorem RingAt.set {r : List Int} {f : Nat} {l : List Int} (h : RingAt r f l) {i : Nat} (hi : i < l.length) (z : Int) : RingAt (r.set ((f + i) % 12) z) f (l.set i z) := by
  have hs := h.size
  have hf := h.first
  have hl := h.len
  refine ⟨by rw [List.length_set]; exact hs, hf, by simpa using hl, fun j hj => ?_⟩
  have hj2 : j < l.length := by simpa using hj
  by_cases he : i = j
  · subst he
    rw [List.getElem?_set_self (by omega)]
    simp
  · rw [List.getElem?_set_ne (by omega), h.at_ j hj2, List.getElem_set_ne he]
theorem RingAt.cut {r : List Int} {f : Nat} {l : List Int} (h : RingAt r f l) (k : Nat) : RingAt r f (l.take k) := by
  have hl := h.len
  refine ⟨h.size, h.first, by rw [List.length_take]; omega, fun i hi => ?_⟩
  rw [List.length_take] at hi
  rw [h.at_ i (by omega), List.getElem_take]

/-- all behind a place close up: the first j of them have -/
def shiftW (a j : Nat) (l : List Int) : List Int := (l.take a ++ (l.drop (a + 1)).take j) ++ l.drop (a + j)
theorem shiftW_len {a j : Nat} {l : List Int} (h : a + j + 1 ≤ l.length) : (shiftW a j l).length = l.length := by
  simp [shiftW]; omega
theorem shiftW_zero (a : Nat) (l : List Int) : shiftW a 0 l = l := by simp [shiftW]
theorem shiftW_get {a j : Nat} {l : List Int} (h : a + j + 1 ≤ l.length) (k : Nat) (hk : k < l.length) (hjk : a + j ≤ k) : (shiftW a j l)[k]'(by rw [shiftW_len h]; exact hk) = l[k] := by
  unfold shiftW
  rw [List.getElem_append_right (by simp; omega)]
  simp
  congr 1
  omega
theorem shiftW_at? {a j : Nat} {l : List Int} (h : a + j + 1 ≤ l.length) (k : Nat) : (shiftW a j l)[k]? = if k < a then l[k]? else if k < a + j then l[k + 1]? else l[k]? := by
  unfold shiftW
  rw [List.getElem?_append, List.getElem?_append]
  simp only [List.length_append, List.length_take, List.length_drop]
  by_cases h1 : k < a
  · rw [if_pos (by omega), if_pos (by omega), if_pos h1, List.getElem?_take, if_pos h1]
  · rw [if_neg h1]
    by_cases h2 : k < a + j
    · rw [if_pos (by omega), if_neg (by omega), if_pos h2, List.getElem?_take, if_pos (by omega), List.getElem?_drop]
      congr 1; omega
    · rw [if_neg (by omega), if_neg h2, List.getElem?_drop]
      congr 1; omega
theorem shiftW_next {a j : Nat} {l : List Int} (h : a + j + 1 < l.length) : (shiftW a j l).set (a + j) l[a + j + 1] = shiftW a (j + 1) l := by
  apply List.ext_getElem?
  intro k
  rw [shiftW_at? (by omega), List.getElem?_set, shiftW_len (by omega), shiftW_at? (by omega)]
  by_cases he : a + j = k
  · subst he
    rw [if_pos rfl, if_pos (by omega), if_neg (by omega), if_pos (by omega), List.getElem?_eq_getElem h]
  · rw [if_neg he]
    split
    · rfl
    · by_cases h3 : k < a + j
      · rw [if_pos h3, if_pos (by omega)]
      · rw [if_neg h3, if_neg (by omega)]
theorem shiftW_end {a j : Nat} {l : List Int} (h : a + j + 1 = l.length) : (shiftW a j l).take (a + j) = l.take a ++ l.drop (a + 1) := by
  unfold shiftW
  rw [List.take_append_of_le_length (by simp; omega), List.take_of_length_le (by simp; omega), List.take_of_length_le (l := l.drop (a + 1)) (by simp; omega)]

/-- a row's cells -/
def rowC (r : List Int) (f n : Nat) (m : Int) : Array Value := (ivs r ++ ([.int .i64 f, .int .i64 n, .int .i64 m] : List Value)).toArray
/-- a row of the project's, as it lies -/
structure PRow (w : World) (b : Nat) (r : List Int) (f n : Nat) (m : Int) : Prop where
  heap : w.heap[b]? = some (.cells (rowC r f n m) 104 (0, 0))
  size : r.length = 12
section
variable {w : World} {b : Nat} {r : List Int} {f n : Nat} {m : Int}
theorem PRow.ring (h : PRow w b r f n m) {j : Nat} (hj : j < r.length) : w.cell? ⟨b, j, none⟩ = some (.int .i64 r[j]) := by
  have hs := h.size
  rw [cell_of_row _ _ j _ _ _ h.heap]
  simp only [rowC, List.getElem?_toArray]
  rw [List.getElem?_append_left (by rw [ivs_length]; exact hj)]
  simp [ivs, hj]
theorem PRow.cells (h : PRow w b r f n m) : w.cell? ⟨b, 12, none⟩ = some (.int .i64 f) ∧ w.cell? ⟨b, 13, none⟩ = some (.int .i64 n) ∧ w.cell? ⟨b, 14, none⟩ = some (.int .i64 m) := by
  have hs := h.size
  have key : ∀ (j : Nat) (v : Value), ([.int .i64 f, .int .i64 n, .int .i64 m] : List Value)[j]? = some v → w.cell? ⟨b, 12 + j, none⟩ = some v := fun j v hv => by
    rw [cell_of_row _ _ (12 + j) _ _ _ h.heap]
    simp only [rowC, List.getElem?_toArray]
    rw [List.getElem?_append_right (by rw [ivs_length]; omega), ivs_length, hs, show 12 + j - 12 = j by omega]
    exact hv
  exact ⟨key 0 _ rfl, key 1 _ rfl, key 2 _ rfl⟩
theorem PRow.froz (h : PRow w b r f n m) (j : Nat) : w.frozen? ⟨b, j, none⟩ = false := by simp [World.frozen?, h.heap]
theorem PRow.lt (h : PRow w b r f n m) : b < w.heap.size := (Array.getElem?_eq_some_iff.1 h.heap).1
theorem PRow.setRing (h : PRow w b r f n m) {j : Nat} (hj : j < 12) (z : Int) : PRow (w.setCell ⟨b, j, none⟩ (.int .i64 z)) b (r.set j z) f n m := by
  have hs := h.size
  refine ⟨?_, by rw [List.length_set]; exact hs⟩
  rw [heap_setCell_same w b j _ _ _ h.heap]
  congr 2
  simp only [rowC, List.setIfInBounds_toArray, ivs_set]
  rw [List.set_append_left _ _ (by rw [ivs_length]; omega)]
theorem PRow.setLate (h : PRow w b r f n m) {j : Nat} (v : Value) (f' n' : Nat) (hv : ([.int .i64 f, .int .i64 n, .int .i64 m] : List Value).set j v = [.int .i64 f', .int .i64 n', .int .i64 m]) : PRow (w.setCell ⟨b, 12 + j, none⟩ v) b r f' n' m := by
  have hs := h.size
  refine ⟨?_, hs⟩
  rw [heap_setCell_same w b (12 + j) _ _ _ h.heap]
  congr 2
  simp only [rowC, List.setIfInBounds_toArray]
  rw [List.set_append_right _ _ (by rw [ivs_length]; omega), ivs_length, hs, show 12 + j - 12 = j by omega, hv]
theorem PRow.setFirst (h : PRow w b r f n m) (f' : Nat) : PRow (w.setCell ⟨b, 12, none⟩ (.int .i64 f')) b r f' n m := h.setLate (j := 0) _ f' n rfl
theorem PRow.setCount (h : PRow w b r f n m) (n' : Nat) : PRow (w.setCell ⟨b, 13, none⟩ (.int .i64 n')) b r f n' m := h.setLate (j := 1) _ f n' rfl
theorem PRow.of {w' : World} (h : PRow w b r f n m) (hk : w'.heap[b]? = w.heap[b]?) : PRow w' b r f n m := ⟨hk.trans h.heap, h.size⟩

set_option maxHeartbeats 2000000 in
theorem place_ok (k : Nat) (h : PRow w b r f n m) (hf : f < 12) (hk : k ≤ 12) :
    Calls Tryz.prog 78 #[.pointer (some ⟨b, 0, none⟩), .int .i64 k] w fun e w' => e = .returned (.pointer (some ⟨b, (f + k) % 12, none⟩)) ∧ w'.heap = w.heap ∧ Below w.heap.size w w' := by
  obtain ⟨c12, _, _⟩ := h.cells
  obtain ⟨q, hq⟩ : ∃ q, q = (f + k) % 12 := ⟨_, rfl⟩
  have hrem : Int.tmod ((f : Int) + k) 12 = (q : Int) := by
    rw [hq, show ((f : Int) + k) = ((f + k : Nat) : Int) by omega]
    rfl
  have hq0 : (0 : Int) ≤ q := by omega
  have hq1 : (q : Int) < 12 := by omega
  have hwr : IntKind.i64.wrap ((f : Int) + k) = (f : Int) + k := by rw [IntKind.wrap_i64]; omega
  rw [← hq]
  clear h hq
  go_enter Tryz.func78, Tryz.ntmps78
  go_wp2_with fail
  go_quiet (fail)
  go_wp2_with fail
  go_ret
  exact ⟨rfl, rfl, kp_drewN _ _⟩
end
end

/- The document's layer 8: rows of who waits, by the call: contracts. -/
section
open Go.RowKit
set_option maxRecDepth 100000

theorem intinfo8 : (Tryz.prog.info? 3).map (fun i => (i.zero, i.size, i.bytes)) = some (some (.int .i64 0), 1, 8) := by kernel_rfl
/-- a row of the document's, as it lies -/
def RWp (b : Nat) (m : Int) (l : List Int) (S : Nat → Prop) (w : World) : Prop :=
  ∃ A n c, w.heap[b]? = some (.cells #[.slice A n c, .int .i64 m] 48 (0, 0)) ∧ NS w A n c l ∧ S b ∧ (∀ ad, A = some ad → S ad.block) ∧ (∀ k, S k → k < w.heap.size) ∧ (l.length : Int) ≤ m ∧ m ≤ 12
def RW (b : Nat) (m : Int) (l : List Int) : Thing where
  p := RWp b m l
  keep := fun ⟨A, n, c, h1, h2, h3, h4, h5, h6, h7⟩ hk hz => ⟨A, n, c, (hk b h3).trans h1, h2.off hz fun ad e => hk _ (h4 ad e), h3, h4, fun k h => Nat.lt_of_lt_of_le (h5 k h) hz, h6, h7⟩
  lt := fun ⟨_, _, _, _, _, _, _, h5, _⟩ => h5

section
variable {b : Nat} {m : Int} {l : List Int} {S : Nat → Prop} {w : World}
theorem RW.at_ (h : (RW b m l).p S w) : ∃ A n c, w.heap[b]? = some (.cells #[.slice A n c, .int .i64 m] 48 (0, 0)) ∧ NS w A n c l ∧ S b ∧ (∀ ad, A = some ad → S ad.block) ∧ (∀ k, S k → k < w.heap.size) ∧ (l.length : Int) ≤ m ∧ m ≤ 12 := h
/-- a row that a call left, its numbers in a new block -/
theorem RW.turn {w' : World} {l' : List Int} {A : Option Addr} {n c : Nat} (h : (RW b m l).p S w) (hb : w'.heap[b]? = some (.cells #[.slice A n c, .int .i64 m] 48 (0, 0))) (hx : w'.ownsRow w.heap.size 3 1 (.slice A n c) n (ivs l')) (ho : Off S w w') (hl : (l'.length : Int) ≤ m) : Turn (RW b m l') S w w' := by
  obtain ⟨A0, n0, c0, h1, h2, h3, h4, h5, h6, h7⟩ := RW.at_ h
  refine ⟨⟨fun k => S k ∨ (w.heap.size ≤ k ∧ k < w'.heap.size), ⟨A, n, c, hb, NS.of_own hx, .inl h3, fun ad e => .inr ?_, fun k hk => ?_, hl, h7⟩, fun k hk => hk.imp id And.left⟩, ho⟩
  · subst e
    exact hx.lt ad.block rfl
  · rcases hk with hk | hk
    · exact Nat.lt_of_lt_of_le (h5 k hk) ho.size
    · exact hk.2

set_option maxHeartbeats 2000000 in
theorem rat_ok (x : Int) (h : (RW b m l).p S w) :
    Calls Tryz.prog 63 #[.pointer (some ⟨b, 0, none⟩), .int .i64 x] w fun e w' => e = .returned (.int .i64 (atW x l)) ∧ w = w' := by
  obtain ⟨A, n, c, hb, hx, _, _, _, _, _⟩ := RW.at_ h
  obtain ⟨b0, _, _, _⟩ := cells2t hb
  have hl := Lib.hid hx.nr.len
  have hn12 : n ≤ 12 := by have := hl.out; omega
  have HX := Lib.hid hx.nr
  have HR := Lib.hid (rfl : atW x l = atW x l)
  clear h hb hx
  go_enter Tryz.func63, Tryz.ntmps63
  go_wp2
  go_loopw [5] (fun i wr => ∃ k : Nat, k ≤ n ∧ i = .int .i64 k ∧ Hid (∀ j (hj : j < l.length), j < k → l[j] ≠ x) ∧ wr = w) (fun i _ => n - (intOf i).toNat)
  case atStart => exact ⟨0, Nat.zero_le _, rfl, Lib.hid (fun j _ h => absurd h (Nat.not_lt_zero _)), rfl⟩
  case round =>
    obtain ⟨k, hk, rfl, hne, rfl⟩ := hrel
    by_cases hlt : k < n
    · have hkl : k < l.length := by rw [hl.out]; exact hlt
      obtain ⟨ad, rfl, _, c0⟩ := HX.out.at_ hkl
      have c1 := c0 _ (Below.refl _ _)
      clear c0
      by_cases he : l[k] = x
      · have hp : Hid (atW x l = k) := Lib.hid (atW_at hkl hne.out he)
        have hq : (l[k] == x) = true := by rw [he]; simp
        clear he hne HR HX
        generalize l[k] = y at *
        go_wp2_with fail
        go_ret
        exact ⟨by rw [hp.out]; rfl, rfl⟩
      · have hne2 : Hid (∀ j (hj : j < l.length), j < k + 1 → l[j] ≠ x) := Lib.hid (fun j hj hjk => by
          by_cases h : j = k
          · subst h; exact he
          · exact hne.out j hj (by omega))
        have hq : (l[k] == x) = false := by simpa using he
        clear he hne HR
        generalize l[k] = y at *
        go_wp2_with fail
        go_roundw
        case rel => exact ⟨k + 1, by omega, by go_num, hne2, trivial⟩
        case measure => simp [intOf]; omega
    · have hp : Hid (atW x l = -1) := Lib.hid (atW_none fun y hy => by
        obtain ⟨j, hj, rfl⟩ := List.getElem_of_mem hy
        exact hne.out j hj (by have := hl.out; omega))
      clear hne HR HX
      go_wp2_with fail
      go_ret
      exact ⟨by rw [hp.out]; rfl, rfl⟩

set_option maxHeartbeats 4000000 in
theorem rput_ok (x : Int) (h : (RW b m l).p S w) :
    Calls Tryz.prog 65 #[.pointer (some ⟨b, 0, none⟩), .int .i64 x] w fun e w' => e = .returned (.int .i64 (putW m x l).1) ∧ Turn (RW b m (putW m x l).2) S w w' := by
  have HF := Lib.hid (rat_ok x h)
  have H := Lib.hid h
  obtain ⟨A, n, c, hb, hx, hS, hA, hlt, hm, hm2⟩ := RW.at_ h
  obtain ⟨b0, b1, f0, f1⟩ := cells2t hb
  have hl := hx.nr.len
  have hpw : putW m x l = if 0 ≤ atW x l then (7, l) else if m ≤ l.length then (5, l) else (0, l ++ [x]) := rfl
  have HT := Lib.hid h
  clear h
  by_cases hp : 0 ≤ atW x l
  · rw [if_pos hp] at hpw
    rw [hpw]
    clear hpw
    have HB := Lib.hid hb
    generalize atW x l = i at *
    go_enter Tryz.func65, Tryz.ntmps65
    go_wp2_with fail
    refine HF.out.mono ?_
    rintro e w1 ⟨rfl, rfl⟩
    go_wp2_with fail
    go_ret
    exact ⟨rfl, Turn.here H.out⟩
  · rw [if_neg hp] at hpw
    by_cases hf : m ≤ l.length
    · rw [if_pos hf] at hpw
      rw [hpw]
      rw [hl] at hf
      clear hpw
      generalize atW x l = i at *
      go_enter Tryz.func65, Tryz.ntmps65
      go_wp2_with fail
      refine HF.out.mono ?_
      rintro e w1 ⟨rfl, rfl⟩
      go_wp2_with fail
      go_quiet (fail)
      go_wp2_with fail
      go_ret
      exact ⟨rfl, Turn.same H.out (kp_drewN _ _)⟩
    · rw [if_neg hf] at hpw
      rw [hpw]
      have hlm : ((l ++ [x]).length : Int) ≤ m := by simp; omega
      rw [hl] at hf
      clear hpw
      generalize atW x l = i at *
      go_enter Tryz.func65, Tryz.ntmps65
      go_wp2_with fail
      refine HF.out.mono ?_
      rintro e w1 ⟨rfl, rfl⟩
      go_wp2_with fail
      go_quiet (fail)
      obtain ⟨wq, hwq⟩ : ∃ y, y = w.drewN nq := ⟨_, rfl⟩
      have kq : Below w.heap.size w wq := hwq ▸ kp_drewN w nq
      have hzq : wq.heap.size = w.heap.size := by rw [hwq]; rfl
      have hbq : wq.heap[b]? = some (.cells #[.slice A n c, .int .i64 m] 48 (0, 0)) := by rw [hwq]; exact hb
      have hltb : b < wq.heap.size := by rw [hzq]; exact hlt b hS
      rw [← hwq]
      have HKQ := Lib.hid kq
      have HZQ := Lib.hid hzq
      have HLB := Lib.hid hltb
      have HXQ := Lib.hid (hx.next kq)
      have HB1 : Hid ((wq.alloc (.cells #[] 3)).heap[b]? = some (.cells #[.slice A n c, .int .i64 m] 48 (0, 0))) := Lib.hid (((World.grownBy_alloc wq _ none).block _ hltb (by simp)).trans hbq)
      obtain ⟨g0, g1, q0, q1⟩ := cells2t HB1.out
      have HO1 : Hid ((wq.alloc (.cells #[] 3)).ownsRow wq.heap.size 3 1 (.slice (some ⟨wq.heap.size, 0, none⟩) 0 0) 0 []) := Lib.hid (own_new_s wq wq.heap.size 1 3 0 [] rfl (Nat.le_refl _) (Nat.zero_le _))
      have HR1 := Lib.hid (HXQ.out.nr.next (kp_new wq (.cells #[] 3))).rd
      have HS1 := Lib.hid (show wq.heap.size ≤ (wq.alloc (.cells #[] 3)).heap.size by simp)
      have hn12 : n ≤ 12 := by omega
      have HN := Lib.hid hn12
      have HL := Lib.hid hl
      have HF2 := Lib.hid hf
      obtain ⟨i0, hi, hz0, hz1, hz2⟩ := info_parts intinfo8
      clear hbq hltb hzq kq hwq b0 b1 f0 f1 hb hx hl HF hp hm hm2 hlt hA hn12
      go_wp2_with (at_builtin; first | (refine wpList_append_rd rfl (.tmp 20) (.tmp 24) _ rfl wq.heap.size 3 i0 _ 8 Tryz.underlying45 hi hz0 hz1 hz2 rfl _ 0 _ rfl HO1.out _ _ _ _ (ivs l) rfl (by rw [ivs_length]; exact HL.out) HR1.out (ivs_one _) (by have := HN.out; unfold maxLen; omega) (by have := HN.out; omega) HS1.out ?_; intro v3 w3 hown3 hg3; rw [Nat.zero_add, List.nil_append] at hown3; obtain ⟨A3, c3, rfl, _, _⟩ := own_form hown3; have HO3 := Lib.hid hown3; have HG3 := Lib.hid hg3; have HO4 := Lib.hid (hown3.alloc (.cells #[.int .i64 x] 3)); have HR4 : Hid (Rd (w3.alloc (.cells #[.int .i64 x] 3)) (w3.heap.size + 1) (some ⟨w3.heap.size, 0, none⟩) [.int .i64 x]) := Lib.hid (Rd.new w3 3 [.int .i64 x]); have HS4 := Lib.hid (show wq.heap.size ≤ (w3.alloc (.cells #[.int .i64 x] 3)).heap.size by have h1 := hg3.size; have h2 := HS1.out; simp; omega); have HB3 : Hid (w3.heap[b]? = some (.cells #[.slice A n c, .int .i64 m] 48 (0, 0))) := Lib.hid ((hg3.block b (by have := HS1.out; have := HLB.out; omega) (fun e => by have := (HO1.out.lt _ e.symm).1; have := HLB.out; omega)).trans HB1.out); clear hown3 hg3) | (refine wpList_append_rd rfl (.tmp 25) (.tmp 27) _ rfl wq.heap.size 3 i0 _ 8 Tryz.underlying45 hi hz0 hz1 hz2 rfl _ n _ rfl HO4.out _ _ _ _ [.int .i64 x] rfl rfl HR4.out (by simp [Value.oneCell']) (by have := HN.out; unfold maxLen; omega) (by have := HN.out; omega) HS4.out ?_; intro v5 w5 hown5 hg5; obtain ⟨A5, c5, rfl, _, _⟩ := own_form hown5; have HO5 := Lib.hid hown5; have HG5 := Lib.hid hg5; have HB5 : Hid (w5.heap[b]? = some (.cells #[.slice A n c, .int .i64 m] 48 (0, 0))) := Lib.hid ((hg5.block b (by have := HS4.out; have := HLB.out; omega) (fun e => by have := (HO4.out.lt _ e.symm).1; have := HLB.out; omega)).trans (((World.grownBy_alloc w3 _ none).block _ (Array.getElem?_eq_some_iff.1 HB3.out).1 (by simp)).trans HB3.out)); obtain ⟨k0, k1, p0, p1⟩ := cells2t HB5.out; clear hown5 hg5))
      go_ret

      refine ⟨rfl, RW.turn H.out (heap_setCell_same w5 b 0 _ _ _ HB5.out) (own_base_s (base := wq.heap.size) ?_ (Nat.le_of_eq HZQ.out.symm)) (Off.setCell (Off.of S ?_) (.inl hS) _) hlm⟩
      · rw [ivs_append]
        exact ownsRow_setCell_other (a := ⟨b, 0, none⟩) HO5.out (own_type_ne HO5.out HB5.out (by decide)) _
      · have k3 := (kp_new wq (.cells #[] 3)).trans (below_own_s HO1.out HG3.out HS1.out)
        have k5 := (kp_alloc k3 (.cells #[.int .i64 x] 3)).trans (below_own_s HO4.out HG5.out HS4.out)
        exact HKQ.out.trans (HZQ.out ▸ k5)

set_option maxHeartbeats 4000000 in
theorem rtake_ok (h : (RW b m l).p S w) :
    Calls Tryz.prog 66 #[.pointer (some ⟨b, 0, none⟩)] w fun e w' => e = .returned (takeW l) ∧ Turn (RW b m l.tail) S w w' := by
  have H := Lib.hid h
  obtain ⟨A, n, c, hb, hx, hS, hA, hlt, hm, hm2⟩ := RW.at_ h
  obtain ⟨b0, b1, f0, f1⟩ := cells2t hb
  have hl := hx.nr.len
  clear h
  cases l with
  | nil =>
    obtain rfl : n = 0 := by simpa using hl.symm
    have HB := Lib.hid hb
    go_enter Tryz.func66, Tryz.ntmps66
    go_wp2_with fail
    go_ret2
    exact ⟨rfl, Turn.here H.out⟩
  | cons x r =>
    have hn : n = r.length + 1 := by simpa using hl.symm
    obtain ⟨ad, hA0, _, hc0⟩ := hx.nr.at_ (j := 0) (by simp)
    have c0 : w.cell? ad = some (.int .i64 x) := by
      have := hc0 w (Below.refl _ _)
      rw [show ad.add 0 = ad from by unfold Addr.add; split <;> simp_all] at this
      exact this
    subst hA0
    obtain ⟨A1, run1, hx1⟩ := hx.cut1 Tryz.prog 45 (by kernel_rfl) (by kernel_rfl) (i := 1) 1 rfl (by omega)
    have hltb : b < w.heap.size := hlt b hS
    have HLB := Lib.hid hltb
    have HB1 : Hid ((w.alloc (.cells #[] 3)).heap[b]? = some (.cells #[.slice (some ad) n c, .int .i64 m] 48 (0, 0))) := Lib.hid (((World.grownBy_alloc w _ none).block _ hltb (by simp)).trans hb)
    obtain ⟨g0, g1, q0, q1⟩ := cells2t HB1.out
    have HO1 : Hid ((w.alloc (.cells #[] 3)).ownsRow w.heap.size 3 1 (.slice (some ⟨w.heap.size, 0, none⟩) 0 0) 0 []) := Lib.hid (own_new_s w w.heap.size 1 3 0 [] rfl (Nat.le_refl _) (Nat.zero_le _))
    have HR1 := Lib.hid (hx1.nr.next (kp_new w (.cells #[] 3)))
    have HS1 := Lib.hid (show w.heap.size ≤ (w.alloc (.cells #[] 3)).heap.size by simp)
    have hn12 : n ≤ 12 := by omega
    have HN := Lib.hid hn12
    have HM := Lib.hid hm
    have hn0 : 0 < n := by omega
    have hq0 : ((n : Int) == 0) = false := by simp; omega
    have hc1 := hx.cap
    obtain ⟨i0, hi, hz0, hz1, hz2⟩ := info_parts intinfo8
    obtain ⟨n1, hn1⟩ : ∃ n1, n1 = n - 1 := ⟨_, rfl⟩
    rw [← hn1] at run1 HR1
    have HN1 := Lib.hid (show n1 ≤ 12 by omega)
    clear hb hx hx1 hl hm hm2 hlt hA hn12 hc0 hn1 hn
    go_enter Tryz.func66, Tryz.ntmps66
    go_wp2_with (at_builtin; refine wpList_append_rd rfl _ _ _ rfl w.heap.size 3 i0 _ 8 Tryz.underlying45 hi hz0 hz1 hz2 rfl _ 0 _ rfl HO1.out _ _ _ _ (ivs r) rfl (by rw [ivs_length]; exact HR1.out.len) HR1.out.rd (ivs_one _) (by have := HN1.out; unfold maxLen; omega) (by have := HN1.out; omega) HS1.out ?_; intro v3 w3 hown3 hg3; rw [Nat.zero_add, List.nil_append] at hown3; obtain ⟨A3, c3, rfl, _, _⟩ := own_form hown3; have HO3 := Lib.hid hown3; have HG3 := Lib.hid hg3; have HB3 : Hid (w3.heap[b]? = some (.cells #[.slice (some ad) n c, .int .i64 m] 48 (0, 0))) := Lib.hid ((hg3.block b (by have := HS1.out; have := HLB.out; omega) (fun e => by have := (HO1.out.lt _ e.symm).1; have := HLB.out; omega)).trans HB1.out); obtain ⟨k0, k1, p0, p1⟩ := cells2t HB3.out; clear hown3 hg3)
    go_ret2
    refine ⟨rfl, RW.turn H.out (heap_setCell_same w3 b 0 _ _ _ HB3.out) ?_ (Off.setCell (Off.of S ?_) (.inl hS) _) (by have := HM.out; simp at this; show (r.length : Int) ≤ m; omega)⟩
    · exact ownsRow_setCell_other (a := ⟨b, 0, none⟩) HO3.out (own_type_ne HO3.out HB3.out (by decide)) _
    · exact (kp_new w (.cells #[] 3)).trans (below_own_s HO1.out HG3.out HS1.out)
end

theorem rnew_bad (m : Int) (hm : m < 0 ∨ 12 < m) (w : World) :
    Calls Tryz.prog 21 #[.int .i64 m] w fun e w' => e = .returned (.tuple #[.pointer none, .int .i64 1]) ∧ w = w' := by
  go_enter Tryz.func21, Tryz.ntmps21
  rcases hm with hm | hm
  · go_wp2_with fail
    go_ret2
    exact ⟨rfl, rfl⟩
  · have hm0 : ¬ m < 0 := by omega
    go_wp2_with fail
    go_ret2
    exact ⟨rfl, rfl⟩
theorem rnew_good (m : Int) (h0 : 0 ≤ m) (h1 : m ≤ 12) (w : World) :
    Calls Tryz.prog 21 #[.int .i64 m] w fun e w' => e = .returned (.tuple #[.pointer (some ⟨w.heap.size, 0, none⟩), .int .i64 0]) ∧ (RW w.heap.size m []).p (fun k => k = w.heap.size) w' ∧ Below w.heap.size w w' := by
  have hm0 : ¬ m < 0 := by omega
  have hm1 : ¬ 12 < m := by omega
  go_enter Tryz.func21, Tryz.ntmps21
  go_wp2_with fail
  go_ret2
  exact ⟨rfl, ⟨none, 0, 0, heap_alloc_new w _, NS.nil _, rfl, fun _ e => (by cases e), fun k hk => by subst hk; simp, by simpa using h0, h1⟩, kp_new w _⟩
end

/- The project's layer 8: At, All, Put, Take, New: contracts. -/
section
open Go.RowKit
set_option maxRecDepth 100000

/-- a row of the project's: who waits in it -/
def PWp (b : Nat) (m : Int) (l : List Int) (S : Nat → Prop) (w : World) : Prop :=
  ∃ r f, PRow w b r f l.length m ∧ RingAt r f l ∧ S b ∧ (∀ k, S k → k < w.heap.size) ∧ (l.length : Int) ≤ m ∧ m ≤ 12
def PW (b : Nat) (m : Int) (l : List Int) : Thing where
  p := PWp b m l
  keep := fun ⟨r, f, h1, h2, h3, h4, h5, h6⟩ hk hz => ⟨r, f, h1.of (hk b h3), h2, h3, fun k h => Nat.lt_of_lt_of_le (h4 k h) hz, h5, h6⟩
  lt := fun ⟨_, _, _, _, _, h4, _⟩ => h4

section
variable {b : Nat} {m : Int} {l : List Int} {S : Nat → Prop} {w : World}
theorem PW.at_ (h : (PW b m l).p S w) : ∃ r f, PRow w b r f l.length m ∧ RingAt r f l ∧ S b ∧ (∀ k, S k → k < w.heap.size) ∧ (l.length : Int) ≤ m ∧ m ≤ 12 := h
theorem PW.turn {w' : World} {l' r : List Int} {f : Nat} (h : (PW b m l).p S w) (hb : PRow w' b r f l'.length m) (hr : RingAt r f l') (ho : Off S w w') (hl : (l'.length : Int) ≤ m) : Turn (PW b m l') S w w' := by
  obtain ⟨_, _, _, _, h3, h4, _, h6⟩ := PW.at_ h
  exact ⟨⟨S, ⟨r, f, hb, hr, h3, fun k hk => Nat.lt_of_lt_of_le (h4 k hk) ho.size, hl, h6⟩, fun k hk => .inl hk⟩, ho⟩

set_option maxHeartbeats 2000000 in
theorem pat_ok (x : Int) (h : (PW b m l).p S w) :
    Calls Tryz.prog 40 #[.pointer (some ⟨b, 0, none⟩), .int .i64 x] w fun e w' => e = .returned (.int .i64 (atW x l)) ∧ w'.heap = w.heap ∧ Below w.heap.size w w' := by
  obtain ⟨r, f, hp, hr, _, _, _, _⟩ := PW.at_ h
  obtain ⟨_, c13, _⟩ := hp.cells
  have hl12 := hr.len
  have HP := Lib.hid hp
  have HX := Lib.hid hr
  clear h hp hr
  obtain ⟨n, hn⟩ : ∃ n, n = l.length := ⟨_, rfl⟩
  rw [← hn] at c13 hl12 HP
  have HN := Lib.hid hn
  clear hn
  go_enter Tryz.func40, Tryz.ntmps40
  go_wp2
  go_loopw [10] (fun i wr => ∃ k : Nat, k ≤ n ∧ i = .int .i64 k ∧ Hid (∀ j (hj : j < l.length), j < k → l[j] ≠ x) ∧ Hid (wr.heap = w.heap ∧ Below w.heap.size w wr)) (fun i _ => n - (intOf i).toNat)
  case atStart => exact ⟨0, Nat.zero_le _, rfl, Lib.hid (fun j _ h => absurd h (Nat.not_lt_zero _)), Lib.hid ⟨rfl, Below.refl _ _⟩⟩
  case round =>
    obtain ⟨k, hk, rfl, hne, hw⟩ := hrel
    by_cases hlt : k < n
    · have hkl : k < l.length := by rw [← HN.out]; exact hlt
      have HPL := Lib.hid (place_ok k (HP.out.of (by rw [hw.out.1])) HX.out.first (by omega))
      obtain ⟨hq, hg⟩ := HX.out.get hkl
      have HG := Lib.hid hg
      by_cases he : l[k] = x
      · have hp : Hid (atW x l = k) := Lib.hid (atW_at hkl hne.out he)
        have hq1 : (l[k] == x) = true := by rw [he]; simp
        clear hne
        go_wp2_with fail
        refine HPL.out.mono ?_
        rintro e w1 ⟨rfl, h1, k1⟩
        have d0 := (HP.out.of (w' := w1) (by rw [h1, hw.out.1])).ring hq
        rw [HG.out] at d0
        have HW1 := Lib.hid (show w1.heap = w.heap from h1.trans hw.out.1)
        have HK1 := Lib.hid (show Below w.heap.size w w1 from kp_trans hw.out.2 k1)
        clear h1 k1 he hg
        generalize l[k] = y at *
        go_wp2_with fail
        go_ret
        exact ⟨by rw [hp.out]; rfl, HW1.out, HK1.out⟩
      · have hne2 : Hid (∀ j (hj : j < l.length), j < k + 1 → l[j] ≠ x) := Lib.hid (fun j hj hjk => by
          by_cases h : j = k
          · subst h; exact he
          · exact hne.out j hj (by omega))
        have hq1 : (l[k] == x) = false := by simpa using he
        clear hne
        go_wp2_with fail
        refine HPL.out.mono ?_
        rintro e w1 ⟨rfl, h1, k1⟩
        have d0 := (HP.out.of (w' := w1) (by rw [h1, hw.out.1])).ring hq
        rw [HG.out] at d0
        have HW1 := Lib.hid (show w1.heap = w.heap from h1.trans hw.out.1)
        have HK1 := Lib.hid (show Below w.heap.size w w1 from kp_trans hw.out.2 k1)
        clear h1 k1 he hg
        generalize l[k] = y at *
        go_wp2_with fail
        go_roundw
        case rel => exact ⟨k + 1, by omega, by go_num, hne2, Lib.hid ⟨HW1.out, HK1.out⟩⟩
        case measure => simp [intOf]; omega
    · have hp : Hid (atW x l = -1) := Lib.hid (atW_none fun y hy => by
        obtain ⟨j, hj, rfl⟩ := List.getElem_of_mem hy
        exact hne.out j hj (by have := HN.out; omega))
      clear hne
      go_wp2_with fail
      go_ret
      exact ⟨by rw [hp.out]; rfl, hw.out.1, hw.out.2⟩

set_option maxHeartbeats 4000000 in
theorem pall_own (h : (PW b m l).p S w) :
    Calls Tryz.prog 39 #[.pointer (some ⟨b, 0, none⟩)] w fun e w' => ∃ A n c, e = .returned (.slice A n c) ∧ w'.ownsRow w.heap.size 3 1 (.slice A n c) n (ivs l) ∧ n ≤ 12 ∧ Below w.heap.size w w' := by
  obtain ⟨r, f, hp, hr, _, _, _, _⟩ := PW.at_ h
  obtain ⟨_, c13, _⟩ := hp.cells
  have hl12 := hr.len
  have HLT := Lib.hid hp.lt
  have HP := Lib.hid hp
  have HX := Lib.hid hr
  clear h hp hr
  obtain ⟨n, hn⟩ : ∃ n, n = l.length := ⟨_, rfl⟩
  rw [← hn] at c13 hl12 HP
  have HN := Lib.hid hn
  clear hn
  obtain ⟨i0, hi, hz0, hz1, hz2⟩ := info_parts intinfo8
  go_enter Tryz.func39, Tryz.ntmps39
  go_wp2_with fail
  go_loopw [3, 9] (fun o i wr => ∃ (k : Nat) (D : Option Addr) (e : Nat), k ≤ n ∧ i = .int .i64 k ∧ o = .slice D k e ∧ Hid (wr.ownsRow w.heap.size 3 1 (.slice D k e) k (ivs (l.take k))) ∧ Hid (Below w.heap.size w wr)) (fun _ i _ => n - (intOf i).toNat)
  case atStart => exact ⟨0, none, 0, Nat.zero_le _, rfl, rfl, Lib.hid (World.ownsRow_nil _ _ _ _), Lib.hid (Below.refl _ _)⟩
  case round =>
    obtain ⟨k, D, e, hk, rfl, rfl, hO, hw⟩ := hrel
    by_cases hlt : k < n
    · have hkl : k < l.length := by rw [← HN.out]; exact hlt
      have HPR : Hid (PRow wr b r f n m) := Lib.hid (HP.out.of (hw.out.block _ HLT.out))
      have HPL := Lib.hid (place_ok k HPR.out HX.out.first (by omega))
      obtain ⟨hq, hg⟩ := HX.out.get hkl
      have HG := Lib.hid hg
      have HE : Hid (ivs (l.take (k + 1)) = ivs (l.take k) ++ [.int .i64 l[k]]) := Lib.hid (by
        rw [List.take_succ_eq_append_getElem hkl, ivs_append]
        rfl)
      clear hg
      go_wp2_with fail
      refine HPL.out.mono ?_
      rintro e1 w1 ⟨rfl, h1, k1⟩
      have d0 := (HPR.out.of (w' := w1) (by rw [h1])).ring hq
      rw [HG.out] at d0
      have HZ : Hid (wr.heap.size = w1.heap.size) := Lib.hid (by rw [h1])
      have HK1 := Lib.hid k1
      have HO1 := Lib.hid ((own_below hO.out k1 (Nat.le_refl _)).alloc (.cells #[.int .i64 l[k]] 3))
      have HR1 : Hid (Rd (w1.alloc (.cells #[.int .i64 l[k]] 3)) (w1.heap.size + 1) (some ⟨w1.heap.size, 0, none⟩) [.int .i64 l[k]]) := Lib.hid (Rd.new w1 3 [.int .i64 l[k]])
      have HS1 : Hid (w.heap.size ≤ (w1.alloc (.cells #[.int .i64 l[k]] 3)).heap.size) := Lib.hid (by have := hw.out.size; have := HZ.out; simp; omega)
      have hk12 : k + 1 ≤ 12 := by omega
      have HK12 := Lib.hid hk12
      clear h1 k1
      generalize l[k] = y at *
      go_wp2_with (at_builtin; refine wpList_append_rd rfl _ _ _ rfl w.heap.size 3 i0 _ 8 Tryz.underlying45 hi hz0 hz1 hz2 rfl _ k _ rfl HO1.out _ _ _ _ [.int .i64 y] rfl rfl HR1.out (by simp [Value.oneCell']) (by have := HK12.out; unfold maxLen; omega) (by have := HK12.out; omega) HS1.out ?_; intro v3 w3 hown3 hg3; obtain ⟨A3, c3, rfl, _, _⟩ := own_form hown3; have HO3 := Lib.hid hown3; have HG3 := Lib.hid hg3; clear hown3 hg3)
      go_roundw
      case rel =>
        refine ⟨k + 1, A3, c3, by omega, by go_num, rfl, Lib.hid (by rw [HE.out]; exact HO3.out), Lib.hid ?_⟩
        exact (kp_alloc (kp_trans hw.out HK1.out) _).trans (below_own_s HO1.out HG3.out HS1.out)
      case measure => simp [intOf]; omega
    · obtain rfl : k = n := by omega
      have hO' := hO.out
      rw [List.take_of_length_le (by rw [← HN.out]; exact Nat.le_refl _)] at hO'
      have HO' := Lib.hid hO'
      clear hO'
      go_wp2_with fail
      go_ret
      exact ⟨D, k, e, rfl, HO'.out, hl12, hw.out⟩
theorem pall_ok (h : (PW b m l).p S w) :
    Calls Tryz.prog 39 #[.pointer (some ⟨b, 0, none⟩)] w fun e w' => ∃ A n c, e = .returned (.slice A n c) ∧ NR w' A n l ∧ n ≤ 12 ∧ Below w.heap.size w w' :=
  (pall_own h).mono fun _ _ ⟨A, n, c, h1, h2, h3, h4⟩ => ⟨A, n, c, h1, NR.of_own h2, h3, h4⟩

set_option maxHeartbeats 4000000 in
theorem pput_ok (x : Int) (h : (PW b m l).p S w) :
    Calls Tryz.prog 43 #[.pointer (some ⟨b, 0, none⟩), .int .i64 x] w fun e w' => e = .returned (.int .i64 (putW m x l).1) ∧ Turn (PW b m (putW m x l).2) S w w' := by
  have HF := Lib.hid (pat_ok x h)
  have H := Lib.hid h
  obtain ⟨r, f, hp, hr, hS, hlt, hm, hm2⟩ := PW.at_ h
  have HP := Lib.hid hp
  have HX := Lib.hid hr
  have hpw : putW m x l = if 0 ≤ atW x l then (7, l) else if m ≤ l.length then (5, l) else (0, l ++ [x]) := rfl
  clear h hp hr
  by_cases hq : 0 ≤ atW x l
  · rw [if_pos hq] at hpw
    rw [hpw]
    clear hpw
    generalize atW x l = i at *
    go_enter Tryz.func43, Tryz.ntmps43
    go_wp2_with fail
    refine HF.out.mono ?_
    rintro e w1 ⟨rfl, h1, k1⟩
    have HK1 := Lib.hid k1
    clear h1 k1
    go_wp2_with fail
    go_ret
    exact ⟨rfl, Turn.same H.out HK1.out⟩
  · rw [if_neg hq] at hpw
    by_cases hf : m ≤ l.length
    · rw [if_pos hf] at hpw
      rw [hpw]
      have heq : (l.length : Int) = m := by omega
      clear hpw
      generalize atW x l = i at *
      go_enter Tryz.func43, Tryz.ntmps43
      go_wp2_with fail
      refine HF.out.mono ?_
      rintro e w1 ⟨rfl, h1, k1⟩
      have HK1 := Lib.hid k1
      obtain ⟨_, c13, c14⟩ := (HP.out.of (w' := w1) (by rw [h1])).cells
      have hb0 : ((l.length : Int) == m) = true := by simpa using heq
      clear h1 k1 heq hf hm
      go_wp2_with fail
      go_quiet (fail)
      go_wp2_with fail
      go_ret
      exact ⟨rfl, Turn.same H.out (kp_trans HK1.out (kp_drewN _ _))⟩
    · rw [if_neg hf] at hpw
      rw [hpw]
      have hlm : ((l ++ [x]).length : Int) ≤ m := by simp; omega
      have HLM := Lib.hid hlm
      have hl12 : l.length < 12 := by omega
      have HL12 := Lib.hid hl12
      clear hpw hlm
      obtain ⟨n, hn⟩ : ∃ n, n = l.length := ⟨_, rfl⟩
      rw [← hn] at HP hf hm hl12
      have HN := Lib.hid hn
      clear hn
      generalize atW x l = i at *
      go_enter Tryz.func43, Tryz.ntmps43
      go_wp2_with fail
      refine HF.out.mono ?_
      rintro e w1 ⟨rfl, h1, k1⟩
      have HK1 := Lib.hid k1
      have HP1 := Lib.hid (HP.out.of (w' := w1) (by rw [h1]))
      obtain ⟨_, c13, c14⟩ := HP1.out.cells
      have hb0 : ((n : Int) == m) = false := by simp; omega
      clear h1 k1 hf hm
      go_wp2_with fail
      go_quiet (fail)
      have kq : Below w.heap.size w (w1.drewN nq) := kp_trans HK1.out (kp_drewN w1 nq)
      have HKQ := Lib.hid kq
      have HPQ : Hid (PRow (w1.drewN nq) b r f n m) := Lib.hid (HP1.out.of rfl)
      clear kq c13 c14
      generalize w1.drewN nq = w2 at *
      obtain ⟨_, c13, _⟩ := HPQ.out.cells
      have HPL := Lib.hid (place_ok n HPQ.out HX.out.first (by omega))
      go_wp2_with fail
      refine HPL.out.mono ?_
      rintro e w3 ⟨rfl, h3, k3⟩
      have HP3 := Lib.hid (HPQ.out.of (w' := w3) (by rw [h3]))
      obtain ⟨q, hq2⟩ : ∃ q, q = (f + n) % 12 := ⟨_, rfl⟩
      have hq12 : q < 12 := by omega
      have HP4 := Lib.hid (HP3.out.setRing hq12 x)
      have HP5 := Lib.hid (HP4.out.setCount (n + 1))
      have f3 := HP3.out.froz q
      obtain ⟨z3, e3⟩ : ∃ z, w3.cell? ⟨b, q, none⟩ = some (.int .i64 z) := ⟨_, HP3.out.ring (by rw [HP3.out.size]; exact hq12)⟩
      obtain ⟨_, d13, _⟩ := HP4.out.cells
      have f4 := HP4.out.froz 13
      have hwr : IntKind.i64.wrap ((n : Int) + 1) = ((n + 1 : Nat) : Int) := by rw [IntKind.wrap_i64]; omega
      have HK3 := Lib.hid (kp_trans HKQ.out k3)
      rw [← hq2]
      have HQ := Lib.hid hq2
      clear h3 k3 hq2 c13
      go_wp2_with fail
      go_ret
      refine ⟨rfl, PW.turn H.out ?_ (HX.out.put HL12.out x) (Off.setCell (Off.setCell (Off.of S HK3.out) (.inl hS) _) (.inl hS) _) HLM.out⟩
      rw [List.length_append, List.length_singleton, ← HN.out, ← HQ.out]
      exact HP5.out

set_option maxHeartbeats 4000000 in
theorem ptake_ok (h : (PW b m l).p S w) :
    Calls Tryz.prog 51 #[.pointer (some ⟨b, 0, none⟩)] w fun e w' => e = .returned (takeW l) ∧ Turn (PW b m l.tail) S w w' := by
  have H := Lib.hid h
  obtain ⟨r, f, hp, hr, hS, hlt, hm, hm2⟩ := PW.at_ h
  obtain ⟨_, c13, _⟩ := hp.cells
  have HP := Lib.hid hp
  have HX := Lib.hid hr
  clear h hp hr
  cases l with
  | nil =>
    go_enter Tryz.func51, Tryz.ntmps51
    go_wp2_with fail
    go_ret2
    exact ⟨rfl, Turn.here H.out⟩
  | cons x t =>
    have hq0 : (((x :: t).length : Nat) : Int) = (t.length : Int) + 1 := by simp
    have HPL := Lib.hid (place_ok 0 HP.out HX.out.first (by omega))
    obtain ⟨hq, hg⟩ := HX.out.get (i := 0) (by simp)
    obtain ⟨q, hqq⟩ : ∃ q, q = (f + 0) % 12 := ⟨_, rfl⟩
    have HG : Hid (∃ h : q < r.length, r[q] = x) := Lib.hid (by subst hqq; exact ⟨hq, hg⟩)
    rw [← hqq] at HPL
    clear hg hqq hq
    have hf12 := HX.out.first
    have hl12 := HX.out.len
    rw [List.length_cons] at hl12
    have HM := Lib.hid hm
    rw [List.length_cons] at HP c13
    clear hm hq0
    obtain ⟨n, hn⟩ : ∃ n, n = t.length := ⟨_, rfl⟩
    rw [← hn] at HP c13 hl12
    have HT := Lib.hid hn
    clear hn
    have hc0 : (((n + 1 : Nat) : Int) == 0) = false := by simp; omega
    obtain ⟨f', hf'⟩ : ∃ f', f' = (f + 1) % 12 := ⟨_, rfl⟩
    have hrem : Int.tmod ((f : Int) + 1) 12 = (f' : Int) := by
      rw [hf', show ((f : Int) + 1) = ((f + 1 : Nat) : Int) by omega]
      rfl
    have hwf : IntKind.i64.wrap ((f : Int) + 1) = (f : Int) + 1 := by rw [IntKind.wrap_i64]; omega
    have hwn : IntKind.i64.wrap (((n + 1 : Nat) : Int) - 1) = (n : Int) := by rw [IntKind.wrap_i64]; omega
    have HF' := Lib.hid hf'
    clear hf'
    go_enter Tryz.func51, Tryz.ntmps51
    go_wp2_with fail
    refine HPL.out.mono ?_
    rintro e w1 ⟨rfl, h1, k1⟩
    have HP1 := Lib.hid (HP.out.of (w' := w1) (by rw [h1]))
    have d0 : w1.cell? ⟨b, q, none⟩ = some (.int .i64 x) := by
      obtain ⟨hq, hg⟩ := HG.out
      rw [HP1.out.ring hq, hg]
    obtain ⟨d12, d13, _⟩ := HP1.out.cells
    have HP2 := Lib.hid (HP1.out.setFirst f')
    obtain ⟨_, e13, _⟩ := HP2.out.cells
    have g12 := HP1.out.froz 12
    have g13 := HP2.out.froz 13
    have HP3 := Lib.hid (HP2.out.setCount n)
    have HK1 := Lib.hid k1
    clear h1 k1
    go_wp2_with fail
    go_ret2
    refine ⟨rfl, PW.turn (l' := t) H.out ?_ (show RingAt r f' t from by rw [HF'.out]; exact HX.out.take) (Off.setCell (Off.setCell (Off.of S HK1.out) (.inl hS) _) (.inl hS) _) (by have := HM.out; rw [List.length_cons] at this; omega)⟩
    rw [← HT.out]
    exact HP3.out

set_option maxHeartbeats 8000000 in
theorem pdrop_ok (x : Int) (h : (PW b m l).p S w) :
    Calls Tryz.prog 52 #[.pointer (some ⟨b, 0, none⟩), .int .i64 x] w fun e w' => e = .returned (.bool (decide (0 ≤ atW x l))) ∧ Turn (PW b m (dropW x l)) S w w' := by
  have HF := Lib.hid (pat_ok x h)
  have H := Lib.hid h
  obtain ⟨r0, f, hp, hr, hS, hlt, hm, hm2⟩ := PW.at_ h
  have hge := atW_ge x l
  clear h
  by_cases hneg : atW x l < 0
  · have hi : atW x l = -1 := by omega
    rw [dropW_not hi, hi]
    rw [hi] at HF
    clear hneg hi hge hp hr
    go_enter Tryz.func52, Tryz.ntmps52
    go_wp2_with fail
    refine HF.out.mono ?_
    rintro e w1 ⟨rfl, h1, k1⟩
    have HK1 := Lib.hid k1
    clear h1 k1
    go_wp2_with fail
    go_ret
    exact ⟨rfl, Turn.same H.out HK1.out⟩
  · obtain ⟨i, hi⟩ : ∃ i : Nat, atW x l = i := ⟨(atW x l).toNat, by omega⟩
    have hil := (atW_is hi).1
    have hdl : ((dropW x l).length : Int) ≤ m := by have := dropW_len x l; omega
    have HDL := Lib.hid hdl
    have HD := Lib.hid (dropW_at hi)
    rw [hi] at HF
    rw [hi]
    have hl12 := hr.len
    obtain ⟨d, hd⟩ : ∃ d, l.length = i + d + 1 := ⟨l.length - i - 1, by omega⟩
    obtain ⟨n1, hn1⟩ : ∃ n1, n1 = i + d := ⟨_, rfl⟩
    rw [hd, ← hn1] at hp
    have HP := Lib.hid hp
    have HX : Hid (RingAt r0 f (shiftW i 0 l)) := Lib.hid (by rw [shiftW_zero]; exact hr)
    have hf12 := hr.first
    have HN1 := Lib.hid hn1
    have HLD := Lib.hid hd
    have hn12 : n1 < 12 := by omega
    have hwn : IntKind.i64.wrap (((n1 + 1 : Nat) : Int) - 1) = (n1 : Int) := by rw [IntKind.wrap_i64]; omega
    have hwd : IntKind.i64.wrap ((n1 : Int) - (i : Int)) = (d : Int) := by rw [IntKind.wrap_i64]; omega
    have hid12 : i + d < 12 := by omega
    clear hneg hi hge hp hr hdl hd hn1 hm hil hl12
    go_enter Tryz.func52, Tryz.ntmps52
    go_wp2_with fail
    refine HF.out.mono ?_
    rintro e w1 ⟨rfl, h1, k1⟩
    have HP1 := Lib.hid (HP.out.of (w' := w1) (by rw [h1]))
    obtain ⟨_, d13, _⟩ := HP1.out.cells
    have g13 := HP1.out.froz 13
    have HP2 := Lib.hid (HP1.out.setCount n1)
    obtain ⟨_, e13, _⟩ := HP2.out.cells
    have HO2 : Hid (Off S w (w1.setCell ⟨b, 13, none⟩ (.int .i64 n1))) := Lib.hid (Off.setCell (Off.of S k1) (.inl hS) _)
    clear h1 k1
    go_wp2_with fail
    go_loopw [25] (fun j wr => ∃ (k : Nat) (r : List Int), k ≤ d ∧ j = .int .i64 k ∧ Hid (PRow wr b r f n1 m) ∧ Hid (RingAt r f (shiftW i k l)) ∧ Hid (Off S w wr)) (fun j _ => d - (intOf j).toNat)
    case atStart => exact ⟨0, r0, Nat.zero_le _, rfl, HP2, HX, HO2⟩
    case round =>
      obtain ⟨k, r, hk, rfl, hP, hX, hO⟩ := hrel
      by_cases hkd : k < d
      · have hsl := shiftW_len (a := i) (j := k) (l := l) (by have := HLD.out; omega)
        obtain ⟨hq2, hg2⟩ := hX.out.get (i := i + k + 1) (by rw [hsl]; have := HLD.out; omega)
        rw [shiftW_get (by have := HLD.out; omega) (i + k + 1) (by have := HLD.out; omega) (by omega)] at hg2
        have hX' := hX.out.set (i := i + k) (by rw [hsl]; have := HLD.out; omega) (l[i + k + 1]'(by have := HLD.out; omega))
        rw [shiftW_next (by have := HLD.out; omega)] at hX'
        generalize hy : (l[i + k + 1]'(by have := HLD.out; omega)) = y at *
        have HX2 := Lib.hid hX'
        have HG2 := Lib.hid hg2
        have HPL1 : Hid (Calls Tryz.prog 78 #[.pointer (some ⟨b, 0, none⟩), .int .i64 ((i : Int) + (k : Int))] wr fun e w' => e = .returned (.pointer (some ⟨b, (f + (i + k)) % 12, none⟩)) ∧ w'.heap = wr.heap ∧ Below wr.heap.size wr w') := Lib.hid (place_ok (i + k) hP.out hf12 (by omega))
        have hw1 : IntKind.i64.wrap ((i : Int) + (k : Int)) = (i : Int) + (k : Int) := by rw [IntKind.wrap_i64]; omega
        have hw2 : IntKind.i64.wrap ((i : Int) + (k : Int) + 1) = (i : Int) + (k : Int) + 1 := by rw [IntKind.wrap_i64]; omega
        clear hX' hg2 hy hsl
        go_wp2_with fail
        refine HPL1.out.mono ?_
        rintro e w3 ⟨rfl, h3, k3⟩
        have HP3 := Lib.hid (hP.out.of (w' := w3) (by rw [h3]))
        have HO3 := Lib.hid (hO.out.trans (Off.of S k3) (fun _ h => .inl h))
        have HPL2 : Hid (Calls Tryz.prog 78 #[.pointer (some ⟨b, 0, none⟩), .int .i64 ((i : Int) + (k : Int) + 1)] w3 fun e w' => e = .returned (.pointer (some ⟨b, (f + (i + k + 1)) % 12, none⟩)) ∧ w'.heap = w3.heap ∧ Below w3.heap.size w3 w') := Lib.hid (place_ok (i + k + 1) HP3.out hf12 (by omega))
        clear h3 k3
        go_wp2_with fail
        refine HPL2.out.mono ?_
        rintro e w4 ⟨rfl, h4, k4⟩
        have HP4 := Lib.hid (HP3.out.of (w' := w4) (by rw [h4]))
        have HO4 := Lib.hid (HO3.out.trans (Off.of S k4) (fun _ h => .inl h))
        have d4 := HP4.out.ring hq2
        rw [HG2.out] at d4
        obtain ⟨q, hqq⟩ : ∃ q, q = (f + (i + k)) % 12 := ⟨_, rfl⟩
        have hq12 : q < 12 := by omega
        rw [← hqq]
        rw [← hqq] at HX2
        have HP5 := Lib.hid (HP4.out.setRing hq12 y)
        have f4 := HP4.out.froz q
        obtain ⟨z4, e4⟩ : ∃ z, w4.cell? ⟨b, q, none⟩ = some (.int .i64 z) := ⟨_, HP4.out.ring (by rw [HP4.out.size]; exact hq12)⟩
        have HO5 : Hid (Off S w (w4.setCell ⟨b, q, none⟩ (.int .i64 y))) := Lib.hid (Off.setCell HO4.out (.inl hS) _)
        clear h4 k4 hqq HG2
        go_wp2_with fail
        go_roundw
        case rel => exact ⟨k + 1, r.set q y, by omega, by go_num, HP5, HX2, HO5⟩
        case measure => simp [intOf]; omega
      · obtain rfl : k = d := by omega
        have HE : Hid ((shiftW i k l).take (i + k) = dropW x l) := Lib.hid (by rw [shiftW_end (by have := HLD.out; omega), HD.out])
        go_wp2_with fail
        go_ret
        refine ⟨rfl, PW.turn H.out ?_ (HE.out ▸ hX.out.cut (i + k)) hO.out HDL.out⟩
        have hL : (dropW x l).length = n1 := by
          rw [← HE.out, List.length_take, shiftW_len (by have := HLD.out; omega)]
          have := HLD.out
          have := HN1.out
          omega
        rw [hL]
        exact hP.out
end

theorem pnew_bad (m : Int) (hm : m < 0 ∨ 12 < m) (w : World) :
    Calls Tryz.prog 20 #[.int .i64 m] w fun e w' => e = .returned (.tuple #[.pointer none, .int .i64 1]) ∧ w = w' := by
  go_enter Tryz.func20, Tryz.ntmps20
  rcases hm with hm | hm
  · go_wp2_with fail
    go_ret2
    exact ⟨rfl, rfl⟩
  · have hm0 : ¬ m < 0 := by omega
    go_wp2_with fail
    go_ret2
    exact ⟨rfl, rfl⟩
theorem pnew_good (m : Int) (h0 : 0 ≤ m) (h1 : m ≤ 12) (w : World) :
    Calls Tryz.prog 20 #[.int .i64 m] w fun e w' => e = .returned (.tuple #[.pointer (some ⟨w.heap.size, 0, none⟩), .int .i64 0]) ∧ (PW w.heap.size m []).p (fun k => k = w.heap.size) w' ∧ Below w.heap.size w w' := by
  have hm0 : ¬ m < 0 := by omega
  have hm1 : ¬ 12 < m := by omega
  go_enter Tryz.func20, Tryz.ntmps20
  go_wp2_with fail
  go_ret2
  exact ⟨rfl, ⟨List.replicate 12 0, 0, ⟨heap_alloc_new w _, rfl⟩, RingAt.nil rfl, rfl, fun k hk => by subst hk; simp, by simpa using h0, h1⟩, kp_new w _⟩
end

/- The project's layer 10: rows of links, a pool: as they lie in memory. -/
section
open Go.RowKit
set_option maxRecDepth 100000

/-- a link: its block, its connection's block, what it holds -/
structure Lr where
  l : Nat
  a : Nat
  h : Hd
instance : Inhabited Lr := ⟨⟨0, 0, default⟩⟩
def Lr.set (r : Lr) (h : Hd) : Lr := ⟨r.l, r.a, h⟩
def Lr.key (r : Lr) : Nat × Nat := (r.l, r.a)
def lkV (r : Lr) : Value := .pointer (some ⟨r.l, 0, none⟩)
def lkS (r : Lr) (k : Nat) : Prop := k = r.l ∨ k = r.a
structure LK (w : World) (r : Lr) : Prop where
  top : w.heap[r.l]? = some (.cells #[.pointer (some ⟨r.a, 0, none⟩), .int .i64 r.h.id, .int .u64 r.h.t] 94 (0, 0))
  c : (CC r.a r.h.ep r.h.c).p (fun k => k = r.a) w
  ne : r.l ≠ r.a
theorem map_set_same {α β : Type} (f : α → β) : ∀ (l : List α) (j : Nat) (x : α) (hj : j < l.length), f x = f l[j] → (l.set j x).map f = l.map f
  | [], _, _, h, _ => by simp at h
  | y :: r, 0, x, _, e => by
    have e' : f x = f y := e
    simp [e']
  | y :: r, j + 1, x, h, e => by
    have := map_set_same f r j x (by simpa using h) e
    simp only [List.set_cons_succ, List.map_cons, this]
def apartK (x y : Nat × Nat) : Prop := x.1 ≠ y.1 ∧ x.1 ≠ y.2 ∧ x.2 ≠ y.1 ∧ x.2 ≠ y.2
/-- a row of links -/
structure LL (w : World) (A : Option Addr) (n c : Nat) (rs : List Lr) : Prop where
  own : w.ownsRow 0 77 1 (.slice A n c) n (rs.map lkV)
  lk : ∀ r ∈ rs, LK w r
  nd : (rs.map Lr.key).Pairwise apartK
  ap : ∀ r ∈ rs, ∀ k, lkS r k → (Value.slice A n c).ownBlock ≠ some k
/-- its blocks -/
def llS (A : Option Addr) (n c : Nat) (rs : List Lr) (k : Nat) : Prop := (Value.slice A n c).ownBlock = some k ∨ ∃ r ∈ rs, lkS r k
section
variable {w w' : World} {A : Option Addr} {n c : Nat} {rs : List Lr} {r : Lr}
theorem LK.lt (h : LK w r) : ∀ k, lkS r k → k < w.heap.size := by
  rintro k (rfl | rfl)
  · exact (Array.getElem?_eq_some_iff.1 h.top).1
  · exact (CC r.a r.h.ep r.h.c).lt h.c _ rfl
theorem LK.keep (h : LK w r) (hk : ∀ k, lkS r k → w'.heap[k]? = w.heap[k]?) (hz : w.heap.size ≤ w'.heap.size) : LK w' r :=
  ⟨(hk _ (.inl rfl)).trans h.top, (CC r.a r.h.ep r.h.c).keep h.c (fun k e => hk k (.inr e)) hz, h.ne⟩
theorem LK.next (h : LK w r) (hb : Below w.heap.size w w') : LK w' r := h.keep (fun k hk => hb.block k (h.lt k hk)) hb.size
theorem LK.cells (h : LK w r) : (w.cell? ⟨r.l, 0, none⟩ = some (.pointer (some ⟨r.a, 0, none⟩)) ∧ w.cell? ⟨r.l, 1, none⟩ = some (.int .i64 r.h.id) ∧ w.cell? ⟨r.l, 2, none⟩ = some (.int .u64 r.h.t)) ∧ w.frozen? ⟨r.l, 2, none⟩ = false :=
  ⟨⟨(cellsAt h.top 0 rfl).1, (cellsAt h.top 1 rfl).1, (cellsAt h.top 2 rfl).1⟩, (cellsAt h.top 2 rfl).2⟩
/-- its connection turned -/
theorem LK.turn (h : LK w r) {c' : Cn} (ht : Turn (CC r.a r.h.ep c') (fun k => k = r.a) w w') : LK w' (r.set (r.h.set c')) := by
  obtain ⟨⟨S', p', _⟩, ho⟩ := ht
  refine ⟨(ho.block _ (h.lt _ (.inl rfl)) h.ne).trans h.top, ?_, h.ne⟩
  obtain ⟨z, h1, h2, h3, h4⟩ := CC.at_ p'
  exact ⟨z, h1, rfl, fun k e => e ▸ h3 _ h2, h4⟩
theorem LK.set_same (r : Lr) : r.set r.h = r := rfl
theorem LL.len (h : LL w A n c rs) : rs.length = n := by
  have := h.own.1
  rw [List.length_map] at this
  omega
theorem LL.nil (w : World) : LL w none 0 0 [] := ⟨World.ownsRow_nil _ _ _ _, (fun _ h => by cases h), List.Pairwise.nil, (fun _ h => by cases h)⟩
theorem LL.keep (h : LL w A n c rs) (hk : ∀ k, llS A n c rs k → w'.heap[k]? = w.heap[k]?) (hz : w.heap.size ≤ w'.heap.size) : LL w' A n c rs :=
  ⟨own_keep h.own fun g e => hk g (.inl e), fun r hr => (h.lk r hr).keep (fun k e => hk k (.inr ⟨r, hr, e⟩)) hz, h.nd, h.ap⟩
theorem LL.lt (h : LL w A n c rs) : ∀ k, llS A n c rs k → k < w.heap.size := by
  rintro k (hk | ⟨r, hr, hk⟩)
  · exact (h.own.lt k hk).2
  · exact (h.lk r hr).lt k hk
theorem LL.next (h : LL w A n c rs) (hb : Below w.heap.size w w') : LL w' A n c rs := h.keep (fun k hk => hb.block k (h.lt k hk)) hb.size
theorem LL.cap (h : LL w A n c rs) : n ≤ c := by
  obtain ⟨A', c', h1, h2, _⟩ := own_form_s h.own
  simp only [Value.slice.injEq] at h1
  obtain ⟨_, _, rfl⟩ := h1
  exact h2
theorem LL.apart (h : LL w A n c rs) {i j : Nat} (hi : i < rs.length) (hj : j < rs.length) (hij : i ≠ j) : ∀ k, lkS rs[i] k → ¬ lkS rs[j] k := by
  have key : ∀ i j (hi : i < rs.length) (hj : j < rs.length), i < j → apartK rs[i].key rs[j].key := fun i j hi hj hij => by
    have := List.pairwise_iff_getElem.1 h.nd i j (by simpa using hi) (by simpa using hj) hij
    simpa using this
  intro k h1 h2
  rcases Nat.lt_or_gt_of_ne hij with hlt | hlt
  · obtain ⟨q1, q2, q3, q4⟩ := key i j hi hj hlt
    rcases h1 with rfl | rfl <;> rcases h2 with e | e
    · exact q1 e
    · exact q2 e
    · exact q3 e
    · exact q4 e
  · obtain ⟨q1, q2, q3, q4⟩ := key j i hj hi hlt
    rcases h1 with rfl | rfl <;> rcases h2 with e | e
    · exact q1 e.symm
    · exact q3 e.symm
    · exact q2 e.symm
    · exact q4 e.symm
/-- one at a place -/
theorem LL.at_ (h : LL w A n c rs) {j : Nat} (hj : j < rs.length) : ∃ g : Nat, A = some ⟨g, 0, none⟩ ∧ g < w.heap.size ∧ (∃ cur, w.heap[g]? = some (.cells cur 77 (0, 0))) ∧ w.cell? ⟨g, j, none⟩ = some (lkV rs[j]) ∧ w.frozen? ⟨g, j, none⟩ = false := by
  have hh := h.own
  have hl := h.len
  rcases h.own.2 with ⟨_, h2⟩ | ⟨g, cap, cur, h1, _, hg, _⟩
  · have h3 : (Value.slice A n c) = .slice none 0 0 ∨ n = 0 := by first | exact .inr h2 | exact .inl (by assumption)
    rcases h3 with h3 | h3
    · simp only [Value.slice.injEq] at h3
      omega
    · omega
  · injection h1 with h1 _ _
    subst h1
    have := hh.cells (g := g) rfl j (lkV rs[j]) (by simp [hj])
    have ha : (⟨g, 0, none⟩ : Addr).add j = ⟨g, j, none⟩ := by unfold Addr.add; split <;> simp_all
    rw [ha] at this
    exact ⟨g, rfl, (Array.getElem?_eq_some_iff.1 hg).1, ⟨cur, hg⟩, this, frozen_of_row w g _ cur _ hg⟩
theorem key_set {j : Nat} (hj : j < rs.length) (h' : Hd) : (rs.set j (rs[j].set h')).map Lr.key = rs.map Lr.key := map_set_same _ _ _ _ hj rfl
theorem lkV_set {j : Nat} (hj : j < rs.length) (h' : Hd) : (rs.set j (rs[j].set h')).map lkV = rs.map lkV := map_set_same _ _ _ _ hj rfl
theorem llS_set {j : Nat} (hj : j < rs.length) (h' : Hd) (k : Nat) : llS A n c (rs.set j (rs[j].set h')) k ↔ llS A n c rs k := by
  constructor
  · rintro (hk | ⟨r, hr, hk⟩)
    · exact .inl hk
    · rcases List.mem_or_eq_of_mem_set hr with hr | rfl
      · exact .inr ⟨r, hr, hk⟩
      · exact .inr ⟨rs[j], List.getElem_mem hj, hk⟩
  · rintro (hk | ⟨r, hr, hk⟩)
    · exact .inl hk
    · obtain ⟨i, hi, rfl⟩ := List.mem_iff_getElem.1 hr
      by_cases hij : j = i
      · subst hij
        exact .inr ⟨_, List.mem_set hj _, hk⟩
      · refine .inr ⟨rs[i], ?_, hk⟩
        have := List.getElem_mem (l := rs.set j (rs[j].set h')) (n := i) (by simpa using hi)
        rwa [List.getElem_set_ne hij] at this
/-- one turned -/
theorem LL.turn (h : LL w A n c rs) {j : Nat} (hj : j < rs.length) {h' : Hd} (hl : LK w' (rs[j].set h')) (hk : ∀ k, llS A n c rs k → ¬ lkS rs[j] k → w'.heap[k]? = w.heap[k]?) (hz : w.heap.size ≤ w'.heap.size) : LL w' A n c (rs.set j (rs[j].set h')) := by
  have hmem : rs[j] ∈ rs := List.getElem_mem hj
  refine ⟨?_, ?_, by rw [key_set hj]; exact h.nd, ?_⟩
  · rw [lkV_set hj]
    exact own_keep h.own fun g hg => hk g (.inl hg) fun e => h.ap _ hmem g e hg
  · intro r hr
    obtain ⟨i, hi, rfl⟩ := List.mem_iff_getElem.1 hr
    have hi' : i < rs.length := by simpa using hi
    by_cases hij : j = i
    · subst hij
      rw [List.getElem_set_self]
      exact hl
    · rw [List.getElem_set_ne hij]
      exact (h.lk _ (List.getElem_mem hi')).keep (fun k e => hk k (.inr ⟨_, List.getElem_mem hi', e⟩) (h.apart hi' hj (fun e => hij e.symm) k e)) hz
  · intro r hr
    rcases List.mem_or_eq_of_mem_set hr with hr | rfl
    · exact h.ap r hr
    · exact h.ap rs[j] hmem
end
/-- a pool of the project's, as it lies -/
structure PPm (b : Nat) (mo idl m : Int) (p : Pl) (rs : List Lr) (A : Option Addr) (n c rb : Nat) (SR : Nat → Prop) (S : Nat → Prop) (w : World) : Prop where
  top : w.heap[b]? = some (.cells #[.slice A n c, .int .i64 p.last, .int .i64 mo, .int .u64 idl, .pointer (some ⟨rb, 0, none⟩)] 67 (0, 0))
  l : rs.map Lr.h = p.l
  hl : LL w A n c rs
  row : (PW rb m p.row).p SR w
  sb : S b
  sr : ∀ k, SR k → S k
  sl : ∀ k, llS A n c rs k → S k
  lt : ∀ k, S k → k < w.heap.size
  ar : ∀ k, SR k → k ≠ b ∧ ¬ llS A n c rs k
  al : ¬ llS A n c rs b
  few : (p.l.length : Int) ≤ mo ∧ mo ≤ 6
def PPp (b : Nat) (mo idl m : Int) (p : Pl) (S : Nat → Prop) (w : World) : Prop := ∃ rs A n c rb SR, PPm b mo idl m p rs A n c rb SR S w
theorem PPm.keep {b : Nat} {mo idl m : Int} {p : Pl} {rs : List Lr} {A : Option Addr} {n c rb : Nat} {SR S : Nat → Prop} {w w' : World} (h : PPm b mo idl m p rs A n c rb SR S w) (hk : ∀ k, S k → w'.heap[k]? = w.heap[k]?) (hz : w.heap.size ≤ w'.heap.size) : PPm b mo idl m p rs A n c rb SR S w' :=
  ⟨(hk b h.sb).trans h.top, h.l, h.hl.keep (fun k e => hk k (h.sl k e)) hz, (PW rb m p.row).keep h.row (fun k e => hk k (h.sr k e)) hz, h.sb, h.sr, h.sl, fun k e => Nat.lt_of_lt_of_le (h.lt k e) hz, h.ar, h.al, h.few⟩
def PP (b : Nat) (mo idl m : Int) (p : Pl) : Thing where
  p := PPp b mo idl m p
  keep := fun ⟨rs, A, n, c, rb, SR, h⟩ hk hz => ⟨rs, A, n, c, rb, SR, h.keep hk hz⟩
  lt := fun ⟨_, _, _, _, _, _, h⟩ => h.lt
section
variable {b : Nat} {mo idl m : Int} {p : Pl} {S : Nat → Prop} {w : World}
theorem PP.at_ (h : (PP b mo idl m p).p S w) : ∃ rs A n c rb SR, PPm b mo idl m p rs A n c rb SR S w := h
theorem ppcells {rb n c : Nat} {A : Option Addr} {la : Int} (h : w.heap[b]? = some (.cells #[.slice A n c, .int .i64 la, .int .i64 mo, .int .u64 idl, .pointer (some ⟨rb, 0, none⟩)] 67 (0, 0))) :
    (w.cell? ⟨b, 0, none⟩ = some (.slice A n c) ∧ w.cell? ⟨b, 1, none⟩ = some (.int .i64 la) ∧ w.cell? ⟨b, 2, none⟩ = some (.int .i64 mo) ∧ w.cell? ⟨b, 3, none⟩ = some (.int .u64 idl) ∧ w.cell? ⟨b, 4, none⟩ = some (.pointer (some ⟨rb, 0, none⟩))) ∧ w.frozen? ⟨b, 0, none⟩ = false ∧ w.frozen? ⟨b, 1, none⟩ = false :=
  ⟨⟨(cellsAt h 0 rfl).1, (cellsAt h 1 rfl).1, (cellsAt h 2 rfl).1, (cellsAt h 3 rfl).1, (cellsAt h 4 rfl).1⟩, (cellsAt h 0 rfl).2, (cellsAt h 1 rfl).2⟩
theorem PPm.len {rs : List Lr} {A : Option Addr} {n c rb : Nat} {SR : Nat → Prop} (h : PPm b mo idl m p rs A n c rb SR S w) : rs.length = n ∧ p.l.length = n ∧ n ≤ 6 := by
  have h1 := h.hl.len
  have h2 : p.l.length = rs.length := by rw [← h.l, List.length_map]
  have := h.few
  exact ⟨h1, h2.trans h1, by omega⟩
theorem PPm.at_ {rs : List Lr} {A : Option Addr} {n c rb : Nat} {SR : Nat → Prop} (h : PPm b mo idl m p rs A n c rb SR S w) {i : Nat} (hj : i < rs.length) (hi : i < p.l.length) : rs[i].h = p.l[i] := by
  have h1 : (rs.map Lr.h)[i]'(by simpa using hj) = p.l[i] := by simp only [h.l]
  simpa using h1
end
end

/- A range over the pool's own iterator: its contract, and the law of the loop over it. -/
section
open Go.RowKit
set_option maxRecDepth 100000
theorem wide_depth : Fence.wide.depth = none := rfl
theorem wide_fn (f : FuncId) : Fence.wide.fn f = True := rfl
attribute [local go_sem] Oper.semAt_some wide_depth wide_fn

set_option maxHeartbeats 4000000 in
/-- the iterator: each link is handed over, by its place -/
theorem pall_in (m l b n c : Nat) (A : Option Addr) (rs : List Lr) (hl : rs.length = n) (hn : n ≤ 6) (J : Nat → World → Prop) (Jx : World → Prop)
    (hY : ∀ k (hk : k < rs.length) W, J k W → YieldAt Fence.wide (m - 1) Tryz.prog l #[lkV rs[k]] W fun e W' => (e = .returned (.bool true) ∧ J (k + 1) W') ∨ (e = .returned (.bool false) ∧ Jx W'))
    (hat : ∀ k (hk : k < rs.length) W, J k W → ∃ g, A = some ⟨g, 0, none⟩ ∧ W.cell? ⟨g, k, none⟩ = some (lkV rs[k]))
    (W : World) (hc : W.cell? ⟨b, 0, none⟩ = some (.slice A n c)) (h0 : J 0 W) :
    CallsIn Fence.wide m Tryz.prog 37 #[.pointer (some ⟨b, 0, none⟩), .func (.yield l) #[] #[]] W fun e W' => (∃ v, e = .returned v) ∧ (J n W' ∨ Jx W') := by
  have HL := Lib.hid hl
  have HY := Lib.hid hY
  have HA := Lib.hid hat
  clear hl hY hat
  refine callsIn_of_wp Tryz.func37 rfl trivial ?_ rfl
  simp only [Tryz.ntmps37, List.size_toArray, List.length_cons, List.length_nil, Nat.reduceAdd, Nat.reduceSub, Array.replicate_succ, Array.replicate_zero, List.push_toArray, List.append_toArray, List.nil_append, List.cons_append]
  gi_wp2
  gi_loopw [11] (fun i wr => ∃ k : Nat, k ≤ n ∧ i = .int .i64 k ∧ J k wr) (fun i _ => n - (intOf i).toNat)
  case atStart => exact ⟨0, Nat.zero_le _, rfl, h0⟩
  case round =>
    obtain ⟨k, hk, rfl, hj⟩ := hrel
    by_cases hlt : k < n
    · have hkl : k < rs.length := by rw [HL.out]; exact hlt
      obtain ⟨g, rfl, hg⟩ := HA.out k hkl wr hj
      obtain ⟨fn, tmps, assign, body, hy, hR⟩ := HY.out k hkl wr hj
      unfold lkV at hg hy
      generalize rs[k].l = la at *
      gi_wp2
      refine hR.mono ?_
      rintro e W3 (⟨rfl, hJ3⟩ | ⟨rfl, hJx3⟩)
      · gi_wp2
        go_roundw
        case rel => exact ⟨k + 1, by omega, by go_num, hJ3⟩
        case measure => simp [intOf]; omega
      · gi_wp2
        refine bodyPost_ret (results_none rfl _ _ _) rfl ?_
        exact ⟨⟨_, rfl⟩, .inr hJx3⟩
    · obtain rfl : k = n := by omega
      gi_wp2
      go_end0
      exact ⟨⟨_, rfl⟩, .inl hj⟩

/-- the two blocks of a loop's book-keeping -/
def bkS (B k : Nat) : Prop := k = B ∨ k = B + 1
/-- how the body of a round may be left -/
def rpost (B : Nat) (I : Nat → World → Prop) (Ix : World → Prop) (k : Nat) (W : World) : Exit → Act → World → Prop
  | .normal, _, W' => I (k + 1) W' ∧ ∀ j, bkS B j → W'.heap[j]? = W.heap[j]?
  | .ret, _, W' => Ix W' ∧ ∀ j, bkS B j → W'.heap[j]? = W.heap[j]?
  | _, _, _ => False
theorem off_putObj {B l : Nat} (w : World) (o : Obj) (hl : bkS B l) : Off (bkS B) w (w.putObj l o) :=
  ⟨rfl, rfl, rfl, by simp, fun k _ hn => World.putObj_heap_other fun e => hn (e ▸ hl)⟩

set_option maxHeartbeats 2000000 in
/-- the loop over it: between two rounds I, told how many are over; a round that returns leaves Ix -/
theorem wpIn_rangeAll {m b n c : Nat} {A : Option Addr} {rs : List Lr} {g : Operand} {t : Tmp} {assign body : Code} {Q : Exit → Act → World → Prop} {a : Act} {w : World}
    (hg : a.eval g = .func (.func 37) #[.pointer (some ⟨b, 0, none⟩)] #[])
    (hl : rs.length = n) (hn : n ≤ 6) (hc : w.cell? ⟨b, 0, none⟩ = some (.slice A n c))
    (I : Nat → World → Prop) (Ix : World → Prop)
    (stI : ∀ k W W', I k W → Off (bkS w.heap.size) W W' → I k W') (stX : ∀ W W', Ix W → Off (bkS w.heap.size) W W' → Ix W')
    (hat : ∀ k (hk : k < rs.length) W, I k W → ∃ g, A = some ⟨g, 0, none⟩ ∧ W.cell? ⟨g, k, none⟩ = some (lkV rs[k]))
    (h0 : I 0 w) (a₁ : Lr → Act)
    (hassign : ∀ (l : Nat) (r : Lr) (W : World) (K : Act → World → Prop), K (a₁ r) W →
      assign.wpIn (Fence.wide.inRound l) (m - 1 - 1) Tryz.prog (Exit.then K (fun _ _ _ => False)) { tmps := a.tmps.setIfInBounds t (lkV r), defers := [] } W)
    (hbody : ∀ (l k : Nat) (hk : k < rs.length) (W : World), I k W → w.heap.size + 2 ≤ W.heap.size → body.wpIn (Fence.wide.inRound l) (m - 1 - 1) Tryz.prog (rpost w.heap.size I Ix k W) (a₁ rs[k]) W)
    (hdone : ∀ W : World, I n W → W.heap[w.heap.size]? = some (.deferred (some [])) → Q .normal { a with defers := { target := .collected w.heap.size, args := #[] } :: a.defers } W)
    (hstop : ∀ W : World, Ix W → W.heap[w.heap.size]? = some (.deferred (some [])) → Code.ret.wpIn Fence.wide m Tryz.prog Q { a with defers := { target := .collected w.heap.size, args := #[] } :: a.defers } W) :
    (Code.rangeFunc g #[t] assign body).wpIn Fence.wide m Tryz.prog Q a w := by
  refine wpIn_rangeFunc ?_
  intro fn _
  -- the loop's record, in each of its states
  let rec0 : LoopState → Option Code → Loop := fun st pe => { state := st, pending := pe, fn, tmps := a.tmps, params := #[t], assign, body, defers := w.heap.size }
  let D := w.heap.size
  let W1 := (w.alloc (.deferred (some []))).alloc (.loop (rec0 .ready none))
  have hz1 : W1.heap.size = D + 2 := by simp [W1, D]
  have hL1 : W1.heap[D + 1]? = some (.loop (rec0 .ready none)) := by
    have := World.alloc_heap_new (w.alloc (.deferred (some []))) (.loop (rec0 .ready none))
    rwa [World.size_alloc] at this
  have hD1 : W1.heap[D]? = some (.deferred (some [])) := (Below.heap_alloc _ _ _ (by simp [D])).trans (World.alloc_heap_new w _)
  have hB1 : Below w.heap.size w W1 := kp_alloc (kp_new w _) _
  have hI1 : I 0 W1 := stI 0 w W1 h0 (Off.of _ hB1)
  have hc1 : W1.cell? ⟨b, 0, none⟩ = some (.slice A n c) := (hB1.cell (World.block_lt_of_cell? w _ hc)).trans hc
  refine ⟨D + 1, [{ target := .collected D, args := #[] }], W1, { target := .fn (.func 37) #[], args := #[.pointer (some ⟨b, 0, none⟩), .func (.yield (D + 1)) #[] #[]] }, W1, 37,
    #[.pointer (some ⟨b, 0, none⟩), .func (.yield (D + 1)) #[] #[]], W1, run_enterLoop_outer _ _ _ _ _, ?_, fun _ _ => trivial, ?_, (fun h => by cases h), ?_⟩
  · simp only [resolve, hg]
    simp [go_sem]
  · simp [invoke, go_sem]
  · refine (pall_in (m - 1) (D + 1) b n c A rs hl hn (fun k W => I k W ∧ W.heap[D + 1]? = some (.loop (rec0 .ready none)) ∧ W.heap[D]? = some (.deferred (some [])) ∧ D + 2 ≤ W.heap.size)
      (fun W => Ix W ∧ W.heap[D + 1]? = some (.loop (rec0 .done (some .ret))) ∧ W.heap[D]? = some (.deferred (some []))) ?_ (fun k hk W h => hat k hk W h.1) W1 hc1 ⟨hI1, hL1, hD1, by omega⟩).mono ?_
    · rintro k hk W ⟨hi, hr, hd, hz⟩
      have hlt : D + 1 < W.heap.size := by omega
      have hy : (Instr.yield (D + 1) #[lkV rs[k]]).run Tryz.prog W = .ok (.round (D + 1) fn (a.tmps.setIfInBounds t (lkV rs[k])) assign body) W := by
        have h1 := run_yield (P := Tryz.prog) (args := #[lkV rs[k]]) hr rfl
        simpa [rec0] using h1
      refine ⟨fn, _, assign, body, hy, roundIn_of_wpIn trivial (hassign (D + 1) rs[k] W _ ?_)⟩
      refine ⟨_, run_beginRound hr rfl, ?_⟩
      have hr2 := World.putObj_heap_same (w := W) (o := .loop { rec0 .ready none with state := .busy }) hlt
      have hd2 : (W.putObj (D + 1) (.loop { rec0 .ready none with state := .busy })).heap[D]? = some (.deferred (some [])) := (World.putObj_heap_other (by omega)).trans hd
      refine wpIn_mono (hbody _ k hk _ (stI k _ _ hi (off_putObj W _ (.inr rfl))) (by rw [World.putObj_size]; exact hz)) ?_
      rintro e a3 W3 hp
      have key : ∀ jump, (∀ j, bkS D j → W3.heap[j]? = (W.putObj (D + 1) (.loop { rec0 .ready none with state := .busy })).heap[j]?) →
          (Instr.endRound (D + 1) jump).run Tryz.prog W3 = .ok (.bool jump.isNone) (W3.putObj (D + 1) (.loop (rec0 (if jump.isNone then .ready else .done) jump))) ∧
          (W3.putObj (D + 1) (.loop (rec0 (if jump.isNone then .ready else .done) jump))).heap[D + 1]? = some (.loop (rec0 (if jump.isNone then .ready else .done) jump)) ∧
          (W3.putObj (D + 1) (.loop (rec0 (if jump.isNone then .ready else .done) jump))).heap[D]? = some (.deferred (some [])) ∧ D + 2 ≤ W3.heap.size := fun jump hj => by
        have h3 := (hj (D + 1) (.inr rfl)).trans hr2
        have h4 := (hj D (.inl rfl)).trans hd2
        have h5 := (Array.getElem?_eq_some_iff.1 h3).1
        exact ⟨run_endRound jump h3, World.putObj_heap_same h5, (World.putObj_heap_other (by omega)).trans h4, by omega⟩
      cases e with
      | normal =>
        obtain ⟨hi3, hj⟩ := hp
        obtain ⟨k1, k2, k3, k4⟩ := key none hj
        exact ⟨_, _, k1, .inl ⟨rfl, stI _ _ _ hi3 (off_putObj W3 _ (.inr rfl)), k2, k3, by simpa using k4⟩⟩
      | ret =>
        obtain ⟨hi3, hj⟩ := hp
        obtain ⟨k1, k2, k3, k4⟩ := key (some .ret) hj
        exact ⟨_, _, k1, .inr ⟨rfl, stX _ _ hi3 (off_putObj W3 _ (.inr rfl)), k2, k3⟩⟩
      | exit id => exact hp.elim
      | goto t => exact hp.elim
      | panic ch => exact hp.elim
      | outgrown => exact hp.elim
    · rintro e W2 ⟨⟨v, rfl⟩, (⟨hi, hr, hd, _⟩ | ⟨hi, hr, hd⟩)⟩
      · exact ⟨none, _, run_endLoop hr (by simp [rec0]), hdone _ (stI _ _ _ hi (off_putObj W2 _ (.inr rfl))) ((World.putObj_heap_other (by simp [D])).trans hd)⟩
      · exact ⟨some .ret, _, run_endLoop hr (by simp [rec0]), hstop _ (stX _ _ hi (off_putObj W2 _ (.inr rfl))) ((World.putObj_heap_other (by simp [D])).trans hd)⟩
end

/- The document's layer 9: a connection in memory: contracts. -/
section
open Go.RowKit
set_option maxRecDepth 100000

/-- a connection of the document's, as it lies -/
def rcells (ep s o f : Int) (d : Bool) (n : Int) : Array Value := #[.int .u64 ep, .int .i64 s, .int .i64 o, .int .u64 f, .bool d, .int .i64 n]
def RCp (b : Nat) (ep : Int) (c : Cn) (S : Nat → Prop) (w : World) : Prop :=
  w.heap[b]? = some (.cells (rcells ep c.s c.o c.f c.d c.n) 83 (0, 0)) ∧ S b ∧ (∀ k, S k → k < w.heap.size) ∧ c.ok
def RC (b : Nat) (ep : Int) (c : Cn) : Thing where
  p := RCp b ep c
  keep := fun ⟨h1, h2, h3, h4⟩ hk hz => ⟨(hk b h2).trans h1, h2, fun k h => Nat.lt_of_lt_of_le (h3 k h) hz, h4⟩
  lt := fun ⟨_, _, h3, _⟩ => h3
section
variable {b : Nat} {ep : Int} {c : Cn} {S : Nat → Prop} {w : World}
theorem RC.at_ (h : (RC b ep c).p S w) : w.heap[b]? = some (.cells (rcells ep c.s c.o c.f c.d c.n) 83 (0, 0)) ∧ S b ∧ (∀ k, S k → k < w.heap.size) ∧ c.ok := h
theorem RC.turn {w' : World} {c' : Cn} (h : (RC b ep c).p S w) (hb : w'.heap[b]? = some (.cells (rcells ep c'.s c'.o c'.f c'.d c'.n) 83 (0, 0))) (ho : Off S w w') (hc : c'.ok) : Turn (RC b ep c') S w w' := by
  obtain ⟨_, h2, h3, _⟩ := RC.at_ h
  exact ⟨⟨S, ⟨hb, h2, fun k hk => Nat.lt_of_lt_of_le (h3 k hk) ho.size, hc⟩, fun k hk => .inl hk⟩, ho⟩
theorem rset {cs cs' : Array Value} {t : TypeId} (hb : w.heap[b]? = some (.cells cs t (0, 0))) (i : Nat) (v : Value) (hc : cs.setIfInBounds i v = cs') : (w.setCell ⟨b, i, none⟩ v).heap[b]? = some (.cells cs' t (0, 0)) := by
  rw [← hc]
  exact heap_setCell_same w b i _ _ _ hb
theorem Off.setr {S : Nat → Prop} {w w' : World} {b : Nat} (h : Off S w w') (hb : S b) (i : Nat) (u : Value) : Off S w (w'.setCell ⟨b, i, none⟩ u) := h.setCell (p := ⟨b, i, none⟩) (.inl hb) u
theorem rcell {s o f n : Int} {d : Bool} (h : w.heap[b]? = some (.cells (rcells ep s o f d n) 83 (0, 0))) :
    (w.cell? ⟨b, 0, none⟩ = some (.int .u64 ep) ∧ w.cell? ⟨b, 1, none⟩ = some (.int .i64 s) ∧ w.cell? ⟨b, 2, none⟩ = some (.int .i64 o) ∧ w.cell? ⟨b, 3, none⟩ = some (.int .u64 f) ∧ w.cell? ⟨b, 4, none⟩ = some (.bool d) ∧ w.cell? ⟨b, 5, none⟩ = some (.int .i64 n)) ∧
    w.frozen? ⟨b, 1, none⟩ = false ∧ w.frozen? ⟨b, 2, none⟩ = false ∧ w.frozen? ⟨b, 3, none⟩ = false ∧ w.frozen? ⟨b, 4, none⟩ = false ∧ w.frozen? ⟨b, 5, none⟩ = false :=
  ⟨⟨(cellsAt h 0 rfl).1, (cellsAt h 1 rfl).1, (cellsAt h 2 rfl).1, (cellsAt h 3 rfl).1, (cellsAt h 4 rfl).1, (cellsAt h 5 rfl).1⟩, (cellsAt h 1 rfl).2, (cellsAt h 2 rfl).2, (cellsAt h 3 rfl).2, (cellsAt h 4 rfl).2, (cellsAt h 5 rfl).2⟩

theorem rnew9_ok (ep : Int) (w : World) :
    Calls Tryz.prog 102 #[.int .u64 ep] w fun e w' => e = .returned (.pointer (some ⟨w.heap.size, 0, none⟩)) ∧ (RC w.heap.size ep (.idle false 0)).p (fun k => k = w.heap.size) w' ∧ Below w.heap.size w w' := by
  go_enter Tryz.func102, Tryz.ntmps102
  go_wp2_with fail
  go_ret
  exact ⟨rfl, ⟨heap_alloc_new w _, rfl, fun k hk => by subst hk; simp, trivial⟩, kp_new w _⟩

theorem rshut_ok {s o f n : Int} {d : Bool} (h : w.heap[b]? = some (.cells (rcells ep s o f d n) 83 (0, 0))) :
    Calls Tryz.prog 103 #[.pointer (some ⟨b, 0, none⟩)] w fun e w' => e = .returned (.tuple #[]) ∧ w'.heap[b]? = some (.cells (rcells ep 4 0 0 d n) 83 (0, 0)) ∧ Off (fun k => k = b) w w' := by
  obtain ⟨⟨_, c1, c2, c3, _, _⟩, f1, f2, f3, _, _⟩ := rcell h
  have H : Hid ((((w.setCell ⟨b, 1, none⟩ (.int .i64 4)).setCell ⟨b, 2, none⟩ (.int .i64 0)).setCell ⟨b, 3, none⟩ (.int .u64 0)).heap[b]? = some (.cells (rcells ep 4 0 0 d n) 83 (0, 0)) ∧ Off (fun k => k = b) w (((w.setCell ⟨b, 1, none⟩ (.int .i64 4)).setCell ⟨b, 2, none⟩ (.int .i64 0)).setCell ⟨b, 3, none⟩ (.int .u64 0))) :=
    Lib.hid ⟨rset (rset (rset h 1 _ rfl) 2 _ rfl) 3 _ rfl, (((Off.refl (fun k => k = b) w).setr rfl 1 _).setr rfl 2 _).setr rfl 3 _⟩
  clear h
  go_enter Tryz.func103, Tryz.ntmps103
  go_wp2_with fail
  go_end0
  exact ⟨rfl, H.out⟩

theorem rlend_ok (x : Int) (h : (RC b ep c).p S w) :
    Calls Tryz.prog 101 #[.pointer (some ⟨b, 0, none⟩), .int .i64 x] w fun e w' => e = .returned (.bool (c.lendA x)) ∧ Turn (RC b ep (c.lendC x)) S w w' := by
  have H := Lib.hid h
  obtain ⟨hb, hS, _, hok⟩ := RC.at_ h
  clear h
  cases c with
  | idle d n =>
    obtain ⟨⟨_, c1, c2, c3, _, _⟩, f1, f2, f3, _, _⟩ := rcell hb
    dsimp only [Cn.s, Cn.o, Cn.f, Cn.d, Cn.n] at c1 c2 c3
    by_cases hx : 1 ≤ x
    · have hA : Cn.lendA x (.idle d n) = true := by simpa [Cn.lendA] using hx
      have hC : Cn.lendC x (.idle d n) = .lent x 0 d n := by simp [Cn.lendC, hx]
      have HT : Hid (Turn (RC b ep (.lent x 0 d n)) S w ((w.setCell ⟨b, 1, none⟩ (.int .i64 2)).setCell ⟨b, 2, none⟩ (.int .i64 x))) := Lib.hid (RC.turn H.out (rset (rset hb 1 _ rfl) 2 _ rfl) (((Off.refl _ _).setr hS 1 _).setr hS 2 _) hx)
      rw [hA, hC]
      have hx1 : ¬ x < 1 := by omega
      clear hb hok H hA hC hx
      go_enter Tryz.func101, Tryz.ntmps101
      go_wp2_with fail
      go_ret
      exact ⟨rfl, HT.out⟩
    · have hA : Cn.lendA x (.idle d n) = false := by simp [Cn.lendA]; omega
      have hC : Cn.lendC x (.idle d n) = .idle d n := by simp [Cn.lendC, hx]
      rw [hA, hC]
      have hx1 : x < 1 := by omega
      clear hb hok hA hC hx
      go_enter Tryz.func101, Tryz.ntmps101
      go_wp2_with fail
      go_ret
      exact ⟨rfl, Turn.here H.out⟩
  | lent o f d n | drains o f d n | closed d n =>
    obtain ⟨⟨_, c1, c2, c3, _, _⟩, f1, f2, f3, _, _⟩ := rcell hb
    dsimp only [Cn.s, Cn.o, Cn.f, Cn.d, Cn.n] at c1 c2 c3
    clear hb hok
    go_enter Tryz.func101, Tryz.ntmps101
    go_wp2_with fail
    go_ret
    exact ⟨rfl, Turn.here H.out⟩

set_option maxHeartbeats 1000000 in
theorem rsend_ok (y : Int) (h : (RC b ep c).p S w) :
    Calls Tryz.prog 68 #[.pointer (some ⟨b, 0, none⟩), .int .u64 y] w fun e w' => e = .returned (.int .i64 (c.sendA y)) ∧ Turn (RC b ep (c.sendC y)) S w w' := by
  have H := Lib.hid h
  obtain ⟨hb, hS, _, hok⟩ := RC.at_ h
  clear h
  by_cases hy : y = 0
  · have hA : c.sendA y = 1 := by cases c <;> simp [Cn.sendA, hy]
    have hC : c.sendC y = c := by cases c <;> simp [Cn.sendC, hy]
    have hy1 : (y == 0) = true := by simpa using hy
    rw [hA, hC]
    clear hb hok hA hC hy
    go_enter Tryz.func68, Tryz.ntmps68
    go_wp2_with fail
    go_ret
    exact ⟨rfl, Turn.here H.out⟩
  · have hy1 : (y == 0) = false := by simpa using hy
    cases c with
    | idle d n | drains o f d n | closed d n =>
      obtain ⟨⟨_, c1, c2, c3, _, _⟩, f1, f2, f3, _, _⟩ := rcell hb
      dsimp only [Cn.s, Cn.o, Cn.f, Cn.d, Cn.n] at c1 c2 c3
      simp only [Cn.sendA, if_neg hy]
      clear hb hok hy
      go_enter Tryz.func68, Tryz.ntmps68
      go_wp2_with fail
      go_ret
      exact ⟨rfl, Turn.here H.out⟩
    | lent o f d n =>
      obtain ⟨⟨_, c1, c2, c3, _, c5⟩, f1, f2, f3, _, f5⟩ := rcell hb
      dsimp only [Cn.s, Cn.o, Cn.f, Cn.d, Cn.n] at c1 c2 c3 c5
      by_cases hf : f = 0
      · have hA : Cn.sendA y (.lent o f d n) = 0 := by simp [Cn.sendA, hy, hf]
        have hC : Cn.sendC y (.lent o f d n) = .lent o y d (IntKind.i64.wrap (n + 1)) := by simp [Cn.sendC, hy, hf]
        have hf1 : (f == 0) = true := by simpa using hf
        have HT : Hid (Turn (RC b ep (.lent o y d (IntKind.i64.wrap (n + 1)))) S w ((w.setCell ⟨b, 3, none⟩ (.int .u64 y)).setCell ⟨b, 5, none⟩ (.int .i64 (IntKind.i64.wrap (n + 1))))) := Lib.hid (RC.turn H.out (rset (rset hb 3 _ rfl) 5 _ rfl) (((Off.refl _ _).setr hS 3 _).setr hS 5 _) hok)
        rw [hA, hC]
        generalize hm : IntKind.i64.wrap (n + 1) = m at *
        clear hb hok H hA hC hf hy
        go_enter Tryz.func68, Tryz.ntmps68
        go_wp2_with fail
        go_ret
        exact ⟨rfl, HT.out⟩
      · have hA : Cn.sendA y (.lent o f d n) = 7 := by simp [Cn.sendA, hy, hf]
        have hC : Cn.sendC y (.lent o f d n) = .lent o f d n := by simp [Cn.sendC, hf]
        have hf1 : (f == 0) = false := by simpa using hf
        rw [hA, hC]
        clear hb hok hA hC hf hy
        go_enter Tryz.func68, Tryz.ntmps68
        go_wp2_with fail
        go_ret
        exact ⟨rfl, Turn.here H.out⟩

set_option maxHeartbeats 1000000 in
theorem rreply_ok (y : Int) (h : (RC b ep c).p S w) :
    Calls Tryz.prog 69 #[.pointer (some ⟨b, 0, none⟩), .int .u64 y] w fun e w' => e = .returned (.bool (c.replyA y)) ∧ Turn (RC b ep (c.replyC y)) S w w' := by
  have H := Lib.hid h
  obtain ⟨hb, hS, _, hok⟩ := RC.at_ h
  obtain ⟨⟨_, c1, c2, c3, c4, c5⟩, f1, f2, f3, _, _⟩ := rcell hb
  clear h
  by_cases hy : y = 0
  · have hA : c.replyA y = false := by simp [Cn.replyA, hy]
    have hC : c.replyC y = c := by cases c <;> simp [Cn.replyC, hy]
    have hy1 : (y == 0) = true := by simpa using hy
    rw [hA, hC]
    clear hb hok hA hC hy
    go_enter Tryz.func69, Tryz.ntmps69
    go_wp2_with fail
    go_ret
    exact ⟨rfl, Turn.here H.out⟩
  · have hy1 : (y == 0) = false := by simpa using hy
    by_cases hf : c.f = y
    · have hA : c.replyA y = true := by simp [Cn.replyA, hy, hf]
      have hf1 : (c.f == y) = true := by simpa using hf
      rw [hA]
      cases c with
      | idle d n => exact absurd hf.symm hy
      | closed d n => exact absurd hf.symm hy
      | lent o f d n =>
        have hf' : f = y := hf
        have hC : Cn.replyC y (.lent o f d n) = .lent o 0 d n := by simp [Cn.replyC, hy, hf']
        rw [hC]
        dsimp only [Cn.s, Cn.o, Cn.f, Cn.d, Cn.n] at c1 c2 c3 hf1
        have HT : Hid (Turn (RC b ep (.lent o 0 d n)) S w (w.setCell ⟨b, 3, none⟩ (.int .u64 0))) := Lib.hid (RC.turn H.out (rset hb 3 _ rfl) ((Off.refl _ _).setr hS 3 _) hok)
        clear hb hok hA hC hy hf hf' H c4 c5
        go_enter Tryz.func69, Tryz.ntmps69
        go_wp2_with fail
        go_ret
        exact ⟨rfl, HT.out⟩
      | drains o f d n =>
        have hf' : f = y := hf
        have hC : Cn.replyC y (.drains o f d n) = .closed d n := by simp [Cn.replyC, hy, hf']
        rw [hC]
        dsimp only [Cn.s, Cn.o, Cn.f, Cn.d, Cn.n] at c1 c2 c3 hf1
        have HT : Hid (∀ u, u.heap[b]? = some (.cells (rcells ep 4 0 0 d n) 83 (0, 0)) → Off (fun k => k = b) (w.setCell ⟨b, 3, none⟩ (.int .u64 0)) u → Turn (RC b ep (.closed d n)) S w u) := Lib.hid fun u h1 h2 => RC.turn (c' := .closed d n) H.out h1 (((Off.refl S w).setr hS 3 _).trans (h2.wide (T := S) (fun k e => e ▸ hS)) fun _ h => .inl h) trivial
        have H1 := Lib.hid (rshut_ok (rset hb 3 (.int .u64 0) (cs' := rcells ep 3 o 0 d n) rfl))
        clear hb hok hA hC hy hf hf' H c4 c5
        go_enter Tryz.func69, Tryz.ntmps69
        go_wp2_with fail
        refine H1.out.mono ?_
        rintro e w1 ⟨rfl, h1, h2⟩
        have HX := HT.out w1 h1 h2
        clear HT h1 h2
        go_wp2_with fail
        go_ret
        exact ⟨rfl, HX⟩
    · have hA : c.replyA y = false := by simp [Cn.replyA, hf]
      have hC : c.replyC y = c := by
        cases c <;> simp only [Cn.replyC]
        · exact if_neg (fun h => hf h.2)
        · exact if_neg (fun h => hf h.2)
      have hf1 : (c.f == y) = false := by simpa using hf
      rw [hA, hC]
      clear hb hok hA hC hy hf c1 c2 c4 c5
      generalize c.f = f at *
      go_enter Tryz.func69, Tryz.ntmps69
      go_wp2_with fail
      go_ret
      exact ⟨rfl, Turn.here H.out⟩

theorem rsoil_ok (h : (RC b ep c).p S w) :
    Calls Tryz.prog 71 #[.pointer (some ⟨b, 0, none⟩)] w fun e w' => e = .returned (.bool c.soilA) ∧ Turn (RC b ep c.soilC) S w w' := by
  have H := Lib.hid h
  obtain ⟨hb, hS, _, hok⟩ := RC.at_ h
  obtain ⟨⟨_, c1, _, _, c4, _⟩, f1, f2, f3, f4, _⟩ := rcell hb
  clear h
  cases c with
  | lent o f d n =>
    dsimp only [Cn.s, Cn.o, Cn.f, Cn.d, Cn.n] at c1 c4
    have HT : Hid (Turn (RC b ep (.lent o f true n)) S w (w.setCell ⟨b, 4, none⟩ (.bool true))) := Lib.hid (RC.turn H.out (rset hb 4 _ rfl) ((Off.refl S w).setr hS 4 _) hok)
    clear hb hok H
    go_enter Tryz.func71, Tryz.ntmps71
    go_wp2_with fail
    go_ret
    exact ⟨rfl, HT.out⟩
  | idle d n | drains o f d n | closed d n =>
    dsimp only [Cn.s, Cn.o, Cn.f, Cn.d, Cn.n] at c1 c4
    clear hb hok
    go_enter Tryz.func71, Tryz.ntmps71
    go_wp2_with fail
    go_ret
    exact ⟨rfl, Turn.here H.out⟩

set_option maxHeartbeats 1000000 in
theorem rrelease_ok (h : (RC b ep c).p S w) :
    Calls Tryz.prog 72 #[.pointer (some ⟨b, 0, none⟩)] w fun e w' => e = .returned (.bool c.releaseA) ∧ Turn (RC b ep c.releaseC) S w w' := by
  have H := Lib.hid h
  obtain ⟨hb, hS, _, hok⟩ := RC.at_ h
  obtain ⟨⟨_, c1, c2, c3, c4, _⟩, f1, f2, f3, f4, _⟩ := rcell hb
  clear h
  cases c with
  | idle d n | drains o f d n | closed d n =>
    dsimp only [Cn.s, Cn.o, Cn.f, Cn.d, Cn.n] at c1 c2 c3 c4
    clear hb hok
    go_enter Tryz.func72, Tryz.ntmps72
    go_wp2_with fail
    go_ret
    exact ⟨rfl, Turn.here H.out⟩
  | lent o f d n =>
    dsimp only [Cn.s, Cn.o, Cn.f, Cn.d, Cn.n] at c1 c2 c3 c4
    by_cases hf : f = 0
    · have hf1 : (f == 0) = true := by simpa using hf
      have hA : Cn.releaseA (.lent o f d n) = true := by simpa [Cn.releaseA] using hf
      rw [hA]
      cases d with
      | true =>
        have hC : Cn.releaseC (.lent o f true n) = .closed true n := by simp [Cn.releaseC, hf]
        have HT : Hid (∀ u, u.heap[b]? = some (.cells (rcells ep 4 0 0 true n) 83 (0, 0)) → Off (fun k => k = b) w u → Turn (RC b ep (.closed true n)) S w u) := Lib.hid fun u h1 h2 => RC.turn (c' := .closed true n) H.out h1 (h2.wide (fun k e => e ▸ hS)) trivial
        have H1 := Lib.hid (rshut_ok hb)
        rw [hC]
        clear hb hok H hA hC hf
        go_enter Tryz.func72, Tryz.ntmps72
        go_wp2_with fail
        refine H1.out.mono ?_
        rintro e w1 ⟨rfl, h1, h2⟩
        have HX := HT.out w1 h1 h2
        clear HT h1 h2
        go_wp2_with fail
        go_ret
        exact ⟨rfl, HX⟩
      | false =>
        have hC : Cn.releaseC (.lent o f false n) = .idle false n := by simp [Cn.releaseC, hf]
        have HT : Hid (Turn (RC b ep (.idle false n)) S w ((w.setCell ⟨b, 1, none⟩ (.int .i64 1)).setCell ⟨b, 2, none⟩ (.int .i64 0))) := Lib.hid (RC.turn H.out (by subst hf; exact rset (rset hb 1 _ rfl) 2 _ rfl) (((Off.refl S w).setr hS 1 _).setr hS 2 _) trivial)
        rw [hC]
        clear hb hok H hA hC hf
        go_enter Tryz.func72, Tryz.ntmps72
        go_wp2_with fail
        go_ret
        exact ⟨rfl, HT.out⟩
    · have hf1 : (f == 0) = false := by simpa using hf
      have hA : Cn.releaseA (.lent o f d n) = false := by simpa [Cn.releaseA] using hf
      have hC : Cn.releaseC (.lent o f d n) = .lent o f d n := by simp [Cn.releaseC, hf]
      rw [hA, hC]
      clear hb hok hA hC hf
      go_enter Tryz.func72, Tryz.ntmps72
      go_wp2_with fail
      go_ret
      exact ⟨rfl, Turn.here H.out⟩

set_option maxHeartbeats 1000000 in
theorem rdrain_ok (h : (RC b ep c).p S w) :
    Calls Tryz.prog 74 #[.pointer (some ⟨b, 0, none⟩)] w fun e w' => e = .returned (.tuple #[]) ∧ Turn (RC b ep c.drainC) S w w' := by
  have H := Lib.hid h
  obtain ⟨hb, hS, _, hok⟩ := RC.at_ h
  obtain ⟨⟨_, c1, c2, c3, c4, _⟩, f1, f2, f3, f4, _⟩ := rcell hb
  clear h
  have HT : Hid (∀ c' : Cn, (∃ d n, c' = .closed d n ∧ c.d = d ∧ c.n = n) → ∀ u, u.heap[b]? = some (.cells (rcells ep 4 0 0 c.d c.n) 83 (0, 0)) → Off (fun k => k = b) w u → Turn (RC b ep c') S w u) := Lib.hid fun c' ⟨d, n, e1, e2, e3⟩ u h1 h2 => by
    subst e1 e2 e3
    exact RC.turn (c' := .closed c.d c.n) H.out h1 (h2.wide (fun k e => e ▸ hS)) trivial
  have H1 := Lib.hid (rshut_ok hb)
  cases c with
  | idle d n =>
    dsimp only [Cn.s, Cn.o, Cn.f, Cn.d, Cn.n] at c1 c2 c3 c4 HT H1
    clear hb hok H
    go_enter Tryz.func74, Tryz.ntmps74
    go_wp2_with fail
    refine H1.out.mono ?_
    rintro e w1 ⟨rfl, h1, h2⟩
    have HX := HT.out (.closed d n) ⟨d, n, rfl, rfl, rfl⟩ w1 h1 h2
    clear HT h1 h2
    go_wp2_with fail
    go_end0
    exact ⟨rfl, HX⟩
  | lent o f d n =>
    dsimp only [Cn.s, Cn.o, Cn.f, Cn.d, Cn.n] at c1 c2 c3 c4 HT H1
    by_cases hf : f = 0
    · have hf1 : (f == 0) = true := by simpa using hf
      have hC : Cn.drainC (.lent o f d n) = .closed d n := by simp [Cn.drainC, hf]
      rw [hC]
      clear hb hok H hC hf
      go_enter Tryz.func74, Tryz.ntmps74
      go_wp2_with fail
      refine H1.out.mono ?_
      rintro e w1 ⟨rfl, h1, h2⟩
      have HX := HT.out (.closed d n) ⟨d, n, rfl, rfl, rfl⟩ w1 h1 h2
      clear HT h1 h2
      go_wp2_with fail
      go_end0
      exact ⟨rfl, HX⟩
    · have hf1 : (f == 0) = false := by simpa using hf
      have hC : Cn.drainC (.lent o f d n) = .drains o f d n := by simp [Cn.drainC, hf]
      have HX : Hid (Turn (RC b ep (.drains o f d n)) S w (w.setCell ⟨b, 1, none⟩ (.int .i64 3))) := Lib.hid (RC.turn H.out (rset hb 1 _ rfl) ((Off.refl S w).setr hS 1 _) ⟨hok, hf⟩)
      rw [hC]
      clear hb hok H hC hf HT H1
      go_enter Tryz.func74, Tryz.ntmps74
      go_wp2_with fail
      go_end0
      exact ⟨rfl, HX.out⟩
  | drains o f d n | closed d n =>
    dsimp only [Cn.s, Cn.o, Cn.f, Cn.d, Cn.n] at c1 c2 c3 c4
    clear hb hok HT H1
    go_enter Tryz.func74, Tryz.ntmps74
    go_wp2_with fail
    go_end0
    exact ⟨rfl, Turn.here H.out⟩

theorem rbreak_ok (h : (RC b ep c).p S w) :
    Calls Tryz.prog 73 #[.pointer (some ⟨b, 0, none⟩)] w fun e w' => e = .returned (.int .u64 c.f) ∧ Turn (RC b ep c.breakC) S w w' := by
  have H := Lib.hid h
  obtain ⟨hb, hS, _, hok⟩ := RC.at_ h
  obtain ⟨⟨_, c1, c2, c3, c4, _⟩, f1, f2, f3, f4, _⟩ := rcell hb
  clear h
  have HT : Hid (∀ u, u.heap[b]? = some (.cells (rcells ep 4 0 0 c.d c.n) 83 (0, 0)) → Off (fun k => k = b) w u → Turn (RC b ep c.breakC) S w u) := Lib.hid fun u h1 h2 => RC.turn (c' := .closed c.d c.n) H.out h1 (h2.wide (fun k e => e ▸ hS)) trivial
  have H1 := Lib.hid (rshut_ok hb)
  generalize c.breakC = c' at *
  clear hb hok H c1 c2 c4
  generalize c.f = f at *
  go_enter Tryz.func73, Tryz.ntmps73
  go_wp2_with fail
  refine H1.out.mono ?_
  rintro e w1 ⟨rfl, h1, h2⟩
  have HX := HT.out w1 h1 h2
  clear HT h1 h2
  go_wp2_with fail
  go_ret
  exact ⟨rfl, HX⟩
end
end

/- An act on a connection, the project's and the document's: contracts. -/
section
open Go.RowKit
set_option maxRecDepth 100000

theorem results_cell1 {fn : Func} {p : Tmp} {ty : TypeId} (h : fn.results = #[.cell p ty]) (tmps : Array Value) (P : Program) (w : World) :
    (results fn tmps).run P w = ((asAddr (tmps.getD p undef)).run P w).andThen fun a w₁ => (loadVar ty a).run P w₁ := by
  simp only [results, h]
  simp [Sem.run_bind, Result.andThen]
def toldV (r : Told3) : Value := .agg #[.bool r.i, .int .i64 r.e, .int .u64 r.n]
/-- three blocks that a call made, behind a call of its own that wrote none of them -/
theorem loc3 {Y : Thing} {S : Nat → Prop} {o1 o2 o3 : Obj} {w w4 : World} (ht : Turn Y S (((w.alloc o1).alloc o2).alloc o3) w4) (hS : ∀ k, S k → k < w.heap.size) :
    w4.heap[w.heap.size]? = some o1 ∧ w4.heap[w.heap.size + 1]? = some o2 ∧ w4.heap[w.heap.size + 1 + 1]? = some o3 := by
  have h := ht.off.block
  have hz : (((w.alloc o1).alloc o2).alloc o3).heap.size = w.heap.size + 3 := by simp
  have z1 : (w.alloc o1).heap.size = w.heap.size + 1 := by simp
  have z2 : ((w.alloc o1).alloc o2).heap.size = w.heap.size + 1 + 1 := by simp
  refine ⟨?_, ?_, ?_⟩
  · rw [h _ (by omega) (fun e => by have := hS _ e; omega), heap_alloc_old _ _ (by omega), heap_alloc_old _ _ (by omega)]
    exact heap_alloc_new w o1
  · rw [h _ (by omega) (fun e => by have := hS _ e; omega), heap_alloc_old _ _ (by omega), ← z1]
    exact heap_alloc_new _ o2
  · rw [h _ (by omega) (fun e => by have := hS _ e; omega), ← z2]
    exact heap_alloc_new _ o3
theorem turn3 {X Y : Thing} {S : Nat → Prop} {o1 o2 o3 : Obj} {w w4 w5 : World} (h : X.p S w) (ht : Turn Y S (((w.alloc o1).alloc o2).alloc o3) w4) (ho : Off (fun k => w.heap.size ≤ k ∧ k < w.heap.size + 3) w4 w5) : Turn Y S w w5 := by
  obtain ⟨⟨S', p, q⟩, o⟩ := ht
  have hz : (((w.alloc o1).alloc o2).alloc o3).heap.size = w.heap.size + 3 := by simp
  have hS := X.lt h
  have hn : ∀ k, S' k → ¬ (w.heap.size ≤ k ∧ k < w.heap.size + 3) := fun k hk => by
    rcases q k hk with e | e
    · have := hS k e; omega
    · omega
  refine ⟨⟨S', Thing.off p ho hn, fun k hk => (q k hk).imp id fun e => by omega⟩, ?_⟩
  have k3 := kp_alloc (kp_alloc (kp_alloc (Below.refl _ w) o1) o2) o3
  have hz2 := o.size
  exact ⟨(ho.os.trans o.os).trans k3.os, (ho.tape.trans o.tape).trans k3.tape, (ho.output.trans o.output).trans k3.output, by have := ho.size; omega, fun k hk hns => by
    rw [ho.block k (by omega) (by omega), o.block k (by omega) hns]
    exact k3.block k hk⟩
section
variable {b : Nat} {ep : Int} {c : Cn} {S : Nat → Prop} {w : World}
end
end

/- A link of the project's pool: what tells how it is, what is done with one: contracts. -/
section
open Go.RowKit
set_option maxRecDepth 100000

section
variable {r : Lr} {w W : World}
theorem LK.drew (h : LK w r) : LK w.drew r := ⟨h.top, (CC r.a r.h.ep r.h.c).drew h.c, h.ne⟩
/-- its connection turned, and nothing else -/
theorem LK.offs (h : LK w r) {c' : Cn} {w' : World} (ht : Turn (CC r.a r.h.ep c') (fun k => k = r.a) w w') : LK w' (r.set (r.h.set c')) ∧ Off (lkS r) w w' := ⟨h.turn ht, ht.off.wide fun _ e => .inr e⟩
theorem isIdle_ok (h : LK w r) : Calls Tryz.prog 62 #[lkV r] w fun e w' => e = .returned (.bool r.h.idle) ∧ w = w' := by
  obtain ⟨⟨c0, _, _⟩, _⟩ := h.cells
  have HS := Lib.hid (cstate_ok h.c)
  unfold Hd.idle
  unfold lkV
  clear h
  generalize r.h.c.s = s at *
  generalize r.a = a at *
  generalize r.l = l at *
  go_enter Tryz.func62, Tryz.ntmps62
  go_wp2_with fail
  refine HS.out.mono ?_
  rintro e w1 ⟨rfl, rfl⟩
  go_wp2_with fail
  go_ret
  exact ⟨rfl, rfl⟩
theorem isClosed_ok (h : LK w r) : Calls Tryz.prog 99 #[lkV r] w fun e w' => e = .returned (.bool (!r.h.live)) ∧ w = w' := by
  obtain ⟨⟨c0, _, _⟩, _⟩ := h.cells
  have HS := Lib.hid (cstate_ok h.c)
  have hv : (!r.h.live) = (r.h.c.s == 4) := by simp [Hd.live, bne]
  rw [hv]
  unfold lkV
  clear h hv
  generalize r.h.c.s = s at *
  generalize r.a = a at *
  generalize r.l = l at *
  go_enter Tryz.func99, Tryz.ntmps99
  go_wp2_with fail
  refine HS.out.mono ?_
  rintro e w1 ⟨rfl, rfl⟩
  go_wp2_with fail
  go_ret
  exact ⟨rfl, rfl⟩
/-- one given back: since now -/
def giveH (now : Int) (h : Hd) : Hd := if h.c.releaseA then { h with c := h.c.releaseC, t := now } else h
theorem giveBack_ok (now : Int) (h : LK w r) : Calls Tryz.prog 50 #[lkV r, .int .u64 now] w fun e w' => e = .returned (.bool r.h.c.releaseA) ∧ LK w' (r.set (giveH now r.h)) ∧ Off (lkS r) w w' := by
  obtain ⟨l, a, hd⟩ := r
  have c0 : w.cell? ⟨l, 0, none⟩ = some (.pointer (some ⟨a, 0, none⟩)) := h.cells.1.1
  have HC : Hid (Calls Tryz.prog 91 #[.pointer (some ⟨a, 0, none⟩)] w fun e w' => e = .returned (.bool hd.c.releaseA) ∧ Turn (CC a hd.ep hd.c.releaseC) (fun k => k = a) w w') := Lib.hid (crelease_ok h.c)
  unfold lkV giveH
  dsimp only
  cases hv : hd.c.releaseA with
  | false =>
    rw [hv] at HC
    have he : hd.c.releaseC = hd.c := by
      revert hv
      cases hd.c with
      | lent o f d n =>
        simp only [Cn.releaseA, Cn.releaseC, decide_eq_false_iff_not]
        intro h0
        rw [if_neg h0]
      | idle d n | drains o f d n | closed d n => intro _; rfl
    rw [he] at HC
    have HR : Hid (∀ w', Turn (CC a hd.ep hd.c) (fun k => k = a) w w' → LK w' (Lr.set ⟨l, a, hd⟩ hd) ∧ Off (lkS ⟨l, a, hd⟩) w w') := Lib.hid fun w' ht => h.offs ht
    clear h hv he
    rw [if_neg (by simp)]
    go_enter Tryz.func50, Tryz.ntmps50
    go_wp2_with fail
    refine HC.out.mono ?_
    rintro e w1 ⟨rfl, ht⟩
    have HQ := Lib.hid (HR.out w1 ht)
    clear ht
    go_wp2_with fail
    go_ret
    exact ⟨rfl, HQ.out⟩
  | true =>
    rw [hv] at HC
    have HR : Hid (∀ w', Turn (CC a hd.ep hd.c.releaseC) (fun k => k = a) w w' → w'.cell? ⟨l, 2, none⟩ = some (.int .u64 hd.t) ∧ w'.frozen? ⟨l, 2, none⟩ = false ∧ LK (w'.setCell ⟨l, 2, none⟩ (.int .u64 now)) (Lr.set ⟨l, a, hd⟩ { hd with c := hd.c.releaseC, t := now }) ∧ Off (lkS ⟨l, a, hd⟩) w (w'.setCell ⟨l, 2, none⟩ (.int .u64 now))) := Lib.hid fun w' ht => by
      obtain ⟨h1, h2⟩ := h.offs ht
      refine ⟨h1.cells.1.2.2, h1.cells.2, ⟨cset h1.top 2 _ rfl, ?_, h.ne⟩, h2.setCell (.inl (.inl rfl)) _⟩
      exact (CC _ _ _).keep h1.c (fun k hk => Below.heap_setCell _ _ _ _ fun e => h.ne (by subst e; exact hk)) (by simp [World.setCell])
    clear h hv
    rw [if_pos rfl]
    generalize hd.t = t0 at *
    go_enter Tryz.func50, Tryz.ntmps50
    go_wp2_with fail
    refine HC.out.mono ?_
    rintro e w1 ⟨rfl, ht⟩
    obtain ⟨q1, q2, q3, q4⟩ := HR.out w1 ht
    have HQ := Lib.hid (And.intro q3 q4)
    clear ht HR q3 q4
    go_wp2_with fail
    go_ret
    exact ⟨rfl, HQ.out⟩
theorem info_ok (h : LK w r) : Calls Tryz.prog 38 #[lkV r] w fun e w' => e = .returned (.agg #[.int .i64 r.h.id, .int .i64 r.h.c.s, .int .i64 r.h.c.o, .int .u64 r.h.ep, .int .u64 r.h.c.f, .int .u64 r.h.t]) ∧ Below w.heap.size w w' := by
  have HU : Hid (∀ u, Below w.heap.size w u → LK u r) := Lib.hid fun u hu => h.next hu
  obtain ⟨l, a, hd⟩ := r
  clear h
  unfold lkV
  dsimp only
  obtain ⟨w1, hw1⟩ : ∃ u, w.alloc (.cells #[.int .i64 0, .int .i64 0, .int .i64 0, .int .u64 0, .int .u64 0, .int .u64 0] 61) = u := ⟨_, rfl⟩
  have hk : Below w.heap.size w w1 := hw1 ▸ kp_new w _
  have hL := HU.out _ (hk.drew)
  have HB := Lib.hid hk
  have hb : w1.heap[w.heap.size]? = some (.cells #[.int .i64 0, .int .i64 0, .int .i64 0, .int .u64 0, .int .u64 0, .int .u64 0] 61 (0, 0)) := hw1 ▸ heap_alloc_new w _
  have HW1 := Lib.hid hw1
  clear hk hw1
  go_enter Tryz.func38, Tryz.ntmps38
  go_wp2_with fail
  rw [HW1.out]
  clear HW1 HU
  obtain ⟨w2, hw2⟩ : ∃ u, w1.drew = u := ⟨_, rfl⟩
  rw [hw2] at hL
  have c0 : w2.cell? ⟨l, 0, none⟩ = some (.pointer (some ⟨a, 0, none⟩)) := hL.cells.1.1
  have c1 : w2.cell? ⟨l, 1, none⟩ = some (.int .i64 hd.id) := hL.cells.1.2.1
  have c2 : w2.cell? ⟨l, 2, none⟩ = some (.int .u64 hd.t) := hL.cells.1.2.2
  have HS : Hid (Calls Tryz.prog 75 #[.pointer (some ⟨a, 0, none⟩)] w2 fun e w' => e = .returned (.int .i64 hd.c.s) ∧ w' = w2) := Lib.hid ((cstate_ok hL.c).mono fun _ _ ⟨h1, h2⟩ => ⟨h1, h2.symm⟩)
  have HO : Hid (Calls Tryz.prog 76 #[.pointer (some ⟨a, 0, none⟩)] w2 fun e w' => e = .returned (.int .i64 hd.c.o) ∧ w' = w2) := Lib.hid ((cowner_ok hL.c).mono fun _ _ ⟨h1, h2⟩ => ⟨h1, h2.symm⟩)
  have HE : Hid (Calls Tryz.prog 59 #[.pointer (some ⟨a, 0, none⟩)] w2 fun e w' => e = .returned (.int .u64 hd.ep) ∧ w' = w2) := Lib.hid ((cepoch_ok hL.c).mono fun _ _ ⟨h1, h2⟩ => ⟨h1, h2.symm⟩)
  have HF : Hid (Calls Tryz.prog 77 #[.pointer (some ⟨a, 0, none⟩)] w2 fun e w' => e = .returned (.int .u64 hd.c.f) ∧ w' = w2) := Lib.hid ((cflight_ok hL.c).mono fun _ _ ⟨h1, h2⟩ => ⟨h1, h2.symm⟩)
  have hb2 : w2.heap[w.heap.size]? = some (.cells #[.int .i64 0, .int .i64 0, .int .i64 0, .int .u64 0, .int .u64 0, .int .u64 0] 61 (0, 0)) := hw2 ▸ hb
  obtain ⟨x0, z0⟩ := cellsAt hb2 0 (v := .int .i64 0) rfl
  obtain ⟨x1, z1⟩ := cellsAt hb2 1 (v := .int .i64 0) rfl
  obtain ⟨x2, z2⟩ := cellsAt hb2 2 (v := .int .i64 0) rfl
  obtain ⟨x3, z3⟩ := cellsAt hb2 3 (v := .int .u64 0) rfl
  obtain ⟨x4, z4⟩ := cellsAt hb2 4 (v := .int .u64 0) rfl
  obtain ⟨x5, z5⟩ := cellsAt hb2 5 (v := .int .u64 0) rfl
  have HB2 : Hid (Below w.heap.size w w2) := Lib.hid (hw2 ▸ HB.out.drew)
  have HW2 := Lib.hid hw2
  clear hL hb hb2 HB hw2
  refine wp_region_still_tail 29 (by kernel_rfl) (by kernel_rfl) ?_
  simp only [List.take_succ_cons, List.take_zero, List.drop_succ_cons, List.drop_zero]
  change wpStill _ _ w1.drew (fun a' => wpList _ _ _ _ a' w1.drew) _ _
  rw [HW2.out]
  repeat still_step
  still_call HS.out
  repeat still_step
  still_call HO.out
  repeat still_step
  still_call HE.out
  repeat still_step
  still_call HF.out
  repeat still_step
  refine wpStill_nil ?_
  go_wp2_with fail
  refine bodyPost_ret (v := .agg #[.int .i64 hd.id, .int .i64 hd.c.s, .int .i64 hd.c.o, .int .u64 hd.ep, .int .u64 hd.c.f, .int .u64 hd.t]) ?_ rfl ⟨rfl, ?_⟩
  · rw [results_cell1 rfl]
    go_simp
  · exact (((((HB2.out.setCell (Nat.le_refl _) _).setCell (Nat.le_refl _) _).setCell (Nat.le_refl _) _).setCell (Nat.le_refl _) _).setCell (Nat.le_refl _) _).setCell (Nat.le_refl _) _
end
end

/- slices.IndexFunc, slices.DeleteFunc at links that are closed: contracts. -/
section
open Go.RowKit
set_option maxRecDepth 100000

def deadL (r : Lr) : Bool := !r.h.live
theorem firstH_cases {α : Type} (p : α → Bool) (l : List α) : (firstH p l = -1 ∧ l.filter (fun t => !p t) = l) ∨ ∃ k : Nat, firstH p l = (k : Int) ∧ k < l.length ∧ (l.take (k + 1)).filter (fun t => !p t) = l.take k := by
  induction l with
  | nil => exact .inl ⟨rfl, rfl⟩
  | cons x r ih =>
    cases hx : p x with
    | true => exact .inr ⟨0, by simp [firstH, hx], by simp, by simp [hx]⟩
    | false =>
      rcases ih with ⟨h1, h2⟩ | ⟨k, h1, h2, h3⟩
      · exact .inl ⟨by simp [firstH, hx, h1], by simp [hx, h2]⟩
      · refine .inr ⟨k + 1, ?_, by simpa using h2, ?_⟩
        · simp only [firstH, hx, h1]
          rw [if_neg (by simp), if_neg (by omega)]
          omega
        · rw [List.take_succ_cons, List.filter_cons, hx, h3]
          simp

set_option maxHeartbeats 1000000 in
theorem indexL_ok {w : World} {A : Option Addr} {n c : Nat} {rs : List Lr} (h : LL w A n c rs) (hn : n ≤ 6) :
    Calls Tryz.prog 114 #[.slice A n c, .func (.func 99) #[] #[]] w fun e w' => e = .returned (.int .i64 (firstH deadL rs)) ∧ w = w' := by
  have hlen := Lib.hid h.len
  have H := Lib.hid h
  clear h
  go_enter Tryz.func114, Tryz.ntmps114
  go_wp2_with fail
  go_loopw [8] (fun i wr => ∃ k : Nat, k ≤ n ∧ i = .int .i64 k ∧ Hid (∀ j (hj : j < rs.length), j < k → deadL rs[j] = false) ∧ w = wr) (fun i _ => n - (intOf i).toNat)
  case atStart => exact ⟨0, Nat.zero_le _, rfl, Lib.hid (fun j _ h => absurd h (Nat.not_lt_zero _)), rfl⟩
  case round =>
    obtain ⟨k, hk, rfl, hno, rfl⟩ := hrel
    by_cases hlt : k < n
    · have hkl : k < rs.length := by rw [hlen.out]; exact hlt
      obtain ⟨g, rfl, _, _, hg, _⟩ := H.out.at_ hkl
      have hC := Lib.hid (isClosed_ok (H.out.lk _ (List.getElem_mem hkl)))
      change Hid (Calls _ _ _ _ fun e w' => e = .returned (.bool (deadL rs[k])) ∧ w = w') at hC
      cases hs : deadL rs[k] with
      | false =>
        have hno2 : Hid (∀ j (hj : j < rs.length), j < k + 1 → deadL rs[j] = false) := Lib.hid (fun j hj hjk => by
          by_cases h : j = k
          · subst h; exact hs
          · exact hno.out j hj (by omega))
        rw [hs] at hC
        clear hs hno
        unfold lkV at hg hC
        generalize rs[k].l = la at *
        go_wp2_with fail
        refine hC.out.mono ?_
        rintro e w1 ⟨rfl, rfl⟩
        go_wp2_with fail
        go_roundw
        case rel => exact ⟨k + 1, by omega, by go_num, hno2, trivial⟩
        case measure => simp [intOf]; omega
      | true =>
        have HF := Lib.hid (firstH_at hkl hno.out hs)
        rw [hs] at hC
        clear hs hno
        unfold lkV at hg hC
        generalize rs[k].l = la at *
        go_wp2_with fail
        refine hC.out.mono ?_
        rintro e w1 ⟨rfl, rfl⟩
        go_wp2_with fail
        go_ret
        exact ⟨by rw [HF.out]; rfl, rfl⟩
    · have HF := Lib.hid (firstH_none (p := deadL) (l := rs) fun y hy => by
        obtain ⟨j, hj, rfl⟩ := List.getElem_of_mem hy
        exact hno.out j hj (by have := hlen.out; omega))
      clear hno
      go_wp2_with fail
      go_ret
      exact ⟨by rw [HF.out]; rfl, rfl⟩

/-- 'clear' at links -/
theorem run_clear_links (w : World) (ty : TypeId) (b o n c : Nat) (hn : 0 < n) (hc : ∀ j, j < n → (w.cell? ⟨b, o + j, none⟩).isSome = true) (hf : ∀ j, j < n → w.frozen? ⟨b, o + j, none⟩ = false) :
    ∃ vs : List Value, vs.length = n ∧ (Builtin.clear_ #[65] ty #[.slice (some ⟨b, o, none⟩) n c]).run Tryz.prog w = .ok (.tuple #[]) (w.setCells b o vs) := by
  have hv : ∀ w, (zeroValue 77).run Tryz.prog w = .ok (.pointer none) w := fun _ => by kernel_rfl
  have hz : (Value.pointer none).cells = #[.pointer none] := rfl
  have hl : (Builtin.zeroCells (Value.pointer none).cells n).toList.length = n := by
    rw [hz]
    simp [Builtin.zeroCells]
  have h1 : ∀ v ∈ (Builtin.zeroCells (Value.pointer none).cells n).toList, v.oneCell' = true := by
    intro v hv'
    rw [hz] at hv'
    simp only [Builtin.zeroCells, Array.toList_map, List.mem_map] at hv'
    obtain ⟨i, _, rfl⟩ := hv'
    have : i % 1 = 0 := by omega
    simp [this, Value.oneCell']
  generalize (Value.pointer none) = z at hv hl h1
  refine ⟨_, hl, ?_⟩
  have hst := run_storeCells_cells (P := Tryz.prog) b o (Builtin.zeroCells z.cells n).toList 0 w (by rw [hl]; simpa using hc) (by rw [hl]; simpa using hf) h1
  simp only [Nat.add_zero] at hst
  clear hl h1
  obtain ⟨m, rfl⟩ : ∃ m, n = m + 1 := ⟨n - 1, by omega⟩
  simp [Builtin.clear_, run_underlying Tryz.underlying65, hv, hst]
/-- cells of a row that are written from some place on -/
theorem own_setCells {n c : Nat} {e : TypeId} {g : Nat} : ∀ (vs : List Value) (w : World) (o : Nat) (xs : List Value), w.ownsRow 0 e 1 (.slice (some ⟨g, 0, none⟩) n c) n xs →
    ∃ ys, (w.setCells g o vs).ownsRow 0 e 1 (.slice (some ⟨g, 0, none⟩) n c) n ys ∧ ys.take o = xs.take o
  | [], w, o, xs, h => ⟨xs, h, rfl⟩
  | v :: r, w, o, xs, h => by
    obtain ⟨ys, h1, h2⟩ := own_setCells r (w.setCell ⟨g, o, none⟩ v) (o + 1) (xs.set o v) (own_set h o v)
    refine ⟨ys, h1, ?_⟩
    have h3 := congrArg (List.take o) h2
    rw [List.take_take, List.take_take, Nat.min_eq_left (Nat.le_succ o), List.take_set_of_le (Nat.le_refl _)] at h3
    exact h3
theorem own_shrink {w : World} {n k c : Nat} {e : TypeId} {g : Nat} {xs : List Value} (h : w.ownsRow 0 e 1 (.slice (some ⟨g, 0, none⟩) n c) n xs) (hk : k ≤ n) : w.ownsRow 0 e 1 (.slice (some ⟨g, 0, none⟩) k c) k (xs.take k) := by
  refine ⟨by have := h.1; rw [List.length_take]; omega, ?_⟩
  rcases h.2 with ⟨h1, _⟩ | ⟨g', cap, cur, h1, hb, hg, hc, hm, hs, ht⟩
  · cases h1
  · injection h1 with h1 h2 h3
    injection h1 with h1
    injection h1 with h1 h4 h5
    subst h1 h3
    refine .inr ⟨g, c, cur, rfl, hb, hg, by omega, hm, hs, ?_⟩
    rw [← ht, List.take_take]
    congr 1
    omega
theorem off_setCells {g : Nat} {w : World} : ∀ (vs : List Value) (o : Nat) {w1 : World}, Off (fun j => j = g) w w1 → Off (fun j => j = g) w (w1.setCells g o vs)
  | [], _, _, h => h
  | v :: r, o, _, h => by
    rw [World.setCells]
    exact off_setCells r (o + 1) (h.setCell (p := ⟨g, o, none⟩) (.inl rfl) v)
/-- a row of fewer links, in the same block -/
theorem LL.less {w w' : World} {g n k c : Nat} {rs us : List Lr} (h : LL w (some ⟨g, 0, none⟩) n c rs) (ho : w'.ownsRow 0 77 1 (.slice (some ⟨g, 0, none⟩) k c) k (us.map lkV)) (hf : Off (fun j => j = g) w w') (hs : us.Sublist rs) : LL w' (some ⟨g, 0, none⟩) k c us := by
  refine ⟨ho, fun r hr => ?_, List.Pairwise.sublist (hs.map _) h.nd, fun r hr k hk e => h.ap r (hs.subset hr) k hk e⟩
  have hr' := hs.subset hr
  exact (h.lk r hr').keep (fun k hk => hf.block k ((h.lk r hr').lt k hk) fun e => h.ap r hr' k hk (by rw [e]; rfl)) hf.size

set_option maxHeartbeats 1000000 in
theorem deleteL_ok {w : World} {A : Option Addr} {n c : Nat} {rs : List Lr} (h : LL w A n c rs) (hn : n ≤ 6) :
    Calls Tryz.prog 98 #[.slice A n c, .func (.func 99) #[] #[]] w fun e w' => ∃ k, e = .returned (.slice A k c) ∧ LL w' A k c (rs.filter fun r => r.h.live) ∧ Off (fun j => (Value.slice A n c).ownBlock = some j) w w' := by
  have hlen := Lib.hid h.len
  have hcap := h.cap
  have hI := Lib.hid (indexL_ok h hn)
  have HQ : Hid ((rs.filter fun r => r.h.live) = rs.filter fun r => !deadL r) := Lib.hid (by simp [deadL])
  rw [HQ.out]
  clear HQ
  rcases firstH_cases deadL rs with ⟨hF, hall⟩ | ⟨i0, hF, hi0, hpre⟩
  · rw [hF] at hI
    rw [hall]
    clear hF hall
    have HT := Lib.hid h
    clear h
    go_enter Tryz.func98, Tryz.ntmps98
    go_wp2_with fail
    refine hI.out.mono ?_
    rintro e w1 ⟨rfl, rfl⟩
    go_wp2_with fail
    go_ret
    exact ⟨n, rfl, HT.out, Off.refl _ _⟩
  · rw [hF] at hI
    have hin : i0 < n := by rw [← hlen.out]; exact hi0
    obtain ⟨g, rfl, hgl, _⟩ := h.at_ hi0
    have HP := Lib.hid hpre
    have H := Lib.hid h
    have hne : ((i0 : Int) == -1) = false := beq_eq_false_iff_ne.2 (by omega)
    clear hF hpre h
    go_enter Tryz.func98, Tryz.ntmps98
    go_wp2_with fail
    refine hI.out.mono ?_
    rintro e w1 ⟨rfl, rfl⟩
    go_wp2_with fail
    go_loopw [5, 6] (fun i j wr => ∃ (k m : Nat) (us : List Lr), i = .int .i64 k ∧ j = .int .i64 m ∧ k < m ∧ m ≤ n ∧ us.length = n ∧ Hid (wr.ownsRow 0 77 1 (.slice (some ⟨g, 0, none⟩) n c) n (us.map lkV)) ∧ Hid (us.take k = (rs.take m).filter fun t => !deadL t) ∧ Hid (us.drop m = rs.drop m) ∧ Hid (Off (fun j => j = g) w wr)) (fun _ j _ => n - (intOf j).toNat)
    case atStart => exact ⟨i0, i0 + 1, rs, rfl, by go_num, by omega, by omega, hlen.out, Lib.hid H.out.own, Lib.hid HP.out.symm, Lib.hid rfl, Lib.hid (Off.refl _ _)⟩
    case round =>
      obtain ⟨k, m, us, rfl, rfl, hkm, hm, hul, hr, hx, hd, kw⟩ := hrel
      clear HP
      by_cases hlt : m < n
      · have hml : m < us.length := by omega
        have hmt : m < rs.length := by rw [hlen.out]; exact hlt
        have hkl : k < us.length := by omega
        have he : us[m] = rs[m] := by
          have e1 := congrArg (fun l => l[0]?) hd.out
          simp only [List.getElem?_drop, Nat.add_zero, List.getElem?_eq_getElem hml, List.getElem?_eq_getElem hmt, Option.some.injEq] at e1
          exact e1
        have hgb : ∀ j (hj : j < us.length), wr.cell? ⟨g, j, none⟩ = some (lkV us[j]) ∧ wr.frozen? ⟨g, j, none⟩ = false := fun j hj => by
          have h1 := hr.out.cells (g := g) rfl j (lkV us[j]) (by simp [hj])
          have ha : (⟨g, 0, none⟩ : Addr).add j = ⟨g, j, none⟩ := by unfold Addr.add; split <;> simp_all
          rw [ha] at h1
          refine ⟨h1, ?_⟩
          rcases hr.out.2 with ⟨h2, _⟩ | ⟨g', cap, cur, h2, _, hg, _⟩
          · cases h2
          · injection h2 with h2 _ _
            injection h2 with h2
            injection h2 with h2 _ _
            subst h2
            exact frozen_of_row wr g _ cur _ hg
        obtain ⟨c0, _⟩ := hgb m hml
        obtain ⟨c1, f1⟩ := hgb k hkl
        clear hgb
        have hlk : LK wr rs[m] := (H.out.lk _ (List.getElem_mem hmt)).keep (fun j hj => kw.out.block j ((H.out.lk _ (List.getElem_mem hmt)).lt j hj) fun e => H.out.ap _ (List.getElem_mem hmt) j hj (by rw [e]; rfl)) kw.out.size
        have hC := Lib.hid (isClosed_ok hlk)
        rw [← he] at hC
        change Hid (Calls _ _ _ _ fun e w' => e = .returned (.bool (deadL us[m])) ∧ wr = w') at hC
        have hd2 : Hid (us.drop (m + 1) = rs.drop (m + 1)) := Lib.hid (by
          have e1 := congrArg (fun l => l.drop 1) hd.out
          simpa only [List.drop_drop] using e1)
        have htk : (rs.take (m + 1)).filter (fun t => !deadL t) = (rs.take m).filter (fun t => !deadL t) ++ (if deadL us[m] then [] else [us[m]]) := by
          rw [List.take_succ_eq_append_getElem hmt, List.filter_append, ← he]
          cases hq : deadL us[m] <;> simp [hq]
        clear hlk
        cases hq : deadL us[m] with
        | true =>
          have hx2 : Hid (us.take k = (rs.take (m + 1)).filter fun t => !deadL t) := Lib.hid (by rw [htk, hq, hx.out]; simp)
          rw [hq] at hC
          clear hx htk hq he hd c1 f1
          unfold lkV at c0 hC
          generalize us[m].l = x at *
          go_wp2_with fail
          refine hC.out.mono ?_
          rintro e w2 ⟨rfl, rfl⟩
          go_wp2_with fail
          go_roundw
          case rel => exact ⟨k, m + 1, us, rfl, by go_num, by omega, by omega, hul, hr, hx2, hd2, kw⟩
          case measure => simp [intOf]; omega
        | false =>
          have hx2 : Hid ((us.set k us[m]).take (k + 1) = (rs.take (m + 1)).filter fun t => !deadL t) := Lib.hid (by
            rw [htk, hq, ← hx.out, List.take_succ_eq_append_getElem (by rw [List.length_set]; exact hkl), List.getElem_set_self, List.take_set_of_le (Nat.le_refl _)]
            rfl)
          have hd3 : Hid ((us.set k us[m]).drop (m + 1) = rs.drop (m + 1)) := Lib.hid (by rw [List.drop_set_of_lt (by omega)]; exact hd2.out)
          have hul3 : (us.set k us[m]).length = n := by rw [List.length_set]; exact hul
          have HST : Hid ((wr.setCell ⟨g, k, none⟩ (lkV us[m])).ownsRow 0 77 1 (.slice (some ⟨g, 0, none⟩) n c) n ((us.set k us[m]).map lkV)) := Lib.hid (by
            rw [List.map_set]
            exact own_set hr.out k _)
          have HOF : Hid (Off (fun j => j = g) w (wr.setCell ⟨g, k, none⟩ (lkV us[m]))) := Lib.hid (kw.out.setCell (.inl rfl) _)
          rw [hq] at hC
          clear hx htk hq he hd hd2 hr kw
          generalize us.set k us[m] = us3 at *
          generalize hy : lkV us[k] = y at *
          clear hy
          unfold lkV at c0 hC HST HOF
          generalize us[m].l = x at *
          go_wp2_with fail
          refine hC.out.mono ?_
          rintro e w2 ⟨rfl, rfl⟩
          go_wp2_with fail
          go_roundw
          case rel => exact ⟨k + 1, m + 1, us3, by go_num, by go_num, by omega, by omega, hul3, HST, hx2, hd3, HOF⟩
          case measure => simp [intOf]; omega
      · obtain rfl : m = n := by omega
        have hck : ¬ c = k := by omega
        have hgb : ∀ j, j < m → (wr.cell? ⟨g, j, none⟩).isSome = true ∧ wr.frozen? ⟨g, j, none⟩ = false := fun j hj => by
          have h1 := hr.out.cells (g := g) rfl j (lkV us[j]) (by simp [hul, hj])
          have ha : (⟨g, 0, none⟩ : Addr).add j = ⟨g, j, none⟩ := by unfold Addr.add; split <;> simp_all
          rw [ha] at h1
          refine ⟨by rw [h1]; rfl, ?_⟩
          rcases hr.out.2 with ⟨h2, _⟩ | ⟨g', cap, cur, h2, _, hg, _⟩
          · cases h2
          · injection h2 with h2 _ _
            injection h2 with h2
            injection h2 with h2 _ _
            subst h2
            exact frozen_of_row wr g _ cur _ hg
        obtain ⟨vs, hvl, hrun⟩ := run_clear_links wr 0 g k (m - k) (c - k) (by omega) (fun j hj => (hgb _ (by omega)).1) (fun j hj => (hgb _ (by omega)).2)
        have HE : Hid (LL (wr.setCells g k vs) (some ⟨g, 0, none⟩) k c (rs.filter fun t => !deadL t)) := Lib.hid (by
          obtain ⟨ys, y1, y2⟩ := own_setCells vs wr k _ hr.out
          have y3 := own_shrink y1 (k := k) (by omega)
          rw [y2, ← List.map_take, hx.out, List.take_of_length_le (by rw [hlen.out]; exact Nat.le_refl _)] at y3
          exact H.out.less y3 (off_setCells vs k kw.out) List.filter_sublist)
        have HO2 := Lib.hid (off_setCells vs k kw.out)
        clear hx hd hr hgb kw
        go_wp2_with fail
        go_ret
        exact ⟨k, rfl, HE.out, HO2.out.wide fun j e => by rw [e]; rfl⟩
end

/- A call of a function value that is not known by its name: the step of the walk. -/
section
open Go.RowKit
set_option maxRecDepth 100000

theorem wpListIn_callv {F : Fence} {n : Nat} {P : Program} {ops : Array Oper} {Q : Exit → Act → World → Prop} {a : Act} {w : World} {rest : List Oper} {o : Oper} {c : Call} {t u : Tmp} {fn : Fn} {cap : Array Value} {x : Value} {f : FuncId} {args : Array Value} {R : Ending → World → Prop}
    (hF : ∀ f, F.fn f) (hd : F.depth = none) (hg : o.guard = none) (ho : o.op = .call c) (hcal : c.callee = .value (.tmp t)) (hca : c.args = #[.tmp u])
    (hv : a.tmps.getD t undef = .func fn #[] cap) (hx : a.tmps.getD u undef = x)
    (hi : (invoke (.fn fn cap) #[x]).run P w = .ok (.enter f args) w) (hc : CallsIn F (n - 1) P f args w R)
    (hR : ∀ e w', R e w' → ∃ v, e = .returned v ∧ wpListIn F n P ops Q rest (a.put o.dst v) w') :
    wpListIn F n P ops Q (o :: rest) a w := by
  refine wpListIn_plain hg fun K hK => ⟨fun f _ => hF f, ?_⟩
  have e1 : Oper.semAt F.round a.eval o = execOp a.eval o := by
    unfold Oper.semAt
    rw [ho]
    cases F.round <;> rfl
  have e2 : (execOp a.eval o).run P w = .ok (.enter f args) w := by
    have hv' : a.tmps[t]?.getD undef = .func fn #[] cap := by rw [← Array.getD_eq_getD_getElem?]; exact hv
    have hx' : a.tmps[u]?.getD undef = x := by rw [← Array.getD_eq_getD_getElem?]; exact hx
    simp only [execOp, ho]
    rw [Sem.run_bind]
    have e3 : (resolve a.eval c o.type).run P w = .ok { target := .fn fn cap, args := #[x] } w := by
      simp [resolve, hcal, hca, hv', hx', Deferred.ofValue, go_sem]
    rw [e3]
    exact hi
  rw [e1, e2]
  refine ⟨fun h => (by rw [hd] at h; cases h), CallsIn.mono hc fun e w' hr => ?_⟩
  obtain ⟨v, rfl, hw⟩ := hR e w' hr
  exact hK _ _ hw
end
end Go.Proofs.YtkbaljdpnopbmaaGreat
