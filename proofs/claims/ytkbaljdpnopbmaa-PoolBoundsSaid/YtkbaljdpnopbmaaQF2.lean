/-
  Contracts and plain functions that the law stands on, part 2 of 5.
-/
import Derived.Test.YtkbaljdpnopbmaaQF1
import Derived.BigRegion
import Derived.BigQuiet
import Derived.RangeFuncNested
import Derived.RangeFuncBound
import Derived.RangeFuncCalls
import Derived.RangeFuncLeaves
import Derived.Shelf.Abstract
import Derived.Shelf.RegionOpen
import Derived.WalkKit
import Derived.OwnWalkIn
import Derived.TacticsInMore
import Derived.LoopNIn
import Derived.LoopIn
import Derived.StillTailTactics
import Derived.Lib.SliceRun
namespace Go.Proofs.Ytkbaljdpnopbmaa
/- The project's conn in memory: New, and what tells how it is: contracts. -/
section
open Go.RowKit
set_option maxRecDepth 100000

theorem cellsAt {w : World} {b : Nat} {cs : Array Value} {t : TypeId} (h : w.heap[b]? = some (.cells cs t (0, 0))) (i : Nat) {v : Value} (hi : cs[i]? = some v) : w.cell? ⟨b, i, none⟩ = some v ∧ w.frozen? ⟨b, i, none⟩ = false := by
  refine ⟨?_, frozen_of_row w b i cs t h⟩
  rw [cell_of_row _ _ i cs t (0, 0) h]
  exact hi
/-- a connection of the project's, as it lies -/
def ccells (ep : Int) (c : Cn) (z : Bool) : Array Value := #[.int .u64 ep, .int .i64 c.w, .int .u64 c.f, .int .i64 c.n, .int .u32 (bit c.d), .int .u32 (bit (c.g z))]
def CCp (b : Nat) (ep : Int) (c : Cn) (S : Nat → Prop) (w : World) : Prop :=
  ∃ z, w.heap[b]? = some (.cells (ccells ep c z) 112 (0, 0)) ∧ S b ∧ (∀ k, S k → k < w.heap.size) ∧ c.ok
def CC (b : Nat) (ep : Int) (c : Cn) : Thing where
  p := CCp b ep c
  keep := fun ⟨z, h1, h2, h3, h4⟩ hk hz => ⟨z, (hk b h2).trans h1, h2, fun k h => Nat.lt_of_lt_of_le (h3 k h) hz, h4⟩
  lt := fun ⟨_, _, _, h3, _⟩ => h3

section
variable {b : Nat} {ep : Int} {c : Cn} {S : Nat → Prop} {w : World}
theorem CC.at_ (h : (CC b ep c).p S w) : ∃ z, w.heap[b]? = some (.cells (ccells ep c z) 112 (0, 0)) ∧ S b ∧ (∀ k, S k → k < w.heap.size) ∧ c.ok := h
/-- what a call left of it -/
theorem CC.turn {w' : World} {c' : Cn} {z : Bool} (h : (CC b ep c).p S w) (hb : w'.heap[b]? = some (.cells (ccells ep c' z) 112 (0, 0))) (ho : Off S w w') (hc : c'.ok) : Turn (CC b ep c') S w w' := by
  obtain ⟨_, _, h2, h3, _⟩ := CC.at_ h
  exact ⟨⟨S, ⟨z, hb, h2, fun k hk => Nat.lt_of_lt_of_le (h3 k hk) ho.size, hc⟩, fun k hk => .inl hk⟩, ho⟩

theorem cnew_ok (ep : Int) (w : World) :
    Calls Try.prog 88 #[.int .u64 ep] w fun e w' => e = .returned (.pointer (some ⟨w.heap.size, 0, none⟩)) ∧ (CC w.heap.size ep (.idle false 0)).p (fun k => k = w.heap.size) w' ∧ Below w.heap.size w w' := by
  go_enter Try.func88, Try.ntmps88
  go_wp2_with fail
  go_ret
  exact ⟨rfl, ⟨false, heap_alloc_new w _, rfl, fun k hk => by subst hk; simp, trivial⟩, kp_new w _⟩

/-- who has it is somebody, where somebody has it -/
def Cn.held : Cn → Prop
  | .lent o _ _ _ => 1 ≤ o
  | .drains o _ _ _ => 1 ≤ o
  | _ => True
theorem Cn.ok.held : ∀ {c : Cn}, c.ok → c.held
  | .idle _ _, _ => trivial
  | .lent _ _ _ _, h => h
  | .drains _ _ _ _, h => h.1
  | .closed _ _, _ => trivial

theorem cstate_raw {z : Bool} (hb : w.heap[b]? = some (.cells (ccells ep c z) 112 (0, 0))) (hok : c.held) :
    Calls Try.prog 53 #[.pointer (some ⟨b, 0, none⟩)] w fun e w' => e = .returned (.int .i64 c.s) ∧ w = w' := by
  have H1 := Lib.hid (iLoad_ok ⟨b, 1, none⟩ c.w w (cellsAt hb 1 rfl).1)
  have H5 := Lib.hid (bLoad_ok ⟨b, 5, none⟩ (c.g z) w (cellsAt hb 5 rfl).1)
  clear hb
  cases c with
  | idle d n =>
    simp only [Cn.w, Cn.g] at H1 H5
    go_enter Try.func53, Try.ntmps53
    go_wp2_with fail
    refine H1.out.mono ?_
    rintro e w1 ⟨rfl, rfl⟩
    go_wp2_with fail
    go_ret
    exact ⟨rfl, rfl⟩
  | lent o f d n =>
    simp only [Cn.w, Cn.g] at H1 H5
    have h0 : (o == 0) = false := by simp; have : 1 ≤ o := hok; omega
    have h1 : (o == -1) = false := by simp; have : 1 ≤ o := hok; omega
    clear hok
    go_enter Try.func53, Try.ntmps53
    go_wp2_with fail
    refine H1.out.mono ?_
    rintro e w1 ⟨rfl, rfl⟩
    go_wp2_with fail
    refine H5.out.mono ?_
    rintro e w1 ⟨rfl, rfl⟩
    go_wp2_with fail
    go_ret
    exact ⟨rfl, rfl⟩
  | drains o f d n =>
    simp only [Cn.w, Cn.g] at H1 H5
    have h0 : (o == 0) = false := by simp; have : 1 ≤ o := hok; omega
    have h1 : (o == -1) = false := by simp; have : 1 ≤ o := hok; omega
    clear hok
    go_enter Try.func53, Try.ntmps53
    go_wp2_with fail
    refine H1.out.mono ?_
    rintro e w1 ⟨rfl, rfl⟩
    go_wp2_with fail
    refine H5.out.mono ?_
    rintro e w1 ⟨rfl, rfl⟩
    go_wp2_with fail
    go_ret
    exact ⟨rfl, rfl⟩
  | closed d n =>
    simp only [Cn.w, Cn.g] at H1 H5
    go_enter Try.func53, Try.ntmps53
    go_wp2_with fail
    refine H1.out.mono ?_
    rintro e w1 ⟨rfl, rfl⟩
    go_wp2_with fail
    go_ret
    exact ⟨rfl, rfl⟩
theorem cstate_ok (h : (CC b ep c).p S w) : Calls Try.prog 53 #[.pointer (some ⟨b, 0, none⟩)] w fun e w' => e = .returned (.int .i64 c.s) ∧ w = w' := by
  obtain ⟨z, hb, _, _, hok⟩ := CC.at_ h
  exact cstate_raw hb hok.held
theorem cowner_ok (h : (CC b ep c).p S w) : Calls Try.prog 54 #[.pointer (some ⟨b, 0, none⟩)] w fun e w' => e = .returned (.int .i64 c.o) ∧ w = w' := by
  obtain ⟨z, hb, _, _, hok⟩ := CC.at_ h
  have hk := hok.held
  have H1 := Lib.hid (iLoad_ok ⟨b, 1, none⟩ c.w w (cellsAt hb 1 rfl).1)
  clear hb hok h
  cases c with
  | idle d n =>
    simp only [Cn.w] at H1
    go_enter Try.func54, Try.ntmps54
    go_wp2_with fail
    refine H1.out.mono ?_
    rintro e w1 ⟨rfl, rfl⟩
    go_wp2_with fail
    go_ret
    exact ⟨rfl, rfl⟩
  | lent o f d n =>
    simp only [Cn.w] at H1
    have h1 : 1 ≤ o := hk
    clear hk
    go_enter Try.func54, Try.ntmps54
    go_wp2_with fail
    refine H1.out.mono ?_
    rintro e w1 ⟨rfl, rfl⟩
    go_wp2_with fail
    go_ret
    exact ⟨rfl, rfl⟩
  | drains o f d n =>
    simp only [Cn.w] at H1
    have h1 : 1 ≤ o := hk
    clear hk
    go_enter Try.func54, Try.ntmps54
    go_wp2_with fail
    refine H1.out.mono ?_
    rintro e w1 ⟨rfl, rfl⟩
    go_wp2_with fail
    go_ret
    exact ⟨rfl, rfl⟩
  | closed d n =>
    simp only [Cn.w] at H1
    go_enter Try.func54, Try.ntmps54
    go_wp2_with fail
    refine H1.out.mono ?_
    rintro e w1 ⟨rfl, rfl⟩
    go_wp2_with fail
    go_ret
    exact ⟨rfl, rfl⟩
theorem cflight_ok (h : (CC b ep c).p S w) : Calls Try.prog 55 #[.pointer (some ⟨b, 0, none⟩)] w fun e w' => e = .returned (.int .u64 c.f) ∧ w = w' := by
  obtain ⟨z, hb, _, _, hok⟩ := CC.at_ h
  have H1 := Lib.hid (uLoad_ok ⟨b, 2, none⟩ c.f w (cellsAt hb 2 rfl).1)
  clear hb hok h
  generalize c.f = f at *
  go_enter Try.func55, Try.ntmps55
  go_wp2_with fail
  refine H1.out.mono ?_
  rintro e w1 ⟨rfl, rfl⟩
  go_wp2_with fail
  go_ret
  exact ⟨rfl, rfl⟩
theorem cepoch_ok (h : (CC b ep c).p S w) : Calls Try.prog 32 #[.pointer (some ⟨b, 0, none⟩)] w fun e w' => e = .returned (.int .u64 ep) ∧ w = w' := by
  obtain ⟨z, hb, _, _, hok⟩ := CC.at_ h
  obtain ⟨c0, f0⟩ := cellsAt hb 0 (v := .int .u64 ep) rfl
  clear hb hok h
  go_enter Try.func32, Try.ntmps32
  go_wp2_with fail
  go_ret
  exact ⟨rfl, rfl⟩
end
end

/- The project's conn in memory: Lend, Send, Reply, Soil, Release, Drain, Break: contracts. -/
section
open Go.RowKit
set_option maxRecDepth 100000

section
variable {b : Nat} {ep : Int} {c : Cn} {S : Nat → Prop} {w : World}
/-- a cell of it is written -/
theorem cset {cs cs' : Array Value} {t : TypeId} (hb : w.heap[b]? = some (.cells cs t (0, 0))) (i : Nat) (v : Value) (hc : cs.setIfInBounds i v = cs') : (w.setCell ⟨b, i, none⟩ v).heap[b]? = some (.cells cs' t (0, 0)) := by
  rw [← hc]
  exact heap_setCell_same w b i _ _ _ hb
theorem Off.set1 {S : Nat → Prop} {w w' : World} {b : Nat} (h : Off S w w') (hb : S b) (i : Nat) (u : Value) : Off S w (w'.setCell ⟨b, i, none⟩ u) := h.setCell (p := ⟨b, i, none⟩) (.inl hb) u

theorem clend_ok (x : Int) (h : (CC b ep c).p S w) :
    Calls Try.prog 67 #[.pointer (some ⟨b, 0, none⟩), .int .i64 x] w fun e w' => e = .returned (.bool (c.lendA x)) ∧ Turn (CC b ep (c.lendC x)) S w w' := by
  have H := Lib.hid h
  obtain ⟨z, hb, hS, _, hok⟩ := CC.at_ h
  have hk := hok.held
  obtain ⟨c1, f1⟩ := cellsAt hb 1 (v := .int .i64 c.w) rfl
  clear h
  by_cases hx : 1 ≤ x
  · cases c with
    | idle d n =>
      have H1 := Lib.hid (iSwap_hit ⟨b, 1, none⟩ 0 x w c1 f1)
      have hA : Cn.lendA x (.idle d n) = true := by simpa [Cn.lendA] using hx
      have hC : Cn.lendC x (.idle d n) = .lent x 0 d n := by simp [Cn.lendC, hx]
      have HT : Hid (Turn (CC b ep (.lent x 0 d n)) S w (w.setCell ⟨b, 1, none⟩ (.int .i64 x))) := Lib.hid (CC.turn (z := z) H.out (cset hb 1 _ rfl) ((Off.refl _ _).set1 hS 1 _) hx)
      rw [hA, hC]
      clear hb hok hk c1 f1 H hA hC
      go_enter Try.func67, Try.ntmps67
      go_wp2_with fail
      refine H1.out.mono ?_
      rintro e w1 ⟨rfl, rfl⟩
      go_wp2_with fail
      go_ret
      exact ⟨rfl, HT.out⟩
    | lent o f d n =>
      have H1 := Lib.hid (iSwap_miss ⟨b, 1, none⟩ o 0 x w c1 f1 (by have : 1 ≤ o := hk; omega))
      clear hb hok hk c1 f1
      go_enter Try.func67, Try.ntmps67
      go_wp2_with fail
      refine H1.out.mono ?_
      rintro e w1 ⟨rfl, rfl⟩
      go_wp2_with fail
      go_ret
      exact ⟨rfl, Turn.here H.out⟩
    | drains o f d n =>
      have H1 := Lib.hid (iSwap_miss ⟨b, 1, none⟩ o 0 x w c1 f1 (by have : 1 ≤ o := hk; omega))
      clear hb hok hk c1 f1
      go_enter Try.func67, Try.ntmps67
      go_wp2_with fail
      refine H1.out.mono ?_
      rintro e w1 ⟨rfl, rfl⟩
      go_wp2_with fail
      go_ret
      exact ⟨rfl, Turn.here H.out⟩
    | closed d n =>
      have H1 := Lib.hid (iSwap_miss ⟨b, 1, none⟩ (-1) 0 x w c1 f1 (by decide))
      clear hb hok hk c1 f1
      go_enter Try.func67, Try.ntmps67
      go_wp2_with fail
      refine H1.out.mono ?_
      rintro e w1 ⟨rfl, rfl⟩
      go_wp2_with fail
      go_ret
      exact ⟨rfl, Turn.here H.out⟩
  · have hA : c.lendA x = false := by cases c <;> simp [Cn.lendA]; omega
    have hC : c.lendC x = c := by cases c <;> simp [Cn.lendC, hx]
    rw [hA, hC]
    clear hb hok hk c1 f1 hA hC
    go_enter Try.func67, Try.ntmps67
    go_wp2_with fail
    go_ret
    exact ⟨rfl, Turn.here H.out⟩

set_option maxHeartbeats 1000000 in
theorem csend_ok (y : Int) (h : (CC b ep c).p S w) :
    Calls Try.prog 45 #[.pointer (some ⟨b, 0, none⟩), .int .u64 y] w fun e w' => e = .returned (.int .i64 (c.sendA y)) ∧ Turn (CC b ep (c.sendC y)) S w w' := by
  have H := Lib.hid h
  obtain ⟨z, hb, hS, _, hok⟩ := CC.at_ h
  have HS := Lib.hid (cstate_ok h)
  clear h
  by_cases hy : y = 0
  · have hA : c.sendA y = 1 := by cases c <;> simp [Cn.sendA, hy]
    have hC : c.sendC y = c := by cases c <;> simp [Cn.sendC, hy]
    have hy1 : (y == 0) = true := by simpa using hy
    rw [hA, hC]
    clear hb hok hA hC hy HS
    go_enter Try.func45, Try.ntmps45
    go_wp2_with fail
    go_ret
    exact ⟨rfl, Turn.here H.out⟩
  · have hy1 : (y == 0) = false := by simpa using hy
    cases c with
    | idle d n =>
      have hA : Cn.sendA y (.idle d n) = 7 := by simp [Cn.sendA, hy]
      rw [hA]
      clear hb hok hA hy
      go_enter Try.func45, Try.ntmps45
      go_wp2_with fail
      refine HS.out.mono ?_
      rintro e w1 ⟨rfl, rfl⟩
      dsimp only [Cn.s]
      go_wp2_with fail
      go_ret
      exact ⟨rfl, Turn.here H.out⟩
    | drains o f d n =>
      have hA : Cn.sendA y (.drains o f d n) = 7 := by simp [Cn.sendA, hy]
      rw [hA]
      clear hb hok hA hy
      go_enter Try.func45, Try.ntmps45
      go_wp2_with fail
      refine HS.out.mono ?_
      rintro e w1 ⟨rfl, rfl⟩
      dsimp only [Cn.s]
      go_wp2_with fail
      go_ret
      exact ⟨rfl, Turn.here H.out⟩
    | closed d n =>
      have hA : Cn.sendA y (.closed d n) = 7 := by simp [Cn.sendA, hy]
      rw [hA]
      clear hb hok hA hy
      go_enter Try.func45, Try.ntmps45
      go_wp2_with fail
      refine HS.out.mono ?_
      rintro e w1 ⟨rfl, rfl⟩
      dsimp only [Cn.s]
      go_wp2_with fail
      go_ret
      exact ⟨rfl, Turn.here H.out⟩
    | lent o f d n =>
      obtain ⟨c2, f2⟩ := cellsAt hb 2 (v := .int .u64 f) rfl
      by_cases hf : f = 0
      · have hA : Cn.sendA y (.lent o f d n) = 0 := by simp [Cn.sendA, hy, hf]
        have hC : Cn.sendC y (.lent o f d n) = .lent o y d (IntKind.i64.wrap (n + 1)) := by simp [Cn.sendC, hy, hf]
        rw [hA, hC]
        rw [hf] at c2
        have H1 := Lib.hid (uSwap_hit ⟨b, 2, none⟩ 0 y w c2 f2)
        have hb1 := cset hb 2 (.int .u64 y) (cs' := ccells ep (.lent o y d n) z) rfl
        have HO := Lib.hid ((Off.refl S w).set1 hS 2 (.int .u64 y))
        obtain ⟨w2, hw2⟩ : ∃ u, u = w.setCell ⟨b, 2, none⟩ (.int .u64 y) := ⟨_, rfl⟩
        rw [← hw2] at H1 hb1 HO
        obtain ⟨c3, f3⟩ := cellsAt hb1 3 (v := .int .i64 n) rfl
        have H2 := Lib.hid (iAdd_ok ⟨b, 3, none⟩ n 1 w2 c3 f3)
        have HT : Hid (Turn (CC b ep (.lent o y d (IntKind.i64.wrap (n + 1)))) S w (w2.setCell ⟨b, 3, none⟩ (.int .i64 (IntKind.i64.wrap (n + 1))))) := Lib.hid (CC.turn (z := z) H.out (cset hb1 3 _ rfl) (HO.out.set1 hS 3 _) hok)
        generalize IntKind.i64.wrap (n + 1) = m at *
        clear hb hok hA hC hy hb1 c3 f3 hf c2 f2 H HO hw2
        go_enter Try.func45, Try.ntmps45
        go_wp2_with fail
        refine HS.out.mono ?_
        rintro e w1 ⟨rfl, rfl⟩
        dsimp only [Cn.s]
        go_wp2_with fail
        refine H1.out.mono ?_
        rintro e w1 ⟨rfl, rfl⟩
        go_wp2_with fail
        refine H2.out.mono ?_
        rintro e w1 ⟨rfl, rfl⟩
        go_wp2_with fail
        go_ret
        exact ⟨rfl, HT.out⟩
      · have hA : Cn.sendA y (.lent o f d n) = 7 := by simp [Cn.sendA, hy, hf]
        have hC : Cn.sendC y (.lent o f d n) = .lent o f d n := by simp [Cn.sendC, hf]
        rw [hA, hC]
        have H1 := Lib.hid (uSwap_miss ⟨b, 2, none⟩ f 0 y w c2 f2 hf)
        clear hb hok hA hC hy hf c2 f2
        go_enter Try.func45, Try.ntmps45
        go_wp2_with fail
        refine HS.out.mono ?_
        rintro e w1 ⟨rfl, rfl⟩
        dsimp only [Cn.s]
        go_wp2_with fail
        refine H1.out.mono ?_
        rintro e w1 ⟨rfl, rfl⟩
        go_wp2_with fail
        go_ret
        exact ⟨rfl, Turn.here H.out⟩

set_option maxHeartbeats 1000000 in
theorem creply_ok (y : Int) (h : (CC b ep c).p S w) :
    Calls Try.prog 36 #[.pointer (some ⟨b, 0, none⟩), .int .u64 y] w fun e w' => e = .returned (.bool (c.replyA y)) ∧ Turn (CC b ep (c.replyC y)) S w w' := by
  have H := Lib.hid h
  obtain ⟨z, hb, hS, _, hok⟩ := CC.at_ h
  have hk := hok.held
  obtain ⟨c2, f2⟩ := cellsAt hb 2 (v := .int .u64 c.f) rfl
  clear h
  by_cases hy : y = 0
  · have hA : c.replyA y = false := by simp [Cn.replyA, hy]
    have hC : c.replyC y = c := by cases c <;> simp [Cn.replyC, hy]
    have hy1 : (y == 0) = true := by simpa using hy
    rw [hA, hC]
    clear hb hok hA hC hy c2 f2 hk
    go_enter Try.func36, Try.ntmps36
    go_wp2_with fail
    go_ret
    exact ⟨rfl, Turn.here H.out⟩
  · have hy1 : (y == 0) = false := by simpa using hy
    by_cases hf : c.f = y
    · have hA : c.replyA y = true := by simp [Cn.replyA, hy, hf]
      rw [hA]
      rw [hf] at c2
      have H1 := Lib.hid (uSwap_hit ⟨b, 2, none⟩ y 0 w c2 f2)
      cases c with
      | idle d n => exact absurd hf.symm hy
      | closed d n => exact absurd hf.symm hy
      | lent o f d n =>
        have hf' : f = y := hf
        have hC : Cn.replyC y (.lent o f d n) = .lent o 0 d n := by simp [Cn.replyC, hy, hf']
        rw [hC]
        have hb1 := cset hb 2 (.int .u64 0) (cs' := ccells ep (.lent o 0 d n) z) rfl
        have HO := Lib.hid ((Off.refl S w).set1 hS 2 (.int .u64 0))
        obtain ⟨w2, hw2⟩ : ∃ u, u = w.setCell ⟨b, 2, none⟩ (.int .u64 0) := ⟨_, rfl⟩
        rw [← hw2] at H1 hb1 HO
        have HS := Lib.hid (cstate_raw hb1 hk)
        have HT : Hid (Turn (CC b ep (.lent o 0 d n)) S w w2) := Lib.hid (CC.turn (z := z) H.out hb1 HO.out hok)
        clear hb hok hk hA hC hy hb1 hf hf' c2 f2 H HO hw2
        go_enter Try.func36, Try.ntmps36
        go_wp2_with fail
        refine H1.out.mono ?_
        rintro e w1 ⟨rfl, rfl⟩
        go_wp2_with fail
        refine HS.out.mono ?_
        rintro e w1 ⟨rfl, rfl⟩
        dsimp only [Cn.s]
        go_wp2_with fail
        go_ret
        exact ⟨rfl, HT.out⟩
      | drains o f d n =>
        have hf' : f = y := hf
        have hC : Cn.replyC y (.drains o f d n) = .closed d n := by simp [Cn.replyC, hy, hf']
        rw [hC]
        have hb1 := cset hb 2 (.int .u64 0) (cs' := ccells ep (.drains o 0 d n) z) rfl
        have HO := Lib.hid ((Off.refl S w).set1 hS 2 (.int .u64 0))
        obtain ⟨w2, hw2⟩ : ∃ u, u = w.setCell ⟨b, 2, none⟩ (.int .u64 0) := ⟨_, rfl⟩
        rw [← hw2] at H1 hb1 HO
        have HS := Lib.hid (cstate_raw hb1 hk)
        obtain ⟨d1, g1⟩ := cellsAt hb1 1 (v := .int .i64 o) rfl
        have H2 := Lib.hid (iStore_ok ⟨b, 1, none⟩ _ (-1) w2 d1 g1)
        have HT : Hid (Turn (CC b ep (.closed d n)) S w (w2.setCell ⟨b, 1, none⟩ (.int .i64 (-1)))) := Lib.hid (CC.turn (z := true) H.out (cset hb1 1 _ rfl) (HO.out.set1 hS 1 _) trivial)
        clear hb hok hk hA hC hy hb1 hf hf' c2 f2 H HO hw2 d1 g1
        go_enter Try.func36, Try.ntmps36
        go_wp2_with fail
        refine H1.out.mono ?_
        rintro e w1 ⟨rfl, rfl⟩
        go_wp2_with fail
        refine HS.out.mono ?_
        rintro e w1 ⟨rfl, rfl⟩
        dsimp only [Cn.s]
        go_wp2_with fail
        refine H2.out.mono ?_
        rintro e w1 ⟨rfl, rfl⟩
        go_wp2_with fail
        go_ret
        exact ⟨rfl, HT.out⟩
    · have hA : c.replyA y = false := by simp [Cn.replyA, hf]
      have hC : c.replyC y = c := by
        cases c <;> simp only [Cn.replyC]
        · exact if_neg (fun h => hf h.2)
        · exact if_neg (fun h => hf h.2)
      rw [hA, hC]
      have H1 := Lib.hid (uSwap_miss ⟨b, 2, none⟩ c.f y 0 w c2 f2 hf)
      clear hb hok hA hC hy hf c2 f2 hk
      generalize c.f = f at *
      go_enter Try.func36, Try.ntmps36
      go_wp2_with fail
      refine H1.out.mono ?_
      rintro e w1 ⟨rfl, rfl⟩
      go_wp2_with fail
      go_ret
      exact ⟨rfl, Turn.here H.out⟩

theorem csoil_ok (h : (CC b ep c).p S w) :
    Calls Try.prog 49 #[.pointer (some ⟨b, 0, none⟩)] w fun e w' => e = .returned (.bool c.soilA) ∧ Turn (CC b ep c.soilC) S w w' := by
  have H := Lib.hid h
  obtain ⟨z, hb, hS, _, hok⟩ := CC.at_ h
  have HS := Lib.hid (cstate_ok h)
  clear h
  cases c with
  | lent o f d n =>
    obtain ⟨c4, f4⟩ := cellsAt hb 4 (v := .int .u32 (bit d)) rfl
    have H1 := Lib.hid (bStore_ok ⟨b, 4, none⟩ _ w c4 f4)
    have HT : Hid (Turn (CC b ep (.lent o f true n)) S w (w.drew.setCell ⟨b, 4, none⟩ (.int .u32 (bit true)))) := Lib.hid (CC.turn (z := z) H.out (cset (w := w.drew) hb 4 _ rfl) ((Off.refl S w).drew.set1 hS 4 _) hok)
    clear hb hok c4 f4 H
    go_enter Try.func49, Try.ntmps49
    go_wp2_with fail
    refine HS.out.mono ?_
    rintro e w1 ⟨rfl, rfl⟩
    dsimp only [Cn.s]
    go_wp2_with fail
    refine H1.out.mono ?_
    rintro e w1 ⟨rfl, rfl⟩
    go_wp2_with fail
    go_ret
    exact ⟨rfl, HT.out⟩
  | idle d n | drains o f d n | closed d n =>
    clear hb hok
    go_enter Try.func49, Try.ntmps49
    go_wp2_with fail
    refine HS.out.mono ?_
    rintro e w1 ⟨rfl, rfl⟩
    dsimp only [Cn.s]
    go_wp2_with fail
    go_ret
    exact ⟨rfl, Turn.here H.out⟩

set_option maxHeartbeats 1000000 in
theorem crelease_ok (h : (CC b ep c).p S w) :
    Calls Try.prog 73 #[.pointer (some ⟨b, 0, none⟩)] w fun e w' => e = .returned (.bool c.releaseA) ∧ Turn (CC b ep c.releaseC) S w w' := by
  have H := Lib.hid h
  obtain ⟨z, hb, hS, _, hok⟩ := CC.at_ h
  have HS := Lib.hid (cstate_ok h)
  obtain ⟨c1, f1⟩ := cellsAt hb 1 (v := .int .i64 c.w) rfl
  have H1 := Lib.hid (iLoad_ok ⟨b, 1, none⟩ c.w w c1)
  clear h
  cases c with
  | idle d n | drains o f d n | closed d n =>
    clear hb hok c1 f1
    simp only [Cn.w] at H1
    go_enter Try.func73, Try.ntmps73
    go_wp2_with fail
    refine H1.out.mono ?_
    rintro e w1 ⟨rfl, rfl⟩
    go_wp2_with fail
    refine HS.out.mono ?_
    rintro e w1 ⟨rfl, rfl⟩
    dsimp only [Cn.s]
    go_wp2_with fail
    go_ret
    exact ⟨rfl, Turn.here H.out⟩
  | lent o f d n =>
    have H2 := Lib.hid (uLoad_ok ⟨b, 2, none⟩ f w (cellsAt hb 2 rfl).1)
    simp only [Cn.w] at H1 c1
    by_cases hf : f = 0
    · have hf1 : (f == 0) = true := by simpa using hf
      have hA : Cn.releaseA (.lent o f d n) = true := by simpa [Cn.releaseA] using hf
      have H4 := Lib.hid (bLoad_ok ⟨b, 4, none⟩ d w (cellsAt hb 4 rfl).1)
      rw [hA]
      cases d with
      | true =>
        have hC : Cn.releaseC (.lent o f true n) = .closed true n := by simp [Cn.releaseC, hf]
        have H5 := Lib.hid (iSwap_hit ⟨b, 1, none⟩ o (-1) w c1 f1)
        have HT : Hid (Turn (CC b ep (.closed true n)) S w (w.setCell ⟨b, 1, none⟩ (.int .i64 (-1)))) := Lib.hid (CC.turn (z := false) H.out (by subst hf; exact cset hb 1 _ rfl) ((Off.refl S w).set1 hS 1 _) trivial)
        rw [hC]
        clear hb hok c1 f1 H hA hC hf
        go_enter Try.func73, Try.ntmps73
        go_wp2_with fail
        refine H1.out.mono ?_
        rintro e w1 ⟨rfl, rfl⟩
        go_wp2_with fail
        refine HS.out.mono ?_
        rintro e w1 ⟨rfl, rfl⟩
        dsimp only [Cn.s]
        go_wp2_with fail
        refine H2.out.mono ?_
        rintro e w1 ⟨rfl, rfl⟩
        go_wp2_with fail
        refine H4.out.mono ?_
        rintro e w1 ⟨rfl, rfl⟩
        go_wp2_with fail
        refine H5.out.mono ?_
        rintro e w1 ⟨rfl, rfl⟩
        go_wp2_with fail
        go_ret
        exact ⟨rfl, HT.out⟩
      | false =>
        have hC : Cn.releaseC (.lent o f false n) = .idle false n := by simp [Cn.releaseC, hf]
        have H5 := Lib.hid (iSwap_hit ⟨b, 1, none⟩ o 0 w c1 f1)
        have HT : Hid (Turn (CC b ep (.idle false n)) S w (w.setCell ⟨b, 1, none⟩ (.int .i64 0))) := Lib.hid (CC.turn (z := false) H.out (by subst hf; exact cset hb 1 _ rfl) ((Off.refl S w).set1 hS 1 _) trivial)
        rw [hC]
        clear hb hok c1 f1 H hA hC hf
        go_enter Try.func73, Try.ntmps73
        go_wp2_with fail
        refine H1.out.mono ?_
        rintro e w1 ⟨rfl, rfl⟩
        go_wp2_with fail
        refine HS.out.mono ?_
        rintro e w1 ⟨rfl, rfl⟩
        dsimp only [Cn.s]
        go_wp2_with fail
        refine H2.out.mono ?_
        rintro e w1 ⟨rfl, rfl⟩
        go_wp2_with fail
        refine H4.out.mono ?_
        rintro e w1 ⟨rfl, rfl⟩
        go_wp2_with fail
        refine H5.out.mono ?_
        rintro e w1 ⟨rfl, rfl⟩
        go_wp2_with fail
        go_ret
        exact ⟨rfl, HT.out⟩
    · have hf1 : (f == 0) = false := by simpa using hf
      have hA : Cn.releaseA (.lent o f d n) = false := by simpa [Cn.releaseA] using hf
      have hC : Cn.releaseC (.lent o f d n) = .lent o f d n := by simp [Cn.releaseC, hf]
      rw [hA, hC]
      clear hb hok c1 f1 hA hC hf
      go_enter Try.func73, Try.ntmps73
      go_wp2_with fail
      refine H1.out.mono ?_
      rintro e w1 ⟨rfl, rfl⟩
      go_wp2_with fail
      refine HS.out.mono ?_
      rintro e w1 ⟨rfl, rfl⟩
      dsimp only [Cn.s]
      go_wp2_with fail
      refine H2.out.mono ?_
      rintro e w1 ⟨rfl, rfl⟩
      go_wp2_with fail
      go_ret
      exact ⟨rfl, Turn.here H.out⟩

theorem cdrain_ok (h : (CC b ep c).p S w) :
    Calls Try.prog 33 #[.pointer (some ⟨b, 0, none⟩)] w fun e w' => e = .returned (.tuple #[]) ∧ Turn (CC b ep c.drainC) S w w' := by
  have H := Lib.hid h
  obtain ⟨z, hb, hS, _, hok⟩ := CC.at_ h
  obtain ⟨c1, f1⟩ := cellsAt hb 1 (v := .int .i64 c.w) rfl
  obtain ⟨c5, f5⟩ := cellsAt hb 5 (v := .int .u32 (bit (c.g z))) rfl
  have H2 := Lib.hid (uLoad_ok ⟨b, 2, none⟩ c.f w (cellsAt hb 2 rfl).1)
  have H1 := Lib.hid (iStore_ok ⟨b, 1, none⟩ _ (-1) w c1 f1)
  have H5 := Lib.hid (bStore_ok ⟨b, 5, none⟩ _ w c5 f5)
  clear h c1 f1 c5 f5
  by_cases hf : c.f = 0
  · have HT : Hid (Turn (CC b ep c.drainC) S w (w.setCell ⟨b, 1, none⟩ (.int .i64 (-1)))) := Lib.hid (by
      cases c with
      | idle d n => exact CC.turn (z := false) H.out (cset hb 1 _ rfl) ((Off.refl S w).set1 hS 1 _) trivial
      | lent o f d n =>
        have hf' : f = 0 := hf
        subst hf'
        exact CC.turn (z := false) H.out (cset hb 1 _ rfl) ((Off.refl S w).set1 hS 1 _) trivial
      | drains o f d n => exact absurd hf hok.2
      | closed d n => exact CC.turn (z := z) H.out (cset hb 1 _ rfl) ((Off.refl S w).set1 hS 1 _) trivial)
    have hf1 : (c.f == 0) = true := by simpa using hf
    generalize c.drainC = c' at *
    generalize c.f = f at *
    clear hb hok H hf H5
    go_enter Try.func33, Try.ntmps33
    go_wp2_with fail
    refine H2.out.mono ?_
    rintro e w1 ⟨rfl, rfl⟩
    go_wp2_with fail
    refine H1.out.mono ?_
    rintro e w1 ⟨rfl, rfl⟩
    go_wp2_with fail
    go_end0
    exact ⟨rfl, HT.out⟩
  · have HT : Hid (Turn (CC b ep c.drainC) S w (w.drew.setCell ⟨b, 5, none⟩ (.int .u32 (bit true)))) := Lib.hid (by
      cases c with
      | idle d n => exact absurd rfl hf
      | lent o f d n =>
        have hf' : f ≠ 0 := hf
        have hC : Cn.drainC (.lent o f d n) = .drains o f d n := by simp [Cn.drainC, hf']
        rw [hC]
        exact CC.turn (z := z) H.out (cset (w := w.drew) hb 5 _ rfl) ((Off.refl S w).drew.set1 hS 5 _) ⟨hok, hf'⟩
      | drains o f d n => exact CC.turn (z := z) H.out (cset (w := w.drew) hb 5 _ rfl) ((Off.refl S w).drew.set1 hS 5 _) hok
      | closed d n => exact absurd rfl hf)
    have hf1 : (c.f == 0) = false := by simpa using hf
    generalize c.drainC = c' at *
    generalize c.f = f at *
    clear hb hok H hf H1
    go_enter Try.func33, Try.ntmps33
    go_wp2_with fail
    refine H2.out.mono ?_
    rintro e w1 ⟨rfl, rfl⟩
    go_wp2_with fail
    refine H5.out.mono ?_
    rintro e w1 ⟨rfl, rfl⟩
    go_wp2_with fail
    first | go_end0 | (simp only [Exit.inBlock, Exit.then]; refine bodyPost_ret (results_none rfl _ _ _) rfl ?_) | refine bodyPost_ret (results_none rfl _ _ _) rfl ?_
    exact ⟨rfl, HT.out⟩

theorem cbreak_ok (h : (CC b ep c).p S w) :
    Calls Try.prog 52 #[.pointer (some ⟨b, 0, none⟩)] w fun e w' => e = .returned (.int .u64 c.f) ∧ Turn (CC b ep c.breakC) S w w' := by
  have H := Lib.hid h
  obtain ⟨z, hb, hS, _, hok⟩ := CC.at_ h
  obtain ⟨c1, f1⟩ := cellsAt hb 1 (v := .int .i64 c.w) rfl
  have H1 := Lib.hid (iStore_ok ⟨b, 1, none⟩ _ (-1) w c1 f1)
  have hb1 : (w.setCell ⟨b, 1, none⟩ (.int .i64 (-1))).heap[b]? = some (.cells #[.int .u64 ep, .int .i64 (-1), .int .u64 c.f, .int .i64 c.n, .int .u32 (bit c.d), .int .u32 (bit (c.g z))] 112 (0, 0)) := cset hb 1 _ rfl
  have HO := Lib.hid ((Off.refl S w).set1 hS 1 (.int .i64 (-1)))
  obtain ⟨w2, hw2⟩ : ∃ u, u = w.setCell ⟨b, 1, none⟩ (.int .i64 (-1)) := ⟨_, rfl⟩
  rw [← hw2] at H1 hb1 HO
  obtain ⟨c2, f2⟩ := cellsAt hb1 2 (v := .int .u64 c.f) rfl
  have H2 := Lib.hid (uChange_ok ⟨b, 2, none⟩ c.f 0 w2 c2 f2)
  have HT : Hid (Turn (CC b ep c.breakC) S w (w2.setCell ⟨b, 2, none⟩ (.int .u64 0))) := Lib.hid (CC.turn (z := c.g z) H.out (cset hb1 2 _ rfl) (HO.out.set1 hS 2 _) trivial)
  clear h hb hok H hb1 c1 f1 c2 f2 HO hw2
  generalize c.breakC = c' at *
  generalize c.f = f at *
  go_enter Try.func52, Try.ntmps52
  go_wp2_with fail
  refine H1.out.mono ?_
  rintro e w1 ⟨rfl, rfl⟩
  go_wp2_with fail
  refine H2.out.mono ?_
  rintro e w1 ⟨rfl, rfl⟩
  go_wp2_with fail
  go_ret
  exact ⟨rfl, HT.out⟩
end
end

/- The project's layer 8: a ring in an array, by the call: contracts. -/
section
open Go.RowKit
set_option maxRecDepth 100000

/-- a ring r of twelve, from f on: it says l -/
structure RingAt (r : List Int) (f : Nat) (l : List Int) : Prop where
  size : r.length = 12
  first : f < 12
  len : l.length ≤ 12
  at_ : ∀ i (hi : i < l.length), r[(f + i) % 12]? = some l[i]
theorem RingAt.nil {r : List Int} (h : r.length = 12) : RingAt r 0 [] := ⟨h, by decide, by decide, fun i hi => absurd hi (by simp)⟩
theorem RingAt.get {r : List Int} {f : Nat} {l : List Int} (h : RingAt r f l) {i : Nat} (hi : i < l.length) : ∃ hj : (f + i) % 12 < r.length, r[(f + i) % 12] = l[i] := by
  have := h.at_ i hi
  obtain ⟨h1, h2⟩ := List.getElem?_eq_some_iff.1 this
  exact ⟨h1, h2⟩
theorem RingAt.put {r : List Int} {f : Nat} {l : List Int} (h : RingAt r f l) (hl : l.length < 12) (x : Int) : RingAt (r.set ((f + l.length) % 12) x) f (l ++ [x]) := by
  have hs := h.size
  have hf := h.first
  refine ⟨by rw [List.length_set]; exact hs, hf, by simp; omega, fun i hi => ?_⟩
  rw [List.length_append, List.length_singleton] at hi
  by_cases he : i = l.length
  · subst he
    rw [List.getElem?_set_self (by omega)]
    simp
  · have hi2 : i < l.length := by omega
    rw [List.getElem?_set_ne (by omega), h.at_ i hi2, List.getElem_append_left hi2]
theorem RingAt.take {r : List Int} {f : Nat} {x : Int} {l : List Int} (h : RingAt r f (x :: l)) : RingAt r ((f + 1) % 12) l := by
  have hl := h.len
  refine ⟨h.size, by omega, by simp at hl; omega, fun i hi => ?_⟩
  have := h.at_ (i + 1) (by simpa using hi)
  rw [show ((f + 1) % 12 + i) % 12 = (f + (i + 1)) % 12 by omega, this]
  rfl
theorem RingAt.set {r : List Int} {f : Nat} {l : List Int} (h : RingAt r f l) {i : Nat} (hi : i < l.length) (z : Int) : RingAt (r.set ((f + i) % 12) z) f (l.set i z) := by
  have hs := h.size
  have hf := h.first
  have hl := h.len
  refine ⟨by rw [List.length_set]; exact hs, hf, by simpa using hl, fun j hj => ?_⟩
  have hj2 : j < l.length := by simpa using hj
  by_cases he : i = j
  · subst he
    rw [List.getElem?_set_self (by omega)]
    simp
  · rw [List.getElem?_set_ne (by omega), h.at_ j hj2, List.getElem_set_ne he]
theorem RingAt.cut {r : List Int} {f : Nat} {l : List Int} (h : RingAt r f l) (k : Nat) : RingAt r f (l.take k) := by
  have hl := h.len
  refine ⟨h.size, h.first, by rw [List.length_take]; omega, fun i hi => ?_⟩
  rw [List.length_take] at hi
  rw [h.at_ i (by omega), List.getElem_take]

/-- all behind a place close up: the first j of them have -/
def shiftW (a j : Nat) (l : List Int) : List Int := (l.take a ++ (l.drop (a + 1)).take j) ++ l.drop (a + j)
theorem shiftW_len {a j : Nat} {l : List Int} (h : a + j + 1 ≤ l.length) : (shiftW a j l).length = l.length := by
  simp [shiftW]; omega
theorem shiftW_zero (a : Nat) (l : List Int) : shiftW a 0 l = l := by simp [shiftW]
theorem shiftW_get {a j : Nat} {l : List Int} (h : a + j + 1 ≤ l.length) (k : Nat) (hk : k < l.length) (hjk : a + j ≤ k) : (shiftW a j l)[k]'(by rw [shiftW_len h]; exact hk) = l[k] := by
  unfold shiftW
  rw [List.getElem_append_right (by simp; omega)]
  simp
  congr 1
  omega
theorem shiftW_at? {a j : Nat} {l : List Int} (h : a + j + 1 ≤ l.length) (k : Nat) : (shiftW a j l)[k]? = if k < a then l[k]? else if k < a + j then l[k + 1]? else l[k]? := by
  unfold shiftW
  rw [List.getElem?_append, List.getElem?_append]
  simp only [List.length_append, List.length_take, List.length_drop]
  by_cases h1 : k < a
  · rw [if_pos (by omega), if_pos (by omega), if_pos h1, List.getElem?_take, if_pos h1]
  · rw [if_neg h1]
    by_cases h2 : k < a + j
    · rw [if_pos (by omega), if_neg (by omega), if_pos h2, List.getElem?_take, if_pos (by omega), List.getElem?_drop]
      congr 1; omega
    · rw [if_neg (by omega), if_neg h2, List.getElem?_drop]
      congr 1; omega
theorem shiftW_next {a j : Nat} {l : List Int} (h : a + j + 1 < l.length) : (shiftW a j l).set (a + j) l[a + j + 1] = shiftW a (j + 1) l := by
  apply List.ext_getElem?
  intro k
  rw [shiftW_at? (by omega), List.getElem?_set, shiftW_len (by omega), shiftW_at? (by omega)]
  by_cases he : a + j = k
  · subst he
    rw [if_pos rfl, if_pos (by omega), if_neg (by omega), if_pos (by omega), List.getElem?_eq_getElem h]
  · rw [if_neg he]
    split
    · rfl
    · by_cases h3 : k < a + j
      · rw [if_pos h3, if_pos (by omega)]
      · rw [if_neg h3, if_neg (by omega)]
theorem shiftW_end {a j : Nat} {l : List Int} (h : a + j + 1 = l.length) : (shiftW a j l).take (a + j) = l.take a ++ l.drop (a + 1) := by
  unfold shiftW
  rw [List.take_append_of_le_length (by simp; omega), List.take_of_length_le (by simp; omega), List.take_of_length_le (l := l.drop (a + 1)) (by simp; omega)]

/-- a row's cells -/
def rowC (r : List Int) (f n : Nat) (m : Int) : Array Value := (ivs r ++ ([.int .i64 f, .int .i64 n, .int .i64 m] : List Value)).toArray
/-- a row of the project's, as it lies -/
structure PRow (w : World) (b : Nat) (r : List Int) (f n : Nat) (m : Int) : Prop where
  heap : w.heap[b]? = some (.cells (rowC r f n m) 92 (0, 0))
  size : r.length = 12
section
variable {w : World} {b : Nat} {r : List Int} {f n : Nat} {m : Int}
theorem PRow.ring (h : PRow w b r f n m) {j : Nat} (hj : j < r.length) : w.cell? ⟨b, j, none⟩ = some (.int .i64 r[j]) := by
  have hs := h.size
  rw [cell_of_row _ _ j _ _ _ h.heap]
  simp only [rowC, List.getElem?_toArray]
  rw [List.getElem?_append_left (by rw [ivs_length]; exact hj)]
  simp [ivs, hj]
theorem PRow.cells (h : PRow w b r f n m) : w.cell? ⟨b, 12, none⟩ = some (.int .i64 f) ∧ w.cell? ⟨b, 13, none⟩ = some (.int .i64 n) ∧ w.cell? ⟨b, 14, none⟩ = some (.int .i64 m) := by
  have hs := h.size
  have key : ∀ (j : Nat) (v : Value), ([.int .i64 f, .int .i64 n, .int .i64 m] : List Value)[j]? = some v → w.cell? ⟨b, 12 + j, none⟩ = some v := fun j v hv => by
    rw [cell_of_row _ _ (12 + j) _ _ _ h.heap]
    simp only [rowC, List.getElem?_toArray]
    rw [List.getElem?_append_right (by rw [ivs_length]; omega), ivs_length, hs, show 12 + j - 12 = j by omega]
    exact hv
  exact ⟨key 0 _ rfl, key 1 _ rfl, key 2 _ rfl⟩
theorem PRow.froz (h : PRow w b r f n m) (j : Nat) : w.frozen? ⟨b, j, none⟩ = false := by simp [World.frozen?, h.heap]
theorem PRow.lt (h : PRow w b r f n m) : b < w.heap.size := (Array.getElem?_eq_some_iff.1 h.heap).1
theorem PRow.setRing (h : PRow w b r f n m) {j : Nat} (hj : j < 12) (z : Int) : PRow (w.setCell ⟨b, j, none⟩ (.int .i64 z)) b (r.set j z) f n m := by
  have hs := h.size
  refine ⟨?_, by rw [List.length_set]; exact hs⟩
  rw [heap_setCell_same w b j _ _ _ h.heap]
  congr 2
  simp only [rowC, List.setIfInBounds_toArray, ivs_set]
  rw [List.set_append_left _ _ (by rw [ivs_length]; omega)]
theorem PRow.setLate (h : PRow w b r f n m) {j : Nat} (v : Value) (f' n' : Nat) (hv : ([.int .i64 f, .int .i64 n, .int .i64 m] : List Value).set j v = [.int .i64 f', .int .i64 n', .int .i64 m]) : PRow (w.setCell ⟨b, 12 + j, none⟩ v) b r f' n' m := by
  have hs := h.size
  refine ⟨?_, hs⟩
  rw [heap_setCell_same w b (12 + j) _ _ _ h.heap]
  congr 2
  simp only [rowC, List.setIfInBounds_toArray]
  rw [List.set_append_right _ _ (by rw [ivs_length]; omega), ivs_length, hs, show 12 + j - 12 = j by omega, hv]
theorem PRow.setFirst (h : PRow w b r f n m) (f' : Nat) : PRow (w.setCell ⟨b, 12, none⟩ (.int .i64 f')) b r f' n m := h.setLate (j := 0) _ f' n rfl
theorem PRow.setCount (h : PRow w b r f n m) (n' : Nat) : PRow (w.setCell ⟨b, 13, none⟩ (.int .i64 n')) b r f n' m := h.setLate (j := 1) _ f n' rfl
theorem PRow.of {w' : World} (h : PRow w b r f n m) (hk : w'.heap[b]? = w.heap[b]?) : PRow w' b r f n m := ⟨hk.trans h.heap, h.size⟩

set_option maxHeartbeats 2000000 in
theorem place_ok (k : Nat) (h : PRow w b r f n m) (hf : f < 12) (hk : k ≤ 12) :
    Calls Try.prog 56 #[.pointer (some ⟨b, 0, none⟩), .int .i64 k] w fun e w' => e = .returned (.pointer (some ⟨b, (f + k) % 12, none⟩)) ∧ w'.heap = w.heap ∧ Below w.heap.size w w' := by
  obtain ⟨c12, _, _⟩ := h.cells
  obtain ⟨q, hq⟩ : ∃ q, q = (f + k) % 12 := ⟨_, rfl⟩
  have hrem : Int.tmod ((f : Int) + k) 12 = (q : Int) := by
    rw [hq, show ((f : Int) + k) = ((f + k : Nat) : Int) by omega]
    rfl
  have hq0 : (0 : Int) ≤ q := by omega
  have hq1 : (q : Int) < 12 := by omega
  have hwr : IntKind.i64.wrap ((f : Int) + k) = (f : Int) + k := by rw [IntKind.wrap_i64]; omega
  rw [← hq]
  clear h hq
  go_enter Try.func56, Try.ntmps56
  go_wp2_with fail
  go_quiet (fail)
  go_wp2_with fail
  go_ret
  exact ⟨rfl, rfl, kp_drewN _ _⟩
end
end

/- The document's layer 8: rows of who waits, by the call: contracts. -/
section
open Go.RowKit
set_option maxRecDepth 100000

theorem intinfo8 : (Try.prog.info? 3).map (fun i => (i.zero, i.size, i.bytes)) = some (some (.int .i64 0), 1, 8) := by kernel_rfl
section
variable {b : Nat} {m : Int} {l : List Int} {S : Nat → Prop} {w : World}
end
end

/- The project's layer 8: At, All, Put, Take, New: contracts. -/
section
open Go.RowKit
set_option maxRecDepth 100000

/-- a row of the project's: who waits in it -/
def PWp (b : Nat) (m : Int) (l : List Int) (S : Nat → Prop) (w : World) : Prop :=
  ∃ r f, PRow w b r f l.length m ∧ RingAt r f l ∧ S b ∧ (∀ k, S k → k < w.heap.size) ∧ (l.length : Int) ≤ m ∧ m ≤ 12
def PW (b : Nat) (m : Int) (l : List Int) : Thing where
  p := PWp b m l
  keep := fun ⟨r, f, h1, h2, h3, h4, h5, h6⟩ hk hz => ⟨r, f, h1.of (hk b h3), h2, h3, fun k h => Nat.lt_of_lt_of_le (h4 k h) hz, h5, h6⟩
  lt := fun ⟨_, _, _, _, _, h4, _⟩ => h4

section
variable {b : Nat} {m : Int} {l : List Int} {S : Nat → Prop} {w : World}
theorem PW.at_ (h : (PW b m l).p S w) : ∃ r f, PRow w b r f l.length m ∧ RingAt r f l ∧ S b ∧ (∀ k, S k → k < w.heap.size) ∧ (l.length : Int) ≤ m ∧ m ≤ 12 := h
theorem PW.turn {w' : World} {l' r : List Int} {f : Nat} (h : (PW b m l).p S w) (hb : PRow w' b r f l'.length m) (hr : RingAt r f l') (ho : Off S w w') (hl : (l'.length : Int) ≤ m) : Turn (PW b m l') S w w' := by
  obtain ⟨_, _, _, _, h3, h4, _, h6⟩ := PW.at_ h
  exact ⟨⟨S, ⟨r, f, hb, hr, h3, fun k hk => Nat.lt_of_lt_of_le (h4 k hk) ho.size, hl, h6⟩, fun k hk => .inl hk⟩, ho⟩

set_option maxHeartbeats 2000000 in
theorem pat_ok (x : Int) (h : (PW b m l).p S w) :
    Calls Try.prog 39 #[.pointer (some ⟨b, 0, none⟩), .int .i64 x] w fun e w' => e = .returned (.int .i64 (atW x l)) ∧ w'.heap = w.heap ∧ Below w.heap.size w w' := by
  obtain ⟨r, f, hp, hr, _, _, _, _⟩ := PW.at_ h
  obtain ⟨_, c13, _⟩ := hp.cells
  have hl12 := hr.len
  have HP := Lib.hid hp
  have HX := Lib.hid hr
  clear h hp hr
  obtain ⟨n, hn⟩ : ∃ n, n = l.length := ⟨_, rfl⟩
  rw [← hn] at c13 hl12 HP
  have HN := Lib.hid hn
  clear hn
  go_enter Try.func39, Try.ntmps39
  go_wp2
  go_loopw [10] (fun i wr => ∃ k : Nat, k ≤ n ∧ i = .int .i64 k ∧ Hid (∀ j (hj : j < l.length), j < k → l[j] ≠ x) ∧ Hid (wr.heap = w.heap ∧ Below w.heap.size w wr)) (fun i _ => n - (intOf i).toNat)
  case atStart => exact ⟨0, Nat.zero_le _, rfl, Lib.hid (fun j _ h => absurd h (Nat.not_lt_zero _)), Lib.hid ⟨rfl, Below.refl _ _⟩⟩
  case round =>
    obtain ⟨k, hk, rfl, hne, hw⟩ := hrel
    by_cases hlt : k < n
    · have hkl : k < l.length := by rw [← HN.out]; exact hlt
      have HPL := Lib.hid (place_ok k (HP.out.of (by rw [hw.out.1])) HX.out.first (by omega))
      obtain ⟨hq, hg⟩ := HX.out.get hkl
      have HG := Lib.hid hg
      by_cases he : l[k] = x
      · have hp : Hid (atW x l = k) := Lib.hid (atW_at hkl hne.out he)
        have hq1 : (l[k] == x) = true := by rw [he]; simp
        clear hne
        go_wp2_with fail
        refine HPL.out.mono ?_
        rintro e w1 ⟨rfl, h1, k1⟩
        have d0 := (HP.out.of (w' := w1) (by rw [h1, hw.out.1])).ring hq
        rw [HG.out] at d0
        have HW1 := Lib.hid (show w1.heap = w.heap from h1.trans hw.out.1)
        have HK1 := Lib.hid (show Below w.heap.size w w1 from kp_trans hw.out.2 k1)
        clear h1 k1 he hg
        generalize l[k] = y at *
        go_wp2_with fail
        go_ret
        exact ⟨by rw [hp.out]; rfl, HW1.out, HK1.out⟩
      · have hne2 : Hid (∀ j (hj : j < l.length), j < k + 1 → l[j] ≠ x) := Lib.hid (fun j hj hjk => by
          by_cases h : j = k
          · subst h; exact he
          · exact hne.out j hj (by omega))
        have hq1 : (l[k] == x) = false := by simpa using he
        clear hne
        go_wp2_with fail
        refine HPL.out.mono ?_
        rintro e w1 ⟨rfl, h1, k1⟩
        have d0 := (HP.out.of (w' := w1) (by rw [h1, hw.out.1])).ring hq
        rw [HG.out] at d0
        have HW1 := Lib.hid (show w1.heap = w.heap from h1.trans hw.out.1)
        have HK1 := Lib.hid (show Below w.heap.size w w1 from kp_trans hw.out.2 k1)
        clear h1 k1 he hg
        generalize l[k] = y at *
        go_wp2_with fail
        go_roundw
        case rel => exact ⟨k + 1, by omega, by go_num, hne2, Lib.hid ⟨HW1.out, HK1.out⟩⟩
        case measure => simp [intOf]; omega
    · have hp : Hid (atW x l = -1) := Lib.hid (atW_none fun y hy => by
        obtain ⟨j, hj, rfl⟩ := List.getElem_of_mem hy
        exact hne.out j hj (by have := HN.out; omega))
      clear hne
      go_wp2_with fail
      go_ret
      exact ⟨by rw [hp.out]; rfl, hw.out.1, hw.out.2⟩

set_option maxHeartbeats 4000000 in
theorem pall_own (h : (PW b m l).p S w) :
    Calls Try.prog 29 #[.pointer (some ⟨b, 0, none⟩)] w fun e w' => ∃ A n c, e = .returned (.slice A n c) ∧ w'.ownsRow w.heap.size 3 1 (.slice A n c) n (ivs l) ∧ n ≤ 12 ∧ Below w.heap.size w w' := by
  obtain ⟨r, f, hp, hr, _, _, _, _⟩ := PW.at_ h
  obtain ⟨_, c13, _⟩ := hp.cells
  have hl12 := hr.len
  have HLT := Lib.hid hp.lt
  have HP := Lib.hid hp
  have HX := Lib.hid hr
  clear h hp hr
  obtain ⟨n, hn⟩ : ∃ n, n = l.length := ⟨_, rfl⟩
  rw [← hn] at c13 hl12 HP
  have HN := Lib.hid hn
  clear hn
  obtain ⟨i0, hi, hz0, hz1, hz2⟩ := info_parts intinfo8
  go_enter Try.func29, Try.ntmps29
  go_wp2_with fail
  go_loopw [3, 9] (fun o i wr => ∃ (k : Nat) (D : Option Addr) (e : Nat), k ≤ n ∧ i = .int .i64 k ∧ o = .slice D k e ∧ Hid (wr.ownsRow w.heap.size 3 1 (.slice D k e) k (ivs (l.take k))) ∧ Hid (Below w.heap.size w wr)) (fun _ i _ => n - (intOf i).toNat)
  case atStart => exact ⟨0, none, 0, Nat.zero_le _, rfl, rfl, Lib.hid (World.ownsRow_nil _ _ _ _), Lib.hid (Below.refl _ _)⟩
  case round =>
    obtain ⟨k, D, e, hk, rfl, rfl, hO, hw⟩ := hrel
    by_cases hlt : k < n
    · have hkl : k < l.length := by rw [← HN.out]; exact hlt
      have HPR : Hid (PRow wr b r f n m) := Lib.hid (HP.out.of (hw.out.block _ HLT.out))
      have HPL := Lib.hid (place_ok k HPR.out HX.out.first (by omega))
      obtain ⟨hq, hg⟩ := HX.out.get hkl
      have HG := Lib.hid hg
      have HE : Hid (ivs (l.take (k + 1)) = ivs (l.take k) ++ [.int .i64 l[k]]) := Lib.hid (by
        rw [List.take_succ_eq_append_getElem hkl, ivs_append]
        rfl)
      clear hg
      go_wp2_with fail
      refine HPL.out.mono ?_
      rintro e1 w1 ⟨rfl, h1, k1⟩
      have d0 := (HPR.out.of (w' := w1) (by rw [h1])).ring hq
      rw [HG.out] at d0
      have HZ : Hid (wr.heap.size = w1.heap.size) := Lib.hid (by rw [h1])
      have HK1 := Lib.hid k1
      have HO1 := Lib.hid ((own_below hO.out k1 (Nat.le_refl _)).alloc (.cells #[.int .i64 l[k]] 3))
      have HR1 : Hid (Rd (w1.alloc (.cells #[.int .i64 l[k]] 3)) (w1.heap.size + 1) (some ⟨w1.heap.size, 0, none⟩) [.int .i64 l[k]]) := Lib.hid (Rd.new w1 3 [.int .i64 l[k]])
      have HS1 : Hid (w.heap.size ≤ (w1.alloc (.cells #[.int .i64 l[k]] 3)).heap.size) := Lib.hid (by have := hw.out.size; have := HZ.out; simp; omega)
      have hk12 : k + 1 ≤ 12 := by omega
      have HK12 := Lib.hid hk12
      clear h1 k1
      generalize l[k] = y at *
      go_wp2_with (at_builtin; refine wpList_append_rd rfl _ _ _ rfl w.heap.size 3 i0 _ 8 Try.underlying36 hi hz0 hz1 hz2 rfl _ k _ rfl HO1.out _ _ _ _ [.int .i64 y] rfl rfl HR1.out (by simp [Value.oneCell']) (by have := HK12.out; unfold maxLen; omega) (by have := HK12.out; omega) HS1.out ?_; intro v3 w3 hown3 hg3; obtain ⟨A3, c3, rfl, _, _⟩ := own_form hown3; have HO3 := Lib.hid hown3; have HG3 := Lib.hid hg3; clear hown3 hg3)
      go_roundw
      case rel =>
        refine ⟨k + 1, A3, c3, by omega, by go_num, rfl, Lib.hid (by rw [HE.out]; exact HO3.out), Lib.hid ?_⟩
        exact (kp_alloc (kp_trans hw.out HK1.out) _).trans (below_own_s HO1.out HG3.out HS1.out)
      case measure => simp [intOf]; omega
    · obtain rfl : k = n := by omega
      have hO' := hO.out
      rw [List.take_of_length_le (by rw [← HN.out]; exact Nat.le_refl _)] at hO'
      have HO' := Lib.hid hO'
      clear hO'
      go_wp2_with fail
      go_ret
      exact ⟨D, k, e, rfl, HO'.out, hl12, hw.out⟩
theorem pall_ok (h : (PW b m l).p S w) :
    Calls Try.prog 29 #[.pointer (some ⟨b, 0, none⟩)] w fun e w' => ∃ A n c, e = .returned (.slice A n c) ∧ NR w' A n l ∧ n ≤ 12 ∧ Below w.heap.size w w' :=
  (pall_own h).mono fun _ _ ⟨A, n, c, h1, h2, h3, h4⟩ => ⟨A, n, c, h1, NR.of_own h2, h3, h4⟩

set_option maxHeartbeats 4000000 in
theorem pput_ok (x : Int) (h : (PW b m l).p S w) :
    Calls Try.prog 42 #[.pointer (some ⟨b, 0, none⟩), .int .i64 x] w fun e w' => e = .returned (.int .i64 (putW m x l).1) ∧ Turn (PW b m (putW m x l).2) S w w' := by
  have HF := Lib.hid (pat_ok x h)
  have H := Lib.hid h
  obtain ⟨r, f, hp, hr, hS, hlt, hm, hm2⟩ := PW.at_ h
  have HP := Lib.hid hp
  have HX := Lib.hid hr
  have hpw : putW m x l = if 0 ≤ atW x l then (7, l) else if m ≤ l.length then (5, l) else (0, l ++ [x]) := rfl
  clear h hp hr
  by_cases hq : 0 ≤ atW x l
  · rw [if_pos hq] at hpw
    rw [hpw]
    clear hpw
    generalize atW x l = i at *
    go_enter Try.func42, Try.ntmps42
    go_wp2_with fail
    refine HF.out.mono ?_
    rintro e w1 ⟨rfl, h1, k1⟩
    have HK1 := Lib.hid k1
    clear h1 k1
    go_wp2_with fail
    go_ret
    exact ⟨rfl, Turn.same H.out HK1.out⟩
  · rw [if_neg hq] at hpw
    by_cases hf : m ≤ l.length
    · rw [if_pos hf] at hpw
      rw [hpw]
      have heq : (l.length : Int) = m := by omega
      clear hpw
      generalize atW x l = i at *
      go_enter Try.func42, Try.ntmps42
      go_wp2_with fail
      refine HF.out.mono ?_
      rintro e w1 ⟨rfl, h1, k1⟩
      have HK1 := Lib.hid k1
      obtain ⟨_, c13, c14⟩ := (HP.out.of (w' := w1) (by rw [h1])).cells
      have hb0 : ((l.length : Int) == m) = true := by simpa using heq
      clear h1 k1 heq hf hm
      go_wp2_with fail
      go_quiet (fail)
      go_wp2_with fail
      go_ret
      exact ⟨rfl, Turn.same H.out (kp_trans HK1.out (kp_drewN _ _))⟩
    · rw [if_neg hf] at hpw
      rw [hpw]
      have hlm : ((l ++ [x]).length : Int) ≤ m := by simp; omega
      have HLM := Lib.hid hlm
      have hl12 : l.length < 12 := by omega
      have HL12 := Lib.hid hl12
      clear hpw hlm
      obtain ⟨n, hn⟩ : ∃ n, n = l.length := ⟨_, rfl⟩
      rw [← hn] at HP hf hm hl12
      have HN := Lib.hid hn
      clear hn
      generalize atW x l = i at *
      go_enter Try.func42, Try.ntmps42
      go_wp2_with fail
      refine HF.out.mono ?_
      rintro e w1 ⟨rfl, h1, k1⟩
      have HK1 := Lib.hid k1
      have HP1 := Lib.hid (HP.out.of (w' := w1) (by rw [h1]))
      obtain ⟨_, c13, c14⟩ := HP1.out.cells
      have hb0 : ((n : Int) == m) = false := by simp; omega
      clear h1 k1 hf hm
      go_wp2_with fail
      go_quiet (fail)
      have kq : Below w.heap.size w (w1.drewN nq) := kp_trans HK1.out (kp_drewN w1 nq)
      have HKQ := Lib.hid kq
      have HPQ : Hid (PRow (w1.drewN nq) b r f n m) := Lib.hid (HP1.out.of rfl)
      clear kq c13 c14
      generalize w1.drewN nq = w2 at *
      obtain ⟨_, c13, _⟩ := HPQ.out.cells
      have HPL := Lib.hid (place_ok n HPQ.out HX.out.first (by omega))
      go_wp2_with fail
      refine HPL.out.mono ?_
      rintro e w3 ⟨rfl, h3, k3⟩
      have HP3 := Lib.hid (HPQ.out.of (w' := w3) (by rw [h3]))
      obtain ⟨q, hq2⟩ : ∃ q, q = (f + n) % 12 := ⟨_, rfl⟩
      have hq12 : q < 12 := by omega
      have HP4 := Lib.hid (HP3.out.setRing hq12 x)
      have HP5 := Lib.hid (HP4.out.setCount (n + 1))
      have f3 := HP3.out.froz q
      obtain ⟨z3, e3⟩ : ∃ z, w3.cell? ⟨b, q, none⟩ = some (.int .i64 z) := ⟨_, HP3.out.ring (by rw [HP3.out.size]; exact hq12)⟩
      obtain ⟨_, d13, _⟩ := HP4.out.cells
      have f4 := HP4.out.froz 13
      have hwr : IntKind.i64.wrap ((n : Int) + 1) = ((n + 1 : Nat) : Int) := by rw [IntKind.wrap_i64]; omega
      have HK3 := Lib.hid (kp_trans HKQ.out k3)
      rw [← hq2]
      have HQ := Lib.hid hq2
      clear h3 k3 hq2 c13
      go_wp2_with fail
      go_ret
      refine ⟨rfl, PW.turn H.out ?_ (HX.out.put HL12.out x) (Off.setCell (Off.setCell (Off.of S HK3.out) (.inl hS) _) (.inl hS) _) HLM.out⟩
      rw [List.length_append, List.length_singleton, ← HN.out, ← HQ.out]
      exact HP5.out

set_option maxHeartbeats 4000000 in
theorem ptake_ok (h : (PW b m l).p S w) :
    Calls Try.prog 47 #[.pointer (some ⟨b, 0, none⟩)] w fun e w' => e = .returned (takeW l) ∧ Turn (PW b m l.tail) S w w' := by
  have H := Lib.hid h
  obtain ⟨r, f, hp, hr, hS, hlt, hm, hm2⟩ := PW.at_ h
  obtain ⟨_, c13, _⟩ := hp.cells
  have HP := Lib.hid hp
  have HX := Lib.hid hr
  clear h hp hr
  cases l with
  | nil =>
    go_enter Try.func47, Try.ntmps47
    go_wp2_with fail
    go_ret2
    exact ⟨rfl, Turn.here H.out⟩
  | cons x t =>
    have hq0 : (((x :: t).length : Nat) : Int) = (t.length : Int) + 1 := by simp
    have HPL := Lib.hid (place_ok 0 HP.out HX.out.first (by omega))
    obtain ⟨hq, hg⟩ := HX.out.get (i := 0) (by simp)
    obtain ⟨q, hqq⟩ : ∃ q, q = (f + 0) % 12 := ⟨_, rfl⟩
    have HG : Hid (∃ h : q < r.length, r[q] = x) := Lib.hid (by subst hqq; exact ⟨hq, hg⟩)
    rw [← hqq] at HPL
    clear hg hqq hq
    have hf12 := HX.out.first
    have hl12 := HX.out.len
    rw [List.length_cons] at hl12
    have HM := Lib.hid hm
    rw [List.length_cons] at HP c13
    clear hm hq0
    obtain ⟨n, hn⟩ : ∃ n, n = t.length := ⟨_, rfl⟩
    rw [← hn] at HP c13 hl12
    have HT := Lib.hid hn
    clear hn
    have hc0 : (((n + 1 : Nat) : Int) == 0) = false := by simp; omega
    obtain ⟨f', hf'⟩ : ∃ f', f' = (f + 1) % 12 := ⟨_, rfl⟩
    have hrem : Int.tmod ((f : Int) + 1) 12 = (f' : Int) := by
      rw [hf', show ((f : Int) + 1) = ((f + 1 : Nat) : Int) by omega]
      rfl
    have hwf : IntKind.i64.wrap ((f : Int) + 1) = (f : Int) + 1 := by rw [IntKind.wrap_i64]; omega
    have hwn : IntKind.i64.wrap (((n + 1 : Nat) : Int) - 1) = (n : Int) := by rw [IntKind.wrap_i64]; omega
    have HF' := Lib.hid hf'
    clear hf'
    go_enter Try.func47, Try.ntmps47
    go_wp2_with fail
    refine HPL.out.mono ?_
    rintro e w1 ⟨rfl, h1, k1⟩
    have HP1 := Lib.hid (HP.out.of (w' := w1) (by rw [h1]))
    have d0 : w1.cell? ⟨b, q, none⟩ = some (.int .i64 x) := by
      obtain ⟨hq, hg⟩ := HG.out
      rw [HP1.out.ring hq, hg]
    obtain ⟨d12, d13, _⟩ := HP1.out.cells
    have HP2 := Lib.hid (HP1.out.setFirst f')
    obtain ⟨_, e13, _⟩ := HP2.out.cells
    have g12 := HP1.out.froz 12
    have g13 := HP2.out.froz 13
    have HP3 := Lib.hid (HP2.out.setCount n)
    have HK1 := Lib.hid k1
    clear h1 k1
    go_wp2_with fail
    go_ret2
    refine ⟨rfl, PW.turn (l' := t) H.out ?_ (show RingAt r f' t from by rw [HF'.out]; exact HX.out.take) (Off.setCell (Off.setCell (Off.of S HK1.out) (.inl hS) _) (.inl hS) _) (by have := HM.out; rw [List.length_cons] at this; omega)⟩
    rw [← HT.out]
    exact HP3.out

set_option maxHeartbeats 8000000 in
theorem pdrop_ok (x : Int) (h : (PW b m l).p S w) :
    Calls Try.prog 48 #[.pointer (some ⟨b, 0, none⟩), .int .i64 x] w fun e w' => e = .returned (.bool (decide (0 ≤ atW x l))) ∧ Turn (PW b m (dropW x l)) S w w' := by
  have HF := Lib.hid (pat_ok x h)
  have H := Lib.hid h
  obtain ⟨r0, f, hp, hr, hS, hlt, hm, hm2⟩ := PW.at_ h
  have hge := atW_ge x l
  clear h
  by_cases hneg : atW x l < 0
  · have hi : atW x l = -1 := by omega
    rw [dropW_not hi, hi]
    rw [hi] at HF
    clear hneg hi hge hp hr
    go_enter Try.func48, Try.ntmps48
    go_wp2_with fail
    refine HF.out.mono ?_
    rintro e w1 ⟨rfl, h1, k1⟩
    have HK1 := Lib.hid k1
    clear h1 k1
    go_wp2_with fail
    go_ret
    exact ⟨rfl, Turn.same H.out HK1.out⟩
  · obtain ⟨i, hi⟩ : ∃ i : Nat, atW x l = i := ⟨(atW x l).toNat, by omega⟩
    have hil := (atW_is hi).1
    have hdl : ((dropW x l).length : Int) ≤ m := by have := dropW_len x l; omega
    have HDL := Lib.hid hdl
    have HD := Lib.hid (dropW_at hi)
    rw [hi] at HF
    rw [hi]
    have hl12 := hr.len
    obtain ⟨d, hd⟩ : ∃ d, l.length = i + d + 1 := ⟨l.length - i - 1, by omega⟩
    obtain ⟨n1, hn1⟩ : ∃ n1, n1 = i + d := ⟨_, rfl⟩
    rw [hd, ← hn1] at hp
    have HP := Lib.hid hp
    have HX : Hid (RingAt r0 f (shiftW i 0 l)) := Lib.hid (by rw [shiftW_zero]; exact hr)
    have hf12 := hr.first
    have HN1 := Lib.hid hn1
    have HLD := Lib.hid hd
    have hn12 : n1 < 12 := by omega
    have hwn : IntKind.i64.wrap (((n1 + 1 : Nat) : Int) - 1) = (n1 : Int) := by rw [IntKind.wrap_i64]; omega
    have hwd : IntKind.i64.wrap ((n1 : Int) - (i : Int)) = (d : Int) := by rw [IntKind.wrap_i64]; omega
    have hid12 : i + d < 12 := by omega
    clear hneg hi hge hp hr hdl hd hn1 hm hil hl12
    go_enter Try.func48, Try.ntmps48
    go_wp2_with fail
    refine HF.out.mono ?_
    rintro e w1 ⟨rfl, h1, k1⟩
    have HP1 := Lib.hid (HP.out.of (w' := w1) (by rw [h1]))
    obtain ⟨_, d13, _⟩ := HP1.out.cells
    have g13 := HP1.out.froz 13
    have HP2 := Lib.hid (HP1.out.setCount n1)
    obtain ⟨_, e13, _⟩ := HP2.out.cells
    have HO2 : Hid (Off S w (w1.setCell ⟨b, 13, none⟩ (.int .i64 n1))) := Lib.hid (Off.setCell (Off.of S k1) (.inl hS) _)
    clear h1 k1
    go_wp2_with fail
    go_loopw [25] (fun j wr => ∃ (k : Nat) (r : List Int), k ≤ d ∧ j = .int .i64 k ∧ Hid (PRow wr b r f n1 m) ∧ Hid (RingAt r f (shiftW i k l)) ∧ Hid (Off S w wr)) (fun j _ => d - (intOf j).toNat)
    case atStart => exact ⟨0, r0, Nat.zero_le _, rfl, HP2, HX, HO2⟩
    case round =>
      obtain ⟨k, r, hk, rfl, hP, hX, hO⟩ := hrel
      by_cases hkd : k < d
      · have hsl := shiftW_len (a := i) (j := k) (l := l) (by have := HLD.out; omega)
        obtain ⟨hq2, hg2⟩ := hX.out.get (i := i + k + 1) (by rw [hsl]; have := HLD.out; omega)
        rw [shiftW_get (by have := HLD.out; omega) (i + k + 1) (by have := HLD.out; omega) (by omega)] at hg2
        have hX' := hX.out.set (i := i + k) (by rw [hsl]; have := HLD.out; omega) (l[i + k + 1]'(by have := HLD.out; omega))
        rw [shiftW_next (by have := HLD.out; omega)] at hX'
        generalize hy : (l[i + k + 1]'(by have := HLD.out; omega)) = y at *
        have HX2 := Lib.hid hX'
        have HG2 := Lib.hid hg2
        have HPL1 : Hid (Calls Try.prog 56 #[.pointer (some ⟨b, 0, none⟩), .int .i64 ((i : Int) + (k : Int))] wr fun e w' => e = .returned (.pointer (some ⟨b, (f + (i + k)) % 12, none⟩)) ∧ w'.heap = wr.heap ∧ Below wr.heap.size wr w') := Lib.hid (place_ok (i + k) hP.out hf12 (by omega))
        have hw1 : IntKind.i64.wrap ((i : Int) + (k : Int)) = (i : Int) + (k : Int) := by rw [IntKind.wrap_i64]; omega
        have hw2 : IntKind.i64.wrap ((i : Int) + (k : Int) + 1) = (i : Int) + (k : Int) + 1 := by rw [IntKind.wrap_i64]; omega
        clear hX' hg2 hy hsl
        go_wp2_with fail
        refine HPL1.out.mono ?_
        rintro e w3 ⟨rfl, h3, k3⟩
        have HP3 := Lib.hid (hP.out.of (w' := w3) (by rw [h3]))
        have HO3 := Lib.hid (hO.out.trans (Off.of S k3) (fun _ h => .inl h))
        have HPL2 : Hid (Calls Try.prog 56 #[.pointer (some ⟨b, 0, none⟩), .int .i64 ((i : Int) + (k : Int) + 1)] w3 fun e w' => e = .returned (.pointer (some ⟨b, (f + (i + k + 1)) % 12, none⟩)) ∧ w'.heap = w3.heap ∧ Below w3.heap.size w3 w') := Lib.hid (place_ok (i + k + 1) HP3.out hf12 (by omega))
        clear h3 k3
        go_wp2_with fail
        refine HPL2.out.mono ?_
        rintro e w4 ⟨rfl, h4, k4⟩
        have HP4 := Lib.hid (HP3.out.of (w' := w4) (by rw [h4]))
        have HO4 := Lib.hid (HO3.out.trans (Off.of S k4) (fun _ h => .inl h))
        have d4 := HP4.out.ring hq2
        rw [HG2.out] at d4
        obtain ⟨q, hqq⟩ : ∃ q, q = (f + (i + k)) % 12 := ⟨_, rfl⟩
        have hq12 : q < 12 := by omega
        rw [← hqq]
        rw [← hqq] at HX2
        have HP5 := Lib.hid (HP4.out.setRing hq12 y)
        have f4 := HP4.out.froz q
        obtain ⟨z4, e4⟩ : ∃ z, w4.cell? ⟨b, q, none⟩ = some (.int .i64 z) := ⟨_, HP4.out.ring (by rw [HP4.out.size]; exact hq12)⟩
        have HO5 : Hid (Off S w (w4.setCell ⟨b, q, none⟩ (.int .i64 y))) := Lib.hid (Off.setCell HO4.out (.inl hS) _)
        clear h4 k4 hqq HG2
        go_wp2_with fail
        go_roundw
        case rel => exact ⟨k + 1, r.set q y, by omega, by go_num, HP5, HX2, HO5⟩
        case measure => simp [intOf]; omega
      · obtain rfl : k = d := by omega
        have HE : Hid ((shiftW i k l).take (i + k) = dropW x l) := Lib.hid (by rw [shiftW_end (by have := HLD.out; omega), HD.out])
        go_wp2_with fail
        go_ret
        refine ⟨rfl, PW.turn H.out ?_ (HE.out ▸ hX.out.cut (i + k)) hO.out HDL.out⟩
        have hL : (dropW x l).length = n1 := by
          rw [← HE.out, List.length_take, shiftW_len (by have := HLD.out; omega)]
          have := HLD.out
          have := HN1.out
          omega
        rw [hL]
        exact hP.out
end

theorem pnew_bad (m : Int) (hm : m < 0 ∨ 12 < m) (w : World) :
    Calls Try.prog 23 #[.int .i64 m] w fun e w' => e = .returned (.tuple #[.pointer none, .int .i64 1]) ∧ w = w' := by
  go_enter Try.func23, Try.ntmps23
  rcases hm with hm | hm
  · go_wp2_with fail
    go_ret2
    exact ⟨rfl, rfl⟩
  · have hm0 : ¬ m < 0 := by omega
    go_wp2_with fail
    go_ret2
    exact ⟨rfl, rfl⟩
theorem pnew_good (m : Int) (h0 : 0 ≤ m) (h1 : m ≤ 12) (w : World) :
    Calls Try.prog 23 #[.int .i64 m] w fun e w' => e = .returned (.tuple #[.pointer (some ⟨w.heap.size, 0, none⟩), .int .i64 0]) ∧ (PW w.heap.size m []).p (fun k => k = w.heap.size) w' ∧ Below w.heap.size w w' := by
  have hm0 : ¬ m < 0 := by omega
  have hm1 : ¬ 12 < m := by omega
  go_enter Try.func23, Try.ntmps23
  go_wp2_with fail
  go_ret2
  exact ⟨rfl, ⟨List.replicate 12 0, 0, ⟨heap_alloc_new w _, rfl⟩, RingAt.nil rfl, rfl, fun k hk => by subst hk; simp, by simpa using h0, h1⟩, kp_new w _⟩
end

/- The project's layer 10: rows of links, a pool: as they lie in memory. -/
section
open Go.RowKit
set_option maxRecDepth 100000

/-- a link: its block, its connection's block, what it holds -/
structure Lr where
  l : Nat
  a : Nat
  h : Hd
instance : Inhabited Lr := ⟨⟨0, 0, default⟩⟩
def Lr.set (r : Lr) (h : Hd) : Lr := ⟨r.l, r.a, h⟩
def Lr.key (r : Lr) : Nat × Nat := (r.l, r.a)
def lkV (r : Lr) : Value := .pointer (some ⟨r.l, 0, none⟩)
def lkS (r : Lr) (k : Nat) : Prop := k = r.l ∨ k = r.a
structure LK (w : World) (r : Lr) : Prop where
  top : w.heap[r.l]? = some (.cells #[.pointer (some ⟨r.a, 0, none⟩), .int .i64 r.h.id, .int .u64 r.h.t] 72 (0, 0))
  c : (CC r.a r.h.ep r.h.c).p (fun k => k = r.a) w
  ne : r.l ≠ r.a
theorem map_set_same {α β : Type} (f : α → β) : ∀ (l : List α) (j : Nat) (x : α) (hj : j < l.length), f x = f l[j] → (l.set j x).map f = l.map f
  | [], _, _, h, _ => by simp at h
  | y :: r, 0, x, _, e => by
    have e' : f x = f y := e
    simp [e']
  | y :: r, j + 1, x, h, e => by
    have := map_set_same f r j x (by simpa using h) e
    simp only [List.set_cons_succ, List.map_cons, this]
def apartK (x y : Nat × Nat) : Prop := x.1 ≠ y.1 ∧ x.1 ≠ y.2 ∧ x.2 ≠ y.1 ∧ x.2 ≠ y.2
/-- a row of links -/
structure LL (w : World) (A : Option Addr) (n c : Nat) (rs : List Lr) : Prop where
  own : w.ownsRow 0 66 1 (.slice A n c) n (rs.map lkV)
  lk : ∀ r ∈ rs, LK w r
  nd : (rs.map Lr.key).Pairwise apartK
  ap : ∀ r ∈ rs, ∀ k, lkS r k → (Value.slice A n c).ownBlock ≠ some k
/-- its blocks -/
def llS (A : Option Addr) (n c : Nat) (rs : List Lr) (k : Nat) : Prop := (Value.slice A n c).ownBlock = some k ∨ ∃ r ∈ rs, lkS r k
section
variable {w w' : World} {A : Option Addr} {n c : Nat} {rs : List Lr} {r : Lr}
theorem LK.lt (h : LK w r) : ∀ k, lkS r k → k < w.heap.size := by
  rintro k (rfl | rfl)
  · exact (Array.getElem?_eq_some_iff.1 h.top).1
  · exact (CC r.a r.h.ep r.h.c).lt h.c _ rfl
theorem LK.keep (h : LK w r) (hk : ∀ k, lkS r k → w'.heap[k]? = w.heap[k]?) (hz : w.heap.size ≤ w'.heap.size) : LK w' r :=
  ⟨(hk _ (.inl rfl)).trans h.top, (CC r.a r.h.ep r.h.c).keep h.c (fun k e => hk k (.inr e)) hz, h.ne⟩
theorem LK.next (h : LK w r) (hb : Below w.heap.size w w') : LK w' r := h.keep (fun k hk => hb.block k (h.lt k hk)) hb.size
theorem LK.cells (h : LK w r) : (w.cell? ⟨r.l, 0, none⟩ = some (.pointer (some ⟨r.a, 0, none⟩)) ∧ w.cell? ⟨r.l, 1, none⟩ = some (.int .i64 r.h.id) ∧ w.cell? ⟨r.l, 2, none⟩ = some (.int .u64 r.h.t)) ∧ w.frozen? ⟨r.l, 2, none⟩ = false :=
  ⟨⟨(cellsAt h.top 0 rfl).1, (cellsAt h.top 1 rfl).1, (cellsAt h.top 2 rfl).1⟩, (cellsAt h.top 2 rfl).2⟩
/-- its connection turned -/
theorem LK.turn (h : LK w r) {c' : Cn} (ht : Turn (CC r.a r.h.ep c') (fun k => k = r.a) w w') : LK w' (r.set (r.h.set c')) := by
  obtain ⟨⟨S', p', _⟩, ho⟩ := ht
  refine ⟨(ho.block _ (h.lt _ (.inl rfl)) h.ne).trans h.top, ?_, h.ne⟩
  obtain ⟨z, h1, h2, h3, h4⟩ := CC.at_ p'
  exact ⟨z, h1, rfl, fun k e => e ▸ h3 _ h2, h4⟩
theorem LK.set_same (r : Lr) : r.set r.h = r := rfl
theorem LL.len (h : LL w A n c rs) : rs.length = n := by
  have := h.own.1
  rw [List.length_map] at this
  omega
theorem LL.nil (w : World) : LL w none 0 0 [] := ⟨World.ownsRow_nil _ _ _ _, (fun _ h => by cases h), List.Pairwise.nil, (fun _ h => by cases h)⟩
theorem LL.keep (h : LL w A n c rs) (hk : ∀ k, llS A n c rs k → w'.heap[k]? = w.heap[k]?) (hz : w.heap.size ≤ w'.heap.size) : LL w' A n c rs :=
  ⟨own_keep h.own fun g e => hk g (.inl e), fun r hr => (h.lk r hr).keep (fun k e => hk k (.inr ⟨r, hr, e⟩)) hz, h.nd, h.ap⟩
theorem LL.lt (h : LL w A n c rs) : ∀ k, llS A n c rs k → k < w.heap.size := by
  rintro k (hk | ⟨r, hr, hk⟩)
  · exact (h.own.lt k hk).2
  · exact (h.lk r hr).lt k hk
theorem LL.next (h : LL w A n c rs) (hb : Below w.heap.size w w') : LL w' A n c rs := h.keep (fun k hk => hb.block k (h.lt k hk)) hb.size
theorem LL.cap (h : LL w A n c rs) : n ≤ c := by
  obtain ⟨A', c', h1, h2, _⟩ := own_form_s h.own
  simp only [Value.slice.injEq] at h1
  obtain ⟨_, _, rfl⟩ := h1
  exact h2
theorem LL.apart (h : LL w A n c rs) {i j : Nat} (hi : i < rs.length) (hj : j < rs.length) (hij : i ≠ j) : ∀ k, lkS rs[i] k → ¬ lkS rs[j] k := by
  have key : ∀ i j (hi : i < rs.length) (hj : j < rs.length), i < j → apartK rs[i].key rs[j].key := fun i j hi hj hij => by
    have := List.pairwise_iff_getElem.1 h.nd i j (by simpa using hi) (by simpa using hj) hij
    simpa using this
  intro k h1 h2
  rcases Nat.lt_or_gt_of_ne hij with hlt | hlt
  · obtain ⟨q1, q2, q3, q4⟩ := key i j hi hj hlt
    rcases h1 with rfl | rfl <;> rcases h2 with e | e
    · exact q1 e
    · exact q2 e
    · exact q3 e
    · exact q4 e
  · obtain ⟨q1, q2, q3, q4⟩ := key j i hj hi hlt
    rcases h1 with rfl | rfl <;> rcases h2 with e | e
    · exact q1 e.symm
    · exact q3 e.symm
    · exact q2 e.symm
    · exact q4 e.symm
/-- one at a place -/
theorem LL.at_ (h : LL w A n c rs) {j : Nat} (hj : j < rs.length) : ∃ g : Nat, A = some ⟨g, 0, none⟩ ∧ g < w.heap.size ∧ (∃ cur, w.heap[g]? = some (.cells cur 66 (0, 0))) ∧ w.cell? ⟨g, j, none⟩ = some (lkV rs[j]) ∧ w.frozen? ⟨g, j, none⟩ = false := by
  have hh := h.own
  have hl := h.len
  rcases h.own.2 with ⟨_, h2⟩ | ⟨g, cap, cur, h1, _, hg, _⟩
  · have h3 : (Value.slice A n c) = .slice none 0 0 ∨ n = 0 := by first | exact .inr h2 | exact .inl (by assumption)
    rcases h3 with h3 | h3
    · simp only [Value.slice.injEq] at h3
      omega
    · omega
  · injection h1 with h1 _ _
    subst h1
    have := hh.cells (g := g) rfl j (lkV rs[j]) (by simp [hj])
    have ha : (⟨g, 0, none⟩ : Addr).add j = ⟨g, j, none⟩ := by unfold Addr.add; split <;> simp_all
    rw [ha] at this
    exact ⟨g, rfl, (Array.getElem?_eq_some_iff.1 hg).1, ⟨cur, hg⟩, this, frozen_of_row w g _ cur _ hg⟩
theorem key_set {j : Nat} (hj : j < rs.length) (h' : Hd) : (rs.set j (rs[j].set h')).map Lr.key = rs.map Lr.key := map_set_same _ _ _ _ hj rfl
theorem lkV_set {j : Nat} (hj : j < rs.length) (h' : Hd) : (rs.set j (rs[j].set h')).map lkV = rs.map lkV := map_set_same _ _ _ _ hj rfl
theorem llS_set {j : Nat} (hj : j < rs.length) (h' : Hd) (k : Nat) : llS A n c (rs.set j (rs[j].set h')) k ↔ llS A n c rs k := by
  constructor
  · rintro (hk | ⟨r, hr, hk⟩)
    · exact .inl hk
    · rcases List.mem_or_eq_of_mem_set hr with hr | rfl
      · exact .inr ⟨r, hr, hk⟩
      · exact .inr ⟨rs[j], List.getElem_mem hj, hk⟩
  · rintro (hk | ⟨r, hr, hk⟩)
    · exact .inl hk
    · obtain ⟨i, hi, rfl⟩ := List.mem_iff_getElem.1 hr
      by_cases hij : j = i
      · subst hij
        exact .inr ⟨_, List.mem_set hj _, hk⟩
      · refine .inr ⟨rs[i], ?_, hk⟩
        have := List.getElem_mem (l := rs.set j (rs[j].set h')) (n := i) (by simpa using hi)
        rwa [List.getElem_set_ne hij] at this
/-- one turned -/
theorem LL.turn (h : LL w A n c rs) {j : Nat} (hj : j < rs.length) {h' : Hd} (hl : LK w' (rs[j].set h')) (hk : ∀ k, llS A n c rs k → ¬ lkS rs[j] k → w'.heap[k]? = w.heap[k]?) (hz : w.heap.size ≤ w'.heap.size) : LL w' A n c (rs.set j (rs[j].set h')) := by
  have hmem : rs[j] ∈ rs := List.getElem_mem hj
  refine ⟨?_, ?_, by rw [key_set hj]; exact h.nd, ?_⟩
  · rw [lkV_set hj]
    exact own_keep h.own fun g hg => hk g (.inl hg) fun e => h.ap _ hmem g e hg
  · intro r hr
    obtain ⟨i, hi, rfl⟩ := List.mem_iff_getElem.1 hr
    have hi' : i < rs.length := by simpa using hi
    by_cases hij : j = i
    · subst hij
      rw [List.getElem_set_self]
      exact hl
    · rw [List.getElem_set_ne hij]
      exact (h.lk _ (List.getElem_mem hi')).keep (fun k e => hk k (.inr ⟨_, List.getElem_mem hi', e⟩) (h.apart hi' hj (fun e => hij e.symm) k e)) hz
  · intro r hr
    rcases List.mem_or_eq_of_mem_set hr with hr | rfl
    · exact h.ap r hr
    · exact h.ap rs[j] hmem
end
/-- a pool of the project's, as it lies -/
structure PPm (b : Nat) (mo idl m : Int) (p : Pl) (rs : List Lr) (A : Option Addr) (n c rb : Nat) (SR : Nat → Prop) (S : Nat → Prop) (w : World) : Prop where
  top : w.heap[b]? = some (.cells #[.slice A n c, .int .i64 p.last, .int .i64 mo, .int .u64 idl, .pointer (some ⟨rb, 0, none⟩)] 61 (0, 0))
  l : rs.map Lr.h = p.l
  hl : LL w A n c rs
  row : (PW rb m p.row).p SR w
  sb : S b
  sr : ∀ k, SR k → S k
  sl : ∀ k, llS A n c rs k → S k
  lt : ∀ k, S k → k < w.heap.size
  ar : ∀ k, SR k → k ≠ b ∧ ¬ llS A n c rs k
  al : ¬ llS A n c rs b
  few : (p.l.length : Int) ≤ mo ∧ mo ≤ 6
def PPp (b : Nat) (mo idl m : Int) (p : Pl) (S : Nat → Prop) (w : World) : Prop := ∃ rs A n c rb SR, PPm b mo idl m p rs A n c rb SR S w
theorem PPm.keep {b : Nat} {mo idl m : Int} {p : Pl} {rs : List Lr} {A : Option Addr} {n c rb : Nat} {SR S : Nat → Prop} {w w' : World} (h : PPm b mo idl m p rs A n c rb SR S w) (hk : ∀ k, S k → w'.heap[k]? = w.heap[k]?) (hz : w.heap.size ≤ w'.heap.size) : PPm b mo idl m p rs A n c rb SR S w' :=
  ⟨(hk b h.sb).trans h.top, h.l, h.hl.keep (fun k e => hk k (h.sl k e)) hz, (PW rb m p.row).keep h.row (fun k e => hk k (h.sr k e)) hz, h.sb, h.sr, h.sl, fun k e => Nat.lt_of_lt_of_le (h.lt k e) hz, h.ar, h.al, h.few⟩
def PP (b : Nat) (mo idl m : Int) (p : Pl) : Thing where
  p := PPp b mo idl m p
  keep := fun ⟨rs, A, n, c, rb, SR, h⟩ hk hz => ⟨rs, A, n, c, rb, SR, h.keep hk hz⟩
  lt := fun ⟨_, _, _, _, _, _, h⟩ => h.lt
section
variable {b : Nat} {mo idl m : Int} {p : Pl} {S : Nat → Prop} {w : World}
theorem PP.at_ (h : (PP b mo idl m p).p S w) : ∃ rs A n c rb SR, PPm b mo idl m p rs A n c rb SR S w := h
theorem ppcells {rb n c : Nat} {A : Option Addr} {la : Int} (h : w.heap[b]? = some (.cells #[.slice A n c, .int .i64 la, .int .i64 mo, .int .u64 idl, .pointer (some ⟨rb, 0, none⟩)] 61 (0, 0))) :
    (w.cell? ⟨b, 0, none⟩ = some (.slice A n c) ∧ w.cell? ⟨b, 1, none⟩ = some (.int .i64 la) ∧ w.cell? ⟨b, 2, none⟩ = some (.int .i64 mo) ∧ w.cell? ⟨b, 3, none⟩ = some (.int .u64 idl) ∧ w.cell? ⟨b, 4, none⟩ = some (.pointer (some ⟨rb, 0, none⟩))) ∧ w.frozen? ⟨b, 0, none⟩ = false ∧ w.frozen? ⟨b, 1, none⟩ = false :=
  ⟨⟨(cellsAt h 0 rfl).1, (cellsAt h 1 rfl).1, (cellsAt h 2 rfl).1, (cellsAt h 3 rfl).1, (cellsAt h 4 rfl).1⟩, (cellsAt h 0 rfl).2, (cellsAt h 1 rfl).2⟩
theorem PPm.len {rs : List Lr} {A : Option Addr} {n c rb : Nat} {SR : Nat → Prop} (h : PPm b mo idl m p rs A n c rb SR S w) : rs.length = n ∧ p.l.length = n ∧ n ≤ 6 := by
  have h1 := h.hl.len
  have h2 : p.l.length = rs.length := by rw [← h.l, List.length_map]
  have := h.few
  exact ⟨h1, h2.trans h1, by omega⟩
theorem PPm.at_ {rs : List Lr} {A : Option Addr} {n c rb : Nat} {SR : Nat → Prop} (h : PPm b mo idl m p rs A n c rb SR S w) {i : Nat} (hj : i < rs.length) (hi : i < p.l.length) : rs[i].h = p.l[i] := by
  have h1 : (rs.map Lr.h)[i]'(by simpa using hj) = p.l[i] := by simp only [h.l]
  simpa using h1
end
end

/- A range over the pool's own iterator: its contract, and the law of the loop over it. -/
section
open Go.RowKit
set_option maxRecDepth 100000
theorem wide_depth : Fence.wide.depth = none := rfl
theorem wide_fn (f : FuncId) : Fence.wide.fn f = True := rfl
attribute [local go_sem] Oper.semAt_some wide_depth wide_fn

set_option maxHeartbeats 4000000 in
/-- the iterator: each link is handed over, by its place -/
theorem pall_in (m l b n c : Nat) (A : Option Addr) (rs : List Lr) (hl : rs.length = n) (hn : n ≤ 6) (J : Nat → World → Prop) (Jx : World → Prop)
    (hY : ∀ k (hk : k < rs.length) W, J k W → YieldAt Fence.wide (m - 1) Try.prog l #[lkV rs[k]] W fun e W' => (e = .returned (.bool true) ∧ J (k + 1) W') ∨ (e = .returned (.bool false) ∧ Jx W'))
    (hat : ∀ k (hk : k < rs.length) W, J k W → ∃ g, A = some ⟨g, 0, none⟩ ∧ W.cell? ⟨g, k, none⟩ = some (lkV rs[k]))
    (W : World) (hc : W.cell? ⟨b, 0, none⟩ = some (.slice A n c)) (h0 : J 0 W) :
    CallsIn Fence.wide m Try.prog 27 #[.pointer (some ⟨b, 0, none⟩), .func (.yield l) #[] #[]] W fun e W' => (∃ v, e = .returned v) ∧ (J n W' ∨ Jx W') := by
  have HL := Lib.hid hl
  have HY := Lib.hid hY
  have HA := Lib.hid hat
  clear hl hY hat
  refine callsIn_of_wp Try.func27 rfl trivial ?_ rfl
  simp only [Try.ntmps27, List.size_toArray, List.length_cons, List.length_nil, Nat.reduceAdd, Nat.reduceSub, Array.replicate_succ, Array.replicate_zero, List.push_toArray, List.append_toArray, List.nil_append, List.cons_append]
  gi_wp2
  gi_loopw [11] (fun i wr => ∃ k : Nat, k ≤ n ∧ i = .int .i64 k ∧ J k wr) (fun i _ => n - (intOf i).toNat)
  case atStart => exact ⟨0, Nat.zero_le _, rfl, h0⟩
  case round =>
    obtain ⟨k, hk, rfl, hj⟩ := hrel
    by_cases hlt : k < n
    · have hkl : k < rs.length := by rw [HL.out]; exact hlt
      obtain ⟨g, rfl, hg⟩ := HA.out k hkl wr hj
      obtain ⟨fn, tmps, assign, body, hy, hR⟩ := HY.out k hkl wr hj
      unfold lkV at hg hy
      generalize rs[k].l = la at *
      gi_wp2
      refine hR.mono ?_
      rintro e W3 (⟨rfl, hJ3⟩ | ⟨rfl, hJx3⟩)
      · gi_wp2
        go_roundw
        case rel => exact ⟨k + 1, by omega, by go_num, hJ3⟩
        case measure => simp [intOf]; omega
      · gi_wp2
        refine bodyPost_ret (results_none rfl _ _ _) rfl ?_
        exact ⟨⟨_, rfl⟩, .inr hJx3⟩
    · obtain rfl : k = n := by omega
      gi_wp2
      go_end0
      exact ⟨⟨_, rfl⟩, .inl hj⟩

/-- the two blocks of a loop's book-keeping -/
def bkS (B k : Nat) : Prop := k = B ∨ k = B + 1
/-- how the body of a round may be left -/
def rpost (B : Nat) (I : Nat → World → Prop) (Ix : World → Prop) (k : Nat) (W : World) : Exit → Act → World → Prop
  | .normal, _, W' => I (k + 1) W' ∧ ∀ j, bkS B j → W'.heap[j]? = W.heap[j]?
  | .ret, _, W' => Ix W' ∧ ∀ j, bkS B j → W'.heap[j]? = W.heap[j]?
  | _, _, _ => False
theorem off_putObj {B l : Nat} (w : World) (o : Obj) (hl : bkS B l) : Off (bkS B) w (w.putObj l o) :=
  ⟨rfl, rfl, rfl, by simp, fun k _ hn => World.putObj_heap_other fun e => hn (e ▸ hl)⟩

set_option maxHeartbeats 2000000 in
/-- the loop over it: between two rounds I, told how many are over; a round that returns leaves Ix -/
theorem wpIn_rangeAll {m b n c : Nat} {A : Option Addr} {rs : List Lr} {g : Operand} {t : Tmp} {assign body : Code} {Q : Exit → Act → World → Prop} {a : Act} {w : World}
    (hg : a.eval g = .func (.func 27) #[.pointer (some ⟨b, 0, none⟩)] #[])
    (hl : rs.length = n) (hn : n ≤ 6) (hc : w.cell? ⟨b, 0, none⟩ = some (.slice A n c))
    (I : Nat → World → Prop) (Ix : World → Prop)
    (stI : ∀ k W W', I k W → Off (bkS w.heap.size) W W' → I k W') (stX : ∀ W W', Ix W → Off (bkS w.heap.size) W W' → Ix W')
    (hat : ∀ k (hk : k < rs.length) W, I k W → ∃ g, A = some ⟨g, 0, none⟩ ∧ W.cell? ⟨g, k, none⟩ = some (lkV rs[k]))
    (h0 : I 0 w) (a₁ : Lr → Act)
    (hassign : ∀ (l : Nat) (r : Lr) (W : World) (K : Act → World → Prop), K (a₁ r) W →
      assign.wpIn (Fence.wide.inRound l) (m - 1 - 1) Try.prog (Exit.then K (fun _ _ _ => False)) { tmps := a.tmps.setIfInBounds t (lkV r), defers := [] } W)
    (hbody : ∀ (l k : Nat) (hk : k < rs.length) (W : World), I k W → w.heap.size + 2 ≤ W.heap.size → body.wpIn (Fence.wide.inRound l) (m - 1 - 1) Try.prog (rpost w.heap.size I Ix k W) (a₁ rs[k]) W)
    (hdone : ∀ W : World, I n W → W.heap[w.heap.size]? = some (.deferred (some [])) → Q .normal { a with defers := { target := .collected w.heap.size, args := #[] } :: a.defers } W)
    (hstop : ∀ W : World, Ix W → W.heap[w.heap.size]? = some (.deferred (some [])) → Code.ret.wpIn Fence.wide m Try.prog Q { a with defers := { target := .collected w.heap.size, args := #[] } :: a.defers } W) :
    (Code.rangeFunc g #[t] assign body).wpIn Fence.wide m Try.prog Q a w := by
  refine wpIn_rangeFunc ?_
  intro fn _
  -- the loop's record, in each of its states
  let rec0 : LoopState → Option Code → Loop := fun st pe => { state := st, pending := pe, fn, tmps := a.tmps, params := #[t], assign, body, defers := w.heap.size }
  let D := w.heap.size
  let W1 := (w.alloc (.deferred (some []))).alloc (.loop (rec0 .ready none))
  have hz1 : W1.heap.size = D + 2 := by simp [W1, D]
  have hL1 : W1.heap[D + 1]? = some (.loop (rec0 .ready none)) := by
    have := World.alloc_heap_new (w.alloc (.deferred (some []))) (.loop (rec0 .ready none))
    rwa [World.size_alloc] at this
  have hD1 : W1.heap[D]? = some (.deferred (some [])) := (Below.heap_alloc _ _ _ (by simp [D])).trans (World.alloc_heap_new w _)
  have hB1 : Below w.heap.size w W1 := kp_alloc (kp_new w _) _
  have hI1 : I 0 W1 := stI 0 w W1 h0 (Off.of _ hB1)
  have hc1 : W1.cell? ⟨b, 0, none⟩ = some (.slice A n c) := (hB1.cell (World.block_lt_of_cell? w _ hc)).trans hc
  refine ⟨D + 1, [{ target := .collected D, args := #[] }], W1, { target := .fn (.func 27) #[], args := #[.pointer (some ⟨b, 0, none⟩), .func (.yield (D + 1)) #[] #[]] }, W1, 27,
    #[.pointer (some ⟨b, 0, none⟩), .func (.yield (D + 1)) #[] #[]], W1, run_enterLoop_outer _ _ _ _ _, ?_, fun _ _ => trivial, ?_, (fun h => by cases h), ?_⟩
  · simp only [resolve, hg]
    simp [go_sem]
  · simp [invoke, go_sem]
  · refine (pall_in (m - 1) (D + 1) b n c A rs hl hn (fun k W => I k W ∧ W.heap[D + 1]? = some (.loop (rec0 .ready none)) ∧ W.heap[D]? = some (.deferred (some [])) ∧ D + 2 ≤ W.heap.size)
      (fun W => Ix W ∧ W.heap[D + 1]? = some (.loop (rec0 .done (some .ret))) ∧ W.heap[D]? = some (.deferred (some []))) ?_ (fun k hk W h => hat k hk W h.1) W1 hc1 ⟨hI1, hL1, hD1, by omega⟩).mono ?_
    · rintro k hk W ⟨hi, hr, hd, hz⟩
      have hlt : D + 1 < W.heap.size := by omega
      have hy : (Instr.yield (D + 1) #[lkV rs[k]]).run Try.prog W = .ok (.round (D + 1) fn (a.tmps.setIfInBounds t (lkV rs[k])) assign body) W := by
        have h1 := run_yield (P := Try.prog) (args := #[lkV rs[k]]) hr rfl
        simpa [rec0] using h1
      refine ⟨fn, _, assign, body, hy, roundIn_of_wpIn trivial (hassign (D + 1) rs[k] W _ ?_)⟩
      refine ⟨_, run_beginRound hr rfl, ?_⟩
      have hr2 := World.putObj_heap_same (w := W) (o := .loop { rec0 .ready none with state := .busy }) hlt
      have hd2 : (W.putObj (D + 1) (.loop { rec0 .ready none with state := .busy })).heap[D]? = some (.deferred (some [])) := (World.putObj_heap_other (by omega)).trans hd
      refine wpIn_mono (hbody _ k hk _ (stI k _ _ hi (off_putObj W _ (.inr rfl))) (by rw [World.putObj_size]; exact hz)) ?_
      rintro e a3 W3 hp
      have key : ∀ jump, (∀ j, bkS D j → W3.heap[j]? = (W.putObj (D + 1) (.loop { rec0 .ready none with state := .busy })).heap[j]?) →
          (Instr.endRound (D + 1) jump).run Try.prog W3 = .ok (.bool jump.isNone) (W3.putObj (D + 1) (.loop (rec0 (if jump.isNone then .ready else .done) jump))) ∧
          (W3.putObj (D + 1) (.loop (rec0 (if jump.isNone then .ready else .done) jump))).heap[D + 1]? = some (.loop (rec0 (if jump.isNone then .ready else .done) jump)) ∧
          (W3.putObj (D + 1) (.loop (rec0 (if jump.isNone then .ready else .done) jump))).heap[D]? = some (.deferred (some [])) ∧ D + 2 ≤ W3.heap.size := fun jump hj => by
        have h3 := (hj (D + 1) (.inr rfl)).trans hr2
        have h4 := (hj D (.inl rfl)).trans hd2
        have h5 := (Array.getElem?_eq_some_iff.1 h3).1
        exact ⟨run_endRound jump h3, World.putObj_heap_same h5, (World.putObj_heap_other (by omega)).trans h4, by omega⟩
      cases e with
      | normal =>
        obtain ⟨hi3, hj⟩ := hp
        obtain ⟨k1, k2, k3, k4⟩ := key none hj
        exact ⟨_, _, k1, .inl ⟨rfl, stI _ _ _ hi3 (off_putObj W3 _ (.inr rfl)), k2, k3, by simpa using k4⟩⟩
      | ret =>
        obtain ⟨hi3, hj⟩ := hp
        obtain ⟨k1, k2, k3, k4⟩ := key (some .ret) hj
        exact ⟨_, _, k1, .inr ⟨rfl, stX _ _ hi3 (off_putObj W3 _ (.inr rfl)), k2, k3⟩⟩
      | exit id => exact hp.elim
      | goto t => exact hp.elim
      | panic ch => exact hp.elim
      | outgrown => exact hp.elim
    · rintro e W2 ⟨⟨v, rfl⟩, (⟨hi, hr, hd, _⟩ | ⟨hi, hr, hd⟩)⟩
      · exact ⟨none, _, run_endLoop hr (by simp [rec0]), hdone _ (stI _ _ _ hi (off_putObj W2 _ (.inr rfl))) ((World.putObj_heap_other (by simp [D])).trans hd)⟩
      · exact ⟨some .ret, _, run_endLoop hr (by simp [rec0]), hstop _ (stX _ _ hi (off_putObj W2 _ (.inr rfl))) ((World.putObj_heap_other (by simp [D])).trans hd)⟩
end

/- The document's layer 9: a connection in memory: contracts. -/
section
open Go.RowKit
set_option maxRecDepth 100000

/-- a connection of the document's, as it lies -/
def rcells (ep s o f : Int) (d : Bool) (n : Int) : Array Value := #[.int .u64 ep, .int .i64 s, .int .i64 o, .int .u64 f, .bool d, .int .i64 n]
section
variable {b : Nat} {ep : Int} {c : Cn} {S : Nat → Prop} {w : World}
theorem rset {cs cs' : Array Value} {t : TypeId} (hb : w.heap[b]? = some (.cells cs t (0, 0))) (i : Nat) (v : Value) (hc : cs.setIfInBounds i v = cs') : (w.setCell ⟨b, i, none⟩ v).heap[b]? = some (.cells cs' t (0, 0)) := by
  rw [← hc]
  exact heap_setCell_same w b i _ _ _ hb
theorem Off.setr {S : Nat → Prop} {w w' : World} {b : Nat} (h : Off S w w') (hb : S b) (i : Nat) (u : Value) : Off S w (w'.setCell ⟨b, i, none⟩ u) := h.setCell (p := ⟨b, i, none⟩) (.inl hb) u
end
end

/- An act on a connection, the project's and the document's: contracts. -/
section
open Go.RowKit
set_option maxRecDepth 100000

theorem results_cell1 {fn : Func} {p : Tmp} {ty : TypeId} (h : fn.results = #[.cell p ty]) (tmps : Array Value) (P : Program) (w : World) :
    (results fn tmps).run P w = ((asAddr (tmps.getD p undef)).run P w).andThen fun a w₁ => (loadVar ty a).run P w₁ := by
  simp only [results, h]
  simp [Sem.run_bind, Result.andThen]
def toldV (r : Told3) : Value := .agg #[.bool r.i, .int .i64 r.e, .int .u64 r.n]
/-- three blocks that a call made, behind a call of its own that wrote none of them -/
theorem loc3 {Y : Thing} {S : Nat → Prop} {o1 o2 o3 : Obj} {w w4 : World} (ht : Turn Y S (((w.alloc o1).alloc o2).alloc o3) w4) (hS : ∀ k, S k → k < w.heap.size) :
    w4.heap[w.heap.size]? = some o1 ∧ w4.heap[w.heap.size + 1]? = some o2 ∧ w4.heap[w.heap.size + 1 + 1]? = some o3 := by
  have h := ht.off.block
  have hz : (((w.alloc o1).alloc o2).alloc o3).heap.size = w.heap.size + 3 := by simp
  have z1 : (w.alloc o1).heap.size = w.heap.size + 1 := by simp
  have z2 : ((w.alloc o1).alloc o2).heap.size = w.heap.size + 1 + 1 := by simp
  refine ⟨?_, ?_, ?_⟩
  · rw [h _ (by omega) (fun e => by have := hS _ e; omega), heap_alloc_old _ _ (by omega), heap_alloc_old _ _ (by omega)]
    exact heap_alloc_new w o1
  · rw [h _ (by omega) (fun e => by have := hS _ e; omega), heap_alloc_old _ _ (by omega), ← z1]
    exact heap_alloc_new _ o2
  · rw [h _ (by omega) (fun e => by have := hS _ e; omega), ← z2]
    exact heap_alloc_new _ o3
theorem turn3 {X Y : Thing} {S : Nat → Prop} {o1 o2 o3 : Obj} {w w4 w5 : World} (h : X.p S w) (ht : Turn Y S (((w.alloc o1).alloc o2).alloc o3) w4) (ho : Off (fun k => w.heap.size ≤ k ∧ k < w.heap.size + 3) w4 w5) : Turn Y S w w5 := by
  obtain ⟨⟨S', p, q⟩, o⟩ := ht
  have hz : (((w.alloc o1).alloc o2).alloc o3).heap.size = w.heap.size + 3 := by simp
  have hS := X.lt h
  have hn : ∀ k, S' k → ¬ (w.heap.size ≤ k ∧ k < w.heap.size + 3) := fun k hk => by
    rcases q k hk with e | e
    · have := hS k e; omega
    · omega
  refine ⟨⟨S', Thing.off p ho hn, fun k hk => (q k hk).imp id fun e => by omega⟩, ?_⟩
  have k3 := kp_alloc (kp_alloc (kp_alloc (Below.refl _ w) o1) o2) o3
  have hz2 := o.size
  exact ⟨(ho.os.trans o.os).trans k3.os, (ho.tape.trans o.tape).trans k3.tape, (ho.output.trans o.output).trans k3.output, by have := ho.size; omega, fun k hk hns => by
    rw [ho.block k (by omega) (by omega), o.block k (by omega) hns]
    exact k3.block k hk⟩
section
variable {b : Nat} {ep : Int} {c : Cn} {S : Nat → Prop} {w : World}
end
end

/- A link of the project's pool: what tells how it is, what is done with one: contracts. -/
section
open Go.RowKit
set_option maxRecDepth 100000

section
variable {r : Lr} {w W : World}
theorem LK.drew (h : LK w r) : LK w.drew r := ⟨h.top, (CC r.a r.h.ep r.h.c).drew h.c, h.ne⟩
/-- its connection turned, and nothing else -/
theorem LK.offs (h : LK w r) {c' : Cn} {w' : World} (ht : Turn (CC r.a r.h.ep c') (fun k => k = r.a) w w') : LK w' (r.set (r.h.set c')) ∧ Off (lkS r) w w' := ⟨h.turn ht, ht.off.wide fun _ e => .inr e⟩
theorem isIdle_ok (h : LK w r) : Calls Try.prog 38 #[lkV r] w fun e w' => e = .returned (.bool r.h.idle) ∧ w = w' := by
  obtain ⟨⟨c0, _, _⟩, _⟩ := h.cells
  have HS := Lib.hid (cstate_ok h.c)
  unfold Hd.idle
  unfold lkV
  clear h
  generalize r.h.c.s = s at *
  generalize r.a = a at *
  generalize r.l = l at *
  go_enter Try.func38, Try.ntmps38
  go_wp2_with fail
  refine HS.out.mono ?_
  rintro e w1 ⟨rfl, rfl⟩
  go_wp2_with fail
  go_ret
  exact ⟨rfl, rfl⟩
theorem isClosed_ok (h : LK w r) : Calls Try.prog 58 #[lkV r] w fun e w' => e = .returned (.bool (!r.h.live)) ∧ w = w' := by
  obtain ⟨⟨c0, _, _⟩, _⟩ := h.cells
  have HS := Lib.hid (cstate_ok h.c)
  have hv : (!r.h.live) = (r.h.c.s == 4) := by simp [Hd.live, bne]
  rw [hv]
  unfold lkV
  clear h hv
  generalize r.h.c.s = s at *
  generalize r.a = a at *
  generalize r.l = l at *
  go_enter Try.func58, Try.ntmps58
  go_wp2_with fail
  refine HS.out.mono ?_
  rintro e w1 ⟨rfl, rfl⟩
  go_wp2_with fail
  go_ret
  exact ⟨rfl, rfl⟩
/-- one given back: since now -/
def giveH (now : Int) (h : Hd) : Hd := if h.c.releaseA then { h with c := h.c.releaseC, t := now } else h
theorem giveBack_ok (now : Int) (h : LK w r) : Calls Try.prog 46 #[lkV r, .int .u64 now] w fun e w' => e = .returned (.bool r.h.c.releaseA) ∧ LK w' (r.set (giveH now r.h)) ∧ Off (lkS r) w w' := by
  obtain ⟨l, a, hd⟩ := r
  have c0 : w.cell? ⟨l, 0, none⟩ = some (.pointer (some ⟨a, 0, none⟩)) := h.cells.1.1
  have HC : Hid (Calls Try.prog 73 #[.pointer (some ⟨a, 0, none⟩)] w fun e w' => e = .returned (.bool hd.c.releaseA) ∧ Turn (CC a hd.ep hd.c.releaseC) (fun k => k = a) w w') := Lib.hid (crelease_ok h.c)
  unfold lkV giveH
  dsimp only
  cases hv : hd.c.releaseA with
  | false =>
    rw [hv] at HC
    have he : hd.c.releaseC = hd.c := by
      revert hv
      cases hd.c with
      | lent o f d n =>
        simp only [Cn.releaseA, Cn.releaseC, decide_eq_false_iff_not]
        intro h0
        rw [if_neg h0]
      | idle d n | drains o f d n | closed d n => intro _; rfl
    rw [he] at HC
    have HR : Hid (∀ w', Turn (CC a hd.ep hd.c) (fun k => k = a) w w' → LK w' (Lr.set ⟨l, a, hd⟩ hd) ∧ Off (lkS ⟨l, a, hd⟩) w w') := Lib.hid fun w' ht => h.offs ht
    clear h hv he
    rw [if_neg (by simp)]
    go_enter Try.func46, Try.ntmps46
    go_wp2_with fail
    refine HC.out.mono ?_
    rintro e w1 ⟨rfl, ht⟩
    have HQ := Lib.hid (HR.out w1 ht)
    clear ht
    go_wp2_with fail
    go_ret
    exact ⟨rfl, HQ.out⟩
  | true =>
    rw [hv] at HC
    have HR : Hid (∀ w', Turn (CC a hd.ep hd.c.releaseC) (fun k => k = a) w w' → w'.cell? ⟨l, 2, none⟩ = some (.int .u64 hd.t) ∧ w'.frozen? ⟨l, 2, none⟩ = false ∧ LK (w'.setCell ⟨l, 2, none⟩ (.int .u64 now)) (Lr.set ⟨l, a, hd⟩ { hd with c := hd.c.releaseC, t := now }) ∧ Off (lkS ⟨l, a, hd⟩) w (w'.setCell ⟨l, 2, none⟩ (.int .u64 now))) := Lib.hid fun w' ht => by
      obtain ⟨h1, h2⟩ := h.offs ht
      refine ⟨h1.cells.1.2.2, h1.cells.2, ⟨cset h1.top 2 _ rfl, ?_, h.ne⟩, h2.setCell (.inl (.inl rfl)) _⟩
      exact (CC _ _ _).keep h1.c (fun k hk => Below.heap_setCell _ _ _ _ fun e => h.ne (by subst e; exact hk)) (by simp [World.setCell])
    clear h hv
    rw [if_pos rfl]
    generalize hd.t = t0 at *
    go_enter Try.func46, Try.ntmps46
    go_wp2_with fail
    refine HC.out.mono ?_
    rintro e w1 ⟨rfl, ht⟩
    obtain ⟨q1, q2, q3, q4⟩ := HR.out w1 ht
    have HQ := Lib.hid (And.intro q3 q4)
    clear ht HR q3 q4
    go_wp2_with fail
    go_ret
    exact ⟨rfl, HQ.out⟩
theorem info_ok (h : LK w r) : Calls Try.prog 28 #[lkV r] w fun e w' => e = .returned (.agg #[.int .i64 r.h.id, .int .i64 r.h.c.s, .int .i64 r.h.c.o, .int .u64 r.h.ep, .int .u64 r.h.c.f, .int .u64 r.h.t]) ∧ Below w.heap.size w w' := by
  have HU : Hid (∀ u, Below w.heap.size w u → LK u r) := Lib.hid fun u hu => h.next hu
  obtain ⟨l, a, hd⟩ := r
  clear h
  unfold lkV
  dsimp only
  obtain ⟨w1, hw1⟩ : ∃ u, w.alloc (.cells #[.int .i64 0, .int .i64 0, .int .i64 0, .int .u64 0, .int .u64 0, .int .u64 0] 39) = u := ⟨_, rfl⟩
  have hk : Below w.heap.size w w1 := hw1 ▸ kp_new w _
  have hL := HU.out _ (hk.drew)
  have HB := Lib.hid hk
  have hb : w1.heap[w.heap.size]? = some (.cells #[.int .i64 0, .int .i64 0, .int .i64 0, .int .u64 0, .int .u64 0, .int .u64 0] 39 (0, 0)) := hw1 ▸ heap_alloc_new w _
  have HW1 := Lib.hid hw1
  clear hk hw1
  go_enter Try.func28, Try.ntmps28
  go_wp2_with fail
  rw [HW1.out]
  clear HW1 HU
  obtain ⟨w2, hw2⟩ : ∃ u, w1.drew = u := ⟨_, rfl⟩
  rw [hw2] at hL
  have c0 : w2.cell? ⟨l, 0, none⟩ = some (.pointer (some ⟨a, 0, none⟩)) := hL.cells.1.1
  have c1 : w2.cell? ⟨l, 1, none⟩ = some (.int .i64 hd.id) := hL.cells.1.2.1
  have c2 : w2.cell? ⟨l, 2, none⟩ = some (.int .u64 hd.t) := hL.cells.1.2.2
  have HS : Hid (Calls Try.prog 53 #[.pointer (some ⟨a, 0, none⟩)] w2 fun e w' => e = .returned (.int .i64 hd.c.s) ∧ w' = w2) := Lib.hid ((cstate_ok hL.c).mono fun _ _ ⟨h1, h2⟩ => ⟨h1, h2.symm⟩)
  have HO : Hid (Calls Try.prog 54 #[.pointer (some ⟨a, 0, none⟩)] w2 fun e w' => e = .returned (.int .i64 hd.c.o) ∧ w' = w2) := Lib.hid ((cowner_ok hL.c).mono fun _ _ ⟨h1, h2⟩ => ⟨h1, h2.symm⟩)
  have HE : Hid (Calls Try.prog 32 #[.pointer (some ⟨a, 0, none⟩)] w2 fun e w' => e = .returned (.int .u64 hd.ep) ∧ w' = w2) := Lib.hid ((cepoch_ok hL.c).mono fun _ _ ⟨h1, h2⟩ => ⟨h1, h2.symm⟩)
  have HF : Hid (Calls Try.prog 55 #[.pointer (some ⟨a, 0, none⟩)] w2 fun e w' => e = .returned (.int .u64 hd.c.f) ∧ w' = w2) := Lib.hid ((cflight_ok hL.c).mono fun _ _ ⟨h1, h2⟩ => ⟨h1, h2.symm⟩)
  have hb2 : w2.heap[w.heap.size]? = some (.cells #[.int .i64 0, .int .i64 0, .int .i64 0, .int .u64 0, .int .u64 0, .int .u64 0] 39 (0, 0)) := hw2 ▸ hb
  obtain ⟨x0, z0⟩ := cellsAt hb2 0 (v := .int .i64 0) rfl
  obtain ⟨x1, z1⟩ := cellsAt hb2 1 (v := .int .i64 0) rfl
  obtain ⟨x2, z2⟩ := cellsAt hb2 2 (v := .int .i64 0) rfl
  obtain ⟨x3, z3⟩ := cellsAt hb2 3 (v := .int .u64 0) rfl
  obtain ⟨x4, z4⟩ := cellsAt hb2 4 (v := .int .u64 0) rfl
  obtain ⟨x5, z5⟩ := cellsAt hb2 5 (v := .int .u64 0) rfl
  have HB2 : Hid (Below w.heap.size w w2) := Lib.hid (hw2 ▸ HB.out.drew)
  have HW2 := Lib.hid hw2
  clear hL hb hb2 HB hw2
  refine wp_region_still_tail 29 (by kernel_rfl) (by kernel_rfl) ?_
  simp only [List.take_succ_cons, List.take_zero, List.drop_succ_cons, List.drop_zero]
  change wpStill _ _ w1.drew (fun a' => wpList _ _ _ _ a' w1.drew) _ _
  rw [HW2.out]
  repeat still_step
  still_call HS.out
  repeat still_step
  still_call HO.out
  repeat still_step
  still_call HE.out
  repeat still_step
  still_call HF.out
  repeat still_step
  refine wpStill_nil ?_
  go_wp2_with fail
  refine bodyPost_ret (v := .agg #[.int .i64 hd.id, .int .i64 hd.c.s, .int .i64 hd.c.o, .int .u64 hd.ep, .int .u64 hd.c.f, .int .u64 hd.t]) ?_ rfl ⟨rfl, ?_⟩
  · rw [results_cell1 rfl]
    go_simp
  · exact (((((HB2.out.setCell (Nat.le_refl _) _).setCell (Nat.le_refl _) _).setCell (Nat.le_refl _) _).setCell (Nat.le_refl _) _).setCell (Nat.le_refl _) _).setCell (Nat.le_refl _) _
end
end

/- slices.IndexFunc, slices.DeleteFunc at links that are closed: contracts. -/
section
open Go.RowKit
set_option maxRecDepth 100000

def deadL (r : Lr) : Bool := !r.h.live
theorem firstH_cases {α : Type} (p : α → Bool) (l : List α) : (firstH p l = -1 ∧ l.filter (fun t => !p t) = l) ∨ ∃ k : Nat, firstH p l = (k : Int) ∧ k < l.length ∧ (l.take (k + 1)).filter (fun t => !p t) = l.take k := by
  induction l with
  | nil => exact .inl ⟨rfl, rfl⟩
  | cons x r ih =>
    cases hx : p x with
    | true => exact .inr ⟨0, by simp [firstH, hx], by simp, by simp [hx]⟩
    | false =>
      rcases ih with ⟨h1, h2⟩ | ⟨k, h1, h2, h3⟩
      · exact .inl ⟨by simp [firstH, hx, h1], by simp [hx, h2]⟩
      · refine .inr ⟨k + 1, ?_, by simpa using h2, ?_⟩
        · simp only [firstH, hx, h1]
          rw [if_neg (by simp), if_neg (by omega)]
          omega
        · rw [List.take_succ_cons, List.filter_cons, hx, h3]
          simp

set_option maxHeartbeats 1000000 in
theorem indexL_ok {w : World} {A : Option Addr} {n c : Nat} {rs : List Lr} (h : LL w A n c rs) (hn : n ≤ 6) :
    Calls Try.prog 81 #[.slice A n c, .func (.func 58) #[] #[]] w fun e w' => e = .returned (.int .i64 (firstH deadL rs)) ∧ w = w' := by
  have hlen := Lib.hid h.len
  have H := Lib.hid h
  clear h
  go_enter Try.func81, Try.ntmps81
  go_wp2_with fail
  go_loopw [8] (fun i wr => ∃ k : Nat, k ≤ n ∧ i = .int .i64 k ∧ Hid (∀ j (hj : j < rs.length), j < k → deadL rs[j] = false) ∧ w = wr) (fun i _ => n - (intOf i).toNat)
  case atStart => exact ⟨0, Nat.zero_le _, rfl, Lib.hid (fun j _ h => absurd h (Nat.not_lt_zero _)), rfl⟩
  case round =>
    obtain ⟨k, hk, rfl, hno, rfl⟩ := hrel
    by_cases hlt : k < n
    · have hkl : k < rs.length := by rw [hlen.out]; exact hlt
      obtain ⟨g, rfl, _, _, hg, _⟩ := H.out.at_ hkl
      have hC := Lib.hid (isClosed_ok (H.out.lk _ (List.getElem_mem hkl)))
      change Hid (Calls _ _ _ _ fun e w' => e = .returned (.bool (deadL rs[k])) ∧ w = w') at hC
      cases hs : deadL rs[k] with
      | false =>
        have hno2 : Hid (∀ j (hj : j < rs.length), j < k + 1 → deadL rs[j] = false) := Lib.hid (fun j hj hjk => by
          by_cases h : j = k
          · subst h; exact hs
          · exact hno.out j hj (by omega))
        rw [hs] at hC
        clear hs hno
        unfold lkV at hg hC
        generalize rs[k].l = la at *
        go_wp2_with fail
        refine hC.out.mono ?_
        rintro e w1 ⟨rfl, rfl⟩
        go_wp2_with fail
        go_roundw
        case rel => exact ⟨k + 1, by omega, by go_num, hno2, trivial⟩
        case measure => simp [intOf]; omega
      | true =>
        have HF := Lib.hid (firstH_at hkl hno.out hs)
        rw [hs] at hC
        clear hs hno
        unfold lkV at hg hC
        generalize rs[k].l = la at *
        go_wp2_with fail
        refine hC.out.mono ?_
        rintro e w1 ⟨rfl, rfl⟩
        go_wp2_with fail
        go_ret
        exact ⟨by rw [HF.out]; rfl, rfl⟩
    · have HF := Lib.hid (firstH_none (p := deadL) (l := rs) fun y hy => by
        obtain ⟨j, hj, rfl⟩ := List.getElem_of_mem hy
        exact hno.out j hj (by have := hlen.out; omega))
      clear hno
      go_wp2_with fail
      go_ret
      exact ⟨by rw [HF.out]; rfl, rfl⟩

/-- 'clear' at links -/
theorem run_clear_links (w : World) (ty : TypeId) (b o n c : Nat) (hn : 0 < n) (hc : ∀ j, j < n → (w.cell? ⟨b, o + j, none⟩).isSome = true) (hf : ∀ j, j < n → w.frozen? ⟨b, o + j, none⟩ = false) :
    ∃ vs : List Value, vs.length = n ∧ (Builtin.clear_ #[59] ty #[.slice (some ⟨b, o, none⟩) n c]).run Try.prog w = .ok (.tuple #[]) (w.setCells b o vs) := by
  have hv : ∀ w, (zeroValue 66).run Try.prog w = .ok (.pointer none) w := fun _ => by kernel_rfl
  have hz : (Value.pointer none).cells = #[.pointer none] := rfl
  have hl : (Builtin.zeroCells (Value.pointer none).cells n).toList.length = n := by
    rw [hz]
    simp [Builtin.zeroCells]
  have h1 : ∀ v ∈ (Builtin.zeroCells (Value.pointer none).cells n).toList, v.oneCell' = true := by
    intro v hv'
    rw [hz] at hv'
    simp only [Builtin.zeroCells, Array.toList_map, List.mem_map] at hv'
    obtain ⟨i, _, rfl⟩ := hv'
    have : i % 1 = 0 := by omega
    simp [this, Value.oneCell']
  generalize (Value.pointer none) = z at hv hl h1
  refine ⟨_, hl, ?_⟩
  have hst := run_storeCells_cells (P := Try.prog) b o (Builtin.zeroCells z.cells n).toList 0 w (by rw [hl]; simpa using hc) (by rw [hl]; simpa using hf) h1
  simp only [Nat.add_zero] at hst
  clear hl h1
  obtain ⟨m, rfl⟩ : ∃ m, n = m + 1 := ⟨n - 1, by omega⟩
  simp [Builtin.clear_, run_underlying Try.underlying59, hv, hst]
/-- cells of a row that are written from some place on -/
theorem own_setCells {n c : Nat} {e : TypeId} {g : Nat} : ∀ (vs : List Value) (w : World) (o : Nat) (xs : List Value), w.ownsRow 0 e 1 (.slice (some ⟨g, 0, none⟩) n c) n xs →
    ∃ ys, (w.setCells g o vs).ownsRow 0 e 1 (.slice (some ⟨g, 0, none⟩) n c) n ys ∧ ys.take o = xs.take o
  | [], w, o, xs, h => ⟨xs, h, rfl⟩
  | v :: r, w, o, xs, h => by
    obtain ⟨ys, h1, h2⟩ := own_setCells r (w.setCell ⟨g, o, none⟩ v) (o + 1) (xs.set o v) (own_set h o v)
    refine ⟨ys, h1, ?_⟩
    have h3 := congrArg (List.take o) h2
    rw [List.take_take, List.take_take, Nat.min_eq_left (Nat.le_succ o), List.take_set_of_le (Nat.le_refl _)] at h3
    exact h3
theorem own_shrink {w : World} {n k c : Nat} {e : TypeId} {g : Nat} {xs : List Value} (h : w.ownsRow 0 e 1 (.slice (some ⟨g, 0, none⟩) n c) n xs) (hk : k ≤ n) : w.ownsRow 0 e 1 (.slice (some ⟨g, 0, none⟩) k c) k (xs.take k) := by
  refine ⟨by have := h.1; rw [List.length_take]; omega, ?_⟩
  rcases h.2 with ⟨h1, _⟩ | ⟨g', cap, cur, h1, hb, hg, hc, hm, hs, ht⟩
  · cases h1
  · injection h1 with h1 h2 h3
    injection h1 with h1
    injection h1 with h1 h4 h5
    subst h1 h3
    refine .inr ⟨g, c, cur, rfl, hb, hg, by omega, hm, hs, ?_⟩
    rw [← ht, List.take_take]
    congr 1
    omega
theorem off_setCells {g : Nat} {w : World} : ∀ (vs : List Value) (o : Nat) {w1 : World}, Off (fun j => j = g) w w1 → Off (fun j => j = g) w (w1.setCells g o vs)
  | [], _, _, h => h
  | v :: r, o, _, h => by
    rw [World.setCells]
    exact off_setCells r (o + 1) (h.setCell (p := ⟨g, o, none⟩) (.inl rfl) v)
/-- a row of fewer links, in the same block -/
theorem LL.less {w w' : World} {g n k c : Nat} {rs us : List Lr} (h : LL w (some ⟨g, 0, none⟩) n c rs) (ho : w'.ownsRow 0 66 1 (.slice (some ⟨g, 0, none⟩) k c) k (us.map lkV)) (hf : Off (fun j => j = g) w w') (hs : us.Sublist rs) : LL w' (some ⟨g, 0, none⟩) k c us := by
  refine ⟨ho, fun r hr => ?_, List.Pairwise.sublist (hs.map _) h.nd, fun r hr k hk e => h.ap r (hs.subset hr) k hk e⟩
  have hr' := hs.subset hr
  exact (h.lk r hr').keep (fun k hk => hf.block k ((h.lk r hr').lt k hk) fun e => h.ap r hr' k hk (by rw [e]; rfl)) hf.size

set_option maxHeartbeats 1000000 in
theorem deleteL_ok {w : World} {A : Option Addr} {n c : Nat} {rs : List Lr} (h : LL w A n c rs) (hn : n ≤ 6) :
    Calls Try.prog 57 #[.slice A n c, .func (.func 58) #[] #[]] w fun e w' => ∃ k, e = .returned (.slice A k c) ∧ LL w' A k c (rs.filter fun r => r.h.live) ∧ Off (fun j => (Value.slice A n c).ownBlock = some j) w w' := by
  have hlen := Lib.hid h.len
  have hcap := h.cap
  have hI := Lib.hid (indexL_ok h hn)
  have HQ : Hid ((rs.filter fun r => r.h.live) = rs.filter fun r => !deadL r) := Lib.hid (by simp [deadL])
  rw [HQ.out]
  clear HQ
  rcases firstH_cases deadL rs with ⟨hF, hall⟩ | ⟨i0, hF, hi0, hpre⟩
  · rw [hF] at hI
    rw [hall]
    clear hF hall
    have HT := Lib.hid h
    clear h
    go_enter Try.func57, Try.ntmps57
    go_wp2_with fail
    refine hI.out.mono ?_
    rintro e w1 ⟨rfl, rfl⟩
    go_wp2_with fail
    go_ret
    exact ⟨n, rfl, HT.out, Off.refl _ _⟩
  · rw [hF] at hI
    have hin : i0 < n := by rw [← hlen.out]; exact hi0
    obtain ⟨g, rfl, hgl, _⟩ := h.at_ hi0
    have HP := Lib.hid hpre
    have H := Lib.hid h
    have hne : ((i0 : Int) == -1) = false := beq_eq_false_iff_ne.2 (by omega)
    clear hF hpre h
    go_enter Try.func57, Try.ntmps57
    go_wp2_with fail
    refine hI.out.mono ?_
    rintro e w1 ⟨rfl, rfl⟩
    go_wp2_with fail
    go_loopw [5, 6] (fun i j wr => ∃ (k m : Nat) (us : List Lr), i = .int .i64 k ∧ j = .int .i64 m ∧ k < m ∧ m ≤ n ∧ us.length = n ∧ Hid (wr.ownsRow 0 66 1 (.slice (some ⟨g, 0, none⟩) n c) n (us.map lkV)) ∧ Hid (us.take k = (rs.take m).filter fun t => !deadL t) ∧ Hid (us.drop m = rs.drop m) ∧ Hid (Off (fun j => j = g) w wr)) (fun _ j _ => n - (intOf j).toNat)
    case atStart => exact ⟨i0, i0 + 1, rs, rfl, by go_num, by omega, by omega, hlen.out, Lib.hid H.out.own, Lib.hid HP.out.symm, Lib.hid rfl, Lib.hid (Off.refl _ _)⟩
    case round =>
      obtain ⟨k, m, us, rfl, rfl, hkm, hm, hul, hr, hx, hd, kw⟩ := hrel
      clear HP
      by_cases hlt : m < n
      · have hml : m < us.length := by omega
        have hmt : m < rs.length := by rw [hlen.out]; exact hlt
        have hkl : k < us.length := by omega
        have he : us[m] = rs[m] := by
          have e1 := congrArg (fun l => l[0]?) hd.out
          simp only [List.getElem?_drop, Nat.add_zero, List.getElem?_eq_getElem hml, List.getElem?_eq_getElem hmt, Option.some.injEq] at e1
          exact e1
        have hgb : ∀ j (hj : j < us.length), wr.cell? ⟨g, j, none⟩ = some (lkV us[j]) ∧ wr.frozen? ⟨g, j, none⟩ = false := fun j hj => by
          have h1 := hr.out.cells (g := g) rfl j (lkV us[j]) (by simp [hj])
          have ha : (⟨g, 0, none⟩ : Addr).add j = ⟨g, j, none⟩ := by unfold Addr.add; split <;> simp_all
          rw [ha] at h1
          refine ⟨h1, ?_⟩
          rcases hr.out.2 with ⟨h2, _⟩ | ⟨g', cap, cur, h2, _, hg, _⟩
          · cases h2
          · injection h2 with h2 _ _
            injection h2 with h2
            injection h2 with h2 _ _
            subst h2
            exact frozen_of_row wr g _ cur _ hg
        obtain ⟨c0, _⟩ := hgb m hml
        obtain ⟨c1, f1⟩ := hgb k hkl
        clear hgb
        have hlk : LK wr rs[m] := (H.out.lk _ (List.getElem_mem hmt)).keep (fun j hj => kw.out.block j ((H.out.lk _ (List.getElem_mem hmt)).lt j hj) fun e => H.out.ap _ (List.getElem_mem hmt) j hj (by rw [e]; rfl)) kw.out.size
        have hC := Lib.hid (isClosed_ok hlk)
        rw [← he] at hC
        change Hid (Calls _ _ _ _ fun e w' => e = .returned (.bool (deadL us[m])) ∧ wr = w') at hC
        have hd2 : Hid (us.drop (m + 1) = rs.drop (m + 1)) := Lib.hid (by
          have e1 := congrArg (fun l => l.drop 1) hd.out
          simpa only [List.drop_drop] using e1)
        have htk : (rs.take (m + 1)).filter (fun t => !deadL t) = (rs.take m).filter (fun t => !deadL t) ++ (if deadL us[m] then [] else [us[m]]) := by
          rw [List.take_succ_eq_append_getElem hmt, List.filter_append, ← he]
          cases hq : deadL us[m] <;> simp [hq]
        clear hlk
        cases hq : deadL us[m] with
        | true =>
          have hx2 : Hid (us.take k = (rs.take (m + 1)).filter fun t => !deadL t) := Lib.hid (by rw [htk, hq, hx.out]; simp)
          rw [hq] at hC
          clear hx htk hq he hd c1 f1
          unfold lkV at c0 hC
          generalize us[m].l = x at *
          go_wp2_with fail
          refine hC.out.mono ?_
          rintro e w2 ⟨rfl, rfl⟩
          go_wp2_with fail
          go_roundw
          case rel => exact ⟨k, m + 1, us, rfl, by go_num, by omega, by omega, hul, hr, hx2, hd2, kw⟩
          case measure => simp [intOf]; omega
        | false =>
          have hx2 : Hid ((us.set k us[m]).take (k + 1) = (rs.take (m + 1)).filter fun t => !deadL t) := Lib.hid (by
            rw [htk, hq, ← hx.out, List.take_succ_eq_append_getElem (by rw [List.length_set]; exact hkl), List.getElem_set_self, List.take_set_of_le (Nat.le_refl _)]
            rfl)
          have hd3 : Hid ((us.set k us[m]).drop (m + 1) = rs.drop (m + 1)) := Lib.hid (by rw [List.drop_set_of_lt (by omega)]; exact hd2.out)
          have hul3 : (us.set k us[m]).length = n := by rw [List.length_set]; exact hul
          have HST : Hid ((wr.setCell ⟨g, k, none⟩ (lkV us[m])).ownsRow 0 66 1 (.slice (some ⟨g, 0, none⟩) n c) n ((us.set k us[m]).map lkV)) := Lib.hid (by
            rw [List.map_set]
            exact own_set hr.out k _)
          have HOF : Hid (Off (fun j => j = g) w (wr.setCell ⟨g, k, none⟩ (lkV us[m]))) := Lib.hid (kw.out.setCell (.inl rfl) _)
          rw [hq] at hC
          clear hx htk hq he hd hd2 hr kw
          generalize us.set k us[m] = us3 at *
          generalize hy : lkV us[k] = y at *
          clear hy
          unfold lkV at c0 hC HST HOF
          generalize us[m].l = x at *
          go_wp2_with fail
          refine hC.out.mono ?_
          rintro e w2 ⟨rfl, rfl⟩
          go_wp2_with fail
          go_roundw
          case rel => exact ⟨k + 1, m + 1, us3, by go_num, by go_num, by omega, by omega, hul3, HST, hx2, hd3, HOF⟩
          case measure => simp [intOf]; omega
      · obtain rfl : m = n := by omega
        have hck : ¬ c = k := by omega
        have hgb : ∀ j, j < m → (wr.cell? ⟨g, j, none⟩).isSome = true ∧ wr.frozen? ⟨g, j, none⟩ = false := fun j hj => by
          have h1 := hr.out.cells (g := g) rfl j (lkV us[j]) (by simp [hul, hj])
          have ha : (⟨g, 0, none⟩ : Addr).add j = ⟨g, j, none⟩ := by unfold Addr.add; split <;> simp_all
          rw [ha] at h1
          refine ⟨by rw [h1]; rfl, ?_⟩
          rcases hr.out.2 with ⟨h2, _⟩ | ⟨g', cap, cur, h2, _, hg, _⟩
          · cases h2
          · injection h2 with h2 _ _
            injection h2 with h2
            injection h2 with h2 _ _
            subst h2
            exact frozen_of_row wr g _ cur _ hg
        obtain ⟨vs, hvl, hrun⟩ := run_clear_links wr 0 g k (m - k) (c - k) (by omega) (fun j hj => (hgb _ (by omega)).1) (fun j hj => (hgb _ (by omega)).2)
        have HE : Hid (LL (wr.setCells g k vs) (some ⟨g, 0, none⟩) k c (rs.filter fun t => !deadL t)) := Lib.hid (by
          obtain ⟨ys, y1, y2⟩ := own_setCells vs wr k _ hr.out
          have y3 := own_shrink y1 (k := k) (by omega)
          rw [y2, ← List.map_take, hx.out, List.take_of_length_le (by rw [hlen.out]; exact Nat.le_refl _)] at y3
          exact H.out.less y3 (off_setCells vs k kw.out) List.filter_sublist)
        have HO2 := Lib.hid (off_setCells vs k kw.out)
        clear hx hd hr hgb kw
        go_wp2_with fail
        go_ret
        exact ⟨k, rfl, HE.out, HO2.out.wide fun j e => by rw [e]; rfl⟩
end

/- A call of a function value that is not known by its name: the step of the walk. -/
section
open Go.RowKit
set_option maxRecDepth 100000

theorem wpListIn_callv {F : Fence} {n : Nat} {P : Program} {ops : Array Oper} {Q : Exit → Act → World → Prop} {a : Act} {w : World} {rest : List Oper} {o : Oper} {c : Call} {t u : Tmp} {fn : Fn} {cap : Array Value} {x : Value} {f : FuncId} {args : Array Value} {R : Ending → World → Prop}
    (hF : ∀ f, F.fn f) (hd : F.depth = none) (hg : o.guard = none) (ho : o.op = .call c) (hcal : c.callee = .value (.tmp t)) (hca : c.args = #[.tmp u])
    (hv : a.tmps.getD t undef = .func fn #[] cap) (hx : a.tmps.getD u undef = x)
    (hi : (invoke (.fn fn cap) #[x]).run P w = .ok (.enter f args) w) (hc : CallsIn F (n - 1) P f args w R)
    (hR : ∀ e w', R e w' → ∃ v, e = .returned v ∧ wpListIn F n P ops Q rest (a.put o.dst v) w') :
    wpListIn F n P ops Q (o :: rest) a w := by
  refine wpListIn_plain hg fun K hK => ⟨fun f _ => hF f, ?_⟩
  have e1 : Oper.semAt F.round a.eval o = execOp a.eval o := by
    unfold Oper.semAt
    rw [ho]
    cases F.round <;> rfl
  have e2 : (execOp a.eval o).run P w = .ok (.enter f args) w := by
    have hv' : a.tmps[t]?.getD undef = .func fn #[] cap := by rw [← Array.getD_eq_getD_getElem?]; exact hv
    have hx' : a.tmps[u]?.getD undef = x := by rw [← Array.getD_eq_getD_getElem?]; exact hx
    simp only [execOp, ho]
    rw [Sem.run_bind]
    have e3 : (resolve a.eval c o.type).run P w = .ok { target := .fn fn cap, args := #[x] } w := by
      simp [resolve, hcal, hca, hv', hx', Deferred.ofValue, go_sem]
    rw [e3]
    exact hi
  rw [e1, e2]
  refine ⟨fun h => (by rw [hd] at h; cases h), CallsIn.mono hc fun e w' hr => ?_⟩
  obtain ⟨v, rfl, hw⟩ := hR e w' hr
  exact hK _ _ hw
end

/- What is done with some of a pool's connections (each): contract. -/
section
open Go.RowKit
set_option maxRecDepth 100000
attribute [local go_sem] Oper.semAt_some wide_depth wide_fn

theorem map_step {α : Type} (F : α → α) : ∀ (l : List α) (k : Nat) (hk : k < l.length), (l.take (k + 1)).map F ++ l.drop (k + 1) = ((l.take k).map F ++ l.drop k).set k (F l[k])
  | [], _, h => by simp at h
  | x :: r, 0, _ => by simp
  | x :: r, k + 1, h => by
    have := map_step F r k (by simpa using h)
    simpa using this
theorem map_mid {α : Type} (F : α → α) (l : List α) (k : Nat) (hk : k < l.length) : ((l.take k).map F ++ l.drop k)[k]'(by simp; omega) = l[k] := by
  rw [List.getElem_append_right (by simp; omega)]
  simp
  congr 1
  omega
theorem map_step_same {α : Type} (F : α → α) (l : List α) (k : Nat) (hk : k < l.length) (he : F l[k] = l[k]) : (l.take (k + 1)).map F ++ l.drop (k + 1) = (l.take k).map F ++ l.drop k := by
  rw [map_step F l k hk, he]
  have hl : k < ((l.take k).map F ++ l.drop k).length := by simp; omega
  have := map_mid F l k hk
  rw [← this]
  exact List.set_getElem_self hl
section
variable {b : Nat} {mo idl m : Int} {p : Pl} {rs : List Lr} {A : Option Addr} {n c rb : Nat} {SR S T : Nat → Prop} {w w' : World}
/-- one turned -/
theorem PPm.turn (h : PPm b mo idl m p rs A n c rb SR S w) {j : Nat} (hj : j < rs.length) {h' : Hd} (hl : LK w' (rs[j].set h')) (hT : ∀ k, T k → ¬ S k) (ho : Off (fun k => lkS rs[j] k ∨ T k) w w') :
    PPm b mo idl m { p with l := p.l.set j h' } (rs.set j (rs[j].set h')) A n c rb SR S w' := by
  have hm : ∀ k, lkS rs[j] k → llS A n c rs k := fun k hk => .inr ⟨_, List.getElem_mem hj, hk⟩
  refine ⟨(ho.block b (h.lt b h.sb) fun e => e.elim (fun e => h.al (hm b e)) fun e => hT b e h.sb).trans h.top, ?_, h.hl.turn hj hl (fun k hk hn => ho.block k (h.hl.lt k hk) fun e => e.elim hn fun e => hT k e (h.sl k hk)) ho.size, ?_, h.sb, h.sr, fun k hk => h.sl k ((llS_set hj h' k).1 hk), fun k hk => Nat.lt_of_lt_of_le (h.lt k hk) ho.size, fun k hk => ⟨(h.ar k hk).1, fun e => (h.ar k hk).2 ((llS_set hj h' k).1 e)⟩, fun e => h.al ((llS_set hj h' b).1 e), ?_⟩
  · rw [List.map_set, h.l]
    rfl
  · exact Thing.off h.row ho fun k hk e => e.elim (fun e => (h.ar k hk).2 (hm k e)) fun e => hT k e (h.sr k hk)
  · have := h.few
    simpa using this
/-- a row of fewer, laid where the row lay -/
theorem PPm.less (h : PPm b mo idl m p rs A n c rb SR S w) {k : Nat} {us : List Lr} (hu : us.Sublist rs) (hl : LL w' A k c us) (ho : Off (fun j => (Value.slice A n c).ownBlock = some j) w w') :
    PPm b mo idl m { p with l := us.map Lr.h } us A k c rb SR S (w'.setCell ⟨b, 0, none⟩ (.slice A k c)) := by
  have hob : (Value.slice A n c).ownBlock = (Value.slice A k c).ownBlock := by cases A <;> rfl
  have hs : ∀ j, llS A k c us j → llS A n c rs j := by
    rintro j (hj | ⟨r, hr, hj⟩)
    · exact .inl (hob.trans hj)
    · exact .inr ⟨r, hu.subset hr, hj⟩
  have hb : w'.heap[b]? = w.heap[b]? := ho.block b (h.lt b h.sb) fun e => h.al (.inl e)
  have hz : (w'.setCell ⟨b, 0, none⟩ (.slice A k c)).heap.size = w'.heap.size := by simp [World.setCell]
  have hk : ∀ j, j ≠ b → (w'.setCell ⟨b, 0, none⟩ (.slice A k c)).heap[j]? = w'.heap[j]? := fun j hj => Below.heap_setCell _ _ _ _ fun e => hj (by first | exact e.symm | exact e)
  refine ⟨cset (hb.trans h.top) 0 _ rfl, rfl, hl.keep (fun j hj => hk j fun e => h.al (e ▸ hs j hj)) (by rw [hz]; exact Nat.le_refl _), ?_, h.sb, h.sr, fun j hj => h.sl j (hs j hj), fun j hj => ?_, fun j hj => ⟨(h.ar j hj).1, fun e => (h.ar j hj).2 (hs j e)⟩, fun e => h.al (hs b e), ?_⟩
  · have h1 : (PW rb m p.row).p SR w' := Thing.off h.row ho fun j hj e => (h.ar j hj).2 (.inl e)
    exact (PW rb m p.row).keep h1 (fun j hj => hk j (h.ar j hj).1) (by rw [hz]; exact Nat.le_refl _)
  · rw [hz]
    exact Nat.lt_of_lt_of_le (h.lt j hj) ho.size
  · have h1 := h.few
    have h2 := hu.length_le
    have h3 : rs.length = p.l.length := by rw [← h.l, List.length_map]
    simp only [List.length_map]
    omega
/-- within the loop: so many are over -/
def EachI (b : Nat) (mo idl m : Int) (p : Pl) (rs : List Lr) (A : Option Addr) (n c rb : Nat) (SR S : Nat → Prop) (f : Hd → Hd) (T : Nat → Prop) (Zf : Nat → World → Prop) (w : World) (k : Nat) (W : World) : Prop :=
  PPm b mo idl m { p with l := (p.l.take k).map f ++ p.l.drop k } ((rs.take k).map (fun r => r.set (f r.h)) ++ rs.drop k) A n c rb SR S W ∧ Zf k W ∧ Off (fun k => S k ∨ T k) w W
theorem filter_live_map (us : List Lr) : (us.filter fun r => r.h.live).map Lr.h = (us.map Lr.h).filter Hd.live := by
  rw [List.filter_map]
  rfl
theorem foldl_step {σ : Type} (g : σ → Hd → σ) (l : List Hd) (k : Nat) (hk : k < l.length) (s : σ) : (l.take (k + 1)).foldl g s = g ((l.take k).foldl g s) l[k] := by
  rw [List.take_succ_eq_append_getElem hk, List.foldl_append]
  rfl

set_option maxHeartbeats 4000000 in
theorem each_ok (fi fd : Fn) (ci cd : Array Value) (pis : Hd → Bool) (pdo : Hd → Hd) {σ : Type} (upd : Hd → σ → σ) (Z : σ → World → Prop) (s0 : σ)
    (h : (PP b mo idl m p).p S w) (hT : ∀ k, T k → ¬ S k) (hTl : ∀ k, T k → k < w.heap.size) (hz0 : Z s0 w)
    (hZ : ∀ s W W', Z s W → (∀ k, T k → W'.heap[k]? = W.heap[k]?) → Z s W')
    (his : ∀ r s W, LK W r → Z s W → W.heap[b]? = w.heap[b]? → ∃ f args, (invoke (.fn fi ci) #[lkV r]).run Try.prog W = .ok (.enter f args) W ∧ Calls Try.prog f args W fun e w' => e = .returned (.bool (pis r.h)) ∧ Below W.heap.size W w')
    (hdo : ∀ r s W, LK W r → Z s W → (∀ k, lkS r k → ¬ T k) → pis r.h = true → ∃ f args, (invoke (.fn fd cd) #[lkV r]).run Try.prog W = .ok (.enter f args) W ∧ Calls Try.prog f args W fun e w' => (∃ v, e = .returned v) ∧ LK w' (r.set (pdo r.h)) ∧ Z (upd r.h s) w' ∧ Off (fun k => lkS r k ∨ T k) W w') :
    Calls Try.prog 30 #[.pointer (some ⟨b, 0, none⟩), .func fi #[] ci, .func fd #[] cd] w fun e w' => (∃ v, e = .returned v) ∧ Z (p.l.foldl (fun s h => if pis h then upd h s else s) s0) w' ∧
      (PP b mo idl m { p with l := sweepH (p.l.map fun h => if pis h then pdo h else h) }).p S w' ∧ Off (fun k => S k ∨ T k) w w' := by
  obtain ⟨rs, A, n, c, rb, SR, hP⟩ := PP.at_ h
  have hSl := hP.lt
  clear h
  obtain ⟨w2, hw2⟩ : ∃ u, (w.alloc (.cells #[.func fi #[] ci] 73)).alloc (.cells #[.func fd #[] cd] 74) = u := ⟨_, rfl⟩
  have hk2 : Below w.heap.size w w2 := hw2 ▸ kp_alloc (kp_new _ _) _
  have hz2 : w2.heap.size = w.heap.size + 2 := by rw [← hw2]; simp
  have hP2 := hP.keep (fun k hk => hk2.block k (hSl k hk)) hk2.size
  have b0 : w2.heap[w.heap.size]? = some (.cells #[.func fi #[] ci] 73 (0, 0)) := by
    rw [← hw2]
    exact (Below.heap_alloc _ _ _ (by simp)).trans (heap_alloc_new w _)
  have b1 : w2.heap[w.heap.size + 1]? = some (.cells #[.func fd #[] cd] 74 (0, 0)) := by
    rw [← hw2]
    have := heap_alloc_new (w.alloc (.cells #[.func fi #[] ci] 73)) (.cells #[.func fd #[] cd] 74)
    rwa [World.size_alloc] at this
  have hZ2 : Z s0 w2 := hZ s0 w w2 hz0 fun k hk => hk2.block k (hTl k hk)
  obtain ⟨hrl, hpl, hn6⟩ := hP2.len
  have hbb : w2.heap[b]? = w.heap[b]? := hk2.block b (hSl b hP.sb)
  obtain ⟨⟨d0, _⟩, _⟩ := ppcells hP2.top
  have HW := Lib.hid hw2
  have HK2 := Lib.hid hk2
  clear hw2
  refine (callsIn_wide (n := 3)).1 ?_
  refine callsIn_of_wp_marks Try.func30 rfl trivial ?_
  simp only [Try.ntmps30, List.size_toArray, List.length_cons, List.length_nil, Nat.reduceAdd, Nat.reduceSub, Array.replicate_succ, Array.replicate_zero, List.push_toArray, List.append_toArray, List.nil_append, List.cons_append]
  gi_wp2
  rw [HW.out]
  clear HW hk2
  have hrp : rs.length = p.l.length := by omega
  have hfm : ∀ k, ((p.l.take k).map (fun h => if pis h then pdo h else h) ++ p.l.drop k) = ((rs.take k).map (fun r => r.set (if pis r.h then pdo r.h else r.h)) ++ rs.drop k).map Lr.h := fun k => by
    rw [List.map_append, List.map_map, ← hP.l, ← List.map_take, ← List.map_drop, List.map_map]
    rfl
  have hSlt : ∀ k, S k → k < w2.heap.size := fun k hk => by have := hSl k hk; omega
  have hTlt : ∀ k, T k → k < w2.heap.size := fun k hk => by have := hTl k hk; omega
  refine wpIn_rangeAll (b := b) (n := n) (c := c) (A := A) (rs := rs) rfl hrl hn6 d0
    (EachI b mo idl m p rs A n c rb SR S (fun h => if pis h then pdo h else h) T (fun k W => Z ((p.l.take k).foldl (fun s h => if pis h then upd h s else s) s0) W) w2) (fun _ => False) ?stI (fun _ _ h _ => h) ?hat ?h0
    (fun r => { tmps := #[.pointer (some ⟨b, 0, none⟩), .func fi #[] ci, .func fd #[] cd, undef, .pointer (some ⟨w.heap.size, 0, none⟩), .pointer (some ⟨w.heap.size + 1, 0, none⟩), lkV r, .pointer (some ⟨b, 0, none⟩), .func (.func 27) #[.pointer (some ⟨b, 0, none⟩)] #[], lkV r, undef, undef, undef, undef, undef, undef, undef, undef, undef, undef, undef, undef, undef, undef], defers := [] }) ?assign ?body ?done ?stop
  case stI =>
    rintro k W W' ⟨h1, h2, h3⟩ ho
    have hq : ∀ j, j < w2.heap.size → W'.heap[j]? = W.heap[j]? := fun j hj => ho.block j (by have := h3.size; omega) fun e => by rcases e with e | e <;> omega
    exact ⟨h1.keep (fun j hj => hq j (hSlt j hj)) ho.size, hZ _ _ _ h2 fun j hj => hq j (hTlt j hj), h3.trans ho fun j hj => .inr (by rcases hj with e | e <;> omega)⟩
  case hat =>
    rintro k hk W ⟨h1, _, _⟩
    obtain ⟨g, q1, _, _, q2, _⟩ := h1.hl.at_ (j := k) (by simp; omega)
    rw [map_mid _ _ _ hk] at q2
    exact ⟨g, q1, q2⟩
  case h0 =>
    refine ⟨?_, hZ2, Off.refl _ _⟩
    simpa using hP2
  case assign =>
    intro l r W K hK
    gi_wp2
    exact hK
  case body =>
    rintro l k hk W ⟨h1, h2, h3⟩ hsz
    have hkp : k < p.l.length := by omega
    have hmem : rs[k] ∈ (rs.take k).map (fun r => r.set (if pis r.h then pdo r.h else r.h)) ++ rs.drop k := by
      rw [← map_mid (fun r : Lr => r.set (if pis r.h then pdo r.h else r.h)) rs k hk]
      exact List.getElem_mem _
    have hlk := h1.hl.lk _ hmem
    have hph : rs[k].h = p.l[k] := hP.at_ hk hkp
    have hS0 : ∀ j, lkS rs[k] j → S j := fun j hj => h1.sl j (.inr ⟨_, hmem, hj⟩)
    have hbx0 := (h3.block w.heap.size (by omega) fun e => e.elim (fun e => by have := hSl _ e; omega) fun e => by have := hTl _ e; omega).trans b0
    have hbx1 := (h3.block (w.heap.size + 1) (by omega) fun e => e.elim (fun e => by have := hSl _ e; omega) fun e => by have := hTl _ e; omega).trans b1
    obtain ⟨f1, a1, hi1, hc1⟩ := his rs[k] _ W hlk h2 (h1.top.trans hP.top.symm)
    have HC1 := Lib.hid hc1
    obtain ⟨x0, _⟩ := cellsAt hbx0 0 (v := .func fi #[] ci) rfl
    have HX1 := Lib.hid hbx1
    have H1 := Lib.hid h1
    have H2 := Lib.hid h2
    have H3 := Lib.hid h3
    have HLK := Lib.hid hlk
    clear hc1 hbx0 hbx1 h1 h2 h3 hlk
    have hFn : ∀ f, (Fence.wide.inRound l).fn f := fun _ => trivial
    have hDp : (Fence.wide.inRound l).depth = none := rfl
    have hrl2 : rs[k].set rs[k].h = rs[k] := rfl
    cases hq : pis rs[k].h with
    | false =>
      rw [hq] at HC1
      have HN : Hid (∀ W', Below W.heap.size W W' → EachI b mo idl m p rs A n c rb SR S (fun h => if pis h then pdo h else h) T (fun k W => Z ((p.l.take k).foldl (fun s h => if pis h then upd h s else s) s0) W) w2 (k + 1) W' ∧ ∀ j, bkS w2.heap.size j → W'.heap[j]? = W.heap[j]?) := Lib.hid fun W' hb => by
        refine ⟨⟨?_, ?_, H3.out.trans (Off.of (fun _ => False) hb) fun _ e => e.elim⟩, fun j hj => hb.block j (by rcases hj with e | e <;> omega)⟩
        · rw [map_step_same _ _ k hkp (by show (if pis p.l[k] = true then pdo p.l[k] else p.l[k]) = p.l[k]; rw [← hph, hq]; rfl), map_step_same _ _ k hk (by show rs[k].set (if pis rs[k].h = true then pdo rs[k].h else rs[k].h) = rs[k]; rw [hq]; exact hrl2)]
          exact H1.out.keep (fun j hj => hb.block j (by have := hSlt j hj; omega)) hb.size
        · show Z ((p.l.take (k + 1)).foldl (fun s h => if pis h = true then upd h s else s) s0) W'
          rw [foldl_step _ _ k hkp, ← hph, hq]
          exact hZ _ _ _ H2.out fun j hj => hb.block j (by have := hTlt j hj; omega)
      clear H1 H2 H3 HLK hq
      generalize lkV rs[k] = la at *
      gi_wp2_with (with_reducible refine wpListIn_callv hFn hDp rfl rfl rfl rfl ?_ ?_ hi1 (CallsIn.inRound l (callsIn_wide.2 HC1.out)) (fun e w3 he => ?_); rotate_left 2; obtain ⟨rfl, hb⟩ := he; refine ⟨_, rfl, ?_⟩; have HB := Lib.hid (HN.out w3 hb); clear hb HN)
      exact HB.out
    | true =>
      rw [hq] at HC1
      have hTn : ∀ j, lkS rs[k] j → ¬ T j := fun j hj e => hT j e (hS0 j hj)
      have HDO : Hid (∀ W', Below W.heap.size W W' → W'.cell? ⟨w.heap.size + 1, 0, none⟩ = some (.func fd #[] cd) ∧ ∃ f args, (invoke (.fn fd cd) #[lkV rs[k]]).run Try.prog W' = .ok (.enter f args) W' ∧ Calls Try.prog f args W' fun e w' => (∃ v, e = .returned v) ∧ EachI b mo idl m p rs A n c rb SR S (fun h => if pis h then pdo h else h) T (fun k W => Z ((p.l.take k).foldl (fun s h => if pis h then upd h s else s) s0) W) w2 (k + 1) w' ∧ ∀ j, bkS w2.heap.size j → w'.heap[j]? = W.heap[j]?) := Lib.hid fun W' hb => by
        have hz' := hb.size
        have hx' := (hb.block (w.heap.size + 1) (by omega)).trans HX1.out
        refine ⟨(cellsAt hx' 0 rfl).1, ?_⟩
        have hZ' := hZ _ _ _ H2.out fun j hj => hb.block j (by have := hTlt j hj; omega)
        obtain ⟨f2, a2, hi2, hc2⟩ := hdo rs[k] _ W' (HLK.out.next hb) hZ' hTn hq
        refine ⟨f2, a2, hi2, hc2.mono ?_⟩
        rintro e w' ⟨hv, hl', hz2', ho'⟩
        have hP' := H1.out.keep (fun j hj => hb.block j (by have := hSlt j hj; omega)) hb.size
        have hjl : k < ((rs.take k).map (fun r => r.set (if pis r.h then pdo r.h else r.h)) ++ rs.drop k).length := by simp; omega
        have hmid := map_mid (fun r : Lr => r.set (if pis r.h then pdo r.h else r.h)) rs k hk
        have hT' := hP'.turn hjl (h' := pdo rs[k].h) (by rw [hmid]; exact hl') hT (by rw [hmid]; exact ho')
        refine ⟨hv, ⟨?_, ?_, (H3.out.trans (Off.of (fun _ => False) hb) fun _ e => e.elim).trans ho' fun j hj => .inl (hj.elim (fun e => .inl (hS0 j e)) .inr)⟩, fun j hj => (ho'.block j (by rcases hj with e | e <;> omega) fun e => e.elim (fun e => by have := hSlt j (hS0 j e); rcases hj with e | e <;> omega) fun e => by have := hTlt j e; rcases hj with e | e <;> omega).trans (hb.block j (by rcases hj with e | e <;> omega))⟩
        · have e1 := map_step (fun h : Hd => if pis h then pdo h else h) p.l k hkp
          have e2 := map_step (fun r : Lr => r.set (if pis r.h then pdo r.h else r.h)) rs k hk
          rw [hmid] at hT'
          simp only [← hph, hq, if_true] at e1 e2
          rw [e1, e2]
          exact hT'
        · show Z ((p.l.take (k + 1)).foldl (fun s h => if pis h = true then upd h s else s) s0) w'
          rw [foldl_step _ _ k hkp, ← hph, hq]
          exact hz2'
      clear H1 H2 H3 HLK hq HX1
      generalize lkV rs[k] = la at *
      gi_wp2_with (first
        | (with_reducible refine wpListIn_callv hFn hDp rfl rfl rfl rfl ?_ ?_ hi1 (CallsIn.inRound l (callsIn_wide.2 HC1.out)) (fun e w3 he => ?_); rotate_left 2; obtain ⟨rfl, hb⟩ := he; refine ⟨_, rfl, ?_⟩; obtain ⟨x1, f2, a2, hi2, hc2⟩ := HDO.out w3 hb; have HC2 := Lib.hid hc2; clear hb HDO hc2 hi1)
        | (with_reducible refine wpListIn_callv hFn hDp rfl rfl rfl rfl ?_ ?_ hi2 (CallsIn.inRound l (callsIn_wide.2 HC2.out)) (fun e w4 he => ?_); rotate_left 2; obtain ⟨⟨v, rfl⟩, h5, h6⟩ := he; refine ⟨_, rfl, ?_⟩; have HB := Lib.hid (And.intro h5 h6); clear h5 h6))
      exact HB.out
  case done =>
    rintro W ⟨h1, h2, h3⟩ hd
    have HD := Lib.hid hd
    have et : (rs.take n).map (fun r => r.set (if pis r.h then pdo r.h else r.h)) ++ rs.drop n = rs.map (fun r => r.set (if pis r.h then pdo r.h else r.h)) := by rw [List.take_of_length_le (by omega), List.drop_of_length_le (by omega), List.append_nil]
    have ep : (p.l.take n).map (fun h => if pis h then pdo h else h) ++ p.l.drop n = p.l.map (fun h => if pis h then pdo h else h) := by rw [List.take_of_length_le (by omega), List.drop_of_length_le (by omega), List.append_nil]
    rw [et, ep] at h1
    rw [List.take_of_length_le (by omega)] at h2
    obtain ⟨⟨y0, _⟩, _⟩ := ppcells h1.top
    have HC := Lib.hid (deleteL_ok h1.hl hn6)
    have HE : Hid (∀ k W', LL W' A k c ((rs.map (fun r => r.set (if pis r.h then pdo r.h else r.h))).filter fun r => r.h.live) → Off (fun j => (Value.slice A n c).ownBlock = some j) W W' → W'.frozen? ⟨b, 0, none⟩ = false ∧ (∃ z, W'.cell? ⟨b, 0, none⟩ = some z) ∧ W'.heap[w2.heap.size]? = some (.deferred (some [])) ∧ ∀ o, Z (p.l.foldl (fun s h => if pis h then upd h s else s) s0) ((W'.setCell ⟨b, 0, none⟩ (.slice A k c)).putObj w2.heap.size o) ∧ (PP b mo idl m { p with l := sweepH (p.l.map fun h => if pis h then pdo h else h) }).p S ((W'.setCell ⟨b, 0, none⟩ (.slice A k c)).putObj w2.heap.size o) ∧ Off (fun k => S k ∨ T k) w ((W'.setCell ⟨b, 0, none⟩ (.slice A k c)).putObj w2.heap.size o)) := Lib.hid fun k W' hl ho => by
      have hP4 := h1.less List.filter_sublist hl ho
      have el : ((rs.map (fun r => r.set (if pis r.h then pdo r.h else r.h))).filter fun r => r.h.live).map Lr.h = sweepH (p.l.map fun h => if pis h then pdo h else h) := by
        rw [filter_live_map, h1.l]
        rfl
      rw [el] at hP4
      have hrow : ∀ j, (Value.slice A n c).ownBlock = some j → S j := fun j hj => h1.sl j (.inl hj)
      have htop := (ho.block b (h1.lt b h1.sb) fun e => h1.al (.inl e)).trans h1.top
      obtain ⟨⟨y1, _⟩, y2, _⟩ := ppcells htop
      have hzz := h3.size
      have hdl := (Array.getElem?_eq_some_iff.1 HD.out).1
      refine ⟨y2, ⟨_, y1⟩, (ho.block _ hdl fun e => by have := hSlt _ (hrow _ e); omega).trans HD.out, fun o => ⟨?_, ⟨_, A, k, c, rb, SR, hP4.keep (fun j hj => World.putObj_heap_other (by have := hSlt j hj; omega)) (by simp)⟩, ?_⟩⟩
      · refine hZ _ _ _ h2 fun j hj => ?_
        rw [World.putObj_heap_other (by have := hTlt j hj; omega), Below.heap_setCell _ _ _ _ (fun e => hT j hj (by first | (rw [← e]; exact h1.sb) | (rw [e]; exact h1.sb)))]
        exact ho.block j (by have := hTlt j hj; omega) fun e => hT j hj (hrow j e)
      · have ho1 : Off (fun k => S k ∨ T k) w (W'.setCell ⟨b, 0, none⟩ (.slice A k c)) := (((Off.of (fun k => S k ∨ T k) HK2.out).trans h3 fun i e => .inl e).trans ho fun i e => .inl (.inl (hrow i e))).setCell (.inl (.inl h1.sb)) _
        exact ho1.trans (off_putObj (B := w2.heap.size) _ o (.inl rfl)) fun i e => .inr (by rcases e with e | e <;> omega)
    clear h1 h2 h3 hd
    gi_wp2_with (gi_at_call 57; refine CallsIn.mono (callsIn_wide.2 HC.out) ?_; rintro e w3 ⟨k, rfl, hl3, ho3⟩; obtain ⟨q1, ⟨z, q2⟩, q3, q4⟩ := HE.out k w3 hl3 ho3; have HQ3 := Lib.hid q3; have HQ4 := Lib.hid q4; clear hl3 ho3 HE q3 q4)
    have hd5 : (w3.setCell ⟨b, 0, none⟩ (.slice A k c)).heap[w2.heap.size]? = some (.deferred (some [])) := (Below.heap_setCell _ _ _ _ (by have := hSlt b hP.sb; intro e; first | (have e' : b = w2.heap.size := e; omega) | (have e' : w2.heap.size = b := e; omega))).trans HQ3.out
    rw [hz2] at hd5 HQ4
    refine ⟨by simp, .inl ⟨_, _, rfl, run_takeDeferred hd5, ?_⟩⟩
    obtain ⟨k1, k2, k3⟩ := HQ4.out (.deferred none)
    exact ⟨_, results_none rfl _ _ _, ⟨_, rfl⟩, k1, k2, k3⟩
  case stop =>
    intro W h
    exact h.elim
end
end

/- What is done with one link, by the method's name; one of an id among those that are held. -/
section
open Go.RowKit
set_option maxRecDepth 100000
attribute [local go_sem] Oper.semAt_some wide_depth wide_fn

theorem fold_id {σ : Type} {id : Int} (ans : Hd → σ) : ∀ (s : σ) (l : List Hd), (l.Pairwise fun a b => a.id ≠ b.id) → l.foldl (fun s h => if (h.id == id) = true then ans h else s) s = if findH id l < 0 then s else ans (l.getD (findH id l).toNat default)
  | s, [], _ => by simp [findH, firstH]
  | s, x :: r, hp => by
    obtain ⟨h1, h2⟩ := List.pairwise_cons.1 hp
    rw [List.foldl_cons, fold_id ans _ r h2]
    have hge := firstH_ge (p := fun h : Hd => h.id == id) r
    cases hx : (x.id == id) with
    | true =>
      have hn : findH id r = -1 := firstH_none fun y hy => by
        have := h1 y hy
        have hx' : x.id = id := by simpa using hx
        simp only [beq_eq_false_iff_ne]
        omega
      have h0 : findH id (x :: r) = 0 := by simp [findH, firstH, hx]
      rw [hn, h0]
      simp
    | false =>
      by_cases hr : findH id r < 0
      · have h0 : findH id (x :: r) = -1 := by
          unfold findH at hr ⊢
          simp [firstH, hx, hr]
        rw [if_pos hr, h0]
        simp
      · have h0 : findH id (x :: r) = findH id r + 1 := by
          unfold findH at hr ⊢
          simp [firstH, hx, hr]
        rw [if_neg hr, h0, if_neg (by omega)]
        obtain ⟨k, hk⟩ : ∃ k : Nat, findH id r = k := ⟨(findH id r).toNat, by omega⟩
        rw [hk]
        have e : ((k : Int) + 1).toNat = k + 1 := by omega
        rw [e]
        simp
theorem map_id {id : Int} (f : Hd → Hd) (p : Pl) (hp : p.l.Pairwise fun a b => a.id ≠ b.id) : ({ p with l := sweepH (p.l.map fun h => if (h.id == id) = true then f h else h) } : Pl) = sweepP (if findH id p.l < 0 then p else onH id f p) := by
  have key : ∀ l : List Hd, (l.Pairwise fun a b => a.id ≠ b.id) → (l.map fun h => if (h.id == id) = true then f h else h) = if findH id l < 0 then l else turnH l (findH id l) f := by
    intro l
    induction l with
    | nil => intro _; simp [findH, firstH]
    | cons x r ih =>
      intro hp
      obtain ⟨h1, h2⟩ := List.pairwise_cons.1 hp
      have hge := firstH_ge (p := fun h : Hd => h.id == id) r
      rw [List.map_cons, ih h2]
      cases hx : (x.id == id) with
      | true =>
        have hn : findH id r = -1 := firstH_none fun y hy => by
          have := h1 y hy
          have hx' : x.id = id := by simpa using hx
          simp only [beq_eq_false_iff_ne]
          omega
        have h0 : findH id (x :: r) = 0 := by simp [findH, firstH, hx]
        rw [hn, h0]
        simp [turnH]
      | false =>
        simp only [Bool.false_eq_true, if_false]
        by_cases hr : findH id r < 0
        · have h0 : findH id (x :: r) = -1 := by
            unfold findH at hr ⊢
            simp [firstH, hx, hr]
          rw [if_pos hr, h0]
          simp
        · have h0 : findH id (x :: r) = findH id r + 1 := by
            unfold findH at hr ⊢
            simp [firstH, hx, hr]
          rw [if_neg hr, h0, if_neg (by omega)]
          obtain ⟨k, hk⟩ : ∃ k : Nat, findH id r = k := ⟨(findH id r).toNat, by omega⟩
          rw [hk]
          have e : ((k : Int) + 1).toNat = k + 1 := by omega
          unfold turnH
          rw [e]
          simp
  rw [key p.l hp]
  unfold sweepP onH
  split <;> rfl
/-- a method of the connection, called by its name, of a link -/
theorem inv_named {W : World} {r : Lr} (h : LK W r) (name : String) (f : FuncId) (args : Array Value)
    (hm : (Go.method (Try.prog.types.size + Made.depth) 66 (lkV r) name).run Try.prog W = ((fun v => (f, v)) <$> loadVar 70 ⟨r.l, 0, none⟩).run Try.prog W)
    (eg : ∀ args w, (callFunc f args).run Try.prog w = .ok (.enter f args) w) :
    (invoke (.fn (.methodOf 66 name) #[]) (#[lkV r] ++ args)).run Try.prog W = .ok (.enter f (#[.pointer (some ⟨r.a, 0, none⟩)] ++ args)) W := by
  have c0 := h.cells.1.1
  have hm2 : (Go.method (Try.prog.types.size + 100) 66 (lkV r) name).run Try.prog W = .ok (f, .pointer (some ⟨r.a, 0, none⟩)) W := by
    have e : Try.prog.types.size + 100 = Try.prog.types.size + Made.depth := rfl
    rw [e, hm]
    simp [loadVar, go_sem, c0]
  have hx : (#[lkV r] ++ args).extract 1 (#[lkV r] ++ args).size = args := by simp
  have hu : (underlying 66).run Try.prog W = .ok (.pointer 72) W := by kernel_rfl
  have h0 : (#[lkV r] ++ args)[0]? = some (lkV r) := by
    rw [Array.getElem?_append_left (by simp)]
    rfl
  unfold invoke
  simp only [hx, h0]
  have hm3 : ∀ n, n = Try.prog.types.size + 100 → (Go.method n 66 (lkV r) name).run Try.prog W = .ok (f, .pointer (some ⟨r.a, 0, none⟩)) W := fun n e => by rw [e]; exact hm2
  simp [go_sem, hu]
  rw [hm3 _ (by kernel_rfl)]
  exact eg _ _
end
end Go.Proofs.Ytkbaljdpnopbmaa
