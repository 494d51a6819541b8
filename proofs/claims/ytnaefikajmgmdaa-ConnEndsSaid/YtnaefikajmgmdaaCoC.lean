/-
  The project's conn in memory: Lend, Send, Reply, Soil, Release, Drain, Break: contracts.
-/
import Derived.Test.YtnaefikajmgmdaaCoB
namespace Go.Proofs.Ytnaefikajmgmdaa
open Go.RowKit
set_option maxRecDepth 100000

section
variable {b : Nat} {ep : Int} {c : Cn} {S : Nat → Prop} {w : World}
/-- a cell of it is written -/
theorem cset {cs cs' : Array Value} {t : TypeId} (hb : w.heap[b]? = some (.cells cs t (0, 0))) (i : Nat) (v : Value) (hc : cs.setIfInBounds i v = cs') : (w.setCell ⟨b, i, none⟩ v).heap[b]? = some (.cells cs' t (0, 0)) := by
  rw [← hc]
  exact heap_setCell_same w b i _ _ _ hb
theorem Off.set1 {S : Nat → Prop} {w w' : World} {b : Nat} (h : Off S w w') (hb : S b) (i : Nat) (u : Value) : Off S w (w'.setCell ⟨b, i, none⟩ u) := h.setCell (p := ⟨b, i, none⟩) (.inl hb) u

theorem clend_ok (x : Int) (h : (CC b ep c).p S w) :
    Calls Try.prog 18 #[.pointer (some ⟨b, 0, none⟩), .int .i64 x] w fun e w' => e = .returned (.bool (c.lendA x)) ∧ Turn (CC b ep (c.lendC x)) S w w' := by
  have H := Lib.hid h
  obtain ⟨z, hb, hS, _, hok⟩ := CC.at_ h
  have hk := hok.held
  obtain ⟨c1, f1⟩ := cellsAt hb 1 (v := .int .i64 c.w) rfl
  clear h
  by_cases hx : 1 ≤ x
  · cases c with
    | idle d n =>
      have H1 := Lib.hid (iSwap_hit ⟨b, 1, none⟩ 0 x w c1 f1)
      have hA : Cn.lendA x (.idle d n) = true := by simpa [Cn.lendA] using hx
      have hC : Cn.lendC x (.idle d n) = .lent x 0 d n := by simp [Cn.lendC, hx]
      have HT : Hid (Turn (CC b ep (.lent x 0 d n)) S w (w.setCell ⟨b, 1, none⟩ (.int .i64 x))) := Lib.hid (CC.turn (z := z) H.out (cset hb 1 _ rfl) ((Off.refl _ _).set1 hS 1 _) hx)
      rw [hA, hC]
      clear hb hok hk c1 f1 H hA hC
      go_enter Try.func18, Try.ntmps18
      go_wp2_with fail
      refine H1.out.mono ?_
      rintro e w1 ⟨rfl, rfl⟩
      go_wp2_with fail
      go_ret
      exact ⟨rfl, HT.out⟩
    | lent o f d n =>
      have H1 := Lib.hid (iSwap_miss ⟨b, 1, none⟩ o 0 x w c1 f1 (by have : 1 ≤ o := hk; omega))
      clear hb hok hk c1 f1
      go_enter Try.func18, Try.ntmps18
      go_wp2_with fail
      refine H1.out.mono ?_
      rintro e w1 ⟨rfl, rfl⟩
      go_wp2_with fail
      go_ret
      exact ⟨rfl, Turn.here H.out⟩
    | drains o f d n =>
      have H1 := Lib.hid (iSwap_miss ⟨b, 1, none⟩ o 0 x w c1 f1 (by have : 1 ≤ o := hk; omega))
      clear hb hok hk c1 f1
      go_enter Try.func18, Try.ntmps18
      go_wp2_with fail
      refine H1.out.mono ?_
      rintro e w1 ⟨rfl, rfl⟩
      go_wp2_with fail
      go_ret
      exact ⟨rfl, Turn.here H.out⟩
    | closed d n =>
      have H1 := Lib.hid (iSwap_miss ⟨b, 1, none⟩ (-1) 0 x w c1 f1 (by decide))
      clear hb hok hk c1 f1
      go_enter Try.func18, Try.ntmps18
      go_wp2_with fail
      refine H1.out.mono ?_
      rintro e w1 ⟨rfl, rfl⟩
      go_wp2_with fail
      go_ret
      exact ⟨rfl, Turn.here H.out⟩
  · have hA : c.lendA x = false := by cases c <;> simp [Cn.lendA]; omega
    have hC : c.lendC x = c := by cases c <;> simp [Cn.lendC, hx]
    rw [hA, hC]
    clear hb hok hk c1 f1 hA hC
    go_enter Try.func18, Try.ntmps18
    go_wp2_with fail
    go_ret
    exact ⟨rfl, Turn.here H.out⟩

set_option maxHeartbeats 1000000 in
theorem csend_ok (y : Int) (h : (CC b ep c).p S w) :
    Calls Try.prog 19 #[.pointer (some ⟨b, 0, none⟩), .int .u64 y] w fun e w' => e = .returned (.int .i64 (c.sendA y)) ∧ Turn (CC b ep (c.sendC y)) S w w' := by
  have H := Lib.hid h
  obtain ⟨z, hb, hS, _, hok⟩ := CC.at_ h
  have HS := Lib.hid (cstate_ok h)
  clear h
  by_cases hy : y = 0
  · have hA : c.sendA y = 1 := by cases c <;> simp [Cn.sendA, hy]
    have hC : c.sendC y = c := by cases c <;> simp [Cn.sendC, hy]
    have hy1 : (y == 0) = true := by simpa using hy
    rw [hA, hC]
    clear hb hok hA hC hy HS
    go_enter Try.func19, Try.ntmps19
    go_wp2_with fail
    go_ret
    exact ⟨rfl, Turn.here H.out⟩
  · have hy1 : (y == 0) = false := by simpa using hy
    cases c with
    | idle d n =>
      have hA : Cn.sendA y (.idle d n) = 7 := by simp [Cn.sendA, hy]
      rw [hA]
      clear hb hok hA hy
      go_enter Try.func19, Try.ntmps19
      go_wp2_with fail
      refine HS.out.mono ?_
      rintro e w1 ⟨rfl, rfl⟩
      dsimp only [Cn.s]
      go_wp2_with fail
      go_ret
      exact ⟨rfl, Turn.here H.out⟩
    | drains o f d n =>
      have hA : Cn.sendA y (.drains o f d n) = 7 := by simp [Cn.sendA, hy]
      rw [hA]
      clear hb hok hA hy
      go_enter Try.func19, Try.ntmps19
      go_wp2_with fail
      refine HS.out.mono ?_
      rintro e w1 ⟨rfl, rfl⟩
      dsimp only [Cn.s]
      go_wp2_with fail
      go_ret
      exact ⟨rfl, Turn.here H.out⟩
    | closed d n =>
      have hA : Cn.sendA y (.closed d n) = 7 := by simp [Cn.sendA, hy]
      rw [hA]
      clear hb hok hA hy
      go_enter Try.func19, Try.ntmps19
      go_wp2_with fail
      refine HS.out.mono ?_
      rintro e w1 ⟨rfl, rfl⟩
      dsimp only [Cn.s]
      go_wp2_with fail
      go_ret
      exact ⟨rfl, Turn.here H.out⟩
    | lent o f d n =>
      obtain ⟨c2, f2⟩ := cellsAt hb 2 (v := .int .u64 f) rfl
      by_cases hf : f = 0
      · have hA : Cn.sendA y (.lent o f d n) = 0 := by simp [Cn.sendA, hy, hf]
        have hC : Cn.sendC y (.lent o f d n) = .lent o y d (IntKind.i64.wrap (n + 1)) := by simp [Cn.sendC, hy, hf]
        rw [hA, hC]
        rw [hf] at c2
        have H1 := Lib.hid (uSwap_hit ⟨b, 2, none⟩ 0 y w c2 f2)
        have hb1 := cset hb 2 (.int .u64 y) (cs' := ccells ep (.lent o y d n) z) rfl
        have HO := Lib.hid ((Off.refl S w).set1 hS 2 (.int .u64 y))
        obtain ⟨w2, hw2⟩ : ∃ u, u = w.setCell ⟨b, 2, none⟩ (.int .u64 y) := ⟨_, rfl⟩
        rw [← hw2] at H1 hb1 HO
        obtain ⟨c3, f3⟩ := cellsAt hb1 3 (v := .int .i64 n) rfl
        have H2 := Lib.hid (iAdd_ok ⟨b, 3, none⟩ n 1 w2 c3 f3)
        have HT : Hid (Turn (CC b ep (.lent o y d (IntKind.i64.wrap (n + 1)))) S w (w2.setCell ⟨b, 3, none⟩ (.int .i64 (IntKind.i64.wrap (n + 1))))) := Lib.hid (CC.turn (z := z) H.out (cset hb1 3 _ rfl) (HO.out.set1 hS 3 _) hok)
        generalize IntKind.i64.wrap (n + 1) = m at *
        clear hb hok hA hC hy hb1 c3 f3 hf c2 f2 H HO hw2
        go_enter Try.func19, Try.ntmps19
        go_wp2_with fail
        refine HS.out.mono ?_
        rintro e w1 ⟨rfl, rfl⟩
        dsimp only [Cn.s]
        go_wp2_with fail
        refine H1.out.mono ?_
        rintro e w1 ⟨rfl, rfl⟩
        go_wp2_with fail
        refine H2.out.mono ?_
        rintro e w1 ⟨rfl, rfl⟩
        go_wp2_with fail
        go_ret
        exact ⟨rfl, HT.out⟩
      · have hA : Cn.sendA y (.lent o f d n) = 7 := by simp [Cn.sendA, hy, hf]
        have hC : Cn.sendC y (.lent o f d n) = .lent o f d n := by simp [Cn.sendC, hf]
        rw [hA, hC]
        have H1 := Lib.hid (uSwap_miss ⟨b, 2, none⟩ f 0 y w c2 f2 hf)
        clear hb hok hA hC hy hf c2 f2
        go_enter Try.func19, Try.ntmps19
        go_wp2_with fail
        refine HS.out.mono ?_
        rintro e w1 ⟨rfl, rfl⟩
        dsimp only [Cn.s]
        go_wp2_with fail
        refine H1.out.mono ?_
        rintro e w1 ⟨rfl, rfl⟩
        go_wp2_with fail
        go_ret
        exact ⟨rfl, Turn.here H.out⟩

set_option maxHeartbeats 1000000 in
theorem creply_ok (y : Int) (h : (CC b ep c).p S w) :
    Calls Try.prog 20 #[.pointer (some ⟨b, 0, none⟩), .int .u64 y] w fun e w' => e = .returned (.bool (c.replyA y)) ∧ Turn (CC b ep (c.replyC y)) S w w' := by
  have H := Lib.hid h
  obtain ⟨z, hb, hS, _, hok⟩ := CC.at_ h
  have hk := hok.held
  obtain ⟨c2, f2⟩ := cellsAt hb 2 (v := .int .u64 c.f) rfl
  clear h
  by_cases hy : y = 0
  · have hA : c.replyA y = false := by simp [Cn.replyA, hy]
    have hC : c.replyC y = c := by cases c <;> simp [Cn.replyC, hy]
    have hy1 : (y == 0) = true := by simpa using hy
    rw [hA, hC]
    clear hb hok hA hC hy c2 f2 hk
    go_enter Try.func20, Try.ntmps20
    go_wp2_with fail
    go_ret
    exact ⟨rfl, Turn.here H.out⟩
  · have hy1 : (y == 0) = false := by simpa using hy
    by_cases hf : c.f = y
    · have hA : c.replyA y = true := by simp [Cn.replyA, hy, hf]
      rw [hA]
      rw [hf] at c2
      have H1 := Lib.hid (uSwap_hit ⟨b, 2, none⟩ y 0 w c2 f2)
      cases c with
      | idle d n => exact absurd hf.symm hy
      | closed d n => exact absurd hf.symm hy
      | lent o f d n =>
        have hf' : f = y := hf
        have hC : Cn.replyC y (.lent o f d n) = .lent o 0 d n := by simp [Cn.replyC, hy, hf']
        rw [hC]
        have hb1 := cset hb 2 (.int .u64 0) (cs' := ccells ep (.lent o 0 d n) z) rfl
        have HO := Lib.hid ((Off.refl S w).set1 hS 2 (.int .u64 0))
        obtain ⟨w2, hw2⟩ : ∃ u, u = w.setCell ⟨b, 2, none⟩ (.int .u64 0) := ⟨_, rfl⟩
        rw [← hw2] at H1 hb1 HO
        have HS := Lib.hid (cstate_raw hb1 hk)
        have HT : Hid (Turn (CC b ep (.lent o 0 d n)) S w w2) := Lib.hid (CC.turn (z := z) H.out hb1 HO.out hok)
        clear hb hok hk hA hC hy hb1 hf hf' c2 f2 H HO hw2
        go_enter Try.func20, Try.ntmps20
        go_wp2_with fail
        refine H1.out.mono ?_
        rintro e w1 ⟨rfl, rfl⟩
        go_wp2_with fail
        refine HS.out.mono ?_
        rintro e w1 ⟨rfl, rfl⟩
        dsimp only [Cn.s]
        go_wp2_with fail
        go_ret
        exact ⟨rfl, HT.out⟩
      | drains o f d n =>
        have hf' : f = y := hf
        have hC : Cn.replyC y (.drains o f d n) = .closed d n := by simp [Cn.replyC, hy, hf']
        rw [hC]
        have hb1 := cset hb 2 (.int .u64 0) (cs' := ccells ep (.drains o 0 d n) z) rfl
        have HO := Lib.hid ((Off.refl S w).set1 hS 2 (.int .u64 0))
        obtain ⟨w2, hw2⟩ : ∃ u, u = w.setCell ⟨b, 2, none⟩ (.int .u64 0) := ⟨_, rfl⟩
        rw [← hw2] at H1 hb1 HO
        have HS := Lib.hid (cstate_raw hb1 hk)
        obtain ⟨d1, g1⟩ := cellsAt hb1 1 (v := .int .i64 o) rfl
        have H2 := Lib.hid (iStore_ok ⟨b, 1, none⟩ _ (-1) w2 d1 g1)
        have HT : Hid (Turn (CC b ep (.closed d n)) S w (w2.setCell ⟨b, 1, none⟩ (.int .i64 (-1)))) := Lib.hid (CC.turn (z := true) H.out (cset hb1 1 _ rfl) (HO.out.set1 hS 1 _) trivial)
        clear hb hok hk hA hC hy hb1 hf hf' c2 f2 H HO hw2 d1 g1
        go_enter Try.func20, Try.ntmps20
        go_wp2_with fail
        refine H1.out.mono ?_
        rintro e w1 ⟨rfl, rfl⟩
        go_wp2_with fail
        refine HS.out.mono ?_
        rintro e w1 ⟨rfl, rfl⟩
        dsimp only [Cn.s]
        go_wp2_with fail
        refine H2.out.mono ?_
        rintro e w1 ⟨rfl, rfl⟩
        go_wp2_with fail
        go_ret
        exact ⟨rfl, HT.out⟩
    · have hA : c.replyA y = false := by simp [Cn.replyA, hf]
      have hC : c.replyC y = c := by
        cases c <;> simp only [Cn.replyC]
        · exact if_neg (fun h => hf h.2)
        · exact if_neg (fun h => hf h.2)
      rw [hA, hC]
      have H1 := Lib.hid (uSwap_miss ⟨b, 2, none⟩ c.f y 0 w c2 f2 hf)
      clear hb hok hA hC hy hf c2 f2 hk
      generalize c.f = f at *
      go_enter Try.func20, Try.ntmps20
      go_wp2_with fail
      refine H1.out.mono ?_
      rintro e w1 ⟨rfl, rfl⟩
      go_wp2_with fail
      go_ret
      exact ⟨rfl, Turn.here H.out⟩

theorem csoil_ok (h : (CC b ep c).p S w) :
    Calls Try.prog 16 #[.pointer (some ⟨b, 0, none⟩)] w fun e w' => e = .returned (.bool c.soilA) ∧ Turn (CC b ep c.soilC) S w w' := by
  have H := Lib.hid h
  obtain ⟨z, hb, hS, _, hok⟩ := CC.at_ h
  have HS := Lib.hid (cstate_ok h)
  clear h
  cases c with
  | lent o f d n =>
    obtain ⟨c4, f4⟩ := cellsAt hb 4 (v := .int .u32 (bit d)) rfl
    have H1 := Lib.hid (bStore_ok ⟨b, 4, none⟩ _ w c4 f4)
    have HT : Hid (Turn (CC b ep (.lent o f true n)) S w (w.drew.setCell ⟨b, 4, none⟩ (.int .u32 (bit true)))) := Lib.hid (CC.turn (z := z) H.out (cset (w := w.drew) hb 4 _ rfl) ((Off.refl S w).drew.set1 hS 4 _) hok)
    clear hb hok c4 f4 H
    go_enter Try.func16, Try.ntmps16
    go_wp2_with fail
    refine HS.out.mono ?_
    rintro e w1 ⟨rfl, rfl⟩
    dsimp only [Cn.s]
    go_wp2_with fail
    refine H1.out.mono ?_
    rintro e w1 ⟨rfl, rfl⟩
    go_wp2_with fail
    go_ret
    exact ⟨rfl, HT.out⟩
  | idle d n | drains o f d n | closed d n =>
    clear hb hok
    go_enter Try.func16, Try.ntmps16
    go_wp2_with fail
    refine HS.out.mono ?_
    rintro e w1 ⟨rfl, rfl⟩
    dsimp only [Cn.s]
    go_wp2_with fail
    go_ret
    exact ⟨rfl, Turn.here H.out⟩

set_option maxHeartbeats 1000000 in
theorem crelease_ok (h : (CC b ep c).p S w) :
    Calls Try.prog 21 #[.pointer (some ⟨b, 0, none⟩)] w fun e w' => e = .returned (.bool c.releaseA) ∧ Turn (CC b ep c.releaseC) S w w' := by
  have H := Lib.hid h
  obtain ⟨z, hb, hS, _, hok⟩ := CC.at_ h
  have HS := Lib.hid (cstate_ok h)
  obtain ⟨c1, f1⟩ := cellsAt hb 1 (v := .int .i64 c.w) rfl
  have H1 := Lib.hid (iLoad_ok ⟨b, 1, none⟩ c.w w c1)
  clear h
  cases c with
  | idle d n | drains o f d n | closed d n =>
    clear hb hok c1 f1
    simp only [Cn.w] at H1
    go_enter Try.func21, Try.ntmps21
    go_wp2_with fail
    refine H1.out.mono ?_
    rintro e w1 ⟨rfl, rfl⟩
    go_wp2_with fail
    refine HS.out.mono ?_
    rintro e w1 ⟨rfl, rfl⟩
    dsimp only [Cn.s]
    go_wp2_with fail
    go_ret
    exact ⟨rfl, Turn.here H.out⟩
  | lent o f d n =>
    have H2 := Lib.hid (uLoad_ok ⟨b, 2, none⟩ f w (cellsAt hb 2 rfl).1)
    simp only [Cn.w] at H1 c1
    by_cases hf : f = 0
    · have hf1 : (f == 0) = true := by simpa using hf
      have hA : Cn.releaseA (.lent o f d n) = true := by simpa [Cn.releaseA] using hf
      have H4 := Lib.hid (bLoad_ok ⟨b, 4, none⟩ d w (cellsAt hb 4 rfl).1)
      rw [hA]
      cases d with
      | true =>
        have hC : Cn.releaseC (.lent o f true n) = .closed true n := by simp [Cn.releaseC, hf]
        have H5 := Lib.hid (iSwap_hit ⟨b, 1, none⟩ o (-1) w c1 f1)
        have HT : Hid (Turn (CC b ep (.closed true n)) S w (w.setCell ⟨b, 1, none⟩ (.int .i64 (-1)))) := Lib.hid (CC.turn (z := false) H.out (by subst hf; exact cset hb 1 _ rfl) ((Off.refl S w).set1 hS 1 _) trivial)
        rw [hC]
        clear hb hok c1 f1 H hA hC hf
        go_enter Try.func21, Try.ntmps21
        go_wp2_with fail
        refine H1.out.mono ?_
        rintro e w1 ⟨rfl, rfl⟩
        go_wp2_with fail
        refine HS.out.mono ?_
        rintro e w1 ⟨rfl, rfl⟩
        dsimp only [Cn.s]
        go_wp2_with fail
        refine H2.out.mono ?_
        rintro e w1 ⟨rfl, rfl⟩
        go_wp2_with fail
        refine H4.out.mono ?_
        rintro e w1 ⟨rfl, rfl⟩
        go_wp2_with fail
        refine H5.out.mono ?_
        rintro e w1 ⟨rfl, rfl⟩
        go_wp2_with fail
        go_ret
        exact ⟨rfl, HT.out⟩
      | false =>
        have hC : Cn.releaseC (.lent o f false n) = .idle false n := by simp [Cn.releaseC, hf]
        have H5 := Lib.hid (iSwap_hit ⟨b, 1, none⟩ o 0 w c1 f1)
        have HT : Hid (Turn (CC b ep (.idle false n)) S w (w.setCell ⟨b, 1, none⟩ (.int .i64 0))) := Lib.hid (CC.turn (z := false) H.out (by subst hf; exact cset hb 1 _ rfl) ((Off.refl S w).set1 hS 1 _) trivial)
        rw [hC]
        clear hb hok c1 f1 H hA hC hf
        go_enter Try.func21, Try.ntmps21
        go_wp2_with fail
        refine H1.out.mono ?_
        rintro e w1 ⟨rfl, rfl⟩
        go_wp2_with fail
        refine HS.out.mono ?_
        rintro e w1 ⟨rfl, rfl⟩
        dsimp only [Cn.s]
        go_wp2_with fail
        refine H2.out.mono ?_
        rintro e w1 ⟨rfl, rfl⟩
        go_wp2_with fail
        refine H4.out.mono ?_
        rintro e w1 ⟨rfl, rfl⟩
        go_wp2_with fail
        refine H5.out.mono ?_
        rintro e w1 ⟨rfl, rfl⟩
        go_wp2_with fail
        go_ret
        exact ⟨rfl, HT.out⟩
    · have hf1 : (f == 0) = false := by simpa using hf
      have hA : Cn.releaseA (.lent o f d n) = false := by simpa [Cn.releaseA] using hf
      have hC : Cn.releaseC (.lent o f d n) = .lent o f d n := by simp [Cn.releaseC, hf]
      rw [hA, hC]
      clear hb hok c1 f1 hA hC hf
      go_enter Try.func21, Try.ntmps21
      go_wp2_with fail
      refine H1.out.mono ?_
      rintro e w1 ⟨rfl, rfl⟩
      go_wp2_with fail
      refine HS.out.mono ?_
      rintro e w1 ⟨rfl, rfl⟩
      dsimp only [Cn.s]
      go_wp2_with fail
      refine H2.out.mono ?_
      rintro e w1 ⟨rfl, rfl⟩
      go_wp2_with fail
      go_ret
      exact ⟨rfl, Turn.here H.out⟩

theorem cdrain_ok (h : (CC b ep c).p S w) :
    Calls Try.prog 17 #[.pointer (some ⟨b, 0, none⟩)] w fun e w' => e = .returned (.tuple #[]) ∧ Turn (CC b ep c.drainC) S w w' := by
  have H := Lib.hid h
  obtain ⟨z, hb, hS, _, hok⟩ := CC.at_ h
  obtain ⟨c1, f1⟩ := cellsAt hb 1 (v := .int .i64 c.w) rfl
  obtain ⟨c5, f5⟩ := cellsAt hb 5 (v := .int .u32 (bit (c.g z))) rfl
  have H2 := Lib.hid (uLoad_ok ⟨b, 2, none⟩ c.f w (cellsAt hb 2 rfl).1)
  have H1 := Lib.hid (iStore_ok ⟨b, 1, none⟩ _ (-1) w c1 f1)
  have H5 := Lib.hid (bStore_ok ⟨b, 5, none⟩ _ w c5 f5)
  clear h c1 f1 c5 f5
  by_cases hf : c.f = 0
  · have HT : Hid (Turn (CC b ep c.drainC) S w (w.setCell ⟨b, 1, none⟩ (.int .i64 (-1)))) := Lib.hid (by
      cases c with
      | idle d n => exact CC.turn (z := false) H.out (cset hb 1 _ rfl) ((Off.refl S w).set1 hS 1 _) trivial
      | lent o f d n =>
        have hf' : f = 0 := hf
        subst hf'
        exact CC.turn (z := false) H.out (cset hb 1 _ rfl) ((Off.refl S w).set1 hS 1 _) trivial
      | drains o f d n => exact absurd hf hok.2
      | closed d n => exact CC.turn (z := z) H.out (cset hb 1 _ rfl) ((Off.refl S w).set1 hS 1 _) trivial)
    have hf1 : (c.f == 0) = true := by simpa using hf
    generalize c.drainC = c' at *
    generalize c.f = f at *
    clear hb hok H hf H5
    go_enter Try.func17, Try.ntmps17
    go_wp2_with fail
    refine H2.out.mono ?_
    rintro e w1 ⟨rfl, rfl⟩
    go_wp2_with fail
    refine H1.out.mono ?_
    rintro e w1 ⟨rfl, rfl⟩
    go_wp2_with fail
    go_end0
    exact ⟨rfl, HT.out⟩
  · have HT : Hid (Turn (CC b ep c.drainC) S w (w.drew.setCell ⟨b, 5, none⟩ (.int .u32 (bit true)))) := Lib.hid (by
      cases c with
      | idle d n => exact absurd rfl hf
      | lent o f d n =>
        have hf' : f ≠ 0 := hf
        have hC : Cn.drainC (.lent o f d n) = .drains o f d n := by simp [Cn.drainC, hf']
        rw [hC]
        exact CC.turn (z := z) H.out (cset (w := w.drew) hb 5 _ rfl) ((Off.refl S w).drew.set1 hS 5 _) ⟨hok, hf'⟩
      | drains o f d n => exact CC.turn (z := z) H.out (cset (w := w.drew) hb 5 _ rfl) ((Off.refl S w).drew.set1 hS 5 _) hok
      | closed d n => exact absurd rfl hf)
    have hf1 : (c.f == 0) = false := by simpa using hf
    generalize c.drainC = c' at *
    generalize c.f = f at *
    clear hb hok H hf H1
    go_enter Try.func17, Try.ntmps17
    go_wp2_with fail
    refine H2.out.mono ?_
    rintro e w1 ⟨rfl, rfl⟩
    go_wp2_with fail
    refine H5.out.mono ?_
    rintro e w1 ⟨rfl, rfl⟩
    go_wp2_with fail
    first | go_end0 | (simp only [Exit.inBlock, Exit.then]; refine bodyPost_ret (results_none rfl _ _ _) rfl ?_) | refine bodyPost_ret (results_none rfl _ _ _) rfl ?_
    exact ⟨rfl, HT.out⟩

theorem cbreak_ok (h : (CC b ep c).p S w) :
    Calls Try.prog 22 #[.pointer (some ⟨b, 0, none⟩)] w fun e w' => e = .returned (.int .u64 c.f) ∧ Turn (CC b ep c.breakC) S w w' := by
  have H := Lib.hid h
  obtain ⟨z, hb, hS, _, hok⟩ := CC.at_ h
  obtain ⟨c1, f1⟩ := cellsAt hb 1 (v := .int .i64 c.w) rfl
  have H1 := Lib.hid (iStore_ok ⟨b, 1, none⟩ _ (-1) w c1 f1)
  have hb1 : (w.setCell ⟨b, 1, none⟩ (.int .i64 (-1))).heap[b]? = some (.cells #[.int .u64 ep, .int .i64 (-1), .int .u64 c.f, .int .i64 c.n, .int .u32 (bit c.d), .int .u32 (bit (c.g z))] 58 (0, 0)) := cset hb 1 _ rfl
  have HO := Lib.hid ((Off.refl S w).set1 hS 1 (.int .i64 (-1)))
  obtain ⟨w2, hw2⟩ : ∃ u, u = w.setCell ⟨b, 1, none⟩ (.int .i64 (-1)) := ⟨_, rfl⟩
  rw [← hw2] at H1 hb1 HO
  obtain ⟨c2, f2⟩ := cellsAt hb1 2 (v := .int .u64 c.f) rfl
  have H2 := Lib.hid (uChange_ok ⟨b, 2, none⟩ c.f 0 w2 c2 f2)
  have HT : Hid (Turn (CC b ep c.breakC) S w (w2.setCell ⟨b, 2, none⟩ (.int .u64 0))) := Lib.hid (CC.turn (z := c.g z) H.out (cset hb1 2 _ rfl) (HO.out.set1 hS 2 _) trivial)
  clear h hb hok H hb1 c1 f1 c2 f2 HO hw2
  generalize c.breakC = c' at *
  generalize c.f = f at *
  go_enter Try.func22, Try.ntmps22
  go_wp2_with fail
  refine H1.out.mono ?_
  rintro e w1 ⟨rfl, rfl⟩
  go_wp2_with fail
  refine H2.out.mono ?_
  rintro e w1 ⟨rfl, rfl⟩
  go_wp2_with fail
  go_ret
  exact ⟨rfl, HT.out⟩
end
end Go.Proofs.Ytnaefikajmgmdaa
