/-
  Connections: what follows of acts, as plain mathematics (no function of the program is named here).
-/
import Derived.Test.YtnaefikajmgmdaaCoP
namespace Go.Proofs.Ytnaefikajmgmdaa
open Go.RowKit
set_option maxRecDepth 100000

namespace Cn
theorem ok_free : ∀ {c : Cn}, c.ok → c.o = 0 → c.f = 0
  | idle _ _, _, _ => rfl
  | lent o _ _ _, h, e => by have h1 : 1 ≤ o := h; have h2 : o = 0 := e; omega
  | drains o _ _ _, h, e => by have h1 : 1 ≤ o := h.1; have h2 : o = 0 := e; omega
  | closed _ _, _, _ => rfl
theorem ok_do (t : Act3) {c : Cn} (h : c.ok) : (c.doC t).ok := by
  obtain ⟨d, x, y⟩ := t
  unfold doC
  dsimp only
  split
  · cases c <;> simp only [lendC] <;> first | exact h | (split <;> first | assumption | exact h)
  split
  · cases c <;> simp only [sendC] <;> first | exact h | (split <;> first | exact h | (split <;> exact h))
  split
  · cases c <;> simp only [replyC] <;> first | exact h | (split <;> first | exact h | trivial)
  split
  · cases c <;> exact h
  split
  · cases c <;> simp only [releaseC] <;> first | exact h | (split <;> first | exact h | (split <;> trivial))
  split
  · cases c <;> simp only [drainC] <;> first | exact h | trivial | (split <;> first | trivial | exact ⟨h, by assumption⟩)
  split
  · trivial
  · exact h
/-- an act on one that somebody has, or nobody -/
structure OneF (d x y co cf cs cn n2 f2 c2n ve : Int) (vi : Bool) : Prop where
  q1 : co ≠ 0 → n2 ≠ 0 → n2 = co
  q2 : co = 0 → n2 ≠ 0 → d = 0 ∧ n2 = x ∧ cs = 1 ∧ f2 = 0
  q2v : co = 0 → n2 ≠ 0 → vi = true
  q3 : d = 1 → ve = 0 → co ≠ 0 ∧ n2 = co ∧ cf = 0 ∧ f2 = y ∧ y ≠ 0
  q3n : d = 1 → ve = 0 → IntKind.i64.wrap (cn + 1) = c2n
  q4 : ¬ (d = 1 ∧ ve = 0) → c2n = cn
  q5 : d = 2 → vi = decide (y ≠ 0 ∧ cf = y)
  q6 : f2 ≠ 0 → n2 ≠ 0
theorem ok_busy {c : Cn} (h : c.ok) (e : c.f ≠ 0) : c.o ≠ 0 := fun h0 => e (ok_free h h0)
theorem oneF (t : Act3) {c : Cn} (h : c.ok) : OneF t.d t.x t.y c.o c.f c.s c.n (c.doC t).o (c.doC t).f (c.doC t).n (c.doA t).e (c.doA t).i := by
  have hok := ok_do t h
  refine ⟨?_, ?_, ?_, ?_, ?_, ?_, ?_, ok_busy hok⟩
  all_goals
    clear hok
    obtain ⟨d, x, y⟩ := t
    try dsimp only
  · intro h1
    cases c with
    | idle e n | closed e n => exact absurd rfl h1
    | lent o f e n | drains o f e n =>
      clear h h1
      unfold doC
      dsimp only
      (repeat' split) <;> simp only [lendC, sendC, replyC, soilC, releaseC, drainC, breakC] <;> (repeat' split) <;> first | (intro _; rfl) | (intro _; trivial) | (intro h; exact absurd rfl h)
  · unfold doC
    dsimp only
    cases c with
    | lent o f e n => intro h1; have h2 : 1 ≤ o := h; have h3 : o = 0 := h1; omega
    | drains o f e n => intro h1; have h2 : 1 ≤ o := h.1; have h3 : o = 0 := h1; omega
    | closed e n =>
      intro _ h2
      exfalso
      revert h2
      (repeat' split) <;> simp [lendC, sendC, replyC, soilC, releaseC, drainC, breakC, Cn.o]
    | idle e n =>
      split
      · simp only [lendC]
        split
        · intro _ _
          exact ⟨by assumption, rfl, rfl, rfl⟩
        · intro _ h2
          exact absurd rfl h2
      · intro _ h2
        exfalso
        revert h2
        (repeat' split) <;> simp [sendC, replyC, soilC, releaseC, drainC, breakC, Cn.o]
  · unfold doC doA
    dsimp only
    cases c with
    | lent o f e n => intro h1; have h2 : 1 ≤ o := h; have h3 : o = 0 := h1; omega
    | drains o f e n => intro h1; have h2 : 1 ≤ o := h.1; have h3 : o = 0 := h1; omega
    | closed e n =>
      intro _ h2
      exfalso
      revert h2
      (repeat' split) <;> simp [lendC, sendC, replyC, soilC, releaseC, drainC, breakC, Cn.o]
    | idle e n =>
      split
      · simp only [lendC, lendA]
        split
        · intro _ _
          exact decide_eq_true (by assumption)
        · intro _ h2
          exact absurd rfl h2
      · intro _ h2
        exfalso
        revert h2
        (repeat' split) <;> simp [sendC, replyC, soilC, releaseC, drainC, breakC, Cn.o]
  · intro h1
    subst h1
    have e1 : Cn.doC ⟨1, x, y⟩ c = c.sendC y := rfl
    have e2 : Cn.doA ⟨1, x, y⟩ c = ⟨false, c.sendA y, 0⟩ := rfl
    rw [e1, e2]
    dsimp only
    by_cases hy : y = 0
    · intro h2
      exfalso
      revert h2
      cases c <;> simp [sendA, hy]
    cases c with
    | lent o f e n =>
      have h2 : 1 ≤ o := h
      by_cases hf : f = 0
      · intro _
        simp only [sendC, if_neg hy, if_pos hf]
        exact ⟨by show o ≠ 0; omega, rfl, hf, rfl, hy⟩
      · intro h3
        exfalso
        revert h3
        simp [sendA, hy, hf]
    | idle e n | drains o f e n | closed e n =>
      intro h3
      exfalso
      revert h3
      simp [sendA, hy]
  · intro h1
    subst h1
    have e1 : Cn.doC ⟨1, x, y⟩ c = c.sendC y := rfl
    have e2 : Cn.doA ⟨1, x, y⟩ c = ⟨false, c.sendA y, 0⟩ := rfl
    rw [e1, e2]
    dsimp only
    by_cases hy : y = 0
    · intro h2
      exfalso
      revert h2
      cases c <;> simp [sendA, hy]
    cases c with
    | lent o f e n =>
      by_cases hf : f = 0
      · intro _
        simp only [sendC, if_neg hy, if_pos hf]
        rfl
      · intro h3
        exfalso
        revert h3
        simp [sendA, hy, hf]
    | idle e n | drains o f e n | closed e n =>
      intro h3
      exfalso
      revert h3
      simp [sendA, hy]
  · by_cases h1 : d = 1
    · subst h1
      have e1 : Cn.doC ⟨1, x, y⟩ c = c.sendC y := rfl
      have e2 : Cn.doA ⟨1, x, y⟩ c = ⟨false, c.sendA y, 0⟩ := rfl
      rw [e1, e2]
      dsimp only
      intro h3
      have h4 : c.sendA y ≠ 0 := fun e => h3 ⟨rfl, e⟩
      revert h4
      cases c with
      | lent o f e n =>
        simp only [sendA, sendC]
        (repeat' split) <;> first | (intro _; rfl) | (intro h; exact absurd rfl h)
      | idle e n | drains o f e n | closed e n => intro _; rfl
    · intro _
      unfold doC
      dsimp only
      rw [if_neg h1]
      cases c <;> (repeat' split) <;> simp only [lendC, replyC, soilC, releaseC, drainC, breakC] <;> (repeat' split) <;> rfl
  · intro h1
    subst h1
    rfl
end Cn
end Go.Proofs.Ytnaefikajmgmdaa
