/-
  Connections: what follows of their end, as plain mathematics (no function of the program is named here).
-/
import Derived.Test.YtnaefikajmgmdaaCoP
namespace Go.Proofs.Ytnaefikajmgmdaa
open Go.RowKit
set_option maxRecDepth 100000

namespace Cn
theorem closed_do (t : Act3) {c : Cn} (h : c.s = 4) : (c.doC t).s = 4 := by
  cases c with
  | idle e n | lent o f e n | drains o f e n => exact absurd h (by simp [Cn.s])
  | closed e n =>
    obtain ⟨d, x, y⟩ := t
    unfold doC
    dsimp only
    (repeat' split) <;> rfl
theorem ends_do (t : Act3) {c : Cn} (h : c.s = 3 ∨ c.s = 4) : ((c.doC t).s = 3 ∨ (c.doC t).s = 4) ∧ (t.d = 1 → (c.doA t).e ≠ 0) := by
  obtain ⟨d, x, y⟩ := t
  cases c with
  | idle e n | lent o f e n => exact absurd h (by simp [Cn.s])
  | closed e n =>
    refine ⟨.inr (closed_do _ rfl), fun h1 => ?_⟩
    dsimp only at h1
    subst h1
    show sendA y (.closed e n) ≠ 0
    simp only [sendA]
    split <;> decide
  | drains o f e n =>
    refine ⟨?_, fun h1 => ?_⟩
    · unfold doC
      dsimp only
      (repeat' split) <;> first | exact .inl rfl | exact .inr rfl | (simp only [replyC]; split <;> first | exact .inl rfl | exact .inr rfl)
    · dsimp only at h1
      subst h1
      show sendA y (.drains o f e n) ≠ 0
      simp only [sendA]
      split <;> decide
theorem dirty_do (t : Act3) {c : Cn} (h : c.d = true ∧ c.s ≠ 1) : (c.doC t).d = true ∧ (c.doC t).s ≠ 1 := by
  obtain ⟨d, x, y⟩ := t
  cases c with
  | idle e n => exact absurd rfl h.2
  | closed e n =>
    unfold doC
    dsimp only
    (repeat' split) <;> exact h
  | drains o f e n =>
    obtain rfl : e = true := h.1
    unfold doC
    dsimp only
    (repeat' split) <;> first | exact ⟨rfl, (by decide : ¬ (3 : Int) = 1)⟩ | exact ⟨rfl, (by decide : ¬ (4 : Int) = 1)⟩ | (simp only [replyC]; split <;> first | exact ⟨rfl, (by decide : ¬ (3 : Int) = 1)⟩ | exact ⟨rfl, (by decide : ¬ (4 : Int) = 1)⟩)
  | lent o f e n =>
    obtain rfl : e = true := h.1
    unfold doC
    dsimp only
    (repeat' split) <;> (try simp only [lendC, sendC, replyC, soilC, releaseC, drainC, breakC]) <;> (repeat' split) <;> first | exact ⟨rfl, (by decide : ¬ (2 : Int) = 1)⟩ | exact ⟨rfl, (by decide : ¬ (3 : Int) = 1)⟩ | exact ⟨rfl, (by decide : ¬ (4 : Int) = 1)⟩ | (exfalso; simp_all)
theorem soil_do {c : Cn} (h : c.soilA = true) : c.soilC.d = true ∧ c.soilC.s ≠ 1 := by
  cases c with
  | lent o f e n => exact ⟨rfl, (by decide : ¬ (2 : Int) = 1)⟩
  | idle e n | drains o f e n | closed e n => cases h
theorem drain_do {c : Cn} (h : c.ok) : (c.drainC.s = 3 ∧ c.drainC.f ≠ 0) ∨ (c.drainC.s = 4 ∧ c.drainC.f = 0) := by
  cases c with
  | idle e n | closed e n => exact .inr ⟨rfl, rfl⟩
  | drains o f e n => exact .inl ⟨rfl, h.2⟩
  | lent o f e n =>
    simp only [drainC]
    split
    · exact .inr ⟨rfl, rfl⟩
    · exact .inl ⟨rfl, by assumption⟩
end Cn
end Go.Proofs.Ytnaefikajmgmdaa
