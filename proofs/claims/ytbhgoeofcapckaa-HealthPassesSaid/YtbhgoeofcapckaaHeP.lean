/-
  A node's health, plain: settings, probes, states, and a step (no function of the program is named here).
-/
import Derived.Test.YtbhgoeofcapckaaRowN
namespace Go.Proofs.Ytbhgoeofcapckaa
open Go.RowKit
set_option maxRecDepth 100000

structure HCf where
  f : Int
  p : Int
  l : Int
structure HSt where
  i : Int
  c : Int
deriving DecidableEq
structure HPr where
  o : Bool
  l : Int
def HCf.v (c : HCf) : Value := .agg #[.int .i64 c.f, .int .i64 c.p, .int .u64 c.l]
def HSt.v (s : HSt) : Value := .agg #[.int .i64 s.i, .int .i64 s.c]
def HPr.v (p : HPr) : Value := .agg #[.bool p.o, .int .u64 p.l]
def HPr.cells (p : HPr) : List Value := [.bool p.o, .int .u64 p.l]
def rightHe (c : HCf) : Bool := decide (1 ≤ c.f ∧ c.f ≤ 1000 ∧ 1 ≤ c.p ∧ c.p ≤ 1000 ∧ c.l ≤ 1000)
def passHe (c : HCf) (p : HPr) : Bool := p.o && decide (p.l ≤ c.l)
/-- behind a probe -/
def stepHe (c : HCf) (s : HSt) (p : HPr) : HSt :=
  if s.i < 1 ∨ 3 < s.i then s
  else if passHe c p = true then
    (if s.i = 1 then ⟨1, 0⟩ else if c.p ≤ (if s.i = 3 then s.c + 1 else 1) then ⟨1, 0⟩ else ⟨3, if s.i = 3 then s.c + 1 else 1⟩)
  else if s.i = 1 ∧ p.o = false ∧ s.c + 1 < c.f then ⟨1, s.c + 1⟩ else ⟨2, 0⟩
def onHe (s : HSt) : HSt := if s.i = 4 then ⟨2, 0⟩ else s

/-- how a node that began Online is -/
structure HInv (c : HCf) (s : HSt) : Prop where
  lo : 1 ≤ s.i
  hi : s.i ≤ 3
  c0 : 0 ≤ s.c
  cm : s.c < c.f ∨ s.c < c.p
theorem HInv.new {c : HCf} (h : rightHe c = true) : HInv c ⟨1, 0⟩ := by
  have := of_decide_eq_true h
  exact ⟨by simp, by simp, by simp, .inl (show (0 : Int) < c.f by omega)⟩
theorem HInv.step {c : HCf} {s : HSt} (hr : rightHe c = true) (h : HInv c s) (p : HPr) : HInv c (stepHe c s p) := by
  have hr := of_decide_eq_true hr
  obtain ⟨h1, h2, h3, h4⟩ := h
  unfold stepHe
  rw [if_neg (by omega)]
  have e0 : ∀ i : Int, 1 ≤ i → i ≤ 3 → HInv c ⟨i, 0⟩ := fun i a b => ⟨a, b, Int.le_refl _, .inl (show (0 : Int) < c.f by omega)⟩
  by_cases hp : passHe c p = true
  · rw [if_pos hp]
    by_cases e1 : s.i = 1
    · rw [if_pos e1]
      exact e0 1 (by omega) (by omega)
    rw [if_neg e1]
    obtain ⟨n, hn⟩ : ∃ n, (if s.i = 3 then s.c + 1 else 1) = n := ⟨_, rfl⟩
    have hn0 : 0 ≤ n := by rw [← hn]; split <;> omega
    rw [hn]
    by_cases e4 : c.p ≤ n
    · rw [if_pos e4]
      exact e0 1 (by omega) (by omega)
    · rw [if_neg e4]
      exact ⟨by simp, by simp, hn0, .inr (show n < c.p by omega)⟩
  · rw [if_neg hp]
    split
    · rename_i hh
      exact ⟨by simp, by simp, show 0 ≤ s.c + 1 by omega, .inl (show s.c + 1 < c.f from hh.2.2)⟩
    · exact e0 2 (by omega) (by omega)
theorem HInv.small {c : HCf} {s : HSt} (hr : rightHe c = true) (h : HInv c s) : 0 ≤ s.c ∧ s.c ≤ 1000 := by
  have hr := of_decide_eq_true hr
  obtain ⟨h1, h2, h3, h4⟩ := h
  omega
/-- it failed -/
theorem step_lag {c : HCf} {s : HSt} (h1 : 1 ≤ s.i) (h2 : s.i ≤ 3) {p : HPr} (ho : p.o = true) (hl : c.l < p.l) : stepHe c s p = ⟨2, 0⟩ := by
  unfold stepHe
  have hp : passHe c p = false := by unfold passHe; rw [decide_eq_false (by omega), Bool.and_false]
  rw [if_neg (by omega), if_neg (by rw [hp]; simp), if_neg (by rw [ho]; simp)]
theorem step_off {c : HCf} {p : HPr} {n : Int} : stepHe c ⟨4, n⟩ p = ⟨4, n⟩ := by
  unfold stepHe
  rw [if_pos (by simp)]
/-- behind so many that pass: how one is that was so -/
def PassI (c : HCf) (s : HSt) (k : Nat) (t : HSt) : Prop :=
  HInv c t ∧ (t = ⟨1, 0⟩ ∨ (t.i = 3 ∧ t.c < c.p ∧ (k : Int) ≤ t.c) ∨ (k = 0 ∧ t = s)) ∧ (s.i = 2 → (k : Int) < c.p → t.i ≠ 1 ∧ (t.i = 3 → t.c = k))
theorem PassI.zero {c : HCf} {s : HSt} (h : HInv c s) : PassI c s 0 s := by
  refine ⟨h, ?_, fun e _ => ⟨by omega, fun e3 => by omega⟩⟩
  exact .inr (.inr ⟨rfl, rfl⟩)
theorem PassI.step {c : HCf} {s t : HSt} {k : Nat} {p : HPr} (hr : rightHe c = true) (h : PassI c s k t) (hk : (k : Int) < c.p) (hp : passHe c p = true) : PassI c s (k + 1) (stepHe c t p) := by
  have hr' := of_decide_eq_true hr
  obtain ⟨hi, h1, h2⟩ := h
  have h0 := hi.c0
  have hlo := hi.lo
  have hhi := hi.hi
  refine ⟨hi.step hr p, ?_, ?_⟩
  · unfold stepHe
    rw [if_neg (by omega), if_pos hp]
    by_cases e1 : t.i = 1
    · rw [if_pos e1]; exact .inl rfl
    rw [if_neg e1]
    by_cases e3 : t.i = 3
    · rw [if_pos e3]
      by_cases e4 : c.p ≤ t.c + 1
      · rw [if_pos e4]; exact .inl rfl
      · rw [if_neg e4]
        refine .inr (.inl ⟨rfl, show t.c + 1 < c.p by omega, ?_⟩)
        show ((k + 1 : Nat) : Int) ≤ t.c + 1
        rcases h1 with h | ⟨_, _, h⟩ | ⟨rfl, _⟩
        · exact absurd (congrArg HSt.i h) e1
        all_goals omega
    · rw [if_neg e3]
      by_cases e4 : c.p ≤ 1
      · rw [if_pos e4]; exact .inl rfl
      · rw [if_neg e4]
        refine .inr (.inl ⟨rfl, show (1 : Int) < c.p by omega, ?_⟩)
        show ((k + 1 : Nat) : Int) ≤ 1
        rcases h1 with h | ⟨h, _⟩ | ⟨rfl, _⟩
        · exact absurd (congrArg HSt.i h) e1
        all_goals omega
  · intro hs hk1
    obtain ⟨g1, g2⟩ := h2 hs hk
    unfold stepHe
    rw [if_neg (by omega), if_pos hp, if_neg g1]
    by_cases e3 : t.i = 3
    · have := g2 e3
      rw [if_pos e3, if_neg (by omega)]
      exact ⟨by simp, fun _ => by show t.c + 1 = _; omega⟩
    · have h20 : k = 0 := by
        rcases h1 with h | ⟨h, _⟩ | ⟨h, _⟩
        · exact absurd (congrArg HSt.i h) g1
        all_goals omega
      subst h20
      rw [if_neg e3, if_neg (by omega)]
      exact ⟨by simp, fun _ => by simp⟩
theorem PassI.done {c : HCf} {s t : HSt} {k : Nat} (hr : rightHe c = true) (h : PassI c s k t) (hk : (k : Int) = c.p) : t = ⟨1, 0⟩ := by
  have hr' := of_decide_eq_true hr
  obtain ⟨_, h1, _⟩ := h
  rcases h1 with h | ⟨_, _, _⟩ | ⟨rfl, _⟩
  · exact h
  all_goals omega
/-- one that serves, behind so many that have no answer -/
theorem step_fail {c : HCf} {k : Nat} (l : Int) (hk : (k : Int) < c.f) : stepHe c ⟨1, k⟩ ⟨false, l⟩ = if (k : Int) + 1 = c.f then ⟨2, 0⟩ else ⟨1, (k + 1 : Nat)⟩ := by
  unfold stepHe
  rw [if_neg (by simp), if_neg (by simp [passHe])]
  by_cases e : (k : Int) + 1 = c.f
  · rw [if_pos e, if_neg (by simp; omega)]
  · rw [if_neg e, if_pos (by simp; omega)]
    simp
end Go.Proofs.Ytbhgoeofcapckaa
