/-
  A plan of probes, plain: where time goes on by one, and all is answered, or nothing.
-/
import Derived.Test.YtgneieelfapmcaaPrO
namespace Go.Proofs.Ytgneieelfapmcaa
open Go.RowKit
set_option maxRecDepth 100000

/-- a node ahead of the Tick at now -/
def NdA (ans : Bool) (ev la st now : Int) (j : Nat) (x : Nw) : Prop :=
  (now ≤ j ∧ x.d = j ∧ x.o = 0) ∨ (∃ q : Nat, x.a = j + st * q ∧ x.a < now ∧ now ≤ x.a + st ∧ x.d = x.a + ev ∧ (x.o ≠ 0 ↔ (ans = false ∧ now ≤ x.a + la)))
def stepA (ans : Bool) (ev la : Int) : Int := if ans = true then ev else if ev < la then la else ev
theorem stepA_pos {ans : Bool} {ev la : Int} (h1 : 1 ≤ ev) : 1 ≤ stepA ans ev la := by
  unfold stepA
  split
  · exact h1
  · split <;> omega
/-- it is asked just then -/
theorem NdA.ask {ans : Bool} {ev la now : Int} {j : Nat} {x : Nw} (h : NdA ans ev la (stepA ans ev la) now j x) (h1 : 1 ≤ ev) : askB now (dropN la now x) = decide ((j : Int) ≤ now ∧ (now - j) % stepA ans ev la = 0) := by
  have hst := stepA_pos (ans := ans) (la := la) h1
  have hd := dropN_d la now x
  unfold askB
  rw [hd.1]
  rcases h with ⟨a1, a2, a3⟩ | ⟨q, a1, a2, a3, a4, a5⟩
  · have ho : (dropN la now x).o = 0 := by rcases hd.2.2 with g | g <;> omega
    rw [ho, a2]
    by_cases e : now = j
    · subst e
      simp
    · rw [decide_eq_false (by omega), decide_eq_false (by omega)]
  · have ho : (dropN la now x).o = 0 ↔ (x.o = 0 ∨ x.a + la ≤ now) := by
      unfold dropN
      cases hl : lateB la now x with
      | true =>
        have := (of_decide_eq_true hl).2
        exact ⟨fun _ => .inr this, fun _ => rfl⟩
      | false =>
        have := of_decide_eq_false hl
        exact ⟨fun h => .inl h, fun h => h.elim id fun h => Classical.byContradiction fun hn => this ⟨hn, h⟩⟩
    have hr : now - j = stepA ans ev la * q + (now - x.a) := by omega
    have hm : (now - j) % stepA ans ev la = (now - x.a) % stepA ans ev la := by rw [hr, Int.mul_add_emod_self_left]
    have hz : (now - x.a) % stepA ans ev la = 0 ↔ now = x.a + stepA ans ev la := by
      constructor
      · intro h
        by_cases e : now - x.a < stepA ans ev la
        · rw [Int.emod_eq_of_lt (by omega) e] at h
          omega
        · omega
      · intro h
        rw [show now - x.a = stepA ans ev la by omega, Int.emod_self]
    have hj : (j : Int) ≤ now := by
      have : 0 ≤ stepA ans ev la * (q : Int) := Int.mul_nonneg (by omega) (by omega)
      omega
    rw [hm]
    rw [Bool.eq_iff_iff, decide_eq_true_iff, decide_eq_true_iff, hz, ho, a4]
    cases ans with
    | true =>
      have o0 : x.o = 0 := Classical.byContradiction fun hn => by have := (a5.1 hn).1; cases this
      have hs : stepA true ev la = ev := rfl
      rw [hs] at a3 ⊢
      omega
    | false =>
      have o0 : x.o = 0 ↔ x.a + la < now := ⟨fun h => Classical.byContradiction fun hn => (a5.2 ⟨rfl, by omega⟩) h, fun h => Classical.byContradiction fun hn => by have := (a5.1 hn).2; omega⟩
      have hs : stepA false ev la = if ev < la then la else ev := by simp [stepA]
      rw [hs] at a3 ⊢
      rw [o0]
      split at a3 <;> rename_i hl
      · rw [if_pos hl]; omega
      · rw [if_neg hl]; omega
/-- where all is answered nothing is late -/
theorem NdA.notLate {ev la st now : Int} {j : Nat} {x : Nw} (h : NdA true ev la st now j x) : lateB la now x = false := by
  unfold lateB
  rw [decide_eq_false_iff_not]
  rintro ⟨h1, _⟩
  rcases h with ⟨_, _, a3⟩ | ⟨q, _, _, _, _, a5⟩
  · exact h1 a3
  · have := (a5.1 h1).1
    cases this
/-- the next -/
theorem NdA.next {ans : Bool} {ev la now n : Int} {j : Nat} {x : Nw} (h : NdA ans ev la (stepA ans ev la) now j x) (h1 : 1 ≤ ev) (h2 : 1 ≤ la) (hn : n ≠ 0) {y : Nw} (hy : y = if askB now (dropN la now x) = true then ⟨now + ev, n, now⟩ else dropN la now x) :
    NdA ans ev la (stepA ans ev la) (now + 1) j (bif ans then { y with o := 0 } else y) := by
  have hst := stepA_pos (ans := ans) (la := la) h1
  have hd := dropN_d la now x
  by_cases ha : askB now (dropN la now x) = true
  · rw [if_pos ha] at hy
    subst hy
    rw [h.ask h1, decide_eq_true_iff] at ha
    obtain ⟨c1, c2⟩ := ha
    refine .inr ?_
    obtain ⟨q, hq⟩ : ∃ q : Nat, now = j + stepA ans ev la * q := by
      refine ⟨((now - j) / stepA ans ev la).toNat, ?_⟩
      have h3 := Int.mul_ediv_add_emod (now - j) (stepA ans ev la)
      rw [c2] at h3
      have h4 : 0 ≤ (now - j) / stepA ans ev la := Int.ediv_nonneg (by omega) (by omega)
      rw [Int.toNat_of_nonneg h4]
      omega
    refine ⟨q, ?_⟩
    cases ans with
    | true => exact ⟨hq, show now < now + 1 by omega, show now + 1 ≤ now + _ by omega, rfl, ⟨fun h => absurd rfl h, fun h => by have := h.1; cases this⟩⟩
    | false => exact ⟨hq, show now < now + 1 by omega, show now + 1 ≤ now + _ by omega, rfl, ⟨fun _ => ⟨rfl, show now + 1 ≤ now + la by omega⟩, fun _ => hn⟩⟩
  · rw [if_neg ha] at hy
    have ha' := ha
    rw [h.ask h1, decide_eq_true_iff] at ha
    rcases h with ⟨a1, a2, a3⟩ | ⟨q, a1, a2, a3, a4, a5⟩
    · have e : now ≠ j := fun e => ha ⟨by omega, by rw [e]; simp⟩
      have ho : (dropN la now x).o = 0 := by rcases hd.2.2 with g | g <;> omega
      refine .inl ⟨by omega, ?_, ?_⟩
      · cases ans <;> (show y.d = _; rw [hy, hd.1]; exact a2)
      · cases ans with
        | true => rfl
        | false => show y.o = 0; rw [hy]; exact ho
    · have hlt : now < x.a + stepA ans ev la := by
        rcases Int.lt_or_le now (x.a + stepA ans ev la) with h | h
        · exact h
        · exfalso
          have e : now = x.a + stepA ans ev la := by omega
          have hp : 0 ≤ stepA ans ev la * (q : Int) := Int.mul_nonneg (by omega) (by omega)
          refine ha ⟨by omega, ?_⟩
          rw [show now - j = stepA ans ev la * q + stepA ans ev la by omega, Int.mul_add_emod_self_left, Int.emod_self]
      refine .inr ⟨q, ?_⟩
      have e1 : ∀ z : Nw, z = (bif ans then { y with o := 0 } else y) → z.a = x.a ∧ z.d = x.d := fun z hz => by
        subst hz
        cases ans <;> exact ⟨by show y.a = _; rw [hy, hd.2.1], by show y.d = _; rw [hy, hd.1]⟩
      obtain ⟨e2, e3⟩ := e1 _ rfl
      rw [e2, e3]
      refine ⟨a1, by omega, by omega, a4, ?_⟩
      cases ans with
      | true => exact ⟨fun h => absurd rfl h, fun h => by have := h.1; cases this⟩
      | false =>
        show y.o ≠ 0 ↔ _
        rw [hy]
        unfold dropN
        cases hl : lateB la now x with
        | true =>
          have := (of_decide_eq_true hl).2
          exact ⟨fun h => absurd rfl h, fun h => by have := h.2; omega⟩
        | false =>
          have hn2 := of_decide_eq_false hl
          constructor
          · intro h
            exact ⟨rfl, by have h3 : ¬ x.a + la ≤ now := fun g => hn2 ⟨h, g⟩; omega⟩
          · rintro ⟨_, h⟩
            exact a5.2 ⟨rfl, by omega⟩
/-- none is out any more, of the first ones -/
def zN (x : Nw) : Nw := { x with o := 0 }
def zerL (l : List Nw) (j : Nat) : List Nw := (l.take j).map zN ++ l.drop j
theorem zerL_length (l : List Nw) (j : Nat) : (zerL l j).length = l.length := by simp [zerL]; omega
theorem zerL_zero (l : List Nw) : zerL l 0 = l := by simp [zerL]
theorem zerL_done (l : List Nw) : zerL l l.length = l.map zN := by simp [zerL]
theorem zerL_at {l : List Nw} {j : Nat} (h : j < l.length) : (zerL l j)[j]'(by rw [zerL_length]; exact h) = l[j] := by
  unfold zerL
  rw [List.getElem_append_right (by simp; omega)]
  simp
  congr 1
  omega
theorem zerL_next {l : List Nw} {j : Nat} (h : j < l.length) : zerL l (j + 1) = (zerL l j).modify j zN := by
  have e0 : (zerL l j).modify j zN = (zerL l j).set j (zN l[j]) := by
    refine List.ext_getElem (by simp) fun i h1 h2 => ?_
    rw [List.getElem_modify, List.getElem_set]
    by_cases e : j = i
    · subst e
      rw [if_pos rfl, if_pos rfl, zerL_at h]
    · rw [if_neg e, if_neg e]
  rw [e0]
  unfold zerL
  rw [List.set_append, if_neg (show ¬ j < ((l.take j).map zN).length by simp; omega), List.take_succ_eq_append_getElem h, List.drop_eq_getElem_cons h]
  have e : j - ((l.take j).map zN).length = 0 := by simp; omega
  rw [e, List.map_append, List.append_assoc]
  rfl
/-- who is asked as the next one: this node, or another -/
theorem askF_this {now n : Int} {l : List Nw} {i : Nat} (hi : i < l.length) (ha : askB now l[i] = true) : ∃ hq : (cntF now (l.take i)).toNat < (askF now n 0 l).length, ((askF now n 0 l)[(cntF now (l.take i)).toNat]).1 = (i : Int) := by
  have h0 := cntF_nonneg now (l.take i)
  have hl := askF_length now n 0 l
  have h1 := cntF_take_lt (l := l) (now := now) (show i < l.length from hi) hi ha
  rw [List.take_of_length_le (Nat.le_refl _)] at h1
  have hq : (cntF now (l.take i)).toNat < (askF now n 0 l).length := by omega
  refine ⟨hq, ?_⟩
  obtain ⟨j, hj, h2, h3, h4⟩ := askF_at now n 0 l _ hq
  rw [h2]
  have h5 : cntF now (l.take j) = cntF now (l.take i) := by omega
  have : j = i := by
    rcases Nat.lt_trichotomy i j with h | h | h
    · have := cntF_take_lt h hi ha; omega
    · exact h.symm
    · have := cntF_take_lt h hj h3; omega
  subst this
  simp
theorem askF_other {now n : Int} {l : List Nw} {i : Nat} (hi : i < l.length) (ha : askB now l[i] = false) (hq : (cntF now (l.take i)).toNat < (askF now n 0 l).length) : ((askF now n 0 l)[(cntF now (l.take i)).toNat]).1 ≠ (i : Int) := by
  obtain ⟨j, hj, h2, h3, h4⟩ := askF_at now n 0 l _ hq
  rw [h2]
  intro e
  have e : j = i := by simp at e; omega
  subst e
  rw [ha] at h3
  cases h3
end Go.Proofs.Ytgneieelfapmcaa
