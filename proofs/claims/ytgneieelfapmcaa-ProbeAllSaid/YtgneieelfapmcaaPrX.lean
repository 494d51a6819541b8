/-
  A plan of probes, plain: all its nodes, where time goes on by one, and all is answered, or nothing.
-/
import Derived.Test.YtgneieelfapmcaaPrW
import Derived.Test.YtgneieelfapmcaaPrU
namespace Go.Proofs.Ytgneieelfapmcaa
open Go.RowKit
set_option maxRecDepth 100000

def NdsA (ans : Bool) (ev la now : Int) (l : List Nw) : Prop := ∀ (j : Nat) (h : j < l.length), NdA ans ev la (stepA ans ev la) now j l[j]
theorem NdsA.new (ans : Bool) (n ev la : Int) : NdsA ans ev la 0 (newPb n ev la).l := fun j hj => by
  have : (newPb n ev la).l[j] = ⟨j, 0, 0⟩ := by simp [newPb]
  rw [this]
  exact .inl ⟨by omega, rfl, rfl⟩
theorem lateF_nil (la now : Int) : ∀ (b : Nat) (l : List Nw), (∀ x ∈ l, lateB la now x = false) → lateF la now b l = []
  | _, [], _ => rfl
  | b, x :: r, h => by
    unfold lateF
    rw [if_neg (by rw [h x (List.mem_cons_self ..)]; simp)]
    exact lateF_nil la now (b + 1) r fun y hy => h y (List.mem_cons_of_mem _ hy)
theorem NdsA.none_late {p : Pb} {now : Int} (h : NdsA true p.ev p.la now p.l) : tickL p now = [] := lateF_nil _ _ _ _ fun x hx => by
  obtain ⟨j, hj, rfl⟩ := List.getElem_of_mem hx
  exact (h j hj).notLate
/-- what a node is behind the Tick -/
theorem tick_at {p : Pb} {now : Int} {j : Nat} (h0 : 0 ≤ p.last) (hj : j < p.l.length) (hj' : j < (tickC p now).l.length) :
    ∃ n : Int, n ≠ 0 ∧ (tickC p now).l[j] = if askB now (dropN p.la now p.l[j]) = true then ⟨now + p.ev, n, now⟩ else dropN p.la now p.l[j] := by
  have hd : j < (p.l.map (dropN p.la now)).length := by simpa using hj
  have e : (p.l.map (dropN p.la now))[j] = dropN p.la now p.l[j] := by simp
  have h := runF_at p.ev now p.last (p.l.map (dropN p.la now)) j hd
  rw [e] at h
  rcases h with ⟨h1, h2⟩ | ⟨h1, h2⟩
  · refine ⟨1, by decide, ?_⟩
    rw [if_neg (by rw [h1]; simp)]
    exact h2
  · have := cntF_take_pos (now := now) hd (by rw [e]; exact h1)
    refine ⟨p.last + cntF now ((p.l.map (dropN p.la now)).take (j + 1)), by omega, ?_⟩
    rw [if_pos h1]
    exact h2
/-- nothing is answered -/
theorem NdsA.stay {p : Pb} {now : Int} (h : NdsA false p.ev p.la now p.l) (h0 : 0 ≤ p.last) (h1 : 1 ≤ p.ev) (h2 : 1 ≤ p.la) (hl : (tickC p now).l.length = p.l.length) : NdsA false p.ev p.la (now + 1) (tickC p now).l := fun j hj => by
  have hj' : j < p.l.length := by omega
  obtain ⟨n, hn, e⟩ := tick_at (now := now) h0 hj' hj
  exact (h j hj').next h1 h2 hn e
/-- all is answered -/
theorem NdsA.all {p : Pb} {now : Int} (h : NdsA true p.ev p.la now p.l) (h0 : 0 ≤ p.last) (h1 : 1 ≤ p.ev) (h2 : 1 ≤ p.la) (hl : (tickC p now).l.length = p.l.length) : NdsA true p.ev p.la (now + 1) ((tickC p now).l.map zN) := fun j hj => by
  have hj1 : j < (tickC p now).l.length := by simpa using hj
  have hj' : j < p.l.length := by omega
  obtain ⟨n, hn, e⟩ := tick_at (now := now) h0 hj' hj1
  have := (h j hj').next h1 h2 hn e
  rw [List.getElem_map]
  exact this
/-- who is asked, of all -/
theorem NdsA.ask {ans : Bool} {p : Pb} {now : Int} (h : NdsA ans p.ev p.la now p.l) (h1 : 1 ≤ p.ev) {j : Nat} (hj : j < (p.l.map (dropN p.la now)).length) : askB now (p.l.map (dropN p.la now))[j] = decide ((j : Int) ≤ now ∧ (now - j) % stepA ans p.ev p.la = 0) := by
  have hj' : j < p.l.length := by simpa using hj
  have e : (p.l.map (dropN p.la now))[j] = dropN p.la now p.l[j] := by simp
  rw [e]
  exact (h j hj').ask h1
/-- one that isn't asked has no probe out, where all is answered -/
theorem NdsA.out0 {p : Pb} {now : Int} (h : NdsA true p.ev p.la now p.l) (h0 : 0 ≤ p.last) {j : Nat} (hj : j < (p.l.map (dropN p.la now)).length) (hj1 : j < (tickC p now).l.length) (ha : askB now (p.l.map (dropN p.la now))[j] = false) : (tickC p now).l[j].o = 0 := by
  have hj' : j < p.l.length := by simpa using hj
  have e : (p.l.map (dropN p.la now))[j] = dropN p.la now p.l[j] := by simp
  obtain ⟨n, hn, e2⟩ := tick_at (now := now) h0 hj' hj1
  rw [e] at ha
  rw [e2, if_neg (by rw [ha]; simp)]
  have ho : p.l[j].o = 0 := by
    rcases h j hj' with ⟨_, _, a3⟩ | ⟨q, _, _, _, _, a5⟩
    · exact a3
    · exact Classical.byContradiction fun hn => by have := (a5.1 hn).1; cases this
  rcases (dropN_d p.la now p.l[j]).2.2 with g | g <;> omega
theorem NdsA.out1 {p : Pb} {now : Int} (h0 : 0 ≤ p.last) {j : Nat} (hj : j < (p.l.map (dropN p.la now)).length) (hj1 : j < (tickC p now).l.length) (ha : askB now (p.l.map (dropN p.la now))[j] = true) : (tickC p now).l[j].o ≠ 0 := by
  have hj' : j < p.l.length := by simpa using hj
  have e : (p.l.map (dropN p.la now))[j] = dropN p.la now p.l[j] := by simp
  obtain ⟨n, hn, e2⟩ := tick_at (now := now) h0 hj' hj1
  rw [e] at ha
  rw [e2, if_pos ha]
  exact hn
/-- the first ones answered -/
def zerP (p : Pb) (j : Nat) : Pb := { p with l := zerL p.l j }
theorem zerP_zero (p : Pb) : zerP p 0 = p := by unfold zerP; rw [zerL_zero]
theorem zerP_skip {p : Pb} {j : Nat} (h : j < p.l.length) (ho : p.l[j].o = 0) : zerP p (j + 1) = zerP p j := by
  unfold zerP
  rw [zerL_next h]
  congr 1
  refine List.ext_getElem (by simp) fun i h1 h2 => ?_
  rw [List.getElem_modify]
  by_cases e : j = i
  · subst e
    rw [if_pos rfl, zerL_at h]
    unfold zN
    rw [← ho]
  · rw [if_neg e]
theorem zerP_out {p : Pb} {j : Nat} (h : j < p.l.length) : outP (zerP p j) (j : Int) = p.l[j].o := by
  have hl : (zerP p j).l.length = p.l.length := zerL_length _ _
  rw [outP_at (by omega) (by simpa [hl] using h)]
  exact congrArg Nw.o (zerL_at h)
theorem zerP_ans {p : Pb} {j : Nat} (h : j < p.l.length) (ho : p.l[j].o ≠ 0) : ansB (zerP p j) (j : Int) p.l[j].o = true ∧ ansC (zerP p j) (j : Int) p.l[j].o = zerP p (j + 1) := by
  have hb : ansB (zerP p j) (j : Int) p.l[j].o = true := by
    unfold ansB
    rw [zerP_out h]
    exact decide_eq_true ⟨ho, rfl⟩
  refine ⟨hb, ?_⟩
  unfold ansC
  rw [hb]
  unfold zerP
  rw [zerL_next h]
  simp only [cond_true, Int.toNat_natCast]
  rfl
theorem zerP_done (p : Pb) : (zerP p p.l.length).l = p.l.map zN := zerL_done _
end Go.Proofs.Ytgneieelfapmcaa
