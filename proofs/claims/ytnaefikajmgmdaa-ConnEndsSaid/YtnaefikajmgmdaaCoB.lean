/-
  The project's conn in memory: New, and what tells how it is: contracts.
-/
import Derived.Test.YtnaefikajmgmdaaCoA
import Derived.BigRegion
import Derived.BigQuiet
namespace Go.Proofs.Ytnaefikajmgmdaa
open Go.RowKit
set_option maxRecDepth 100000

theorem cellsAt {w : World} {b : Nat} {cs : Array Value} {t : TypeId} (h : w.heap[b]? = some (.cells cs t (0, 0))) (i : Nat) {v : Value} (hi : cs[i]? = some v) : w.cell? ⟨b, i, none⟩ = some v ∧ w.frozen? ⟨b, i, none⟩ = false := by
  refine ⟨?_, frozen_of_row w b i cs t h⟩
  rw [cell_of_row _ _ i cs t (0, 0) h]
  exact hi
/-- a connection of the project's, as it lies -/
def ccells (ep : Int) (c : Cn) (z : Bool) : Array Value := #[.int .u64 ep, .int .i64 c.w, .int .u64 c.f, .int .i64 c.n, .int .u32 (bit c.d), .int .u32 (bit (c.g z))]
def CCp (b : Nat) (ep : Int) (c : Cn) (S : Nat → Prop) (w : World) : Prop :=
  ∃ z, w.heap[b]? = some (.cells (ccells ep c z) 58 (0, 0)) ∧ S b ∧ (∀ k, S k → k < w.heap.size) ∧ c.ok
def CC (b : Nat) (ep : Int) (c : Cn) : Thing where
  p := CCp b ep c
  keep := fun ⟨z, h1, h2, h3, h4⟩ hk hz => ⟨z, (hk b h2).trans h1, h2, fun k h => Nat.lt_of_lt_of_le (h3 k h) hz, h4⟩
  lt := fun ⟨_, _, _, h3, _⟩ => h3

section
variable {b : Nat} {ep : Int} {c : Cn} {S : Nat → Prop} {w : World}
theorem CC.at_ (h : (CC b ep c).p S w) : ∃ z, w.heap[b]? = some (.cells (ccells ep c z) 58 (0, 0)) ∧ S b ∧ (∀ k, S k → k < w.heap.size) ∧ c.ok := h
/-- what a call left of it -/
theorem CC.turn {w' : World} {c' : Cn} {z : Bool} (h : (CC b ep c).p S w) (hb : w'.heap[b]? = some (.cells (ccells ep c' z) 58 (0, 0))) (ho : Off S w w') (hc : c'.ok) : Turn (CC b ep c') S w w' := by
  obtain ⟨_, _, h2, h3, _⟩ := CC.at_ h
  exact ⟨⟨S, ⟨z, hb, h2, fun k hk => Nat.lt_of_lt_of_le (h3 k hk) ho.size, hc⟩, fun k hk => .inl hk⟩, ho⟩

theorem cnew_ok (ep : Int) (w : World) :
    Calls Try.prog 7 #[.int .u64 ep] w fun e w' => e = .returned (.pointer (some ⟨w.heap.size, 0, none⟩)) ∧ (CC w.heap.size ep (.idle false 0)).p (fun k => k = w.heap.size) w' ∧ Below w.heap.size w w' := by
  go_enter Try.func7, Try.ntmps7
  go_wp2_with fail
  go_ret
  exact ⟨rfl, ⟨false, heap_alloc_new w _, rfl, fun k hk => by subst hk; simp, trivial⟩, kp_new w _⟩

/-- who has it is somebody, where somebody has it -/
def Cn.held : Cn → Prop
  | .lent o _ _ _ => 1 ≤ o
  | .drains o _ _ _ => 1 ≤ o
  | _ => True
theorem Cn.ok.held : ∀ {c : Cn}, c.ok → c.held
  | .idle _ _, _ => trivial
  | .lent _ _ _ _, h => h
  | .drains _ _ _ _, h => h.1
  | .closed _ _, _ => trivial

theorem cstate_raw {z : Bool} (hb : w.heap[b]? = some (.cells (ccells ep c z) 58 (0, 0))) (hok : c.held) :
    Calls Try.prog 11 #[.pointer (some ⟨b, 0, none⟩)] w fun e w' => e = .returned (.int .i64 c.s) ∧ w = w' := by
  have H1 := Lib.hid (iLoad_ok ⟨b, 1, none⟩ c.w w (cellsAt hb 1 rfl).1)
  have H5 := Lib.hid (bLoad_ok ⟨b, 5, none⟩ (c.g z) w (cellsAt hb 5 rfl).1)
  clear hb
  cases c with
  | idle d n =>
    simp only [Cn.w, Cn.g] at H1 H5
    go_enter Try.func11, Try.ntmps11
    go_wp2_with fail
    refine H1.out.mono ?_
    rintro e w1 ⟨rfl, rfl⟩
    go_wp2_with fail
    go_ret
    exact ⟨rfl, rfl⟩
  | lent o f d n =>
    simp only [Cn.w, Cn.g] at H1 H5
    have h0 : (o == 0) = false := by simp; have : 1 ≤ o := hok; omega
    have h1 : (o == -1) = false := by simp; have : 1 ≤ o := hok; omega
    clear hok
    go_enter Try.func11, Try.ntmps11
    go_wp2_with fail
    refine H1.out.mono ?_
    rintro e w1 ⟨rfl, rfl⟩
    go_wp2_with fail
    refine H5.out.mono ?_
    rintro e w1 ⟨rfl, rfl⟩
    go_wp2_with fail
    go_ret
    exact ⟨rfl, rfl⟩
  | drains o f d n =>
    simp only [Cn.w, Cn.g] at H1 H5
    have h0 : (o == 0) = false := by simp; have : 1 ≤ o := hok; omega
    have h1 : (o == -1) = false := by simp; have : 1 ≤ o := hok; omega
    clear hok
    go_enter Try.func11, Try.ntmps11
    go_wp2_with fail
    refine H1.out.mono ?_
    rintro e w1 ⟨rfl, rfl⟩
    go_wp2_with fail
    refine H5.out.mono ?_
    rintro e w1 ⟨rfl, rfl⟩
    go_wp2_with fail
    go_ret
    exact ⟨rfl, rfl⟩
  | closed d n =>
    simp only [Cn.w, Cn.g] at H1 H5
    go_enter Try.func11, Try.ntmps11
    go_wp2_with fail
    refine H1.out.mono ?_
    rintro e w1 ⟨rfl, rfl⟩
    go_wp2_with fail
    go_ret
    exact ⟨rfl, rfl⟩
theorem cstate_ok (h : (CC b ep c).p S w) : Calls Try.prog 11 #[.pointer (some ⟨b, 0, none⟩)] w fun e w' => e = .returned (.int .i64 c.s) ∧ w = w' := by
  obtain ⟨z, hb, _, _, hok⟩ := CC.at_ h
  exact cstate_raw hb hok.held
theorem cowner_ok (h : (CC b ep c).p S w) : Calls Try.prog 12 #[.pointer (some ⟨b, 0, none⟩)] w fun e w' => e = .returned (.int .i64 c.o) ∧ w = w' := by
  obtain ⟨z, hb, _, _, hok⟩ := CC.at_ h
  have hk := hok.held
  have H1 := Lib.hid (iLoad_ok ⟨b, 1, none⟩ c.w w (cellsAt hb 1 rfl).1)
  clear hb hok h
  cases c with
  | idle d n =>
    simp only [Cn.w] at H1
    go_enter Try.func12, Try.ntmps12
    go_wp2_with fail
    refine H1.out.mono ?_
    rintro e w1 ⟨rfl, rfl⟩
    go_wp2_with fail
    go_ret
    exact ⟨rfl, rfl⟩
  | lent o f d n =>
    simp only [Cn.w] at H1
    have h1 : 1 ≤ o := hk
    clear hk
    go_enter Try.func12, Try.ntmps12
    go_wp2_with fail
    refine H1.out.mono ?_
    rintro e w1 ⟨rfl, rfl⟩
    go_wp2_with fail
    go_ret
    exact ⟨rfl, rfl⟩
  | drains o f d n =>
    simp only [Cn.w] at H1
    have h1 : 1 ≤ o := hk
    clear hk
    go_enter Try.func12, Try.ntmps12
    go_wp2_with fail
    refine H1.out.mono ?_
    rintro e w1 ⟨rfl, rfl⟩
    go_wp2_with fail
    go_ret
    exact ⟨rfl, rfl⟩
  | closed d n =>
    simp only [Cn.w] at H1
    go_enter Try.func12, Try.ntmps12
    go_wp2_with fail
    refine H1.out.mono ?_
    rintro e w1 ⟨rfl, rfl⟩
    go_wp2_with fail
    go_ret
    exact ⟨rfl, rfl⟩
theorem cflight_ok (h : (CC b ep c).p S w) : Calls Try.prog 13 #[.pointer (some ⟨b, 0, none⟩)] w fun e w' => e = .returned (.int .u64 c.f) ∧ w = w' := by
  obtain ⟨z, hb, _, _, hok⟩ := CC.at_ h
  have H1 := Lib.hid (uLoad_ok ⟨b, 2, none⟩ c.f w (cellsAt hb 2 rfl).1)
  clear hb hok h
  generalize c.f = f at *
  go_enter Try.func13, Try.ntmps13
  go_wp2_with fail
  refine H1.out.mono ?_
  rintro e w1 ⟨rfl, rfl⟩
  go_wp2_with fail
  go_ret
  exact ⟨rfl, rfl⟩
theorem csent_ok (h : (CC b ep c).p S w) : Calls Try.prog 14 #[.pointer (some ⟨b, 0, none⟩)] w fun e w' => e = .returned (.int .i64 c.n) ∧ w = w' := by
  obtain ⟨z, hb, _, _, hok⟩ := CC.at_ h
  have H1 := Lib.hid (iLoad_ok ⟨b, 3, none⟩ c.n w (cellsAt hb 3 rfl).1)
  clear hb hok h
  generalize c.n = f at *
  go_enter Try.func14, Try.ntmps14
  go_wp2_with fail
  refine H1.out.mono ?_
  rintro e w1 ⟨rfl, rfl⟩
  go_wp2_with fail
  go_ret
  exact ⟨rfl, rfl⟩
theorem cepoch_ok (h : (CC b ep c).p S w) : Calls Try.prog 15 #[.pointer (some ⟨b, 0, none⟩)] w fun e w' => e = .returned (.int .u64 ep) ∧ w = w' := by
  obtain ⟨z, hb, _, _, hok⟩ := CC.at_ h
  obtain ⟨c0, f0⟩ := cellsAt hb 0 (v := .int .u64 ep) rfl
  clear hb hok h
  go_enter Try.func15, Try.ntmps15
  go_wp2_with fail
  go_ret
  exact ⟨rfl, rfl⟩
end
end Go.Proofs.Ytnaefikajmgmdaa
