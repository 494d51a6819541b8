/-
  The table of package msg; what its small functions do: contracts.
-/
import Derived.Test.YtmklmakcampbbaaDoorNumB
namespace Go.Proofs.YtmklmakcampbbaaDoor
open Go.RowKit
set_option maxRecDepth 100000

/-- a callee that leaves the world, met in a region that draws -/
theorem quiet_same {P : Program} {f : FuncId} {args : Array Value} {w : World} {n : Nat} {v : Value}
    (h : Calls P f args (w.drewN n) fun e w' => e = .returned v ∧ w.drewN n = w') : Calls P f args (w.drewN n) fun e w'' => e = .returned v ∧ ∃ m, w'' = w.drewN m :=
  h.mono fun _ _ ⟨he, hm⟩ => ⟨he, n, hm.symm⟩

def szTab : List (List Nat) := [[0, 0, 0], [0, 0, 0], [4, 0, 0], [4, 0, 0], [0, 0, 0], [4, 0, 0], [4, 4, 4], [4, 4, 4], [4, 1, 0], [4, 4, 1], [4, 0, 0], [4, 0, 0], [4, 4, 4], [4, 1, 4], [4, 4, 4]]
def txTab : List Int := [0, 1, 1, 0, 0, 0, -1, 0, 0, 1, 0, 0, -1, 0, 0]
def sz (k j : Nat) : Nat := (szTab.getD k []).getD j 0
def tx (k : Nat) : Int := txTab.getD k 0
/-- how many numbers a kind has -/
def nums (k : Nat) : Nat := ((szTab.getD k []).filter (0 < ·)).length
/-- one kind's part of the table -/
structure Shape (w : World) (k : Nat) : Prop where
  s0 : w.cell? ⟨0, k * 4, none⟩ = some (.int .i64 (sz k 0))
  s1 : w.cell? ⟨0, k * 4 + 1, none⟩ = some (.int .i64 (sz k 1))
  s2 : w.cell? ⟨0, k * 4 + 2, none⟩ = some (.int .i64 (sz k 2))
  t : w.cell? ⟨0, k * 4 + 3, none⟩ = some (.int .i64 (tx k))
theorem Shape.at_ {w : World} {k j : Nat} (h : Shape w k) (hj : j < 3) : w.cell? ⟨0, k * 4 + j, none⟩ = some (.int .i64 (sz k j)) := by
  rcases (by omega : j = 0 ∨ j = 1 ∨ j = 2) with rfl | rfl | rfl
  · exact h.s0
  · exact h.s1
  · exact h.s2
/-- the table lies where it was laid -/
structure Lay (w : World) : Prop where
  pos : 0 < w.heap.size
  row : ∀ k, k < 15 → Shape w k
theorem Lay.below {w w' : World} {B : Nat} (h : Lay w) (hb : Below B w w') (hB : 0 < B) : Lay w' :=
  ⟨Nat.lt_of_lt_of_le h.pos hb.size, fun k hk => ⟨(hb.cell hB).trans (h.row k hk).s0, (hb.cell hB).trans (h.row k hk).s1, (hb.cell hB).trans (h.row k hk).s2, (hb.cell hB).trans (h.row k hk).t⟩⟩
theorem Lay.next {w w' : World} (h : Lay w) (hb : Below w.heap.size w w') : Lay w' := h.below hb h.pos

theorem sz_small : ∀ k, k < 15 → ∀ j, j < 3 → sz k j ≤ 4 := by decide

theorem run_idx0 (a b c : Value) (w : World) : (Instr.index 84 (.agg #[a, b, c]) (.int .i64 0)).run Tryd.prog w = .ok a w := by kernel_rfl
theorem run_idx1 (a b c : Value) (w : World) : (Instr.index 84 (.agg #[a, b, c]) (.int .i64 1)).run Tryd.prog w = .ok b w := by kernel_rfl
theorem run_idx2 (a b c : Value) (w : World) : (Instr.index 84 (.agg #[a, b, c]) (.int .i64 2)).run Tryd.prog w = .ok c w := by kernel_rfl
/-- how many of the first sizes are above 0 -/
def cnt (k : Nat) : Nat → Nat
  | 0 => 0
  | j + 1 => cnt k j + if 0 < sz k j then 1 else 0
theorem cnt_nums : ∀ k, k < 15 → cnt k 3 = nums k := by decide

theorem cnt_le (k : Nat) : ∀ j, cnt k j ≤ j
  | 0 => Nat.le_refl _
  | j + 1 => by
    have := cnt_le k j
    simp only [cnt]
    split <;> omega

set_option maxHeartbeats 400000 in
theorem numbersOf_any (k : Nat) (w : World) (hk : k < 15) (hl : Lay w) :
    Calls Tryd.prog 47 #[.int .i64 k] w fun e w' => e = .returned (.int .i64 (nums k)) ∧ w = w' := by
  obtain ⟨h0, h1, h2, _⟩ := hl.row k hk
  have HN := Lib.hid (cnt_nums k hk)
  clear hl
  go_enter Tryd.func47, Tryd.ntmps47
  go_wp2
  go_loop [3, 10] (fun n i => ∃ j : Nat, j ≤ 3 ∧ i = .int .i64 j ∧ n = .int .i64 (cnt k j)) (fun _ i => 3 - (intOf i).toNat)
  case atStart => exact ⟨0, Nat.zero_le _, rfl, rfl⟩
  case round =>
    obtain ⟨j, hj, rfl, rfl⟩ := hrel
    clear h0 h1 h2
    rcases (by omega : j = 0 ∨ j = 1 ∨ j = 2 ∨ j = 3) with rfl | rfl | rfl | rfl
    · have i0 := run_idx0 (.int .i64 (sz k 0)) (.int .i64 (sz k 1)) (.int .i64 (sz k 2)) w
      by_cases hz : 0 < sz k 0
      · have HC := Lib.hid (show cnt k 1 = cnt k 0 + 1 by simp [cnt, hz])
        have hcl := cnt_le k 0
        go_wp2
        go_round
        case rel => exact ⟨1, by omega, rfl, by rw [HC.out]; go_num⟩
        case measure => simp [intOf]
      · have HC := Lib.hid (show cnt k 1 = cnt k 0 by simp [cnt, hz])
        go_wp2
        go_round
        case rel => exact ⟨1, by omega, rfl, by rw [HC.out]⟩
        case measure => simp [intOf]
    · have i0 := run_idx1 (.int .i64 (sz k 0)) (.int .i64 (sz k 1)) (.int .i64 (sz k 2)) w
      by_cases hz : 0 < sz k 1
      · have HC := Lib.hid (show cnt k 2 = cnt k 1 + 1 by simp [cnt, hz])
        have hcl := cnt_le k 1
        go_wp2
        go_round
        case rel => exact ⟨2, by omega, rfl, by rw [HC.out]; go_num⟩
        case measure => simp [intOf]
      · have HC := Lib.hid (show cnt k 2 = cnt k 1 by simp [cnt, hz])
        go_wp2
        go_round
        case rel => exact ⟨2, by omega, rfl, by rw [HC.out]⟩
        case measure => simp [intOf]
    · have i0 := run_idx2 (.int .i64 (sz k 0)) (.int .i64 (sz k 1)) (.int .i64 (sz k 2)) w
      by_cases hz : 0 < sz k 2
      · have HC := Lib.hid (show cnt k 3 = cnt k 2 + 1 by simp [cnt, hz])
        have hcl := cnt_le k 2
        go_wp2
        go_round
        case rel => exact ⟨3, by omega, rfl, by rw [HC.out]; go_num⟩
        case measure => simp [intOf]
      · have HC := Lib.hid (show cnt k 3 = cnt k 2 by simp [cnt, hz])
        go_wp2
        go_round
        case rel => exact ⟨3, by omega, rfl, by rw [HC.out]⟩
        case measure => simp [intOf]
    · go_wp2
      go_ret
      rw [HN.out]
      exact ⟨rfl, rfl⟩

theorem isKind_any (k : Int) (w : World) (b : Bool) (hb : Hid (decide (1 ≤ k ∧ k ≤ 14) = b)) :
    Calls Tryd.prog 30 #[.int .i64 k] w fun e w' => e = .returned (.bool b) ∧ w = w' := by
  have h := hb.out
  clear hb
  subst h
  by_cases h1 : 1 ≤ k
  · by_cases h2 : k ≤ 14
    · have e : decide (1 ≤ k ∧ k ≤ 14) = true := by simp; omega
      rw [e]
      clear e
      go_enter Tryd.func30, Tryd.ntmps30
      go_wp2
      go_ret
      exact ⟨rfl, rfl⟩
    · have e : decide (1 ≤ k ∧ k ≤ 14) = false := by simp; omega
      have d : decide (k ≤ 14) = false := by simp; omega
      rw [e]
      clear e
      go_enter Tryd.func30, Tryd.ntmps30
      go_wp2
      go_ret
      exact ⟨rfl, rfl⟩
  · have e : decide (1 ≤ k ∧ k ≤ 14) = false := by simp; omega
    rw [e]
    clear e
    go_enter Tryd.func30, Tryd.ntmps30
    go_wp2
    go_ret
    exact ⟨rfl, rfl⟩

/-- as many texts as a kind wants -/
def fitT (c : Nat) (want : Int) : Bool := if want = -1 then decide (c ≤ 20) else decide ((c : Int) = want)
theorem rightCount_any (c : Nat) (want : Int) (w : World) :
    Calls Tryd.prog 49 #[.int .i64 c, .int .i64 want] w fun e w' => e = .returned (.bool (fitT c want)) ∧ w = w' := by
  unfold fitT
  by_cases h : want = -1
  · subst h
    rw [if_pos rfl]
    by_cases h2 : c ≤ 20
    · have e : decide (c ≤ 20) = true := by simp; omega
      have e2 : decide ((c : Int) ≤ 20) = true := by simp; omega
      rw [e]
      clear e
      go_enter Tryd.func49, Tryd.ntmps49
      go_wp2
      go_ret
      exact ⟨rfl, rfl⟩
    · have e : decide (c ≤ 20) = false := by simp; omega
      have e2 : decide ((c : Int) ≤ 20) = false := by simp; omega
      rw [e]
      clear e
      go_enter Tryd.func49, Tryd.ntmps49
      go_wp2
      go_ret
      exact ⟨rfl, rfl⟩
  · rw [if_neg h]
    have e2 : (want == -1) = false := by simpa using h
    by_cases h2 : (c : Int) = want
    · have e : decide ((c : Int) = want) = true := by simpa using h2
      have e3 : ((c : Int) == want) = true := by simpa using h2
      rw [e]
      clear e h2
      go_enter Tryd.func49, Tryd.ntmps49
      go_wp2
      go_ret
      exact ⟨rfl, rfl⟩
    · have e : decide ((c : Int) = want) = false := by simpa using h2
      have e3 : ((c : Int) == want) = false := by simpa using h2
      rw [e]
      clear e h2
      go_enter Tryd.func49, Tryd.ntmps49
      go_wp2
      go_ret
      exact ⟨rfl, rfl⟩
end Go.Proofs.YtmklmakcampbbaaDoor
