/-
  A kind's sizes, by the document (sizes of its layer 3): a contract.
-/
import Derived.Test.YtmklmakcampbbaaDoorAwake3
namespace Go.Proofs.YtmklmakcampbbaaDoor
open Go.RowKit
set_option maxRecDepth 100000

def ivs (ns : List Nat) : List Value := ns.map fun n : Nat => Value.int .i64 (n : Int)
theorem ivs_length (ns : List Nat) : (ivs ns).length = ns.length := by simp [ivs]
theorem ivs_at {ns : List Nat} {j x : Nat} (h : ns[j]? = some x) : (ivs ns)[j]? = some (.int .i64 (x : Int)) := by simp [ivs, h]

theorem sg_lit {w : World} {t : TypeId} {xs : List Value} {cs : Array Value} {l c : Nat} (h1 : cs = xs.toArray) (h2 : l = xs.length) (h3 : c = xs.length) : Sg (w.alloc (.cells cs t)) (w.alloc (.cells cs t)).heap.size (some ⟨w.heap.size, 0, none⟩) l c xs := by
  subst h1 h2 h3
  exact Sg.new w t xs
theorem rsizes_no (k : Int) (w : World) (h : k < 1 ∨ 14 < k) :
    Calls Tryd.prog 25 #[.int .i64 k] w fun e w' => e = .returned (.tuple #[.slice none 0 0, .bool false]) ∧ w = w' := by
  have h1 : (k == 1) = false := by simp; omega
  have h2 : (k == 2) = false := by simp; omega
  have h3 : (k == 3) = false := by simp; omega
  have h4 : (k == 4) = false := by simp; omega
  have h5 : (k == 5) = false := by simp; omega
  have h6 : (k == 6) = false := by simp; omega
  have h7 : (k == 7) = false := by simp; omega
  have h8 : (k == 8) = false := by simp; omega
  have h9 : (k == 9) = false := by simp; omega
  have h10 : (k == 10) = false := by simp; omega
  have h11 : (k == 11) = false := by simp; omega
  have h12 : (k == 12) = false := by simp; omega
  have h13 : (k == 13) = false := by simp; omega
  have h14 : (k == 14) = false := by simp; omega
  go_enter Tryd.func25, Tryd.ntmps25
  go_wp2_with fail
  go_ret2
  exact ⟨rfl, rfl⟩

theorem rsizes_ok (k : Nat) (w : World) (h : 1 ≤ k ∧ k ≤ 14) :
    Calls Tryd.prog 25 #[.int .i64 k] w fun e w' => ∃ A c, e = .returned (.tuple #[.slice A (nums k) c, .bool true]) ∧ Sg w' w'.heap.size A (nums k) c (ivs (szs k)) ∧ Below w.heap.size w w' := by
  rcases (by omega : k = 1 ∨ k = 2 ∨ k = 3 ∨ k = 4 ∨ k = 5 ∨ k = 6 ∨ k = 7 ∨ k = 8 ∨ k = 9 ∨ k = 10 ∨ k = 11 ∨ k = 12 ∨ k = 13 ∨ k = 14) with rfl | rfl | rfl | rfl | rfl | rfl | rfl | rfl | rfl | rfl | rfl | rfl | rfl | rfl
  all_goals
    clear h
    go_enter Tryd.func25, Tryd.ntmps25
    go_wp2_with fail
    go_ret2
    exact ⟨_, _, rfl, sg_lit rfl rfl rfl, kp_new _ _⟩
end Go.Proofs.YtmklmakcampbbaaDoor
