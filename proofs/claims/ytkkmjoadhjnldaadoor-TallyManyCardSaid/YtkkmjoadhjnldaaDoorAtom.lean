/-
  sync/atomic.Int64's methods, one goroutine: contracts.
-/
import Derived.Test.YtkkmjoadhjnldaaDoorTaP
import Derived.Laws.LoneSync
import Derived.Laws.Pointers
import Derived.RegionCalls
namespace Go.Proofs.YtkkmjoadhjnldaaDoor
open Go.RowKit
set_option maxRecDepth 100000

theorem atLoad_ok (a : Addr) (v : Int) (w : World) (h : w.cell? a = some (.int .i64 v)) : Calls Tryd.prog 26 #[.pointer (some a)] w fun e w' => e = .returned (.int .i64 v) ∧ w = w' := by
  have hl := run_call_load (P := Tryd.prog) Tryd.func33 (by kernel_rfl) (by kernel_rfl) (by kernel_rfl) .i64 (by kernel_rfl) h
  go_enter Tryd.func26, Tryd.ntmps26
  go_wp2
  go_ret
  exact ⟨rfl, rfl⟩
theorem atAdd_ok (a : Addr) (v x : Int) (w : World) (h : w.cell? a = some (.int .i64 v)) (hz : w.frozen? a = false) : Calls Tryd.prog 24 #[.pointer (some a), .int .i64 x] w fun e w' => e = .returned (.int .i64 (wrapT (v + x))) ∧ w' = w.setCell a (.int .i64 (wrapT (v + x))) := by
  have hs : (Op.intArith .add .i64 v x).run Tryd.prog w = .ok (.int .i64 (wrapT (v + x))) w := by
    have e : IntKind.i64.wrap (v + x) = wrapT (v + x) := by unfold wrapT wrap64; rw [IntKind.wrap_i64]
    rw [← e]
    simp [go_sem]
  have hadd := run_call_add (P := Tryd.prog) Tryd.func31 (by kernel_rfl) (by kernel_rfl) (by kernel_rfl) .i64 (by kernel_rfl) (y := x) (s := wrapT (v + x)) h hz hs
  generalize wrapT (v + x) = t at *
  clear hs
  go_enter Tryd.func24, Tryd.ntmps24
  go_wp2
  go_ret
  exact ⟨rfl, rfl⟩
theorem atSwap_hit (a : Addr) (v x : Int) (w : World) (h : w.cell? a = some (.int .i64 v)) (hz : w.frozen? a = false) : Calls Tryd.prog 25 #[.pointer (some a), .int .i64 v, .int .i64 x] w fun e w' => e = .returned (.bool true) ∧ w' = w.setCell a (.int .i64 x) := by
  have hcas := run_call_cas_hit (P := Tryd.prog) Tryd.func32 (by kernel_rfl) (by kernel_rfl) (by kernel_rfl) .i64 (by kernel_rfl) (y := x) h hz
  go_enter Tryd.func25, Tryd.ntmps25
  go_wp2
  go_ret
  exact ⟨rfl, rfl⟩
theorem atSwap_miss (a : Addr) (v o x : Int) (w : World) (h : w.cell? a = some (.int .i64 v)) (hz : w.frozen? a = false) (hne : ¬ v = o) : Calls Tryd.prog 25 #[.pointer (some a), .int .i64 o, .int .i64 x] w fun e w' => e = .returned (.bool false) ∧ w = w' := by
  have hcas := run_call_cas_miss (P := Tryd.prog) Tryd.func32 (by kernel_rfl) (by kernel_rfl) (by kernel_rfl) .i64 (by kernel_rfl) (y := x) h hz hne
  go_enter Tryd.func25, Tryd.ntmps25
  go_wp2
  go_ret
  exact ⟨rfl, rfl⟩
end Go.Proofs.YtkkmjoadhjnldaaDoor
