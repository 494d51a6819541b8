/-
  sync/atomic's numbers and marks, one goroutine: contracts.
-/
import Derived.Test.YtnaefikajmgmdaaCoP
import Derived.Laws.LoneSync
import Derived.Laws.Pointers
import Derived.RegionCalls
import Derived.RegionTactic
import Derived.Tactics
import Derived.Tactics2
namespace Go.Proofs.Ytnaefikajmgmdaa
open Go.RowKit
set_option maxRecDepth 100000

/-- sync/atomic.SwapT: what the cell held is handed back, the number is stored -/
theorem run_call_swap {P : Program} {f : FuncId} {fn : Func} (hf : P.funcs[f]? = some fn) (hname : (fn.name == "runtime.NumGoroutine") = false) (hb : fn.body.isNone = true) (hn : Extern.findNext fn = none) (k : IntKind)
    (he : Extern.find fn = some (Extern.Atomic.swapT (.int k))) {a : Addr} {x y : Int} {w : World} (hc : w.cell? a = some (.int k x)) (hz : w.frozen? a = false) :
    (callFunc f #[.pointer (some a), .int k y]).run P w = .ok (.value (.int k x)) (w.setCell a (.int k y)) := by
  rw [run_callFunc_extern hf hname hb hn he]
  change (Sem.run P (do
    let b ← asAddr (.pointer (some a))
    let o ← Extern.Atomic.read (.int k) b
    store b (.int k y) .atomic
    pure o) w).andThen _ = _
  simp [Extern.Atomic.read, asAddr, hc, hz, run_store P w a (.int k y) .atomic rfl, Result.andThen]
theorem iLoad_ok (a : Addr) (v : Int) (w : World) (h : w.cell? a = some (.int .i64 v)) : Calls Try.prog 30 #[.pointer (some a)] w fun e w' => e = .returned (.int .i64 v) ∧ w = w' := by
  have hl := run_call_load (P := Try.prog) Try.func40 (by kernel_rfl) (by kernel_rfl) (by kernel_rfl) .i64 (by kernel_rfl) h
  go_enter Try.func30, Try.ntmps30
  go_wp2
  go_ret
  exact ⟨rfl, rfl⟩
theorem uLoad_ok (a : Addr) (v : Int) (w : World) (h : w.cell? a = some (.int .u64 v)) : Calls Try.prog 32 #[.pointer (some a)] w fun e w' => e = .returned (.int .u64 v) ∧ w = w' := by
  have hl := run_call_load (P := Try.prog) Try.func42 (by kernel_rfl) (by kernel_rfl) (by kernel_rfl) .u64 (by kernel_rfl) h
  go_enter Try.func32, Try.ntmps32
  go_wp2
  go_ret
  exact ⟨rfl, rfl⟩
theorem bLoad_ok (a : Addr) (b : Bool) (w : World) (h : w.cell? a = some (.int .u32 (bit b))) : Calls Try.prog 31 #[.pointer (some a)] w fun e w' => e = .returned (.bool b) ∧ w = w' := by
  have hl := run_call_load (P := Try.prog) Try.func41 (by kernel_rfl) (by kernel_rfl) (by kernel_rfl) .u32 (by kernel_rfl) h
  go_enter Try.func31, Try.ntmps31
  cases b
  · go_wp2
    go_ret
    exact ⟨rfl, rfl⟩
  · go_wp2
    go_ret
    exact ⟨rfl, rfl⟩
theorem iAdd_ok (a : Addr) (v x : Int) (w : World) (h : w.cell? a = some (.int .i64 v)) (hz : w.frozen? a = false) : Calls Try.prog 37 #[.pointer (some a), .int .i64 x] w fun e w' => e = .returned (.int .i64 (IntKind.i64.wrap (v + x))) ∧ w' = w.setCell a (.int .i64 (IntKind.i64.wrap (v + x))) := by
  obtain ⟨t, ht⟩ : ∃ t, IntKind.i64.wrap (v + x) = t := ⟨_, rfl⟩
  have hs : (Op.intArith .add .i64 v x).run Try.prog w = .ok (.int .i64 t) w := by
    rw [← ht]
    simp [go_sem]
  have hadd := run_call_add (P := Try.prog) Try.func48 (by kernel_rfl) (by kernel_rfl) (by kernel_rfl) .i64 (by kernel_rfl) (y := x) (s := t) h hz hs
  rw [ht]
  clear hs ht
  go_enter Try.func37, Try.ntmps37
  go_wp2
  go_ret
  exact ⟨rfl, rfl⟩
theorem iStore_ok (a : Addr) (v : Value) (x : Int) (w : World) (h : w.cell? a = some v) (hz : w.frozen? a = false) : Calls Try.prog 34 #[.pointer (some a), .int .i64 x] w fun e w' => e = .returned (.tuple #[]) ∧ w' = w.setCell a (.int .i64 x) := by
  have hst := run_call_store (P := Try.prog) Try.func45 (by kernel_rfl) (by kernel_rfl) (by kernel_rfl) (by kernel_rfl) (k := .i64) (y := x) h hz
  go_enter Try.func34, Try.ntmps34
  go_wp2
  go_end0
  exact ⟨rfl, rfl⟩
theorem bStore_ok (a : Addr) (v : Value) (w : World) (h : w.cell? a = some v) (hz : w.frozen? a = false) : Calls Try.prog 33 #[.pointer (some a), .bool true] w fun e w' => e = .returned (.tuple #[]) ∧ w' = w.drew.setCell a (.int .u32 (bit true)) := by
  have hc' : w.drew.cell? a = some v := by go_simp
  have hz' : w.drew.frozen? a = false := by go_simp
  have hst := run_call_store (P := Try.prog) Try.func43 (by kernel_rfl) (by kernel_rfl) (by kernel_rfl) (by kernel_rfl) (k := .u32) (y := 1) hc' hz'
  go_enter Try.func33, Try.ntmps33
  go_wp2
  go_region_calls
  all_goals (go_end0; exact ⟨rfl, rfl⟩)
theorem iSwap_hit (a : Addr) (v x : Int) (w : World) (h : w.cell? a = some (.int .i64 v)) (hz : w.frozen? a = false) : Calls Try.prog 35 #[.pointer (some a), .int .i64 v, .int .i64 x] w fun e w' => e = .returned (.bool true) ∧ w' = w.setCell a (.int .i64 x) := by
  have hcas := run_call_cas_hit (P := Try.prog) Try.func46 (by kernel_rfl) (by kernel_rfl) (by kernel_rfl) .i64 (by kernel_rfl) (y := x) h hz
  go_enter Try.func35, Try.ntmps35
  go_wp2
  go_ret
  exact ⟨rfl, rfl⟩
theorem iSwap_miss (a : Addr) (v o x : Int) (w : World) (h : w.cell? a = some (.int .i64 v)) (hz : w.frozen? a = false) (hne : ¬ v = o) : Calls Try.prog 35 #[.pointer (some a), .int .i64 o, .int .i64 x] w fun e w' => e = .returned (.bool false) ∧ w = w' := by
  have hcas := run_call_cas_miss (P := Try.prog) Try.func46 (by kernel_rfl) (by kernel_rfl) (by kernel_rfl) .i64 (by kernel_rfl) (y := x) h hz hne
  go_enter Try.func35, Try.ntmps35
  go_wp2
  go_ret
  exact ⟨rfl, rfl⟩
theorem uSwap_hit (a : Addr) (v x : Int) (w : World) (h : w.cell? a = some (.int .u64 v)) (hz : w.frozen? a = false) : Calls Try.prog 36 #[.pointer (some a), .int .u64 v, .int .u64 x] w fun e w' => e = .returned (.bool true) ∧ w' = w.setCell a (.int .u64 x) := by
  have hcas := run_call_cas_hit (P := Try.prog) Try.func47 (by kernel_rfl) (by kernel_rfl) (by kernel_rfl) .u64 (by kernel_rfl) (y := x) h hz
  go_enter Try.func36, Try.ntmps36
  go_wp2
  go_ret
  exact ⟨rfl, rfl⟩
theorem uSwap_miss (a : Addr) (v o x : Int) (w : World) (h : w.cell? a = some (.int .u64 v)) (hz : w.frozen? a = false) (hne : ¬ v = o) : Calls Try.prog 36 #[.pointer (some a), .int .u64 o, .int .u64 x] w fun e w' => e = .returned (.bool false) ∧ w = w' := by
  have hcas := run_call_cas_miss (P := Try.prog) Try.func47 (by kernel_rfl) (by kernel_rfl) (by kernel_rfl) .u64 (by kernel_rfl) (y := x) h hz hne
  go_enter Try.func36, Try.ntmps36
  go_wp2
  go_ret
  exact ⟨rfl, rfl⟩
theorem uChange_ok (a : Addr) (v x : Int) (w : World) (h : w.cell? a = some (.int .u64 v)) (hz : w.frozen? a = false) : Calls Try.prog 38 #[.pointer (some a), .int .u64 x] w fun e w' => e = .returned (.int .u64 v) ∧ w' = w.setCell a (.int .u64 x) := by
  have hsw := run_call_swap (P := Try.prog) Try.func49 (by kernel_rfl) (by kernel_rfl) (by kernel_rfl) .u64 (by kernel_rfl) (y := x) h hz
  go_enter Try.func38, Try.ntmps38
  go_wp2
  go_ret
  exact ⟨rfl, rfl⟩
end Go.Proofs.Ytnaefikajmgmdaa
