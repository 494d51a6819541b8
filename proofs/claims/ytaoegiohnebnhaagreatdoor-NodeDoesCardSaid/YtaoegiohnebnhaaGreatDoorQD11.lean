/-
  Contracts and plain functions that the law stands on, part 11 of 24.
-/
import Derived.Test.YtaoegiohnebnhaaGreatDoorQD10
import Derived.KernelRfl
import Derived.Laws.EntriesVeiled
namespace Go.Proofs.YtaoegiohnebnhaaGreatDoor
/- The document's layer 6: what a statement does: contract. -/
section
open Go.RowKit
set_option maxRecDepth 100000

theorem lex6_fGet : lexF [115, 101, 108, 101, 99, 116, 32, 118, 32, 102, 114, 111, 109, 32, 107, 118, 32, 119, 104, 101, 114, 101, 32, 107, 32, 61, 32, 39, 39] = some [(1, [83, 69, 76, 69, 67, 84]), (1, [86]), (1, [70, 82, 79, 77]), (1, [75, 86]), (1, [87, 72, 69, 82, 69]), (1, [75]), (6, [61]), (3, [])] := by
  rw [lexF_tok (k := 1) (t := [83, 69, 76, 69, 67, 84]) (n := 6) (by simp) (by kernel_rfl) (by decide)]
  simp only [List.drop_succ_cons, List.drop_zero]
  rw [lexF_skip (n := 1) (by simp) (by kernel_rfl) (by decide)]
  simp only [List.drop_succ_cons, List.drop_zero]
  rw [lexF_tok (k := 1) (t := [86]) (n := 1) (by simp) (by kernel_rfl) (by decide)]
  simp only [List.drop_succ_cons, List.drop_zero]
  rw [lexF_skip (n := 1) (by simp) (by kernel_rfl) (by decide)]
  simp only [List.drop_succ_cons, List.drop_zero]
  rw [lexF_tok (k := 1) (t := [70, 82, 79, 77]) (n := 4) (by simp) (by kernel_rfl) (by decide)]
  simp only [List.drop_succ_cons, List.drop_zero]
  rw [lexF_skip (n := 1) (by simp) (by kernel_rfl) (by decide)]
  simp only [List.drop_succ_cons, List.drop_zero]
  rw [lexF_tok (k := 1) (t := [75, 86]) (n := 2) (by simp) (by kernel_rfl) (by decide)]
  simp only [List.drop_succ_cons, List.drop_zero]
  rw [lexF_skip (n := 1) (by simp) (by kernel_rfl) (by decide)]
  simp only [List.drop_succ_cons, List.drop_zero]
  rw [lexF_tok (k := 1) (t := [87, 72, 69, 82, 69]) (n := 5) (by simp) (by kernel_rfl) (by decide)]
  simp only [List.drop_succ_cons, List.drop_zero]
  rw [lexF_skip (n := 1) (by simp) (by kernel_rfl) (by decide)]
  simp only [List.drop_succ_cons, List.drop_zero]
  rw [lexF_tok (k := 1) (t := [75]) (n := 1) (by simp) (by kernel_rfl) (by decide)]
  simp only [List.drop_succ_cons, List.drop_zero]
  rw [lexF_skip (n := 1) (by simp) (by kernel_rfl) (by decide)]
  simp only [List.drop_succ_cons, List.drop_zero]
  rw [lexF_tok (k := 6) (t := [61]) (n := 1) (by simp) (by kernel_rfl) (by decide)]
  simp only [List.drop_succ_cons, List.drop_zero]
  rw [lexF_skip (n := 1) (by simp) (by kernel_rfl) (by decide)]
  simp only [List.drop_succ_cons, List.drop_zero]
  rw [lexF_tok (k := 3) (t := []) (n := 2) (by simp) (by kernel_rfl) (by decide)]
  simp only [List.drop_succ_cons, List.drop_zero]
  rw [lexF_nil]
  rfl
theorem form_Get (w : World) : Calls Tryz.prog 56 #[.string ⟨#[115, 101, 108, 101, 99, 116, 32, 118, 32, 102, 114, 111, 109, 32, 107, 118, 32, 119, 104, 101, 114, 101, 32, 107, 32, 61, 32, 39, 39]⟩] w fun e w' => ∃ A n c ts, e = .returned (.slice A n c) ∧ TR w' A n ts ∧ (saysT ts).map emptyF = fGet ∧ n ≤ 20 ∧ Below w.heap.size w w' :=
  (form_ok ⟨#[115, 101, 108, 101, 99, 116, 32, 118, 32, 102, 114, 111, 109, 32, 107, 118, 32, 119, 104, 101, 114, 101, 32, 107, 32, 61, 32, 39, 39]⟩ w (by decide)).mono fun e w' ⟨A, n, c, ts, he, ht, hs, hb⟩ => by
    rw [show (⟨#[115, 101, 108, 101, 99, 116, 32, 118, 32, 102, 114, 111, 109, 32, 107, 118, 32, 119, 104, 101, 114, 101, 32, 107, 32, 61, 32, 39, 39]⟩ : ByteArray).data.toList = [115, 101, 108, 101, 99, 116, 32, 118, 32, 102, 114, 111, 109, 32, 107, 118, 32, 119, 104, 101, 114, 101, 32, 107, 32, 61, 32, 39, 39] from rfl, lexA_some lex6_fGet (by decide)] at hs
    have hs2 : saysT ts = fGet := hs
    refine ⟨A, n, c, ts, he, ht, by rw [hs2]; decide, ?_, hb⟩
    rw [← ht.len, ← saysT_length, hs2]
    decide
theorem lex6_fAll : lexF [115, 101, 108, 101, 99, 116, 32, 42, 32, 102, 114, 111, 109, 32, 107, 118] = some [(1, [83, 69, 76, 69, 67, 84]), (6, [42]), (1, [70, 82, 79, 77]), (1, [75, 86])] := by
  rw [lexF_tok (k := 1) (t := [83, 69, 76, 69, 67, 84]) (n := 6) (by simp) (by kernel_rfl) (by decide)]
  simp only [List.drop_succ_cons, List.drop_zero]
  rw [lexF_skip (n := 1) (by simp) (by kernel_rfl) (by decide)]
  simp only [List.drop_succ_cons, List.drop_zero]
  rw [lexF_tok (k := 6) (t := [42]) (n := 1) (by simp) (by kernel_rfl) (by decide)]
  simp only [List.drop_succ_cons, List.drop_zero]
  rw [lexF_skip (n := 1) (by simp) (by kernel_rfl) (by decide)]
  simp only [List.drop_succ_cons, List.drop_zero]
  rw [lexF_tok (k := 1) (t := [70, 82, 79, 77]) (n := 4) (by simp) (by kernel_rfl) (by decide)]
  simp only [List.drop_succ_cons, List.drop_zero]
  rw [lexF_skip (n := 1) (by simp) (by kernel_rfl) (by decide)]
  simp only [List.drop_succ_cons, List.drop_zero]
  rw [lexF_tok (k := 1) (t := [75, 86]) (n := 2) (by simp) (by kernel_rfl) (by decide)]
  simp only [List.drop_succ_cons, List.drop_zero]
  rw [lexF_nil]
  rfl
theorem form_All (w : World) : Calls Tryz.prog 56 #[.string ⟨#[115, 101, 108, 101, 99, 116, 32, 42, 32, 102, 114, 111, 109, 32, 107, 118]⟩] w fun e w' => ∃ A n c ts, e = .returned (.slice A n c) ∧ TR w' A n ts ∧ (saysT ts).map emptyF = fAll ∧ n ≤ 20 ∧ Below w.heap.size w w' :=
  (form_ok ⟨#[115, 101, 108, 101, 99, 116, 32, 42, 32, 102, 114, 111, 109, 32, 107, 118]⟩ w (by decide)).mono fun e w' ⟨A, n, c, ts, he, ht, hs, hb⟩ => by
    rw [show (⟨#[115, 101, 108, 101, 99, 116, 32, 42, 32, 102, 114, 111, 109, 32, 107, 118]⟩ : ByteArray).data.toList = [115, 101, 108, 101, 99, 116, 32, 42, 32, 102, 114, 111, 109, 32, 107, 118] from rfl, lexA_some lex6_fAll (by decide)] at hs
    have hs2 : saysT ts = fAll := hs
    refine ⟨A, n, c, ts, he, ht, by rw [hs2]; decide, ?_, hb⟩
    rw [← ht.len, ← saysT_length, hs2]
    decide
theorem lex6_fPut : lexF [105, 110, 115, 101, 114, 116, 32, 105, 110, 116, 111, 32, 107, 118, 32, 118, 97, 108, 117, 101, 115, 32, 40, 39, 39, 44, 32, 39, 39, 41] = some [(1, [73, 78, 83, 69, 82, 84]), (1, [73, 78, 84, 79]), (1, [75, 86]), (1, [86, 65, 76, 85, 69, 83]), (6, [40]), (3, []), (6, [44]), (3, []), (6, [41])] := by
  rw [lexF_tok (k := 1) (t := [73, 78, 83, 69, 82, 84]) (n := 6) (by simp) (by kernel_rfl) (by decide)]
  simp only [List.drop_succ_cons, List.drop_zero]
  rw [lexF_skip (n := 1) (by simp) (by kernel_rfl) (by decide)]
  simp only [List.drop_succ_cons, List.drop_zero]
  rw [lexF_tok (k := 1) (t := [73, 78, 84, 79]) (n := 4) (by simp) (by kernel_rfl) (by decide)]
  simp only [List.drop_succ_cons, List.drop_zero]
  rw [lexF_skip (n := 1) (by simp) (by kernel_rfl) (by decide)]
  simp only [List.drop_succ_cons, List.drop_zero]
  rw [lexF_tok (k := 1) (t := [75, 86]) (n := 2) (by simp) (by kernel_rfl) (by decide)]
  simp only [List.drop_succ_cons, List.drop_zero]
  rw [lexF_skip (n := 1) (by simp) (by kernel_rfl) (by decide)]
  simp only [List.drop_succ_cons, List.drop_zero]
  rw [lexF_tok (k := 1) (t := [86, 65, 76, 85, 69, 83]) (n := 6) (by simp) (by kernel_rfl) (by decide)]
  simp only [List.drop_succ_cons, List.drop_zero]
  rw [lexF_skip (n := 1) (by simp) (by kernel_rfl) (by decide)]
  simp only [List.drop_succ_cons, List.drop_zero]
  rw [lexF_tok (k := 6) (t := [40]) (n := 1) (by simp) (by kernel_rfl) (by decide)]
  simp only [List.drop_succ_cons, List.drop_zero]
  rw [lexF_tok (k := 3) (t := []) (n := 2) (by simp) (by kernel_rfl) (by decide)]
  simp only [List.drop_succ_cons, List.drop_zero]
  rw [lexF_tok (k := 6) (t := [44]) (n := 1) (by simp) (by kernel_rfl) (by decide)]
  simp only [List.drop_succ_cons, List.drop_zero]
  rw [lexF_skip (n := 1) (by simp) (by kernel_rfl) (by decide)]
  simp only [List.drop_succ_cons, List.drop_zero]
  rw [lexF_tok (k := 3) (t := []) (n := 2) (by simp) (by kernel_rfl) (by decide)]
  simp only [List.drop_succ_cons, List.drop_zero]
  rw [lexF_tok (k := 6) (t := [41]) (n := 1) (by simp) (by kernel_rfl) (by decide)]
  simp only [List.drop_succ_cons, List.drop_zero]
  rw [lexF_nil]
  rfl
theorem form_Put (w : World) : Calls Tryz.prog 56 #[.string ⟨#[105, 110, 115, 101, 114, 116, 32, 105, 110, 116, 111, 32, 107, 118, 32, 118, 97, 108, 117, 101, 115, 32, 40, 39, 39, 44, 32, 39, 39, 41]⟩] w fun e w' => ∃ A n c ts, e = .returned (.slice A n c) ∧ TR w' A n ts ∧ (saysT ts).map emptyF = fPut ∧ n ≤ 20 ∧ Below w.heap.size w w' :=
  (form_ok ⟨#[105, 110, 115, 101, 114, 116, 32, 105, 110, 116, 111, 32, 107, 118, 32, 118, 97, 108, 117, 101, 115, 32, 40, 39, 39, 44, 32, 39, 39, 41]⟩ w (by decide)).mono fun e w' ⟨A, n, c, ts, he, ht, hs, hb⟩ => by
    rw [show (⟨#[105, 110, 115, 101, 114, 116, 32, 105, 110, 116, 111, 32, 107, 118, 32, 118, 97, 108, 117, 101, 115, 32, 40, 39, 39, 44, 32, 39, 39, 41]⟩ : ByteArray).data.toList = [105, 110, 115, 101, 114, 116, 32, 105, 110, 116, 111, 32, 107, 118, 32, 118, 97, 108, 117, 101, 115, 32, 40, 39, 39, 44, 32, 39, 39, 41] from rfl, lexA_some lex6_fPut (by decide)] at hs
    have hs2 : saysT ts = fPut := hs
    refine ⟨A, n, c, ts, he, ht, by rw [hs2]; decide, ?_, hb⟩
    rw [← ht.len, ← saysT_length, hs2]
    decide
theorem lex6_fChg : lexF [117, 112, 100, 97, 116, 101, 32, 107, 118, 32, 115, 101, 116, 32, 118, 32, 61, 32, 39, 39, 32, 119, 104, 101, 114, 101, 32, 107, 32, 61, 32, 39, 39] = some [(1, [85, 80, 68, 65, 84, 69]), (1, [75, 86]), (1, [83, 69, 84]), (1, [86]), (6, [61]), (3, []), (1, [87, 72, 69, 82, 69]), (1, [75]), (6, [61]), (3, [])] := by
  rw [lexF_tok (k := 1) (t := [85, 80, 68, 65, 84, 69]) (n := 6) (by simp) (by kernel_rfl) (by decide)]
  simp only [List.drop_succ_cons, List.drop_zero]
  rw [lexF_skip (n := 1) (by simp) (by kernel_rfl) (by decide)]
  simp only [List.drop_succ_cons, List.drop_zero]
  rw [lexF_tok (k := 1) (t := [75, 86]) (n := 2) (by simp) (by kernel_rfl) (by decide)]
  simp only [List.drop_succ_cons, List.drop_zero]
  rw [lexF_skip (n := 1) (by simp) (by kernel_rfl) (by decide)]
  simp only [List.drop_succ_cons, List.drop_zero]
  rw [lexF_tok (k := 1) (t := [83, 69, 84]) (n := 3) (by simp) (by kernel_rfl) (by decide)]
  simp only [List.drop_succ_cons, List.drop_zero]
  rw [lexF_skip (n := 1) (by simp) (by kernel_rfl) (by decide)]
  simp only [List.drop_succ_cons, List.drop_zero]
  rw [lexF_tok (k := 1) (t := [86]) (n := 1) (by simp) (by kernel_rfl) (by decide)]
  simp only [List.drop_succ_cons, List.drop_zero]
  rw [lexF_skip (n := 1) (by simp) (by kernel_rfl) (by decide)]
  simp only [List.drop_succ_cons, List.drop_zero]
  rw [lexF_tok (k := 6) (t := [61]) (n := 1) (by simp) (by kernel_rfl) (by decide)]
  simp only [List.drop_succ_cons, List.drop_zero]
  rw [lexF_skip (n := 1) (by simp) (by kernel_rfl) (by decide)]
  simp only [List.drop_succ_cons, List.drop_zero]
  rw [lexF_tok (k := 3) (t := []) (n := 2) (by simp) (by kernel_rfl) (by decide)]
  simp only [List.drop_succ_cons, List.drop_zero]
  rw [lexF_skip (n := 1) (by simp) (by kernel_rfl) (by decide)]
  simp only [List.drop_succ_cons, List.drop_zero]
  rw [lexF_tok (k := 1) (t := [87, 72, 69, 82, 69]) (n := 5) (by simp) (by kernel_rfl) (by decide)]
  simp only [List.drop_succ_cons, List.drop_zero]
  rw [lexF_skip (n := 1) (by simp) (by kernel_rfl) (by decide)]
  simp only [List.drop_succ_cons, List.drop_zero]
  rw [lexF_tok (k := 1) (t := [75]) (n := 1) (by simp) (by kernel_rfl) (by decide)]
  simp only [List.drop_succ_cons, List.drop_zero]
  rw [lexF_skip (n := 1) (by simp) (by kernel_rfl) (by decide)]
  simp only [List.drop_succ_cons, List.drop_zero]
  rw [lexF_tok (k := 6) (t := [61]) (n := 1) (by simp) (by kernel_rfl) (by decide)]
  simp only [List.drop_succ_cons, List.drop_zero]
  rw [lexF_skip (n := 1) (by simp) (by kernel_rfl) (by decide)]
  simp only [List.drop_succ_cons, List.drop_zero]
  rw [lexF_tok (k := 3) (t := []) (n := 2) (by simp) (by kernel_rfl) (by decide)]
  simp only [List.drop_succ_cons, List.drop_zero]
  rw [lexF_nil]
  rfl
theorem form_Chg (w : World) : Calls Tryz.prog 56 #[.string ⟨#[117, 112, 100, 97, 116, 101, 32, 107, 118, 32, 115, 101, 116, 32, 118, 32, 61, 32, 39, 39, 32, 119, 104, 101, 114, 101, 32, 107, 32, 61, 32, 39, 39]⟩] w fun e w' => ∃ A n c ts, e = .returned (.slice A n c) ∧ TR w' A n ts ∧ (saysT ts).map emptyF = fChg ∧ n ≤ 20 ∧ Below w.heap.size w w' :=
  (form_ok ⟨#[117, 112, 100, 97, 116, 101, 32, 107, 118, 32, 115, 101, 116, 32, 118, 32, 61, 32, 39, 39, 32, 119, 104, 101, 114, 101, 32, 107, 32, 61, 32, 39, 39]⟩ w (by decide)).mono fun e w' ⟨A, n, c, ts, he, ht, hs, hb⟩ => by
    rw [show (⟨#[117, 112, 100, 97, 116, 101, 32, 107, 118, 32, 115, 101, 116, 32, 118, 32, 61, 32, 39, 39, 32, 119, 104, 101, 114, 101, 32, 107, 32, 61, 32, 39, 39]⟩ : ByteArray).data.toList = [117, 112, 100, 97, 116, 101, 32, 107, 118, 32, 115, 101, 116, 32, 118, 32, 61, 32, 39, 39, 32, 119, 104, 101, 114, 101, 32, 107, 32, 61, 32, 39, 39] from rfl, lexA_some lex6_fChg (by decide)] at hs
    have hs2 : saysT ts = fChg := hs
    refine ⟨A, n, c, ts, he, ht, by rw [hs2]; decide, ?_, hb⟩
    rw [← ht.len, ← saysT_length, hs2]
    decide
theorem lex6_fDel : lexF [100, 101, 108, 101, 116, 101, 32, 102, 114, 111, 109, 32, 107, 118, 32, 119, 104, 101, 114, 101, 32, 107, 32, 61, 32, 39, 39] = some [(1, [68, 69, 76, 69, 84, 69]), (1, [70, 82, 79, 77]), (1, [75, 86]), (1, [87, 72, 69, 82, 69]), (1, [75]), (6, [61]), (3, [])] := by
  rw [lexF_tok (k := 1) (t := [68, 69, 76, 69, 84, 69]) (n := 6) (by simp) (by kernel_rfl) (by decide)]
  simp only [List.drop_succ_cons, List.drop_zero]
  rw [lexF_skip (n := 1) (by simp) (by kernel_rfl) (by decide)]
  simp only [List.drop_succ_cons, List.drop_zero]
  rw [lexF_tok (k := 1) (t := [70, 82, 79, 77]) (n := 4) (by simp) (by kernel_rfl) (by decide)]
  simp only [List.drop_succ_cons, List.drop_zero]
  rw [lexF_skip (n := 1) (by simp) (by kernel_rfl) (by decide)]
  simp only [List.drop_succ_cons, List.drop_zero]
  rw [lexF_tok (k := 1) (t := [75, 86]) (n := 2) (by simp) (by kernel_rfl) (by decide)]
  simp only [List.drop_succ_cons, List.drop_zero]
  rw [lexF_skip (n := 1) (by simp) (by kernel_rfl) (by decide)]
  simp only [List.drop_succ_cons, List.drop_zero]
  rw [lexF_tok (k := 1) (t := [87, 72, 69, 82, 69]) (n := 5) (by simp) (by kernel_rfl) (by decide)]
  simp only [List.drop_succ_cons, List.drop_zero]
  rw [lexF_skip (n := 1) (by simp) (by kernel_rfl) (by decide)]
  simp only [List.drop_succ_cons, List.drop_zero]
  rw [lexF_tok (k := 1) (t := [75]) (n := 1) (by simp) (by kernel_rfl) (by decide)]
  simp only [List.drop_succ_cons, List.drop_zero]
  rw [lexF_skip (n := 1) (by simp) (by kernel_rfl) (by decide)]
  simp only [List.drop_succ_cons, List.drop_zero]
  rw [lexF_tok (k := 6) (t := [61]) (n := 1) (by simp) (by kernel_rfl) (by decide)]
  simp only [List.drop_succ_cons, List.drop_zero]
  rw [lexF_skip (n := 1) (by simp) (by kernel_rfl) (by decide)]
  simp only [List.drop_succ_cons, List.drop_zero]
  rw [lexF_tok (k := 3) (t := []) (n := 2) (by simp) (by kernel_rfl) (by decide)]
  simp only [List.drop_succ_cons, List.drop_zero]
  rw [lexF_nil]
  rfl
theorem form_Del (w : World) : Calls Tryz.prog 56 #[.string ⟨#[100, 101, 108, 101, 116, 101, 32, 102, 114, 111, 109, 32, 107, 118, 32, 119, 104, 101, 114, 101, 32, 107, 32, 61, 32, 39, 39]⟩] w fun e w' => ∃ A n c ts, e = .returned (.slice A n c) ∧ TR w' A n ts ∧ (saysT ts).map emptyF = fDel ∧ n ≤ 20 ∧ Below w.heap.size w w' :=
  (form_ok ⟨#[100, 101, 108, 101, 116, 101, 32, 102, 114, 111, 109, 32, 107, 118, 32, 119, 104, 101, 114, 101, 32, 107, 32, 61, 32, 39, 39]⟩ w (by decide)).mono fun e w' ⟨A, n, c, ts, he, ht, hs, hb⟩ => by
    rw [show (⟨#[100, 101, 108, 101, 116, 101, 32, 102, 114, 111, 109, 32, 107, 118, 32, 119, 104, 101, 114, 101, 32, 107, 32, 61, 32, 39, 39]⟩ : ByteArray).data.toList = [100, 101, 108, 101, 116, 101, 32, 102, 114, 111, 109, 32, 107, 118, 32, 119, 104, 101, 114, 101, 32, 107, 32, 61, 32, 39, 39] from rfl, lexA_some lex6_fDel (by decide)] at hs
    have hs2 : saysT ts = fDel := hs
    refine ⟨A, n, c, ts, he, ht, by rw [hs2]; decide, ?_, hb⟩
    rw [← ht.len, ← saysT_length, hs2]
    decide

set_option maxHeartbeats 1000000 in
theorem keep_step {l : List Tok} {t : Tok} (h : t.1 = 5) : keptF (l ++ [t]) = keptF l := by simp [keptF, isHintF, h]
theorem keep_more {l : List Tok} {t : Tok} (h : t.1 ≠ 5) : keptF (l ++ [t]) = keptF l ++ [t] := by simp [keptF, isHintF, h]

/-- the tokens of a form: is it, and its Strings -/
theorem strs_form {L : List Tok} {ss : List ByteArray} {f : List Tok} (h : L.map emptyF = f) (hs : bts ss = strsF L) : ss.length = (strsF f).length := by
  rw [← strs_len h, ← hs]
  simp [bts]
theorem one_of {ss : List ByteArray} (h : ss.length = 1) : ∃ x, ss = [x] := by
  match ss, h with
  | [x], _ => exact ⟨x, rfl⟩
theorem two_of {ss : List ByteArray} (h : ss.length = 2) : ∃ x y, ss = [x, y] := by
  match ss, h with
  | [x, y], _ => exact ⟨x, y, rfl⟩

set_option maxHeartbeats 16000000 in
theorem rof_ok (s : ByteArray) (w : World) (hm : s.size ≤ maxLen) : OfTo 40 s w := by
  obtain ⟨j0, gi, gz0, gz1, gz2⟩ := info_parts tkinfoR
  have kw := kp_new w (.cells #[.int .i64 0, .string ⟨#[]⟩, .string ⟨#[]⟩] 89)
  have hlx := rlex_ok s (w.alloc (.cells #[.int .i64 0, .string ⟨#[]⟩, .string ⟨#[]⟩] 89)) hm
  unfold LexTo at hlx
  have hlen := lexA_len s.data.toList
  have herr := lexA_err s.data.toList
  have hP : planA s.data.toList = planF (bodyF (lexA s.data.toList).1) := rfl
  unfold OfTo
  generalize planA s.data.toList = R at *
  have HP := Lib.hid hP
  have HX := Lib.hid hlx
  have HLN := Lib.hid hlen
  have HER := Lib.hid herr
  clear hP hlx hlen herr
  go_enter Tryz.func40, Tryz.ntmps40
  go_wp2_with fail
  refine HX.out.mono ?_
  rintro e w1 ⟨A, n, c, er, ts, rfl, ho, hla, k1⟩
  rw [← hla] at HLN HP HER
  clear hla HX
  have hb1 : Hid (∀ u, Below w1.heap.size w1 u → u.heap[w.heap.size]? = some (.cells #[.int .i64 0, .string ⟨#[]⟩, .string ⟨#[]⟩] 89 (0, 0))) := Lib.hid fun u hu => ((kp_trans k1 hu).block _ (by simp)).trans (heap_alloc_new w _)
  have K1 := kp_trans kw k1
  have hlt1 : w.heap.size + 1 ≤ w1.heap.size := by have := k1.size; simpa using this
  have hn : n ≤ 200 := by rw [← ho.len, ← saysT_length]; exact HLN.out
  by_cases he0 : er = 0
  case neg =>
    have hne : (er != 0) = true := by simpa using he0
    obtain ⟨d0, d1, d2, f0, f1, f2⟩ := cells3f (hb1.out w1 (Below.refl _ _))
    have hR : Hid (doing 0 ⟨#[]⟩ ⟨#[]⟩ = R) := Lib.hid (by rw [HP.out, HER.out he0]; rfl)
    clear he0
    go_wp2_with fail
    refine bodyPost_ret (v := planV 0 ⟨#[]⟩ ⟨#[]⟩) ?_ rfl ⟨0, ⟨#[]⟩, ⟨#[]⟩, rfl, hR.out, ((K1.setCell (Nat.le_refl _) _).setCell (Nat.le_refl _) _).setCell (Nat.le_refl _) _⟩
    rw [results_cell1 rfl]
    unfold planV
    go_simp
  subst he0
  have HTR := Lib.hid ho.tr
  have hlenT := Lib.hid ho.len
  have hown0 : Hid (OT 128 (w1.alloc (.cells #[] 128)) w1.heap.size (some ⟨w1.heap.size, 0, none⟩) 0 0 []) := Lib.hid (OT.empty _ _)
  have hk0 := Lib.hid (kp_new w1 (.cells #[] 128))
  clear ho
  go_wp2_with fail
  go_loopw [5, 6] (fun o i wr => ∃ (q z : Nat) (B : Option Addr) (e : Nat) (ms : List Tk), q ≤ n ∧ z ≤ q ∧ i = .int .i64 q ∧ o = .slice B z e ∧ Hid (OT 128 wr w1.heap.size B z e ms) ∧ Hid (saysT ms = keptF (saysT (ts.take q))) ∧ Below w1.heap.size w1 wr) (fun _ i _ => n - (intOf i).toNat)
  case atStart => exact ⟨0, 0, _, 0, [], Nat.zero_le _, Nat.le_refl _, rfl, rfl, hown0, Lib.hid rfl, hk0.out⟩
  case round =>
    obtain ⟨q, z, B, e, ms, hq, hz, rfl, rfl, hom, hms, k2⟩ := hrel
    have hsz2 := k2.size
    by_cases hlt : q < n
    · have hkl : q < ts.length := by rw [hlenT.out]; exact hlt
      obtain ⟨ad, rfl, had, hc⟩ := HTR.out.at_ hkl
      obtain ⟨c0, c1⟩ := hc _ k2
      have hsn := says_next ts q hkl
      have hte : ts[q].says = (ts[q].k, ts[q].t.data.toList) := rfl
      rw [hte] at hsn
      clear hc hte
      generalize ts[q].k = x at *
      generalize ts[q].t = y at *
      by_cases h5 : x = 5
      · subst h5
        have hms2 : Hid (saysT ms = keptF (saysT (ts.take (q + 1)))) := Lib.hid (by rw [hsn, keep_step (by rfl)]; exact hms.out)
        clear hsn hms
        go_wp2_with fail
        go_roundw
        case rel => exact ⟨q + 1, z, B, e, ms, by omega, by omega, by go_num, rfl, hom, hms2, k2⟩
        case measure => simp [intOf]; omega
      · have n5 : (x != 5) = true := by simpa using h5
        have hms2 : Hid (saysT (ms ++ [⟨x, y⟩]) = keptF (saysT (ts.take (q + 1)))) := Lib.hid (by rw [hsn, keep_more h5, saysT_append, hms.out]; rfl)
        have HO := Lib.hid (hom.out.own.alloc (.cells #[.int .i64 x, .string y] 128))
        have HSRC : Hid (Rd (wr.alloc (.cells #[.int .i64 x, .string y] 128)) (wr.heap.size + 1) (some ⟨wr.heap.size, 0, none⟩) [.int .i64 x, .string y]) := Lib.hid (Rd.new wr 128 [.int .i64 x, .string y])
        have KA := Lib.hid (kp_alloc k2 (.cells #[.int .i64 x, .string y] 128))
        clear hsn hms hom h5
        go_wp2_with (at_builtin; refine wpList_append_rds rfl _ _ _ rfl w1.heap.size 128 j0 _ 2 24 Tryz.underlying124 gi gz0 gz1 gz2 rfl (by omega) _ z _ rfl HO.out _ _ _ _ [.int .i64 x, .string y] rfl rfl HSRC.out (by simp [Value.oneCell']) (by unfold maxLen; omega) (by omega) KA.out.size ?_; intro v4 w4 hown4 hg4; obtain ⟨A4, c4, rfl, ho4⟩ := OT.push hown4)
        go_roundw
        case rel => exact ⟨q + 1, z + 1, A4, c4, ms ++ [⟨x, y⟩], by omega, by omega, by go_num, rfl, Lib.hid ho4, hms2, KA.out.trans (below_own_s HO.out hg4 KA.out.size)⟩
        case measure => simp [intOf]; omega
    · obtain rfl : q = n := by omega
      rw [List.take_of_length_le (by rw [hlenT.out]; exact Nat.le_refl _)] at hms
      have HM := Lib.hid hom.out.tr
      have hze := hom.out.cap
      have hlm := Lib.hid hom.out.len
      have K2 := kp_trans K1 k2
      have HB2 := Lib.hid (fun u (hu : Below wr.heap.size wr u) => hb1.out u (kp_trans k2 hu))
      clear hom hsz2
      obtain ⟨wo, hwo⟩ : ∃ x, x = wr := ⟨wr, rfl⟩
      subst hwo
      go_wp2_with fail
      go_loopw [5] (fun o wr => ∃ j : Nat, j ≤ z ∧ o = .slice B j e ∧ Hid (endF (saysT ms) = endF (saysT (ms.take j))) ∧ Below wo.heap.size wo wr) (fun v _ => match v with | .slice _ k _ => k | _ => 0)
      case atStart => exact ⟨z, Nat.le_refl _, rfl, Lib.hid (by rw [List.take_of_length_le (by rw [hlm.out]; exact Nat.le_refl _)]), Below.refl _ _⟩
      case round =>
        obtain ⟨j, hj, rfl, hx, k3⟩ := hrel
        have hstop : (∃ j', j = j' + 1 ∧ ∃ hjl : j' < ms.length, stopF ms[j'].says = true) ∨ Hid (saysT (ms.take j) = endF (saysT ms)) := by
          cases j with
          | zero => exact .inr (Lib.hid (by rw [hx.out]; rfl))
          | succ j' =>
            have hjl : j' < ms.length := by rw [hlm.out]; omega
            have hst := says_next ms j' hjl
            cases hs : stopF ms[j'].says with
            | true => exact .inl ⟨j', rfl, hjl, hs⟩
            | false => exact .inr (Lib.hid (by rw [hx.out, hst, endF_last hs]))
        rcases hstop with ⟨j', rfl, hjl, hs⟩ | hend
        · obtain ⟨ad, rfl, _, hcc⟩ := HM.out.at_ hjl
          obtain ⟨c0, c1⟩ := hcc _ k3
          have hst := says_next ms j' hjl
          have hx2 : Hid (endF (saysT ms) = endF (saysT (ms.take j'))) := Lib.hid (by rw [hx.out, hst, endF_stop hs])
          have his := stop_is hs
          have hk6 : ms[j'].k = 6 := congrArg Prod.fst his
          have ht59 : ms[j'].t = ⟨#[59]⟩ := text_ext (congrArg Prod.snd his)
          rw [hk6] at c0
          rw [ht59] at c1
          have e1 : ((j' + 1 : Nat) : Int) - 1 = (j' : Int) := by omega
          clear hcc hst hx hs his hk6 ht59
          go_wp2_with fail
          go_roundw
          case rel => exact ⟨j', by omega, rfl, hx2, k3⟩
          case measure => simp
        · have HMJ := Lib.hid (HM.out.front hj)
          have hbody : Hid (saysT (ms.take j) = bodyF (saysT ts)) := Lib.hid (by rw [hend.out, hms.out]; rfl)
          have hj200 : j ≤ 1000 := by omega
          have K3 := kp_trans K2 k3
          have HB3 := Lib.hid (fun u (hu : Below wr.heap.size wr u) => HB2.out u (kp_trans k3 hu))
          have HM3 := Lib.hid (fun u (hu : Below wr.heap.size wr u) => HMJ.out.next (kp_trans k3 hu))
          have hguard : (∃ j', j = j' + 1 ∧ ∃ hjl : j' < ms.length, (ms[j'].k = 6 → ms[j'].t ≠ ⟨#[59]⟩)) ∨ j = 0 := by
            cases j with
            | zero => exact .inr rfl
            | succ j' =>
              have hjl : j' < ms.length := by rw [hlm.out]; omega
              refine .inl ⟨j', rfl, hjl, fun h6 h59 => ?_⟩
              have hst := says_next ms j' hjl
              have hs : stopF ms[j'].says = true := by
                have e : ms[j'].says = (6, [59]) := by
                  show (ms[j'].k, ms[j'].t.data.toList) = _
                  rw [h6, h59]
                rw [e]
                rfl
              have h1 := hend.out
              rw [hx.out, hst, endF_stop hs] at h1
              have h2 := congrArg List.length h1
              obtain ⟨st, h3, _⟩ := endF_split (saysT (ms.take j'))
              have h4 := congrArg List.length h3
              rw [List.length_append] at h2 h4
              simp at h2
              omega
          have HP2 : Hid (R = planF (saysT (ms.take j))) := Lib.hid (by rw [HP.out, hbody.out])
          clear hend hx hbody
          have hcut : j = 0 ∨ ∃ j', j = j' + 1 ∧ ∃ ad, B = some ad ∧ ∃ (a : Int) (x : ByteArray), (a = 6 → x ≠ ⟨#[59]⟩) ∧ wr.cell? (ad.add (j' * 2)) = some (.int .i64 a) ∧ wr.cell? ⟨(ad.add (j' * 2)).block, (ad.add (j' * 2)).off + 1, none⟩ = some (.string x) := by
            rcases hguard with ⟨j', rfl, hjl, hne⟩ | rfl
            · obtain ⟨ad, rfl, _, hcc⟩ := HM.out.at_ hjl
              obtain ⟨c0, c1⟩ := hcc _ k3
              exact .inr ⟨j', rfl, ad, rfl, _, _, hne, c0, c1⟩
            · exact .inl rfl
          clear hguard
          have HMS := Lib.hid (rfl : ms.take j = ms.take j)
          obtain ⟨mj, hmj⟩ : ∃ mj, Hid (ms.take j = mj) := ⟨_, HMS⟩
          rw [hmj.out] at HP2 HM3
          clear HMJ HMS hmj hms HP HM
          rcases hcut with rfl | ⟨j', rfl, ad, rfl, a, x, hne, c0, c1⟩
          · go_wp2_with fail
            refine (form_Get _).mono ?_
            rintro e u1 ⟨F1, nf1, cf1, fs1, rfl, hf1, hfs1, hnf1, kf1⟩
            have P1 : Below wr.heap.size wr u1 := kp_trans (Below.refl _ _) kf1
            have HST1 := Lib.hid (strs_ok B F1 0 nf1 e cf1 mj fs1 u1 (HM3.out _ P1) hf1 hj200 (by omega))
            unfold StrsTo at HST1
            go_wp2_with fail
            refine HST1.out.mono ?_
            rintro e' v1 ⟨S1, ns1, cs1, ss1, b1, rfl, hb1, hyes1, kv1⟩
            have Q1 := kp_trans P1 kv1
            rw [hfs1] at hb1
            clear HST1 hf1 hfs1 kf1
            cases b1 with
            | true =>
              obtain ⟨hxr, hss⟩ := hyes1 rfl
              have hfe := of_decide_eq_true hb1.symm
              obtain ⟨x, rfl⟩ := one_of (strs_form hfe hss)
              have hR : Hid (doing 1 x ⟨#[]⟩ = R) := Lib.hid (by rw [HP2.out, planF, ← hss, hfe]; rfl)
              obtain ⟨sd, rfl, hsd, g0⟩ := hxr.at_ (j := 0) (by simp)
              rw [show sd.add 0 = sd from rfl, List.getElem_cons_zero] at g0
              obtain rfl : ns1 = 1 := hxr.len.symm
              obtain ⟨d0, d1, d2, f0, f1, f2⟩ := cells3f (HB3.out v1 Q1)
              have KW := kp_trans K3 Q1
              clear hss hfe hb1 hyes1 hxr
              go_wp2_with fail
              refine bodyPost_ret (v := planV 1 x ⟨#[]⟩) ?_ rfl ⟨1, x, ⟨#[]⟩, rfl, hR.out, ((KW.setCell (Nat.le_refl _) _).setCell (Nat.le_refl _) _).setCell (Nat.le_refl _) _⟩
              · rw [results_cell1 rfl]
                unfold planV
                go_simp
            | false =>
            have hno1 : Hid (¬ (saysT mj).map emptyF = fGet) := Lib.hid (of_decide_eq_false hb1.symm)
            clear hb1 hyes1
            go_wp2_with fail
            refine (form_All _).mono ?_
            rintro e u2 ⟨F2, nf2, cf2, fs2, rfl, hf2, hfs2, hnf2, kf2⟩
            have P2 : Below wr.heap.size wr u2 := kp_trans Q1 kf2
            have HST2 := Lib.hid (strs_ok B F2 0 nf2 e cf2 mj fs2 u2 (HM3.out _ P2) hf2 hj200 (by omega))
            unfold StrsTo at HST2
            go_wp2_with fail
            refine HST2.out.mono ?_
            rintro e' v2 ⟨S2, ns2, cs2, ss2, b2, rfl, hb2, hyes2, kv2⟩
            have Q2 := kp_trans P2 kv2
            rw [hfs2] at hb2
            clear HST2 hf2 hfs2 kf2
            cases b2 with
            | true =>
              obtain ⟨hxr, hss⟩ := hyes2 rfl
              have hfe := of_decide_eq_true hb2.symm
              have hR : Hid (doing 2 ⟨#[]⟩ ⟨#[]⟩ = R) := Lib.hid (by rw [HP2.out, planF, hfe]; rfl)
              obtain ⟨d0, d1, d2, f0, f1, f2⟩ := cells3f (HB3.out v2 Q2)
              have KW := kp_trans K3 Q2
              clear hss hfe hb2 hyes2 hxr
              go_wp2_with fail
              refine bodyPost_ret (v := planV 2 ⟨#[]⟩ ⟨#[]⟩) ?_ rfl ⟨2, ⟨#[]⟩, ⟨#[]⟩, rfl, hR.out, ((KW.setCell (Nat.le_refl _) _).setCell (Nat.le_refl _) _).setCell (Nat.le_refl _) _⟩
              · rw [results_cell1 rfl]
                unfold planV
                go_simp
            | false =>
            have hno2 : Hid (¬ (saysT mj).map emptyF = fAll) := Lib.hid (of_decide_eq_false hb2.symm)
            clear hb2 hyes2
            go_wp2_with fail
            refine (form_Put _).mono ?_
            rintro e u3 ⟨F3, nf3, cf3, fs3, rfl, hf3, hfs3, hnf3, kf3⟩
            have P3 : Below wr.heap.size wr u3 := kp_trans Q2 kf3
            have HST3 := Lib.hid (strs_ok B F3 0 nf3 e cf3 mj fs3 u3 (HM3.out _ P3) hf3 hj200 (by omega))
            unfold StrsTo at HST3
            go_wp2_with fail
            refine HST3.out.mono ?_
            rintro e' v3 ⟨S3, ns3, cs3, ss3, b3, rfl, hb3, hyes3, kv3⟩
            have Q3 := kp_trans P3 kv3
            rw [hfs3] at hb3
            clear HST3 hf3 hfs3 kf3
            cases b3 with
            | true =>
              obtain ⟨hxr, hss⟩ := hyes3 rfl
              have hfe := of_decide_eq_true hb3.symm
              obtain ⟨x, y, rfl⟩ := two_of (strs_form hfe hss)
              have hR : Hid (doing 3 x y = R) := Lib.hid (by rw [HP2.out, planF, ← hss, hfe]; rfl)
              obtain ⟨sd, rfl, hsd, g0⟩ := hxr.at_ (j := 0) (by simp)
              obtain ⟨sd', e'', _, g1⟩ := hxr.at_ (j := 1) (by simp)
              injection e'' with e''
              subst e''
              rw [show sd.add 0 = sd from rfl, List.getElem_cons_zero] at g0
              rw [show sd.add 1 = ⟨sd.block, sd.off + 1, none⟩ from rfl, List.getElem_cons_succ, List.getElem_cons_zero] at g1
              obtain rfl : ns3 = 2 := hxr.len.symm
              obtain ⟨d0, d1, d2, f0, f1, f2⟩ := cells3f (HB3.out v3 Q3)
              have KW := kp_trans K3 Q3
              clear hss hfe hb3 hyes3 hxr
              go_wp2_with fail
              go_region
              all_goals
                go_wp2_with fail
                refine bodyPost_ret (v := planV 3 x y) ?_ rfl ⟨3, x, y, rfl, hR.out, ?_⟩
                · rw [results_cell1 rfl]
                  unfold planV
                  go_simp
                · exact ((KW.drew.setCell (Nat.le_refl _) _).setCell (Nat.le_refl _) _).setCell (Nat.le_refl _) _
            | false =>
            have hno3 : Hid (¬ (saysT mj).map emptyF = fPut) := Lib.hid (of_decide_eq_false hb3.symm)
            clear hb3 hyes3
            go_wp2_with fail
            refine (form_Chg _).mono ?_
            rintro e u4 ⟨F4, nf4, cf4, fs4, rfl, hf4, hfs4, hnf4, kf4⟩
            have P4 : Below wr.heap.size wr u4 := kp_trans Q3 kf4
            have HST4 := Lib.hid (strs_ok B F4 0 nf4 e cf4 mj fs4 u4 (HM3.out _ P4) hf4 hj200 (by omega))
            unfold StrsTo at HST4
            go_wp2_with fail
            refine HST4.out.mono ?_
            rintro e' v4 ⟨S4, ns4, cs4, ss4, b4, rfl, hb4, hyes4, kv4⟩
            have Q4 := kp_trans P4 kv4
            rw [hfs4] at hb4
            clear HST4 hf4 hfs4 kf4
            cases b4 with
            | true =>
              obtain ⟨hxr, hss⟩ := hyes4 rfl
              have hfe := of_decide_eq_true hb4.symm
              obtain ⟨x, y, rfl⟩ := two_of (strs_form hfe hss)
              have hR : Hid (doing 4 y x = R) := Lib.hid (by rw [HP2.out, planF, ← hss, hfe]; rfl)
              obtain ⟨sd, rfl, hsd, g0⟩ := hxr.at_ (j := 0) (by simp)
              obtain ⟨sd', e'', _, g1⟩ := hxr.at_ (j := 1) (by simp)
              injection e'' with e''
              subst e''
              rw [show sd.add 0 = sd from rfl, List.getElem_cons_zero] at g0
              rw [show sd.add 1 = ⟨sd.block, sd.off + 1, none⟩ from rfl, List.getElem_cons_succ, List.getElem_cons_zero] at g1
              obtain rfl : ns4 = 2 := hxr.len.symm
              obtain ⟨d0, d1, d2, f0, f1, f2⟩ := cells3f (HB3.out v4 Q4)
              have KW := kp_trans K3 Q4
              clear hss hfe hb4 hyes4 hxr
              go_wp2_with fail
              go_region
              all_goals
                go_wp2_with fail
                refine bodyPost_ret (v := planV 4 y x) ?_ rfl ⟨4, y, x, rfl, hR.out, ?_⟩
                · rw [results_cell1 rfl]
                  unfold planV
                  go_simp
                · exact ((KW.drew.setCell (Nat.le_refl _) _).setCell (Nat.le_refl _) _).setCell (Nat.le_refl _) _
            | false =>
            have hno4 : Hid (¬ (saysT mj).map emptyF = fChg) := Lib.hid (of_decide_eq_false hb4.symm)
            clear hb4 hyes4
            go_wp2_with fail
            refine (form_Del _).mono ?_
            rintro e u5 ⟨F5, nf5, cf5, fs5, rfl, hf5, hfs5, hnf5, kf5⟩
            have P5 : Below wr.heap.size wr u5 := kp_trans Q4 kf5
            have HST5 := Lib.hid (strs_ok B F5 0 nf5 e cf5 mj fs5 u5 (HM3.out _ P5) hf5 hj200 (by omega))
            unfold StrsTo at HST5
            go_wp2_with fail
            refine HST5.out.mono ?_
            rintro e' v5 ⟨S5, ns5, cs5, ss5, b5, rfl, hb5, hyes5, kv5⟩
            have Q5 := kp_trans P5 kv5
            rw [hfs5] at hb5
            clear HST5 hf5 hfs5 kf5
            cases b5 with
            | true =>
              obtain ⟨hxr, hss⟩ := hyes5 rfl
              have hfe := of_decide_eq_true hb5.symm
              obtain ⟨x, rfl⟩ := one_of (strs_form hfe hss)
              have hR : Hid (doing 5 x ⟨#[]⟩ = R) := Lib.hid (by rw [HP2.out, planF, ← hss, hfe]; rfl)
              obtain ⟨sd, rfl, hsd, g0⟩ := hxr.at_ (j := 0) (by simp)
              rw [show sd.add 0 = sd from rfl, List.getElem_cons_zero] at g0
              obtain rfl : ns5 = 1 := hxr.len.symm
              obtain ⟨d0, d1, d2, f0, f1, f2⟩ := cells3f (HB3.out v5 Q5)
              have KW := kp_trans K3 Q5
              clear hss hfe hb5 hyes5 hxr
              go_wp2_with fail
              refine bodyPost_ret (v := planV 5 x ⟨#[]⟩) ?_ rfl ⟨5, x, ⟨#[]⟩, rfl, hR.out, ((KW.setCell (Nat.le_refl _) _).setCell (Nat.le_refl _) _).setCell (Nat.le_refl _) _⟩
              · rw [results_cell1 rfl]
                unfold planV
                go_simp
            | false =>
            have hno5 : Hid (¬ (saysT mj).map emptyF = fDel) := Lib.hid (of_decide_eq_false hb5.symm)
            clear hb5 hyes5
            obtain ⟨d0, d1, d2, f0, f1, f2⟩ := cells3f (HB3.out v5 Q5)
            have KW := kp_trans K3 Q5
            have hR : Hid (doing 0 ⟨#[]⟩ ⟨#[]⟩ = R) := Lib.hid (by
              rw [HP2.out, planF]
              unfold pickF
              rw [if_neg hno1.out, if_neg hno2.out, if_neg hno3.out, if_neg hno4.out, if_neg hno5.out]
              rfl)
            go_wp2_with fail
            refine bodyPost_ret (v := planV 0 ⟨#[]⟩ ⟨#[]⟩) ?_ rfl ⟨0, ⟨#[]⟩, ⟨#[]⟩, rfl, hR.out, ((KW.setCell (Nat.le_refl _) _).setCell (Nat.le_refl _) _).setCell (Nat.le_refl _) _⟩
            rw [results_cell1 rfl]
            unfold planV
            go_simp
          · have e1 : ((j' + 1 : Nat) : Int) - 1 = (j' : Int) := by omega
            by_cases h6 : a = 6
            · subst h6
              have h59 : (x.toList == [59]) = false := by
                simp only [beq_eq_false_iff_ne, ne_eq]
                exact fun h => hne rfl (bytes_ext (by rw [h, ByteArray.toList_eq]))
              clear hne
              go_wp2_with fail
              refine (form_Get _).mono ?_
              rintro e u1 ⟨F1, nf1, cf1, fs1, rfl, hf1, hfs1, hnf1, kf1⟩
              have P1 : Below wr.heap.size wr u1 := kp_trans (Below.refl _ _) kf1
              have HST1 := Lib.hid (strs_ok (some ad) F1 (j' + 1) nf1 e cf1 mj fs1 u1 (HM3.out _ P1) hf1 hj200 (by omega))
              unfold StrsTo at HST1
              go_wp2_with fail
              refine HST1.out.mono ?_
              rintro e' v1 ⟨S1, ns1, cs1, ss1, b1, rfl, hb1, hyes1, kv1⟩
              have Q1 := kp_trans P1 kv1
              rw [hfs1] at hb1
              clear HST1 hf1 hfs1 kf1
              cases b1 with
              | true =>
                obtain ⟨hxr, hss⟩ := hyes1 rfl
                have hfe := of_decide_eq_true hb1.symm
                obtain ⟨x, rfl⟩ := one_of (strs_form hfe hss)
                have hR : Hid (doing 1 x ⟨#[]⟩ = R) := Lib.hid (by rw [HP2.out, planF, ← hss, hfe]; rfl)
                obtain ⟨sd, rfl, hsd, g0⟩ := hxr.at_ (j := 0) (by simp)
                rw [show sd.add 0 = sd from rfl, List.getElem_cons_zero] at g0
                obtain rfl : ns1 = 1 := hxr.len.symm
                obtain ⟨d0, d1, d2, f0, f1, f2⟩ := cells3f (HB3.out v1 Q1)
                have KW := kp_trans K3 Q1
                clear hss hfe hb1 hyes1 hxr
                go_wp2_with fail
                refine bodyPost_ret (v := planV 1 x ⟨#[]⟩) ?_ rfl ⟨1, x, ⟨#[]⟩, rfl, hR.out, ((KW.setCell (Nat.le_refl _) _).setCell (Nat.le_refl _) _).setCell (Nat.le_refl _) _⟩
                · rw [results_cell1 rfl]
                  unfold planV
                  go_simp
              | false =>
              have hno1 : Hid (¬ (saysT mj).map emptyF = fGet) := Lib.hid (of_decide_eq_false hb1.symm)
              clear hb1 hyes1
              go_wp2_with fail
              refine (form_All _).mono ?_
              rintro e u2 ⟨F2, nf2, cf2, fs2, rfl, hf2, hfs2, hnf2, kf2⟩
              have P2 : Below wr.heap.size wr u2 := kp_trans Q1 kf2
              have HST2 := Lib.hid (strs_ok (some ad) F2 (j' + 1) nf2 e cf2 mj fs2 u2 (HM3.out _ P2) hf2 hj200 (by omega))
              unfold StrsTo at HST2
              go_wp2_with fail
              refine HST2.out.mono ?_
              rintro e' v2 ⟨S2, ns2, cs2, ss2, b2, rfl, hb2, hyes2, kv2⟩
              have Q2 := kp_trans P2 kv2
              rw [hfs2] at hb2
              clear HST2 hf2 hfs2 kf2
              cases b2 with
              | true =>
                obtain ⟨hxr, hss⟩ := hyes2 rfl
                have hfe := of_decide_eq_true hb2.symm
                have hR : Hid (doing 2 ⟨#[]⟩ ⟨#[]⟩ = R) := Lib.hid (by rw [HP2.out, planF, hfe]; rfl)
                obtain ⟨d0, d1, d2, f0, f1, f2⟩ := cells3f (HB3.out v2 Q2)
                have KW := kp_trans K3 Q2
                clear hss hfe hb2 hyes2 hxr
                go_wp2_with fail
                refine bodyPost_ret (v := planV 2 ⟨#[]⟩ ⟨#[]⟩) ?_ rfl ⟨2, ⟨#[]⟩, ⟨#[]⟩, rfl, hR.out, ((KW.setCell (Nat.le_refl _) _).setCell (Nat.le_refl _) _).setCell (Nat.le_refl _) _⟩
                · rw [results_cell1 rfl]
                  unfold planV
                  go_simp
              | false =>
              have hno2 : Hid (¬ (saysT mj).map emptyF = fAll) := Lib.hid (of_decide_eq_false hb2.symm)
              clear hb2 hyes2
              go_wp2_with fail
              refine (form_Put _).mono ?_
              rintro e u3 ⟨F3, nf3, cf3, fs3, rfl, hf3, hfs3, hnf3, kf3⟩
              have P3 : Below wr.heap.size wr u3 := kp_trans Q2 kf3
              have HST3 := Lib.hid (strs_ok (some ad) F3 (j' + 1) nf3 e cf3 mj fs3 u3 (HM3.out _ P3) hf3 hj200 (by omega))
              unfold StrsTo at HST3
              go_wp2_with fail
              refine HST3.out.mono ?_
              rintro e' v3 ⟨S3, ns3, cs3, ss3, b3, rfl, hb3, hyes3, kv3⟩
              have Q3 := kp_trans P3 kv3
              rw [hfs3] at hb3
              clear HST3 hf3 hfs3 kf3
              cases b3 with
              | true =>
                obtain ⟨hxr, hss⟩ := hyes3 rfl
                have hfe := of_decide_eq_true hb3.symm
                obtain ⟨x, y, rfl⟩ := two_of (strs_form hfe hss)
                have hR : Hid (doing 3 x y = R) := Lib.hid (by rw [HP2.out, planF, ← hss, hfe]; rfl)
                obtain ⟨sd, rfl, hsd, g0⟩ := hxr.at_ (j := 0) (by simp)
                obtain ⟨sd', e'', _, g1⟩ := hxr.at_ (j := 1) (by simp)
                injection e'' with e''
                subst e''
                rw [show sd.add 0 = sd from rfl, List.getElem_cons_zero] at g0
                rw [show sd.add 1 = ⟨sd.block, sd.off + 1, none⟩ from rfl, List.getElem_cons_succ, List.getElem_cons_zero] at g1
                obtain rfl : ns3 = 2 := hxr.len.symm
                obtain ⟨d0, d1, d2, f0, f1, f2⟩ := cells3f (HB3.out v3 Q3)
                have KW := kp_trans K3 Q3
                clear hss hfe hb3 hyes3 hxr
                go_wp2_with fail
                go_region
                all_goals
                  go_wp2_with fail
                  refine bodyPost_ret (v := planV 3 x y) ?_ rfl ⟨3, x, y, rfl, hR.out, ?_⟩
                  · rw [results_cell1 rfl]
                    unfold planV
                    go_simp
                  · exact ((KW.drew.setCell (Nat.le_refl _) _).setCell (Nat.le_refl _) _).setCell (Nat.le_refl _) _
              | false =>
              have hno3 : Hid (¬ (saysT mj).map emptyF = fPut) := Lib.hid (of_decide_eq_false hb3.symm)
              clear hb3 hyes3
              go_wp2_with fail
              refine (form_Chg _).mono ?_
              rintro e u4 ⟨F4, nf4, cf4, fs4, rfl, hf4, hfs4, hnf4, kf4⟩
              have P4 : Below wr.heap.size wr u4 := kp_trans Q3 kf4
              have HST4 := Lib.hid (strs_ok (some ad) F4 (j' + 1) nf4 e cf4 mj fs4 u4 (HM3.out _ P4) hf4 hj200 (by omega))
              unfold StrsTo at HST4
              go_wp2_with fail
              refine HST4.out.mono ?_
              rintro e' v4 ⟨S4, ns4, cs4, ss4, b4, rfl, hb4, hyes4, kv4⟩
              have Q4 := kp_trans P4 kv4
              rw [hfs4] at hb4
              clear HST4 hf4 hfs4 kf4
              cases b4 with
              | true =>
                obtain ⟨hxr, hss⟩ := hyes4 rfl
                have hfe := of_decide_eq_true hb4.symm
                obtain ⟨x, y, rfl⟩ := two_of (strs_form hfe hss)
                have hR : Hid (doing 4 y x = R) := Lib.hid (by rw [HP2.out, planF, ← hss, hfe]; rfl)
                obtain ⟨sd, rfl, hsd, g0⟩ := hxr.at_ (j := 0) (by simp)
                obtain ⟨sd', e'', _, g1⟩ := hxr.at_ (j := 1) (by simp)
                injection e'' with e''
                subst e''
                rw [show sd.add 0 = sd from rfl, List.getElem_cons_zero] at g0
                rw [show sd.add 1 = ⟨sd.block, sd.off + 1, none⟩ from rfl, List.getElem_cons_succ, List.getElem_cons_zero] at g1
                obtain rfl : ns4 = 2 := hxr.len.symm
                obtain ⟨d0, d1, d2, f0, f1, f2⟩ := cells3f (HB3.out v4 Q4)
                have KW := kp_trans K3 Q4
                clear hss hfe hb4 hyes4 hxr
                go_wp2_with fail
                go_region
                all_goals
                  go_wp2_with fail
                  refine bodyPost_ret (v := planV 4 y x) ?_ rfl ⟨4, y, x, rfl, hR.out, ?_⟩
                  · rw [results_cell1 rfl]
                    unfold planV
                    go_simp
                  · exact ((KW.drew.setCell (Nat.le_refl _) _).setCell (Nat.le_refl _) _).setCell (Nat.le_refl _) _
              | false =>
              have hno4 : Hid (¬ (saysT mj).map emptyF = fChg) := Lib.hid (of_decide_eq_false hb4.symm)
              clear hb4 hyes4
              go_wp2_with fail
              refine (form_Del _).mono ?_
              rintro e u5 ⟨F5, nf5, cf5, fs5, rfl, hf5, hfs5, hnf5, kf5⟩
              have P5 : Below wr.heap.size wr u5 := kp_trans Q4 kf5
              have HST5 := Lib.hid (strs_ok (some ad) F5 (j' + 1) nf5 e cf5 mj fs5 u5 (HM3.out _ P5) hf5 hj200 (by omega))
              unfold StrsTo at HST5
              go_wp2_with fail
              refine HST5.out.mono ?_
              rintro e' v5 ⟨S5, ns5, cs5, ss5, b5, rfl, hb5, hyes5, kv5⟩
              have Q5 := kp_trans P5 kv5
              rw [hfs5] at hb5
              clear HST5 hf5 hfs5 kf5
              cases b5 with
              | true =>
                obtain ⟨hxr, hss⟩ := hyes5 rfl
                have hfe := of_decide_eq_true hb5.symm
                obtain ⟨x, rfl⟩ := one_of (strs_form hfe hss)
                have hR : Hid (doing 5 x ⟨#[]⟩ = R) := Lib.hid (by rw [HP2.out, planF, ← hss, hfe]; rfl)
                obtain ⟨sd, rfl, hsd, g0⟩ := hxr.at_ (j := 0) (by simp)
                rw [show sd.add 0 = sd from rfl, List.getElem_cons_zero] at g0
                obtain rfl : ns5 = 1 := hxr.len.symm
                obtain ⟨d0, d1, d2, f0, f1, f2⟩ := cells3f (HB3.out v5 Q5)
                have KW := kp_trans K3 Q5
                clear hss hfe hb5 hyes5 hxr
                go_wp2_with fail
                refine bodyPost_ret (v := planV 5 x ⟨#[]⟩) ?_ rfl ⟨5, x, ⟨#[]⟩, rfl, hR.out, ((KW.setCell (Nat.le_refl _) _).setCell (Nat.le_refl _) _).setCell (Nat.le_refl _) _⟩
                · rw [results_cell1 rfl]
                  unfold planV
                  go_simp
              | false =>
              have hno5 : Hid (¬ (saysT mj).map emptyF = fDel) := Lib.hid (of_decide_eq_false hb5.symm)
              clear hb5 hyes5
              obtain ⟨d0, d1, d2, f0, f1, f2⟩ := cells3f (HB3.out v5 Q5)
              have KW := kp_trans K3 Q5
              have hR : Hid (doing 0 ⟨#[]⟩ ⟨#[]⟩ = R) := Lib.hid (by
                rw [HP2.out, planF]
                unfold pickF
                rw [if_neg hno1.out, if_neg hno2.out, if_neg hno3.out, if_neg hno4.out, if_neg hno5.out]
                rfl)
              go_wp2_with fail
              refine bodyPost_ret (v := planV 0 ⟨#[]⟩ ⟨#[]⟩) ?_ rfl ⟨0, ⟨#[]⟩, ⟨#[]⟩, rfl, hR.out, ((KW.setCell (Nat.le_refl _) _).setCell (Nat.le_refl _) _).setCell (Nat.le_refl _) _⟩
              rw [results_cell1 rfl]
              unfold planV
              go_simp
            · have n6 : (a == 6) = false := by simpa using h6
              clear hne h6
              go_wp2_with fail
              refine (form_Get _).mono ?_
              rintro e u1 ⟨F1, nf1, cf1, fs1, rfl, hf1, hfs1, hnf1, kf1⟩
              have P1 : Below wr.heap.size wr u1 := kp_trans (Below.refl _ _) kf1
              have HST1 := Lib.hid (strs_ok (some ad) F1 (j' + 1) nf1 e cf1 mj fs1 u1 (HM3.out _ P1) hf1 hj200 (by omega))
              unfold StrsTo at HST1
              go_wp2_with fail
              refine HST1.out.mono ?_
              rintro e' v1 ⟨S1, ns1, cs1, ss1, b1, rfl, hb1, hyes1, kv1⟩
              have Q1 := kp_trans P1 kv1
              rw [hfs1] at hb1
              clear HST1 hf1 hfs1 kf1
              cases b1 with
              | true =>
                obtain ⟨hxr, hss⟩ := hyes1 rfl
                have hfe := of_decide_eq_true hb1.symm
                obtain ⟨x, rfl⟩ := one_of (strs_form hfe hss)
                have hR : Hid (doing 1 x ⟨#[]⟩ = R) := Lib.hid (by rw [HP2.out, planF, ← hss, hfe]; rfl)
                obtain ⟨sd, rfl, hsd, g0⟩ := hxr.at_ (j := 0) (by simp)
                rw [show sd.add 0 = sd from rfl, List.getElem_cons_zero] at g0
                obtain rfl : ns1 = 1 := hxr.len.symm
                obtain ⟨d0, d1, d2, f0, f1, f2⟩ := cells3f (HB3.out v1 Q1)
                have KW := kp_trans K3 Q1
                clear hss hfe hb1 hyes1 hxr
                go_wp2_with fail
                refine bodyPost_ret (v := planV 1 x ⟨#[]⟩) ?_ rfl ⟨1, x, ⟨#[]⟩, rfl, hR.out, ((KW.setCell (Nat.le_refl _) _).setCell (Nat.le_refl _) _).setCell (Nat.le_refl _) _⟩
                · rw [results_cell1 rfl]
                  unfold planV
                  go_simp
              | false =>
              have hno1 : Hid (¬ (saysT mj).map emptyF = fGet) := Lib.hid (of_decide_eq_false hb1.symm)
              clear hb1 hyes1
              go_wp2_with fail
              refine (form_All _).mono ?_
              rintro e u2 ⟨F2, nf2, cf2, fs2, rfl, hf2, hfs2, hnf2, kf2⟩
              have P2 : Below wr.heap.size wr u2 := kp_trans Q1 kf2
              have HST2 := Lib.hid (strs_ok (some ad) F2 (j' + 1) nf2 e cf2 mj fs2 u2 (HM3.out _ P2) hf2 hj200 (by omega))
              unfold StrsTo at HST2
              go_wp2_with fail
              refine HST2.out.mono ?_
              rintro e' v2 ⟨S2, ns2, cs2, ss2, b2, rfl, hb2, hyes2, kv2⟩
              have Q2 := kp_trans P2 kv2
              rw [hfs2] at hb2
              clear HST2 hf2 hfs2 kf2
              cases b2 with
              | true =>
                obtain ⟨hxr, hss⟩ := hyes2 rfl
                have hfe := of_decide_eq_true hb2.symm
                have hR : Hid (doing 2 ⟨#[]⟩ ⟨#[]⟩ = R) := Lib.hid (by rw [HP2.out, planF, hfe]; rfl)
                obtain ⟨d0, d1, d2, f0, f1, f2⟩ := cells3f (HB3.out v2 Q2)
                have KW := kp_trans K3 Q2
                clear hss hfe hb2 hyes2 hxr
                go_wp2_with fail
                refine bodyPost_ret (v := planV 2 ⟨#[]⟩ ⟨#[]⟩) ?_ rfl ⟨2, ⟨#[]⟩, ⟨#[]⟩, rfl, hR.out, ((KW.setCell (Nat.le_refl _) _).setCell (Nat.le_refl _) _).setCell (Nat.le_refl _) _⟩
                · rw [results_cell1 rfl]
                  unfold planV
                  go_simp
              | false =>
              have hno2 : Hid (¬ (saysT mj).map emptyF = fAll) := Lib.hid (of_decide_eq_false hb2.symm)
              clear hb2 hyes2
              go_wp2_with fail
              refine (form_Put _).mono ?_
              rintro e u3 ⟨F3, nf3, cf3, fs3, rfl, hf3, hfs3, hnf3, kf3⟩
              have P3 : Below wr.heap.size wr u3 := kp_trans Q2 kf3
              have HST3 := Lib.hid (strs_ok (some ad) F3 (j' + 1) nf3 e cf3 mj fs3 u3 (HM3.out _ P3) hf3 hj200 (by omega))
              unfold StrsTo at HST3
              go_wp2_with fail
              refine HST3.out.mono ?_
              rintro e' v3 ⟨S3, ns3, cs3, ss3, b3, rfl, hb3, hyes3, kv3⟩
              have Q3 := kp_trans P3 kv3
              rw [hfs3] at hb3
              clear HST3 hf3 hfs3 kf3
              cases b3 with
              | true =>
                obtain ⟨hxr, hss⟩ := hyes3 rfl
                have hfe := of_decide_eq_true hb3.symm
                obtain ⟨x, y, rfl⟩ := two_of (strs_form hfe hss)
                have hR : Hid (doing 3 x y = R) := Lib.hid (by rw [HP2.out, planF, ← hss, hfe]; rfl)
                obtain ⟨sd, rfl, hsd, g0⟩ := hxr.at_ (j := 0) (by simp)
                obtain ⟨sd', e'', _, g1⟩ := hxr.at_ (j := 1) (by simp)
                injection e'' with e''
                subst e''
                rw [show sd.add 0 = sd from rfl, List.getElem_cons_zero] at g0
                rw [show sd.add 1 = ⟨sd.block, sd.off + 1, none⟩ from rfl, List.getElem_cons_succ, List.getElem_cons_zero] at g1
                obtain rfl : ns3 = 2 := hxr.len.symm
                obtain ⟨d0, d1, d2, f0, f1, f2⟩ := cells3f (HB3.out v3 Q3)
                have KW := kp_trans K3 Q3
                clear hss hfe hb3 hyes3 hxr
                go_wp2_with fail
                go_region
                all_goals
                  go_wp2_with fail
                  refine bodyPost_ret (v := planV 3 x y) ?_ rfl ⟨3, x, y, rfl, hR.out, ?_⟩
                  · rw [results_cell1 rfl]
                    unfold planV
                    go_simp
                  · exact ((KW.drew.setCell (Nat.le_refl _) _).setCell (Nat.le_refl _) _).setCell (Nat.le_refl _) _
              | false =>
              have hno3 : Hid (¬ (saysT mj).map emptyF = fPut) := Lib.hid (of_decide_eq_false hb3.symm)
              clear hb3 hyes3
              go_wp2_with fail
              refine (form_Chg _).mono ?_
              rintro e u4 ⟨F4, nf4, cf4, fs4, rfl, hf4, hfs4, hnf4, kf4⟩
              have P4 : Below wr.heap.size wr u4 := kp_trans Q3 kf4
              have HST4 := Lib.hid (strs_ok (some ad) F4 (j' + 1) nf4 e cf4 mj fs4 u4 (HM3.out _ P4) hf4 hj200 (by omega))
              unfold StrsTo at HST4
              go_wp2_with fail
              refine HST4.out.mono ?_
              rintro e' v4 ⟨S4, ns4, cs4, ss4, b4, rfl, hb4, hyes4, kv4⟩
              have Q4 := kp_trans P4 kv4
              rw [hfs4] at hb4
              clear HST4 hf4 hfs4 kf4
              cases b4 with
              | true =>
                obtain ⟨hxr, hss⟩ := hyes4 rfl
                have hfe := of_decide_eq_true hb4.symm
                obtain ⟨x, y, rfl⟩ := two_of (strs_form hfe hss)
                have hR : Hid (doing 4 y x = R) := Lib.hid (by rw [HP2.out, planF, ← hss, hfe]; rfl)
                obtain ⟨sd, rfl, hsd, g0⟩ := hxr.at_ (j := 0) (by simp)
                obtain ⟨sd', e'', _, g1⟩ := hxr.at_ (j := 1) (by simp)
                injection e'' with e''
                subst e''
                rw [show sd.add 0 = sd from rfl, List.getElem_cons_zero] at g0
                rw [show sd.add 1 = ⟨sd.block, sd.off + 1, none⟩ from rfl, List.getElem_cons_succ, List.getElem_cons_zero] at g1
                obtain rfl : ns4 = 2 := hxr.len.symm
                obtain ⟨d0, d1, d2, f0, f1, f2⟩ := cells3f (HB3.out v4 Q4)
                have KW := kp_trans K3 Q4
                clear hss hfe hb4 hyes4 hxr
                go_wp2_with fail
                go_region
                all_goals
                  go_wp2_with fail
                  refine bodyPost_ret (v := planV 4 y x) ?_ rfl ⟨4, y, x, rfl, hR.out, ?_⟩
                  · rw [results_cell1 rfl]
                    unfold planV
                    go_simp
                  · exact ((KW.drew.setCell (Nat.le_refl _) _).setCell (Nat.le_refl _) _).setCell (Nat.le_refl _) _
              | false =>
              have hno4 : Hid (¬ (saysT mj).map emptyF = fChg) := Lib.hid (of_decide_eq_false hb4.symm)
              clear hb4 hyes4
              go_wp2_with fail
              refine (form_Del _).mono ?_
              rintro e u5 ⟨F5, nf5, cf5, fs5, rfl, hf5, hfs5, hnf5, kf5⟩
              have P5 : Below wr.heap.size wr u5 := kp_trans Q4 kf5
              have HST5 := Lib.hid (strs_ok (some ad) F5 (j' + 1) nf5 e cf5 mj fs5 u5 (HM3.out _ P5) hf5 hj200 (by omega))
              unfold StrsTo at HST5
              go_wp2_with fail
              refine HST5.out.mono ?_
              rintro e' v5 ⟨S5, ns5, cs5, ss5, b5, rfl, hb5, hyes5, kv5⟩
              have Q5 := kp_trans P5 kv5
              rw [hfs5] at hb5
              clear HST5 hf5 hfs5 kf5
              cases b5 with
              | true =>
                obtain ⟨hxr, hss⟩ := hyes5 rfl
                have hfe := of_decide_eq_true hb5.symm
                obtain ⟨x, rfl⟩ := one_of (strs_form hfe hss)
                have hR : Hid (doing 5 x ⟨#[]⟩ = R) := Lib.hid (by rw [HP2.out, planF, ← hss, hfe]; rfl)
                obtain ⟨sd, rfl, hsd, g0⟩ := hxr.at_ (j := 0) (by simp)
                rw [show sd.add 0 = sd from rfl, List.getElem_cons_zero] at g0
                obtain rfl : ns5 = 1 := hxr.len.symm
                obtain ⟨d0, d1, d2, f0, f1, f2⟩ := cells3f (HB3.out v5 Q5)
                have KW := kp_trans K3 Q5
                clear hss hfe hb5 hyes5 hxr
                go_wp2_with fail
                refine bodyPost_ret (v := planV 5 x ⟨#[]⟩) ?_ rfl ⟨5, x, ⟨#[]⟩, rfl, hR.out, ((KW.setCell (Nat.le_refl _) _).setCell (Nat.le_refl _) _).setCell (Nat.le_refl _) _⟩
                · rw [results_cell1 rfl]
                  unfold planV
                  go_simp
              | false =>
              have hno5 : Hid (¬ (saysT mj).map emptyF = fDel) := Lib.hid (of_decide_eq_false hb5.symm)
              clear hb5 hyes5
              obtain ⟨d0, d1, d2, f0, f1, f2⟩ := cells3f (HB3.out v5 Q5)
              have KW := kp_trans K3 Q5
              have hR : Hid (doing 0 ⟨#[]⟩ ⟨#[]⟩ = R) := Lib.hid (by
                rw [HP2.out, planF]
                unfold pickF
                rw [if_neg hno1.out, if_neg hno2.out, if_neg hno3.out, if_neg hno4.out, if_neg hno5.out]
                rfl)
              go_wp2_with fail
              refine bodyPost_ret (v := planV 0 ⟨#[]⟩ ⟨#[]⟩) ?_ rfl ⟨0, ⟨#[]⟩, ⟨#[]⟩, rfl, hR.out, ((KW.setCell (Nat.le_refl _) _).setCell (Nat.le_refl _) _).setCell (Nat.le_refl _) _⟩
              rw [results_cell1 rfl]
              unfold planV
              go_simp
end

/- The document's layer 5: word, has, tokens: contracts. -/
section
open Go.RowKit
set_option maxRecDepth 100000

/-- a text is one of some, by 'in' -/
theorem rin_is (s t : ByteArray) (ws : List (List UInt8)) (b : Bool) (ht : t.data.toList = packF ws) (hws : ∀ a ∈ ws, (32 : UInt8) ∉ a ∧ a ≠ []) (hs : s.data.toList = [] ∨ (s.data.toList ≠ [] ∧ (32 : UInt8) ∉ s.data.toList)) (hz : s.size ≤ 1000000) (hz2 : t.size ≤ 1000000) (hb : decide (s.data.toList ∈ ws) = b) (w : World) :
    Calls Tryz.prog 109 #[.string s, .string t] w fun e w' => e = .returned (.bool b) ∧ w = w' := by
  have h := rin_ok s t w hz hz2
  rw [ht, inF_pack hs ws hws, hb] at h
  exact h

/-- tokens that are as lexed ones -/
structure TL (ts : List Tk) : Prop where
  ok : ∀ t ∈ saysT ts, okTok t 1000000
theorem TL.size {ts : List Tk} (h : TL ts) {t : Tk} (ht : t ∈ ts) : t.t.size ≤ 1000000 := by
  have := (h.ok t.says (List.mem_map.2 ⟨t, ht, rfl⟩)).1
  simpa [Tk.says, text_len] using this
theorem TL.drop {ts : List Tk} (h : TL ts) (k : Nat) : TL (ts.drop k) := ⟨fun t ht => h.ok t (by
  unfold saysT at ht ⊢
  rw [List.map_drop] at ht
  exact List.mem_of_mem_drop ht)⟩

set_option maxHeartbeats 1000000 in
theorem rword5_ok (A : Option Addr) (n c : Nat) (ts : List Tk) (k : Nat) (w : World) (h : TR w A n ts) (hl : TL ts) (_ : n ≤ 1000000) (_ : k ≤ 1000000) :
    Calls Tryz.prog 108 #[.slice A n c, .int .i64 (k : Int)] w fun e w' => ∃ q : ByteArray, e = .returned (.string q) ∧ q.data.toList = wordAt (saysT ts) k ∧ q.size ≤ 1000000 ∧ w = w' := by
  by_cases hlt : k < n
  · have hkl : k < ts.length := by rw [h.len]; exact hlt
    obtain ⟨ad, rfl, _, hc⟩ := h.at_ hkl
    obtain ⟨c0, c1⟩ := hc _ (Below.refl _ _)
    have hw : wordAt (saysT ts) k = wd ts[k].says := by
      unfold wordAt
      rw [List.getElem?_eq_getElem (by rw [saysT_length]; exact hkl), says_at' hkl]
      rfl
    have hz := hl.size (List.getElem_mem hkl)
    rw [hw]
    clear hc hw
    by_cases h1 : ts[k].k = 1
    · have hF : Hid (wd ts[k].says = ts[k].t.data.toList) := Lib.hid (by unfold wd; exact if_pos h1)
      have hge : ¬ ((n : Int) ≤ (k : Int)) := by omega
      have HZ := Lib.hid hz
      clear hz
      generalize wd ts[k].says = W at *
      generalize ts[k].k = x at *
      generalize ts[k].t = q at *
      subst h1
      go_enter Tryz.func108, Tryz.ntmps108
      go_wp2_with fail
      go_ret
      exact ⟨q, rfl, hF.out.symm, HZ.out, rfl⟩
    · have hF : Hid (wd ts[k].says = []) := Lib.hid (by unfold wd; exact if_neg h1)
      have hge : ¬ ((n : Int) ≤ (k : Int)) := by omega
      clear hz
      generalize wd ts[k].says = W at *
      generalize ts[k].k = x at *
      generalize ts[k].t = q at *
      have hx : (x != 1) = true := by simpa using h1
      go_enter Tryz.func108, Tryz.ntmps108
      go_wp2_with fail
      go_ret
      exact ⟨⟨#[]⟩, rfl, hF.out.symm, by decide, rfl⟩
  · have hF : Hid (wordAt (saysT ts) k = []) := Lib.hid (by
      unfold wordAt
      rw [List.getElem?_eq_none (by rw [saysT_length, h.len]; omega)]
      rfl)
    have hge : ((n : Int) ≤ (k : Int)) := by omega
    generalize wordAt (saysT ts) k = W at *
    go_enter Tryz.func108, Tryz.ntmps108
    go_wp2_with fail
    go_ret
    exact ⟨⟨#[]⟩, rfl, hF.out.symm, by decide, rfl⟩
where
  says_at' {ts : List Tk} {k : Nat} (h : k < ts.length) : (saysT ts)[k]'(by rw [saysT_length]; exact h) = ts[k].says := by simp [saysT]

theorem wordAt_drop (l : List Tok) (k : Nat) (h : k < l.length) : wordAt l k = wd l[k] := by unfold wordAt; rw [List.getElem?_eq_getElem h]; rfl

set_option maxHeartbeats 1000000 in
theorem rhas_ok (A : Option Addr) (n c : Nat) (ts : List Tk) (t : ByteArray) (ws : List (List UInt8)) (w : World) (h : TR w A n ts) (hl : TL ts) (hn : n ≤ 1000000) (ht : t.data.toList = packF ws) (hws : ∀ a ∈ ws, (32 : UInt8) ∉ a ∧ a ≠ []) (hz : t.size ≤ 1000000) :
    Calls Tryz.prog 110 #[.slice A n c, .string t] w fun e w' => e = .returned (.bool (hasF (saysT ts) ws)) ∧ w = w' := by
  have hlen := Lib.hid h.len
  have hnil : [] ∉ ws := fun hm => (hws _ hm).2 rfl
  have hst : ∀ k (hk : k < ts.length), hasF (saysT (ts.drop k)) ws = (decide (wordAt (saysT ts) k ∈ ws) || hasF (saysT (ts.drop (k + 1))) ws) := fun k hk => by
    rw [List.drop_eq_getElem_cons hk, wordAt_drop _ _ (by rw [saysT_length]; exact hk)]
    have e : (saysT ts)[k]'(by rw [saysT_length]; exact hk) = ts[k].says := by simp [saysT]
    rw [e, mem_wd hnil]
    rfl
  have hwo : ∀ k, wordAt (saysT ts) k = [] ∨ (wordAt (saysT ts) k ≠ [] ∧ (32 : UInt8) ∉ wordAt (saysT ts) k) := fun k => wordAt_ok hl.ok k
  have HST := Lib.hid hst
  have HWO := Lib.hid hwo
  have HT := Lib.hid ht
  have HWS := Lib.hid hws
  clear hst hwo ht hws hnil
  go_enter Tryz.func110, Tryz.ntmps110
  go_wp2_with fail
  go_loopw [5] (fun v wr => ∃ k : Nat, v = .int .i64 k ∧ k ≤ n ∧ Hid (hasF (saysT ts) ws = hasF (saysT (ts.drop k)) ws) ∧ wr = w) (fun v _ => n - (intOf v).toNat)
  case atStart => exact ⟨0, rfl, Nat.zero_le _, Lib.hid rfl, rfl⟩
  case round =>
    obtain ⟨k, rfl, hk, hx, rfl⟩ := hrel
    by_cases hlt : k < n
    · have hkl : k < ts.length := by rw [hlen.out]; exact hlt
      rw [HST.out k hkl] at hx
      have hW := Lib.hid (rword5_ok A n c ts k wr h hl hn (by omega))
      have HWk := Lib.hid (HWO.out k)
      generalize wordAt (saysT ts) k = W at *
      cases hb : decide (W ∈ ws) with
      | false =>
        rw [hb] at hx
        have hx2 : Hid (hasF (saysT ts) ws = hasF (saysT (ts.drop (k + 1))) ws) := Lib.hid (by rw [hx.out]; rfl)
        clear hx
        go_wp2_with fail
        refine hW.out.mono ?_
        rintro e w1 ⟨q, rfl, hq, hqz, rfl⟩
        have hI := Lib.hid (rin_is q t ws false HT.out HWS.out (by rw [hq]; exact HWk.out) hqz hz (by rw [hq]; exact hb))
        clear hb hq
        go_wp2_with fail
        refine (hI.out _).mono ?_
        rintro e w2 ⟨rfl, rfl⟩
        go_wp2_with fail
        go_roundw
        case rel => exact ⟨k + 1, by go_num, by omega, hx2, trivial⟩
        case measure => simp [intOf]; omega
      | true =>
        rw [hb] at hx
        have hF : Hid (hasF (saysT ts) ws = true) := Lib.hid (by rw [hx.out]; rfl)
        clear hx
        go_wp2_with fail
        refine hW.out.mono ?_
        rintro e w1 ⟨q, rfl, hq, hqz, rfl⟩
        have hI := Lib.hid (rin_is q t ws true HT.out HWS.out (by rw [hq]; exact HWk.out) hqz hz (by rw [hq]; exact hb))
        clear hb hq
        go_wp2_with fail
        refine (hI.out _).mono ?_
        rintro e w2 ⟨rfl, rfl⟩
        go_wp2_with fail
        go_ret
        exact ⟨by rw [hF.out]; rfl, rfl⟩
    · obtain rfl : k = n := by omega
      have hF : Hid (hasF (saysT ts) ws = false) := Lib.hid (by rw [hx.out, List.drop_eq_nil_of_le (by rw [hlen.out]; exact Nat.le_refl _)]; rfl)
      clear hx
      go_wp2_with fail
      go_ret
      exact ⟨by rw [hF.out]; rfl, rfl⟩
end

/- The document's layer 5: the class of tokens: contract. -/
section
open Go.RowKit
set_option maxRecDepth 100000

theorem famF_nil : famF [] = 0 := by decide
theorem classF_all {L : List Tok} (h : L.any stopF = false) : classF L = famB (famF (wordAt L 0)) (L.drop 1) (exF (L.drop 1) (classF (L.drop 2))) := by
  cases L with
  | nil =>
    rw [classF_nil, show wordAt [] 0 = [] from rfl, famF_nil]
    rfl
  | cons t r =>
    by_cases h1 : t.1 = 1
    · rw [classF_word h1 h]
      have : wordAt (t :: r) 0 = t.2 := by unfold wordAt wd; simp [h1]
      rw [this]
      rfl
    · rw [classF_no (.inl h1)]
      have : wordAt (t :: r) 0 = [] := by unfold wordAt wd; simp [h1]
      rw [this, famF_nil]
      rfl
theorem head_word {L : List Tok} {ws : List (List UInt8)} (h : [] ∉ ws) : headF (L.drop 1) ws = decide (wordAt L 1 ∈ ws) := by
  cases L with
  | nil => simp [headF, wordAt, h]
  | cons t r => exact headF_word h
theorem has_rest {L : List Tok} {ws : List (List UInt8)} (h : [] ∉ ws) (h0 : wordAt L 0 ∉ ws) : hasF (L.drop 1) ws = hasF L ws := by
  cases L with
  | nil => rfl
  | cons t r =>
    have e : hasF (t :: r) ws = (wordF ws t || hasF r ws) := rfl
    have : wordF ws t = false := by
      rw [← mem_wd h]
      exact decide_eq_false h0
    rw [e, this]
    rfl
theorem bare_rest {L : List Tok} {ws : List (List UInt8)} (h : [] ∉ ws) (h0 : L ≠ []) : bareF (L.drop 1) ws = (decide (L.length = 1) || (decide (L.length = 2) && decide (wordAt L 1 ∈ ws))) := by
  unfold bareF
  rw [head_word h, List.length_drop]
  have := List.length_pos_iff.2 h0
  congr 1
  · exact decide_eq_decide.2 (by omega)
  · congr 1
    exact decide_eq_decide.2 (by omega)

/-- what is behind the first two -/
theorem TR.rest2 {w : World} {ad : Addr} {n : Nat} {ts : List Tk} (h : TR w (some ad) n ts) (hn : 2 ≤ n) : TR w (some ⟨ad.block, ad.off + 4, none⟩) (n - 2) (ts.drop 2) := by
  have hl := h.len
  refine ⟨by rw [List.length_drop]; omega, ?_⟩
  rcases h.rd with h0 | ⟨ad', e, hb, hcc⟩
  · have := congrArg List.length h0
    rw [tkC_length] at this
    simp at this
    omega
  · injection e with e
    subst e
    refine .inr ⟨_, rfl, hb, fun j u hu => ?_⟩
    have e1 : (⟨ad.block, ad.off + 4, none⟩ : Addr).add j = ad.add (4 + j) := by
      rw [← add_add]
      congr 1
    rw [e1]
    refine hcc _ u ?_
    have e2 : tkC ts = tkC (ts.take 2) ++ tkC (ts.drop 2) := by rw [← tkC_append, List.take_append_drop]
    have e3 : (tkC (ts.take 2)).length = 4 := by rw [tkC_length, List.length_take]; omega
    rw [e2, List.getElem?_append_right (by omega), e3]
    simpa using hu

/-- what 'tokens' answers -/
def RTo (ts : List Tk) : Prop := ∀ (A : Option Addr) (n c : Nat) (w : World), TR w A n ts → n ≤ c → n ≤ 1000000 → TL ts →
  Calls Tryz.prog 76 #[.slice A n c] w fun e w' => e = .returned (.int .i64 (classF (saysT ts))) ∧ Below w.heap.size w w'

/-- what is known of the first word, by its family -/
structure Knows (q : ByteArray) (v : Int) : Prop where
  fam : famF q.data.toList = v
  plain : q.data.toList = [] ∨ (q.data.toList ≠ [] ∧ (32 : UInt8) ∉ q.data.toList)
  size : q.size ≤ 1000000
theorem Knows.isEXPLAIN {q : ByteArray} {v : Int} (h : Knows q v) : (q.toList == [69, 88, 80, 76, 65, 73, 78]) = decide (v = 2) := by rw [toList_is, ← h.fam]; exact famExplain _
theorem Knows.isWITH {q : ByteArray} {v : Int} (h : Knows q v) : (q.toList == [87, 73, 84, 72]) = decide (v = 5) := by rw [toList_is, ← h.fam]; exact famWith _
theorem Knows.isBEGIN {q : ByteArray} {v : Int} (h : Knows q v) : (q.toList == [66, 69, 71, 73, 78]) = decide (v = 6) := by rw [toList_is, ← h.fam]; exact famBegin _
theorem Knows.isSTART {q : ByteArray} {v : Int} (h : Knows q v) : (q.toList == [83, 84, 65, 82, 84]) = decide (v = 7) := by rw [toList_is, ← h.fam]; exact famStart _
theorem Knows.isCOMMIT {q : ByteArray} {v : Int} (h : Knows q v) : (q.toList == [67, 79, 77, 77, 73, 84]) = decide (v = 8) := by rw [toList_is, ← h.fam]; exact famCommit _
theorem Knows.isROLLBACK {q : ByteArray} {v : Int} (h : Knows q v) : (q.toList == [82, 79, 76, 76, 66, 65, 67, 75]) = decide (v = 9) := by rw [toList_is, ← h.fam]; exact famRollback _
theorem Knows.isSET {q : ByteArray} {v : Int} (h : Knows q v) : (q.toList == [83, 69, 84]) = decide (v = 10) := by rw [toList_is, ← h.fam]; exact famSet _
theorem Knows.inShow {q : ByteArray} {v : Int} (h : Knows q v) (t : ByteArray) (ht : t.data.toList = packF wsShow) (hz : t.size ≤ 1000000) (w : World) : Calls Tryz.prog 109 #[.string q, .string t] w fun e w' => e = .returned (.bool (decide (v = 1))) ∧ w = w' :=
  rin_is q t wsShow _ ht (by decide) h.plain h.size hz (by rw [famShow, h.fam]) w
theorem Knows.inWrite {q : ByteArray} {v : Int} (h : Knows q v) (t : ByteArray) (ht : t.data.toList = packF wsWrite) (hz : t.size ≤ 1000000) (w : World) : Calls Tryz.prog 109 #[.string q, .string t] w fun e w' => e = .returned (.bool (decide (v = 3))) ∧ w = w' :=
  rin_is q t wsWrite _ ht (by decide) h.plain h.size hz (by rw [famWrite, h.fam]) w
theorem Knows.inSel {q : ByteArray} {v : Int} (h : Knows q v) (t : ByteArray) (ht : t.data.toList = packF wsSel) (hz : t.size ≤ 1000000) (w : World) : Calls Tryz.prog 109 #[.string q, .string t] w fun e w' => e = .returned (.bool (decide (v = 4 ∨ v = 5))) ∧ w = w' :=
  rin_is q t wsSel _ ht (by decide) h.plain h.size hz (by rw [famSel, h.fam]) w
end
end Go.Proofs.YtaoegiohnebnhaaGreatDoor
