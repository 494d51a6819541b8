/-
  Which tokens may be, by package lex: numbers and hints, whose tests are in an order that Go leaves open.
-/
import Derived.Test.YtliadhpnkgpemaaDoorLexG
import Derived.Test.YtliadhpnkgpemaaDoorReg
import Derived.BigQuiet
import Derived.Deep.RegionWith
namespace Go.Proofs.YtliadhpnkgpemaaDoor
open Go.RowKit
set_option maxRecDepth 100000

set_option maxHeartbeats 2000000 in
theorem right_4 (s : ByteArray) (w : World) (hs : s.size ≤ 1000000) : RightTo 12 4 s w := by
  unfold RightTo
  have kw := kp_new w (.cells #[.int .i64 4, .string s] 24)
  have hF : rightF 4 s.data.toList = (decide (s.data.toList ≠ []) && decide (runF digitF s.data.toList = s.data.toList.length)) := rfl
  have he := eq_empty s
  by_cases h0 : s.size = 0
  · have hF2 : rightF 4 s.data.toList = false := by
      have hn : s.data.toList = [] := List.eq_nil_of_length_eq_zero (by rw [text_len]; exact h0)
      rw [hF, hn]
      rfl
    rw [decide_eq_true h0] at he
    have HF := Lib.hid hF2
    clear hF hF2 h0
    go_enter Tryd.func12, Tryd.ntmps12
    go_wp2_with fail
    go_quiet (fail)
    go_wp2_with fail
    go_ret
    exact ⟨by rw [HF.out]; rfl, below_drewN kw _⟩
  · have hr := fun u => run_digit_same s u hs
    have hne : s.data.toList ≠ [] := fun h => h0 (by rw [← text_len, h]; rfl)
    rw [decide_eq_true hne, text_len] at hF
    rw [decide_eq_false h0] at he
    by_cases h1 : runF digitF s.data.toList = s.size
    · rw [decide_eq_true h1] at hF
      rw [h1] at hr
      have HF := Lib.hid hF
      have HR := Lib.hid hr
      clear hF hr h0 h1 hne
      go_enter Tryd.func12, Tryd.ntmps12
      go_wp2_with fail
      go_quiet (first | (go_at_call 38; exact Calls.quiet_of_same (HR.out _)))
      go_wp2_with fail
      go_ret
      exact ⟨by rw [HF.out]; rfl, below_drewN kw _⟩
    · have h1b : ((runF digitF s.data.toList : Int) == (s.size : Int)) = false := by simp only [beq_eq_false_iff_ne, ne_eq]; omega
      rw [decide_eq_false h1] at hF
      have HF := Lib.hid hF
      have HR := Lib.hid hr
      clear hF hr h0 h1 hne
      go_enter Tryd.func12, Tryd.ntmps12
      go_wp2_with fail
      go_quiet (first | (go_at_call 38; exact Calls.quiet_of_same (HR.out _)))
      go_wp2_with fail
      go_ret
      exact ⟨by rw [HF.out]; rfl, below_drewN kw _⟩

set_option maxHeartbeats 4000000 in
theorem right_5 (s : ByteArray) (w : World) (hs : s.size ≤ 1000000) (hL : Lw w) : RightTo 12 5 s w := by
  unfold RightTo
  have kw := kp_new w (.cells #[.int .i64 5, .string s] 24)
  have hF : rightF 5 s.data.toList = (!Lib.contains s.data.toList ends2 && decide (trimF s.data.toList = s.data.toList)) := rfl
  have hL1 := hL.next kw
  have hc : ∀ n, _ := fun n => contains_s s ⟨#[42, 47]⟩ ((w.alloc (.cells #[.int .i64 5, .string s] 24)).drewN n) (hL1.next (kp_drewN _ _)) hs
  rw [show (⟨#[42, 47]⟩ : ByteArray).data.toList = ends2 from rfl] at hc
  have ht := fun u => trim_s s u hs
  generalize hcf : Lib.contains s.data.toList ends2 = b at hF hc
  cases b
  · obtain ⟨r0, hr0⟩ : ∃ r0 : ByteArray, r0.data.toList = trimF s.data.toList := ⟨⟨(trimF s.data.toList).toArray⟩, by simp⟩
    have hR0 : ∀ r : ByteArray, r.data.toList = trimF s.data.toList → r = r0 := fun r h => text_ext (h.trans hr0.symm)
    obtain ⟨d, hd⟩ : ∃ d, d = decide (trimF s.data.toList = s.data.toList) := ⟨_, rfl⟩
    have hD : (r0.toList == s.toList) = d := by
      rw [hd, toList_data, toList_data, hr0, Bool.eq_iff_iff]
      simp
    rw [← hd] at hF
    have hB := heap_alloc_new w (.cells #[.int .i64 5, .string s] 24)
    have hcs : ∀ u, Below (w.alloc (.cells #[.int .i64 5, .string s] 24)).heap.size (w.alloc (.cells #[.int .i64 5, .string s] 24)) u → u.cell? ⟨w.heap.size, 0, none⟩ = some (.int .i64 5) ∧ u.cell? ⟨w.heap.size, 1, none⟩ = some (.string s) ∧ u.frozen? ⟨w.heap.size, 0, none⟩ = false ∧ u.frozen? ⟨w.heap.size, 1, none⟩ = false := fun u hu => cells2 ((hu.block _ (by simp)).trans hB)
    have hc := fun u (hu : Below (w.alloc (.cells #[.int .i64 5, .string s] 24)).heap.size (w.alloc (.cells #[.int .i64 5, .string s] 24)) u) => contains_s s ⟨#[42, 47]⟩ u (hL1.next hu) hs
    rw [show (⟨#[42, 47]⟩ : ByteArray).data.toList = ends2 from rfl, hcf] at hc
    have HF := Lib.hid hF
    have HC := Lib.hid hc
    have HT := Lib.hid ht
    have HR0 := Lib.hid hR0
    have HD := Lib.hid hD
    have HK := Lib.hid hcs
    clear hF hc ht hR0 hD hcs hB hr0 hd
    go_enter Tryd.func12, Tryd.ntmps12
    go_wp2_with fail
    generalize w.alloc (.cells #[.int .i64 5, .string s] 24) = w1 at *
    refine wp_region_specs (S := fun u => Below w1.heap.size w1 u) (Sp := [(29, Stb.eq (.pointer (some ⟨w.heap.size, 1, none⟩))), (30, Stb.eq (.string s)), (31, Stb.eq (.bool false)), (32, Stb.eq (.bool true)), (33, Stb.eq (.bool true)), (34, Stb.eq (.pointer (some ⟨w.heap.size, 1, none⟩))), (35, Stb.eq (.string s)), (36, Stb.eq (.string r0)), (37, Stb.eq (.pointer (some ⟨w.heap.size, 1, none⟩))), (38, Stb.eq (.string s)), (39, Stb.eq (.bool d)), (40, Stb.eq (.bool d)), (2, Stb.eq (.bool d))]) (by kernel_rfl) (by kernel_rfl) (kp_drewN _ 1) ?_ ?_
    · refine EachOp.cons ?_ ?_
      · intro a u hst hS hdep
        have h1 : a.tmps.getD 1 undef = .pointer (some ⟨w.heap.size, 0, none⟩) := hst.out 1 (by kernel_rfl)
        refine ⟨trivial, ?_⟩
        have g1 := gd h1
        go_simp
        exact Goes.same hS rfl
      refine EachOp.cons ?_ ?_
      · intro a u hst hS hdep
        have h29 : a.tmps.getD 29 undef = .pointer (some ⟨w.heap.size, 1, none⟩) := hdep 29 (by kernel_rfl)
        refine ⟨trivial, ?_⟩
        have g29 := gd h29
        obtain ⟨m0, m1, _, _⟩ := HK.out u hS
        go_simp
        exact Goes.same hS rfl
      refine EachOp.cons ?_ ?_
      · intro a u hst hS hdep
        have h30 : a.tmps.getD 30 undef = .string s := hdep 30 (by kernel_rfl)
        refine ⟨trivial, ?_⟩
        have g30 := gd h30
        go_simp
        refine (HC.out u hS).mono ?_
        rintro e u' ⟨rfl, rfl⟩
        exact Goes.same hS rfl
      refine EachOp.cons ?_ ?_
      · intro a u hst hS hdep
        have h31 : a.tmps.getD 31 undef = .bool false := hdep 31 (by kernel_rfl)
        refine ⟨trivial, ?_⟩
        have g31 := gd h31
        go_simp
        exact Goes.same hS rfl
      refine EachOp.cons ?_ ?_
      · intro a u hst hS hdep
        have h32 : a.tmps.getD 32 undef = .bool true := hdep 32 (by kernel_rfl)
        refine ⟨trivial, ?_⟩
        have g32 := gd h32
        go_simp
        exact Goes.same hS rfl
      refine EachOp.cons ?_ ?_
      · intro a u hst hS hdep
        have h1 : a.tmps.getD 1 undef = .pointer (some ⟨w.heap.size, 0, none⟩) := hst.out 1 (by kernel_rfl)
        have h33 : a.tmps.getD 33 undef = .bool true := hdep 33 (by kernel_rfl)
        refine ⟨⟨33, by kernel_rfl, h33⟩, ?_⟩
        clear h33
        have g1 := gd h1
        go_simp
        exact Goes.same hS rfl
      refine EachOp.cons ?_ ?_
      · intro a u hst hS hdep
        have h34 : a.tmps.getD 34 undef = .pointer (some ⟨w.heap.size, 1, none⟩) := hdep 34 (by kernel_rfl)
        have h33 : a.tmps.getD 33 undef = .bool true := hdep 33 (by kernel_rfl)
        refine ⟨⟨33, by kernel_rfl, h33⟩, ?_⟩
        clear h33
        have g34 := gd h34
        obtain ⟨m0, m1, _, _⟩ := HK.out u hS
        go_simp
        exact Goes.same hS rfl
      refine EachOp.cons ?_ ?_
      · intro a u hst hS hdep
        have h35 : a.tmps.getD 35 undef = .string s := hdep 35 (by kernel_rfl)
        have h33 : a.tmps.getD 33 undef = .bool true := hdep 33 (by kernel_rfl)
        refine ⟨⟨33, by kernel_rfl, h33⟩, ?_⟩
        clear h33
        have g35 := gd h35
        go_simp
        refine (HT.out u).mono ?_
        rintro e u' ⟨r, rfl, hr, hb'⟩
        obtain rfl := HR0.out r hr
        exact Goes.next (kp_trans hS hb') hb' rfl
      refine EachOp.cons ?_ ?_
      · intro a u hst hS hdep
        have h1 : a.tmps.getD 1 undef = .pointer (some ⟨w.heap.size, 0, none⟩) := hst.out 1 (by kernel_rfl)
        have h33 : a.tmps.getD 33 undef = .bool true := hdep 33 (by kernel_rfl)
        refine ⟨⟨33, by kernel_rfl, h33⟩, ?_⟩
        clear h33
        have g1 := gd h1
        go_simp
        exact Goes.same hS rfl
      refine EachOp.cons ?_ ?_
      · intro a u hst hS hdep
        have h37 : a.tmps.getD 37 undef = .pointer (some ⟨w.heap.size, 1, none⟩) := hdep 37 (by kernel_rfl)
        have h33 : a.tmps.getD 33 undef = .bool true := hdep 33 (by kernel_rfl)
        refine ⟨⟨33, by kernel_rfl, h33⟩, ?_⟩
        clear h33
        have g37 := gd h37
        obtain ⟨m0, m1, _, _⟩ := HK.out u hS
        go_simp
        exact Goes.same hS rfl
      refine EachOp.cons ?_ ?_
      · intro a u hst hS hdep
        have h36 : a.tmps.getD 36 undef = .string r0 := hdep 36 (by kernel_rfl)
        have h38 : a.tmps.getD 38 undef = .string s := hdep 38 (by kernel_rfl)
        have h33 : a.tmps.getD 33 undef = .bool true := hdep 33 (by kernel_rfl)
        refine ⟨⟨33, by kernel_rfl, h33⟩, ?_⟩
        clear h33
        have g36 := gd h36
        have g38 := gd h38
        go_simp
        rw [HD.out]
        exact Goes.same hS rfl
      refine EachOp.cons ?_ ?_
      · intro a u hst hS hdep
        have h33 : a.tmps.getD 33 undef = .bool true := hdep 33 (by kernel_rfl)
        have h39 : a.tmps.getD 39 undef = .bool d := hdep 39 (by kernel_rfl)
        refine ⟨trivial, ?_⟩
        have g33 := gd h33
        have g39 := gd h39
        go_simp
        exact Goes.same hS rfl
      refine EachOp.cons ?_ ?_
      · intro a u hst hS hdep
        have h40 : a.tmps.getD 40 undef = .bool d := hdep 40 (by kernel_rfl)
        refine ⟨trivial, ?_⟩
        have g40 := gd h40
        go_simp
        exact Goes.same hS rfl
      exact EachOp.nil
    · intro a u hst hS hdep
      have h2 : a.tmps.getD 2 undef = .bool d := hdep 2 (by kernel_rfl)
      have hsz : a.tmps.size = 53 := hst.size
      go_wp2_with fail
      exact bodyPost_ret ((results_tmp rfl _ _ _).trans (by rw [h2])) hst.defers ⟨by rw [HF.out]; rfl, kp_trans kw hS⟩
  · have HF := Lib.hid hF
    have HC := Lib.hid hc
    clear hF hc ht
    go_enter Tryd.func12, Tryd.ntmps12
    go_wp2_with fail
    go_quiet (first | (go_at_call 17; exact Calls.quiet_of_same (HC.out _)))
    go_wp2_with fail
    go_ret
    exact ⟨by rw [HF.out]; rfl, below_drewN kw _⟩

theorem right_ok (k : Int) (s : ByteArray) (w : World) (hs : s.size ≤ 1000000) (hL : Lw w) : RightTo 12 k s w := by
  by_cases h0 : k < 1 ∨ 6 < k
  · exact right_no k h0 s w
  by_cases h1 : k = 1
  · subst h1; exact right_1 s w hs
  by_cases h2 : k = 2 ∨ k = 3
  · exact right_23 k h2 s w
  by_cases h4 : k = 4
  · subst h4; exact right_4 s w hs
  by_cases h5 : k = 5
  · subst h5; exact right_5 s w hs hL
  obtain rfl : k = 6 := by omega
  exact right_6 s w
end Go.Proofs.YtliadhpnkgpemaaDoor
