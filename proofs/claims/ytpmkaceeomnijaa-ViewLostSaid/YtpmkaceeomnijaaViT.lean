/-
  The project's view: which cut took a token: took, its closure, slices.IndexFunc at it: contracts.
-/
import Derived.Test.YtpmkaceeomnijaaViL
import Derived.BigRegion
import Derived.BigQuiet
namespace Go.Proofs.Ytpmkaceeomnijaa
open Go.RowKit
set_option maxRecDepth 100000

/-- a token in a block of its own -/
def tkB (te tp : Int) : Obj := .cells #[.int .u64 te, .int .u64 tp] 25 (0, 0)
/-- a promotion took the token -/
def tookP (te tp : Int) (y : Int × Int) : Prop := te < y.1 ∧ y.2 < tp
theorem ptook_ok (te tp : Int) (w : World) :
    Calls Try.prog 21 #[.agg #[.int .u64 te, .int .u64 tp]] w fun e w' => e = .returned (.func (.func 23) #[] #[.pointer (some ⟨w.heap.size, 0, none⟩)]) ∧ w'.heap[w.heap.size]? = some (tkB te tp) ∧ Below w.heap.size w w' := by
  go_enter Try.func21, Try.ntmps21
  go_wp2_with fail
  go_ret
  exact ⟨rfl, heap_alloc_new w _, kp_new _ _⟩
set_option maxHeartbeats 4000000 in
theorem ptook1_ok (te tp : Int) (tb : Nat) (y : Int × Int) (w : World) (ht : w.heap[tb]? = some (tkB te tp)) (r : Bool) (hr : (te < y.1 ∧ y.2 < tp) ↔ r = true) :
    Calls Try.prog 23 #[.agg #[.int .u64 y.1, .int .u64 y.2], .pointer (some ⟨tb, 0, none⟩)] w fun e w' => e = .returned (.bool r) ∧ Below w.heap.size w w' := by
  unfold tkB at ht
  obtain ⟨c0, _⟩ := cellsAt ht 0 (v := .int .u64 te) rfl
  obtain ⟨c1, _⟩ := cellsAt ht 1 (v := .int .u64 tp) rfl
  have hlt : tb < w.heap.size := (Array.getElem?_eq_some_iff.1 ht).1
  obtain ⟨y1, y2⟩ := y
  dsimp only at hr ⊢
  have kn := kp_new w (.cells #[.int .u64 y1, .int .u64 y2] 57)
  have d0 := (World.cell?_of_block (a := ⟨tb, 0, none⟩) (kn.block tb hlt)).trans c0
  have d1 := (World.cell?_of_block (a := ⟨tb, 1, none⟩) (kn.block tb hlt)).trans c1
  clear ht c0 c1
  by_cases h1 : te < y1
  · by_cases h2 : y2 < tp
    · obtain rfl : r = true := hr.1 ⟨h1, h2⟩
      clear hr
      go_enter Try.func23, Try.ntmps23
      go_wp2_with fail
      go_ret
      exact ⟨rfl, kp_new _ _⟩
    · obtain rfl : r = false := by cases r with | false => rfl | true => exact absurd (hr.2 rfl).2 h2
      have h2' : tp ≤ y2 := by omega
      clear hr h2
      go_enter Try.func23, Try.ntmps23
      go_wp2_with fail
      go_ret
      exact ⟨congrArg (fun x => Ending.returned (.bool x)) (decide_eq_false (by omega)), kp_new _ _⟩
  · obtain rfl : r = false := by cases r with | false => rfl | true => exact absurd (hr.2 rfl).1 h1
    have h1' : y1 ≤ te := by omega
    clear hr h1
    go_enter Try.func23, Try.ntmps23
    go_wp2_with fail
    go_ret
    exact ⟨rfl, kp_new _ _⟩

/-- what IndexFunc answers -/
def FirstP (te tp : Int) (l : List (Int × Int)) (z : Int) : Prop :=
  (z = -1 ∧ ∀ y ∈ l, ¬ tookP te tp y) ∨ ∃ (k : Nat) (hk : k < l.length), z = k ∧ tookP te tp l[k] ∧ ∀ y ∈ l.take k, ¬ tookP te tp y
set_option maxHeartbeats 4000000 in
theorem pindex_ok (te tp : Int) (tb : Nat) (A : Option Addr) (n c : Nat) (l : List (Int × Int)) (w : World) (h : CUR w A n l) (hn : n ≤ 1000) (ht : w.heap[tb]? = some (tkB te tp)) :
    Calls Try.prog 20 #[.slice A n c, .func (.func 23) #[] #[.pointer (some ⟨tb, 0, none⟩)]] w fun e w' => ∃ z, e = .returned (.int .i64 z) ∧ FirstP te tp l z ∧ Below w.heap.size w w' := by
  have hlen := Lib.hid h.len
  have HX := Lib.hid h
  have HT : Hid (∀ u, Below w.heap.size w u → u.heap[tb]? = some (tkB te tp)) := Lib.hid fun u hu => (hu.block tb (Array.getElem?_eq_some_iff.1 ht).1).trans ht
  clear h ht
  go_enter Try.func20, Try.ntmps20
  go_wp2_with fail
  go_loopw [8] (fun i wr => ∃ k : Nat, k ≤ n ∧ i = .int .i64 k ∧ Hid (∀ y ∈ l.take k, ¬ tookP te tp y) ∧ Hid (Below w.heap.size w wr)) (fun i _ => n - (intOf i).toNat)
  case atStart => exact ⟨0, Nat.zero_le _, rfl, Lib.hid (by simp), Lib.hid (Below.refl _ _)⟩
  case round =>
    obtain ⟨k, hk, rfl, hno, kw⟩ := hrel
    by_cases hlt : k < n
    · have hkl : k < l.length := by rw [hlen.out]; exact hlt
      obtain ⟨ad, rfl, _, hcc⟩ := HX.out.at_ hkl
      obtain ⟨c0, c1⟩ := hcc _ kw.out
      have hi0 : (0 : Int) ≤ (k : Int) := by omega
      have hi1 : (k : Int) < (n : Int) := by omega
      clear hcc
      by_cases hs : tookP te tp l[k]
      · have hC := Lib.hid (ptook1_ok te tp tb l[k] wr (HT.out _ kw.out) true ⟨fun _ => rfl, fun _ => hs⟩)
        have HF : Hid (FirstP te tp l k) := Lib.hid (.inr ⟨k, hkl, rfl, hs, hno.out⟩)
        clear hno hs
        generalize l[k] = y at *
        go_wp2_with fail
        refine hC.out.mono ?_
        rintro e w1 ⟨rfl, k1⟩
        have HK := Lib.hid (kp_trans kw.out k1)
        clear k1 kw hC
        go_wp2_with fail
        go_ret
        exact ⟨k, rfl, HF.out, HK.out⟩
      · have hC := Lib.hid (ptook1_ok te tp tb l[k] wr (HT.out _ kw.out) false ⟨fun h => absurd h hs, fun h => by cases h⟩)
        have hno2 : Hid (∀ y ∈ l.take (k + 1), ¬ tookP te tp y) := Lib.hid (by
          rw [List.take_succ_eq_append_getElem hkl]
          intro x hx
          rcases List.mem_append.1 hx with h1 | h1
          · exact hno.out x h1
          · rw [List.mem_singleton.1 h1]; exact hs)
        clear hno hs
        generalize l[k] = y at *
        go_wp2_with fail
        refine hC.out.mono ?_
        rintro e w1 ⟨rfl, k1⟩
        have HK := Lib.hid (kp_trans kw.out k1)
        clear k1 kw hC
        go_wp2_with fail
        go_roundw
        case rel => exact ⟨k + 1, by omega, by go_num, hno2, HK⟩
        case measure => simp [intOf]; omega
    · obtain rfl : k = n := by omega
      have h1 := hno.out
      rw [List.take_of_length_le (by rw [hlen.out]; exact Nat.le_refl _)] at h1
      have HF : Hid (FirstP te tp l (-1)) := Lib.hid (.inl ⟨rfl, h1⟩)
      clear h1 hno
      go_wp2_with fail
      go_ret
      exact ⟨-1, rfl, HF.out, kw.out⟩
/-- what is left, by the first cut that took it -/
theorem FirstP.left {te tp z : Int} {v : Vw} {l : List (Int × Int)} (h : FirstP te tp l z) (hk : Vk14 v l) : (z = -1 ∧ leftF te v.l tp = tp) ∨ ∃ (k : Nat) (h : k < l.length), z = k ∧ leftF te v.l tp = l[k].2 ∧ l[k].2 < tp := by
  rcases h with ⟨rfl, h⟩ | ⟨k, hlt, rfl, h1, h2⟩
  · refine .inl ⟨rfl, ?_⟩
    rw [← hk.eq]
    exact (leftF_eq _ _ _).2 fun y hy ht => Int.not_lt.1 fun h3 => h y hy ⟨ht, h3⟩
  · refine .inr ⟨k, hlt, rfl, ?_, h1.2⟩
    rw [← hk.eq]
    exact leftF_first te tp hk.ris hlt h1 h2
end Go.Proofs.Ytpmkaceeomnijaa
