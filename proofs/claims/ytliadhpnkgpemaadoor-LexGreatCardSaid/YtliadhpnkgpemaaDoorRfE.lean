/-
  The document's layer 4: the token at a place: contract.
-/
import Derived.Test.YtliadhpnkgpemaaDoorRfD
namespace Go.Proofs.YtliadhpnkgpemaaDoor
open Go.RowKit
set_option maxRecDepth 100000

/-- the token that a text begins with, in the document's order -/
def rtokF : List UInt8 → Option (Int × List UInt8 × Nat)
  | [] => none
  | c :: r =>
    if begF [47, 42, 43] (c :: r) then (hintF (c :: r)).map fun x => (5, x.1, x.2)
    else if letterF c then some (1, greatF ((c :: r).take (runF lodF (c :: r))), runF lodF (c :: r))
    else if digitF c then some (4, (c :: r).take (runF digitF (c :: r)), runF digitF (c :: r))
    else if c.toNat = 34 ∨ c.toNat = 96 then (quotedF c r).map fun x => (2, x.1, x.2 + 1)
    else if c.toNat = 39 then (quotedF c r).map fun x => (3, x.1, x.2 + 1)
    else if 33 ≤ c.toNat ∧ c.toNat ≤ 126 then some (6, [c], 1)
    else none

/-- a token, and the place behind it, as a call answers it -/
def AnsT (x : Option (Int × List UInt8 × Nat)) (i : Nat) (k : Int) (r : ByteArray) (n : Int) : Prop :=
  match x with
  | none => n = -1
  | some (k', t, m) => k = k' ∧ r.data.toList = t ∧ n = (i + m : Nat)

/-- one answer of token -/
def TokTo (s : ByteArray) (i : Nat) (w : World) (x : Option (Int × List UInt8 × Nat)) : Prop :=
  Calls Tryd.prog 36 #[.string s, .int .i64 (i : Int)] w fun e w' => ∃ k r n, e = .returned (.tuple #[tokV k r, .int .i64 n]) ∧ AnsT x i k r n ∧ Below w.heap.size w w'

theorem place {s : ByteArray} {i : Nat} {c : UInt8} {r : List UInt8} (hl : s.data.toList.drop i = c :: r) : ∃ h : i < s.size, s[i] = c := by
  have hil : i < s.size := by
    rcases Nat.lt_or_ge i s.size with h | h
    · exact h
    · rw [List.drop_eq_nil_of_le (by rw [text_len]; exact h)] at hl; cases hl
  refine ⟨hil, ?_⟩
  rw [text_at s i hil]
  have e0 : (s.data.toList.drop i)[0]? = some c := by rw [hl]; rfl
  rw [List.getElem?_drop] at e0
  exact (List.getElem?_eq_some_iff.1 e0).2

theorem tok_block (w : World) : (w.alloc (.cells #[.int .i64 0, .string ⟨#[]⟩] 37)).heap[w.heap.size]? = some (.cells #[.int .i64 0, .string ⟨#[]⟩] 37 (0, 0)) ∧ w.heap.size < (w.alloc (.cells #[.int .i64 0, .string ⟨#[]⟩] 37)).heap.size ∧ Below w.heap.size w (w.alloc (.cells #[.int .i64 0, .string ⟨#[]⟩] 37)) :=
  ⟨heap_alloc_new w _, by simp, kp_new w _⟩

set_option maxHeartbeats 1000000 in
theorem rhint_ok (s : ByteArray) (i : Nat) (c : UInt8) (r : List UInt8) (w : World) (hs : s.size ≤ 1000000) (hl : s.data.toList.drop i = c :: r) (h1 : begF [47, 42, 43] (c :: r) = true) :
    TokTo s i w ((hintF (c :: r)).map fun x => (5, x.1, x.2)) := by
  unfold TokTo tokV
  obtain ⟨hil, hc0⟩ := place hl
  obtain ⟨hB, hz, kw⟩ := tok_block w
  have h3 : 3 ≤ s.size - i := by
    have h3 := (List.isPrefixOf_iff_prefix.1 h1).length_le
    have := congrArg List.length hl
    rw [List.length_drop, text_len] at this
    rw [this]
    simpa using h3
  have hP := fun u => rat_ok s ⟨#[47, 42, 43]⟩ i u (by omega) hs (by decide) (by decide)
  rw [show (⟨#[47, 42, 43]⟩ : ByteArray).data.toList = [47, 42, 43] from rfl, hl, h1] at hP
  have hfi := fun u => rfind_ok s ⟨#[42, 47]⟩ (i + 3) u (by omega) hs (by decide) (by decide)
  rw [show (⟨#[42, 47]⟩ : ByteArray).data.toList = ends2 from rfl, show findF s.data.toList ends2 (i + 3) = if Lib.index (s.data.toList.drop (i + 3)) ends2 < 0 then -1 else ((i + 3 : Nat) : Int) + Lib.index (s.data.toList.drop (i + 3)) ends2 from rfl] at hfi
  have hroom : 0 ≤ Lib.index (s.data.toList.drop (i + 3)) ends2 → (Lib.index (s.data.toList.drop (i + 3)) ends2).toNat + 2 ≤ s.size - (i + 3) := fun h => by
    have := index_room h (by decide)
    rw [List.length_drop, text_len] at this
    exact this
  have hcl : closedF (c :: r) 3 = if Lib.index (s.data.toList.drop (i + 3)) ends2 < 0 then 0 else 3 + (Lib.index (s.data.toList.drop (i + 3)) ends2).toNat + 2 := by
    unfold closedF
    rw [← hl, List.drop_drop]
  have hH : hintF (c :: r) = if closedF (c :: r) 3 = 0 then none else some (trimF (((c :: r).take (closedF (c :: r) 3 - 2)).drop 3), closedF (c :: r) 3) := rfl
  rw [hcl] at hH
  have htk : ∀ m, ((c :: r).take (3 + m)).drop 3 = (s.data.toList.drop (i + 3)).take m := fun m => by rw [List.drop_take, ← hl, List.drop_drop, Nat.add_sub_cancel_left]
  have HB := Lib.hid hB
  have HZ := Lib.hid hz
  have HP := Lib.hid hP
  generalize Lib.index (s.data.toList.drop (i + 3)) ends2 = x at hfi hroom hH
  clear hB hz hP hcl
  by_cases hx : x < 0
  · rw [if_pos hx] at hH hfi
    rw [hH]
    have HFi := Lib.hid hfi
    clear hH hfi hl htk hroom
    go_enter Tryd.func36, Tryd.ntmps36
    go_wp2_with fail
    refine (HP.out _).mono ?_
    rintro e w1 ⟨rfl, rfl⟩
    go_wp2_with fail
    refine (HFi.out _).mono ?_
    rintro e w1 ⟨rfl, rfl⟩
    obtain ⟨x0, x1, f0, f1⟩ := cells2 HB.out
    go_wp2_with fail
    refine bodyPost_ret (v := .tuple #[.agg #[.int .i64 0, .string ⟨#[]⟩], .int .i64 (-1)]) ?_ rfl ⟨0, ⟨#[]⟩, -1, rfl, rfl, ?_⟩
    · rw [results_cell_tmp rfl]
      go_simp
    · first | exact kw | exact ((kw.setCell (Nat.le_refl _) _).setCell (Nat.le_refl _) _)
  · rw [if_neg hx] at hfi hH
    obtain ⟨m, rfl⟩ : ∃ m : Nat, x = m := ⟨x.toNat, by omega⟩
    have hr := hroom (by omega)
    rw [Int.toNat_natCast] at hr hH
    rw [if_neg (by omega), show 3 + m + 2 - 2 = 3 + m from by omega, htk] at hH
    have hT := fun u => rtrim_ok (s.extract (i + 3) (i + 3 + m)) u (by rw [ByteArray.size_extract]; omega)
    rw [text_cut, show i + 3 + m - (i + 3) = m from by omega] at hT
    rw [hH]
    have HFi := Lib.hid hfi
    have HT := Lib.hid hT
    have e1 : ((i : Int) + 3).toNat = i + 3 := by omega
    have e2 : ((i : Int) + 3 + (m : Int)).toNat = i + 3 + m := by omega
    have e3 : ¬ ((i : Int) + 3 + (m : Int)) < 0 := by omega
    clear hH hfi hl htk hroom hT
    go_enter Tryd.func36, Tryd.ntmps36
    go_wp2_with fail
    refine (HP.out _).mono ?_
    rintro e w1 ⟨rfl, rfl⟩
    go_wp2_with fail
    refine (HFi.out _).mono ?_
    rintro e w1 ⟨rfl, rfl⟩
    go_wp2_with fail
    refine (HT.out _).mono ?_
    rintro e w1 ⟨rr, rfl, hrr, rfl⟩
    obtain ⟨x0, x1, f0, f1⟩ := cells2 HB.out
    go_wp2_with fail
    refine bodyPost_ret (v := .tuple #[.agg #[.int .i64 5, .string rr], .int .i64 ((i + (3 + m + 2) : Nat) : Int)]) ?_ rfl ⟨5, rr, _, rfl, ⟨rfl, hrr, rfl⟩, ?_⟩
    · rw [results_cell_tmp rfl]
      go_simp
      try omega
    · first | exact kw | exact ((kw.setCell (Nat.le_refl _) _).setCell (Nat.le_refl _) _) | exact kp_new _ _
end Go.Proofs.YtliadhpnkgpemaaDoor
