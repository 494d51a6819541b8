/-
  The document's layer 4: which tokens may be: contract.
-/
import Derived.Test.YtliadhpnkgpemaaDoorRfH
import Derived.Test.YtliadhpnkgpemaaDoorLexG
namespace Go.Proofs.YtliadhpnkgpemaaDoor
open Go.RowKit
set_option maxRecDepth 100000

theorem eq_tokens (T : TypeId) (hT : T = 37) (k k' : Int) (t t' : ByteArray) (w : World) : (binOp .eql T (.agg #[.int .i64 k, .string t]) (.agg #[.int .i64 k', .string t'])).run Tryd.prog w = .ok (.bool (decide ((⟨k, t⟩ : Tk) = ⟨k', t'⟩))) w := by
  subst hT
  have hf : (Tryd.prog.fieldsOf 37) = (match Tryd.prog.underlying 37 with | some (.struct fs) => fs | _ => #[]) := rfl
  have hu := Tryd.underlying37
  rw [hu] at hf
  rw [run_eql_struct, run_equalIn_agg (P := Tryd.prog) w 9999 _ _ _ (by rw [hf]; exact hu) (by kernel_rfl), hf]
  have h3 := Tryd.underlying3
  have h9 := Tryd.underlying9
  have hz3 := Tryd.sizeOf3
  have hz9 := Tryd.sizeOf9
  have ha3 := Tryd.isAgg3
  have ha9 := Tryd.isAgg9
  have p1 : ∀ (x : Int) (u : ByteArray) (w : World), (part 3 #[.int .i64 x, .string u] 0).run Tryd.prog w = .ok (.int .i64 x) w := fun x u w => by simp [part, hz3, ha3]
  have p2 : ∀ (x : Int) (u : ByteArray) (w : World), (part 9 #[.int .i64 x, .string u] 1).run Tryd.prog w = .ok (.string u) w := fun x u w => by simp [part, hz9, ha9]
  have e1 : ∀ (x y : Int) (w : World), (Op.equalIn 9999 3 (.int .i64 x) (.int .i64 y)).run Tryd.prog w = .ok (x == y) w := fun x y w => run_equalIn_int w 9998 3 .i64 .i64 x y h3
  have e2 : ∀ (x y : ByteArray) (w : World), (Op.equalIn 9999 9 (.string x) (.string y)).run Tryd.prog w = .ok (x.toList == y.toList) w := fun x y w => run_equalIn_string w 9998 9 x y h9
  have ht : t.toList = t'.toList ↔ t = t' := ⟨fun h => text_ext (by rw [← toList_data, ← toList_data, h]), fun h => by rw [h]⟩
  by_cases hk : k = k'
  · by_cases he : t = t'
    · simp [Op.eqFields, p1, p2, e1, e2, hk, he]
    · simp [Op.eqFields, p1, p2, e1, e2, ht, hk, he]
  · simp [Op.eqFields, p1, p2, e1, e2, hk]

theorem neq_tokens (T : TypeId) (hT : T = 37) (k k' : Int) (t t' : ByteArray) (w : World) : (binOp .neq T (.agg #[.int .i64 k, .string t]) (.agg #[.int .i64 k', .string t'])).run Tryd.prog w = .ok (.bool (!decide ((⟨k, t⟩ : Tk) = ⟨k', t'⟩))) w := by
  subst hT
  have hf : (Tryd.prog.fieldsOf 37) = (match Tryd.prog.underlying 37 with | some (.struct fs) => fs | _ => #[]) := rfl
  have hu := Tryd.underlying37
  rw [hu] at hf
  rw [run_neq_struct, run_equalIn_agg (P := Tryd.prog) w 9999 _ _ _ (by rw [hf]; exact hu) (by kernel_rfl), hf]
  have h3 := Tryd.underlying3
  have h9 := Tryd.underlying9
  have hz3 := Tryd.sizeOf3
  have hz9 := Tryd.sizeOf9
  have ha3 := Tryd.isAgg3
  have ha9 := Tryd.isAgg9
  have p1 : ∀ (x : Int) (u : ByteArray) (w : World), (part 3 #[.int .i64 x, .string u] 0).run Tryd.prog w = .ok (.int .i64 x) w := fun x u w => by simp [part, hz3, ha3]
  have p2 : ∀ (x : Int) (u : ByteArray) (w : World), (part 9 #[.int .i64 x, .string u] 1).run Tryd.prog w = .ok (.string u) w := fun x u w => by simp [part, hz9, ha9]
  have e1 : ∀ (x y : Int) (w : World), (Op.equalIn 9999 3 (.int .i64 x) (.int .i64 y)).run Tryd.prog w = .ok (x == y) w := fun x y w => run_equalIn_int w 9998 3 .i64 .i64 x y h3
  have e2 : ∀ (x y : ByteArray) (w : World), (Op.equalIn 9999 9 (.string x) (.string y)).run Tryd.prog w = .ok (x.toList == y.toList) w := fun x y w => run_equalIn_string w 9998 9 x y h9
  have ht : t.toList = t'.toList ↔ t = t' := ⟨fun h => text_ext (by rw [← toList_data, ← toList_data, h]), fun h => by rw [h]⟩
  by_cases hk : k = k'
  · by_cases he : t = t'
    · simp [Op.eqFields, p1, p2, e1, e2, hk, he]
    · simp [Op.eqFields, p1, p2, e1, e2, ht, hk, he]
  · simp [Op.eqFields, p1, p2, e1, e2, hk]

def rrOf : Option (Int × List UInt8 × Nat) → Int → List UInt8 → Bool
  | none, _, _ => false
  | some (k', t, m), k, l => decide (k' = k) && (decide (t = l) && decide (m = l.length))
/-- which tokens may be, as the document tells it -/
def rrightF (k : Int) (l : List UInt8) : Bool :=
  if k = 2 ∨ k = 3 then true
  else if k = 5 then decide (findF l ends2 0 < 0) && decide (trimF l = l)
  else if k ≠ 1 ∧ k ≠ 4 ∧ k ≠ 6 then false
  else if l = [] then false
  else if skipA l 0 ≠ 0 then false
  else rrOf (rtokF l) k l

theorem contains_find (l : List UInt8) : (!Lib.contains l ends2) = decide (findF l ends2 0 < 0) := by
  unfold Lib.contains findF
  rw [List.drop_zero]
  have := Lib.index_ge l ends2
  split
  · rename_i h
    rw [decide_eq_false (by omega)]
    rfl
  · rename_i h
    rw [decide_eq_true (by omega), decide_eq_false (by omega)]
    rfl

theorem skipA_zero (c : UInt8) (r : List UInt8) : skipA (c :: r) 0 = if skipF (c :: r) < 0 then -1 else skipF (c :: r) := by
  unfold skipA
  simp
theorem skip_zero (c : UInt8) (r : List UInt8) (h : skipF (c :: r) = 0) : blankF c = false ∧ isLineF (c :: r) = false := ⟨(step_first c r h).1, (step_first c r h).2.1⟩
theorem skip_plain (c : UInt8) (r : List UInt8) (h1 : blankF c = false) (h2 : begF [47, 42] (c :: r) = false) (h3 : c.toNat ≠ 35) (h4 : begF [45, 45] (c :: r) = false) : skipF (c :: r) = 0 := by
  have hr : isRemarkF (c :: r) = false := by unfold isRemarkF; rw [h2]; rfl
  have hl : isLineF (c :: r) = false := by
    show (decide (c.toNat = 35) || begF [45, 45] (c :: r)) = false
    rw [decide_eq_false h3, h4]
    rfl
  rw [skipF, h1, hr, hl]
  rfl
theorem beg_not {a b c : UInt8} {r : List UInt8} (h : c ≠ a) : begF [a, b] (c :: r) = false := by
  cases hb : begF [a, b] (c :: r) with
  | false => rfl
  | true => exact absurd (beg_two _ _ _ _ hb) h
theorem lod_plain (c : UInt8) (h : lodF c = true) : blankF c = false ∧ c ≠ 47 ∧ c ≠ 45 ∧ c.toNat ≠ 35 := by
  have := by_all (fun c => !lodF c || (!blankF c && (decide (c ≠ 47) && (decide (c ≠ 45) && decide (c.toNat ≠ 35))))) (by decide +kernel) c
  rw [h] at this
  simp only [Bool.not_true, Bool.false_or, Bool.and_eq_true, Bool.not_eq_true', decide_eq_true_eq] at this
  exact this
theorem skip_lod (c : UInt8) (r : List UInt8) (h : lodF c = true) : skipF (c :: r) = 0 := by
  obtain ⟨h1, h2, h3, h4⟩ := lod_plain c h
  exact skip_plain c r h1 (beg_not h2) h4 (beg_not h3)
theorem no_hint {c : UInt8} {r : List UInt8} (h : c ≠ 47) : begF [47, 42, 43] (c :: r) = false := by
  cases hb : begF [47, 42, 43] (c :: r) with
  | false => rfl
  | true => exact absurd (beg_three _ _ _ _ _ hb) h

theorem rtok_letter (c : UInt8) (r : List UInt8) (h : letterF c = true) : rtokF (c :: r) = some (1, greatF ((c :: r).take (runF lodF (c :: r))), runF lodF (c :: r)) := by
  have h47 := (lod_plain c (by simp [lodF, h])).2.1
  rw [rtokF, if_neg (by rw [no_hint h47]; simp), if_pos h]
theorem rtok_digit (c : UInt8) (r : List UInt8) (h0 : letterF c = false) (h : digitF c = true) : rtokF (c :: r) = some (4, (c :: r).take (runF digitF (c :: r)), runF digitF (c :: r)) := by
  have h47 := (lod_plain c (by simp [lodF, h])).2.1
  rw [rtokF, if_neg (by rw [no_hint h47]; simp), if_neg (by simp [h0]), if_pos h]
theorem rtok_other (c : UInt8) (r : List UInt8) (h0 : letterF c = false) (h : digitF c = false) {k : Int} {t : List UInt8} {m : Nat} (hx : rtokF (c :: r) = some (k, t, m)) :
    k = 5 ∨ k = 2 ∨ k = 3 ∨ (k = 6 ∧ t = [c] ∧ m = 1 ∧ 33 ≤ c.toNat ∧ c.toNat ≤ 126 ∧ c.toNat ≠ 34 ∧ c.toNat ≠ 96 ∧ c.toNat ≠ 39) := by
  rw [rtokF] at hx
  split at hx
  · obtain ⟨y, _, hy⟩ := Option.map_eq_some_iff.1 hx
    simp only [Prod.mk.injEq] at hy
    exact .inl hy.1.symm
  rw [h0, h] at hx
  simp only [Bool.false_eq_true, if_false] at hx
  split at hx
  · obtain ⟨y, _, hy⟩ := Option.map_eq_some_iff.1 hx
    simp only [Prod.mk.injEq] at hy
    exact .inr (.inl hy.1.symm)
  split at hx
  · obtain ⟨y, _, hy⟩ := Option.map_eq_some_iff.1 hx
    simp only [Prod.mk.injEq] at hy
    exact .inr (.inr (.inl hy.1.symm))
  split at hx
  · simp only [Option.some.injEq, Prod.mk.injEq] at hx
    obtain ⟨rfl, rfl, rfl⟩ := hx
    refine .inr (.inr (.inr ⟨rfl, rfl, rfl, ?_⟩))
    omega
  · cases hx
theorem digit_no_letter (c : UInt8) (h : digitF c = true) : letterF c = false := by
  have := by_all (fun c => !digitF c || !letterF c) (by decide +kernel) c
  rw [h] at this
  simpa using this

theorem rright_word (c : UInt8) (r : List UInt8) : rrightF 1 (c :: r) = rightWordF (c :: r) := by
  unfold rrightF
  rw [if_neg (by omega), if_neg (by omega), if_neg (by omega), if_neg (by simp), skipA_zero]
  rw [show rightWordF (c :: r) = (letterF c && (decide (runF lodF (c :: r) = (c :: r).length) && decide (greatF (c :: r) = c :: r))) from rfl]
  cases h : letterF c
  · simp only [Bool.false_and]
    by_cases hs : (if skipF (c :: r) < 0 then -1 else skipF (c :: r)) ≠ 0
    · rw [if_pos hs]
    · rw [if_neg hs]
      cases hx : rtokF (c :: r) with
      | none => rfl
      | some x =>
        obtain ⟨k, t, m⟩ := x
        have hk : k ≠ 1 := by
          cases hd : digitF c
          · have := rtok_other c r h hd hx
            omega
          · rw [rtok_digit c r h hd] at hx
            simp only [Option.some.injEq, Prod.mk.injEq] at hx
            omega
        simp only [rrOf]
        rw [decide_eq_false hk]
        rfl
  · rw [skip_lod c r (by simp [lodF, h]), if_neg (by decide), rtok_letter c r h]
    simp only [rrOf, Bool.true_and, decide_true]
    by_cases hn : runF lodF (c :: r) = (c :: r).length
    · rw [decide_eq_true hn, hn, List.take_length, Bool.and_true, Bool.true_and]
    · rw [decide_eq_false hn, Bool.and_false, Bool.false_and]

theorem rright_number (c : UInt8) (r : List UInt8) : rrightF 4 (c :: r) = decide (runF digitF (c :: r) = (c :: r).length) := by
  unfold rrightF
  rw [if_neg (by omega), if_neg (by omega), if_neg (by omega), if_neg (by simp), skipA_zero]
  cases h : digitF c
  · rw [decide_eq_false (by rw [runF_none h]; simp)]
    by_cases hs : (if skipF (c :: r) < 0 then -1 else skipF (c :: r)) ≠ 0
    · rw [if_pos hs]
    · rw [if_neg hs]
      cases hx : rtokF (c :: r) with
      | none => rfl
      | some x =>
        obtain ⟨k, t, m⟩ := x
        have hk : k ≠ 4 := by
          cases hl : letterF c
          · have := rtok_other c r hl h hx
            omega
          · rw [rtok_letter c r hl] at hx
            simp only [Option.some.injEq, Prod.mk.injEq] at hx
            omega
        simp only [rrOf]
        rw [decide_eq_false hk]
        rfl
  · rw [skip_lod c r (by simp [lodF, h]), if_neg (by decide), rtok_digit c r (digit_no_letter c h) h]
    simp only [rrOf, Bool.true_and, decide_true]
    by_cases hn : runF digitF (c :: r) = (c :: r).length
    · rw [decide_eq_true hn, hn, List.take_length, decide_eq_true rfl]
      rfl
    · rw [decide_eq_false hn, Bool.and_false]

theorem sign_parts (c : UInt8) : signF c = true ↔ (33 ≤ c.toNat ∧ c.toNat ≤ 126 ∧ letterF c = false ∧ digitF c = false ∧ c.toNat ≠ 34 ∧ c.toNat ≠ 96 ∧ c.toNat ≠ 39 ∧ c.toNat ≠ 35) := by
  have hs : signF c = (!(decide (c.toNat ≤ 32) || decide (126 < c.toNat) || lodF c) && (decide (c.toNat ≠ 34) && decide (c.toNat ≠ 96) && decide (c.toNat ≠ 39) && decide (c.toNat ≠ 35))) := rfl
  have hl : lodF c = (letterF c || digitF c) := rfl
  rw [hs, hl]
  cases letterF c <;> cases digitF c <;> simp <;> omega
theorem blank_lt (c : UInt8) (h : 33 ≤ c.toNat) : blankF c = false := by
  have := by_all (fun c => decide (c.toNat < 33) || !blankF c) (by decide +kernel) c
  simp only [Bool.or_eq_true, decide_eq_true_eq, Bool.not_eq_true'] at this
  rcases this with h1 | h1
  · omega
  · exact h1

theorem rright_sign (c : UInt8) (r : List UInt8) : rrightF 6 (c :: r) = (match c :: r with | [c] => signF c | _ => false) := by
  unfold rrightF
  rw [if_neg (by omega), if_neg (by omega), if_neg (by omega), if_neg (by simp), skipA_zero]
  by_cases hg : r = [] ∧ signF c = true
  · obtain ⟨rfl, hg⟩ := hg
    obtain ⟨g1, g2, g3, g4, g5, g6, g7, g8⟩ := (sign_parts c).1 hg
    have e1 : ∀ a b : UInt8, begF [a, b] [c] = false := fun a b => by unfold begF Lib.hasPrefix; simp [List.isPrefixOf]
    have e2 : begF [47, 42, 43] [c] = false := by unfold begF Lib.hasPrefix; simp [List.isPrefixOf]
    have hr : rtokF [c] = some (6, [c], 1) := by
      rw [rtokF, e2, g3, g4]
      simp only [Bool.false_eq_true, if_false]
      rw [if_neg (by omega), if_neg g7, if_pos ⟨g1, g2⟩]
    rw [skip_plain c [] (blank_lt c g1) (e1 _ _) g8 (e1 _ _), if_neg (by decide), hr]
    simp [rrOf, hg]
  · have hrhs : (match c :: r with | [c] => signF c | _ => false) = false := by
      cases r with
      | nil => simpa using hg
      | cons _ _ => rfl
    rw [hrhs]
    by_cases hs : (if skipF (c :: r) < 0 then -1 else skipF (c :: r)) ≠ 0
    · rw [if_pos hs]
    · rw [if_neg hs]
      have hs0 : skipF (c :: r) = 0 := by
        rcases Int.lt_or_le (skipF (c :: r)) 0 with h | h
        · rw [if_pos h] at hs; exact absurd (by decide) hs
        · rw [if_neg (by omega)] at hs; omega
      obtain ⟨hb, hln⟩ := skip_zero c r hs0
      have h35 : c.toNat ≠ 35 := by
        intro h
        change (decide (c.toNat = 35) || begF [45, 45] (c :: r)) = false at hln
        rw [decide_eq_true h] at hln
        simp at hln
      cases hx : rtokF (c :: r) with
      | none => rfl
      | some x =>
        obtain ⟨k, t, m⟩ := x
        simp only [rrOf]
        cases hl : letterF c
        · cases hd : digitF c
          · rcases rtok_other c r hl hd hx with h | h | h | ⟨h, ht, hm, h1, h2, h3, h4, h5⟩
            · rw [decide_eq_false (by omega)]; rfl
            · rw [decide_eq_false (by omega)]; rfl
            · rw [decide_eq_false (by omega)]; rfl
            · subst ht
              cases r with
              | nil => exact absurd ⟨rfl, (sign_parts c).2 ⟨h1, h2, hl, hd, h3, h4, h5, h35⟩⟩ hg
              | cons d r => simp
          · rw [rtok_digit c r hl hd] at hx
            simp only [Option.some.injEq, Prod.mk.injEq] at hx
            rw [decide_eq_false (by omega)]
            rfl
        · rw [rtok_letter c r hl] at hx
          simp only [Option.some.injEq, Prod.mk.injEq] at hx
          rw [decide_eq_false (by omega)]
          rfl

theorem rright_right (k : Int) (l : List UInt8) : rrightF k l = rightF k l := by
  by_cases h23 : k = 2 ∨ k = 3
  · unfold rrightF rightF
    rw [if_pos h23, if_neg (by omega), if_pos h23]
  by_cases h5 : k = 5
  · subst h5
    unfold rrightF rightF
    rw [if_neg (by omega), if_pos rfl, if_neg (by omega), if_neg (by omega), if_neg (by omega), if_pos rfl, contains_find]
  by_cases hno : k ≠ 1 ∧ k ≠ 4 ∧ k ≠ 6
  · unfold rrightF rightF
    rw [if_neg h23, if_neg h5, if_pos hno, if_neg hno.1, if_neg h23, if_neg hno.2.1, if_neg h5, if_neg hno.2.2]
  have hk : k = 1 ∨ k = 4 ∨ k = 6 := by omega
  cases l with
  | nil =>
    unfold rrightF
    rw [if_neg h23, if_neg h5, if_neg hno, if_pos rfl]
    rcases hk with rfl | rfl | rfl <;> rfl
  | cons c r =>
    rcases hk with rfl | rfl | rfl
    · exact rright_word c r
    · rw [rright_number]
      show _ = (decide ((c :: r) ≠ []) && decide (runF digitF (c :: r) = (c :: r).length))
      simp
    · exact rright_sign c r
end Go.Proofs.YtliadhpnkgpemaaDoor
