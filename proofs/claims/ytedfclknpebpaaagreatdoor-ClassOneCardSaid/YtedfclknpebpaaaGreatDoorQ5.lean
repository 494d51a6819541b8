/-
  Contracts and plain functions that the law stands on, part 5 of 5.
-/
import Derived.Test.YtedfclknpebpaaaGreatDoorQ4
namespace Go.Proofs.YtedfclknpebpaaaGreatDoor
/- What two texts have, one behind the other, a line's end between (no function of the program is named here). -/
section
open Go.RowKit
set_option maxRecDepth 100000

theorem pre_same {p : List UInt8} (hp : (10 : UInt8) ∉ p) (b r : List UInt8) : p.isPrefixOf (b ++ 10 :: r) = p.isPrefixOf (b ++ [10]) ∧ (p.isPrefixOf (b ++ [10]) = true → p.length ≤ b.length) := by
  induction p generalizing b with
  | nil => simp [List.isPrefixOf]
  | cons c p ih =>
    have hc : c ≠ 10 := fun e => hp (by rw [e]; simp)
    cases b with
    | nil =>
      have hcb : (c == 10) = false := by simpa using hc
      simp [List.isPrefixOf, hcb]
    | cons d b =>
      obtain ⟨h1, h2⟩ := ih (fun h => hp (List.mem_cons_of_mem _ h)) b
      simp only [List.cons_append, List.isPrefixOf, h1, List.length_cons]
      refine ⟨trivial, fun h => ?_⟩
      rw [Bool.and_eq_true] at h
      have := h2 h.2
      omega
theorem index_same (b r : List UInt8) (h : 0 ≤ Lib.index (b ++ [10]) ends2) : Lib.index (b ++ 10 :: r) ends2 = Lib.index (b ++ [10]) ends2 ∧ (Lib.index (b ++ [10]) ends2).toNat + 2 ≤ b.length := by
  induction b with
  | nil =>
    have hn : ¬ 0 ≤ Lib.index ([] ++ [10]) ends2 := by decide
    exact absurd h hn
  | cons c b ih =>
    obtain ⟨h1, h2⟩ := pre_same (p := ends2) (by decide) (c :: b) r
    simp only [List.cons_append] at h1 h2 h ⊢
    rw [Lib.index] at h ⊢
    rw [Lib.index, h1]
    by_cases hp : ends2.isPrefixOf (c :: (b ++ [10])) = true
    · rw [if_pos hp, if_pos hp]
      have := h2 hp
      refine ⟨rfl, ?_⟩
      simpa [ends2] using this
    · rw [if_neg hp] at h ⊢
      rw [if_neg hp]
      have hge := Lib.index_ge (b ++ [10]) ends2
      by_cases hm : (Lib.index (b ++ [10]) ends2 == -1) = true
      · rw [if_pos hm] at h; omega
      · rw [if_neg hm] at h ⊢
        have hne : Lib.index (b ++ [10]) ends2 ≠ -1 := by simpa using hm
        obtain ⟨e1, e2⟩ := ih (by omega)
        rw [e1, if_neg hm]
        refine ⟨rfl, ?_⟩
        simp only [List.length_cons]
        omega
theorem indexTen (b r : List UInt8) : Lib.indexByte (b ++ 10 :: r) 10 = Lib.indexByte (b ++ [10]) 10 ∧ 0 ≤ Lib.indexByte (b ++ [10]) 10 ∧ (Lib.indexByte (b ++ [10]) 10).toNat ≤ b.length := by
  induction b with
  | nil => simp [Lib.indexByte]
  | cons c b ih =>
    obtain ⟨e1, e2, e3⟩ := ih
    simp only [List.cons_append, Lib.indexByte, e1, List.length_cons]
    by_cases hc : (c == 10) = true
    · rw [if_pos hc]
      simp
    · rw [if_neg hc]
      have hm : ¬ (Lib.indexByte (b ++ [10]) 10 == -1) = true := by
        rw [beq_iff_eq]
        omega
      rw [if_neg hm]
      exact ⟨trivial, by omega, by omega⟩
theorem run_same (p : UInt8 → Bool) (hp : p 10 = false) (b r : List UInt8) : runF p (b ++ 10 :: r) = runF p (b ++ [10]) ∧ runF p (b ++ [10]) ≤ b.length := by
  induction b with
  | nil => simp [runF, hp]
  | cons c b ih =>
    simp only [List.cons_append, runF, ih.1, List.length_cons]
    split
    · exact ⟨trivial, by have := ih.2; omega⟩
    · exact ⟨trivial, by omega⟩
theorem quoted_same (q : UInt8) (hq : q ≠ 10) : ∀ (n : Nat) (b r : List UInt8) (x : List UInt8 × Nat), b.length ≤ n → quotedF q (b ++ [10]) = some x → quotedF q (b ++ 10 :: r) = some x ∧ x.2 ≤ b.length := by
  intro n
  induction n with
  | zero =>
    intro b r x hl h
    obtain rfl : b = [] := List.eq_nil_of_length_eq_zero (by omega)
    simp [quotedF, hq.symm] at h
  | succ n ih =>
    intro b r x hl h
    cases b with
    | nil => simp [quotedF, hq.symm] at h
    | cons c b =>
      cases b with
      | nil =>
        by_cases hc : c = q
        · subst hc
          simp [quotedF, hq.symm] at h
          subst h
          simp [quotedF, hq.symm]
        · simp [quotedF, hc, hq.symm] at h
      | cons d b =>
        simp only [List.cons_append] at h ⊢
        rw [quotedF] at h ⊢
        by_cases hc : c = q
        · rw [if_pos hc] at h ⊢
          by_cases hd : d = q
          · rw [if_pos hd] at h ⊢
            obtain ⟨y, hy, rfl⟩ := Option.map_eq_some_iff.1 h
            obtain ⟨e1, e2⟩ := ih b r y (by simp at hl; omega) hy
            rw [e1]
            exact ⟨rfl, by simp; omega⟩
          · rw [if_neg hd] at h ⊢
            injection h with h
            subst h
            exact ⟨rfl, by simp⟩
        · rw [if_neg hc] at h ⊢
          obtain ⟨y, hy, rfl⟩ := Option.map_eq_some_iff.1 h
          obtain ⟨e1, e2⟩ := ih (d :: b) r y (by simp at hl ⊢; omega) hy
          simp only [List.cons_append] at e1
          rw [e1]
          exact ⟨rfl, by simp at e2 ⊢; omega⟩
theorem closed_same (a r : List UInt8) (o : Nat) (ho : o ≤ a.length) (h : closedF (a ++ [10]) o ≠ 0) : closedF (a ++ 10 :: r) o = closedF (a ++ [10]) o ∧ closedF (a ++ [10]) o ≤ a.length := by
  unfold closedF at *
  rw [List.drop_append_of_le_length ho] at *
  rw [List.drop_append_of_le_length ho]
  by_cases hi : Lib.index (a.drop o ++ [10]) ends2 < 0
  · rw [if_pos hi] at h; exact absurd rfl h
  · obtain ⟨e1, e2⟩ := index_same (a.drop o) r (by omega)
    rw [e1, if_neg hi]
    refine ⟨rfl, ?_⟩
    rw [List.length_drop] at e2
    omega
theorem take_same' (a r : List UInt8) {n : Nat} (h : n ≤ a.length) : (a ++ 10 :: r).take n = (a ++ [10]).take n := by
  rw [List.take_append_of_le_length h, List.take_append_of_le_length h]

theorem first_same (c : UInt8) (a r : List UInt8) {k : Nat} {t : List UInt8} {n : Nat} (h : firstF (c :: a ++ [10]) = some (k, t, n)) : firstF (c :: a ++ 10 :: r) = some (k, t, n) ∧ n ≤ (c :: a).length := by
  have r1 := run_same lodF (by decide) (c :: a) r
  have r2 := run_same digitF (by decide) (c :: a) r
  have r3 := take_same' (c :: a) r r1.2
  have r4 := take_same' (c :: a) r r2.2
  obtain ⟨p1, p2⟩ := pre_same (p := [47, 42, 43]) (by decide) (c :: a) r
  have b1 : begF [47, 42, 43] (c :: a ++ 10 :: r) = begF [47, 42, 43] (c :: a ++ [10]) := p1
  have b2 : begF [47, 42, 43] (c :: a ++ [10]) = true → 3 ≤ (c :: a).length := p2
  simp only [List.cons_append] at *
  simp only [firstF] at h ⊢
  by_cases hc : letterF c = true
  · rw [if_pos hc] at h ⊢
    rw [r1.1, r3]
    simp only [Option.some.injEq, Prod.mk.injEq] at h
    exact ⟨by rw [h.1, h.2.1, h.2.2], by rw [← h.2.2]; exact r1.2⟩
  rw [if_neg hc] at h ⊢
  by_cases hd : digitF c = true
  · rw [if_pos hd] at h ⊢
    rw [r2.1, r4]
    simp only [Option.some.injEq, Prod.mk.injEq] at h
    exact ⟨by rw [h.1, h.2.1, h.2.2], by rw [← h.2.2]; exact r2.2⟩
  rw [if_neg hd] at h ⊢
  by_cases h34 : c.toNat = 34 ∨ c.toNat = 96
  · rw [if_pos h34] at h ⊢
    obtain ⟨x, hx, h⟩ := Option.map_eq_some_iff.1 h
    obtain ⟨e1, e2⟩ := quoted_same c (fun e => by rw [e] at h34; revert h34; decide) a.length a r x (Nat.le_refl _) hx
    rw [e1]
    simp only [Prod.mk.injEq] at h
    exact ⟨by simp [h], by simp; omega⟩
  rw [if_neg h34] at h ⊢
  by_cases h39 : c.toNat = 39
  · rw [if_pos h39] at h ⊢
    obtain ⟨x, hx, h⟩ := Option.map_eq_some_iff.1 h
    obtain ⟨e1, e2⟩ := quoted_same c (fun e => by rw [e] at h39; revert h39; decide) a.length a r x (Nat.le_refl _) hx
    rw [e1]
    simp only [Prod.mk.injEq] at h
    exact ⟨by simp [h], by simp; omega⟩
  rw [if_neg h39] at h ⊢
  rw [b1]
  by_cases hb : begF [47, 42, 43] (c :: (a ++ [10])) = true
  · rw [if_pos hb] at h ⊢
    by_cases hz : closedF (c :: (a ++ [10])) 3 = 0
    · rw [if_pos hz] at h; cases h
    · obtain ⟨e1, e2⟩ := closed_same (c :: a) r 3 (b2 hb) hz
      simp only [List.cons_append] at e1 e2
      rw [if_neg hz] at h
      rw [e1, if_neg hz]
      have e3 := take_same' (c :: a) r (n := closedF (c :: (a ++ [10])) 3 - 2) (by omega)
      simp only [List.cons_append] at e3
      rw [e3]
      simp only [Option.some.injEq, Prod.mk.injEq] at h
      exact ⟨by rw [h.1, h.2.1, h.2.2], by rw [← h.2.2]; exact e2⟩
  rw [if_neg hb] at h ⊢
  by_cases hs : signF c = true
  · rw [if_pos hs] at h ⊢
    simp only [Option.some.injEq, Prod.mk.injEq] at h
    exact ⟨by rw [h.1, h.2.1, h.2.2], by rw [← h.2.2]; simp⟩
  · rw [if_neg hs] at h; cases h

theorem step_same (c : UInt8) (a r : List UInt8) (h : stepF (c :: a ++ [10]) ≠ .bad) :
    stepF (c :: a ++ 10 :: r) = stepF (c :: a ++ [10]) ∧ (∀ n, stepF (c :: a ++ [10]) = .skip n → n ≤ (c :: a).length) ∧ ∀ k t n, stepF (c :: a ++ [10]) = .tok k t n → n ≤ (c :: a).length := by
  obtain ⟨l1, l2⟩ := pre_same (p := [45, 45]) (by decide) (c :: a) r
  obtain ⟨m1, m2⟩ := pre_same (p := [47, 42]) (by decide) (c :: a) r
  obtain ⟨p1, p2⟩ := pre_same (p := [47, 42, 43]) (by decide) (c :: a) r
  have il : isLineF (c :: a ++ 10 :: r) = isLineF (c :: a ++ [10]) := by
    simp only [List.cons_append] at l1 ⊢
    show (decide (c.toNat = 35) || [45, 45].isPrefixOf (c :: (a ++ 10 :: r))) = (decide (c.toNat = 35) || [45, 45].isPrefixOf (c :: (a ++ [10])))
    rw [l1]
  have ir : isRemarkF (c :: a ++ 10 :: r) = isRemarkF (c :: a ++ [10]) := by
    unfold isRemarkF begF Lib.hasPrefix
    rw [m1, p1]
  obtain ⟨t1, t2, t3⟩ := indexTen (c :: a) r
  have lf : lineF (c :: a ++ 10 :: r) = lineF (c :: a ++ [10]) ∧ lineF (c :: a ++ [10]) ≤ (c :: a).length := by
    unfold lineF
    rw [t1, if_neg (by omega), if_neg (by omega)]
    exact ⟨rfl, t3⟩
  have ir2 : isRemarkF (c :: a ++ [10]) = true → 2 ≤ (c :: a).length := fun hh => by
    unfold isRemarkF at hh
    rw [Bool.and_eq_true] at hh
    exact m2 hh.1
  have fs := fun k t n h => first_same c a r (k := k) (t := t) (n := n) h
  simp only [List.cons_append] at *
  simp only [stepF] at h ⊢
  by_cases hb : blankF c = true
  · rw [if_pos hb, if_pos hb]
    exact ⟨rfl, fun n e => by injection e with e; subst e; simp, fun k t n e => by cases e⟩
  rw [if_neg hb] at h ⊢
  rw [if_neg hb, il]
  by_cases hl : isLineF (c :: (a ++ [10])) = true
  · rw [if_pos hl, if_pos hl, lf.1]
    exact ⟨rfl, fun n e => by injection e with e; subst e; exact lf.2, fun k t n e => by cases e⟩
  rw [if_neg hl] at h ⊢
  rw [if_neg hl, ir]
  by_cases hr : isRemarkF (c :: (a ++ [10])) = true
  · rw [if_pos hr] at h ⊢
    rw [if_pos hr]
    by_cases hz : closedF (c :: (a ++ [10])) 2 = 0
    · rw [if_pos hz] at h; exact absurd rfl h
    · obtain ⟨e1, e2⟩ := closed_same (c :: a) r 2 (ir2 hr) hz
      simp only [List.cons_append] at e1 e2
      rw [if_neg hz, e1, if_neg hz]
      exact ⟨rfl, fun n e => by injection e with e; subst e; exact e2, fun k t n e => by cases e⟩
  rw [if_neg hr] at h ⊢
  rw [if_neg hr]
  cases hf : firstF (c :: (a ++ [10])) with
  | none => rw [hf] at h; exact absurd rfl h
  | some x =>
    obtain ⟨k, t, n⟩ := x
    obtain ⟨e1, e2⟩ := fs k t n hf
    rw [e1]
    refine ⟨rfl, fun n e => (by cases e), fun k' t' n' e => ?_⟩
    simp only [Step.tok.injEq] at e
    obtain ⟨_, _, rfl⟩ := e
    exact e2

theorem lex_join : ∀ (n : Nat) (a r : List UInt8) (x : List Tok), a.length ≤ n → lexF (a ++ [10]) = some x → lexF (a ++ 10 :: r) = (lexF r).map (x ++ ·) := by
  intro n
  induction n with
  | zero =>
    intro a r x hl h
    obtain rfl : a = [] := List.eq_nil_of_length_eq_zero (by omega)
    rw [List.nil_append, lexF_blank 10 [] (by decide), lexF_nil] at h
    injection h with h
    subst h
    rw [List.nil_append, lexF_blank 10 r (by decide)]
    cases lexF r <;> rfl
  | succ n ih =>
    intro a r x hl h
    cases a with
    | nil =>
      rw [List.nil_append, lexF_blank 10 [] (by decide), lexF_nil] at h
      injection h with h
      subst h
      rw [List.nil_append, lexF_blank 10 r (by decide)]
      cases lexF r <;> rfl
    | cons c a =>
      have hne : (c :: a ++ [10] : List UInt8) ≠ [] := by simp
      have hne2 : (c :: a ++ 10 :: r : List UInt8) ≠ [] := by simp
      cases hst : stepF (c :: a ++ [10]) with
      | bad => rw [lexF_bad hne hst] at h; cases h
      | skip m =>
        obtain ⟨e1, e2, _⟩ := step_same c a r (by rw [hst]; simp)
        have hm := e2 m hst
        rw [hst] at e1
        by_cases h0 : m = 0
        · rw [lexF, dif_neg hne, hst] at h
          simp [h0] at h
        · rw [lexF_skip hne hst h0, List.drop_append_of_le_length hm] at h
          rw [lexF_skip hne2 e1 h0, List.drop_append_of_le_length hm]
          exact ih _ r x (by rw [List.length_drop]; simp at hl ⊢; omega) h
      | tok k t m =>
        obtain ⟨e1, _, e3⟩ := step_same c a r (by rw [hst]; simp)
        have hm := e3 k t m hst
        rw [hst] at e1
        by_cases h0 : m = 0
        · rw [lexF, dif_neg hne, hst] at h
          simp [h0] at h
        · rw [lexF_tok hne hst h0, List.drop_append_of_le_length hm] at h
          rw [lexF_tok hne2 e1 h0, List.drop_append_of_le_length hm]
          obtain ⟨y, hy, rfl⟩ := Option.map_eq_some_iff.1 h
          rw [ih _ r y (by rw [List.length_drop]; simp at hl ⊢; omega) hy]
          cases lexF r <;> rfl

theorem endF_append (X Y : List Tok) (h : endF Y ≠ []) : endF (X ++ Y) = X ++ endF Y := by
  unfold endF at *
  rw [List.reverse_append, List.dropWhile_append]
  have : (Y.reverse.dropWhile stopF).isEmpty = false := by
    cases hh : Y.reverse.dropWhile stopF with
    | nil => rw [hh] at h; simp at h
    | cons a l => rfl
  rw [this]
  simp
theorem endF_none {l : List Tok} (h : endF l = []) : ∀ x ∈ l, stopF x = true := by
  obtain ⟨st, e, hs⟩ := endF_split l
  rw [h, List.nil_append] at e
  rw [e]
  exact hs
/-- two statements behind one another -/
theorem class_two {a b : List UInt8} {La Lb : List Tok} (ha : lexF (a ++ [10]) = some La) (hb : lexF b = some Lb) (hla : ∀ x ∈ La, isHintF x = false) (hlb : ∀ x ∈ Lb, isHintF x = false) (hy : ∃ y ∈ Lb, stopF y = false) (hn : a.length + b.length ≤ 190) : classA (a ++ 10 :: 59 :: b) = 7 := by
  have h1 := lex_join a.length a (59 :: b) La (Nat.le_refl _) ha
  have h2 : lexF (59 :: b) = (lexF b).map ((6, [59]) :: ·) := lexF_tok (k := 6) (t := [59]) (n := 1) (by simp) (by
    simp only [stepF]
    have e1 : blankF 59 = false := by decide
    have e2 : isLineF (59 :: b) = false := by simp [isLineF, begF, Lib.hasPrefix, List.isPrefixOf]
    have e3 : isRemarkF (59 :: b) = false := by simp [isRemarkF, begF, Lib.hasPrefix, List.isPrefixOf]
    have e4 : firstF (59 :: b) = some (6, [59], 1) := by
      have e5 : begF [47, 42, 43] (59 :: b) = false := by simp [begF, Lib.hasPrefix, List.isPrefixOf]
      simp only [firstF, e5]
      rfl
    rw [e1, e2, e3, e4]
    rfl) (by decide)
  rw [h2, hb] at h1
  have h3 : lexF (a ++ 10 :: 59 :: b) = some (La ++ (6, [59]) :: Lb) := h1
  have h4 : lexA (a ++ 10 :: 59 :: b) = (La ++ (6, [59]) :: Lb, 0) := by
    unfold lexA
    rw [if_neg (by simp; omega), h3]
  unfold classA
  rw [h4]
  show classF (bodyF (La ++ (6, [59]) :: Lb)) = 7
  have hf : (La ++ (6, [59]) :: Lb).filter (fun t => !isHintF t) = La ++ (6, [59]) :: Lb := by
    refine List.filter_eq_self.2 fun x hx => ?_
    rcases List.mem_append.1 hx with h | h
    · rw [hla x h]; rfl
    · rcases List.mem_cons.1 h with rfl | h
      · rfl
      · rw [hlb x h]; rfl
  unfold bodyF
  rw [hf]
  have hend : endF Lb ≠ [] := fun e => by
    obtain ⟨y, hy1, hy2⟩ := hy
    rw [endF_none e y hy1] at hy2
    cases hy2
  have e5 : endF (La ++ (6, [59]) :: Lb) = (La ++ [(6, [59])]) ++ endF Lb := by
    have := endF_append (La ++ [(6, [59])]) Lb hend
    simpa using this
  rw [e5]
  have hany : ((La ++ [((6 : Int), ([59] : List UInt8))]) ++ endF Lb).any stopF = true := List.any_eq_true.2 ⟨(6, [59]), by simp, by decide⟩
  cases hc : (La ++ [((6 : Int), ([59] : List UInt8))]) ++ endF Lb with
  | nil => exact classF_nil
  | cons t r => rw [hc] at hany; exact classF_no (.inr hany)
end

/- ClassOne: two statements behind one another are no statement that is known: the walk. -/
section
open Go.RowKit
set_option maxRecDepth 100000

theorem hints_ok (A : Option Addr) (n c : Nat) (ts : List Tk) (w : World) (h : TR w A n ts) (hn : n ≤ 1000000) :
    Calls Tryz.prog 22 #[.slice A n c] w fun e w' => e = .returned (.bool ((saysT ts).any isHintF)) ∧ Below w.heap.size w w' := by
  have hlen := Lib.hid h.len
  go_enter Tryz.func22, Tryz.ntmps22
  go_wp2
  go_loopw [7] (fun i wr => ∃ (k : Nat), k ≤ n ∧ i = .int .i64 k ∧ Hid ((saysT ts).any isHintF = (saysT (ts.drop k)).any isHintF) ∧ Below w.heap.size w wr) (fun i _ => n - (intOf i).toNat)
  case atStart => exact ⟨0, Nat.zero_le _, rfl, Lib.hid rfl, Below.refl _ _⟩
  case round =>
    obtain ⟨k, hk, rfl, hx, kw⟩ := hrel
    by_cases hlt : k < n
    · have hkl : k < ts.length := by rw [hlen.out]; exact hlt
      obtain ⟨ad, rfl, _, hc⟩ := h.at_ hkl
      obtain ⟨c0, c1⟩ := hc _ kw
      have hst : (saysT (ts.drop k)).any isHintF = (decide (ts[k].k = 5) || (saysT (ts.drop (k + 1))).any isHintF) := by
        rw [List.drop_eq_getElem_cons hkl]
        rfl
      rw [hst] at hx
      have kn := kp_alloc kw (.cells #[.int .i64 ts[k].k, .string ts[k].t] 33)
      clear hc hst
      generalize ts[k].k = x at *
      generalize ts[k].t = s at *
      by_cases h5 : x = 5
      · rw [decide_eq_true h5] at hx
        have HF : Hid ((saysT ts).any isHintF = true) := Lib.hid (by rw [hx.out]; rfl)
        clear hx
        subst h5
        go_wp2_with fail
        go_ret
        exact ⟨by rw [HF.out]; rfl, kn⟩
      · rw [decide_eq_false h5] at hx
        have hx2 : Hid ((saysT ts).any isHintF = (saysT (ts.drop (k + 1))).any isHintF) := Lib.hid (by rw [hx.out]; rfl)
        have f5 : (x == 5) = false := by simpa using h5
        clear hx
        go_wp2_with fail
        go_roundw
        case rel => exact ⟨k + 1, by omega, by go_num, hx2, kn⟩
        case measure => simp [intOf]; omega
    · obtain rfl : k = n := by omega
      have HF : Hid ((saysT ts).any isHintF = false) := Lib.hid (by rw [hx.out, List.drop_eq_nil_of_le (by rw [hlen.out]; exact Nat.le_refl _)]; rfl)
      clear hx
      go_wp2_with fail
      go_ret
      exact ⟨by rw [HF.out]; rfl, kw⟩

set_option maxHeartbeats 8000000 in
theorem classOne_walk (a b : ByteArray) (w : World) (ha : a.size ≤ 140737488351232) (hb : b.size ≤ 140737488351232) (hL : Lw w) :
    Calls Tryz.prog 6 #[.string a, .string b] w fun e w' => e = .returned (.bool true) ∧ Below w.heap.size w w' := by
  have HA := Lib.hid (awake5 w hL)
  have hw : wrap64 ((a.size : Int) + (b.size : Int)) = (a.size : Int) + (b.size : Int) := by unfold wrap64; omega
  go_enter Tryz.func6, Tryz.ntmps6
  go_wp2_with fail
  refine HA.out.mono ?_
  rintro e w0 ⟨rfl, k0⟩
  clear HA
  by_cases hlong : 190 < a.size + b.size
  · go_wp2_with fail
    go_ret
    exact ⟨rfl, k0⟩
  have hsz : a.size + b.size ≤ 190 := by omega
  have hx1 := rlex_ok (a ++ ⟨#[10]⟩) w0 (by rw [ByteArray.size_append]; have : (⟨#[10]⟩ : ByteArray).size = 1 := rfl; unfold maxLen; omega)
  unfold LexTo at hx1
  have hta : (a ++ ⟨#[10]⟩ : ByteArray).data.toList = a.data.toList ++ [10] := by simp
  rw [hta] at hx1
  have HX1 := Lib.hid hx1
  have HX2 := Lib.hid fun u => rlex_ok b u (by unfold maxLen; omega)
  clear hx1 hta
  go_wp2_with fail
  refine HX1.out.mono ?_
  rintro e w1 ⟨A1, n1, c1, e1, ts1, rfl, ho1, hs1, k1⟩
  have HS1 := Lib.hid hs1
  clear HX1 hs1
  go_wp2_with fail
  refine (HX2.out w1).mono ?_
  rintro e w2 ⟨A2, n2, c2, e2, ts2, rfl, ho2, hs2, k2⟩
  have HS2 := Lib.hid hs2
  have kw2 := kp_trans (kp_trans k0 k1) k2
  clear HX2 hs2
  by_cases he1 : e1 = 0
  case neg =>
    have f1 : (e1 != 0) = true := by simpa using he1
    clear he1
    go_wp2_with fail
    go_ret
    exact ⟨rfl, kw2⟩
  subst he1
  by_cases he2 : e2 = 0
  case neg =>
    have f1 : (e2 != 0) = true := by simpa using he2
    clear he2
    go_wp2_with fail
    go_ret
    exact ⟨rfl, kw2⟩
  subst he2
  have hl1 : n1 ≤ 200 := by
    have := lexA_len (a.data.toList ++ [10])
    rw [← HS1.out] at this
    rw [← ho1.len, ← saysT_length]
    exact this
  have hl2 : n2 ≤ 200 := by
    have := lexA_len b.data.toList
    rw [← HS2.out] at this
    rw [← ho2.len, ← saysT_length]
    exact this
  have hF1 : lexF (a.data.toList ++ [10]) = some (saysT ts1) := lexA_get HS1.out
  have hF2 : lexF b.data.toList = some (saysT ts2) := lexA_get HS2.out
  have HF1 := Lib.hid hF1
  have HF2 := Lib.hid hF2
  have hH1 := Lib.hid (hints_ok A1 n1 c1 ts1 w2 (ho1.tr.next k2) (by omega))
  have hr2 := ho2.tr
  clear hF1 hF2 HS1 HS2 ho1 ho2
  cases hh1 : (saysT ts1).any isHintF with
  | true =>
    rw [hh1] at hH1
    clear hh1
    go_wp2_with fail
    refine hH1.out.mono ?_
    rintro e w3 ⟨rfl, k3⟩
    go_wp2_with fail
    go_ret
    exact ⟨rfl, kp_trans kw2 k3⟩
  | false =>
  rw [hh1] at hH1
  have HN1 := Lib.hid hh1
  clear hh1
  go_wp2_with fail
  refine hH1.out.mono ?_
  rintro e w3 ⟨rfl, k3⟩
  have kw3 := kp_trans kw2 k3
  have hH2 := Lib.hid (hints_ok A2 n2 c2 ts2 w3 (hr2.next k3) (by omega))
  clear hH1
  cases hh2 : (saysT ts2).any isHintF with
  | true =>
    rw [hh2] at hH2
    clear hh2
    go_wp2_with fail
    refine hH2.out.mono ?_
    rintro e w4 ⟨rfl, k4⟩
    go_wp2_with fail
    go_ret
    exact ⟨rfl, kp_trans kw3 k4⟩
  | false =>
  rw [hh2] at hH2
  have HN2 := Lib.hid hh2
  clear hh2
  go_wp2_with fail
  refine hH2.out.mono ?_
  rintro e w4 ⟨rfl, k4⟩
  have kw4 := kp_trans kw3 k4
  have hr4 := (hr2.next k3).next k4
  have hlen := Lib.hid hr4.len
  clear hH2 hr2
  go_wp2_with fail
  go_loopw [9, 48] (fun v i wr => ∃ k m : Nat, k ≤ n2 ∧ m ≤ k ∧ i = .int .i64 k ∧ v = .int .i64 m ∧ Hid (m = 0 ↔ ∀ x ∈ (saysT ts2).take k, stopF x = true) ∧ Below w4.heap.size w4 wr) (fun _ i _ => n2 - (intOf i).toNat)
  case atStart => exact ⟨0, 0, Nat.zero_le _, Nat.le_refl _, rfl, rfl, Lib.hid (by simp), Below.refl _ _⟩
  case round =>
    obtain ⟨k, m, hk, hm, rfl, rfl, hx, kw⟩ := hrel
    by_cases hlt : k < n2
    · have hkl : k < ts2.length := by rw [hlen.out]; exact hlt
      obtain ⟨ad, rfl, _, hc⟩ := hr4.at_ hkl
      obtain ⟨q0, q1⟩ := hc _ kw
      have hks : k < (saysT ts2).length := by rw [saysT_length]; exact hkl
      have hsa : (saysT ts2)[k] = ts2[k].says := by simp [saysT]
      have hsf : stopF ts2[k].says = (decide (ts2[k].k = 6) && (ts2[k].t.toList == [59])) := by rw [toList_is]; rfl
      have htk : ∀ P : Prop, (∀ x ∈ (saysT ts2).take (k + 1), stopF x = true) ↔ (∀ x ∈ (saysT ts2).take k, stopF x = true) ∧ stopF ts2[k].says = true := fun _ => by
        rw [List.take_succ_eq_append_getElem hks, hsa]
        constructor
        · exact fun h => ⟨fun x hx => h x (List.mem_append_left _ hx), h _ (by simp)⟩
        · rintro ⟨h1, h2⟩ x hx
          rcases List.mem_append.1 hx with h | h
          · exact h1 x h
          · rw [List.mem_singleton.1 h]; exact h2
      have kn := kp_alloc kw (.cells #[.int .i64 ts2[k].k, .string ts2[k].t] 33)
      have HT := Lib.hid (htk True)
      rw [hsf] at HT
      clear hc htk hsa hsf
      generalize ts2[k].k = x at *
      generalize ts2[k].t = s at *
      by_cases h6 : x = 6
      · subst h6
        cases h59 : (s.toList == [59]) with
        | true =>
          have hx2 : Hid (m = 0 ↔ ∀ x ∈ (saysT ts2).take (k + 1), stopF x = true) := Lib.hid (by rw [HT.out, hx.out, h59]; simp)
          clear hx HT
          go_wp2_with fail
          go_roundw
          case rel => exact ⟨k + 1, m, by omega, by omega, by go_num, rfl, hx2, kn⟩
          case measure => simp [intOf]; omega
        | false =>
          have hx2 : Hid (m + 1 = 0 ↔ ∀ x ∈ (saysT ts2).take (k + 1), stopF x = true) := Lib.hid (by rw [HT.out, h59]; simp)
          clear hx HT
          go_wp2_with fail
          go_roundw
          case rel => exact ⟨k + 1, m + 1, by omega, by omega, by go_num, by go_num, hx2, kn⟩
          case measure => simp [intOf]; omega
      · have f6 : (x != 6) = true := by simpa using h6
        have hx2 : Hid (m + 1 = 0 ↔ ∀ x ∈ (saysT ts2).take (k + 1), stopF x = true) := Lib.hid (by rw [HT.out, decide_eq_false h6]; simp)
        clear hx HT h6
        go_wp2_with fail
        go_roundw
        case rel => exact ⟨k + 1, m + 1, by omega, by omega, by go_num, by go_num, hx2, kn⟩
        case measure => simp [intOf]; omega
    · obtain rfl : n2 = k := by omega
      have kz := kp_trans kw4 kw
      have hcl := newClasser_ok wr
      have hsz3 : (a ++ ⟨#[10, 59]⟩ ++ b : ByteArray).size ≤ 192 := by
        rw [ByteArray.size_append, ByteArray.size_append]
        have : (⟨#[10, 59]⟩ : ByteArray).size = 2 := rfl
        omega
      have htx : (a ++ ⟨#[10, 59]⟩ ++ b : ByteArray).data.toList = a.data.toList ++ 10 :: 59 :: b.data.toList := by simp
      have hcc := fun u hL hc => class_ok (a ++ ⟨#[10, 59]⟩ ++ b) wr.heap.size u (by unfold maxLen; omega) hL hc
      rw [htx] at hcc
      have HCL := Lib.hid hcl
      have HCC := Lib.hid hcc
      clear hcl hcc htx hsz3
      by_cases hm0 : m = 0
      · subst hm0
        clear hx
        go_wp2_with fail
        refine HCL.out.mono ?_
        rintro e w5 ⟨rfl, c5, k5⟩
        generalize classA (a.data.toList ++ 10 :: 59 :: b.data.toList) = R at *
        go_wp2_with fail
        refine (HCC.out _ (hL.next (kp_trans kz k5)) c5).mono ?_
        rintro e w6 ⟨rfl, c6, b6⟩
        go_wp2_with fail
        go_ret
        have kk := kp_trans kz k5
        exact ⟨rfl, kk.trans (b6.below kz.size kk.size)⟩
      · have hseven : classA (a.data.toList ++ 10 :: 59 :: b.data.toList) = 7 := by
          refine class_two HF1.out HF2.out (fun x hx1 => ?_) (fun x hx1 => ?_) ?_ (by rw [text_len, text_len]; exact hsz)
          · have := HN1.out
            rw [List.any_eq_false] at this
            simpa using this x hx1
          · have := HN2.out
            rw [List.any_eq_false] at this
            simpa using this x hx1
          · have h1 := hx.out
            rw [List.take_of_length_le (by rw [saysT_length, hlen.out]; exact Nat.le_refl _)] at h1
            have h2 : ¬ ∀ x ∈ saysT ts2, stopF x = true := fun h => hm0 (h1.2 h)
            refine Classical.byContradiction fun h3 => h2 fun x hx1 => ?_
            cases hq : stopF x with
            | true => rfl
            | false => exact absurd ⟨x, hx1, hq⟩ h3
        rw [hseven] at HCC
        have fm : ((m : Int) == 0) = false := by rw [beq_eq_false_iff_ne]; omega
        clear hx hseven
        go_wp2_with fail
        refine HCL.out.mono ?_
        rintro e w5 ⟨rfl, c5, k5⟩
        go_wp2_with fail
        refine (HCC.out _ (hL.next (kp_trans kz k5)) c5).mono ?_
        rintro e w6 ⟨rfl, c6, b6⟩
        go_wp2_with fail
        go_ret
        have kk := kp_trans kz k5
        exact ⟨rfl, kk.trans (b6.below kz.size kk.size)⟩
where
  lexA_get {l : List UInt8} {x : List Tok} (h : (x, (0 : Int)) = lexA l) : lexF l = some x := by
    unfold lexA at h
    by_cases h2 : 200 < l.length
    · rw [if_pos h2] at h
      simp at h
    · rw [if_neg h2] at h
      cases hf : lexF l with
      | none => rw [hf] at h; simp at h
      | some y => rw [hf] at h; simp at h; rw [h]
end
end Go.Proofs.YtedfclknpebpaaaGreatDoor
