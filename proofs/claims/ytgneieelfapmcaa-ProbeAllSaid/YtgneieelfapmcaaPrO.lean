/-
  A plan of probes, plain: how many are out; who is asked, one by one; when each was asked.
-/
import Derived.Test.YtgneieelfapmcaaPrQ
namespace Go.Proofs.Ytgneieelfapmcaa
open Go.RowKit
set_option maxRecDepth 100000

/-- how many are out -/
def cntO (l : List Nw) : Int := (l.filter fun x => x.o != 0).length
theorem cntO_cons (x : Nw) (r : List Nw) : cntO (x :: r) = (if x.o = 0 then 0 else 1) + cntO r := by
  unfold cntO
  rw [List.filter_cons]
  by_cases h : x.o = 0
  · simp [h]
  · simp [h]; omega
theorem cntO_nonneg (l : List Nw) : 0 ≤ cntO l := by unfold cntO; omega
theorem cntO_le (l : List Nw) : cntO l ≤ l.length := by
  unfold cntO
  have := List.length_filter_le (fun x : Nw => x.o != 0) l
  omega
theorem cntO_drop (la now : Int) : ∀ (b : Nat) (l : List Nw), cntO (l.map (dropN la now)) = cntO l - (lateF la now b l).length
  | _, [] => rfl
  | b, x :: r => by
    have h := cntO_drop la now (b + 1) r
    rw [List.map_cons, cntO_cons, cntO_cons]
    unfold lateF
    cases hl : lateB la now x with
    | false =>
      have hd : dropN la now x = x := by unfold dropN; rw [hl]; rfl
      rw [hd, if_neg (show ¬ (false = true) by simp)]
      omega
    | true =>
      have hd : (dropN la now x).o = 0 := by unfold dropN; rw [hl]; rfl
      have ho := (of_decide_eq_true hl).1
      rw [if_pos rfl, if_pos hd, if_neg ho, List.length_cons]
      omega
theorem cntO_run (ev now : Int) : ∀ (n : Int) (l : List Nw), 0 ≤ n → cntO (runF ev now n l) = cntO l + cntF now l
  | _, [], _ => rfl
  | n, x :: r, hn => by
    rw [cntO_cons, cntF_cons]
    unfold runF
    by_cases h : askB now x = true
    · have := cntO_run ev now (n + 1) r (by omega)
      have ho := (of_decide_eq_true h).2
      rw [if_pos h, if_pos h, if_pos ho, cntO_cons, if_neg (by simp only; omega), this]
      omega
    · have := cntO_run ev now n r hn
      rw [if_neg h, if_neg h, cntO_cons, this]
      omega
theorem cntO_tick {p : Pb} (now : Int) (h : 0 ≤ p.last) : cntO (tickC p now).l = cntO p.l - (tickL p now).length + (tickA p now).length := by
  show cntO (runF _ _ _ _) = _
  rw [cntO_run _ _ _ _ h, cntO_drop p.la now 0]
  unfold tickA tickL
  rw [askF_length]
theorem cntO_zero : ∀ (l : List Nw) (j : Nat) (hj : j < l.length), l[j].o ≠ 0 → cntO (l.modify j fun x => { x with o := 0 }) = cntO l - 1
  | x :: r, 0, _, h => by
    simp only [List.modify_zero_cons, cntO_cons]
    simp only [List.getElem_cons_zero] at h
    rw [if_pos trivial, if_neg h]
    omega
  | x :: r, j + 1, hj, h => by
    have := cntO_zero r j (by simpa using hj) (by simpa using h)
    simp only [List.modify_succ_cons, cntO_cons]
    omega
theorem cntO_ans (p : Pb) (i n : Int) : cntO (ansC p i n).l = cntO p.l - (bif ansB p i n then 1 else 0) := by
  unfold ansC
  cases h : ansB p i n with
  | false => simp
  | true =>
    obtain ⟨h1, h2⟩ := of_decide_eq_true h
    by_cases hi : 0 ≤ i ∧ i < p.l.length
    · have hj : i.toNat < p.l.length := by omega
      have ho : p.l[i.toNat].o ≠ 0 := by
        unfold outP at h2
        rw [if_pos hi, List.getD_eq_getElem?_getD, List.getElem?_eq_getElem hj] at h2
        simp only [Option.getD_some] at h2
        omega
      exact cntO_zero p.l i.toNat hj ho
    · exfalso
      unfold outP at h2
      rw [if_neg hi] at h2
      exact h1 h2.symm
/-- who is asked as this one -/
theorem askF_at (now : Int) : ∀ (n : Int) (b : Nat) (l : List Nw) (q : Nat) (hq : q < (askF now n b l).length), ∃ (j : Nat) (hj : j < l.length), (askF now n b l)[q] = (((b + j : Nat) : Int), n + q + 1) ∧ askB now l[j] = true ∧ cntF now (l.take j) = q
  | _, _, [], q, hq => by simp [askF] at hq
  | n, b, x :: r, q, hq => by
    by_cases h : askB now x = true
    · have e : askF now n b (x :: r) = ((b : Int), n + 1) :: askF now (n + 1) (b + 1) r := by rw [askF, if_pos h]
      simp only [e] at hq ⊢
      cases q with
      | zero => exact ⟨0, by simp, by simp, by simpa using h, rfl⟩
      | succ q =>
        obtain ⟨j, hj, h1, h2, h3⟩ := askF_at now (n + 1) (b + 1) r q (by simpa using hq)
        refine ⟨j + 1, by simpa using hj, ?_, by simpa using h2, ?_⟩
        · rw [List.getElem_cons_succ, h1]
          congr 1
          · congr 1; omega
          · rw [Int.natCast_add]; omega
        · rw [List.take_succ_cons, cntF_cons, if_pos h, h3, Int.natCast_add]
          omega
    · have e : askF now n b (x :: r) = askF now n (b + 1) r := by rw [askF, if_neg h]
      simp only [e] at hq ⊢
      obtain ⟨j, hj, h1, h2, h3⟩ := askF_at now n (b + 1) r q hq
      refine ⟨j + 1, by simpa using hj, ?_, by simpa using h2, ?_⟩
      · rw [h1]
        congr 2
        omega
      · rw [List.take_succ_cons, cntF_cons, if_neg h, h3]
        omega
theorem lateF_at (la now : Int) : ∀ (b : Nat) (l : List Nw) (q : Nat) (hq : q < (lateF la now b l).length), ∃ (j : Nat) (hj : j < l.length), (lateF la now b l)[q] = ((b + j : Nat) : Int) ∧ lateB la now l[j] = true
  | _, [], q, hq => by simp [lateF] at hq
  | b, x :: r, q, hq => by
    by_cases h : lateB la now x = true
    · have e : lateF la now b (x :: r) = (b : Int) :: lateF la now (b + 1) r := by rw [lateF, if_pos h]
      simp only [e] at hq ⊢
      cases q with
      | zero => exact ⟨0, by simp, by simp, by simpa using h⟩
      | succ q =>
        obtain ⟨j, hj, h1, h2⟩ := lateF_at la now (b + 1) r q (by simpa using hq)
        refine ⟨j + 1, by simpa using hj, ?_, by simpa using h2⟩
        rw [List.getElem_cons_succ, h1]
        congr 1
        omega
    · have e : lateF la now b (x :: r) = lateF la now (b + 1) r := by rw [lateF, if_neg h]
      simp only [e] at hq ⊢
      obtain ⟨j, hj, h1, h2⟩ := lateF_at la now (b + 1) r q hq
      refine ⟨j + 1, by simpa using hj, ?_, by simpa using h2⟩
      rw [h1]
      congr 1
      omega
theorem cntF_take_lt {now : Int} {l : List Nw} {i j : Nat} (hij : i < j) (hi : i < l.length) (ha : askB now l[i] = true) : cntF now (l.take i) < cntF now (l.take j) := by
  have h1 : cntF now (l.take (i + 1)) = cntF now (l.take i) + 1 := by
    rw [List.take_succ_eq_append_getElem hi, cntF_snoc, if_pos ha]
  have h2 := cntF_take_le now (l.take j) (i + 1)
  rw [List.take_take, Nat.min_eq_left (by omega)] at h2
  omega
/-- when each was asked, and 1, once so many of a Tick's are done -/
def askd (now : Int) (dl : List Nw) (q j : Nat) : Bool := decide (∃ h : j < dl.length, askB now dl[j] = true ∧ cntF now (dl.take j) < q)
def aqQ (now : Int) (dl : List Nw) (aq : List Int) (q : Nat) : List Int := (List.range aq.length).map fun j => if askd now dl q j = true then now + 1 else aq.getD j 0
theorem aqQ_length (now : Int) (dl : List Nw) (aq : List Int) (q : Nat) : (aqQ now dl aq q).length = aq.length := by simp [aqQ]
theorem aqQ_at {now : Int} {dl : List Nw} {aq : List Int} {q j : Nat} (hj : j < aq.length) : (aqQ now dl aq q)[j]'(by rw [aqQ_length]; exact hj) = if askd now dl q j = true then now + 1 else aq[j] := by
  simp [aqQ, List.getD_eq_getElem?_getD, hj]
theorem aqQ_zero (now : Int) (dl : List Nw) (aq : List Int) : aqQ now dl aq 0 = aq := by
  refine List.ext_getElem (aqQ_length _ _ _ _) fun j h1 h2 => ?_
  rw [aqQ_at h2, if_neg]
  intro h
  obtain ⟨_, _, h3⟩ := of_decide_eq_true h
  have := cntF_nonneg now (dl.take j)
  omega
theorem askd_next {now : Int} {dl : List Nw} {q j : Nat} (hj : j < dl.length) (ha : askB now dl[j] = true) (hc : cntF now (dl.take j) = q) (i : Nat) : askd now dl (q + 1) i = (decide (j = i) || askd now dl q i) := by
  unfold askd
  rw [Bool.eq_iff_iff, Bool.or_eq_true, decide_eq_true_iff, decide_eq_true_iff, decide_eq_true_iff]
  constructor
  · rintro ⟨h1, h2, h3⟩
    by_cases e : j = i
    · exact .inl e
    · refine .inr ⟨h1, h2, ?_⟩
      rw [Int.natCast_add] at h3
      rcases Nat.lt_or_ge i j with h | h
      · have := cntF_take_lt h h1 h2
        omega
      · have := cntF_take_lt (show j < i by omega) hj ha
        omega
  · rintro (rfl | ⟨h1, h2, h3⟩)
    · exact ⟨hj, ha, by rw [Int.natCast_add]; omega⟩
    · exact ⟨h1, h2, by rw [Int.natCast_add]; omega⟩
theorem aqQ_next {now : Int} {dl : List Nw} {aq : List Int} {q j : Nat} (hj : j < dl.length) (ha : askB now dl[j] = true) (hc : cntF now (dl.take j) = q) : aqQ now dl aq (q + 1) = (aqQ now dl aq q).set j (now + 1) := by
  refine List.ext_getElem (by simp [aqQ]) fun i h1 h2 => ?_
  have hi : i < aq.length := by rwa [aqQ_length] at h1
  rw [aqQ_at hi, List.getElem_set, aqQ_at hi, askd_next hj ha hc]
  by_cases e : j = i
  · rw [if_pos e, if_pos (by simp [e])]
  · rw [if_neg e]
    simp [e]
theorem askd_not {now : Int} {dl : List Nw} {q j : Nat} (hc : cntF now (dl.take j) = q) : askd now dl q j = false := by
  unfold askd
  rw [decide_eq_false_iff_not]
  rintro ⟨_, _, h⟩
  omega
/-- when each was asked -/
structure AqI (now : Int) (p : Pb) (aq : List Int) : Prop where
  len : aq.length = 6
  lo : ∀ (j : Nat) (hj : j < aq.length), 0 ≤ aq[j] ∧ aq[j] ≤ now + 1
  at_ : ∀ (j : Nat) (hj : j < aq.length) (hl : j < p.l.length), (aq[j] ≠ 0 → p.l[j].d = aq[j] - 1 + p.ev) ∧ (p.l[j].o ≠ 0 → aq[j] ≠ 0)
theorem AqI.new (n ev la : Int) : AqI 0 (newPb n ev la) [0, 0, 0, 0, 0, 0] := by
  have h0 : ∀ (j : Nat) (hj : j < 6), ([0, 0, 0, 0, 0, 0] : List Int)[j] = 0 := fun j hj => by
    match j, hj with
    | 0, _ | 1, _ | 2, _ | 3, _ | 4, _ | 5, _ => rfl
  refine ⟨rfl, fun j hj => by rw [h0 j hj]; omega, fun j hj hl => ⟨fun h => absurd (h0 j hj) h, fun h => ?_⟩⟩
  exfalso
  apply h
  simp [newPb]
theorem AqI.later {t t' : Int} {p : Pb} {aq : List Int} (h : AqI t p aq) (ht : t ≤ t') : AqI t' p aq := { h with lo := fun j hj => by have := h.lo j hj; omega }
theorem AqI.ans {t : Int} {p : Pb} {aq : List Int} (h : AqI t p aq) (i n : Int) : AqI t (ansC p i n) aq := by
  unfold ansC
  cases ansB p i n with
  | false => exact h
  | true =>
    refine { h with at_ := fun j hj hl => ?_ }
    have hl' : j < p.l.length := by simpa using hl
    obtain ⟨h1, h2⟩ := h.at_ j hj hl'
    simp only [cond_true, List.getElem_modify]
    refine ⟨fun ha => ?_, fun ho => h2 ?_⟩
    · have := h1 ha
      split <;> exact this
    · split at ho
      · exact absurd rfl ho
      · exact ho
theorem AqI.tick {t now : Int} {k : Nat} {p : Pb} {aq : List Int} (h : AqI t p aq) (hp : PrI t k p) (ht : t ≤ now) : AqI now (tickC p now) (aqQ now (p.l.map (dropN p.la now)) aq (tickA p now).length) := by
  obtain ⟨dl, hdl⟩ : ∃ d, p.l.map (dropN p.la now) = d := ⟨_, rfl⟩
  have hlen : dl.length = p.l.length := by rw [← hdl]; simp
  have ht0 := hp.t0
  have hta : ((tickA p now).length : Int) = cntF now dl := by unfold tickA; rw [askF_length, hdl]
  rw [hdl]
  refine ⟨by rw [aqQ_length]; exact h.len, fun j hj => ?_, fun j hj hl => ?_⟩
  · have hj' : j < aq.length := by rwa [aqQ_length] at hj
    rw [aqQ_at hj']
    have := h.lo j hj'
    split <;> omega
  · have hj' : j < aq.length := by rwa [aqQ_length] at hj
    have hl' : j < p.l.length := by
      have : (tickC p now).l.length = p.l.length := by show (runF _ _ _ _).length = _; rw [runF_length]; simp
      omega
    obtain ⟨h1, h2⟩ := h.at_ j hj' hl'
    have e : (tickC p now).l = runF p.ev now p.last dl := by show runF _ _ _ _ = _; rw [hdl]
    have hdj : dl[j]'(by omega) = dropN p.la now p.l[j] := by simp [← hdl]
    obtain ⟨g1, g2, g3⟩ := dropN_d p.la now p.l[j]
    have hr := runF_at p.ev now p.last dl j (by omega)
    simp only [e]
    rw [aqQ_at hj']
    rcases hr with ⟨ha, hr⟩ | ⟨ha, hr⟩
    · have hno : askd now dl (tickA p now).length j = false := by
        unfold askd
        rw [decide_eq_false_iff_not]
        rintro ⟨_, h3, _⟩
        rw [ha] at h3
        cases h3
      rw [hno, if_neg (by simp), hr, hdj]
      exact ⟨fun h3 => by rw [g1]; exact h1 h3, fun h3 => h2 fun h4 => h3 (by rcases g3 with g | g <;> omega)⟩
    · have hyes : askd now dl (tickA p now).length j = true := by
        unfold askd
        rw [decide_eq_true_iff]
        refine ⟨by omega, ha, ?_⟩
        have h3 := cntF_take_lt (l := dl) (now := now) (show j < dl.length by omega) (by omega) ha
        rw [List.take_of_length_le (Nat.le_refl _)] at h3
        omega
      rw [hyes, if_pos rfl, hr]
      refine ⟨fun _ => ?_, fun _ => by omega⟩
      show now + p.ev = now + 1 - 1 + p.ev
      omega
/-- a step of who is asked is as it must be -/
theorem ask_fits {t now : Int} {k : Nat} {p : Pb} {aq : List Int} (h : AqI t p aq) (hp : PrI t k p) (q : Nat) (hq : q < (tickA p now).length) : ∃ (j : Nat), j < p.l.length ∧ (tickA p now)[q] = ((j : Int), p.last + q + 1) ∧ j < 6 ∧ aqQ now (p.l.map (dropN p.la now)) aq (q + 1) = (aqQ now (p.l.map (dropN p.la now)) aq q).set j (now + 1) ∧
    (∀ (hj : j < aq.length), (aqQ now (p.l.map (dropN p.la now)) aq q)[j]'(by rw [aqQ_length]; exact hj) = aq[j] ∧ (aq[j] ≠ 0 → p.ev ≤ now - (aq[j] - 1))) := by
  obtain ⟨j, hj, h1, h2, h3⟩ := askF_at now p.last 0 (p.l.map (dropN p.la now)) q hq
  have hjl : j < p.l.length := by simpa using hj
  have hl6 := hp.len
  refine ⟨j, hjl, by unfold tickA; rw [h1]; simp, by omega, aqQ_next hj h2 h3, fun hja => ?_⟩
  have hno := askd_not (now := now) (dl := p.l.map (dropN p.la now)) (j := j) h3
  rw [aqQ_at hja, hno, if_neg (by simp)]
  refine ⟨rfl, fun ha => ?_⟩
  have hd := (h.at_ j hja hjl).1 ha
  rw [dropN_at hjl] at h2
  have := (of_decide_eq_true h2).1
  rw [(dropN_d p.la now p.l[j]).1] at this
  omega
theorem late_fits {t now : Int} {k : Nat} {p : Pb} {aq : List Int} (h : AqI t p aq) (hp : PrI t k p) (hn : 0 ≤ now) (q : Nat) (hq : q < (tickL p now).length) (n : Nat) : ∃ (j : Nat), j < p.l.length ∧ (tickL p now)[q] = (j : Int) ∧ j < 6 ∧ ∀ (hj : j < aq.length), (aqQ now (p.l.map (dropN p.la now)) aq n)[j]'(by rw [aqQ_length]; exact hj) ≠ 0 := by
  obtain ⟨j, hj, h1, h2⟩ := lateF_at p.la now 0 p.l q hq
  have hl6 := hp.len
  refine ⟨j, hj, by unfold tickL; rw [h1]; simp, by omega, fun hja => ?_⟩
  have ho := (of_decide_eq_true h2).1
  have := (h.at_ j hja hj).2 ho
  rw [aqQ_at hja]
  split
  · omega
  · exact this
end Go.Proofs.Ytgneieelfapmcaa
