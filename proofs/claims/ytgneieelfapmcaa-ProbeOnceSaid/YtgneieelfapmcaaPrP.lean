/-
  A plan of probes, plain: Tick, Answer, Out, Due; what every plan keeps (no function of the program is named here).
-/
import Derived.Test.YtgneieelfapmcaaRowN
namespace Go.Proofs.Ytgneieelfapmcaa
open Go.RowKit
set_option maxRecDepth 100000

/-- a node: when it is due; its probe that is out; when it was asked -/
structure Nw where
  d : Int
  o : Int
  a : Int
deriving DecidableEq
instance : Inhabited Nw := ⟨⟨0, 0, 0⟩⟩
structure Pb where
  l : List Nw
  ev : Int
  la : Int
  last : Int
/-- a probe of it is late -/
def lateB (la now : Int) (x : Nw) : Bool := decide (x.o ≠ 0 ∧ x.a + la ≤ now)
def dropN (la now : Int) (x : Nw) : Nw := bif lateB la now x then { x with o := 0 } else x
def lateF (la now : Int) : Nat → List Nw → List Int
  | _, [] => []
  | j, x :: r => if lateB la now x = true then (j : Int) :: lateF la now (j + 1) r else lateF la now (j + 1) r
/-- it is asked -/
def askB (now : Int) (x : Nw) : Bool := decide (x.d ≤ now ∧ x.o = 0)
def askF (now : Int) : Int → Nat → List Nw → List (Int × Int)
  | _, _, [] => []
  | n, j, x :: r => if askB now x = true then ((j : Int), n + 1) :: askF now (n + 1) (j + 1) r else askF now n (j + 1) r
def runF (ev now : Int) : Int → List Nw → List Nw
  | _, [] => []
  | n, x :: r => if askB now x = true then ⟨now + ev, n + 1, now⟩ :: runF ev now (n + 1) r else x :: runF ev now n r
def cntF (now : Int) (l : List Nw) : Int := (l.filter (askB now)).length
def tickA (p : Pb) (now : Int) : List (Int × Int) := askF now p.last 0 (p.l.map (dropN p.la now))
def tickL (p : Pb) (now : Int) : List Int := lateF p.la now 0 p.l
def tickC (p : Pb) (now : Int) : Pb := { p with l := runF p.ev now p.last (p.l.map (dropN p.la now)), last := p.last + cntF now (p.l.map (dropN p.la now)) }
def outP (p : Pb) (i : Int) : Int := if 0 ≤ i ∧ i < p.l.length then (p.l.getD i.toNat default).o else 0
def dueP (p : Pb) (i : Int) : Int := if 0 ≤ i ∧ i < p.l.length then (p.l.getD i.toNat default).d else 0
def ansB (p : Pb) (i n : Int) : Bool := decide (n ≠ 0 ∧ outP p i = n)
def ansC (p : Pb) (i n : Int) : Pb := bif ansB p i n then { p with l := p.l.modify i.toNat fun x => { x with o := 0 } } else p
def newOk13 (n ev la : Int) : Prop := 1 ≤ n ∧ n ≤ 6 ∧ 1 ≤ ev ∧ ev ≤ 1000 ∧ 1 ≤ la ∧ la ≤ 1000
instance (n ev la : Int) : Decidable (newOk13 n ev la) := by unfold newOk13; infer_instance
def newPb (n ev la : Int) : Pb := ⟨(List.range n.toNat).map fun (j : Nat) => ⟨j, 0, 0⟩, ev, la, 0⟩

/-- how a node may be: never asked, or asked at a time, and due so long behind it -/
structure NwI (ev t last : Int) (j : Nat) (x : Nw) : Prop where
  o0 : 0 ≤ x.o
  ol : x.o ≤ last
  a0 : 0 ≤ x.a
  at_ : x.a ≤ t
  d : (x.d = j ∧ x.a = 0 ∧ x.o = 0) ∨ x.d = x.a + ev
/-- a plan whose last Tick was no later than t, of so many acts -/
structure PrI (t : Int) (k : Nat) (p : Pb) : Prop where
  len : p.l.length ≤ 6
  pos : 1 ≤ p.l.length
  ev1 : 1 ≤ p.ev
  evm : p.ev ≤ 1000
  la1 : 1 ≤ p.la
  lam : p.la ≤ 1000
  n0 : 0 ≤ p.last
  nm : p.last ≤ 6 * k
  t0 : 0 ≤ t
  at_ : ∀ (j : Nat) (h : j < p.l.length), NwI p.ev t p.last j p.l[j]
  one : ∀ (i j : Nat) (hi : i < p.l.length) (hj : j < p.l.length), p.l[i].o ≠ 0 → p.l[i].o = p.l[j].o → i = j
theorem PrI.new {n ev la : Int} (h : newOk13 n ev la) : PrI 0 0 (newPb n ev la) := by
  obtain ⟨h1, h2, h3, h4, h5, h6⟩ := h
  refine ⟨by simp [newPb]; omega, by simp [newPb]; omega, h3, h4, h5, h6, by simp [newPb], by simp [newPb], Int.le_refl _, fun j hj => ?_, fun i j hi hj hn => ?_⟩
  · have : (newPb n ev la).l[j] = ⟨j, 0, 0⟩ := by simp [newPb]
    rw [this]
    exact ⟨Int.le_refl _, Int.le_refl _, Int.le_refl _, Int.le_refl _, .inl ⟨rfl, rfl, rfl⟩⟩
  · exfalso
    apply hn
    simp [newPb]
theorem PrI.later {t t' : Int} {k : Nat} {p : Pb} (h : PrI t k p) (ht : t ≤ t') : PrI t' k p :=
  { h with t0 := by have := h.t0; omega, at_ := fun j hj => { h.at_ j hj with at_ := by have := (h.at_ j hj).at_; omega } }
theorem PrI.more {t : Int} {k k' : Nat} {p : Pb} (h : PrI t k p) (hk : k ≤ k') : PrI t k' p := { h with nm := by have := h.nm; omega }
theorem runF_length (ev now : Int) : ∀ (n : Int) (l : List Nw), (runF ev now n l).length = l.length
  | _, [] => rfl
  | n, x :: r => by
    unfold runF
    split <;> simp [runF_length ev now _ r]
theorem cntF_cons (now : Int) (x : Nw) (r : List Nw) : cntF now (x :: r) = (if askB now x = true then 1 else 0) + cntF now r := by
  unfold cntF
  rw [List.filter_cons]
  split
  · simp; omega
  · simp
theorem cntF_nonneg (now : Int) (l : List Nw) : 0 ≤ cntF now l := by unfold cntF; omega
theorem cntF_le (now : Int) (l : List Nw) : cntF now l ≤ l.length := by
  unfold cntF
  have := List.length_filter_le (askB now) l
  omega
/-- what a node is, behind the asking: as it was, or asked now, its probe a new one -/
theorem runF_at (ev now : Int) : ∀ (n : Int) (l : List Nw) (j : Nat) (h : j < l.length),
    (askB now l[j] = false ∧ (runF ev now n l)[j]'(by rw [runF_length]; exact h) = l[j]) ∨ (askB now l[j] = true ∧ (runF ev now n l)[j]'(by rw [runF_length]; exact h) = ⟨now + ev, n + cntF now (l.take (j + 1)), now⟩)
  | _, [], j, h => by simp at h
  | n, x :: r, 0, _ => by
    by_cases hx : askB now x = true
    · refine .inr ⟨hx, ?_⟩
      simp only [List.take_succ_cons, List.take_zero, cntF_cons, if_pos hx]
      simp [runF, hx, cntF]
    · refine .inl ⟨by simpa using hx, ?_⟩
      simp [runF, hx]
  | n, x :: r, j + 1, h => by
    have hr : j < r.length := by simpa using h
    by_cases hx : askB now x = true
    · have := runF_at ev now (n + 1) r j hr
      simp only [List.getElem_cons_succ, List.take_succ_cons, cntF_cons, if_pos hx]
      simp only [runF, hx, if_true, List.getElem_cons_succ]
      rcases this with h1 | ⟨h1, h2⟩
      · exact .inl h1
      · refine .inr ⟨h1, ?_⟩
        rw [h2]
        congr 1
        omega
    · have := runF_at ev now n r j hr
      simp only [List.getElem_cons_succ, List.take_succ_cons, cntF_cons, if_neg hx]
      simp only [runF, hx]
      rcases this with h1 | ⟨h1, h2⟩
      · exact .inl h1
      · refine .inr ⟨h1, ?_⟩
        simpa using h2
theorem dropN_at {la now : Int} {l : List Nw} {j : Nat} (h : j < l.length) : (l.map (dropN la now))[j]'(by simpa using h) = dropN la now l[j] := by simp
theorem dropN_d (la now : Int) (x : Nw) : (dropN la now x).d = x.d ∧ (dropN la now x).a = x.a ∧ ((dropN la now x).o = x.o ∨ (dropN la now x).o = 0) := by
  unfold dropN
  cases lateB la now x with
  | false => exact ⟨rfl, rfl, .inl rfl⟩
  | true => exact ⟨rfl, rfl, .inr rfl⟩
theorem cntF_take {now : Int} {l : List Nw} {i j : Nat} (hij : i < j) (hj : j < l.length) (ha : askB now l[j] = true) : cntF now (l.take (i + 1)) < cntF now (l.take (j + 1)) := by
  have e : l.take (j + 1) = l.take (i + 1) ++ (l.drop (i + 1)).take (j - i) := by
    have := List.take_append_drop (i + 1) (l.take (j + 1))
    rw [← this, List.take_take, Nat.min_eq_left (by omega), List.drop_take]
    congr 2
    omega
  have hm : l[j] ∈ (l.drop (i + 1)).take (j - i) := by
    rw [List.mem_iff_getElem]
    refine ⟨j - (i + 1), by simp; omega, ?_⟩
    simp only [List.getElem_take, List.getElem_drop]
    congr 1
    omega
  rw [e]
  unfold cntF
  rw [List.filter_append, List.length_append]
  have hp : 0 < (((l.drop (i + 1)).take (j - i)).filter (askB now)).length := List.length_pos_of_mem (List.mem_filter.2 ⟨hm, ha⟩)
  omega
theorem cntF_take_le (now : Int) (l : List Nw) (j : Nat) : cntF now (l.take j) ≤ cntF now l := by
  have e := List.take_append_drop j l
  conv => rhs; rw [← e]
  unfold cntF
  rw [List.filter_append, List.length_append]
  omega
theorem cntF_take_pos {now : Int} {l : List Nw} {j : Nat} (hj : j < l.length) (ha : askB now l[j] = true) : 1 ≤ cntF now (l.take (j + 1)) := by
  unfold cntF
  have hm : l[j] ∈ l.take (j + 1) := by
    rw [List.mem_iff_getElem]
    exact ⟨j, by simp; omega, by simp⟩
  have : 0 < ((l.take (j + 1)).filter (askB now)).length := List.length_pos_of_mem (List.mem_filter.2 ⟨hm, ha⟩)
  omega
theorem PrI.tick {t now : Int} {k : Nat} {p : Pb} (h : PrI t k p) (ht : t ≤ now) : PrI now (k + 1) (tickC p now) := by
  obtain ⟨dl, hdl⟩ : ∃ d, p.l.map (dropN p.la now) = d := ⟨_, rfl⟩
  have hlen : dl.length = p.l.length := by rw [← hdl]; simp
  have hrl : (tickC p now).l.length = p.l.length := by
    show (runF _ _ _ _).length = _
    rw [runF_length, hdl, hlen]
  have hle := cntF_le now dl
  have hn0 := cntF_nonneg now dl
  have hlast : (tickC p now).last = p.last + cntF now dl := by show p.last + cntF now _ = _; rw [hdl]
  have h1 := h.n0
  have h2 := h.nm
  have h3 := h.len
  have hdj : ∀ (j : Nat) (hj : j < p.l.length), dl[j]'(by omega) = dropN p.la now p.l[j] := fun j hj => by simp [← hdl]
  have hat : ∀ (j : Nat) (hj : j < p.l.length), (askB now (dropN p.la now p.l[j]) = false ∧ (tickC p now).l[j]'(by omega) = dropN p.la now p.l[j]) ∨ (askB now (dropN p.la now p.l[j]) = true ∧ (tickC p now).l[j]'(by omega) = ⟨now + p.ev, p.last + cntF now (dl.take (j + 1)), now⟩) := fun j hj => by
    have := runF_at p.ev now p.last dl j (by omega)
    rw [hdj j hj] at this
    have e : (tickC p now).l = runF p.ev now p.last dl := by show runF _ _ _ _ = _; rw [hdl]
    simpa only [e] using this
  refine ⟨by omega, by have := h.pos; omega, h.ev1, h.evm, h.la1, h.lam, by rw [hlast]; omega, by rw [hlast]; omega, by have := h.t0; omega, fun j hj => ?_, fun i j hi hj hn he => ?_⟩
  · have hj' : j < p.l.length := by omega
    obtain ⟨i1, i2, i3, i4, i5⟩ := h.at_ j hj'
    obtain ⟨g1, g2, g3⟩ := dropN_d p.la now p.l[j]
    rw [hlast]
    show NwI p.ev now _ j _
    rcases hat j hj' with ⟨_, e⟩ | ⟨ea, e⟩
    · rw [e]
      refine ⟨by rcases g3 with g | g <;> omega, by rcases g3 with g | g <;> omega, by omega, by omega, ?_⟩
      rcases i5 with ⟨a, b, c⟩ | a
      · exact .inl ⟨by omega, by omega, by rcases g3 with g | g <;> omega⟩
      · exact .inr (by omega)
    · have hc := cntF_take_le now dl (j + 1)
      have hp := cntF_nonneg now (dl.take (j + 1))
      have ht0 := h.t0
      rw [e]
      exact ⟨by show 0 ≤ p.last + _; omega, by show p.last + _ ≤ _; omega, by show 0 ≤ now; omega, Int.le_refl _, .inr rfl⟩
  · have hi' : i < p.l.length := by omega
    have hj' : j < p.l.length := by omega
    have oi := (h.at_ i hi').ol
    have oj := (h.at_ j hj').ol
    obtain ⟨_, _, gi⟩ := dropN_d p.la now p.l[i]
    obtain ⟨_, _, gj⟩ := dropN_d p.la now p.l[j]
    rcases hat i hi' with ⟨_, e⟩ | ⟨ea, e⟩ <;> rcases hat j hj' with ⟨_, f⟩ | ⟨fa, f⟩
    · rw [e] at hn he
      rw [f] at he
      have e1 : p.l[i].o = p.l[j].o := by
        rcases gi with g | g
        · rcases gj with g' | g' <;> omega
        · omega
      exact h.one i j hi' hj' (by rcases gi with g | g <;> omega) e1
    · exfalso
      rw [e] at hn he
      rw [f] at he
      have hp := cntF_take_pos (l := dl) (j := j) (by omega) (by rw [hdj j hj']; exact fa)
      simp only at he
      rcases gi with g | g <;> omega
    · exfalso
      rw [e] at hn he
      rw [f] at he
      have hp := cntF_take_pos (l := dl) (j := i) (by omega) (by rw [hdj i hi']; exact ea)
      simp only at he
      rcases gj with g | g <;> omega
    · rw [e] at he
      rw [f] at he
      simp only at he
      rcases Nat.lt_trichotomy i j with hh | hh | hh
      · have := cntF_take (now := now) (l := dl) hh (by omega) (by rw [hdj j hj']; exact fa)
        omega
      · exact hh
      · have := cntF_take (now := now) (l := dl) hh (by omega) (by rw [hdj i hi']; exact ea)
        omega
theorem PrI.ans {t : Int} {k : Nat} {p : Pb} (h : PrI t k p) (i n : Int) : PrI t k (ansC p i n) := by
  unfold ansC
  cases ansB p i n with
  | false => exact h
  | true =>
    have hl : (p.l.modify i.toNat fun x => { x with o := 0 }).length = p.l.length := List.length_modify _ _ _
    have hat : ∀ (j : Nat) (hj : j < p.l.length), (p.l.modify i.toNat fun x => { x with o := 0 })[j]'(by omega) = if i.toNat = j then { p.l[j] with o := 0 } else p.l[j] := fun j hj => by rw [List.getElem_modify]
    refine ⟨Nat.le_trans (Nat.le_of_eq hl) h.len, Nat.le_trans h.pos (Nat.le_of_eq hl.symm), h.ev1, h.evm, h.la1, h.lam, h.n0, h.nm, h.t0, fun j hj => ?_, fun a b ha hb hn he => ?_⟩
    · have hj' : j < p.l.length := by rw [← hl]; exact hj
      obtain ⟨i1, i2, i3, i4, i5⟩ := h.at_ j hj'
      have e := hat j hj'
      show NwI p.ev t p.last j ((p.l.modify i.toNat fun x => { x with o := 0 })[j]'hj)
      rw [e]
      have := h.n0
      split
      · refine ⟨Int.le_refl _, this, i3, i4, ?_⟩
        rcases i5 with ⟨a, b, _⟩ | a
        · exact .inl ⟨a, b, rfl⟩
        · exact .inr a
      · exact ⟨i1, i2, i3, i4, i5⟩
    · have ha' : a < p.l.length := by rw [← hl]; exact ha
      have hb' : b < p.l.length := by rw [← hl]; exact hb
      have ea := hat a ha'
      have eb := hat b hb'
      have hn' : (p.l.modify i.toNat fun x => { x with o := 0 })[a].o ≠ 0 := hn
      have he' : (p.l.modify i.toNat fun x => { x with o := 0 })[a].o = (p.l.modify i.toNat fun x => { x with o := 0 })[b].o := he
      rw [ea] at hn' he'
      rw [eb] at he'
      split at hn'
      · exact absurd rfl hn'
      · rename_i h1
        rw [if_neg h1] at he'
        split at he'
        · exact absurd he' hn'
        · exact h.one a b ha' hb' hn' he'
end Go.Proofs.Ytgneieelfapmcaa
