/-
  Contracts and plain functions that the law stands on, part 2 of 5.
-/
import Derived.Test.YtaimmdhjfccnkaaDoorQ1
import Derived.Shelf.Strings.Replace
import Derived.Shelf.Strings.MapGrows
import Derived.BigQuiet
import Derived.KernelRfl
import Derived.Lib.Case
import Derived.Lib.MapLaws
namespace Go.Proofs.YtaimmdhjfccnkaaDoor
/- What is written of tokens, by package lex: contracts. -/
section
open Go.RowKit
set_option maxRecDepth 100000

/-- a text with each byte q twice -/
def twiceF (q : UInt8) : List UInt8 → List UInt8
  | [] => []
  | b :: r => if b = q then q :: q :: twiceF q r else b :: twiceF q r

theorem twiceF_length (q : UInt8) : ∀ l, (twiceF q l).length ≤ 2 * l.length
  | [] => by simp [twiceF]
  | b :: r => by
    have := twiceF_length q r
    unfold twiceF
    split <;> simp <;> omega
theorem twiceF_take (q : UInt8) : ∀ (l : List UInt8) (k : Nat), (∀ j (h : j < l.length), j < k → l[j] ≠ q) → k ≤ l.length → twiceF q l = l.take k ++ twiceF q (l.drop k)
  | l, 0, _, _ => by simp
  | [], k + 1, _, h => by simp at h
  | b :: r, k + 1, h, hk => by
    have h0 : b ≠ q := h 0 (by simp) (by omega)
    have := twiceF_take q r k (fun j hj hjk => h (j + 1) (by simpa using hj) (by omega)) (by simpa using hk)
    rw [twiceF, if_neg h0, this]
    simp

theorem index_one (l : List UInt8) (q : UInt8) : (Lib.index l [q] = -1 ∧ (∀ b ∈ l, b ≠ q)) ∨ ∃ i : Nat, ∃ h : i < l.length, Lib.index l [q] = i ∧ l[i] = q ∧ ∀ j (hj : j < l.length), j < i → l[j] ≠ q := by
  induction l with
  | nil => exact .inl ⟨rfl, fun b h => by simp at h⟩
  | cons b r ih =>
    by_cases hb : b = q
    · subst hb
      refine .inr ⟨0, by simp, ?_, rfl, fun j _ hj => by omega⟩
      unfold Lib.index
      rw [if_pos (by simp)]
      rfl
    · have hp : [q].isPrefixOf (b :: r) = false := by
        rw [List.isPrefixOf]
        simp
        exact fun h => hb h.symm
      rcases ih with ⟨h1, h2⟩ | ⟨i, hi, h1, h2, h3⟩
      · refine .inl ⟨?_, fun c hc => ?_⟩
        · unfold Lib.index
          rw [hp, h1]
          rfl
        · rcases List.mem_cons.1 hc with rfl | hc
          · exact hb
          · exact h2 c hc
      · refine .inr ⟨i + 1, by simpa using hi, ?_, by simpa using h2, fun j hj hji => ?_⟩
        · unfold Lib.index
          rw [hp, h1]
          have : ((i : Int) == -1) = false := by rw [beq_eq_false_iff_ne]; omega
          simp [this]
        · cases j with
          | zero => exact hb
          | succ j => exact h3 j (by simpa using hj) (by omega)

theorem replaceK_none (q : UInt8) (k : Nat) (l : List UInt8) (h : Lib.index l [q] = -1) : Lib.replaceK [q] [q, q] k l = l := by
  cases k with
  | zero => rfl
  | succ k => rw [Lib.replaceK, if_pos (beq_iff_eq.2 h)]
theorem replaceK_twice (q : UInt8) : ∀ (n : Nat) (l : List UInt8) (k : Nat), l.length ≤ n → Lib.count l [q] ≤ k → Lib.replaceK [q] [q, q] k l = twiceF q l := by
  intro n
  induction n with
  | zero =>
    intro l k hl _
    obtain rfl : l = [] := List.eq_nil_of_length_eq_zero (by omega)
    rw [replaceK_none q k [] rfl]
    rfl
  | succ n ih =>
    intro l k hl hc
    rcases index_one l q with ⟨h1, h2⟩ | ⟨i, hi, h1, h2, h3⟩
    · rw [replaceK_none q k l h1, twiceF_take q l l.length (fun j hj _ => h2 _ (List.getElem_mem hj)) (Nat.le_refl _)]
      simp [twiceF]
    · rw [Lib.count_hit (by simp) h1] at hc
      obtain ⟨k', rfl⟩ : ∃ k', k = k' + 1 := ⟨k - 1, by omega⟩
      rw [Lib.replaceK_hit _ _ _ _ _ h1, ih (l.drop (i + [q].length)) k' (by rw [List.length_drop]; simp; omega) (by omega)]
      rw [twiceF_take q l i h3 (by omega), List.drop_eq_getElem_cons hi, h2]
      simp [twiceF]
theorem replaceAll_twice (q : UInt8) (l : List UInt8) : Lib.replaceAll l [q] [q, q] = twiceF q l := by
  unfold Lib.replaceAll Lib.replace
  rw [if_neg (by simp)]
  unfold Lib.replaceNum
  rw [if_pos (.inl (by decide))]
  exact replaceK_twice q l.length l _ (Nat.le_refl _) (Nat.le_refl _)

theorem twice_s (q : UInt8) (s old new : ByteArray) (w : World) (hL : Lw w) (hs : s.size ≤ 1000000) (ho : old.data.toList = [q]) (hn : new.data.toList = [q, q]) :
    Calls Tryd.prog 16 #[.string s, .string old, .string new] w fun e w' => ∃ r : ByteArray, e = .returned (.string r) ∧ r.data.toList = twiceF q s.data.toList ∧ Below w.heap.size w w' := by
  obtain ⟨m, hm⟩ := hL
  have o1 : old.size = 1 := by rw [← text_len, ho]; rfl
  have n2 : new.size = 2 := by rw [← text_len, hn]; rfl
  have hc := Lib.countB_mul_le old (by omega) s.size s (Nat.le_refl _)
  rw [o1, Nat.mul_one] at hc
  refine (Tryd.strings_ReplaceAll s old new m w (by omega) hm (by omega) (by rw [n2]; omega)).mono fun e w' ⟨he, hb⟩ => ⟨_, he, ?_, hb⟩
  rw [ho, hn, replaceAll_twice]

theorem text_add (a b : ByteArray) : (a ++ b).data.toList = a.data.toList ++ b.data.toList := by simp

def quoteF (q : UInt8) (l : List UInt8) : List UInt8 := q :: twiceF q l ++ [q]

set_option maxHeartbeats 400000 in
theorem quote_ok (q : UInt8) (s mark : ByteArray) (hq : mark.data.toList = [q]) (w : World) (hL : Lw w) (hs : s.size ≤ 1000000) :
    Calls Tryd.prog 85 #[.string s, .string mark] w fun e w' => ∃ r : ByteArray, e = .returned (.string r) ∧ r.data.toList = quoteF q s.data.toList ∧ Below w.heap.size w w' := by
  have hms : mark.size = 1 := by rw [← text_len, hq]; rfl
  go_enter Tryd.func85, Tryd.ntmps85
  go_wp2_with fail
  refine (twice_s q s mark (mark ++ mark) w hL hs hq (by rw [text_add, hq]; rfl)).mono ?_
  rintro e w1 ⟨r, rfl, hr, k1⟩
  have hrs : r.size ≤ 2000000 := by
    have h1 := twiceF_length q s.data.toList
    have h2 := text_len s
    have h3 := text_len r
    rw [hr] at h3
    omega
  have hms2 : (mark ++ r).size ≤ 2000001 := by rw [ByteArray.size_append]; omega
  go_wp2_with fail
  go_ret
  exact ⟨_, rfl, by rw [text_add, text_add, hr, hq]; rfl, k1⟩

def writtenF (k : Int) (l : List UInt8) : List UInt8 :=
  if k = 1 ∨ k = 4 ∨ k = 6 then l
  else if k = 2 then quoteF 34 l
  else if k = 3 then quoteF 39 l
  else if k = 5 then [47, 42, 43, 32] ++ l ++ [32] ++ [42, 47]
  else []
theorem writtenF_length (k : Int) (l : List UInt8) : (writtenF k l).length ≤ 2 * l.length + 7 := by
  have h1 := twiceF_length 34 l
  have h2 := twiceF_length 39 l
  unfold writtenF quoteF
  split
  · omega
  split
  · simp; omega
  split
  · simp; omega
  split
  · simp; omega
  · simp

set_option maxHeartbeats 1000000 in
theorem written_ok (k : Int) (s : ByteArray) (w : World) (hL : Lw w) (hs : s.size ≤ 1000000) :
    Calls Tryd.prog 72 #[.agg #[.int .i64 k, .string s]] w fun e w' => ∃ r : ByteArray, e = .returned (.string r) ∧ r.data.toList = writtenF k s.data.toList ∧ Below w.heap.size w w' := by
  have kw := kp_new w (.cells #[.int .i64 k, .string s] 89)
  have hL1 := hL.next kw
  by_cases h1 : k = 1 ∨ k = 4 ∨ k = 6
  · have hF : writtenF k s.data.toList = s.data.toList := by unfold writtenF; rw [if_pos h1]
    have HF := Lib.hid hF
    clear hF
    rcases h1 with rfl | rfl | rfl
    all_goals
      go_enter Tryd.func72, Tryd.ntmps72
      go_wp2_with fail
      go_ret
      exact ⟨s, rfl, HF.out.symm, kw⟩
  by_cases h2 : k = 2
  · subst h2
    have hQ := Lib.hid (quote_ok 34 s ⟨#[34]⟩ rfl _ hL1 hs)
    go_enter Tryd.func72, Tryd.ntmps72
    go_wp2_with fail
    refine hQ.out.mono ?_
    rintro e w1 ⟨r, rfl, hr, k1⟩
    go_wp2_with fail
    go_ret
    exact ⟨r, rfl, hr, kp_trans kw k1⟩
  by_cases h3 : k = 3
  · subst h3
    have hQ := Lib.hid (quote_ok 39 s ⟨#[39]⟩ rfl _ hL1 hs)
    go_enter Tryd.func72, Tryd.ntmps72
    go_wp2_with fail
    refine hQ.out.mono ?_
    rintro e w1 ⟨r, rfl, hr, k1⟩
    go_wp2_with fail
    go_ret
    exact ⟨r, rfl, hr, kp_trans kw k1⟩
  by_cases h5 : k = 5
  · subst h5
    have z1 : (⟨#[47, 42, 43, 32]⟩ ++ s : ByteArray).size ≤ 1000004 := by rw [ByteArray.size_append]; have : (⟨#[47, 42, 43, 32]⟩ : ByteArray).size = 4 := rfl; omega
    have z2 : (⟨#[47, 42, 43, 32]⟩ ++ s ++ ⟨#[32]⟩ : ByteArray).size ≤ 1000005 := by rw [ByteArray.size_append]; have : (⟨#[32]⟩ : ByteArray).size = 1 := rfl; omega
    have z3 : (⟨#[47, 42, 43, 32]⟩ : ByteArray).size = 4 := rfl
    have z4 : (⟨#[32]⟩ : ByteArray).size = 1 := rfl
    have z5 : (⟨#[42, 47]⟩ : ByteArray).size = 2 := rfl
    go_enter Tryd.func72, Tryd.ntmps72
    go_wp2_with fail
    go_ret
    exact ⟨_, rfl, by rw [text_add, text_add, text_add]; rfl, kw⟩
  · have hF : writtenF k s.data.toList = [] := by unfold writtenF; rw [if_neg h1, if_neg h2, if_neg h3, if_neg h5]
    have HF := Lib.hid hF
    have e1 : (k == 1) = false := by simp only [beq_eq_false_iff_ne, ne_eq]; omega
    have e2 : (k == 2) = false := by simp only [beq_eq_false_iff_ne, ne_eq]; omega
    have e3 : (k == 3) = false := by simp only [beq_eq_false_iff_ne, ne_eq]; omega
    have e4 : (k == 4) = false := by simp only [beq_eq_false_iff_ne, ne_eq]; omega
    have e5 : (k == 5) = false := by simp only [beq_eq_false_iff_ne, ne_eq]; omega
    have e6 : (k == 6) = false := by simp only [beq_eq_false_iff_ne, ne_eq]; omega
    clear hF h1 h2 h3 h5
    go_enter Tryd.func72, Tryd.ntmps72
    go_wp2_with fail
    go_ret
    exact ⟨⟨#[]⟩, rfl, HF.out.symm, kw⟩
end

/- The document's layer 4: what stands between quotes, words, texts with quotes twice: contracts. -/
section
open Go.RowKit
set_option maxRecDepth 100000

theorem byteinfo : (Tryd.prog.info? 5).map (fun i => (i.zero, i.size, i.bytes)) = some (some (.int .u8 0), 1, 1) := by kernel_rfl
theorem Ow.push {w : World} {base : Nat} {v : Value} {n : Nat} {bs : List UInt8} {b : UInt8} (h : w.ownsRow base 5 1 v (n + 1) (bvs bs ++ [.int .u8 (b.toNat : Int)])) : ∃ A c, v = .slice A (n + 1) c ∧ Ow w base A (n + 1) c (bs ++ [b]) := by
  rw [show [Value.int .u8 (b.toNat : Int)] = bvs [b] from rfl, ← bvs_append] at h
  exact Ow.mk' h
theorem Ow.empty (w : World) : Ow (w.alloc (.cells #[] 5)) w.heap.size (some ⟨w.heap.size, 0, none⟩) 0 0 [] := by
  have := Ow.new w w.heap.size (Nat.le_refl _) [] (by simp)
  exact this
theorem Ow.text {w : World} {base : Nat} {A : Option Addr} {l c : Nat} {bs : List UInt8} (h : Ow w base A l c bs) : (convert 73 9 (.slice A l c)).run Tryd.prog w = .ok (.string ⟨bs.toArray⟩) w :=
  run_text (P := Tryd.prog) h.sl 73 9 5 Tryd.underlying73 Tryd.underlying5 Tryd.underlying9

theorem twiceF_next (q : UInt8) (l : List UInt8) (k : Nat) (h : k < l.length) : twiceF q (l.take (k + 1)) = twiceF q (l.take k) ++ (if l[k] = q then [q, q] else [l[k]]) := by
  induction l generalizing k with
  | nil => simp at h
  | cons b r ih =>
    cases k with
    | zero => simp [twiceF]
    | succ k =>
      have := ih k (by simpa using h)
      simp only [List.take_succ_cons, twiceF, List.getElem_cons_succ]
      split <;> simp [this]
end

/- The document's layer 4: what stands between quotes; remarks and blanks: contracts. -/
section
open Go.RowKit
set_option maxRecDepth 100000

/-- what stands between quotes, as a call answers it -/
def AnsB (x : Option (List UInt8 × Nat)) (i : Nat) (r : ByteArray) (n : Int) : Prop :=
  match x with
  | none => n = -1
  | some (t, m) => r.data.toList = t ∧ n = (i + 1 + m : Nat)

/-- a remark, or a blank: how many bytes; below 0: it doesn't end -/
def skipF : List UInt8 → Int
  | [] => 0
  | c :: r =>
    if blankF c then 1
    else if isRemarkF (c :: r) then (if closedF (c :: r) 2 = 0 then -1 else closedF (c :: r) 2)
    else if isLineF (c :: r) then lineF (c :: r)
    else 0
def skipA (l : List UInt8) (i : Nat) : Int := if skipF (l.drop i) < 0 then -1 else (i : Int) + skipF (l.drop i)

theorem index_byte (l : List UInt8) (q : UInt8) : Lib.index l [q] = Lib.indexByte l q := by
  induction l with
  | nil => rfl
  | cons b r ih =>
    unfold Lib.index Lib.indexByte
    rw [ih]
    by_cases h : b = q
    · subst h; simp
    · have h1 : ([q].isPrefixOf (b :: r)) = false := by
        rw [List.isPrefixOf]
        simp
        exact fun e => h e.symm
      have h2 : (b == q) = false := by simpa using h
      rw [h1, h2]

theorem beg_hash (c : UInt8) (r : List UInt8) : begF [35] (c :: r) = decide (c.toNat = 35) := by
  unfold begF Lib.hasPrefix
  rw [List.isPrefixOf, Bool.eq_iff_iff]
  simp
  constructor
  · rintro rfl; rfl
  · intro h
    exact UInt8.toNat_inj.1 (by rw [h]; rfl)
end

/- The document's layer 4: the token at a place: contract. -/
section
open Go.RowKit
set_option maxRecDepth 100000

/-- the token that a text begins with, in the document's order -/
def rtokF : List UInt8 → Option (Int × List UInt8 × Nat)
  | [] => none
  | c :: r =>
    if begF [47, 42, 43] (c :: r) then (hintF (c :: r)).map fun x => (5, x.1, x.2)
    else if letterF c then some (1, greatF ((c :: r).take (runF lodF (c :: r))), runF lodF (c :: r))
    else if digitF c then some (4, (c :: r).take (runF digitF (c :: r)), runF digitF (c :: r))
    else if c.toNat = 34 ∨ c.toNat = 96 then (quotedF c r).map fun x => (2, x.1, x.2 + 1)
    else if c.toNat = 39 then (quotedF c r).map fun x => (3, x.1, x.2 + 1)
    else if 33 ≤ c.toNat ∧ c.toNat ≤ 126 then some (6, [c], 1)
    else none

/-- a token, and the place behind it, as a call answers it -/
def AnsT (x : Option (Int × List UInt8 × Nat)) (i : Nat) (k : Int) (r : ByteArray) (n : Int) : Prop :=
  match x with
  | none => n = -1
  | some (k', t, m) => k = k' ∧ r.data.toList = t ∧ n = (i + m : Nat)

theorem place {s : ByteArray} {i : Nat} {c : UInt8} {r : List UInt8} (hl : s.data.toList.drop i = c :: r) : ∃ h : i < s.size, s[i] = c := by
  have hil : i < s.size := by
    rcases Nat.lt_or_ge i s.size with h | h
    · exact h
    · rw [List.drop_eq_nil_of_le (by rw [text_len]; exact h)] at hl; cases hl
  refine ⟨hil, ?_⟩
  rw [text_at s i hil]
  have e0 : (s.data.toList.drop i)[0]? = some c := by rw [hl]; rfl
  rw [List.getElem?_drop] at e0
  exact (List.getElem?_eq_some_iff.1 e0).2
end

/- The document's layer 4: the token at a place, words and numbers and signs: contracts. -/
section
open Go.RowKit
set_option maxRecDepth 100000

theorem runF_at {p : UInt8 → Bool} {l : List UInt8} {k : Nat} (h : k < l.length) : runF p (l.drop k) = if p l[k] then runF p (l.drop (k + 1)) + 1 else 0 := by
  rw [List.drop_eq_getElem_cons h, runF]
end

/- The document's layer 4: the token at a place, quotes and signs; all of it: contracts. -/
section
open Go.RowKit
set_option maxRecDepth 100000
end

/- The document's layer 4: a statement's tokens: contract. -/
section
open Go.RowKit
set_option maxRecDepth 100000

theorem beg_two (a b : UInt8) (c : UInt8) (r : List UInt8) (h : begF [a, b] (c :: r) = true) : c = a := by
  unfold begF Lib.hasPrefix at h
  rw [List.isPrefixOf] at h
  simp at h
  exact h.1.symm
theorem beg_three (a b d : UInt8) (c : UInt8) (r : List UInt8) (h : begF [a, b, d] (c :: r) = true) : c = a := by
  unfold begF Lib.hasPrefix at h
  rw [List.isPrefixOf] at h
  simp at h
  exact h.1.symm
theorem remark_no_line (c : UInt8) (r : List UInt8) (h : isRemarkF (c :: r) = true) : isLineF (c :: r) = false := by
  unfold isRemarkF at h
  simp only [Bool.and_eq_true] at h
  have hc := beg_two _ _ _ _ h.1
  subst hc
  unfold isLineF
  cases hb : begF [45, 45] ((47 : UInt8) :: r) with
  | false => rfl
  | true => exact absurd (beg_two _ _ _ _ hb) (by decide)
theorem line_pos (c : UInt8) (r : List UInt8) (h1 : blankF c = false) : 0 < lineF (c :: r) := by
  unfold lineF
  split
  · simp
  · rename_i hx
    have hc : (c == 10) = false := by
      simp only [beq_eq_false_iff_ne, ne_eq]
      rintro rfl
      revert h1
      decide
    rw [Lib.indexByte, hc] at hx ⊢
    simp only [Bool.false_eq_true, if_false] at hx ⊢
    have hge := indexByte_lt.indexByte_ge1 r 10
    split
    · rename_i h; rw [if_pos h] at hx; omega
    · rename_i h
      have : Lib.indexByte r 10 ≠ -1 := by simpa using h
      omega

theorem step_bad (c : UInt8) (r : List UInt8) (h : skipF (c :: r) < 0) : stepF (c :: r) = .bad := by
  rw [skipF] at h
  split at h
  · omega
  rename_i h1
  split at h
  · rename_i h2
    rw [stepF, if_neg h1, if_neg (by rw [remark_no_line c r h2]; simp), if_pos h2]
    split at h
    · rename_i h3; rw [if_pos h3]
    · omega
  split at h
  · omega
  · omega
theorem step_skip (c : UInt8) (r : List UInt8) (m : Nat) (h : skipF (c :: r) = m) (hm : 0 < m) : stepF (c :: r) = .skip m := by
  rw [skipF] at h
  split at h
  · rename_i h1
    rw [stepF, if_pos h1]
    congr 1
    omega
  rename_i h1
  split at h
  · rename_i h2
    rw [stepF, if_neg h1, if_neg (by rw [remark_no_line c r h2]; simp), if_pos h2]
    split at h
    · omega
    · rename_i h3
      rw [if_neg h3]
      congr 1
      omega
  split at h
  · rename_i h3
    rw [stepF, if_neg h1, if_pos h3]
    congr 1
    omega
  · omega
theorem rtok_first (c : UInt8) (r : List UInt8) (h1 : blankF c = false) (h2 : isLineF (c :: r) = false) : rtokF (c :: r) = firstI (c :: r) := by
  have h35 : ¬ c.toNat = 35 := by
    intro h
    change (decide (c.toNat = 35) || begF [45, 45] (c :: r)) = false at h2
    rw [decide_eq_true h] at h2
    simp at h2
  have hsign : signF c = (!(decide (c.toNat ≤ 32) || decide (126 < c.toNat) || lodF c) && (decide (c.toNat ≠ 34) && decide (c.toNat ≠ 96) && decide (c.toNat ≠ 39) && decide (c.toNat ≠ 35))) := rfl
  unfold firstI
  rw [rtokF]
  simp only [firstF]
  by_cases hb : begF [47, 42, 43] (c :: r) = true
  · have hc := beg_three _ _ _ _ _ hb
    subst hc
    rw [if_pos hb, if_neg (by decide), if_neg (by decide), if_neg (by decide), if_neg (by decide), if_pos hb]
    unfold hintF
    split <;> rfl
  rw [if_neg hb]
  split
  · rfl
  split
  · rfl
  split
  · simp only [Option.map_map]; rfl
  split
  · simp only [Option.map_map]; rfl
  rename_i hl hd hq hs
  have hlod : lodF c = false := by simp [lodF, hl, hd]
  rw [hlod] at hsign
  by_cases h6 : 33 ≤ c.toNat ∧ c.toNat ≤ 126
  · have : signF c = true := by
      rw [hsign]
      simp
      omega
    rw [if_pos h6, if_pos this]
    rfl
  · have : signF c = false := by
      rw [hsign]
      simp
      omega
    rw [if_neg h6, this]
    rfl
theorem step_first (c : UInt8) (r : List UInt8) (h : skipF (c :: r) = 0) : blankF c = false ∧ isLineF (c :: r) = false ∧ stepF (c :: r) = match firstF (c :: r) with | none => .bad | some (k, t, n) => .tok k t n := by
  rw [skipF] at h
  split at h
  · omega
  rename_i h1
  have h1f : blankF c = false := by simpa using h1
  split at h
  · rename_i h2
    split at h
    · omega
    · rename_i h3; omega
  rename_i h2
  split at h
  · have := line_pos c r h1f; omega
  rename_i h3
  refine ⟨h1f, by simpa using h3, ?_⟩
  rw [stepF, if_neg h1, if_neg h3, if_neg h2]
  cases firstF (c :: r) <;> rfl

theorem skip_le : ∀ l : List UInt8, skipF l ≤ l.length
  | [] => by simp [skipF]
  | c :: r => by
    rw [skipF]
    split
    · simp; omega
    split
    · rename_i h2
      have h2a : begF [47, 42] (c :: r) = true := by
        unfold isRemarkF at h2
        simp only [Bool.and_eq_true] at h2
        exact h2.1
      have h3 := (List.isPrefixOf_iff_prefix.1 h2a).length_le
      have := (closedF_le (c :: r) 2 (by simpa using h3)).1
      split <;> omega
    split
    · unfold lineF
      split
      · omega
      · have := indexByte_lt (l := c :: r) (c := 10) (by omega)
        omega
    · omega

theorem OT.empty (e : TypeId) (w : World) : OT e (w.alloc (.cells #[] e)) w.heap.size (some ⟨w.heap.size, 0, none⟩) 0 0 [] :=
  ⟨own_new_s w w.heap.size 2 e 0 [] rfl (Nat.le_refl _) (by simp [maxLen]), Nat.le_refl _⟩
end

/- The document's layer 4: which tokens may be: contract. -/
section
open Go.RowKit
set_option maxRecDepth 100000

def rrOf : Option (Int × List UInt8 × Nat) → Int → List UInt8 → Bool
  | none, _, _ => false
  | some (k', t, m), k, l => decide (k' = k) && (decide (t = l) && decide (m = l.length))
/-- which tokens may be, as the document tells it -/
def rrightF (k : Int) (l : List UInt8) : Bool :=
  if k = 2 ∨ k = 3 then true
  else if k = 5 then decide (findF l ends2 0 < 0) && decide (trimF l = l)
  else if k ≠ 1 ∧ k ≠ 4 ∧ k ≠ 6 then false
  else if l = [] then false
  else if skipA l 0 ≠ 0 then false
  else rrOf (rtokF l) k l

theorem contains_find (l : List UInt8) : (!Lib.contains l ends2) = decide (findF l ends2 0 < 0) := by
  unfold Lib.contains findF
  rw [List.drop_zero]
  have := Lib.index_ge l ends2
  split
  · rename_i h
    rw [decide_eq_false (by omega)]
    rfl
  · rename_i h
    rw [decide_eq_true (by omega), decide_eq_false (by omega)]
    rfl

theorem skipA_zero (c : UInt8) (r : List UInt8) : skipA (c :: r) 0 = if skipF (c :: r) < 0 then -1 else skipF (c :: r) := by
  unfold skipA
  simp
theorem skip_zero (c : UInt8) (r : List UInt8) (h : skipF (c :: r) = 0) : blankF c = false ∧ isLineF (c :: r) = false := ⟨(step_first c r h).1, (step_first c r h).2.1⟩
theorem skip_plain (c : UInt8) (r : List UInt8) (h1 : blankF c = false) (h2 : begF [47, 42] (c :: r) = false) (h3 : c.toNat ≠ 35) (h4 : begF [45, 45] (c :: r) = false) : skipF (c :: r) = 0 := by
  have hr : isRemarkF (c :: r) = false := by unfold isRemarkF; rw [h2]; rfl
  have hl : isLineF (c :: r) = false := by
    show (decide (c.toNat = 35) || begF [45, 45] (c :: r)) = false
    rw [decide_eq_false h3, h4]
    rfl
  rw [skipF, h1, hr, hl]
  rfl
theorem beg_not {a b c : UInt8} {r : List UInt8} (h : c ≠ a) : begF [a, b] (c :: r) = false := by
  cases hb : begF [a, b] (c :: r) with
  | false => rfl
  | true => exact absurd (beg_two _ _ _ _ hb) h
theorem lod_plain (c : UInt8) (h : lodF c = true) : blankF c = false ∧ c ≠ 47 ∧ c ≠ 45 ∧ c.toNat ≠ 35 := by
  have := by_all (fun c => !lodF c || (!blankF c && (decide (c ≠ 47) && (decide (c ≠ 45) && decide (c.toNat ≠ 35))))) (by decide +kernel) c
  rw [h] at this
  simp only [Bool.not_true, Bool.false_or, Bool.and_eq_true, Bool.not_eq_true', decide_eq_true_eq] at this
  exact this
theorem skip_lod (c : UInt8) (r : List UInt8) (h : lodF c = true) : skipF (c :: r) = 0 := by
  obtain ⟨h1, h2, h3, h4⟩ := lod_plain c h
  exact skip_plain c r h1 (beg_not h2) h4 (beg_not h3)
theorem no_hint {c : UInt8} {r : List UInt8} (h : c ≠ 47) : begF [47, 42, 43] (c :: r) = false := by
  cases hb : begF [47, 42, 43] (c :: r) with
  | false => rfl
  | true => exact absurd (beg_three _ _ _ _ _ hb) h

theorem rtok_letter (c : UInt8) (r : List UInt8) (h : letterF c = true) : rtokF (c :: r) = some (1, greatF ((c :: r).take (runF lodF (c :: r))), runF lodF (c :: r)) := by
  have h47 := (lod_plain c (by simp [lodF, h])).2.1
  rw [rtokF, if_neg (by rw [no_hint h47]; simp), if_pos h]
theorem rtok_digit (c : UInt8) (r : List UInt8) (h0 : letterF c = false) (h : digitF c = true) : rtokF (c :: r) = some (4, (c :: r).take (runF digitF (c :: r)), runF digitF (c :: r)) := by
  have h47 := (lod_plain c (by simp [lodF, h])).2.1
  rw [rtokF, if_neg (by rw [no_hint h47]; simp), if_neg (by simp [h0]), if_pos h]
theorem rtok_other (c : UInt8) (r : List UInt8) (h0 : letterF c = false) (h : digitF c = false) {k : Int} {t : List UInt8} {m : Nat} (hx : rtokF (c :: r) = some (k, t, m)) :
    k = 5 ∨ k = 2 ∨ k = 3 ∨ (k = 6 ∧ t = [c] ∧ m = 1 ∧ 33 ≤ c.toNat ∧ c.toNat ≤ 126 ∧ c.toNat ≠ 34 ∧ c.toNat ≠ 96 ∧ c.toNat ≠ 39) := by
  rw [rtokF] at hx
  split at hx
  · obtain ⟨y, _, hy⟩ := Option.map_eq_some_iff.1 hx
    simp only [Prod.mk.injEq] at hy
    exact .inl hy.1.symm
  rw [h0, h] at hx
  simp only [Bool.false_eq_true, if_false] at hx
  split at hx
  · obtain ⟨y, _, hy⟩ := Option.map_eq_some_iff.1 hx
    simp only [Prod.mk.injEq] at hy
    exact .inr (.inl hy.1.symm)
  split at hx
  · obtain ⟨y, _, hy⟩ := Option.map_eq_some_iff.1 hx
    simp only [Prod.mk.injEq] at hy
    exact .inr (.inr (.inl hy.1.symm))
  split at hx
  · simp only [Option.some.injEq, Prod.mk.injEq] at hx
    obtain ⟨rfl, rfl, rfl⟩ := hx
    refine .inr (.inr (.inr ⟨rfl, rfl, rfl, ?_⟩))
    omega
  · cases hx
theorem digit_no_letter (c : UInt8) (h : digitF c = true) : letterF c = false := by
  have := by_all (fun c => !digitF c || !letterF c) (by decide +kernel) c
  rw [h] at this
  simpa using this

theorem rright_word (c : UInt8) (r : List UInt8) : rrightF 1 (c :: r) = rightWordF (c :: r) := by
  unfold rrightF
  rw [if_neg (by omega), if_neg (by omega), if_neg (by omega), if_neg (by simp), skipA_zero]
  rw [show rightWordF (c :: r) = (letterF c && (decide (runF lodF (c :: r) = (c :: r).length) && decide (greatF (c :: r) = c :: r))) from rfl]
  cases h : letterF c
  · simp only [Bool.false_and]
    by_cases hs : (if skipF (c :: r) < 0 then -1 else skipF (c :: r)) ≠ 0
    · rw [if_pos hs]
    · rw [if_neg hs]
      cases hx : rtokF (c :: r) with
      | none => rfl
      | some x =>
        obtain ⟨k, t, m⟩ := x
        have hk : k ≠ 1 := by
          cases hd : digitF c
          · have := rtok_other c r h hd hx
            omega
          · rw [rtok_digit c r h hd] at hx
            simp only [Option.some.injEq, Prod.mk.injEq] at hx
            omega
        simp only [rrOf]
        rw [decide_eq_false hk]
        rfl
  · rw [skip_lod c r (by simp [lodF, h]), if_neg (by decide), rtok_letter c r h]
    simp only [rrOf, Bool.true_and, decide_true]
    by_cases hn : runF lodF (c :: r) = (c :: r).length
    · rw [decide_eq_true hn, hn, List.take_length, Bool.and_true, Bool.true_and]
    · rw [decide_eq_false hn, Bool.and_false, Bool.false_and]

theorem rright_number (c : UInt8) (r : List UInt8) : rrightF 4 (c :: r) = decide (runF digitF (c :: r) = (c :: r).length) := by
  unfold rrightF
  rw [if_neg (by omega), if_neg (by omega), if_neg (by omega), if_neg (by simp), skipA_zero]
  cases h : digitF c
  · rw [decide_eq_false (by rw [runF_none h]; simp)]
    by_cases hs : (if skipF (c :: r) < 0 then -1 else skipF (c :: r)) ≠ 0
    · rw [if_pos hs]
    · rw [if_neg hs]
      cases hx : rtokF (c :: r) with
      | none => rfl
      | some x =>
        obtain ⟨k, t, m⟩ := x
        have hk : k ≠ 4 := by
          cases hl : letterF c
          · have := rtok_other c r hl h hx
            omega
          · rw [rtok_letter c r hl] at hx
            simp only [Option.some.injEq, Prod.mk.injEq] at hx
            omega
        simp only [rrOf]
        rw [decide_eq_false hk]
        rfl
  · rw [skip_lod c r (by simp [lodF, h]), if_neg (by decide), rtok_digit c r (digit_no_letter c h) h]
    simp only [rrOf, Bool.true_and, decide_true]
    by_cases hn : runF digitF (c :: r) = (c :: r).length
    · rw [decide_eq_true hn, hn, List.take_length, decide_eq_true rfl]
      rfl
    · rw [decide_eq_false hn, Bool.and_false]

theorem sign_parts (c : UInt8) : signF c = true ↔ (33 ≤ c.toNat ∧ c.toNat ≤ 126 ∧ letterF c = false ∧ digitF c = false ∧ c.toNat ≠ 34 ∧ c.toNat ≠ 96 ∧ c.toNat ≠ 39 ∧ c.toNat ≠ 35) := by
  have hs : signF c = (!(decide (c.toNat ≤ 32) || decide (126 < c.toNat) || lodF c) && (decide (c.toNat ≠ 34) && decide (c.toNat ≠ 96) && decide (c.toNat ≠ 39) && decide (c.toNat ≠ 35))) := rfl
  have hl : lodF c = (letterF c || digitF c) := rfl
  rw [hs, hl]
  cases letterF c <;> cases digitF c <;> simp <;> omega
theorem blank_lt (c : UInt8) (h : 33 ≤ c.toNat) : blankF c = false := by
  have := by_all (fun c => decide (c.toNat < 33) || !blankF c) (by decide +kernel) c
  simp only [Bool.or_eq_true, decide_eq_true_eq, Bool.not_eq_true'] at this
  rcases this with h1 | h1
  · omega
  · exact h1

theorem rright_sign (c : UInt8) (r : List UInt8) : rrightF 6 (c :: r) = (match c :: r with | [c] => signF c | _ => false) := by
  unfold rrightF
  rw [if_neg (by omega), if_neg (by omega), if_neg (by omega), if_neg (by simp), skipA_zero]
  by_cases hg : r = [] ∧ signF c = true
  · obtain ⟨rfl, hg⟩ := hg
    obtain ⟨g1, g2, g3, g4, g5, g6, g7, g8⟩ := (sign_parts c).1 hg
    have e1 : ∀ a b : UInt8, begF [a, b] [c] = false := fun a b => by unfold begF Lib.hasPrefix; simp [List.isPrefixOf]
    have e2 : begF [47, 42, 43] [c] = false := by unfold begF Lib.hasPrefix; simp [List.isPrefixOf]
    have hr : rtokF [c] = some (6, [c], 1) := by
      rw [rtokF, e2, g3, g4]
      simp only [Bool.false_eq_true, if_false]
      rw [if_neg (by omega), if_neg g7, if_pos ⟨g1, g2⟩]
    rw [skip_plain c [] (blank_lt c g1) (e1 _ _) g8 (e1 _ _), if_neg (by decide), hr]
    simp [rrOf, hg]
  · have hrhs : (match c :: r with | [c] => signF c | _ => false) = false := by
      cases r with
      | nil => simpa using hg
      | cons _ _ => rfl
    rw [hrhs]
    by_cases hs : (if skipF (c :: r) < 0 then -1 else skipF (c :: r)) ≠ 0
    · rw [if_pos hs]
    · rw [if_neg hs]
      have hs0 : skipF (c :: r) = 0 := by
        rcases Int.lt_or_le (skipF (c :: r)) 0 with h | h
        · rw [if_pos h] at hs; exact absurd (by decide) hs
        · rw [if_neg (by omega)] at hs; omega
      obtain ⟨hb, hln⟩ := skip_zero c r hs0
      have h35 : c.toNat ≠ 35 := by
        intro h
        change (decide (c.toNat = 35) || begF [45, 45] (c :: r)) = false at hln
        rw [decide_eq_true h] at hln
        simp at hln
      cases hx : rtokF (c :: r) with
      | none => rfl
      | some x =>
        obtain ⟨k, t, m⟩ := x
        simp only [rrOf]
        cases hl : letterF c
        · cases hd : digitF c
          · rcases rtok_other c r hl hd hx with h | h | h | ⟨h, ht, hm, h1, h2, h3, h4, h5⟩
            · rw [decide_eq_false (by omega)]; rfl
            · rw [decide_eq_false (by omega)]; rfl
            · rw [decide_eq_false (by omega)]; rfl
            · subst ht
              cases r with
              | nil => exact absurd ⟨rfl, (sign_parts c).2 ⟨h1, h2, hl, hd, h3, h4, h5, h35⟩⟩ hg
              | cons d r => simp
          · rw [rtok_digit c r hl hd] at hx
            simp only [Option.some.injEq, Prod.mk.injEq] at hx
            rw [decide_eq_false (by omega)]
            rfl
        · rw [rtok_letter c r hl] at hx
          simp only [Option.some.injEq, Prod.mk.injEq] at hx
          rw [decide_eq_false (by omega)]
          rfl

theorem rright_right (k : Int) (l : List UInt8) : rrightF k l = rightF k l := by
  by_cases h23 : k = 2 ∨ k = 3
  · unfold rrightF rightF
    rw [if_pos h23, if_neg (by omega), if_pos h23]
  by_cases h5 : k = 5
  · subst h5
    unfold rrightF rightF
    rw [if_neg (by omega), if_pos rfl, if_neg (by omega), if_neg (by omega), if_neg (by omega), if_pos rfl, contains_find]
  by_cases hno : k ≠ 1 ∧ k ≠ 4 ∧ k ≠ 6
  · unfold rrightF rightF
    rw [if_neg h23, if_neg h5, if_pos hno, if_neg hno.1, if_neg h23, if_neg hno.2.1, if_neg h5, if_neg hno.2.2]
  have hk : k = 1 ∨ k = 4 ∨ k = 6 := by omega
  cases l with
  | nil =>
    unfold rrightF
    rw [if_neg h23, if_neg h5, if_neg hno, if_pos rfl]
    rcases hk with rfl | rfl | rfl <;> rfl
  | cons c r =>
    rcases hk with rfl | rfl | rfl
    · exact rright_word c r
    · rw [rright_number]
      show _ = (decide ((c :: r) ≠ []) && decide (runF digitF (c :: r) = (c :: r).length))
      simp
    · exact rright_sign c r
end

/- The document's layer 4: which tokens may be, by the call: contract. -/
section
open Go.RowKit
set_option maxRecDepth 100000

theorem rr_yes {s r2 : ByteArray} {k k2 n2 : Int} {x : Option (Int × List UInt8 × Nat)} (hA : AnsT x 0 k2 r2 n2) (h : k2 = k ∧ r2 = s) : rrOf x k s.data.toList = (n2 == (s.size : Int)) := by
  obtain ⟨rfl, rfl⟩ := h
  have hlen := text_len r2
  cases x with
  | none =>
    obtain rfl : n2 = -1 := hA
    rw [rrOf, eq_comm, beq_eq_false_iff_ne]
    omega
  | some x =>
    obtain ⟨k', t, m⟩ := x
    obtain ⟨rfl, rfl, rfl⟩ := hA
    rw [rrOf, hlen, decide_eq_true rfl, decide_eq_true rfl, Bool.eq_iff_iff]
    simp
    omega
theorem rr_no {s r2 : ByteArray} {k k2 n2 : Int} {x : Option (Int × List UInt8 × Nat)} (hA : AnsT x 0 k2 r2 n2) (h : ¬ (k2 = k ∧ r2 = s)) : rrOf x k s.data.toList = false := by
  cases x with
  | none => rfl
  | some x =>
    obtain ⟨k', t, m⟩ := x
    obtain ⟨rfl, rfl, rfl⟩ := hA
    rw [rrOf]
    by_cases hk : k2 = k
    · rw [decide_eq_false (p := r2.data.toList = s.data.toList) (fun e => h ⟨hk, text_ext e⟩)]
      simp
    · rw [decide_eq_false hk]
      rfl
end

/- What is written of rows of tokens, by package lex: contract. -/
section
open Go.RowKit
set_option maxRecDepth 100000

theorem Bd.next {B b : Nat} {l : List UInt8} {w w' : World} (h : Bd B b l w) (hb : Below w.heap.size w w') : Bd B b l w' :=
  Or.elim h (fun x => .inl (Lib.BuilderAtF.below x hb)) (fun x => .inr (Lib.BuilderAtF.below x hb))
theorem Bd.lt {B b : Nat} {l : List UInt8} {w : World} (h : Bd B b l w) : b < w.heap.size := by
  rcases h with ⟨_, v, hb, _⟩ | ⟨_, v, hb, _⟩
  · exact (Array.getElem?_eq_some_iff.1 hb).1
  · exact (Array.getElem?_eq_some_iff.1 hb).1
theorem Kept.cells {b k : Nat} {w w' : World} {cs : Array Value} {t : TypeId} {fz : Nat × Nat} (h : Kept b w w') (hk : w.heap[k]? = some (.cells cs t fz)) (hkb : k ≠ b) (ht : t ≠ 5) : w'.heap[k]? = some (.cells cs t fz) :=
  h k _ hk (fun e => hkb (Option.some.inj e)) (fun c fz' e => by
    simp only [Obj.cells.injEq] at e
    exact ht e.2.1)

/-- tokens' texts, each with one more byte, are so many bytes -/
def sumT (ts : List Tk) : Nat := (ts.map fun t => t.t.size + 1).sum
theorem sumT_append (a b : List Tk) : sumT (a ++ b) = sumT a + sumT b := by simp [sumT]
theorem sumT_at {ts : List Tk} {k : Nat} (h : k < ts.length) : sumT (ts.take k) + ts[k].t.size + 1 ≤ sumT ts := by
  have e : sumT ts = sumT (ts.take k) + sumT (ts.drop k) := by rw [← sumT_append, List.take_append_drop]
  rw [e, List.drop_eq_getElem_cons h]
  simp only [sumT, List.map_cons, List.sum_cons]
  omega

theorem sumT_len : ∀ ts : List Tk, ts.length ≤ sumT ts
  | [] => Nat.zero_le _
  | t :: r => by
    have := sumT_len r
    simp only [sumT, List.map_cons, List.sum_cons, List.length_cons] at this ⊢
    omega

def writeF : List (Int × List UInt8) → List UInt8
  | [] => []
  | t :: r => writtenF t.1 t.2 ++ r.flatMap fun t => 32 :: writtenF t.1 t.2
theorem writeF_next (l : List (Int × List UInt8)) (x : Int × List UInt8) (h : l ≠ []) : writeF (l ++ [x]) = writeF l ++ [32] ++ writtenF x.1 x.2 := by
  cases l with
  | nil => exact absurd rfl h
  | cons t r => simp [writeF]
theorem writeF_len : ∀ ts : List Tk, (writeF (saysT ts)).length ≤ 8 * sumT ts := by
  have key : ∀ ts : List Tk, ((saysT ts).flatMap fun t => 32 :: writtenF t.1 t.2).length ≤ 8 * sumT ts := by
    intro ts
    induction ts with
    | nil => simp [saysT, sumT]
    | cons t r ih =>
      have h1 := writtenF_length t.k t.t.data.toList
      have h2 := text_len t.t
      simp only [saysT, List.map_cons, List.flatMap_cons, List.length_append, List.length_cons, sumT, List.sum_cons, Tk.says] at ih ⊢
      omega
  intro ts
  cases ts with
  | nil => simp [saysT, writeF, sumT]
  | cons t r =>
    have h1 := writtenF_length t.k t.t.data.toList
    have h2 := text_len t.t
    have h3 := key r
    simp only [saysT, List.map_cons, writeF, List.length_append, sumT, List.sum_cons, Tk.says] at h3 ⊢
    omega

set_option maxHeartbeats 2000000 in
theorem write_ok (A : Option Addr) (n c : Nat) (ts : List Tk) (w : World) (h : TR w A n ts) (hm : sumT ts ≤ 1000000) (hL : Lw w) :
    Calls Tryd.prog 44 #[.slice A n c] w fun e w' => ∃ r : ByteArray, e = .returned (.string r) ∧ r.data.toList = writeF (saysT ts) ∧ Below w.heap.size w w' := by
  have hlen := Lib.hid h.len
  have hn : n ≤ 1000000 := by
    have := sumT_len ts
    have := h.len
    omega
  go_enter Tryd.func44, Tryd.ntmps44
  go_wp2
  go_loopw [8] (fun v8 wr => ∃ (k : Nat), v8 = .int .i64 k ∧ k ≤ n ∧ Bd w.heap.size w.heap.size (writeF (saysT (ts.take k))) wr ∧ Below w.heap.size w wr) (fun v8 _ => n - (intOf v8).toNat)
  case atStart => exact ⟨0, rfl, Nat.zero_le _, Bd.new w w.heap.size (Nat.le_refl _), kp_new _ _⟩
  case round =>
    obtain ⟨k, rfl, hk, hI, kw⟩ := hrel
    by_cases hlt : k < n
    · have hkl : k < ts.length := by rw [hlen.out]; exact hlt
      obtain ⟨ad, rfl, hbl, hcells⟩ := h.at_ hkl
      obtain ⟨c0, c1⟩ := hcells wr kw
      have hsum := sumT_at hkl
      have hwl := writeF_len (ts.take k)
      have hnext : saysT (ts.take (k + 1)) = saysT (ts.take k) ++ [(ts[k].k, ts[k].t.data.toList)] := by
        rw [List.take_succ_eq_append_getElem hkl, saysT_append]; rfl
      have hne : 0 < k → saysT (ts.take k) ≠ [] := fun h0 e => by
        have := congrArg List.length e
        rw [saysT_length, List.length_take, Nat.min_eq_left (by omega)] at this
        exact absurd this (by simp; omega)
      have HW := Lib.hid fun u (hu : Lw u) => written_ok ts[k].k ts[k].t u hu (by omega)
      generalize ts[k].k = kd at *
      generalize ts[k].t = tx at *
      generalize hwk : writeF (saysT (ts.take k)) = wk at hI hwl
      have HN := Lib.hid hnext
      have HNE := Lib.hid hne
      have HWK := Lib.hid hwk
      have hbz := hI.lt
      have hL1 := hL.next kw
      clear hcells hnext hne hwk
      have hI1 := hI.alloc (.cells #[.int .i64 kd, .string tx] 89)
      have kw1 := kp_alloc kw (.cells #[.int .i64 kd, .string tx] 89)
      have hT := heap_alloc_new wr (.cells #[.int .i64 kd, .string tx] 89)
      have hz1 : wr.heap.size < (wr.alloc (.cells #[.int .i64 kd, .string tx] 89)).heap.size := by simp
      have HT := Lib.hid hT
      have HZ := Lib.hid hz1
      clear hT hz1
      by_cases hk0 : k = 0
      · subst hk0
        have hnx : Hid (writeF (saysT (ts.take (0 + 1))) = wk ++ writtenF kd tx.data.toList) := Lib.hid (by
          rw [HN.out, ← HWK.out]
          simp [saysT, writeF])
        have e0 : ad.add (0 * 2) = ad := by unfold Addr.add; simp
        rw [e0] at c0 c1
        clear e0
        obtain ⟨f0, f1, _, _⟩ := cells2 HT.out
        go_wp2_with fail
        refine (HW.out _ (hL1.next (kp_new _ _))).mono ?_
        rintro e w2 ⟨r, rfl, hr, k2⟩
        have hrl : r.size ≤ 2 * tx.size + 7 := by
          have h1 := writtenF_length kd tx.data.toList
          have h2 := text_len tx
          have h3 := text_len r
          rw [hr] at h3
          omega
        have HS := Lib.hid (writeString_s w.heap.size w.heap.size wk r w2 (hI1.next k2) (by omega) (by omega) (by have := kw1.size; have := k2.size; omega))
        go_wp2_with fail
        refine HS.out.mono ?_
        rintro e w3 ⟨rfl, hI3, b3, _⟩
        go_wp2_with fail
        go_roundw
        case rel => exact ⟨0 + 1, by go_num, by omega, by rw [hnx.out, ← hr]; exact hI3, (kp_trans kw1 k2).trans b3⟩
        case measure => simp [intOf]; omega
      · have hnx : Hid (writeF (saysT (ts.take (k + 1))) = wk ++ [32] ++ writtenF kd tx.data.toList) := Lib.hid (by
          rw [HN.out, writeF_next _ _ (HNE.out (by omega)), HWK.out])
        have hW1 := writeByte_s w.heap.size w.heap.size wk 32 _ hI1 (by omega) (by have := kw1.size; omega)
        rw [show (((32 : UInt8).toNat : Nat) : Int) = 32 from rfl] at hW1
        have HW1 := Lib.hid hW1
        have hpos : (0 : Int) < (k : Int) := by omega
        clear hW1
        go_wp2_with fail
        refine HW1.out.mono ?_
        rintro e w2 ⟨rfl, hI2, b2, k2⟩
        obtain ⟨f0, f1, _, _⟩ := cells2 (k2.cells HT.out (by omega) (by decide))
        have kw2 := kw1.trans b2
        go_wp2_with fail
        refine (HW.out _ (hL.next kw2)).mono ?_
        rintro e w3 ⟨r, rfl, hr, k3⟩
        have hrl : r.size ≤ 2 * tx.size + 7 := by
          have h1 := writtenF_length kd tx.data.toList
          have h2 := text_len tx
          have h3 := text_len r
          rw [hr] at h3
          omega
        have HS := Lib.hid (writeString_s w.heap.size w.heap.size (wk ++ [32]) r w3 (hI2.next k3) (by simp; omega) (by omega) (by have := kw2.size; have := k3.size; omega))
        go_wp2_with fail
        refine HS.out.mono ?_
        rintro e w4 ⟨rfl, hI4, b4, _⟩
        go_wp2_with fail
        go_roundw
        case rel => exact ⟨k + 1, by go_num, by omega, by rw [hnx.out, ← hr]; exact hI4, (kp_trans kw2 k3).trans b4⟩
        case measure => simp [intOf]; omega
    · obtain rfl : k = n := by omega
      rw [List.take_of_length_le (by rw [hlen.out]; exact Nat.le_refl _)] at hI
      have HS := Lib.hid (string_s w.heap.size w.heap.size _ wr hI kw.size)
      clear hI
      go_wp2_with fail
      refine HS.out.mono ?_
      rintro e w2 ⟨r, rfl, hr, b2⟩
      go_wp2_with fail
      go_ret
      exact ⟨r, rfl, hr, kw.trans b2⟩
end

/- Rows of tokens: are they the same, are they large, may they be; the statements' own copies of them: contracts. -/
section
open Go.RowKit
set_option maxRecDepth 100000

theorem take_same {α : Type} [DecidableEq α] {xs ys : List α} {k : Nat} (hx : k < xs.length) (hy : k < ys.length) (h : xs.take k = ys.take k) (he : xs[k] = ys[k]) : xs.take (k + 1) = ys.take (k + 1) := by
  rw [List.take_succ_eq_append_getElem hx, List.take_succ_eq_append_getElem hy, h, he]

def mayF (ts : List Tk) : Bool := ts.all fun t => rightF t.k t.t.data.toList
end

/- The calls whose answers the document fixes, at layer 4: they answer so. -/
section
open Go.RowKit
set_option maxRecDepth 100000

theorem lex_a1 : lexF [115, 101, 108, 101, 99, 116, 32, 39, 97, 39, 39, 98, 39, 45, 45, 120] = some [(1, [83, 69, 76, 69, 67, 84]), (3, [97, 39, 98])] := by
  rw [lexF_tok (k := 1) (t := [83, 69, 76, 69, 67, 84]) (n := 6) (by simp) (by kernel_rfl) (by decide)]
  simp only [List.drop_succ_cons, List.drop_zero]
  rw [lexF_skip (n := 1) (by simp) (by kernel_rfl) (by decide)]
  simp only [List.drop_succ_cons, List.drop_zero]
  rw [lexF_tok (k := 3) (t := [97, 39, 98]) (n := 6) (by simp) (by kernel_rfl) (by decide)]
  simp only [List.drop_succ_cons, List.drop_zero]
  rw [lexF_skip (n := 3) (by simp) (by kernel_rfl) (by decide)]
  simp only [List.drop_succ_cons, List.drop_zero]
  rw [lexF_nil]
  rfl
theorem lex_a2 : lexF [39] = none := lexF_bad (by simp) (by kernel_rfl)
theorem lex_a3 : lexF [47, 42, 43, 32, 112, 114, 105, 109, 97, 114, 121, 32, 42, 47, 32, 55] = some [(5, [112, 114, 105, 109, 97, 114, 121]), (4, [55])] := by
  rw [lexF_tok (k := 5) (t := [112, 114, 105, 109, 97, 114, 121]) (n := 14) (by simp) (by kernel_rfl) (by decide)]
  simp only [List.drop_succ_cons, List.drop_zero]
  rw [lexF_skip (n := 1) (by simp) (by kernel_rfl) (by decide)]
  simp only [List.drop_succ_cons, List.drop_zero]
  rw [lexF_tok (k := 4) (t := [55]) (n := 1) (by simp) (by kernel_rfl) (by decide)]
  simp only [List.drop_succ_cons, List.drop_zero]
  rw [lexF_nil]
  rfl
theorem lexA_some {l : List UInt8} {y : List (Int × List UInt8)} (h : lexF l = some y) (hl : l.length ≤ 200) : lexA l = (y, 0) := by
  unfold lexA
  rw [if_neg (by omega), h]
theorem lexA_none {l : List UInt8} (h : lexF l = none) (hl : l.length ≤ 200) : lexA l = ([], 2) := by
  unfold lexA
  rw [if_neg (by omega), h]

theorem row2 (w : World) (e : TypeId) (a b : Tk) : TR (w.alloc (.cells #[.int .i64 a.k, .string a.t, .int .i64 b.k, .string b.t] e)) (some ⟨w.heap.size, 0, none⟩) 2 [a, b] :=
  ⟨rfl, by
    have := Rd.new w e (tkC [a, b])
    simpa [tkC, Tk.cells] using this⟩
end

/- The document's layer 4: what is written of tokens that may be: contract. -/
section
open Go.RowKit
set_option maxRecDepth 100000

theorem right_kind {k : Int} {l : List UInt8} (h : rightF k l = true) : k = 1 ∨ k = 2 ∨ k = 3 ∨ k = 4 ∨ k = 5 ∨ k = 6 := by
  unfold rightF at h
  by_cases h0 : k = 1 ∨ k = 2 ∨ k = 3 ∨ k = 4 ∨ k = 5 ∨ k = 6
  · exact h0
  · rw [if_neg (by omega), if_neg (by omega), if_neg (by omega), if_neg (by omega), if_neg (by omega)] at h
    cases h
end

/- A region that draws its order, gone through once an operation; operations whose guard is known to fail are left out. -/
section
open Go.RowKit

def WantsNot (ops : Array Oper) (a : Act) (o : Oper) : Prop :=
  match o.guard with
  | none => False
  | some (j, b) => ∃ t, dstOf ops j = some t ∧ a.tmps.getD t undef = .bool (!b)

theorem wants_not {ops : Array Oper} {a : Act} {o : Oper} (h : WantsNot ops a o) : Region.wanted o (yielded ops a.tmps) = false := by
  unfold WantsNot at h
  unfold Region.wanted
  split at h
  · cases h
  · rename_i j b hg
    obtain ⟨t, ht, hv⟩ := h
    rw [hg]
    have hlt : t < a.tmps.size := by
      rcases Nat.lt_or_ge t a.tmps.size with h | h
      · exact h
      · rw [Array.getD_eq_getD_getElem?, Array.getElem?_eq_none h] at hv
        simp [undef] at hv
    rw [Array.getD_eq_getD_getElem?, Array.getElem?_eq_getElem hlt] at hv
    simp only [Option.getD_some] at hv
    unfold dstOf at ht
    simp [yielded, ht, Array.getElem?_eq_getElem hlt, hv]

section
variable {P : Program} {ops : Array Oper} {Q : Exit → Act → World → Prop}

/-- what is asked of one operation: that it goes, or that its guard fails -/
def OkOp2 (P : Program) (ops : Array Oper) (Q : Exit → Act → World → Prop) (S : World → Prop) (Sp : Nat → Stb) (a0 : Act) (i : Nat) (o : Oper) : Prop :=
  ∀ a w, StandI ops i a0 a → S w → (∀ t, (waitsFor ops o).contains t = true → (Sp t).p (a.tmps.getD t undef) w) →
    (Wants ops a o ∧ o.wp P a w (Goes S Sp a o.dst w) Q) ∨ (WantsNot ops a o ∧ S w ∧ ∀ t, o.dst = some t → (Sp t).p undef w)

theorem wpAny_specs2 (S : World → Prop) (Sp : Nat → Stb) (a0 : Act) (hok : regOk ops a0.tmps.size = true)
    (each : EachOp (OkOp2 P ops Q S Sp a0) 0 ops.toList)
    (fin : ∀ a w, Stand ops a0 a → S w → (∀ t, (dstsOf ops).contains t = true → (Sp t).p (a.tmps.getD t undef) w) → Q .normal a w) :
    ∀ (fuel : Nat) (listed : Array Bool) (a : Act) (w : World), listed.size = ops.size → ((List.range ops.size).filter fun i => !listed.getD i true).length ≤ fuel →
      Stand ops a0 a → S w → (∀ i d, listed.getD i false = true → dstOf ops i = some d → (Sp d).p (a.tmps.getD d undef) w) →
      (∀ j d, j < ops.size → listed.getD j false = false → dstOf ops j = some d → a.tmps.getD d undef = a0.tmps.getD d undef) →
      (∀ j o, listed.getD j false = true → ops[j]? = some o → ∀ e ∈ o.after, Region.binds .any e = true → listed.getD e.on false = true) → wpAny P .any ops Q fuel listed a w := by
  simp only [regOk, Bool.and_eq_true, List.all_eq_true, decide_eq_true_eq] at hok
  obtain ⟨⟨⟨hdst, hlen⟩, hnd⟩, hlow⟩ := hok
  have hdst' : ∀ o ∈ ops.toList, ∃ d, o.dst = some d ∧ d < a0.tmps.size := fun o ho => by
    have := hdst o ho
    split at this
    · rename_i d hd; exact ⟨d, hd, by simpa using this⟩
    · cases this
  have hget := dsts_getElem (ops := ops) (fun o ho => (hdst' o ho).imp fun d h => h.1)
  have hinj : ∀ i j d, dstOf ops i = some d → dstOf ops j = some d → i = j := fun i j d hi hj => by
    rw [← hget] at hi hj
    obtain ⟨hi1, hi2⟩ := List.getElem?_eq_some_iff.1 hi
    obtain ⟨hj1, hj2⟩ := List.getElem?_eq_some_iff.1 hj
    have hp := List.pairwise_iff_getElem.1 hnd
    rcases Nat.lt_trichotomy i j with h | h | h
    · exact absurd (hi2.trans hj2.symm) (hp i j hi1 hj1 h)
    · exact h
    · exact absurd (hj2.trans hi2.symm) (hp j i hj1 hi1 h)
  have hready0 : ∀ listed : Array Bool, listed.size = ops.size → Region.ready .any ops listed = [] → ∀ i, i < ops.size → listed.getD i false = true := by
    intro listed hsz hr i
    induction i using Nat.strongRecOn with
    | _ i ih =>
      intro hi
      cases hl : listed.getD i false with
      | true => rfl
      | false =>
        exfalso
        have hl2 : listed.getD i true = false := by
          rw [Array.getD_eq_getD_getElem?, Array.getElem?_eq_getElem (by omega)] at hl ⊢; simpa using hl
        have hm : i ∈ Region.ready .any ops listed := by
          unfold Region.ready
          rw [List.mem_filter]
          refine ⟨List.mem_range.2 hi, ?_⟩
          rw [hl2, Array.getElem?_eq_getElem hi]
          simp only [Bool.not_false, Bool.true_and, Option.map_some, Option.getD_some, Array.all_eq_true_iff_forall_mem]
          intro e he
          have h1 := hlow (ops[i], i) (by rw [List.mem_zipIdx_iff_getElem?]; simp [hi])
          simp only [Array.all_eq_true_iff_forall_mem] at h1
          have h2 := h1 e he
          cases hb : Region.binds .any e with
          | false => simp
          | true =>
            rw [hb] at h2
            have h3 : e.on < i := by simpa using h2
            simp [ih e.on h3 (by omega)]
        rw [hr] at hm
        cases hm
  have hfin : ∀ listed a w, listed.size = ops.size → Stand ops a0 a → S w → (∀ i d, listed.getD i false = true → dstOf ops i = some d → (Sp d).p (a.tmps.getD d undef) w) → Region.ready .any ops listed = [] → Q .normal a w := by
    intro listed a w hsz hst hS hsp hr
    refine fin a w hst hS fun t ht => ?_
    obtain ⟨i, hi, he⟩ := List.mem_iff_getElem.1 (List.contains_iff_mem.1 ht)
    have hd : dstOf ops i = some t := by rw [← hget, List.getElem?_eq_getElem hi, he]
    exact hsp i t (hready0 listed hsz hr i (by omega)) hd
  intro fuel
  induction fuel with
  | zero =>
    intro listed a w hsz hc hst hS hsp _ _
    have hr : Region.ready .any ops listed = [] := by
      have h0 : ((List.range ops.size).filter fun i => !listed.getD i true) = [] := List.eq_nil_of_length_eq_zero (by omega)
      unfold Region.ready
      rw [List.filter_eq_nil_iff] at h0 ⊢
      intro i hi
      have := h0 i hi
      simp only [Bool.not_eq_true] at this ⊢
      rw [this, Bool.false_and]
    exact ⟨hr, hfin listed a w hsz hst hS hsp hr⟩
  | succ fuel ih =>
    intro listed a w hsz hc hst hS hsp hun0 hcl
    refine ⟨hfin listed a w hsz hst hS hsp, fun i hi => ?_⟩
    unfold Region.ready at hi
    rw [List.mem_filter, List.mem_range] at hi
    obtain ⟨hilt, hi2⟩ := hi
    rw [Array.getElem?_eq_getElem hilt] at hi2
    simp only [Bool.and_eq_true, Option.map_some, Option.getD_some, Array.all_eq_true_iff_forall_mem] at hi2
    obtain ⟨hun, hdeps⟩ := hi2
    obtain ⟨d, hd, hdl⟩ := hdst' ops[i] (by simp)
    have hdi : dstOf ops i = some d := by unfold dstOf; rw [Array.getElem?_eq_getElem hilt]; exact hd
    have hthis := each.at_ i ops[i] (by simp [hilt])
    rw [Nat.zero_add] at hthis
    have hni : listed.getD i false = false := by
      have hl : listed.getD i true = false := by simpa using hun
      rw [Array.getD_eq_getD_getElem?, Array.getElem?_eq_getElem (by omega)] at hl ⊢
      simpa using hl
    have hold : ∀ t, (laterOf ops i).contains t = true → a.tmps.getD t undef = a0.tmps.getD t undef := fun t ht => by
      unfold laterOf at ht
      obtain ⟨o, ho, hot⟩ := List.mem_filterMap.1 (List.contains_iff_mem.1 ht)
      rw [List.mem_filter] at ho
      obtain ⟨j, hj, hje⟩ := List.mem_iff_getElem.1 ho.1
      have hj' : j < ops.size := by simpa using hj
      have hjo : ops[j]? = some o := by rw [Array.getElem?_eq_getElem hj', ← hje]; simp
      have hdj : dstOf ops j = some t := by unfold dstOf; rw [hjo]; exact hot
      refine hun0 j t hj' ?_ hdj
      rw [Bool.eq_false_iff]
      intro hlj
      obtain ⟨e, he, h2⟩ := Array.any_eq_true'.1 ho.2
      simp only [Bool.and_eq_true, beq_iff_eq] at h2
      have := hcl j o hlj hjo e he h2.1
      rw [h2.2, hni] at this
      cases this
    have hor := hthis a w ⟨hst, hold⟩ hS (fun t ht => by
      unfold waitsFor at ht
      obtain ⟨e, he, het⟩ := List.mem_filterMap.1 (List.contains_iff_mem.1 ht)
      rw [List.mem_filter] at he
      have := hdeps e (by simpa using he.1)
      rw [he.2] at this
      exact hsp e.on t (by simpa using this) het)
    have key : ∀ a' w', Goes S Sp a (ops[i]).dst w a' w' → wpAny P .any ops Q fuel (listed.setIfInBounds i true) a' w' := by
      rintro a' w' ⟨v, rfl, hS', hb, hsp'⟩
      have hval : ((a.put (ops[i]).dst v).tmps.getD d undef) = v := by
        rw [hd]
        simp only [Act.put]
        rw [Array.getD_eq_getD_getElem?, Array.getElem?_setIfInBounds_self_of_lt (by rw [hst.size]; exact hdl)]
        rfl
      have hoth : ∀ t, t ≠ d → (a.put (ops[i]).dst v).tmps.getD t undef = a.tmps.getD t undef := fun t ht => by
        rw [hd]
        simp only [Act.put]
        rw [Array.getD_eq_getD_getElem?, Array.getD_eq_getD_getElem?, Array.getElem?_setIfInBounds_ne (fun h => ht h.symm)]
      have hset : ∀ j, j ≠ i → (listed.setIfInBounds i true).getD j false = listed.getD j false := fun j hji => by
        rw [Array.getD_eq_getD_getElem?, Array.getElem?_setIfInBounds_ne (fun h => hji h.symm), ← Array.getD_eq_getD_getElem?]
      have hseti : (listed.setIfInBounds i true).getD i false = true := by
        rw [Array.getD_eq_getD_getElem?, Array.getElem?_setIfInBounds_self_of_lt (by omega)]; rfl
      refine ih _ _ _ (by simp [hsz]) ?_ ⟨by rw [hd]; simp [Act.put, hst.size], by rw [hd]; simp [Act.put, hst.defers], fun t ht => ?_⟩ hS' (fun j dj hj hdj => ?_) (fun j dj hj hlj hdj => ?_) (fun j o hlj hjo e he hb2 => ?_)
      · have hl : listed.getD i true = false := by simpa using hun
        have := filter_lt (l := List.range ops.size) (p := fun j => !listed.getD j true) (q := fun j => !(listed.setIfInBounds i true).getD j true) (fun x hx => by
          by_cases hxi : i = x
          · subst hxi
            rw [Array.getD_eq_getD_getElem?, Array.getElem?_setIfInBounds_self_of_lt (by omega)] at hx
            simp at hx
          · rw [Array.getD_eq_getD_getElem?, Array.getElem?_setIfInBounds_ne hxi, ← Array.getD_eq_getD_getElem?] at hx
            exact hx) (i := i) (List.mem_range.2 hilt) (by simp [hl]) (by
            rw [Array.getD_eq_getD_getElem?, Array.getElem?_setIfInBounds_self_of_lt (by omega)]; simp)
        omega
      · rw [hoth t, hst.out t ht]
        rintro rfl
        have : (dstsOf ops).contains t = true := List.contains_iff_mem.2 (List.mem_of_getElem? (by rw [hget, hdi]))
        rw [this] at ht
        cases ht
      · by_cases hji : j = i
        · subst hji
          rw [hdi] at hdj
          injection hdj with hdj
          subst hdj
          rw [hval]
          exact hsp' d hd
        · have hne : dj ≠ d := fun e => hji (hinj j i d (e ▸ hdj) hdi)
          rw [hoth dj hne]
          refine (Sp dj).st _ _ _ (hsp j dj ?_ hdj) hb
          rw [Array.getD_eq_getD_getElem?, Array.getElem?_setIfInBounds_ne (fun h => hji h.symm), ← Array.getD_eq_getD_getElem?] at hj
          exact hj
      · have hji : j ≠ i := fun h => by rw [h, hseti] at hlj; cases hlj
        rw [hset j hji] at hlj
        rw [hoth dj (fun e => hji (hinj j i d (e ▸ hdj) hdi))]
        exact hun0 j dj hj hlj hdj
      · have hon : listed.getD e.on false = true := by
          by_cases hji : j = i
          · subst hji
            rw [Array.getElem?_eq_getElem hilt] at hjo
            injection hjo with hjo
            subst hjo
            have := hdeps e he
            rw [hb2] at this
            simpa using this
          · rw [hset j hji] at hlj
            exact hcl j o hlj hjo e he hb2
        by_cases hei : e.on = i
        · rw [hei]; exact hseti
        · rw [hset _ hei]; exact hon
    unfold wpOp
    simp only [Array.getElem?_eq_getElem hilt]
    rcases hor with ⟨hw, hwp⟩ | ⟨hw, hS', hsp'⟩
    · simp only [wants hw, if_true]
      exact .inl (Oper.wp_mono (fun a' w' h => key a' w' h) hwp)
    · rw [wants_not hw]
      simp only [Bool.false_eq_true, if_false]
      exact key _ _ ⟨undef, rfl, hS', Below.refl _ _, hsp'⟩

theorem wp_region_specs2 {id : Nat} {a0 : Act} {w0 : World} (S : World → Prop) (Sp : List (Nat × Stb)) (hm : P.follows .mixedOrders = true) (hok : regOk ops a0.tmps.size = true) (hS : S w0.drew)
    (each : EachOp (OkOp2 P ops Q S (Stb.find Sp) a0) 0 ops.toList)
    (fin : ∀ a w, Stand ops a0 a → S w → (∀ t, (dstsOf ops).contains t = true → (Stb.find Sp t).p (a.tmps.getD t undef) w) → Q .normal a w) :
    (Code.region id ops true).wp P Q a0 w0 :=
  wp_region_any hm (wpAny_specs2 S (Stb.find Sp) a0 hok each fin _ _ _ _ (by simp) (by
    refine Nat.le_trans (List.length_filter_le _ _) (by simp)) ⟨rfl, rfl, fun _ _ => rfl⟩ hS (fun i d h => by
    exfalso
    rw [Array.getD_eq_getD_getElem?, Array.getElem?_replicate] at h
    split at h <;> simp at h) (fun _ _ _ _ _ => rfl) (fun j o h => by
    exfalso
    rw [Array.getD_eq_getD_getElem?, Array.getElem?_replicate] at h
    split at h <;> simp at h))
end
end

/- LexTells: the tokens of any statement, whether any token may be, and what is written of tokens are as the document says: the walk. -/
section
open Go.RowKit
set_option maxRecDepth 100000

theorem step_size {l : List UInt8} (h : l ≠ []) : (∀ m, stepF l = .skip m → m ≤ l.length) ∧ ∀ k t m, stepF l = .tok k t m → m ≤ l.length := by
  cases l with
  | nil => exact absurd rfl h
  | cons c r =>
    rw [stepF]
    by_cases h1 : blankF c = true
    · rw [if_pos h1]
      exact ⟨fun m e => by injection e with e; simp; omega, fun k t m e => by cases e⟩
    rw [if_neg h1]
    by_cases h2 : isLineF (c :: r) = true
    · rw [if_pos h2]
      refine ⟨fun m e => ?_, fun k t m e => by cases e⟩
      injection e with e
      subst e
      unfold lineF
      split
      · exact Nat.le_refl _
      · have := indexByte_lt (l := c :: r) (c := 10) (by omega)
        omega
    rw [if_neg h2]
    by_cases h3 : isRemarkF (c :: r) = true
    · rw [if_pos h3]
      have h2a : begF [47, 42] (c :: r) = true := by
        unfold isRemarkF at h3
        simp only [Bool.and_eq_true] at h3
        exact h3.1
      have h5 := (List.isPrefixOf_iff_prefix.1 h2a).length_le
      have := (closedF_le (c :: r) 2 (by simpa using h5)).1
      split
      · exact ⟨fun m e => (by cases e), fun k t m e => by cases e⟩
      · exact ⟨fun m e => (by injection e with e; omega), fun k t m e => by cases e⟩
    rw [if_neg h3]
    cases hf : firstF (c :: r) with
    | none => exact ⟨fun m e => (by cases e), fun k t m e => by cases e⟩
    | some x =>
      obtain ⟨k, t, n⟩ := x
      have := (firstF_size k t n hf).2
      refine ⟨fun m e => (by cases e), fun k' t' m e => ?_⟩
      simp only [Step.tok.injEq] at e
      omega
theorem lexF_len : ∀ (n : Nat) (l : List UInt8) (x : List (Int × List UInt8)), l.length ≤ n → lexF l = some x → x.length ≤ l.length := by
  intro n
  induction n with
  | zero =>
    intro l x hl h
    obtain rfl : l = [] := List.eq_nil_of_length_eq_zero (by omega)
    rw [lexF_nil] at h
    injection h with h
    subst h
    exact Nat.le_refl _
  | succ n ih =>
    intro l x hl h
    by_cases hne : l = []
    · subst hne
      rw [lexF_nil] at h
      injection h with h
      subst h
      exact Nat.le_refl _
    obtain ⟨hs1, hs2⟩ := step_size hne
    cases hst : stepF l with
    | bad => rw [lexF_bad hne hst] at h; cases h
    | skip m =>
      by_cases hm : m = 0
      · rw [lexF, dif_neg hne, hst] at h
        simp [hm] at h
      · rw [lexF_skip hne hst hm] at h
        have := ih (l.drop m) x (by rw [List.length_drop]; omega) h
        rw [List.length_drop] at this
        omega
    | tok k t m =>
      have hml := hs2 k t m hst
      by_cases hm : m = 0
      · rw [lexF, dif_neg hne, hst] at h
        simp [hm] at h
      · rw [lexF_tok hne hst hm] at h
        obtain ⟨y, hy, rfl⟩ := Option.map_eq_some_iff.1 h
        have := ih (l.drop m) y (by rw [List.length_drop]; omega) hy
        rw [List.length_drop] at this
        simp
        omega
theorem lexA_len (l : List UInt8) : (lexA l).1.length ≤ 200 := by
  unfold lexA
  split
  · simp
  · cases h : lexF l with
    | none => simp
    | some x =>
      have := lexF_len l.length l x (Nat.le_refl _) h
      simp
      omega

/-- a row of tokens, as a fact of a value -/
def trStb (n : Nat) (ts : List Tk) : Stb := ⟨fun v u => ∃ B d, v = .slice B n d ∧ TR u B n ts, fun _ _ _ ⟨B, d, h, r⟩ hb => ⟨B, d, h, r.next hb⟩⟩

theorem sumT_mem {ts : List Tk} {t : Tk} (h : t ∈ ts) : t.t.size ≤ sumT ts := by
  obtain ⟨k, hk, rfl⟩ := List.mem_iff_getElem.1 h
  have := sumT_at hk
  omega
end

/- What tokens are, as a statement: plain functions of lists of tokens (no function of the program is named here). -/
section
abbrev Tok := Int × List UInt8

def stopF (t : Tok) : Bool := decide (t.1 = 6) && decide (t.2 = [59])
def isHintF (t : Tok) : Bool := decide (t.1 = 5)
def wordF (ws : List (List UInt8)) (t : Tok) : Bool := decide (t.1 = 1) && decide (t.2 ∈ ws)
def hasF (l : List Tok) (ws : List (List UInt8)) : Bool := l.any (wordF ws)
def headF (l : List Tok) (ws : List (List UInt8)) : Bool := (l.head?.map (wordF ws)).getD false
def bareF (l : List Tok) (ws : List (List UInt8)) : Bool := decide (l.length = 0) || (decide (l.length = 1) && headF l ws)

/- the words -/
def wSHOW : List UInt8 := [83, 72, 79, 87]
def wDESCRIBE : List UInt8 := [68, 69, 83, 67, 82, 73, 66, 69]
def wDESC : List UInt8 := [68, 69, 83, 67]
def wEXPLAIN : List UInt8 := [69, 88, 80, 76, 65, 73, 78]
def wINSERT : List UInt8 := [73, 78, 83, 69, 82, 84]
def wUPDATE : List UInt8 := [85, 80, 68, 65, 84, 69]
def wDELETE : List UInt8 := [68, 69, 76, 69, 84, 69]
def wREPLACE : List UInt8 := [82, 69, 80, 76, 65, 67, 69]
def wCREATE : List UInt8 := [67, 82, 69, 65, 84, 69]
def wDROP : List UInt8 := [68, 82, 79, 80]
def wALTER : List UInt8 := [65, 76, 84, 69, 82]
def wTRUNCATE : List UInt8 := [84, 82, 85, 78, 67, 65, 84, 69]
def wGRANT : List UInt8 := [71, 82, 65, 78, 84]
def wREVOKE : List UInt8 := [82, 69, 86, 79, 75, 69]
def wCALL : List UInt8 := [67, 65, 76, 76]
def wLOCK : List UInt8 := [76, 79, 67, 75]
def wSELECT : List UInt8 := [83, 69, 76, 69, 67, 84]
def wVALUES : List UInt8 := [86, 65, 76, 85, 69, 83]
def wTABLE : List UInt8 := [84, 65, 66, 76, 69]
def wWITH : List UInt8 := [87, 73, 84, 72]
def wBEGIN : List UInt8 := [66, 69, 71, 73, 78]
def wSTART : List UInt8 := [83, 84, 65, 82, 84]
def wCOMMIT : List UInt8 := [67, 79, 77, 77, 73, 84]
def wROLLBACK : List UInt8 := [82, 79, 76, 76, 66, 65, 67, 75]
def wSET : List UInt8 := [83, 69, 84]
def wINTO : List UInt8 := [73, 78, 84, 79]
def wSHARE : List UInt8 := [83, 72, 65, 82, 69]
def wWORK : List UInt8 := [87, 79, 82, 75]
def wTRANSACTION : List UInt8 := [84, 82, 65, 78, 83, 65, 67, 84, 73, 79, 78]
def wANALYZE : List UInt8 := [65, 78, 65, 76, 89, 90, 69]
def wANALYSE : List UInt8 := [65, 78, 65, 76, 89, 83, 69]
def wAUTOCOMMIT : List UInt8 := [65, 85, 84, 79, 67, 79, 77, 77, 73, 84]
def wGLOBAL : List UInt8 := [71, 76, 79, 66, 65, 76]
def wPERSIST : List UInt8 := [80, 69, 82, 83, 73, 83, 84]

/-- the words that begin statements, and their families -/
def famL : List (List UInt8 × Int) :=
  [(wSHOW, 1), (wDESCRIBE, 1), (wDESC, 1), (wEXPLAIN, 2), (wINSERT, 3), (wUPDATE, 3), (wDELETE, 3), (wREPLACE, 3), (wCREATE, 3), (wDROP, 3), (wALTER, 3), (wTRUNCATE, 3), (wGRANT, 3), (wREVOKE, 3), (wCALL, 3), (wLOCK, 3),
   (wSELECT, 4), (wVALUES, 4), (wTABLE, 4), (wWITH, 5), (wBEGIN, 6), (wSTART, 7), (wCOMMIT, 8), (wROLLBACK, 9), (wSET, 10)]
def famF (x : List UInt8) : Int := ((famL.reverse.find? fun p => decide (p.1 = x)).map Prod.snd).getD 0

def six : List (List UInt8) := [wINSERT, wUPDATE, wDELETE, wREPLACE, wINTO, wSHARE]
def selF (rest : List Tok) (reads : Bool) : Int := if hasF rest six then 2 else if reads then 1 else 7
def ifF (c : Int) (b : Bool) : Int := if b then c else 7

/-- an EXPLAIN's class, of what is behind it, and of that's class -/
def exF (rest : List Tok) (c : Int) : Int := if headF rest [wANALYZE, wANALYSE] then (if c = 2 then 2 else if c = 7 then 7 else 1) else 1
/-- the class by the family of the first word -/
def famB (v : Int) (rest : List Tok) (ex : Int) : Int :=
  if v = 1 then 1
  else if v = 2 then ex
  else if v = 3 then 2
  else if v = 4 then selF rest true
  else if v = 5 then selF rest (hasF rest [wSELECT])
  else if v = 6 then ifF 3 (bareF rest [wWORK, wTRANSACTION])
  else if v = 7 then ifF 3 (headF rest [wTRANSACTION])
  else if v = 8 then ifF 4 (bareF rest [wWORK])
  else if v = 9 then ifF 5 (bareF rest [wWORK])
  else if v = 10 then ifF 6 (!headF rest [wAUTOCOMMIT, wGLOBAL, wPERSIST])
  else 7
/-- the class of tokens -/
def classF : List Tok → Int
  | [] => 7
  | t :: rest => if decide (t.1 ≠ 1) || (t :: rest).any stopF then 7 else famB (famF t.2) rest (exF rest (classF (rest.drop 1)))
termination_by l => l.length
decreasing_by
  simp only [List.length_drop, List.length_cons]
  omega
theorem classF_nil : classF [] = 7 := by rw [classF]
theorem classF_no {t : Tok} {r : List Tok} (h : t.1 ≠ 1 ∨ (t :: r).any stopF = true) : classF (t :: r) = 7 := by
  rw [classF]
  have : (decide (t.1 ≠ 1) || (t :: r).any stopF) = true := by
    rcases h with h | h
    · rw [decide_eq_true h]; rfl
    · rw [h]; simp
  rw [this, if_pos rfl]
theorem classF_word {t : Tok} {r : List Tok} (h : t.1 = 1) (hs : (t :: r).any stopF = false) : classF (t :: r) = famB (famF t.2) r (exF r (classF (r.drop 1))) := by
  rw [classF]
  have : (decide (t.1 ≠ 1) || (t :: r).any stopF) = false := by
    rw [hs, decide_eq_false (by simpa using h)]; rfl
  rw [this]
  rfl

/-- without the signs that end it -/
def endF (l : List Tok) : List Tok := (l.reverse.dropWhile stopF).reverse
theorem endF_nil : endF [] = [] := rfl
theorem endF_stop {l : List Tok} {t : Tok} (h : stopF t = true) : endF (l ++ [t]) = endF l := by simp [endF, h]
theorem endF_last {l : List Tok} {t : Tok} (h : stopF t = false) : endF (l ++ [t]) = l ++ [t] := by simp [endF, h]
def bodyF (l : List Tok) : List Tok := endF (l.filter fun t => !isHintF t)
/-- where it asks to go -/
def asksF : List Tok → Int
  | [] => 0
  | t :: r => if t.1 = 5 ∧ t.2 = [112, 114, 105, 109, 97, 114, 121] then 1 else if t.1 = 5 ∧ t.2 = [114, 101, 112, 108, 105, 99, 97] then 2 else asksF r
end

/- What lexed tokens are like: how long, and words have no blank (no function of the program is named here). -/
section
open Go.RowKit
set_option maxRecDepth 100000

theorem trimF_le (l : List UInt8) : (trimF l).length ≤ l.length := by
  unfold trimF Lib.trimS Lib.trimLeftS Lib.trimRightS
  have h1 := (List.dropWhile_sublist (fun x => blanks4.contains x) (l := (l.reverse.dropWhile (fun x => blanks4.contains x)).reverse)).length_le
  have h2 := (List.dropWhile_sublist (fun x => blanks4.contains x) (l := l.reverse)).length_le
  simp only [List.length_reverse] at h1 h2
  omega

/-- what the first token is like -/
def okTok (t : Tok) (n : Nat) : Prop := t.2.length ≤ n ∧ (t.1 = 1 → t.2 ≠ [] ∧ (32 : UInt8) ∉ t.2)

theorem up_blank (c : UInt8) (h : lodF c = true) : upF c ≠ 32 := by
  have := by_all (fun c => !lodF c || decide (upF c ≠ 32)) (by decide +kernel) c
  rw [h] at this
  simpa using this

theorem firstF_ok {l : List UInt8} {k : Nat} {t : List UInt8} {n : Nat} (h : firstF l = some (k, t, n)) : okTok ((k : Int), t) l.length := by
  cases l with
  | nil => simp [firstF] at h
  | cons c r =>
    have hsz := (firstF_size k t n h).2
    simp only [firstF] at h
    unfold okTok
    split at h
    · rename_i hc
      simp only [Option.some.injEq, Prod.mk.injEq] at h
      obtain ⟨rfl, rfl, rfl⟩ := h
      have hl : lodF c = true := by simp [lodF, hc]
      refine ⟨by simp [greatF]; omega, fun _ => ⟨?_, ?_⟩⟩
      · rw [runF_some hl]
        simp [greatF]
      · unfold greatF
        intro hm
        obtain ⟨b, hb, e⟩ := List.mem_map.1 hm
        exact up_blank b (runF_all lodF _ b hb) e
    split at h
    · simp only [Option.some.injEq, Prod.mk.injEq] at h
      obtain ⟨rfl, rfl, rfl⟩ := h
      exact ⟨by simp; omega, fun e => by simp at e⟩
    split at h
    · obtain ⟨x, hx, h⟩ := Option.map_eq_some_iff.1 h
      have := quotedF_le hx
      simp only [Prod.mk.injEq] at h
      obtain ⟨rfl, rfl, rfl⟩ := h
      exact ⟨by simp; omega, fun e => by simp at e⟩
    split at h
    · obtain ⟨x, hx, h⟩ := Option.map_eq_some_iff.1 h
      have := quotedF_le hx
      simp only [Prod.mk.injEq] at h
      obtain ⟨rfl, rfl, rfl⟩ := h
      exact ⟨by simp; omega, fun e => by simp at e⟩
    split at h
    · split at h
      · cases h
      · simp only [Option.some.injEq, Prod.mk.injEq] at h
        obtain ⟨rfl, rfl, rfl⟩ := h
        refine ⟨?_, fun e => by simp at e⟩
        have := trimF_le (((c :: r).take (closedF (c :: r) 3 - 2)).drop 3)
        simp only [List.length_drop, List.length_take] at this ⊢
        omega
    split at h
    · simp only [Option.some.injEq, Prod.mk.injEq] at h
      obtain ⟨rfl, rfl, rfl⟩ := h
      exact ⟨by simp, fun e => by simp at e⟩
    · cases h

theorem step_tok {l : List UInt8} {k : Nat} {t : List UInt8} {n : Nat} (h : stepF l = .tok k t n) : firstF l = some (k, t, n) := by
  cases l with
  | nil => simp [stepF] at h
  | cons c r =>
    rw [stepF] at h
    split at h
    · cases h
    split at h
    · cases h
    split at h
    · split at h <;> cases h
    · split at h
      · cases h
      · rename_i hf
        simp only [Step.tok.injEq] at h
        obtain ⟨rfl, rfl, rfl⟩ := h
        exact hf

theorem lexF_ok : ∀ (n : Nat) (l : List UInt8) (x : List Tok), l.length ≤ n → lexF l = some x → ∀ t ∈ x, okTok t l.length := by
  intro n
  induction n with
  | zero =>
    intro l x hl h
    obtain rfl : l = [] := List.eq_nil_of_length_eq_zero (by omega)
    rw [lexF_nil] at h
    injection h with h
    subst h
    simp
  | succ n ih =>
    intro l x hl h
    by_cases hne : l = []
    · subst hne
      rw [lexF_nil] at h
      injection h with h
      subst h
      simp
    cases hst : stepF l with
    | bad => rw [lexF_bad hne hst] at h; cases h
    | skip m =>
      by_cases hm : m = 0
      · rw [lexF, dif_neg hne, hst] at h
        simp [hm] at h
      · rw [lexF_skip hne hst hm] at h
        have hl0 := List.length_pos_iff.2 hne
        intro t ht
        have := ih (l.drop m) x (by rw [List.length_drop]; omega) h t ht
        rw [List.length_drop] at this
        exact ⟨by have := this.1; omega, this.2⟩
    | tok k t m =>
      by_cases hm : m = 0
      · rw [lexF, dif_neg hne, hst] at h
        simp [hm] at h
      · rw [lexF_tok hne hst hm] at h
        obtain ⟨y, hy, rfl⟩ := Option.map_eq_some_iff.1 h
        have hl0 := List.length_pos_iff.2 hne
        intro t' ht'
        rcases List.mem_cons.1 ht' with rfl | ht'
        · exact firstF_ok (step_tok hst)
        · have := ih (l.drop m) y (by rw [List.length_drop]; omega) hy t' ht'
          rw [List.length_drop] at this
          exact ⟨by have := this.1; omega, this.2⟩
theorem lexA_ok (l : List UInt8) : ∀ t ∈ (lexA l).1, okTok t 200 := by
  unfold lexA
  split
  · simp
  · cases h : lexF l with
    | none => simp
    | some x =>
      intro t ht
      have := lexF_ok l.length l x (Nat.le_refl _) h t ht
      exact ⟨by have := this.1; omega, this.2⟩

/-- a statement's class, and where it asks to go -/
def classA (l : List UInt8) : Int := if (lexA l).2 = 0 then classF (bodyF (lexA l).1) else 0
def asksA (l : List UInt8) : Int := asksF (lexA l).1
theorem lexA_err (l : List UInt8) (h : (lexA l).2 ≠ 0) : (lexA l).1 = [] := by
  unfold lexA at h ⊢
  by_cases h2 : 200 < l.length
  · rw [if_pos h2]
  · rw [if_neg h2] at h ⊢
    cases hf : lexF l with
    | none => rfl
    | some x => rw [hf] at h; exact absurd rfl h
end

/- Tokens come back from what is written of them, whatever stands between: plain mathematics. -/
section
open Go.RowKit
set_option maxRecDepth 100000

theorem blank_parts (b : UInt8) (h : blankF b = true) : lodF b = false ∧ b ≠ 34 ∧ b ≠ 39 ∧ b ≠ 42 ∧ b ≠ 45 ∧ b ≠ 47 := by
  have := by_all (fun b => !blankF b || (!lodF b && (decide (b ≠ 34) && (decide (b ≠ 39) && (decide (b ≠ 42) && (decide (b ≠ 45) && decide (b ≠ 47))))))) (by decide +kernel) b
  rw [h] at this
  simp only [Bool.not_true, Bool.false_or, Bool.and_eq_true, Bool.not_eq_true', decide_eq_true_eq] at this
  exact this
theorem runF_append {p : UInt8 → Bool} : ∀ (t : List UInt8) (b : UInt8) (r : List UInt8), runF p t = t.length → p b = false → runF p (t ++ b :: r) = t.length
  | [], b, r, _, hb => runF_none hb
  | c :: t, b, r, h, hb => by
    have hc : p c = true := by
      cases hp : p c with
      | true => rfl
      | false => rw [runF_none hp] at h; simp at h
    rw [runF_some hc] at h
    rw [List.cons_append, runF_some hc, runF_append t b r (by simpa using h) hb]
    rfl
theorem beg_snd {a b c d : UInt8} {r : List UInt8} (h : d ≠ b) : begF [a, b] (c :: d :: r) = false := by
  cases hb : begF [a, b] (c :: d :: r) with
  | false => rfl
  | true =>
    unfold begF Lib.hasPrefix at hb
    rw [List.isPrefixOf, List.isPrefixOf] at hb
    simp at hb
    exact absurd hb.2.symm h
theorem beg3_snd {a b e c d : UInt8} {r : List UInt8} (h : d ≠ b) : begF [a, b, e] (c :: d :: r) = false := by
  cases hb : begF [a, b, e] (c :: d :: r) with
  | false => rfl
  | true =>
    unfold begF Lib.hasPrefix at hb
    rw [List.isPrefixOf, List.isPrefixOf] at hb
    simp at hb
    exact absurd hb.2.1.symm h

theorem quoted_back (q : UInt8) : ∀ (t r : List UInt8), r[0]? ≠ some q → quotedF q (twiceF q t ++ q :: r) = some (t, (twiceF q t).length + 1)
  | [], r, h => by
    rw [twiceF, List.nil_append, quotedF_ends h]
    rfl
  | b :: t, r, h => by
    have ih := quoted_back q t r h
    rw [twiceF]
    split
    · rename_i hb
      subst hb
      rw [List.cons_append, List.cons_append, quotedF_twice, ih]
      simp
    · rename_i hb
      rw [List.cons_append, quotedF_other hb, ih]
      simp

theorem index_behind : ∀ (t : List UInt8) (x : UInt8) (r : List UInt8), Lib.index t ends2 = -1 → x ≠ 47 → 0 ≤ Lib.index (x :: r) ends2 → Lib.index (t ++ x :: r) ends2 = (t.length : Int) + Lib.index (x :: r) ends2
  | [], x, r, _, _, _ => by simp
  | b :: t, x, r, h, hx, h0 => by
    have hb : ends2.isPrefixOf (b :: t) = false := by
      cases hp : ends2.isPrefixOf (b :: t) with
      | false => rfl
      | true => rw [Lib.index, hp] at h; simp at h
    have ht : Lib.index t ends2 = -1 := by
      rw [Lib.index, hb] at h
      simp only [Bool.false_eq_true, if_false] at h
      split at h
      · rename_i h1; simpa using h1
      · have := Lib.index_ge t ends2
        omega
    have hb2 : ends2.isPrefixOf (b :: (t ++ x :: r)) = false := by
      cases hp : ends2.isPrefixOf (b :: (t ++ x :: r)) with
      | false => rfl
      | true =>
        exfalso
        unfold ends2 at hp hb
        cases t with
        | nil =>
          rw [List.nil_append, List.isPrefixOf, List.isPrefixOf] at hp
          simp at hp
          exact hx hp.2.symm
        | cons d t =>
          rw [List.cons_append, List.isPrefixOf, List.isPrefixOf] at hp
          rw [List.isPrefixOf, List.isPrefixOf] at hb
          simp at hp hb
          exact hb hp.1 hp.2
    have ih := index_behind t x r ht hx h0
    rw [List.cons_append, Lib.index, hb2, ih]
    simp only [Bool.false_eq_true, if_false]
    rw [if_neg (by simp only [beq_iff_eq]; omega)]
    simp
    omega
theorem index_here (r : List UInt8) : Lib.index (42 :: 47 :: r) ends2 = 0 := by
  rw [Lib.index, if_pos (by simp [ends2, List.isPrefixOf])]

theorem trim_spaces (t : List UInt8) : trimF (32 :: t ++ [32]) = trimF t := by
  rw [trimF_R, trimF_R]
  have e1 : trimR (32 :: t ++ [32]) = rtrim blankF ((t ++ [32]).dropWhile blankF) := by
    unfold trimR rtrim
    rw [List.cons_append, dropWhile_front (by decide)]
  have e2 : trimR t = rtrim blankF (t.dropWhile blankF) := rfl
  rw [e1, e2, ← trim_sides, ← trim_sides, rtrim_front (by decide)]

theorem no_end (t : List UInt8) (h : Lib.contains t ends2 = false) : Lib.index t ends2 = -1 := by
  unfold Lib.contains at h
  have h2 : ¬ 0 ≤ Lib.index t ends2 := by simpa using h
  have := Lib.index_ge t ends2
  omega

theorem step_of_first (c : UInt8) (r : List UInt8) (h : skipF (c :: r) = 0) {k : Nat} {t : List UInt8} {n : Nat} (hf : firstF (c :: r) = some (k, t, n)) : stepF (c :: r) = .tok k t n := by
  rw [(step_first c r h).2.2, hf]

/-- what is written of a token, and a blank behind: that token comes first -/
theorem step_written (k : Int) (t : List UInt8) (hr : rightF k t = true) (b : UInt8) (hb : blankF b = true) (rest : List UInt8) :
    stepF (writtenF k t ++ b :: rest) = .tok k.toNat t (writtenF k t).length ∧ writtenF k t ≠ [] := by
  obtain ⟨bl, b34, b39, b42, b45, b47⟩ := blank_parts b hb
  rcases right_kind hr with rfl | rfl | rfl | rfl | rfl | rfl
  · have hw : writtenF 1 t = t := rfl
    rw [hw]
    have hF : rightWordF t = true := hr
    cases t with
    | nil => simp [rightWordF] at hF
    | cons c r =>
      simp only [rightWordF, Bool.and_eq_true, decide_eq_true_eq] at hF
      obtain ⟨h1, h2, h3⟩ := hF
      have hlod : lodF c = true := by simp [lodF, h1]
      have hrun := runF_append (p := lodF) (c :: r) b rest h2 bl
      rw [List.cons_append] at hrun ⊢
      refine ⟨step_of_first c _ (skip_lod c _ hlod) ?_, by simp⟩
      simp only [firstF, h1, if_true]
      rw [hrun]
      have e1 : (c :: (r ++ b :: rest)).take (c :: r).length = c :: r := by
        rw [← List.cons_append, List.take_left']
        rfl
      rw [e1, h3]
      rfl
  · have hw : writtenF 2 t = 34 :: (twiceF 34 t ++ [34]) := rfl
    rw [hw]
    have hs : skipF (34 :: (twiceF 34 t ++ [34] ++ b :: rest)) = 0 := skip_plain _ _ (by decide) (beg_not (by decide)) (by decide) (beg_not (by decide))
    refine ⟨?_, by simp⟩
    rw [List.cons_append]
    refine step_of_first _ _ hs ?_
    simp only [firstF]
    rw [if_neg (by decide), if_neg (by decide), if_pos (by decide), List.append_assoc]
    have := quoted_back 34 t (b :: rest) (by simpa using b34)
    rw [List.singleton_append, this]
    simp
  · have hw : writtenF 3 t = 39 :: (twiceF 39 t ++ [39]) := rfl
    rw [hw]
    have hs : skipF (39 :: (twiceF 39 t ++ [39] ++ b :: rest)) = 0 := skip_plain _ _ (by decide) (beg_not (by decide)) (by decide) (beg_not (by decide))
    refine ⟨?_, by simp⟩
    rw [List.cons_append]
    refine step_of_first _ _ hs ?_
    simp only [firstF]
    rw [if_neg (by decide), if_neg (by decide), if_neg (by decide), if_pos (by decide), List.append_assoc]
    have := quoted_back 39 t (b :: rest) (by simpa using b39)
    rw [List.singleton_append, this]
    simp
  · have hw : writtenF 4 t = t := rfl
    rw [hw]
    have hF : (decide (t ≠ []) && decide (runF digitF t = t.length)) = true := hr
    simp only [Bool.and_eq_true, decide_eq_true_eq] at hF
    cases t with
    | nil => exact absurd rfl hF.1
    | cons c r =>
      have h2 := hF.2
      have hd : digitF c = true := by
        cases hp : digitF c with
        | true => rfl
        | false => rw [runF_none hp] at h2; simp at h2
      have hlod : lodF c = true := by simp [lodF, hd]
      have hbd : digitF b = false := by
        cases hp : digitF b with
        | false => rfl
        | true => simp [lodF, hp] at bl
      have hrun := runF_append (p := digitF) (c :: r) b rest h2 hbd
      rw [List.cons_append] at hrun ⊢
      refine ⟨step_of_first c _ (skip_lod c _ hlod) ?_, by simp⟩
      simp only [firstF, digit_no_letter c hd, hd, Bool.false_eq_true, if_false, if_true]
      rw [hrun]
      have e1 : (c :: (r ++ b :: rest)).take (c :: r).length = c :: r := by
        rw [← List.cons_append, List.take_left']
        rfl
      rw [e1]
      rfl
  · have hF : (!Lib.contains t ends2 && decide (trimF t = t)) = true := hr
    simp only [Bool.and_eq_true, Bool.not_eq_true', decide_eq_true_eq] at hF
    have hw : writtenF 5 t ++ b :: rest = 47 :: (42 :: 43 :: 32 :: (t ++ 32 :: 42 :: 47 :: b :: rest)) := by simp [writtenF]
    have hwl : (writtenF 5 t).length = t.length + 7 := by simp [writtenF]
    have hidx : Lib.index (32 :: (t ++ 32 :: 42 :: 47 :: b :: rest)) ends2 = (t.length : Int) + 2 := by
      have h1 := index_behind t 32 (42 :: 47 :: b :: rest) (no_end t hF.1) (by decide) (by
        have := index_behind [32] 42 (47 :: b :: rest) (by decide) (by decide) (by rw [index_here]; omega)
        rw [List.singleton_append, index_here] at this
        rw [this]; simp)
      have h2 := index_behind [32] 42 (47 :: b :: rest) (by decide) (by decide) (by rw [index_here]; omega)
      rw [List.singleton_append, index_here] at h2
      rw [h2] at h1
      rw [Lib.index, if_neg (by simp [ends2, List.isPrefixOf]), h1, if_neg (by simp only [beq_iff_eq]; simp; omega)]
      simp
      omega
    have hbeg : begF [47, 42, 43] (47 :: (42 :: 43 :: 32 :: (t ++ 32 :: 42 :: 47 :: b :: rest))) = true := by simp [begF, Lib.hasPrefix, List.isPrefixOf]
    have hcl : closedF (47 :: (42 :: 43 :: 32 :: (t ++ 32 :: 42 :: 47 :: b :: rest))) 3 = t.length + 7 := by
      unfold closedF
      simp only [List.drop_succ_cons, List.drop_zero]
      rw [hidx, if_neg (by omega)]
      omega
    have hs : skipF (47 :: (42 :: 43 :: 32 :: (t ++ 32 :: 42 :: 47 :: b :: rest))) = 0 := by
      have hrm : isRemarkF (47 :: (42 :: 43 :: 32 :: (t ++ 32 :: 42 :: 47 :: b :: rest))) = false := by unfold isRemarkF; rw [hbeg]; simp
      have hln : isLineF (47 :: (42 :: 43 :: 32 :: (t ++ 32 :: 42 :: 47 :: b :: rest))) = false := by
        show (decide ((47 : UInt8).toNat = 35) || begF [45, 45] _) = false
        rw [beg_not (by decide)]
        decide
      rw [skipF, if_neg (by decide), hrm, hln]
      rfl
    refine ⟨?_, by intro e; rw [e] at hwl; simp at hwl⟩
    rw [hw, hwl]
    refine step_of_first _ _ hs ?_
    simp only [firstF]
    rw [if_neg (by decide), if_neg (by decide), if_neg (by decide), if_neg (by decide), if_pos hbeg, hcl, if_neg (by omega)]
    have e1 : ((47 :: (42 :: 43 :: 32 :: (t ++ 32 :: 42 :: 47 :: b :: rest))).take (t.length + 7 - 2)).drop 3 = 32 :: t ++ [32] := by
      rw [show t.length + 7 - 2 = (t.length + 1) + 1 + 1 + 1 + 1 from by omega]
      simp only [List.take_succ_cons, List.drop_succ_cons, List.drop_zero]
      have e2 : t ++ 32 :: 42 :: 47 :: b :: rest = (t ++ [32]) ++ 42 :: 47 :: b :: rest := by simp
      rw [e2, List.take_left' (by simp)]
      rfl
    rw [e1, trim_spaces, hF.2]
    rfl
  · have hw : writtenF 6 t = t := rfl
    rw [hw]
    cases t with
    | nil => exact absurd hr (by decide)
    | cons c r =>
      cases r with
      | cons d r =>
        have hF : false = true := hr
        cases hF
      | nil =>
        have hF : signF c = true := hr
        obtain ⟨g1, g2, g3, g4, g5, g6, g7, g8⟩ := (sign_parts c).1 hF
        have hs : skipF (c :: b :: rest) = 0 := skip_plain _ _ (blank_lt c g1) (beg_snd b42) g8 (beg_snd b45)
        refine ⟨step_of_first c _ hs ?_, by simp⟩
        simp only [firstF, g3, g4, Bool.false_eq_true, if_false]
        rw [if_neg (by omega), if_neg g7, if_neg (by rw [beg3_snd b42]; simp), if_pos hF]
        rfl

/-- a gap: a blank first, and nothing is told of it -/
structure Gap (g : List UInt8) : Prop where
  head : ∃ b g', g = b :: g' ∧ blankF b = true
  none_ : ∀ rest, lexF (g ++ rest) = lexF rest

theorem lex_back {g : List UInt8} (hg : Gap g) : ∀ ts : List (Int × List UInt8), (∀ t ∈ ts, rightF t.1 t.2 = true) → lexF (ts.flatMap fun t => writtenF t.1 t.2 ++ g) = some ts
  | [], _ => by rw [List.flatMap_nil, lexF_nil]
  | t :: ts, h => by
    have ih := lex_back hg ts (fun x hx => h x (List.mem_cons_of_mem _ hx))
    have ht := h t (by simp)
    obtain ⟨b, g', rfl, hb⟩ := hg.head
    obtain ⟨hs, hne⟩ := step_written t.1 t.2 ht b hb (g' ++ ts.flatMap fun t => writtenF t.1 t.2 ++ b :: g')
    have hk : ((t.1.toNat : Nat) : Int) = t.1 := by have := right_kind ht; omega
    have e1 : ((t :: ts).flatMap fun t => writtenF t.1 t.2 ++ b :: g') = writtenF t.1 t.2 ++ b :: (g' ++ ts.flatMap fun t => writtenF t.1 t.2 ++ b :: g') := by simp
    rw [e1, lexF_tok (by simp) hs (by intro e; exact hne (List.eq_nil_of_length_eq_zero e)), List.drop_left', ← List.cons_append, hg.none_, ih, hk]
    · rfl
    · rfl
end

/- Letters' greatness changes no token where nothing is quoted: plain mathematics. -/
section
open Go.RowKit
set_option maxRecDepth 100000

/-- a change of letters' greatness -/
structure Fold (u : UInt8 → UInt8) : Prop where
  keeps : ∀ c, letterF c = false → u c = c
  letter : ∀ c, letterF c = true → letterF (u c) = true
  up : ∀ c, upF (u c) = upF c
theorem Fold.letterF {u : UInt8 → UInt8} (h : Fold u) (c : UInt8) : Go.Proofs.YtaimmdhjfccnkaaDoor.letterF (u c) = Go.Proofs.YtaimmdhjfccnkaaDoor.letterF c := by
  cases hl : Go.Proofs.YtaimmdhjfccnkaaDoor.letterF c with
  | true => exact h.letter c hl
  | false => rw [h.keeps c hl, hl]
theorem Fold.same {u : UInt8 → UInt8} (h : Fold u) (P : UInt8 → Bool) (hP : ∀ c, Go.Proofs.YtaimmdhjfccnkaaDoor.letterF c = true → P c = false) (c : UInt8) : P (u c) = P c := by
  cases hl : Go.Proofs.YtaimmdhjfccnkaaDoor.letterF c with
  | true => rw [hP c hl, hP _ (h.letter c hl)]
  | false => rw [h.keeps c hl]
theorem not_letter (P : UInt8 → Bool) (h : ∀ c, (!(letterF c && P c)) = true) : ∀ c, letterF c = true → P c = false := fun c hl => by
  have := h c
  rw [hl] at this
  simpa using this
theorem Fold.lod {u : UInt8 → UInt8} (h : Fold u) (c : UInt8) : lodF (u c) = lodF c := by
  unfold lodF
  rw [h.letterF, h.same digitF (not_letter _ (by_all _ (by decide +kernel)))]
theorem runF_map {u : UInt8 → UInt8} {p : UInt8 → Bool} (h : ∀ c, p (u c) = p c) : ∀ l, runF p (l.map u) = runF p l
  | [] => rfl
  | c :: r => by rw [List.map_cons, runF, runF, h c, runF_map h r]
theorem greatF_map {u : UInt8 → UInt8} (h : Fold u) (l : List UInt8) : greatF (l.map u) = greatF l := by
  unfold greatF
  rw [List.map_map]
  exact List.map_congr_left fun c _ => h.up c
theorem indexByte_map {u : UInt8 → UInt8} (h : ∀ c, (u c == 10) = (c == 10)) : ∀ l, Lib.indexByte (l.map u) 10 = Lib.indexByte l 10
  | [] => rfl
  | c :: r => by rw [List.map_cons, Lib.indexByte, Lib.indexByte, h c, indexByte_map h r]
theorem map_same {u : UInt8 → UInt8} (l : List UInt8) (h : ∀ c ∈ l, u c = c) : l.map u = l := by
  rw [List.map_congr_left h]
  simp

/-- nothing is quoted, and no remark or hint begins -/
def PlainB (l : List UInt8) : Prop := ∀ c ∈ l, c ≠ 34 ∧ c ≠ 39 ∧ c ≠ 96 ∧ c ≠ 42

theorem beg47 (c : UInt8) (r : List UInt8) (h : ∀ d ∈ r, d ≠ 42) : begF [47, 42] (c :: r) = false ∧ begF [47, 42, 43] (c :: r) = false := by
  cases r with
  | nil => simp [begF, Lib.hasPrefix, List.isPrefixOf]
  | cons d r =>
    have hd := h d (by simp)
    exact ⟨beg_snd hd, beg3_snd hd⟩
theorem beg45_map {u : UInt8 → UInt8} (h : Fold u) (c : UInt8) (r : List UInt8) : begF [45, 45] (u c :: r.map u) = begF [45, 45] (c :: r) := by
  have h45 := h.same (fun c => 45 == c) (not_letter _ (by_all _ (by decide +kernel)))
  cases r with
  | nil => simp [begF, Lib.hasPrefix, List.isPrefixOf]
  | cons d r => simp only [begF, Lib.hasPrefix, List.isPrefixOf, List.map_cons, h45]

theorem step_map {u : UInt8 → UInt8} (h : Fold u) (l : List UInt8) (hp : PlainB l) : stepF (l.map u) = stepF l := by
  cases l with
  | nil => rfl
  | cons c r =>
    obtain ⟨c34, c39, c96, c42⟩ := hp c (by simp)
    have hr : ∀ d ∈ r, d ≠ 42 := fun d hd => (hp d (List.mem_cons_of_mem _ hd)).2.2.2
    have h42 := h.same (fun c => c == 42) (not_letter _ (by_all _ (by decide +kernel)))
    have hru : ∀ d ∈ r.map u, d ≠ 42 := fun d hd => by
      obtain ⟨x, hx, rfl⟩ := List.mem_map.1 hd
      have h1 := h42 x
      have h2 : (x == 42) = false := by simpa using hr x hx
      rw [h2] at h1
      simpa using h1
    have hbl := h.same blankF (not_letter _ (by_all _ (by decide +kernel))) c
    have h35 := h.same (fun c => decide (c.toNat = 35)) (not_letter _ (by_all _ (by decide +kernel))) c
    have hln : isLineF (u c :: r.map u) = isLineF (c :: r) := by
      show (decide ((u c).toNat = 35) || begF [45, 45] (u c :: r.map u)) = (decide (c.toNat = 35) || begF [45, 45] (c :: r))
      rw [h35, beg45_map h]
    have hrm : isRemarkF (c :: r) = false := by unfold isRemarkF; rw [(beg47 c r hr).1]; rfl
    have hrmu : isRemarkF (u c :: r.map u) = false := by unfold isRemarkF; rw [(beg47 _ _ hru).1]; rfl
    have hlF : lineF (u c :: r.map u) = lineF (c :: r) := by
      have h10 := h.same (fun c => c == 10) (not_letter _ (by_all _ (by decide +kernel)))
      have := indexByte_map (u := u) h10 (c :: r)
      rw [List.map_cons] at this
      unfold lineF
      rw [this]
      simp
    have hF : firstF (u c :: r.map u) = firstF (c :: r) := by
      have hdg := h.same digitF (not_letter _ (by_all _ (by decide +kernel)))
      have hsg := h.same signF
      have hq1 := h.same (fun c => decide (c.toNat = 34 ∨ c.toNat = 96)) (not_letter _ (by_all _ (by decide +kernel))) c
      have hq2 := h.same (fun c => decide (c.toNat = 39)) (not_letter _ (by_all _ (by decide +kernel))) c
      have n1 : ¬ (c.toNat = 34 ∨ c.toNat = 96) := by
        rintro (e | e)
        · exact c34 (UInt8.toNat_inj.1 e)
        · exact c96 (UInt8.toNat_inj.1 e)
      have n2 : ¬ c.toNat = 39 := fun e => c39 (UInt8.toNat_inj.1 e)
      rw [decide_eq_false n1] at hq1
      rw [decide_eq_false n2] at hq2
      have m1 := of_decide_eq_false hq1
      have m2 := of_decide_eq_false hq2
      have e0 : u c :: r.map u = (c :: r).map u := rfl
      have hrl := runF_map (p := lodF) h.lod (c :: r)
      have hrd := runF_map (p := digitF) hdg (c :: r)
      simp only [firstF]
      rw [h.letterF]
      cases hl : Go.Proofs.YtaimmdhjfccnkaaDoor.letterF c with
      | true =>
        simp only [if_true]
        rw [e0, hrl, ← List.map_take, greatF_map h]
      | false =>
        simp only [Bool.false_eq_true, if_false]
        rw [hdg c]
        cases hd : digitF c with
        | true =>
          simp only [if_true]
          rw [e0, hrd, ← List.map_take, map_same]
          intro x hx
          have hxd := runF_all digitF (c :: r) x hx
          exact h.keeps x (digit_no_letter x hxd)
        | false =>
          simp only [Bool.false_eq_true, if_false]
          rw [if_neg n1, if_neg m1, if_neg n2, if_neg m2, (beg47 c r hr).2, (beg47 _ _ hru).2, h.keeps c hl]
          simp only [Bool.false_eq_true, if_false]
    rw [List.map_cons, stepF, stepF, hbl, hln, hrm, hrmu, hlF, hF]
    simp only [Bool.false_eq_true, if_false]

theorem lexF_map {u : UInt8 → UInt8} (h : Fold u) : ∀ (n : Nat) (l : List UInt8), l.length ≤ n → PlainB l → lexF (l.map u) = lexF l
  | 0, l, hn, _ => by
    obtain rfl : l = [] := List.eq_nil_of_length_eq_zero (by omega)
    rfl
  | n + 1, l, hn, hp => by
    by_cases hne : l = []
    · subst hne; rfl
    have hne2 : l.map u ≠ [] := by simpa using hne
    have hl : 0 < l.length := List.length_pos_iff.2 hne
    have hst := step_map h l hp
    have hd : ∀ m, m ≠ 0 → lexF ((l.map u).drop m) = lexF (l.drop m) := fun m hm => by
      rw [← List.map_drop]
      exact lexF_map h n _ (by rw [List.length_drop]; omega) fun c hc => hp c (List.mem_of_mem_drop hc)
    cases hs : stepF l with
    | bad => rw [lexF_bad hne hs, lexF_bad hne2 (hst.trans hs)]
    | skip m =>
      by_cases hm : m = 0
      · rw [lexF, dif_neg hne2, lexF, dif_neg hne, hst, hs]
        simp [hm]
      · rw [lexF_skip hne hs hm, lexF_skip hne2 (hst.trans hs) hm, hd m hm]
    | tok k t m =>
      by_cases hm : m = 0
      · rw [lexF, dif_neg hne2, lexF, dif_neg hne, hst, hs]
        simp [hm]
      · rw [lexF_tok hne hs hm, lexF_tok hne2 (hst.trans hs) hm, hd m hm]
theorem lexA_map {u : UInt8 → UInt8} (h : Fold u) (l : List UInt8) (hp : PlainB l) : lexA (l.map u) = lexA l := by
  unfold lexA
  rw [List.length_map, lexF_map h _ l (Nat.le_refl _) hp]

theorem fold_upper : Fold Lib.upperB := ⟨fun c hl => by
    have := by_all (fun c => letterF c || Lib.upperB c == c) (by decide +kernel) c
    rw [hl] at this
    simpa using this, fun c hl => by
    have := by_all (fun c => !letterF c || letterF (Lib.upperB c)) (by decide +kernel) c
    rw [hl] at this
    simpa using this, fun c => by
    have := by_all (fun c => upF (Lib.upperB c) == upF c) (by decide +kernel) c
    simpa using this⟩
theorem fold_lower : Fold Lib.lowerB := ⟨fun c hl => by
    have := by_all (fun c => letterF c || Lib.lowerB c == c) (by decide +kernel) c
    rw [hl] at this
    simpa using this, fun c hl => by
    have := by_all (fun c => !letterF c || letterF (Lib.lowerB c)) (by decide +kernel) c
    rw [hl] at this
    simpa using this, fun c => by
    have := by_all (fun c => upF (Lib.lowerB c) == upF c) (by decide +kernel) c
    simpa using this⟩
end

/- What may stand between two tokens: blanks, remarks of each kind; a remark's line without line ends: plain mathematics. -/
section
open Go.RowKit
set_option maxRecDepth 100000

theorem lexF_blank (b : UInt8) (rest : List UInt8) (h : blankF b = true) : lexF (b :: rest) = lexF rest := by
  have hs : stepF (b :: rest) = .skip 1 := by rw [stepF, if_pos h]
  rw [lexF_skip (by simp) hs (by decide)]
  rfl
theorem indexByte_front : ∀ (t r : List UInt8), (10 : UInt8) ∉ t → Lib.indexByte (t ++ 10 :: r) 10 = (t.length : Int)
  | [], r, _ => by simp [Lib.indexByte]
  | b :: t, r, h => by
    have hb : b ≠ 10 := fun e => h (by rw [e]; simp)
    have ht : (10 : UInt8) ∉ t := fun e => h (List.mem_cons_of_mem _ e)
    have ih := indexByte_front t r ht
    rw [List.cons_append, Lib.indexByte, if_neg (by simpa using hb), ih, if_neg (by simp only [beq_iff_eq]; omega)]
    simp
theorem lexF_line (l rest : List UInt8) (t : List UInt8) (hl : l = t ++ 10 :: rest) (h : (10 : UInt8) ∉ t) (ht : t ≠ []) (hb : isLineF l = true) (hk : ∀ b, l[0]? = some b → blankF b = false) : lexF l = lexF rest := by
  have hne : l ≠ [] := by rw [hl]; simp
  have hs : stepF l = .skip t.length := by
    obtain ⟨c, r, hcr⟩ : ∃ c r, l = c :: r := by cases l with | nil => exact absurd rfl hne | cons c r => exact ⟨c, r, rfl⟩
    have hc := hk c (by rw [hcr]; rfl)
    rw [hcr] at hb ⊢
    rw [stepF, if_neg (by rw [hc]; simp), if_pos hb, ← hcr]
    unfold lineF
    rw [hl, indexByte_front t rest h, if_neg (by omega)]
    rfl
  rw [lexF_skip hne hs (by intro e; exact ht (List.eq_nil_of_length_eq_zero e)), hl, List.drop_left' rfl, lexF_blank 10 rest (by decide)]

theorem gap_blanks : Gap [9, 13, 10, 32] := ⟨⟨9, _, rfl, by decide⟩, fun rest => by
  rw [List.cons_append, List.cons_append, List.cons_append, List.cons_append, List.nil_append, lexF_blank _ _ (by decide), lexF_blank _ _ (by decide), lexF_blank _ _ (by decide), lexF_blank _ _ (by decide)]⟩
theorem gap_dashes (t : List UInt8) (h : (10 : UInt8) ∉ t) : Gap (32 :: 45 :: 45 :: (t ++ [10])) := ⟨⟨32, _, rfl, by decide⟩, fun rest => by
  rw [List.cons_append, lexF_blank _ _ (by decide)]
  refine lexF_line _ rest (45 :: 45 :: t) (by simp) (by simpa using h) (by simp) ?_ (by
    intro b hb
    simp at hb
    subst hb
    decide)
  rw [List.cons_append, List.cons_append]
  show (decide ((45 : UInt8).toNat = 35) || begF [45, 45] _) = true
  simp [begF, Lib.hasPrefix, List.isPrefixOf]⟩
theorem gap_hash (t : List UInt8) (h : (10 : UInt8) ∉ t) : Gap (32 :: 35 :: (t ++ [10])) := ⟨⟨32, _, rfl, by decide⟩, fun rest => by
  rw [List.cons_append, lexF_blank _ _ (by decide)]
  refine lexF_line _ rest (35 :: t) (by simp) (by simpa using h) (by simp) ?_ (by
    intro b hb
    simp at hb
    subst hb
    decide)
  rw [List.cons_append]
  show (decide ((35 : UInt8).toNat = 35) || begF [45, 45] (35 :: (t ++ [10] ++ rest))) = true
  simp⟩
theorem gap_remark (t : List UInt8) (h : Lib.contains t ends2 = false) (h43 : t[0]? ≠ some 43) : Gap (32 :: 47 :: 42 :: (t ++ [42, 47, 32])) := ⟨⟨32, _, rfl, by decide⟩, fun rest => by
  rw [List.cons_append, lexF_blank _ _ (by decide)]
  have e1 : 47 :: 42 :: (t ++ [42, 47, 32]) ++ rest = 47 :: 42 :: (t ++ 42 :: 47 :: 32 :: rest) := by simp
  rw [e1]
  have hidx : Lib.index (t ++ 42 :: 47 :: 32 :: rest) ends2 = (t.length : Int) := by
    rw [index_behind t 42 (47 :: 32 :: rest) (no_end t h) (by decide) (by rw [index_here]; omega), index_here]
    omega
  have hcl : closedF (47 :: 42 :: (t ++ 42 :: 47 :: 32 :: rest)) 2 = t.length + 4 := by
    unfold closedF
    simp only [List.drop_succ_cons, List.drop_zero]
    rw [hidx, if_neg (by omega)]
    omega
  have hln : isLineF (47 :: 42 :: (t ++ 42 :: 47 :: 32 :: rest)) = false := by
    show (decide ((47 : UInt8).toNat = 35) || begF [45, 45] _) = false
    rw [beg_not (by decide)]
    decide
  have hrm : isRemarkF (47 :: 42 :: (t ++ 42 :: 47 :: 32 :: rest)) = true := by
    have h3 : begF [47, 42, 43] (47 :: 42 :: (t ++ 42 :: 47 :: 32 :: rest)) = false := by
      cases t with
      | nil => simp [begF, Lib.hasPrefix, List.isPrefixOf]
      | cons c r =>
        have hc : c ≠ 43 := by simpa using h43
        have hc2 : ¬ 43 = c := fun e => hc e.symm
        simp [begF, Lib.hasPrefix, List.isPrefixOf, hc2]
    unfold isRemarkF
    rw [h3]
    simp [begF, Lib.hasPrefix, List.isPrefixOf]
  have hs : stepF (47 :: 42 :: (t ++ 42 :: 47 :: 32 :: rest)) = .skip (t.length + 4) := by
    rw [stepF, if_neg (by decide), if_neg (by rw [hln]; simp), if_pos hrm, hcl, if_neg (by omega)]
  rw [lexF_skip (by simp) hs (by omega)]
  have e2 : 47 :: 42 :: (t ++ 42 :: 47 :: 32 :: rest) = (47 :: 42 :: (t ++ [42, 47])) ++ 32 :: rest := by simp
  rw [e2, List.drop_left' (by simp), lexF_blank _ _ (by decide)]⟩

/-- what a line end becomes in a remark's line -/
def lnF (r : Int) : Int := if r = 10 then 32 else r
theorem byteZ_ne (x : Int) (h0 : 0 ≤ x) (h1 : x < 256) (h : x ≠ 10) : (10 : UInt8) ≠ x.toNat.toUInt8 := by
  intro e
  have := congrArg UInt8.toNat e
  simp at this
  omega
theorem encode_free (r : Int) (h0 : 0 ≤ r) (h : r ≠ 10) : (10 : UInt8) ∉ Lib.encodeRune r ∧ (Lib.encodeRune r).length ≤ 4 := by
  unfold Lib.encodeRune
  by_cases h1 : r ≤ 127
  · rw [Lib.encodeRuneZ_one h0 h1]
    simp only [List.map_cons, List.map_nil, List.mem_singleton, List.length_cons, List.length_nil]
    exact ⟨byteZ_ne r h0 (by omega) h, by omega⟩
  by_cases h2 : r ≤ 2047
  · rw [Lib.encodeRuneZ_two (by omega) h2]
    simp only [List.map_cons, List.map_nil, List.mem_cons, List.not_mem_nil, or_false, not_or, List.length_cons, List.length_nil]
    exact ⟨⟨byteZ_ne _ (by omega) (by omega) (by omega), byteZ_ne _ (by omega) (by omega) (by omega)⟩, by omega⟩
  by_cases h3 : (2048 ≤ r ∧ r < 55296) ∨ (57343 < r ∧ r ≤ 65535)
  · rw [Lib.encodeRuneZ_three h3]
    simp only [List.map_cons, List.map_nil, List.mem_cons, List.not_mem_nil, or_false, not_or, List.length_cons, List.length_nil]
    exact ⟨⟨byteZ_ne _ (by omega) (by omega) (by omega), byteZ_ne _ (by omega) (by omega) (by omega), byteZ_ne _ (by omega) (by omega) (by omega)⟩, by omega⟩
  by_cases h4 : 65536 ≤ r ∧ r ≤ 1114111
  · rw [Lib.encodeRuneZ_four h4.1 h4.2]
    simp only [List.map_cons, List.map_nil, List.mem_cons, List.not_mem_nil, or_false, not_or, List.length_cons, List.length_nil]
    exact ⟨⟨byteZ_ne _ (by omega) (by omega) (by omega), byteZ_ne _ (by omega) (by omega) (by omega), byteZ_ne _ (by omega) (by omega) (by omega), byteZ_ne _ (by omega) (by omega) (by omega)⟩, by omega⟩
  rw [Lib.encodeRuneZ_bad (by omega)]
  exact ⟨by decide, by decide⟩
theorem line_free : ∀ (n : Nat) (l : List UInt8), l.length ≤ n → (10 : UInt8) ∉ Lib.mapD lnF l ∧ (Lib.mapD lnF l).length ≤ 4 * l.length
  | 0, l, hn => by
    obtain rfl : l = [] := List.eq_nil_of_length_eq_zero (by omega)
    rw [Lib.mapD_nil]
    exact ⟨by simp, by simp⟩
  | n + 1, l, hn => by
    by_cases hne : l = []
    · subst hne
      rw [Lib.mapD_nil]
      exact ⟨by simp, by simp⟩
    have hw := Lib.decodeL_width l
    have hle := Lib.decodeL_le l hne
    have hl : 0 < l.length := List.length_pos_iff.2 hne
    obtain ⟨i1, i2⟩ := line_free n (l.drop (Lib.decodeL l).2) (by rw [List.length_drop]; omega)
    rw [List.length_drop] at i2
    have hf0 : 0 ≤ lnF (Lib.decodeL l).1 := by unfold lnF; split <;> omega
    have hf1 : lnF (Lib.decodeL l).1 ≠ 10 := by unfold lnF; split <;> omega
    obtain ⟨e1, e2⟩ := encode_free _ hf0 hf1
    rw [Lib.mapD_step lnF l hne, if_pos hf0]
    refine ⟨fun h => ?_, ?_⟩
    · rcases List.mem_append.1 h with h | h
      · exact e1 h
      · exact i1 h
    · rw [List.length_append]
      omega
end

/- Texts that say tokens, one behind the other: what is written of tokens, in small letters, with remarks, blanks and signs ; between and behind (no function of the program is named here). -/
section
open Go.RowKit
set_option maxRecDepth 100000

/-- whatever stands behind: these tokens come first -/
def Says (p : List UInt8) (ts : List Tok) : Prop := ∀ rest, lexF (p ++ rest) = (lexF rest).map (ts ++ ·)
theorem Says.nil : Says [] [] := fun rest => by
  rw [List.nil_append]
  cases lexF rest <;> simp
theorem Says.add {p q : List UInt8} {a b : List Tok} (h : Says p a) (k : Says q b) : Says (p ++ q) (a ++ b) := fun rest => by
  rw [List.append_assoc, h, k]
  cases lexF rest <;> simp
theorem Says.lex {p : List UInt8} {ts : List Tok} (h : Says p ts) : lexF p = some ts := by
  have := h []
  rw [List.append_nil, lexF_nil] at this
  simpa using this
theorem Says.then_ {p l : List UInt8} {ts us : List Tok} (h : Says p ts) (k : lexF l = some us) : lexF (p ++ l) = some (ts ++ us) := by
  rw [h, k]
  rfl
theorem says_blank (b : UInt8) (hb : blankF b = true) : Says [b] [] := fun rest => by
  rw [List.singleton_append, lexF_blank b rest hb]
  cases lexF rest <;> simp
theorem says_remark : Says [47, 42, 59, 42, 47] [] := fun rest => by
  have hs : stepF (47 :: 42 :: 59 :: 42 :: 47 :: rest) = .skip 5 := by
    have hidx : Lib.index (59 :: 42 :: 47 :: rest) ends2 = 1 := by
      have := index_behind [59] 42 (47 :: rest) (by decide) (by decide) (by rw [index_here]; omega)
      rw [List.singleton_append, index_here] at this
      simpa using this
    have hcl : closedF (47 :: 42 :: 59 :: 42 :: 47 :: rest) 2 = 5 := by
      unfold closedF
      simp only [List.drop_succ_cons, List.drop_zero]
      rw [hidx]
      decide
    have hln : isLineF (47 :: 42 :: 59 :: 42 :: 47 :: rest) = false := by
      show (decide ((47 : UInt8).toNat = 35) || begF [45, 45] _) = false
      rw [beg_not (by decide)]
      decide
    have hrm : isRemarkF (47 :: 42 :: 59 :: 42 :: 47 :: rest) = true := by
      simp [isRemarkF, begF, Lib.hasPrefix, List.isPrefixOf]
    rw [stepF, if_neg (by decide), if_neg (by rw [hln]; simp), if_pos hrm, hcl, if_neg (by decide)]
  show lexF (47 :: 42 :: 59 :: 42 :: 47 :: rest) = _
  rw [lexF_skip (by simp) hs (by decide)]
  show lexF rest = _
  cases lexF rest <;> simp
theorem says_line : Says [45, 45, 32, 120, 10] [] := fun rest => by
  rw [lexF_line ([45, 45, 32, 120, 10] ++ rest) rest [45, 45, 32, 120] (by simp) (by decide) (by simp) (by
    show (decide ((45 : UInt8).toNat = 35) || begF [45, 45] _) = true
    simp [begF, Lib.hasPrefix, List.isPrefixOf]) (by
    intro b hb
    simp at hb
    subst hb
    decide)]
  cases lexF rest <;> simp

/-- a spelling of a token, a blank behind -/
theorem says_tok {x : List UInt8} {k : Int} {t : List UInt8} (hk : 0 ≤ k) (b : UInt8) (hb : blankF b = true) (hs : ∀ rest, stepF (x ++ b :: rest) = .tok k.toNat t x.length) (hx : x ≠ []) : Says (x ++ [b]) [(k, t)] := fun rest => by
  have e : x ++ [b] ++ rest = x ++ b :: rest := by simp
  rw [e, lexF_tok (by simp) (hs rest) (by intro e; exact hx (List.eq_nil_of_length_eq_zero e)), List.drop_left' rfl, lexF_blank b rest hb]
  have : ((k.toNat : Nat) : Int) = k := by omega
  rw [this]
  cases lexF rest <;> simp
theorem says_written (k : Int) (t : List UInt8) (hr : rightF k t = true) (b : UInt8) (hb : blankF b = true) : Says (writtenF k t ++ [b]) [(k, t)] :=
  says_tok (by have := right_kind hr; omega) b hb (fun rest => (step_written k t hr b hb rest).1) (step_written k t hr b hb []).2
/-- a word in small letters -/
theorem says_small (t : List UInt8) (hr : rightF 1 t = true) (b : UInt8) (hb : blankF b = true) : Says (t.map Lib.lowerB ++ [b]) [(1, t)] := by
  have hF : rightWordF t = true := hr
  obtain ⟨bl, _⟩ := blank_parts b hb
  cases t with
  | nil => simp [rightWordF] at hF
  | cons c r =>
    simp only [rightWordF, Bool.and_eq_true, decide_eq_true_eq] at hF
    obtain ⟨h1, h2, h3⟩ := hF
    refine says_tok (by decide) b hb (fun rest => ?_) (by simp)
    have hlod : lodF c = true := by simp [lodF, h1]
    have hrun := runF_append (p := lodF) ((c :: r).map Lib.lowerB) b rest (by rw [runF_map fold_lower.lod, h2, List.length_map]) bl
    rw [List.map_cons, List.cons_append] at hrun ⊢
    refine step_of_first _ _ (skip_lod _ _ (by rw [fold_lower.lod]; exact hlod)) ?_
    simp only [firstF, fold_lower.letterF, h1, if_true]
    rw [hrun]
    have e1 : (Lib.lowerB c :: (r.map Lib.lowerB ++ b :: rest)).take (Lib.lowerB c :: r.map Lib.lowerB).length = (c :: r).map Lib.lowerB := by
      rw [← List.cons_append, List.take_left' rfl]
      rfl
    rw [e1, greatF_map fold_lower, h3]
    rfl

/-- what is written of a token, at the end -/
theorem step_end (k : Int) (t : List UInt8) (hr : rightF k t = true) (h5 : k ≠ 5) : stepF (writtenF k t) = .tok k.toNat t (writtenF k t).length ∧ writtenF k t ≠ [] := by
  rcases right_kind hr with rfl | rfl | rfl | rfl | rfl | rfl
  · have hw : writtenF 1 t = t := rfl
    rw [hw]
    have hF : rightWordF t = true := hr
    cases t with
    | nil => simp [rightWordF] at hF
    | cons c r =>
      simp only [rightWordF, Bool.and_eq_true, decide_eq_true_eq] at hF
      obtain ⟨h1, h2, h3⟩ := hF
      have hlod : lodF c = true := by simp [lodF, h1]
      refine ⟨step_of_first c _ (skip_lod c _ hlod) ?_, by simp⟩
      simp only [firstF, h1, if_true]
      rw [h2, List.take_length, h3]
      rfl
  · have hw : writtenF 2 t = 34 :: (twiceF 34 t ++ [34]) := rfl
    rw [hw]
    have hs : skipF (34 :: (twiceF 34 t ++ [34])) = 0 := skip_plain _ _ (by decide) (beg_not (by decide)) (by decide) (beg_not (by decide))
    refine ⟨step_of_first _ _ hs ?_, by simp⟩
    simp only [firstF]
    rw [if_neg (by decide), if_neg (by decide), if_pos (by decide), quoted_back 34 t [] (by simp)]
    simp
  · have hw : writtenF 3 t = 39 :: (twiceF 39 t ++ [39]) := rfl
    rw [hw]
    have hs : skipF (39 :: (twiceF 39 t ++ [39])) = 0 := skip_plain _ _ (by decide) (beg_not (by decide)) (by decide) (beg_not (by decide))
    refine ⟨step_of_first _ _ hs ?_, by simp⟩
    simp only [firstF]
    rw [if_neg (by decide), if_neg (by decide), if_neg (by decide), if_pos (by decide), quoted_back 39 t [] (by simp)]
    simp
  · have hw : writtenF 4 t = t := rfl
    rw [hw]
    have hF : (decide (t ≠ []) && decide (runF digitF t = t.length)) = true := hr
    simp only [Bool.and_eq_true, decide_eq_true_eq] at hF
    cases t with
    | nil => exact absurd rfl hF.1
    | cons c r =>
      have h2 := hF.2
      have hd : digitF c = true := by
        cases hp : digitF c with
        | true => rfl
        | false => rw [runF_none hp] at h2; simp at h2
      have hlod : lodF c = true := by simp [lodF, hd]
      refine ⟨step_of_first c _ (skip_lod c _ hlod) ?_, by simp⟩
      simp only [firstF, digit_no_letter c hd, hd, Bool.false_eq_true, if_false, if_true]
      rw [h2, List.take_length]
      rfl
  · exact absurd rfl h5
  · have hw : writtenF 6 t = t := rfl
    rw [hw]
    cases t with
    | nil => exact absurd hr (by decide)
    | cons c r =>
      cases r with
      | cons d r =>
        have hF : false = true := hr
        cases hF
      | nil =>
        have hF : signF c = true := hr
        obtain ⟨g1, g2, g3, g4, g5, g6, g7, g8⟩ := (sign_parts c).1 hF
        have n1 : begF [47, 42] [c] = false := by simp [begF, Lib.hasPrefix, List.isPrefixOf]
        have n2 : begF [45, 45] [c] = false := by simp [begF, Lib.hasPrefix, List.isPrefixOf]
        have n3 : begF [47, 42, 43] [c] = false := by simp [begF, Lib.hasPrefix, List.isPrefixOf]
        have hs : skipF [c] = 0 := skip_plain _ _ (blank_lt c g1) n1 g8 n2
        refine ⟨step_of_first c _ hs ?_, by simp⟩
        simp only [firstF, g3, g4, Bool.false_eq_true, if_false]
        rw [if_neg (by omega), if_neg g7, if_neg (by rw [n3]; simp), if_pos hF]
        rfl

/-- what is written of tokens, with a blank behind each -/
theorem write_flat : ∀ (t : Tok) (r : List Tok), writeF (t :: r) ++ [32] = (t :: r).flatMap fun t => writtenF t.1 t.2 ++ [32]
  | t, [] => by simp [writeF]
  | t, u :: r => by
    have ih := write_flat u r
    have e : writeF (t :: u :: r) = writtenF t.1 t.2 ++ 32 :: writeF (u :: r) := by simp [writeF]
    rw [e, List.flatMap_cons, ← ih]
    simp
theorem says_flat : ∀ ts : List Tok, (∀ t ∈ ts, rightF t.1 t.2 = true) → Says (ts.flatMap fun t => writtenF t.1 t.2 ++ [32]) ts
  | [], _ => Says.nil
  | t :: ts, h => by
    have ih := says_flat ts fun x hx => h x (List.mem_cons_of_mem _ hx)
    have := (says_written t.1 t.2 (h t (by simp)) 32 (by decide)).add ih
    rw [List.flatMap_cons]
    exact this
theorem lex_write : ∀ ts : List Tok, (∀ t ∈ ts, rightF t.1 t.2 = true ∧ t.1 ≠ 5) → lexF (writeF ts) = some ts
  | [], _ => by rw [writeF, lexF_nil]
  | [t], h => by
    obtain ⟨h1, h5⟩ := h t (by simp)
    obtain ⟨hs, hne⟩ := step_end t.1 t.2 h1 h5
    have e : writeF [t] = writtenF t.1 t.2 := by simp [writeF]
    have hk : ((t.1.toNat : Nat) : Int) = t.1 := by have := right_kind h1; omega
    rw [e, lexF_tok hne hs (by intro e; exact hne (List.eq_nil_of_length_eq_zero e)), List.drop_length, lexF_nil, hk]
    rfl
  | t :: u :: r, h => by
    have ih := lex_write (u :: r) fun x hx => h x (List.mem_cons_of_mem _ hx)
    have e : writeF (t :: u :: r) = (writtenF t.1 t.2 ++ [32]) ++ writeF (u :: r) := by simp [writeF]
    rw [e]
    exact (says_written t.1 t.2 (h t (by simp)).1 32 (by decide)).then_ ih

theorem lex_stops : lexF [59, 32, 59] = some [(6, [59]), (6, [59])] := by
  rw [lexF_tok (k := 6) (t := [59]) (n := 1) (by simp) (by kernel_rfl) (by decide)]
  show (lexF [32, 59]).map _ = _
  rw [lexF_blank 32 _ (by decide), lexF_tok (k := 6) (t := [59]) (n := 1) (by simp) (by kernel_rfl) (by decide)]
  show ((lexF []).map _).map _ = _
  rw [lexF_nil]
  rfl
theorem lex_stopped (ts : List Tok) (h : ∀ t ∈ ts, rightF t.1 t.2 = true) : lexF (writeF ts ++ [32, 59, 32, 59]) = some (ts ++ [(6, [59]), (6, [59])]) := by
  cases ts with
  | nil =>
    show lexF [32, 59, 32, 59] = _
    rw [lexF_blank 32 _ (by decide), lex_stops]
    rfl
  | cons t r =>
    have e : writeF (t :: r) ++ [32, 59, 32, 59] = (writeF (t :: r) ++ [32]) ++ [59, 32, 59] := by simp
    rw [e, write_flat]
    exact (says_flat _ h).then_ lex_stops

theorem classA_lex {l : List UInt8} {ts : List Tok} (h : lexF l = some ts) (hl : l.length ≤ 200) : classA l = classF (bodyF ts) := by
  have e : lexA l = (ts, 0) := by
    unfold lexA
    rw [if_neg (by omega), h]
  unfold classA
  rw [e]
  rfl
theorem body_stopped (ts : List Tok) : bodyF (ts ++ [(6, [59]), (6, [59])]) = bodyF ts := by
  unfold bodyF
  have e : (ts ++ [((6 : Int), ([59] : List UInt8)), (6, [59])]).filter (fun t => !isHintF t) = ((ts.filter fun t => !isHintF t) ++ [(6, [59])]) ++ [(6, [59])] := by
    rw [List.filter_append]
    simp [isHintF]
  rw [e, endF_stop (by decide), endF_stop (by decide)]
theorem ifF_ne {c : Int} (h : c ≠ 0) (b : Bool) : ifF c b ≠ 0 := by cases b <;> simp [ifF, h]
theorem selF_ne (l : List Tok) (b : Bool) : selF l b ≠ 0 := by unfold selF; split <;> (try split) <;> decide
theorem exF_ne (l : List Tok) (c : Int) : exF l c ≠ 0 := by unfold exF; split <;> (try split) <;> (try split) <;> decide
theorem famB_ne (v : Int) (r : List Tok) {x : Int} (hx : x ≠ 0) : famB v r x ≠ 0 := by
  unfold famB
  split
  · decide
  split
  · exact hx
  split
  · decide
  split
  · exact selF_ne _ _
  split
  · exact selF_ne _ _
  split
  · exact ifF_ne (by decide) _
  split
  · exact ifF_ne (by decide) _
  split
  · exact ifF_ne (by decide) _
  split
  · exact ifF_ne (by decide) _
  split
  · exact ifF_ne (by decide) _
  · decide
theorem classF_ne (l : List Tok) : classF l ≠ 0 := by
  cases l with
  | nil => rw [classF_nil]; decide
  | cons t r =>
    by_cases h : t.1 ≠ 1 ∨ (t :: r).any stopF = true
    · rw [classF_no h]; decide
    · have h1 : t.1 = 1 := Classical.byContradiction fun e => h (.inl e)
      have h2 : (t :: r).any stopF = false := by
        cases hq : (t :: r).any stopF with
        | false => rfl
        | true => exact absurd (.inr hq) h
      rw [classF_word h1 h2]
      exact famB_ne _ _ (exF_ne _ _)

/-- what the small text has of a token, a blank behind -/
def smallF (t : Tok) : List UInt8 := if t.1 = 1 then (writtenF t.1 t.2).map Lib.lowerB else writtenF t.1 t.2
theorem smallF_len (t : Tok) : (smallF t).length = (writtenF t.1 t.2).length := by unfold smallF; split <;> simp
theorem says_smallF (t : Tok) (h : rightF t.1 t.2 = true) : Says (smallF t ++ [32]) [t] := by
  obtain ⟨k, x⟩ := t
  unfold smallF
  split
  · rename_i h1
    obtain rfl : k = 1 := h1
    exact says_small x h 32 (by decide)
  · exact says_written k x h 32 (by decide)
theorem word_ascii {t : List UInt8} (h : rightF 1 t = true) : ∀ c ∈ t, c.toNat < 128 := by
  have hF : rightWordF t = true := h
  cases t with
  | nil => simp
  | cons c r =>
    simp only [rightWordF, Bool.and_eq_true, decide_eq_true_eq] at hF
    exact run_all_ascii hF.2.1
end

/- What the small functions of package class do: contracts. -/
section
open Go.RowKit
set_option maxRecDepth 100000

theorem toList_is (s : ByteArray) (l : List UInt8) : (s.toList == l) = decide (s.data.toList = l) := by
  rw [ByteArray.toList_eq, Bool.eq_iff_iff]
  simp
/-- texts as bytes -/
def txs (ws : List ByteArray) : List (List UInt8) := ws.map fun x => x.data.toList
theorem mem_txs {s : ByteArray} {ws : List ByteArray} : s.data.toList ∈ txs ws ↔ s ∈ ws := by
  unfold txs
  rw [List.mem_map]
  constructor
  · rintro ⟨x, hx, e⟩
    rw [← text_ext e]
    exact hx
  · exact fun h => ⟨s, h, rfl⟩

/-- a row of texts that is read -/
structure SR (w : World) (A : Option Addr) (n : Nat) (ws : List ByteArray) : Prop where
  len : ws.length = n
  rd : Rd w w.heap.size A (ws.map .string)
theorem SR.next {w w' : World} {A : Option Addr} {n : Nat} {ws : List ByteArray} (h : SR w A n ws) (hb : Below w.heap.size w w') : SR w' A n ws := ⟨h.len, (h.rd.below hb (Nat.le_refl _)).more hb.size⟩
theorem SR.at_ {w : World} {A : Option Addr} {n : Nat} {ws : List ByteArray} (h : SR w A n ws) {j : Nat} (hj : j < ws.length) : ∃ ad, A = some ad ∧ ad.block < w.heap.size ∧ w.cell? (ad.add j) = some (.string ws[j]) := by
  obtain ⟨ad, hA, hb, hc⟩ := h.rd.at_ (k := j) (by rw [List.length_map]; exact hj)
  exact ⟨ad, hA, hb, by simpa using hc⟩
theorem SR.new (w : World) (t : TypeId) (ws : List ByteArray) : SR (w.alloc (.cells (ws.map Value.string).toArray t)) (some ⟨w.heap.size, 0, none⟩) ws.length ws :=
  ⟨rfl, by have := Rd.new w t (ws.map Value.string); simpa using this⟩

theorem txt_ne {x y : ByteArray} (h : x ≠ y) : (x.toList == y.toList) = false := by
  rw [Bool.eq_false_iff]
  intro hh
  have h2 := eq_of_beq hh
  rw [ByteArray.toList_eq, ByteArray.toList_eq] at h2
  exact h (ByteArray.ext (Array.toList_inj.1 h2))
end

/- The document's layer 5: is a word one of some (in), the word of a place (word), has: contracts. -/
section
open Go.RowKit
set_option maxRecDepth 100000

/-- is a word one of some, each between two spaces? -/
def inF (w l : List UInt8) : Bool := decide (w ≠ []) && decide (0 ≤ Lib.index l (32 :: (w ++ [32])))
end

/- The document's words of layer 5, as plain functions: what stands between spaces, which family a word has. -/
section
open Go.RowKit
set_option maxRecDepth 100000

/-- words, each between two spaces -/
def packF : List (List UInt8) → List UInt8
  | [] => [32]
  | a :: ws => 32 :: (a ++ packF ws)

theorem idx_cons {b : UInt8} {l sub : List UInt8} : 0 ≤ Lib.index (b :: l) sub ↔ sub.isPrefixOf (b :: l) = true ∨ 0 ≤ Lib.index l sub := by
  rw [Lib.index]
  by_cases h : sub.isPrefixOf (b :: l) = true
  · simp [h]
  · rw [if_neg h]
    have hge := Lib.index_ge l sub
    by_cases hm : (Lib.index l sub == -1) = true
    · rw [if_pos hm]
      have : Lib.index l sub = -1 := by simpa using hm
      simp [h, this]
    · rw [if_neg hm]
      have : Lib.index l sub ≠ -1 := by simpa using hm
      simp [h]
      omega
theorem idx_nil {sub : List UInt8} (hs : sub ≠ []) : ¬ 0 ≤ Lib.index [] sub := by
  cases sub with
  | nil => exact absurd rfl hs
  | cons a t => simp [Lib.index]
theorem idx_free {a l w : List UInt8} (h : (32 : UInt8) ∉ a) : 0 ≤ Lib.index (a ++ l) (32 :: w) ↔ 0 ≤ Lib.index l (32 :: w) := by
  induction a with
  | nil => rfl
  | cons b r ih =>
    rw [List.cons_append, idx_cons, ih (fun hm => h (List.mem_cons_of_mem _ hm))]
    have hb : b ≠ 32 := fun e => h (by rw [e]; simp)
    have : (32 :: w : List UInt8).isPrefixOf (b :: (r ++ l)) = false := by simp [List.isPrefixOf, hb.symm]
    rw [this]
    simp
theorem pre_word {w a r : List UInt8} (hw : (32 : UInt8) ∉ w) (ha : (32 : UInt8) ∉ a) : (w ++ [32]).isPrefixOf (a ++ 32 :: r) = decide (w = a) := by
  induction w generalizing a with
  | nil =>
    cases a with
    | nil => simp [List.isPrefixOf]
    | cons b a =>
      have hb : (32 : UInt8) ≠ b := fun e => ha (by rw [← e]; simp)
      simp [List.isPrefixOf, hb]
  | cons c w ih =>
    have hc : c ≠ 32 := fun e => hw (by rw [e]; simp)
    cases a with
    | nil => simp [List.isPrefixOf, hc]
    | cons b a =>
      have := ih (a := a) (fun h => hw (List.mem_cons_of_mem _ h)) (fun h => ha (List.mem_cons_of_mem _ h))
      simp only [List.cons_append, List.isPrefixOf, this]
      by_cases e : c = b <;> simp [e]
theorem packF_head (ws : List (List UInt8)) : ∃ r, packF ws = 32 :: r := by
  cases ws with
  | nil => exact ⟨[], rfl⟩
  | cons a ws => exact ⟨_, rfl⟩
theorem idx_pack {w : List UInt8} (hw : (32 : UInt8) ∉ w) : ∀ ws : List (List UInt8), (∀ a ∈ ws, (32 : UInt8) ∉ a) → (0 ≤ Lib.index (packF ws) (32 :: (w ++ [32])) ↔ w ∈ ws)
  | [], _ => by
    have h1 : (32 :: (w ++ [32]) : List UInt8).isPrefixOf [32] = false := by
      cases w <;> simp [List.isPrefixOf]
    rw [packF, idx_cons, h1]
    have := idx_nil (sub := 32 :: (w ++ [32])) (by simp)
    simp only [this, List.not_mem_nil, or_false]
    simp
  | a :: ws, h => by
    have ha := h a (by simp)
    have ih := idx_pack hw ws (fun x hx => h x (List.mem_cons_of_mem _ hx))
    rw [packF, idx_cons, idx_free ha, ih]
    obtain ⟨r, hr⟩ := packF_head ws
    have : (32 :: (w ++ [32]) : List UInt8).isPrefixOf (32 :: (a ++ packF ws)) = decide (w = a) := by
      rw [hr]
      simp only [List.isPrefixOf, pre_word hw ha]
      simp
    rw [this]
    simp
theorem inF_pack {w : List UInt8} (hw : w = [] ∨ (w ≠ [] ∧ (32 : UInt8) ∉ w)) (ws : List (List UInt8)) (h : ∀ a ∈ ws, (32 : UInt8) ∉ a ∧ a ≠ []) : inF w (packF ws) = decide (w ∈ ws) := by
  unfold inF
  rcases hw with rfl | ⟨h0, h1⟩
  · have : ([] : List UInt8) ∉ ws := fun hm => (h _ hm).2 rfl
    simp [this]
  · rw [decide_eq_true h0, Bool.true_and]
    exact decide_eq_decide.2 (idx_pack h1 ws fun a ha => (h a ha).1)

/-- the word of a token, or none -/
def wd (t : Tok) : List UInt8 := if t.1 = 1 then t.2 else []
def wordAt (l : List Tok) (k : Nat) : List UInt8 := (l[k]?.map wd).getD []
theorem wd_ok {t : Tok} {n : Nat} (h : okTok t n) : wd t = [] ∨ (wd t ≠ [] ∧ (32 : UInt8) ∉ wd t) := by
  unfold wd
  split
  · rename_i h1
    exact .inr (h.2 h1)
  · exact .inl rfl
theorem wordAt_ok {l : List Tok} {n : Nat} (h : ∀ t ∈ l, okTok t n) (k : Nat) : wordAt l k = [] ∨ (wordAt l k ≠ [] ∧ (32 : UInt8) ∉ wordAt l k) := by
  unfold wordAt
  cases hk : l[k]? with
  | none => exact .inl rfl
  | some t => exact wd_ok (h t (List.mem_of_getElem? hk))
theorem mem_wd {t : Tok} {ws : List (List UInt8)} (h : [] ∉ ws) : decide (wd t ∈ ws) = wordF ws t := by
  unfold wd wordF
  by_cases h1 : t.1 = 1
  · rw [if_pos h1, decide_eq_true h1, Bool.true_and]
  · rw [if_neg h1, decide_eq_false h1, decide_eq_false h]
    rfl
theorem headF_word {t : Tok} {r : List Tok} {ws : List (List UInt8)} (h : [] ∉ ws) : headF r ws = decide (wordAt (t :: r) 1 ∈ ws) := by
  unfold headF wordAt
  cases r with
  | nil => simp [h]
  | cons u r => exact (mem_wd h).symm
theorem hasF_word {l : List Tok} {ws : List (List UInt8)} (h : [] ∉ ws) : hasF l ws = l.any fun t => decide (wd t ∈ ws) := by
  unfold hasF
  congr 1
  funext t
  exact (mem_wd h).symm

/- families -/
theorem fam_mem {x : List UInt8} {v : Int} (h : famF x = v) (hv : v ≠ 0) : (x, v) ∈ famL := by
  unfold famF at h
  cases hf : famL.reverse.find? fun p => decide (p.1 = x) with
  | none => rw [hf] at h; exact absurd h.symm hv
  | some p =>
    rw [hf] at h
    have h1 := List.mem_of_find?_eq_some hf
    have h2 := List.find?_some hf
    simp only [decide_eq_true_eq] at h2
    obtain ⟨a, b⟩ := p
    simp at h h1 h2
    rw [← h, ← h2]
    exact h1
def wsShow : List (List UInt8) := [wSHOW, wDESCRIBE, wDESC]
def wsWrite : List (List UInt8) := [wINSERT, wUPDATE, wDELETE, wREPLACE, wCREATE, wDROP, wALTER, wTRUNCATE, wGRANT, wREVOKE, wCALL, wLOCK]
def wsSel : List (List UInt8) := [wSELECT, wVALUES, wTABLE, wWITH]
theorem fam_is (x : List UInt8) (v : Int) (ws : List (List UInt8)) (hv : v ≠ 0) (h1 : ∀ p ∈ famL, p.2 = v → p.1 ∈ ws) (h2 : ∀ a ∈ ws, famF a = v) : decide (x ∈ ws) = decide (famF x = v) := by
  refine decide_eq_decide.2 ⟨fun h => h2 x h, fun h => ?_⟩
  exact h1 _ (fam_mem h hv) rfl
theorem fam_one (x : List UInt8) (v : Int) (a : List UInt8) (hv : v ≠ 0) (h1 : ∀ p ∈ famL, p.2 = v → p.1 = a) (h2 : famF a = v) : decide (x = a) = decide (famF x = v) := by
  refine decide_eq_decide.2 ⟨fun h => by rw [h]; exact h2, fun h => ?_⟩
  exact h1 _ (fam_mem h hv) rfl
theorem famShow (x : List UInt8) : decide (x ∈ wsShow) = decide (famF x = 1) := fam_is x 1 wsShow (by decide) (by decide) (by decide)
theorem famWrite (x : List UInt8) : decide (x ∈ wsWrite) = decide (famF x = 3) := fam_is x 3 wsWrite (by decide) (by decide) (by decide)
theorem famSel (x : List UInt8) : decide (x ∈ wsSel) = decide (famF x = 4 ∨ famF x = 5) := by
  refine decide_eq_decide.2 ⟨fun h => ?_, fun h => ?_⟩
  · revert h
    have : ∀ a ∈ wsSel, famF a = 4 ∨ famF a = 5 := by decide
    exact this x
  · rcases h with h | h
    · exact (by decide : ∀ p ∈ famL, p.2 = 4 → p.1 ∈ wsSel) _ (fam_mem h (by decide)) rfl
    · exact (by decide : ∀ p ∈ famL, p.2 = 5 → p.1 ∈ wsSel) _ (fam_mem h (by decide)) rfl
theorem famExplain (x : List UInt8) : decide (x = wEXPLAIN) = decide (famF x = 2) := fam_one x 2 _ (by decide) (by decide) (by decide)
theorem famWith (x : List UInt8) : decide (x = wWITH) = decide (famF x = 5) := fam_one x 5 _ (by decide) (by decide) (by decide)
theorem famBegin (x : List UInt8) : decide (x = wBEGIN) = decide (famF x = 6) := fam_one x 6 _ (by decide) (by decide) (by decide)
theorem famStart (x : List UInt8) : decide (x = wSTART) = decide (famF x = 7) := fam_one x 7 _ (by decide) (by decide) (by decide)
theorem famCommit (x : List UInt8) : decide (x = wCOMMIT) = decide (famF x = 8) := fam_one x 8 _ (by decide) (by decide) (by decide)
theorem famRollback (x : List UInt8) : decide (x = wROLLBACK) = decide (famF x = 9) := fam_one x 9 _ (by decide) (by decide) (by decide)
theorem famSet (x : List UInt8) : decide (x = wSET) = decide (famF x = 10) := fam_one x 10 _ (by decide) (by decide) (by decide)
theorem fam_out (x : List UInt8) : famF x = 0 ∨ famF x = 1 ∨ famF x = 2 ∨ famF x = 3 ∨ famF x = 4 ∨ famF x = 5 ∨ famF x = 6 ∨ famF x = 7 ∨ famF x = 8 ∨ famF x = 9 ∨ famF x = 10 := by
  by_cases h : famF x = 0
  · exact .inl h
  · have := fam_mem rfl h
    have h2 : ∀ p ∈ famL, p.2 = 1 ∨ p.2 = 2 ∨ p.2 = 3 ∨ p.2 = 4 ∨ p.2 = 5 ∨ p.2 = 6 ∨ p.2 = 7 ∨ p.2 = 8 ∨ p.2 = 9 ∨ p.2 = 10 := by decide
    exact .inr (h2 _ this)
theorem six_sel {x : List UInt8} (h : famF x = 4 ∨ famF x = 5) : x ∉ six := by
  have h1 : decide (x ∈ wsSel) = true := by rw [famSel]; exact decide_eq_true h
  have h2 : ∀ a ∈ wsSel, a ∉ six := by decide
  exact h2 x (of_decide_eq_true h1)
end

/- What is a read has no word that writes: plain functions (no function of the program is named here). -/
section
open Go.RowKit
set_option maxRecDepth 100000

theorem endF_split (l : List Tok) : ∃ st, l = endF l ++ st ∧ ∀ x ∈ st, stopF x = true := by
  refine ⟨(l.reverse.takeWhile stopF).reverse, ?_, fun x hx => ?_⟩
  · unfold endF
    rw [← List.reverse_append, List.takeWhile_append_dropWhile, List.reverse_reverse]
  · exact List.all_eq_true.1 List.all_takeWhile x (List.mem_reverse.1 hx)

def eight : List (List UInt8) := [wSELECT, wWITH, wTABLE, wVALUES, wSHOW, wDESCRIBE, wDESC, wEXPLAIN]

theorem one_facts {m : List Tok} (h : classF m = 1) : ∃ t r, m = t :: r ∧ t.1 = 1 ∧ m.any stopF = false ∧ t.2 ∈ eight ∧ (t.2 ∈ wsSel → hasF m six = false) := by
  cases m with
  | nil => rw [classF_nil] at h; cases h
  | cons t r =>
    by_cases h1 : t.1 = 1
    · cases hs : (t :: r).any stopF with
      | true => rw [classF_no (.inr hs)] at h; cases h
      | false =>
        rw [classF_word h1 hs] at h
        refine ⟨t, r, rfl, h1, rfl, ?_⟩
        have hb : ∀ (c : Int) (b : Bool), c ≠ 1 → ifF c b ≠ 1 := fun c b hc => by cases b <;> simp [ifF, hc]
        have hse : ∀ b, selF r b = 1 → hasF r six = false := fun b hh => by
          unfold selF at hh
          cases hx : hasF r six with
          | false => rfl
          | true => rw [hx] at hh; cases hh
        have hno : ∀ v : Int, famF t.2 = v → (v ≠ 4 ∧ v ≠ 5) → t.2 ∉ wsSel := fun v hv hvv hm => by
          have h2 : decide (t.2 ∈ wsSel) = true := decide_eq_true hm
          rw [famSel, hv] at h2
          have := of_decide_eq_true h2
          omega
        have hcons : (famF t.2 = 4 ∨ famF t.2 = 5) → hasF r six = false → hasF (t :: r) six = false := fun hf hr => by
          have e : hasF (t :: r) six = (wordF six t || hasF r six) := rfl
          have hw : wordF six t = false := by
            unfold wordF
            rw [decide_eq_false (six_sel hf)]
            simp
          rw [e, hw, hr]
          rfl
        have hmem : ∀ (v : Int) (ws : List (List UInt8)), famF t.2 = v → v ≠ 0 → (∀ p ∈ famL, p.2 = v → p.1 ∈ ws) → t.2 ∈ ws := fun v ws hv h0 hp => hp _ (fam_mem hv h0) rfl
        rcases fam_out t.2 with hv | hv | hv | hv | hv | hv | hv | hv | hv | hv | hv
        · rw [hv] at h; cases h
        · exact ⟨hmem 1 eight hv (by decide) (by decide), fun hm => absurd hm (hno 1 hv (by decide))⟩
        · exact ⟨hmem 2 eight hv (by decide) (by decide), fun hm => absurd hm (hno 2 hv (by decide))⟩
        · rw [hv] at h; cases h
        · rw [hv] at h; exact ⟨hmem 4 eight hv (by decide) (by decide), fun _ => hcons (.inl hv) (hse _ h)⟩
        · rw [hv] at h; exact ⟨hmem 5 eight hv (by decide) (by decide), fun _ => hcons (.inr hv) (hse _ h)⟩
        · rw [hv] at h; exact absurd h (hb _ _ (by decide))
        · rw [hv] at h; exact absurd h (hb _ _ (by decide))
        · rw [hv] at h; exact absurd h (hb _ _ (by decide))
        · rw [hv] at h; exact absurd h (hb _ _ (by decide))
        · rw [hv] at h; exact absurd h (hb _ _ (by decide))
    · rw [classF_no (.inl h1)] at h; cases h

/-- what is no hint, of so many tokens -/
def preF (L : List Tok) (k : Nat) : List Tok := (L.take k).filter fun t => !isHintF t
theorem preF_hint {L : List Tok} {k : Nat} (hk : k < L.length) (h : isHintF L[k] = true) : preF L (k + 1) = preF L k := by
  unfold preF
  rw [List.take_succ_eq_append_getElem hk, List.filter_append]
  simp [h]
theorem preF_push {L : List Tok} {k : Nat} (hk : k < L.length) (h : isHintF L[k] = false) : preF L (k + 1) = preF L k ++ [L[k]] := by
  unfold preF
  rw [List.take_succ_eq_append_getElem hk, List.filter_append]
  simp [h]
theorem preF_all (L : List Tok) {k : Nat} (hk : L.length ≤ k) : preF L k = L.filter fun t => !isHintF t := by
  unfold preF
  rw [List.take_of_length_le hk]

/-- the first one's text -/
def hdF (P : List Tok) : List UInt8 := (P.head?.map Prod.snd).getD []

theorem safe_next {L m st : List Tok} {t : Tok} {r : List Tok} (hH : L.filter (fun t => !isHintF t) = m ++ st) (hst : ∀ x ∈ st, stopF x = true) (hm : m = t :: r) (hns : m.any stopF = false) {k : Nat} (hk : k < L.length) (hx : isHintF L[k] = false) :
    (stopF L[k] = true → m.length ≤ (preF L k).length ∧ hdF (preF L (k + 1)) = hdF (preF L k)) ∧
    (stopF L[k] = false → (preF L k).length < m.length ∧ L[k] ∈ m ∧ ((preF L k = [] ∧ L[k] = t ∧ hdF (preF L k) = [] ∧ hdF (preF L (k + 1)) = t.2) ∨ (hdF (preF L k) = t.2 ∧ hdF (preF L (k + 1)) = t.2))) := by
  have hpush := preF_push hk hx
  have hsplit : m ++ st = (preF L k ++ [L[k]]) ++ (L.drop (k + 1)).filter (fun t => !isHintF t) := by
    rw [← hpush, ← hH]
    unfold preF
    rw [← List.filter_append, List.take_append_drop]
  have hget : (m ++ st)[(preF L k).length]? = some L[k] := by
    rw [hsplit, List.append_assoc, List.getElem?_append_right (Nat.le_refl _)]
    simp
  have hpre : preF L k = (m ++ st).take (preF L k).length := by
    rw [hsplit, List.append_assoc, List.take_append_of_le_length (Nat.le_refl _), List.take_of_length_le (Nat.le_refl _)]
  have hhd : ∀ j, 0 < j → hdF ((m ++ st).take j) = t.2 := fun j hj => by
    obtain ⟨j, rfl⟩ : ∃ i, j = i + 1 := ⟨j - 1, by omega⟩
    rw [hm]
    rfl
  have hm0 : 0 < m.length := by rw [hm]; simp
  rw [hpush]
  have happ : preF L k ++ [L[k]] = (m ++ st).take ((preF L k).length + 1) := by
    have h1 : ((preF L k).length + 1) = (preF L k ++ [L[k]]).length := by simp
    rw [hsplit, h1, List.take_append_of_le_length (Nat.le_refl _), List.take_of_length_le (Nat.le_refl _)]
  have hhd1 : hdF (preF L k ++ [L[k]]) = t.2 := by rw [happ]; exact hhd _ (by omega)
  refine ⟨fun hs => ?_, fun hs => ?_⟩
  · have hge : m.length ≤ (preF L k).length := by
      rcases Nat.lt_or_ge (preF L k).length m.length with hlt | hge
      · rw [List.getElem?_append_left hlt] at hget
        have hmem := List.mem_of_getElem? hget
        rw [List.any_eq_false] at hns
        exact absurd hs (hns _ hmem)
      · exact hge
    refine ⟨hge, ?_⟩
    rw [hhd1, hpre]
    exact (hhd _ (by omega)).symm
  · have hlt : (preF L k).length < m.length := by
      rcases Nat.lt_or_ge (preF L k).length m.length with hlt | hge
      · exact hlt
      · rw [List.getElem?_append_right hge] at hget
        have := hst _ (List.mem_of_getElem? hget)
        rw [hs] at this
        cases this
    rw [List.getElem?_append_left hlt] at hget
    refine ⟨hlt, List.mem_of_getElem? hget, ?_⟩
    rcases Nat.eq_zero_or_pos (preF L k).length with h0 | h0
    · have hnil : preF L k = [] := List.eq_nil_of_length_eq_zero h0
      refine .inl ⟨hnil, ?_, by rw [hnil]; rfl, hhd1⟩
      rw [h0, hm] at hget
      simpa using hget.symm
    · refine .inr ⟨?_, hhd1⟩
      rw [hpre]
      exact hhd _ (by omega)
theorem six_word {m : List Tok} {x : Tok} (h : hasF m six = false) (hx : x ∈ m) (h1 : x.1 = 1) : x.2 ∉ six := fun h6 => by
  unfold hasF at h
  rw [List.any_eq_false] at h
  refine h x hx ?_
  unfold wordF
  rw [decide_eq_true h1, decide_eq_true h6]
  rfl
end
end Go.Proofs.YtaimmdhjfccnkaaDoor
