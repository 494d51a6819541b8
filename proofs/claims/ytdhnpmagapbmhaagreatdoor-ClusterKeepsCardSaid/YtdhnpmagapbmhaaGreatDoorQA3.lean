/-
  Contracts and plain functions that the law stands on, part 3 of 19.
-/
import Derived.Test.YtdhnpmagapbmhaaGreatDoorQA2
import Derived.Shelf.Strings.MapGrows
import Derived.BigQuiet
import Derived.KernelRfl
import Derived.Lib.Case
import Derived.Lib.MapLaws
namespace Go.Proofs.YtdhnpmagapbmhaaGreatDoor
/- The document's layer 4: which tokens may be: contract. -/
section
open Go.RowKit
set_option maxRecDepth 100000

theorem skip_plain (c : UInt8) (r : List UInt8) (h1 : blankF c = false) (h2 : begF [47, 42] (c :: r) = false) (h3 : c.toNat ≠ 35) (h4 : begF [45, 45] (c :: r) = false) : skipF (c :: r) = 0 := by
  have hr : isRemarkF (c :: r) = false := by unfold isRemarkF; rw [h2]; rfl
  have hl : isLineF (c :: r) = false := by
    show (decide (c.toNat = 35) || begF [45, 45] (c :: r)) = false
    rw [decide_eq_false h3, h4]
    rfl
  rw [skipF, h1, hr, hl]
  rfl
theorem beg_not {a b c : UInt8} {r : List UInt8} (h : c ≠ a) : begF [a, b] (c :: r) = false := by
  cases hb : begF [a, b] (c :: r) with
  | false => rfl
  | true => exact absurd (beg_two _ _ _ _ hb) h
theorem lod_plain (c : UInt8) (h : lodF c = true) : blankF c = false ∧ c ≠ 47 ∧ c ≠ 45 ∧ c.toNat ≠ 35 := by
  have := by_all (fun c => !lodF c || (!blankF c && (decide (c ≠ 47) && (decide (c ≠ 45) && decide (c.toNat ≠ 35))))) (by decide +kernel) c
  rw [h] at this
  simp only [Bool.not_true, Bool.false_or, Bool.and_eq_true, Bool.not_eq_true', decide_eq_true_eq] at this
  exact this
theorem skip_lod (c : UInt8) (r : List UInt8) (h : lodF c = true) : skipF (c :: r) = 0 := by
  obtain ⟨h1, h2, h3, h4⟩ := lod_plain c h
  exact skip_plain c r h1 (beg_not h2) h4 (beg_not h3)
theorem digit_no_letter (c : UInt8) (h : digitF c = true) : letterF c = false := by
  have := by_all (fun c => !digitF c || !letterF c) (by decide +kernel) c
  rw [h] at this
  simpa using this

theorem sign_parts (c : UInt8) : signF c = true ↔ (33 ≤ c.toNat ∧ c.toNat ≤ 126 ∧ letterF c = false ∧ digitF c = false ∧ c.toNat ≠ 34 ∧ c.toNat ≠ 96 ∧ c.toNat ≠ 39 ∧ c.toNat ≠ 35) := by
  have hs : signF c = (!(decide (c.toNat ≤ 32) || decide (126 < c.toNat) || lodF c) && (decide (c.toNat ≠ 34) && decide (c.toNat ≠ 96) && decide (c.toNat ≠ 39) && decide (c.toNat ≠ 35))) := rfl
  have hl : lodF c = (letterF c || digitF c) := rfl
  rw [hs, hl]
  cases letterF c <;> cases digitF c <;> simp <;> omega
theorem blank_lt (c : UInt8) (h : 33 ≤ c.toNat) : blankF c = false := by
  have := by_all (fun c => decide (c.toNat < 33) || !blankF c) (by decide +kernel) c
  simp only [Bool.or_eq_true, decide_eq_true_eq, Bool.not_eq_true'] at this
  rcases this with h1 | h1
  · omega
  · exact h1
end

/- The document's layer 4: which tokens may be, by the call: contract. -/
section
open Go.RowKit
set_option maxRecDepth 100000
end

/- What is written of rows of tokens, by package lex: contract. -/
section
open Go.RowKit
set_option maxRecDepth 100000

theorem Bd.next {B b : Nat} {l : List UInt8} {w w' : World} (h : Bd B b l w) (hb : Below w.heap.size w w') : Bd B b l w' :=
  Or.elim h (fun x => .inl (Lib.BuilderAtF.below x hb)) (fun x => .inr (Lib.BuilderAtF.below x hb))
theorem Bd.lt {B b : Nat} {l : List UInt8} {w : World} (h : Bd B b l w) : b < w.heap.size := by
  rcases h with ⟨_, v, hb, _⟩ | ⟨_, v, hb, _⟩
  · exact (Array.getElem?_eq_some_iff.1 hb).1
  · exact (Array.getElem?_eq_some_iff.1 hb).1
theorem Kept.cells {b k : Nat} {w w' : World} {cs : Array Value} {t : TypeId} {fz : Nat × Nat} (h : Kept b w w') (hk : w.heap[k]? = some (.cells cs t fz)) (hkb : k ≠ b) (ht : t ≠ 5) : w'.heap[k]? = some (.cells cs t fz) :=
  h k _ hk (fun e => hkb (Option.some.inj e)) (fun c fz' e => by
    simp only [Obj.cells.injEq] at e
    exact ht e.2.1)

/-- tokens' texts, each with one more byte, are so many bytes -/
def sumT (ts : List Tk) : Nat := (ts.map fun t => t.t.size + 1).sum
theorem sumT_append (a b : List Tk) : sumT (a ++ b) = sumT a + sumT b := by simp [sumT]
theorem sumT_at {ts : List Tk} {k : Nat} (h : k < ts.length) : sumT (ts.take k) + ts[k].t.size + 1 ≤ sumT ts := by
  have e : sumT ts = sumT (ts.take k) + sumT (ts.drop k) := by rw [← sumT_append, List.take_append_drop]
  rw [e, List.drop_eq_getElem_cons h]
  simp only [sumT, List.map_cons, List.sum_cons]
  omega

theorem sumT_len : ∀ ts : List Tk, ts.length ≤ sumT ts
  | [] => Nat.zero_le _
  | t :: r => by
    have := sumT_len r
    simp only [sumT, List.map_cons, List.sum_cons, List.length_cons] at this ⊢
    omega

def writeF : List (Int × List UInt8) → List UInt8
  | [] => []
  | t :: r => writtenF t.1 t.2 ++ r.flatMap fun t => 32 :: writtenF t.1 t.2
theorem writeF_next (l : List (Int × List UInt8)) (x : Int × List UInt8) (h : l ≠ []) : writeF (l ++ [x]) = writeF l ++ [32] ++ writtenF x.1 x.2 := by
  cases l with
  | nil => exact absurd rfl h
  | cons t r => simp [writeF]
theorem writeF_len : ∀ ts : List Tk, (writeF (saysT ts)).length ≤ 8 * sumT ts := by
  have key : ∀ ts : List Tk, ((saysT ts).flatMap fun t => 32 :: writtenF t.1 t.2).length ≤ 8 * sumT ts := by
    intro ts
    induction ts with
    | nil => simp [saysT, sumT]
    | cons t r ih =>
      have h1 := writtenF_length t.k t.t.data.toList
      have h2 := text_len t.t
      simp only [saysT, List.map_cons, List.flatMap_cons, List.length_append, List.length_cons, sumT, List.sum_cons, Tk.says] at ih ⊢
      omega
  intro ts
  cases ts with
  | nil => simp [saysT, writeF, sumT]
  | cons t r =>
    have h1 := writtenF_length t.k t.t.data.toList
    have h2 := text_len t.t
    have h3 := key r
    simp only [saysT, List.map_cons, writeF, List.length_append, sumT, List.sum_cons, Tk.says] at h3 ⊢
    omega

set_option maxHeartbeats 2000000 in
theorem write_ok (A : Option Addr) (n c : Nat) (ts : List Tk) (w : World) (h : TR w A n ts) (hm : sumT ts ≤ 1000000) (hL : Lw w) :
    Calls Tryz.prog 201 #[.slice A n c] w fun e w' => ∃ r : ByteArray, e = .returned (.string r) ∧ r.data.toList = writeF (saysT ts) ∧ Below w.heap.size w w' := by
  have hlen := Lib.hid h.len
  have hn : n ≤ 1000000 := by
    have := sumT_len ts
    have := h.len
    omega
  go_enter Tryz.func201, Tryz.ntmps201
  go_wp2
  go_loopw [8] (fun v8 wr => ∃ (k : Nat), v8 = .int .i64 k ∧ k ≤ n ∧ Bd w.heap.size w.heap.size (writeF (saysT (ts.take k))) wr ∧ Below w.heap.size w wr) (fun v8 _ => n - (intOf v8).toNat)
  case atStart => exact ⟨0, rfl, Nat.zero_le _, Bd.new w w.heap.size (Nat.le_refl _), kp_new _ _⟩
  case round =>
    obtain ⟨k, rfl, hk, hI, kw⟩ := hrel
    by_cases hlt : k < n
    · have hkl : k < ts.length := by rw [hlen.out]; exact hlt
      obtain ⟨ad, rfl, hbl, hcells⟩ := h.at_ hkl
      obtain ⟨c0, c1⟩ := hcells wr kw
      have hsum := sumT_at hkl
      have hwl := writeF_len (ts.take k)
      have hnext : saysT (ts.take (k + 1)) = saysT (ts.take k) ++ [(ts[k].k, ts[k].t.data.toList)] := by
        rw [List.take_succ_eq_append_getElem hkl, saysT_append]; rfl
      have hne : 0 < k → saysT (ts.take k) ≠ [] := fun h0 e => by
        have := congrArg List.length e
        rw [saysT_length, List.length_take, Nat.min_eq_left (by omega)] at this
        exact absurd this (by simp; omega)
      have HW := Lib.hid fun u (hu : Lw u) => written_ok ts[k].k ts[k].t u hu (by omega)
      generalize ts[k].k = kd at *
      generalize ts[k].t = tx at *
      generalize hwk : writeF (saysT (ts.take k)) = wk at hI hwl
      have HN := Lib.hid hnext
      have HNE := Lib.hid hne
      have HWK := Lib.hid hwk
      have hbz := hI.lt
      have hL1 := hL.next kw
      clear hcells hnext hne hwk
      have hI1 := hI.alloc (.cells #[.int .i64 kd, .string tx] 142)
      have kw1 := kp_alloc kw (.cells #[.int .i64 kd, .string tx] 142)
      have hT := heap_alloc_new wr (.cells #[.int .i64 kd, .string tx] 142)
      have hz1 : wr.heap.size < (wr.alloc (.cells #[.int .i64 kd, .string tx] 142)).heap.size := by simp
      have HT := Lib.hid hT
      have HZ := Lib.hid hz1
      clear hT hz1
      by_cases hk0 : k = 0
      · subst hk0
        have hnx : Hid (writeF (saysT (ts.take (0 + 1))) = wk ++ writtenF kd tx.data.toList) := Lib.hid (by
          rw [HN.out, ← HWK.out]
          simp [saysT, writeF])
        have e0 : ad.add (0 * 2) = ad := by unfold Addr.add; simp
        rw [e0] at c0 c1
        clear e0
        obtain ⟨f0, f1, _, _⟩ := cells2 HT.out
        go_wp2_with fail
        refine (HW.out _ (hL1.next (kp_new _ _))).mono ?_
        rintro e w2 ⟨r, rfl, hr, k2⟩
        have hrl : r.size ≤ 2 * tx.size + 7 := by
          have h1 := writtenF_length kd tx.data.toList
          have h2 := text_len tx
          have h3 := text_len r
          rw [hr] at h3
          omega
        have HS := Lib.hid (writeString_s w.heap.size w.heap.size wk r w2 (hI1.next k2) (by omega) (by omega) (by have := kw1.size; have := k2.size; omega))
        go_wp2_with fail
        refine HS.out.mono ?_
        rintro e w3 ⟨rfl, hI3, b3, _⟩
        go_wp2_with fail
        go_roundw
        case rel => exact ⟨0 + 1, by go_num, by omega, by rw [hnx.out, ← hr]; exact hI3, (kp_trans kw1 k2).trans b3⟩
        case measure => simp [intOf]; omega
      · have hnx : Hid (writeF (saysT (ts.take (k + 1))) = wk ++ [32] ++ writtenF kd tx.data.toList) := Lib.hid (by
          rw [HN.out, writeF_next _ _ (HNE.out (by omega)), HWK.out])
        have hW1 := writeByte_s w.heap.size w.heap.size wk 32 _ hI1 (by omega) (by have := kw1.size; omega)
        rw [show (((32 : UInt8).toNat : Nat) : Int) = 32 from rfl] at hW1
        have HW1 := Lib.hid hW1
        have hpos : (0 : Int) < (k : Int) := by omega
        clear hW1
        go_wp2_with fail
        refine HW1.out.mono ?_
        rintro e w2 ⟨rfl, hI2, b2, k2⟩
        obtain ⟨f0, f1, _, _⟩ := cells2 (k2.cells HT.out (by omega) (by decide))
        have kw2 := kw1.trans b2
        go_wp2_with fail
        refine (HW.out _ (hL.next kw2)).mono ?_
        rintro e w3 ⟨r, rfl, hr, k3⟩
        have hrl : r.size ≤ 2 * tx.size + 7 := by
          have h1 := writtenF_length kd tx.data.toList
          have h2 := text_len tx
          have h3 := text_len r
          rw [hr] at h3
          omega
        have HS := Lib.hid (writeString_s w.heap.size w.heap.size (wk ++ [32]) r w3 (hI2.next k3) (by simp; omega) (by omega) (by have := kw2.size; have := k3.size; omega))
        go_wp2_with fail
        refine HS.out.mono ?_
        rintro e w4 ⟨rfl, hI4, b4, _⟩
        go_wp2_with fail
        go_roundw
        case rel => exact ⟨k + 1, by go_num, by omega, by rw [hnx.out, ← hr]; exact hI4, (kp_trans kw2 k3).trans b4⟩
        case measure => simp [intOf]; omega
    · obtain rfl : k = n := by omega
      rw [List.take_of_length_le (by rw [hlen.out]; exact Nat.le_refl _)] at hI
      have HS := Lib.hid (string_s w.heap.size w.heap.size _ wr hI kw.size)
      clear hI
      go_wp2_with fail
      refine HS.out.mono ?_
      rintro e w2 ⟨r, rfl, hr, b2⟩
      go_wp2_with fail
      go_ret
      exact ⟨r, rfl, hr, kw.trans b2⟩
end

/- Rows of tokens: are they the same, are they large, may they be; the statements' own copies of them: contracts. -/
section
open Go.RowKit
set_option maxRecDepth 100000
end

/- The calls whose answers the document fixes, at layer 4: they answer so. -/
section
open Go.RowKit
set_option maxRecDepth 100000
end

/- The document's layer 4: what is written of tokens that may be: contract. -/
section
open Go.RowKit
set_option maxRecDepth 100000

theorem right_kind {k : Int} {l : List UInt8} (h : rightF k l = true) : k = 1 ∨ k = 2 ∨ k = 3 ∨ k = 4 ∨ k = 5 ∨ k = 6 := by
  unfold rightF at h
  by_cases h0 : k = 1 ∨ k = 2 ∨ k = 3 ∨ k = 4 ∨ k = 5 ∨ k = 6
  · exact h0
  · rw [if_neg (by omega), if_neg (by omega), if_neg (by omega), if_neg (by omega), if_neg (by omega)] at h
    cases h
end

/- A region that draws its order, gone through once an operation; operations whose guard is known to fail are left out. -/
section
open Go.RowKit

def WantsNot (ops : Array Oper) (a : Act) (o : Oper) : Prop :=
  match o.guard with
  | none => False
  | some (j, b) => ∃ t, dstOf ops j = some t ∧ a.tmps.getD t undef = .bool (!b)

theorem wants_not {ops : Array Oper} {a : Act} {o : Oper} (h : WantsNot ops a o) : Region.wanted o (yielded ops a.tmps) = false := by
  unfold WantsNot at h
  unfold Region.wanted
  split at h
  · cases h
  · rename_i j b hg
    obtain ⟨t, ht, hv⟩ := h
    rw [hg]
    have hlt : t < a.tmps.size := by
      rcases Nat.lt_or_ge t a.tmps.size with h | h
      · exact h
      · rw [Array.getD_eq_getD_getElem?, Array.getElem?_eq_none h] at hv
        simp [undef] at hv
    rw [Array.getD_eq_getD_getElem?, Array.getElem?_eq_getElem hlt] at hv
    simp only [Option.getD_some] at hv
    unfold dstOf at ht
    simp [yielded, ht, Array.getElem?_eq_getElem hlt, hv]

section
variable {P : Program} {ops : Array Oper} {Q : Exit → Act → World → Prop}

end
end

/- LexTells: the tokens of any statement, whether any token may be, and what is written of tokens are as the document says: the walk. -/
section
open Go.RowKit
set_option maxRecDepth 100000

theorem step_size {l : List UInt8} (h : l ≠ []) : (∀ m, stepF l = .skip m → m ≤ l.length) ∧ ∀ k t m, stepF l = .tok k t m → m ≤ l.length := by
  cases l with
  | nil => exact absurd rfl h
  | cons c r =>
    rw [stepF]
    by_cases h1 : blankF c = true
    · rw [if_pos h1]
      exact ⟨fun m e => by injection e with e; simp; omega, fun k t m e => by cases e⟩
    rw [if_neg h1]
    by_cases h2 : isLineF (c :: r) = true
    · rw [if_pos h2]
      refine ⟨fun m e => ?_, fun k t m e => by cases e⟩
      injection e with e
      subst e
      unfold lineF
      split
      · exact Nat.le_refl _
      · have := indexByte_lt (l := c :: r) (c := 10) (by omega)
        omega
    rw [if_neg h2]
    by_cases h3 : isRemarkF (c :: r) = true
    · rw [if_pos h3]
      have h2a : begF [47, 42] (c :: r) = true := by
        unfold isRemarkF at h3
        simp only [Bool.and_eq_true] at h3
        exact h3.1
      have h5 := (List.isPrefixOf_iff_prefix.1 h2a).length_le
      have := (closedF_le (c :: r) 2 (by simpa using h5)).1
      split
      · exact ⟨fun m e => (by cases e), fun k t m e => by cases e⟩
      · exact ⟨fun m e => (by injection e with e; omega), fun k t m e => by cases e⟩
    rw [if_neg h3]
    cases hf : firstF (c :: r) with
    | none => exact ⟨fun m e => (by cases e), fun k t m e => by cases e⟩
    | some x =>
      obtain ⟨k, t, n⟩ := x
      have := (firstF_size k t n hf).2
      refine ⟨fun m e => (by cases e), fun k' t' m e => ?_⟩
      simp only [Step.tok.injEq] at e
      omega
theorem lexF_len : ∀ (n : Nat) (l : List UInt8) (x : List (Int × List UInt8)), l.length ≤ n → lexF l = some x → x.length ≤ l.length := by
  intro n
  induction n with
  | zero =>
    intro l x hl h
    obtain rfl : l = [] := List.eq_nil_of_length_eq_zero (by omega)
    rw [lexF_nil] at h
    injection h with h
    subst h
    exact Nat.le_refl _
  | succ n ih =>
    intro l x hl h
    by_cases hne : l = []
    · subst hne
      rw [lexF_nil] at h
      injection h with h
      subst h
      exact Nat.le_refl _
    obtain ⟨hs1, hs2⟩ := step_size hne
    cases hst : stepF l with
    | bad => rw [lexF_bad hne hst] at h; cases h
    | skip m =>
      by_cases hm : m = 0
      · rw [lexF, dif_neg hne, hst] at h
        simp [hm] at h
      · rw [lexF_skip hne hst hm] at h
        have := ih (l.drop m) x (by rw [List.length_drop]; omega) h
        rw [List.length_drop] at this
        omega
    | tok k t m =>
      have hml := hs2 k t m hst
      by_cases hm : m = 0
      · rw [lexF, dif_neg hne, hst] at h
        simp [hm] at h
      · rw [lexF_tok hne hst hm] at h
        obtain ⟨y, hy, rfl⟩ := Option.map_eq_some_iff.1 h
        have := ih (l.drop m) y (by rw [List.length_drop]; omega) hy
        rw [List.length_drop] at this
        simp
        omega
theorem lexA_len (l : List UInt8) : (lexA l).1.length ≤ 200 := by
  unfold lexA
  split
  · simp
  · cases h : lexF l with
    | none => simp
    | some x =>
      have := lexF_len l.length l x (Nat.le_refl _) h
      simp
      omega
end

/- What tokens are, as a statement: plain functions of lists of tokens (no function of the program is named here). -/
section
abbrev Tok := Int × List UInt8

def stopF (t : Tok) : Bool := decide (t.1 = 6) && decide (t.2 = [59])
def isHintF (t : Tok) : Bool := decide (t.1 = 5)
def wordF (ws : List (List UInt8)) (t : Tok) : Bool := decide (t.1 = 1) && decide (t.2 ∈ ws)
def hasF (l : List Tok) (ws : List (List UInt8)) : Bool := l.any (wordF ws)
def headF (l : List Tok) (ws : List (List UInt8)) : Bool := (l.head?.map (wordF ws)).getD false
def bareF (l : List Tok) (ws : List (List UInt8)) : Bool := decide (l.length = 0) || (decide (l.length = 1) && headF l ws)

/- the words -/
def wSHOW : List UInt8 := [83, 72, 79, 87]
def wDESCRIBE : List UInt8 := [68, 69, 83, 67, 82, 73, 66, 69]
def wDESC : List UInt8 := [68, 69, 83, 67]
def wEXPLAIN : List UInt8 := [69, 88, 80, 76, 65, 73, 78]
def wINSERT : List UInt8 := [73, 78, 83, 69, 82, 84]
def wUPDATE : List UInt8 := [85, 80, 68, 65, 84, 69]
def wDELETE : List UInt8 := [68, 69, 76, 69, 84, 69]
def wREPLACE : List UInt8 := [82, 69, 80, 76, 65, 67, 69]
def wCREATE : List UInt8 := [67, 82, 69, 65, 84, 69]
def wDROP : List UInt8 := [68, 82, 79, 80]
def wALTER : List UInt8 := [65, 76, 84, 69, 82]
def wTRUNCATE : List UInt8 := [84, 82, 85, 78, 67, 65, 84, 69]
def wGRANT : List UInt8 := [71, 82, 65, 78, 84]
def wREVOKE : List UInt8 := [82, 69, 86, 79, 75, 69]
def wCALL : List UInt8 := [67, 65, 76, 76]
def wLOCK : List UInt8 := [76, 79, 67, 75]
def wSELECT : List UInt8 := [83, 69, 76, 69, 67, 84]
def wVALUES : List UInt8 := [86, 65, 76, 85, 69, 83]
def wTABLE : List UInt8 := [84, 65, 66, 76, 69]
def wWITH : List UInt8 := [87, 73, 84, 72]
def wBEGIN : List UInt8 := [66, 69, 71, 73, 78]
def wSTART : List UInt8 := [83, 84, 65, 82, 84]
def wCOMMIT : List UInt8 := [67, 79, 77, 77, 73, 84]
def wROLLBACK : List UInt8 := [82, 79, 76, 76, 66, 65, 67, 75]
def wSET : List UInt8 := [83, 69, 84]
def wINTO : List UInt8 := [73, 78, 84, 79]
def wSHARE : List UInt8 := [83, 72, 65, 82, 69]
def wWORK : List UInt8 := [87, 79, 82, 75]
def wTRANSACTION : List UInt8 := [84, 82, 65, 78, 83, 65, 67, 84, 73, 79, 78]
def wANALYZE : List UInt8 := [65, 78, 65, 76, 89, 90, 69]
def wANALYSE : List UInt8 := [65, 78, 65, 76, 89, 83, 69]
def wAUTOCOMMIT : List UInt8 := [65, 85, 84, 79, 67, 79, 77, 77, 73, 84]
def wGLOBAL : List UInt8 := [71, 76, 79, 66, 65, 76]
def wPERSIST : List UInt8 := [80, 69, 82, 83, 73, 83, 84]

/-- the words that begin statements, and their families -/
def famL : List (List UInt8 × Int) :=
  [(wSHOW, 1), (wDESCRIBE, 1), (wDESC, 1), (wEXPLAIN, 2), (wINSERT, 3), (wUPDATE, 3), (wDELETE, 3), (wREPLACE, 3), (wCREATE, 3), (wDROP, 3), (wALTER, 3), (wTRUNCATE, 3), (wGRANT, 3), (wREVOKE, 3), (wCALL, 3), (wLOCK, 3),
   (wSELECT, 4), (wVALUES, 4), (wTABLE, 4), (wWITH, 5), (wBEGIN, 6), (wSTART, 7), (wCOMMIT, 8), (wROLLBACK, 9), (wSET, 10)]
def famF (x : List UInt8) : Int := ((famL.reverse.find? fun p => decide (p.1 = x)).map Prod.snd).getD 0

def six : List (List UInt8) := [wINSERT, wUPDATE, wDELETE, wREPLACE, wINTO, wSHARE]
def selF (rest : List Tok) (reads : Bool) : Int := if hasF rest six then 2 else if reads then 1 else 7
def ifF (c : Int) (b : Bool) : Int := if b then c else 7

/-- an EXPLAIN's class, of what is behind it, and of that's class -/
def exF (rest : List Tok) (c : Int) : Int := if headF rest [wANALYZE, wANALYSE] then (if c = 2 then 2 else if c = 7 then 7 else 1) else 1
/-- the class by the family of the first word -/
def famB (v : Int) (rest : List Tok) (ex : Int) : Int :=
  if v = 1 then 1
  else if v = 2 then ex
  else if v = 3 then 2
  else if v = 4 then selF rest true
  else if v = 5 then selF rest (hasF rest [wSELECT])
  else if v = 6 then ifF 3 (bareF rest [wWORK, wTRANSACTION])
  else if v = 7 then ifF 3 (headF rest [wTRANSACTION])
  else if v = 8 then ifF 4 (bareF rest [wWORK])
  else if v = 9 then ifF 5 (bareF rest [wWORK])
  else if v = 10 then ifF 6 (!headF rest [wAUTOCOMMIT, wGLOBAL, wPERSIST])
  else 7
/-- the class of tokens -/
def classF : List Tok → Int
  | [] => 7
  | t :: rest => if decide (t.1 ≠ 1) || (t :: rest).any stopF then 7 else famB (famF t.2) rest (exF rest (classF (rest.drop 1)))
termination_by l => l.length
decreasing_by
  simp only [List.length_drop, List.length_cons]
  omega
theorem classF_nil : classF [] = 7 := by rw [classF]
theorem classF_no {t : Tok} {r : List Tok} (h : t.1 ≠ 1 ∨ (t :: r).any stopF = true) : classF (t :: r) = 7 := by
  rw [classF]
  have : (decide (t.1 ≠ 1) || (t :: r).any stopF) = true := by
    rcases h with h | h
    · rw [decide_eq_true h]; rfl
    · rw [h]; simp
  rw [this, if_pos rfl]
theorem classF_word {t : Tok} {r : List Tok} (h : t.1 = 1) (hs : (t :: r).any stopF = false) : classF (t :: r) = famB (famF t.2) r (exF r (classF (r.drop 1))) := by
  rw [classF]
  have : (decide (t.1 ≠ 1) || (t :: r).any stopF) = false := by
    rw [hs, decide_eq_false (by simpa using h)]; rfl
  rw [this]
  rfl

/-- without the signs that end it -/
def endF (l : List Tok) : List Tok := (l.reverse.dropWhile stopF).reverse
theorem endF_stop {l : List Tok} {t : Tok} (h : stopF t = true) : endF (l ++ [t]) = endF l := by simp [endF, h]
theorem endF_last {l : List Tok} {t : Tok} (h : stopF t = false) : endF (l ++ [t]) = l ++ [t] := by simp [endF, h]
def bodyF (l : List Tok) : List Tok := endF (l.filter fun t => !isHintF t)
end

/- What lexed tokens are like: how long, and words have no blank (no function of the program is named here). -/
section
open Go.RowKit
set_option maxRecDepth 100000

theorem trimF_le (l : List UInt8) : (trimF l).length ≤ l.length := by
  unfold trimF Lib.trimS Lib.trimLeftS Lib.trimRightS
  have h1 := (List.dropWhile_sublist (fun x => blanks4.contains x) (l := (l.reverse.dropWhile (fun x => blanks4.contains x)).reverse)).length_le
  have h2 := (List.dropWhile_sublist (fun x => blanks4.contains x) (l := l.reverse)).length_le
  simp only [List.length_reverse] at h1 h2
  omega

/-- what the first token is like -/
def okTok (t : Tok) (n : Nat) : Prop := t.2.length ≤ n ∧ (t.1 = 1 → t.2 ≠ [] ∧ (32 : UInt8) ∉ t.2)

theorem up_blank (c : UInt8) (h : lodF c = true) : upF c ≠ 32 := by
  have := by_all (fun c => !lodF c || decide (upF c ≠ 32)) (by decide +kernel) c
  rw [h] at this
  simpa using this

theorem firstF_ok {l : List UInt8} {k : Nat} {t : List UInt8} {n : Nat} (h : firstF l = some (k, t, n)) : okTok ((k : Int), t) l.length := by
  cases l with
  | nil => simp [firstF] at h
  | cons c r =>
    have hsz := (firstF_size k t n h).2
    simp only [firstF] at h
    unfold okTok
    split at h
    · rename_i hc
      simp only [Option.some.injEq, Prod.mk.injEq] at h
      obtain ⟨rfl, rfl, rfl⟩ := h
      have hl : lodF c = true := by simp [lodF, hc]
      refine ⟨by simp [greatF]; omega, fun _ => ⟨?_, ?_⟩⟩
      · rw [runF_some hl]
        simp [greatF]
      · unfold greatF
        intro hm
        obtain ⟨b, hb, e⟩ := List.mem_map.1 hm
        exact up_blank b (runF_all lodF _ b hb) e
    split at h
    · simp only [Option.some.injEq, Prod.mk.injEq] at h
      obtain ⟨rfl, rfl, rfl⟩ := h
      exact ⟨by simp; omega, fun e => by simp at e⟩
    split at h
    · obtain ⟨x, hx, h⟩ := Option.map_eq_some_iff.1 h
      have := quotedF_le hx
      simp only [Prod.mk.injEq] at h
      obtain ⟨rfl, rfl, rfl⟩ := h
      exact ⟨by simp; omega, fun e => by simp at e⟩
    split at h
    · obtain ⟨x, hx, h⟩ := Option.map_eq_some_iff.1 h
      have := quotedF_le hx
      simp only [Prod.mk.injEq] at h
      obtain ⟨rfl, rfl, rfl⟩ := h
      exact ⟨by simp; omega, fun e => by simp at e⟩
    split at h
    · split at h
      · cases h
      · simp only [Option.some.injEq, Prod.mk.injEq] at h
        obtain ⟨rfl, rfl, rfl⟩ := h
        refine ⟨?_, fun e => by simp at e⟩
        have := trimF_le (((c :: r).take (closedF (c :: r) 3 - 2)).drop 3)
        simp only [List.length_drop, List.length_take] at this ⊢
        omega
    split at h
    · simp only [Option.some.injEq, Prod.mk.injEq] at h
      obtain ⟨rfl, rfl, rfl⟩ := h
      exact ⟨by simp, fun e => by simp at e⟩
    · cases h

theorem step_tok {l : List UInt8} {k : Nat} {t : List UInt8} {n : Nat} (h : stepF l = .tok k t n) : firstF l = some (k, t, n) := by
  cases l with
  | nil => simp [stepF] at h
  | cons c r =>
    rw [stepF] at h
    split at h
    · cases h
    split at h
    · cases h
    split at h
    · split at h <;> cases h
    · split at h
      · cases h
      · rename_i hf
        simp only [Step.tok.injEq] at h
        obtain ⟨rfl, rfl, rfl⟩ := h
        exact hf

theorem lexF_ok : ∀ (n : Nat) (l : List UInt8) (x : List Tok), l.length ≤ n → lexF l = some x → ∀ t ∈ x, okTok t l.length := by
  intro n
  induction n with
  | zero =>
    intro l x hl h
    obtain rfl : l = [] := List.eq_nil_of_length_eq_zero (by omega)
    rw [lexF_nil] at h
    injection h with h
    subst h
    simp
  | succ n ih =>
    intro l x hl h
    by_cases hne : l = []
    · subst hne
      rw [lexF_nil] at h
      injection h with h
      subst h
      simp
    cases hst : stepF l with
    | bad => rw [lexF_bad hne hst] at h; cases h
    | skip m =>
      by_cases hm : m = 0
      · rw [lexF, dif_neg hne, hst] at h
        simp [hm] at h
      · rw [lexF_skip hne hst hm] at h
        have hl0 := List.length_pos_iff.2 hne
        intro t ht
        have := ih (l.drop m) x (by rw [List.length_drop]; omega) h t ht
        rw [List.length_drop] at this
        exact ⟨by have := this.1; omega, this.2⟩
    | tok k t m =>
      by_cases hm : m = 0
      · rw [lexF, dif_neg hne, hst] at h
        simp [hm] at h
      · rw [lexF_tok hne hst hm] at h
        obtain ⟨y, hy, rfl⟩ := Option.map_eq_some_iff.1 h
        have hl0 := List.length_pos_iff.2 hne
        intro t' ht'
        rcases List.mem_cons.1 ht' with rfl | ht'
        · exact firstF_ok (step_tok hst)
        · have := ih (l.drop m) y (by rw [List.length_drop]; omega) hy t' ht'
          rw [List.length_drop] at this
          exact ⟨by have := this.1; omega, this.2⟩
theorem lexA_ok (l : List UInt8) : ∀ t ∈ (lexA l).1, okTok t 200 := by
  unfold lexA
  split
  · simp
  · cases h : lexF l with
    | none => simp
    | some x =>
      intro t ht
      have := lexF_ok l.length l x (Nat.le_refl _) h t ht
      exact ⟨by have := this.1; omega, this.2⟩

/-- a statement's class, and where it asks to go -/
def classA (l : List UInt8) : Int := if (lexA l).2 = 0 then classF (bodyF (lexA l).1) else 0
end

/- Tokens come back from what is written of them, whatever stands between: plain mathematics. -/
section
open Go.RowKit
set_option maxRecDepth 100000

theorem blank_parts (b : UInt8) (h : blankF b = true) : lodF b = false ∧ b ≠ 34 ∧ b ≠ 39 ∧ b ≠ 42 ∧ b ≠ 45 ∧ b ≠ 47 := by
  have := by_all (fun b => !blankF b || (!lodF b && (decide (b ≠ 34) && (decide (b ≠ 39) && (decide (b ≠ 42) && (decide (b ≠ 45) && decide (b ≠ 47))))))) (by decide +kernel) b
  rw [h] at this
  simp only [Bool.not_true, Bool.false_or, Bool.and_eq_true, Bool.not_eq_true', decide_eq_true_eq] at this
  exact this
theorem runF_append {p : UInt8 → Bool} : ∀ (t : List UInt8) (b : UInt8) (r : List UInt8), runF p t = t.length → p b = false → runF p (t ++ b :: r) = t.length
  | [], b, r, _, hb => runF_none hb
  | c :: t, b, r, h, hb => by
    have hc : p c = true := by
      cases hp : p c with
      | true => rfl
      | false => rw [runF_none hp] at h; simp at h
    rw [runF_some hc] at h
    rw [List.cons_append, runF_some hc, runF_append t b r (by simpa using h) hb]
    rfl
theorem beg_snd {a b c d : UInt8} {r : List UInt8} (h : d ≠ b) : begF [a, b] (c :: d :: r) = false := by
  cases hb : begF [a, b] (c :: d :: r) with
  | false => rfl
  | true =>
    unfold begF Lib.hasPrefix at hb
    rw [List.isPrefixOf, List.isPrefixOf] at hb
    simp at hb
    exact absurd hb.2.symm h
theorem beg3_snd {a b e c d : UInt8} {r : List UInt8} (h : d ≠ b) : begF [a, b, e] (c :: d :: r) = false := by
  cases hb : begF [a, b, e] (c :: d :: r) with
  | false => rfl
  | true =>
    unfold begF Lib.hasPrefix at hb
    rw [List.isPrefixOf, List.isPrefixOf] at hb
    simp at hb
    exact absurd hb.2.1.symm h

theorem quoted_back (q : UInt8) : ∀ (t r : List UInt8), r[0]? ≠ some q → quotedF q (twiceF q t ++ q :: r) = some (t, (twiceF q t).length + 1)
  | [], r, h => by
    rw [twiceF, List.nil_append, quotedF_ends h]
    rfl
  | b :: t, r, h => by
    have ih := quoted_back q t r h
    rw [twiceF]
    split
    · rename_i hb
      subst hb
      rw [List.cons_append, List.cons_append, quotedF_twice, ih]
      simp
    · rename_i hb
      rw [List.cons_append, quotedF_other hb, ih]
      simp

theorem index_behind : ∀ (t : List UInt8) (x : UInt8) (r : List UInt8), Lib.index t ends2 = -1 → x ≠ 47 → 0 ≤ Lib.index (x :: r) ends2 → Lib.index (t ++ x :: r) ends2 = (t.length : Int) + Lib.index (x :: r) ends2
  | [], x, r, _, _, _ => by simp
  | b :: t, x, r, h, hx, h0 => by
    have hb : ends2.isPrefixOf (b :: t) = false := by
      cases hp : ends2.isPrefixOf (b :: t) with
      | false => rfl
      | true => rw [Lib.index, hp] at h; simp at h
    have ht : Lib.index t ends2 = -1 := by
      rw [Lib.index, hb] at h
      simp only [Bool.false_eq_true, if_false] at h
      split at h
      · rename_i h1; simpa using h1
      · have := Lib.index_ge t ends2
        omega
    have hb2 : ends2.isPrefixOf (b :: (t ++ x :: r)) = false := by
      cases hp : ends2.isPrefixOf (b :: (t ++ x :: r)) with
      | false => rfl
      | true =>
        exfalso
        unfold ends2 at hp hb
        cases t with
        | nil =>
          rw [List.nil_append, List.isPrefixOf, List.isPrefixOf] at hp
          simp at hp
          exact hx hp.2.symm
        | cons d t =>
          rw [List.cons_append, List.isPrefixOf, List.isPrefixOf] at hp
          rw [List.isPrefixOf, List.isPrefixOf] at hb
          simp at hp hb
          exact hb hp.1 hp.2
    have ih := index_behind t x r ht hx h0
    rw [List.cons_append, Lib.index, hb2, ih]
    simp only [Bool.false_eq_true, if_false]
    rw [if_neg (by simp only [beq_iff_eq]; omega)]
    simp
    omega
theorem index_here (r : List UInt8) : Lib.index (42 :: 47 :: r) ends2 = 0 := by
  rw [Lib.index, if_pos (by simp [ends2, List.isPrefixOf])]

theorem trim_spaces (t : List UInt8) : trimF (32 :: t ++ [32]) = trimF t := by
  rw [trimF_R, trimF_R]
  have e1 : trimR (32 :: t ++ [32]) = rtrim blankF ((t ++ [32]).dropWhile blankF) := by
    unfold trimR rtrim
    rw [List.cons_append, dropWhile_front (by decide)]
  have e2 : trimR t = rtrim blankF (t.dropWhile blankF) := rfl
  rw [e1, e2, ← trim_sides, ← trim_sides, rtrim_front (by decide)]

theorem no_end (t : List UInt8) (h : Lib.contains t ends2 = false) : Lib.index t ends2 = -1 := by
  unfold Lib.contains at h
  have h2 : ¬ 0 ≤ Lib.index t ends2 := by simpa using h
  have := Lib.index_ge t ends2
  omega

theorem step_of_first (c : UInt8) (r : List UInt8) (h : skipF (c :: r) = 0) {k : Nat} {t : List UInt8} {n : Nat} (hf : firstF (c :: r) = some (k, t, n)) : stepF (c :: r) = .tok k t n := by
  rw [(step_first c r h).2.2, hf]

/-- what is written of a token, and a blank behind: that token comes first -/
theorem step_written (k : Int) (t : List UInt8) (hr : rightF k t = true) (b : UInt8) (hb : blankF b = true) (rest : List UInt8) :
    stepF (writtenF k t ++ b :: rest) = .tok k.toNat t (writtenF k t).length ∧ writtenF k t ≠ [] := by
  obtain ⟨bl, b34, b39, b42, b45, b47⟩ := blank_parts b hb
  rcases right_kind hr with rfl | rfl | rfl | rfl | rfl | rfl
  · have hw : writtenF 1 t = t := rfl
    rw [hw]
    have hF : rightWordF t = true := hr
    cases t with
    | nil => simp [rightWordF] at hF
    | cons c r =>
      simp only [rightWordF, Bool.and_eq_true, decide_eq_true_eq] at hF
      obtain ⟨h1, h2, h3⟩ := hF
      have hlod : lodF c = true := by simp [lodF, h1]
      have hrun := runF_append (p := lodF) (c :: r) b rest h2 bl
      rw [List.cons_append] at hrun ⊢
      refine ⟨step_of_first c _ (skip_lod c _ hlod) ?_, by simp⟩
      simp only [firstF, h1, if_true]
      rw [hrun]
      have e1 : (c :: (r ++ b :: rest)).take (c :: r).length = c :: r := by
        rw [← List.cons_append, List.take_left']
        rfl
      rw [e1, h3]
      rfl
  · have hw : writtenF 2 t = 34 :: (twiceF 34 t ++ [34]) := rfl
    rw [hw]
    have hs : skipF (34 :: (twiceF 34 t ++ [34] ++ b :: rest)) = 0 := skip_plain _ _ (by decide) (beg_not (by decide)) (by decide) (beg_not (by decide))
    refine ⟨?_, by simp⟩
    rw [List.cons_append]
    refine step_of_first _ _ hs ?_
    simp only [firstF]
    rw [if_neg (by decide), if_neg (by decide), if_pos (by decide), List.append_assoc]
    have := quoted_back 34 t (b :: rest) (by simpa using b34)
    rw [List.singleton_append, this]
    simp
  · have hw : writtenF 3 t = 39 :: (twiceF 39 t ++ [39]) := rfl
    rw [hw]
    have hs : skipF (39 :: (twiceF 39 t ++ [39] ++ b :: rest)) = 0 := skip_plain _ _ (by decide) (beg_not (by decide)) (by decide) (beg_not (by decide))
    refine ⟨?_, by simp⟩
    rw [List.cons_append]
    refine step_of_first _ _ hs ?_
    simp only [firstF]
    rw [if_neg (by decide), if_neg (by decide), if_neg (by decide), if_pos (by decide), List.append_assoc]
    have := quoted_back 39 t (b :: rest) (by simpa using b39)
    rw [List.singleton_append, this]
    simp
  · have hw : writtenF 4 t = t := rfl
    rw [hw]
    have hF : (decide (t ≠ []) && decide (runF digitF t = t.length)) = true := hr
    simp only [Bool.and_eq_true, decide_eq_true_eq] at hF
    cases t with
    | nil => exact absurd rfl hF.1
    | cons c r =>
      have h2 := hF.2
      have hd : digitF c = true := by
        cases hp : digitF c with
        | true => rfl
        | false => rw [runF_none hp] at h2; simp at h2
      have hlod : lodF c = true := by simp [lodF, hd]
      have hbd : digitF b = false := by
        cases hp : digitF b with
        | false => rfl
        | true => simp [lodF, hp] at bl
      have hrun := runF_append (p := digitF) (c :: r) b rest h2 hbd
      rw [List.cons_append] at hrun ⊢
      refine ⟨step_of_first c _ (skip_lod c _ hlod) ?_, by simp⟩
      simp only [firstF, digit_no_letter c hd, hd, Bool.false_eq_true, if_false, if_true]
      rw [hrun]
      have e1 : (c :: (r ++ b :: rest)).take (c :: r).length = c :: r := by
        rw [← List.cons_append, List.take_left']
        rfl
      rw [e1]
      rfl
  · have hF : (!Lib.contains t ends2 && decide (trimF t = t)) = true := hr
    simp only [Bool.and_eq_true, Bool.not_eq_true', decide_eq_true_eq] at hF
    have hw : writtenF 5 t ++ b :: rest = 47 :: (42 :: 43 :: 32 :: (t ++ 32 :: 42 :: 47 :: b :: rest)) := by simp [writtenF]
    have hwl : (writtenF 5 t).length = t.length + 7 := by simp [writtenF]
    have hidx : Lib.index (32 :: (t ++ 32 :: 42 :: 47 :: b :: rest)) ends2 = (t.length : Int) + 2 := by
      have h1 := index_behind t 32 (42 :: 47 :: b :: rest) (no_end t hF.1) (by decide) (by
        have := index_behind [32] 42 (47 :: b :: rest) (by decide) (by decide) (by rw [index_here]; omega)
        rw [List.singleton_append, index_here] at this
        rw [this]; simp)
      have h2 := index_behind [32] 42 (47 :: b :: rest) (by decide) (by decide) (by rw [index_here]; omega)
      rw [List.singleton_append, index_here] at h2
      rw [h2] at h1
      rw [Lib.index, if_neg (by simp [ends2, List.isPrefixOf]), h1, if_neg (by simp only [beq_iff_eq]; simp; omega)]
      simp
      omega
    have hbeg : begF [47, 42, 43] (47 :: (42 :: 43 :: 32 :: (t ++ 32 :: 42 :: 47 :: b :: rest))) = true := by simp [begF, Lib.hasPrefix, List.isPrefixOf]
    have hcl : closedF (47 :: (42 :: 43 :: 32 :: (t ++ 32 :: 42 :: 47 :: b :: rest))) 3 = t.length + 7 := by
      unfold closedF
      simp only [List.drop_succ_cons, List.drop_zero]
      rw [hidx, if_neg (by omega)]
      omega
    have hs : skipF (47 :: (42 :: 43 :: 32 :: (t ++ 32 :: 42 :: 47 :: b :: rest))) = 0 := by
      have hrm : isRemarkF (47 :: (42 :: 43 :: 32 :: (t ++ 32 :: 42 :: 47 :: b :: rest))) = false := by unfold isRemarkF; rw [hbeg]; simp
      have hln : isLineF (47 :: (42 :: 43 :: 32 :: (t ++ 32 :: 42 :: 47 :: b :: rest))) = false := by
        show (decide ((47 : UInt8).toNat = 35) || begF [45, 45] _) = false
        rw [beg_not (by decide)]
        decide
      rw [skipF, if_neg (by decide), hrm, hln]
      rfl
    refine ⟨?_, by intro e; rw [e] at hwl; simp at hwl⟩
    rw [hw, hwl]
    refine step_of_first _ _ hs ?_
    simp only [firstF]
    rw [if_neg (by decide), if_neg (by decide), if_neg (by decide), if_neg (by decide), if_pos hbeg, hcl, if_neg (by omega)]
    have e1 : ((47 :: (42 :: 43 :: 32 :: (t ++ 32 :: 42 :: 47 :: b :: rest))).take (t.length + 7 - 2)).drop 3 = 32 :: t ++ [32] := by
      rw [show t.length + 7 - 2 = (t.length + 1) + 1 + 1 + 1 + 1 from by omega]
      simp only [List.take_succ_cons, List.drop_succ_cons, List.drop_zero]
      have e2 : t ++ 32 :: 42 :: 47 :: b :: rest = (t ++ [32]) ++ 42 :: 47 :: b :: rest := by simp
      rw [e2, List.take_left' (by simp)]
      rfl
    rw [e1, trim_spaces, hF.2]
    rfl
  · have hw : writtenF 6 t = t := rfl
    rw [hw]
    cases t with
    | nil => exact absurd hr (by decide)
    | cons c r =>
      cases r with
      | cons d r =>
        have hF : false = true := hr
        cases hF
      | nil =>
        have hF : signF c = true := hr
        obtain ⟨g1, g2, g3, g4, g5, g6, g7, g8⟩ := (sign_parts c).1 hF
        have hs : skipF (c :: b :: rest) = 0 := skip_plain _ _ (blank_lt c g1) (beg_snd b42) g8 (beg_snd b45)
        refine ⟨step_of_first c _ hs ?_, by simp⟩
        simp only [firstF, g3, g4, Bool.false_eq_true, if_false]
        rw [if_neg (by omega), if_neg g7, if_neg (by rw [beg3_snd b42]; simp), if_pos hF]
        rfl
end

/- Letters' greatness changes no token where nothing is quoted: plain mathematics. -/
section
open Go.RowKit
set_option maxRecDepth 100000
end

/- What may stand between two tokens: blanks, remarks of each kind; a remark's line without line ends: plain mathematics. -/
section
open Go.RowKit
set_option maxRecDepth 100000

theorem lexF_blank (b : UInt8) (rest : List UInt8) (h : blankF b = true) : lexF (b :: rest) = lexF rest := by
  have hs : stepF (b :: rest) = .skip 1 := by rw [stepF, if_pos h]
  rw [lexF_skip (by simp) hs (by decide)]
  rfl
end

/- Texts that say tokens, one behind the other: what is written of tokens, in small letters, with remarks, blanks and signs ; between and behind (no function of the program is named here). -/
section
open Go.RowKit
set_option maxRecDepth 100000

/-- whatever stands behind: these tokens come first -/
def Says (p : List UInt8) (ts : List Tok) : Prop := ∀ rest, lexF (p ++ rest) = (lexF rest).map (ts ++ ·)
theorem Says.then_ {p l : List UInt8} {ts us : List Tok} (h : Says p ts) (k : lexF l = some us) : lexF (p ++ l) = some (ts ++ us) := by
  rw [h, k]
  rfl
/-- a spelling of a token, a blank behind -/
theorem says_tok {x : List UInt8} {k : Int} {t : List UInt8} (hk : 0 ≤ k) (b : UInt8) (hb : blankF b = true) (hs : ∀ rest, stepF (x ++ b :: rest) = .tok k.toNat t x.length) (hx : x ≠ []) : Says (x ++ [b]) [(k, t)] := fun rest => by
  have e : x ++ [b] ++ rest = x ++ b :: rest := by simp
  rw [e, lexF_tok (by simp) (hs rest) (by intro e; exact hx (List.eq_nil_of_length_eq_zero e)), List.drop_left' rfl, lexF_blank b rest hb]
  have : ((k.toNat : Nat) : Int) = k := by omega
  rw [this]
  cases lexF rest <;> simp
theorem says_written (k : Int) (t : List UInt8) (hr : rightF k t = true) (b : UInt8) (hb : blankF b = true) : Says (writtenF k t ++ [b]) [(k, t)] :=
  says_tok (by have := right_kind hr; omega) b hb (fun rest => (step_written k t hr b hb rest).1) (step_written k t hr b hb []).2
/-- what is written of a token, at the end -/
theorem step_end (k : Int) (t : List UInt8) (hr : rightF k t = true) (h5 : k ≠ 5) : stepF (writtenF k t) = .tok k.toNat t (writtenF k t).length ∧ writtenF k t ≠ [] := by
  rcases right_kind hr with rfl | rfl | rfl | rfl | rfl | rfl
  · have hw : writtenF 1 t = t := rfl
    rw [hw]
    have hF : rightWordF t = true := hr
    cases t with
    | nil => simp [rightWordF] at hF
    | cons c r =>
      simp only [rightWordF, Bool.and_eq_true, decide_eq_true_eq] at hF
      obtain ⟨h1, h2, h3⟩ := hF
      have hlod : lodF c = true := by simp [lodF, h1]
      refine ⟨step_of_first c _ (skip_lod c _ hlod) ?_, by simp⟩
      simp only [firstF, h1, if_true]
      rw [h2, List.take_length, h3]
      rfl
  · have hw : writtenF 2 t = 34 :: (twiceF 34 t ++ [34]) := rfl
    rw [hw]
    have hs : skipF (34 :: (twiceF 34 t ++ [34])) = 0 := skip_plain _ _ (by decide) (beg_not (by decide)) (by decide) (beg_not (by decide))
    refine ⟨step_of_first _ _ hs ?_, by simp⟩
    simp only [firstF]
    rw [if_neg (by decide), if_neg (by decide), if_pos (by decide), quoted_back 34 t [] (by simp)]
    simp
  · have hw : writtenF 3 t = 39 :: (twiceF 39 t ++ [39]) := rfl
    rw [hw]
    have hs : skipF (39 :: (twiceF 39 t ++ [39])) = 0 := skip_plain _ _ (by decide) (beg_not (by decide)) (by decide) (beg_not (by decide))
    refine ⟨step_of_first _ _ hs ?_, by simp⟩
    simp only [firstF]
    rw [if_neg (by decide), if_neg (by decide), if_neg (by decide), if_pos (by decide), quoted_back 39 t [] (by simp)]
    simp
  · have hw : writtenF 4 t = t := rfl
    rw [hw]
    have hF : (decide (t ≠ []) && decide (runF digitF t = t.length)) = true := hr
    simp only [Bool.and_eq_true, decide_eq_true_eq] at hF
    cases t with
    | nil => exact absurd rfl hF.1
    | cons c r =>
      have h2 := hF.2
      have hd : digitF c = true := by
        cases hp : digitF c with
        | true => rfl
        | false => rw [runF_none hp] at h2; simp at h2
      have hlod : lodF c = true := by simp [lodF, hd]
      refine ⟨step_of_first c _ (skip_lod c _ hlod) ?_, by simp⟩
      simp only [firstF, digit_no_letter c hd, hd, Bool.false_eq_true, if_false, if_true]
      rw [h2, List.take_length]
      rfl
  · exact absurd rfl h5
  · have hw : writtenF 6 t = t := rfl
    rw [hw]
    cases t with
    | nil => exact absurd hr (by decide)
    | cons c r =>
      cases r with
      | cons d r =>
        have hF : false = true := hr
        cases hF
      | nil =>
        have hF : signF c = true := hr
        obtain ⟨g1, g2, g3, g4, g5, g6, g7, g8⟩ := (sign_parts c).1 hF
        have n1 : begF [47, 42] [c] = false := by simp [begF, Lib.hasPrefix, List.isPrefixOf]
        have n2 : begF [45, 45] [c] = false := by simp [begF, Lib.hasPrefix, List.isPrefixOf]
        have n3 : begF [47, 42, 43] [c] = false := by simp [begF, Lib.hasPrefix, List.isPrefixOf]
        have hs : skipF [c] = 0 := skip_plain _ _ (blank_lt c g1) n1 g8 n2
        refine ⟨step_of_first c _ hs ?_, by simp⟩
        simp only [firstF, g3, g4, Bool.false_eq_true, if_false]
        rw [if_neg (by omega), if_neg g7, if_neg (by rw [n3]; simp), if_pos hF]
        rfl

theorem lex_write : ∀ ts : List Tok, (∀ t ∈ ts, rightF t.1 t.2 = true ∧ t.1 ≠ 5) → lexF (writeF ts) = some ts
  | [], _ => by rw [writeF, lexF_nil]
  | [t], h => by
    obtain ⟨h1, h5⟩ := h t (by simp)
    obtain ⟨hs, hne⟩ := step_end t.1 t.2 h1 h5
    have e : writeF [t] = writtenF t.1 t.2 := by simp [writeF]
    have hk : ((t.1.toNat : Nat) : Int) = t.1 := by have := right_kind h1; omega
    rw [e, lexF_tok hne hs (by intro e; exact hne (List.eq_nil_of_length_eq_zero e)), List.drop_length, lexF_nil, hk]
    rfl
  | t :: u :: r, h => by
    have ih := lex_write (u :: r) fun x hx => h x (List.mem_cons_of_mem _ hx)
    have e : writeF (t :: u :: r) = (writtenF t.1 t.2 ++ [32]) ++ writeF (u :: r) := by simp [writeF]
    rw [e]
    exact (says_written t.1 t.2 (h t (by simp)).1 32 (by decide)).then_ ih

theorem classA_lex {l : List UInt8} {ts : List Tok} (h : lexF l = some ts) (hl : l.length ≤ 200) : classA l = classF (bodyF ts) := by
  have e : lexA l = (ts, 0) := by
    unfold lexA
    rw [if_neg (by omega), h]
  unfold classA
  rw [e]
  rfl
end

/- What the small functions of package class do: contracts. -/
section
open Go.RowKit
set_option maxRecDepth 100000

theorem toList_is (s : ByteArray) (l : List UInt8) : (s.toList == l) = decide (s.data.toList = l) := by
  rw [ByteArray.toList_eq, Bool.eq_iff_iff]
  simp
/-- texts as bytes -/
def txs (ws : List ByteArray) : List (List UInt8) := ws.map fun x => x.data.toList
theorem mem_txs {s : ByteArray} {ws : List ByteArray} : s.data.toList ∈ txs ws ↔ s ∈ ws := by
  unfold txs
  rw [List.mem_map]
  constructor
  · rintro ⟨x, hx, e⟩
    rw [← text_ext e]
    exact hx
  · exact fun h => ⟨s, h, rfl⟩

theorem isStop_ok (t : Tk) (w : World) : Calls Tryz.prog 73 #[.agg #[.int .i64 t.k, .string t.t]] w fun e w' => e = .returned (.bool (stopF t.says)) ∧ Below w.heap.size w w' := by
  obtain ⟨k, s⟩ := t
  have kw := kp_new w (.cells #[.int .i64 k, .string s] 142)
  have hF : stopF (Tk.says ⟨k, s⟩) = (decide (k = 6) && (s.toList == [59])) := by rw [toList_is]; rfl
  have HF := Lib.hid hF
  clear hF
  by_cases h : k = 6
  · subst h
    go_enter Tryz.func73, Tryz.ntmps73
    go_wp2_with fail
    go_ret
    exact ⟨ret_bool (by rw [HF.out]; rfl), kw⟩
  · have HD := Lib.hid (decide_eq_false h)
    go_enter Tryz.func73, Tryz.ntmps73
    go_wp2_with fail
    go_ret
    exact ⟨ret_bool (by rw [HF.out, HD.out]; rfl), kw⟩

theorem isHint_ok (t : Tk) (w : World) : Calls Tryz.prog 82 #[.agg #[.int .i64 t.k, .string t.t]] w fun e w' => e = .returned (.bool (isHintF t.says)) ∧ Below w.heap.size w w' := by
  obtain ⟨k, s⟩ := t
  have kw := kp_new w (.cells #[.int .i64 k, .string s] 142)
  go_enter Tryz.func82, Tryz.ntmps82
  go_wp2_with fail
  go_ret
  exact ⟨ret_bool rfl, kw⟩

/-- a row of texts that is read -/
structure SR (w : World) (A : Option Addr) (n : Nat) (ws : List ByteArray) : Prop where
  len : ws.length = n
  rd : Rd w w.heap.size A (ws.map .string)
theorem SR.next {w w' : World} {A : Option Addr} {n : Nat} {ws : List ByteArray} (h : SR w A n ws) (hb : Below w.heap.size w w') : SR w' A n ws := ⟨h.len, (h.rd.below hb (Nat.le_refl _)).more hb.size⟩
theorem SR.at_ {w : World} {A : Option Addr} {n : Nat} {ws : List ByteArray} (h : SR w A n ws) {j : Nat} (hj : j < ws.length) : ∃ ad, A = some ad ∧ ad.block < w.heap.size ∧ w.cell? (ad.add j) = some (.string ws[j]) := by
  obtain ⟨ad, hA, hb, hc⟩ := h.rd.at_ (k := j) (by rw [List.length_map]; exact hj)
  exact ⟨ad, hA, hb, by simpa using hc⟩
theorem SR.new (w : World) (t : TypeId) (ws : List ByteArray) : SR (w.alloc (.cells (ws.map Value.string).toArray t)) (some ⟨w.heap.size, 0, none⟩) ws.length ws :=
  ⟨rfl, by have := Rd.new w t (ws.map Value.string); simpa using this⟩

theorem txt_ne {x y : ByteArray} (h : x ≠ y) : (x.toList == y.toList) = false := by
  rw [Bool.eq_false_iff]
  intro hh
  have h2 := eq_of_beq hh
  rw [ByteArray.toList_eq, ByteArray.toList_eq] at h2
  exact h (ByteArray.ext (Array.toList_inj.1 h2))

/-- where a text stands in a row -/
theorem indexS_ok (A : Option Addr) (n c : Nat) (ws : List ByteArray) (s : ByteArray) (w : World) (h : SR w A n ws) (hn : n ≤ 1000000) (b : Bool) (hb : Hid (decide (s.data.toList ∈ txs ws) = b)) :
    Calls Tryz.prog 153 #[.slice A n c, .string s] w fun e w' => ∃ r : Int, e = .returned (.int .i64 r) ∧ decide (0 ≤ r) = b ∧ w = w' := by
  have hlen := Lib.hid h.len
  go_enter Tryz.func153, Tryz.ntmps153
  go_wp2
  go_loop [8] (fun i => ∃ k : Nat, k ≤ n ∧ i = .int .i64 k ∧ Hid (s ∉ ws.take k)) (fun i => n - (intOf i).toNat)
  case atStart => exact ⟨0, Nat.zero_le _, rfl, Lib.hid (by simp)⟩
  case round =>
    obtain ⟨k, hk, rfl, hno⟩ := hrel
    by_cases hlt : k < n
    · have hkl : k < ws.length := by rw [hlen.out]; exact hlt
      obtain ⟨ad, rfl, _, hc⟩ := h.at_ hkl
      have hmem : ws[k] ∈ ws := List.getElem_mem hkl
      have hnx : s ≠ ws[k] → s ∉ ws.take (k + 1) := fun hne => by
        rw [List.take_succ_eq_append_getElem hkl]
        simp only [List.mem_append, List.mem_singleton]
        rintro (h1 | h1)
        · exact hno.out h1
        · exact hne h1
      generalize ws[k] = x at *
      by_cases hx : s = x
      · subst hx
        have hbt : b = true := by rw [← hb.out]; exact decide_eq_true (mem_txs.2 hmem)
        subst hbt
        clear hmem hnx
        go_wp2_with fail
        go_ret
        exact ⟨k, rfl, by simp, rfl⟩
      · have HN := Lib.hid (hnx hx)
        have ht := txt_ne hx
        clear hmem hnx hx
        go_wp2_with fail
        go_round
        case rel => exact ⟨k + 1, by omega, by go_num, HN⟩
        case measure => simp [intOf]; omega
    · obtain rfl : k = n := by omega
      have h1 := hno.out
      rw [List.take_of_length_le (by rw [hlen.out]; exact Nat.le_refl _)] at h1
      have hbf : b = false := by rw [← hb.out]; exact decide_eq_false fun h2 => h1 (mem_txs.1 h2)
      subst hbf
      clear h1
      go_wp2_with fail
      go_ret
      exact ⟨-1, rfl, by simp, rfl⟩
theorem containsS_ok (A : Option Addr) (n c : Nat) (ws : List ByteArray) (s : ByteArray) (w : World) (h : SR w A n ws) (hn : n ≤ 1000000) (b : Bool) (hb : Hid (decide (s.data.toList ∈ txs ws) = b)) :
    Calls Tryz.prog 125 #[.slice A n c, .string s] w fun e w' => e = .returned (.bool b) ∧ w = w' := by
  have hI := Lib.hid (indexS_ok A n c ws s w h hn b hb)
  go_enter Tryz.func125, Tryz.ntmps125
  go_wp2_with fail
  refine hI.out.mono ?_
  rintro e w1 ⟨r, rfl, hr, rfl⟩
  have HR := Lib.hid hr
  clear hr
  go_wp2_with fail
  go_ret
  exact ⟨ret_bool (by rw [← HR.out]), rfl⟩

theorem isWord_ok (t : Tk) (A : Option Addr) (n c : Nat) (ws : List ByteArray) (w : World) (h : SR w A n ws) (hn : n ≤ 1000000) :
    Calls Tryz.prog 107 #[.agg #[.int .i64 t.k, .string t.t], .slice A n c] w fun e w' => e = .returned (.bool (wordF (txs ws) t.says)) ∧ Below w.heap.size w w' := by
  obtain ⟨k, s⟩ := t
  have kw := kp_new w (.cells #[.int .i64 k, .string s] 142)
  have hF : wordF (txs ws) (Tk.says ⟨k, s⟩) = (decide (k = 1) && decide (s.data.toList ∈ txs ws)) := rfl
  have hC := Lib.hid (containsS_ok A n c ws s _ (h.next kw) hn _ (Lib.hid rfl))
  generalize decide (s.data.toList ∈ txs ws) = b at *
  have HF := Lib.hid hF
  clear hF
  by_cases hk : k = 1
  · subst hk
    go_enter Tryz.func107, Tryz.ntmps107
    go_wp2_with fail
    refine hC.out.mono ?_
    rintro e w1 ⟨rfl, rfl⟩
    go_wp2_with fail
    go_ret
    exact ⟨ret_bool (by rw [HF.out]; rfl), kw⟩
  · have HD := Lib.hid (decide_eq_false hk)
    go_enter Tryz.func107, Tryz.ntmps107
    go_wp2_with fail
    go_ret
    exact ⟨ret_bool (by rw [HF.out, HD.out]; rfl), kw⟩
end

/- The document's layer 5: is a word one of some (in), the word of a place (word), has: contracts. -/
section
open Go.RowKit
set_option maxRecDepth 100000
end

/- The document's words of layer 5, as plain functions: what stands between spaces, which family a word has. -/
section
open Go.RowKit
set_option maxRecDepth 100000

/-- the word of a token, or none -/
def wd (t : Tok) : List UInt8 := if t.1 = 1 then t.2 else []
/- families -/
end

/- What is a read has no word that writes: plain functions (no function of the program is named here). -/
section
open Go.RowKit
set_option maxRecDepth 100000

theorem endF_split (l : List Tok) : ∃ st, l = endF l ++ st ∧ ∀ x ∈ st, stopF x = true := by
  refine ⟨(l.reverse.takeWhile stopF).reverse, ?_, fun x hx => ?_⟩
  · unfold endF
    rw [← List.reverse_append, List.takeWhile_append_dropWhile, List.reverse_reverse]
  · exact List.all_eq_true.1 List.all_takeWhile x (List.mem_reverse.1 hx)
end

/- What a statement does, by its tokens: plain functions of lists of tokens (no function of the program is named here). -/
section
open Go.RowKit
set_option maxRecDepth 100000

/-- a String without its text -/
def emptyF (t : Tok) : Tok := if t.1 = 3 then (3, []) else t
def isStrF (t : Tok) : Bool := decide (t.1 = 3)
/-- the texts of the Strings -/
def strsF (l : List Tok) : List (List UInt8) := (l.filter isStrF).map Prod.snd
def keptF (l : List Tok) : List Tok := l.filter fun t => !isHintF t
theorem strsF_append (a b : List Tok) : strsF (a ++ b) = strsF a ++ strsF b := by simp [strsF]
theorem isStr_empty (t : Tok) : isStrF (emptyF t) = isStrF t := by
  unfold emptyF isStrF
  split
  · rename_i h; simp [h]
  · rfl
theorem stop_empty (t : Tok) : stopF (emptyF t) = stopF t := by
  unfold emptyF stopF
  split
  · rename_i h; simp [h]
  · rfl
theorem strsF_empty_len (l : List Tok) : (strsF (l.map emptyF)).length = (strsF l).length := by
  induction l with
  | nil => rfl
  | cons t r ih =>
    simp only [strsF, List.length_map, List.map_cons] at ih ⊢
    rw [List.filter_cons, List.filter_cons, isStr_empty]
    cases isStrF t <;> simp [ih]

/- what ends a text is chopped off -/
def cut2 : List UInt8 := [32, 59]
def chopF (l : List UInt8) : List UInt8 := Lib.trimRightS l cut2
theorem chop_cut {l : List UInt8} {c : UInt8} (h : cut2.contains c = true) : chopF (l ++ [c]) = chopF l := by
  have h' : c ∈ cut2 := by simpa using h
  simp [chopF, Lib.trimRightS, h']
theorem chop_stays {l : List UInt8} {c : UInt8} (h : cut2.contains c = false) : chopF (l ++ [c]) = l ++ [c] := by
  have h' : c ∉ cut2 := by simpa using h
  simp [chopF, Lib.trimRightS, h']

theorem lod_stays (c : UInt8) (h : lodF c = true) : cut2.contains c = false := by
  have := by_all (fun c => !lodF c || !cut2.contains c) (by decide +kernel) c
  rw [h] at this
  simpa using this
theorem sign_stays (c : UInt8) (h : signF c = true) (h2 : c ≠ 59) : cut2.contains c = false := by
  have := by_all (fun c => !signF c || decide (c = 59) || !cut2.contains c) (by decide +kernel) c
  rw [h, decide_eq_false h2] at this
  simpa using this
theorem last_of {l : List UInt8} (h : l ≠ []) : ∃ x c, l = x ++ [c] ∧ c ∈ l := ⟨l.dropLast, l.getLast h, (List.dropLast_concat_getLast h).symm, List.getLast_mem h⟩
/-- how what is written of a token ends -/
theorem written_ends {k : Int} {t : List UInt8} (hr : rightF k t = true) (h5 : k ≠ 5) (hs : stopF (k, t) = false) : ∃ x c, writtenF k t = x ++ [c] ∧ cut2.contains c = false := by
  rcases right_kind hr with rfl | rfl | rfl | rfl | rfl | rfl
  · have hw : writtenF 1 t = t := rfl
    have hF : rightWordF t = true := hr
    rw [hw]
    cases t with
    | nil => simp [rightWordF] at hF
    | cons c r =>
      simp only [rightWordF, Bool.and_eq_true, decide_eq_true_eq] at hF
      obtain ⟨x, d, e, hd⟩ := last_of (l := c :: r) (by simp)
      refine ⟨x, d, e, lod_stays d ?_⟩
      exact runF_all lodF (c :: r) d (by rw [hF.2.1, List.take_length]; exact hd)
  · exact ⟨34 :: twiceF 34 t, 34, rfl, by decide⟩
  · exact ⟨39 :: twiceF 39 t, 39, rfl, by decide⟩
  · have hw : writtenF 4 t = t := rfl
    have hF : (decide (t ≠ []) && decide (runF digitF t = t.length)) = true := hr
    simp only [Bool.and_eq_true, decide_eq_true_eq] at hF
    rw [hw]
    obtain ⟨x, d, e, hd⟩ := last_of hF.1
    refine ⟨x, d, e, lod_stays d ?_⟩
    have := runF_all digitF t d (by rw [hF.2, List.take_length]; exact hd)
    simp [lodF, this]
  · exact absurd rfl h5
  · have hw : writtenF 6 t = t := rfl
    rw [hw]
    cases t with
    | nil => exact absurd hr (by decide)
    | cons c r =>
      cases r with
      | cons d r =>
        have hF : false = true := hr
        cases hF
      | nil =>
        have hF : signF c = true := hr
        refine ⟨[], c, rfl, sign_stays c hF ?_⟩
        rintro rfl
        exact absurd hs (by decide)

theorem stop_is {t : Tok} (h : stopF t = true) : t = (6, [59]) := by
  obtain ⟨k, x⟩ := t
  simp only [stopF, Bool.and_eq_true, decide_eq_true_eq] at h
  rw [h.1, h.2]
/-- what is written of tokens, chopped, is written of those ahead of the signs that end them -/
theorem chop_write : ∀ (n : Nat) (ts : List Tok), ts.length ≤ n → (∀ t ∈ ts, rightF t.1 t.2 = true ∧ t.1 ≠ 5) → chopF (writeF ts) = writeF (endF ts) := by
  intro n
  induction n with
  | zero =>
    intro ts hn _
    obtain rfl : ts = [] := List.eq_nil_of_length_eq_zero (by omega)
    rfl
  | succ n ih =>
    intro ts hn h
    rcases List.eq_nil_or_concat ts with rfl | ⟨L, b, rfl⟩
    · rfl
    rw [List.concat_eq_append] at h hn ⊢
    rw [List.length_append, List.length_singleton] at hn
    have hL : ∀ t ∈ L, rightF t.1 t.2 = true ∧ t.1 ≠ 5 := fun t ht => h t (List.mem_append_left _ ht)
    by_cases hL0 : L = []
    · subst hL0
      cases hs : stopF b with
      | true =>
        obtain rfl := stop_is hs
        rw [endF_stop hs]
        rfl
      | false =>
        rw [endF_last hs]
        obtain ⟨x, c, e, hc⟩ := written_ends (h b (by simp)).1 (h b (by simp)).2 hs
        have e2 : writeF ([] ++ [b]) = writtenF b.1 b.2 := by simp [writeF]
        rw [e2, e, chop_stays hc]
    · rw [writeF_next L b hL0]
      cases hs : stopF b with
      | true =>
        obtain rfl := stop_is hs
        rw [endF_stop hs]
        show chopF (writeF L ++ [32] ++ [59]) = _
        rw [chop_cut (by decide), chop_cut (by decide)]
        exact ih L (by omega) hL
      | false =>
        rw [endF_last hs, writeF_next L b hL0]
        obtain ⟨x, c, e, hc⟩ := written_ends (h b (by simp)).1 (h b (by simp)).2 hs
        rw [e, ← List.append_assoc, chop_stays hc]
theorem write_inj {a b : List Tok} (ha : ∀ t ∈ a, rightF t.1 t.2 = true ∧ t.1 ≠ 5) (hb : ∀ t ∈ b, rightF t.1 t.2 = true ∧ t.1 ≠ 5) (h : writeF a = writeF b) : a = b := by
  have h1 := lex_write a ha
  have h2 := lex_write b hb
  rw [h, h2] at h1
  exact (Option.some.inj h1).symm

/- lexed tokens may be, Hints aside -/
theorem up_up (c : UInt8) : upF (upF c) = upF c := by
  have := by_all (fun c => decide (upF (upF c) = upF c)) (by decide +kernel) c
  simpa using this
theorem up_lod (c : UInt8) (h : lodF c = true) : lodF (upF c) = true := by
  have := by_all (fun c => !lodF c || lodF (upF c)) (by decide +kernel) c
  rw [h] at this
  simpa using this
theorem up_letter (c : UInt8) (h : letterF c = true) : letterF (upF c) = true := by
  have := by_all (fun c => !letterF c || letterF (upF c)) (by decide +kernel) c
  rw [h] at this
  simpa using this
theorem run_of_all {p : UInt8 → Bool} : ∀ (l : List UInt8), (∀ c ∈ l, p c = true) → runF p l = l.length
  | [], _ => rfl
  | c :: r, h => by rw [runF_some (h c (by simp)), run_of_all r fun d hd => h d (List.mem_cons_of_mem _ hd)]; rfl
theorem great_great (l : List UInt8) : greatF (greatF l) = greatF l := by
  simp only [greatF, List.map_map]
  exact List.map_congr_left fun c _ => up_up c
theorem first_right {l : List UInt8} {k : Nat} {t : List UInt8} {n : Nat} (h : firstF l = some (k, t, n)) (h5 : k ≠ 5) : rightF (k : Int) t = true := by
  cases l with
  | nil => simp [firstF] at h
  | cons c r =>
    simp only [firstF] at h
    split at h
    · rename_i hc
      simp only [Option.some.injEq, Prod.mk.injEq] at h
      obtain ⟨rfl, rfl, rfl⟩ := h
      have hl : lodF c = true := by simp [lodF, hc]
      show rightWordF _ = true
      have hall := runF_all lodF (c :: r)
      rw [runF_some hl, List.take_succ_cons] at hall ⊢
      have hlod : ∀ d ∈ greatF (c :: r.take (runF lodF r)), lodF d = true := fun d hd => by
        obtain ⟨b, hb, rfl⟩ := List.mem_map.1 hd
        exact up_lod b (hall b hb)
      have e : greatF (c :: r.take (runF lodF r)) = upF c :: greatF (r.take (runF lodF r)) := rfl
      have hg := great_great (c :: r.take (runF lodF r))
      rw [e] at hlod hg ⊢
      simp only [rightWordF, Bool.and_eq_true, decide_eq_true_eq]
      exact ⟨up_letter c hc, run_of_all _ hlod, hg⟩
    split at h
    · rename_i hd
      simp only [Option.some.injEq, Prod.mk.injEq] at h
      obtain ⟨rfl, rfl, rfl⟩ := h
      show (decide (_ ≠ []) && decide (runF digitF _ = _)) = true
      rw [run_of_all _ (runF_all digitF (c :: r)), runF_some hd, List.take_succ_cons]
      simp
    split at h
    · obtain ⟨x, _, h⟩ := Option.map_eq_some_iff.1 h
      simp only [Prod.mk.injEq] at h
      obtain ⟨rfl, rfl, rfl⟩ := h
      rfl
    split at h
    · obtain ⟨x, _, h⟩ := Option.map_eq_some_iff.1 h
      simp only [Prod.mk.injEq] at h
      obtain ⟨rfl, rfl, rfl⟩ := h
      rfl
    split at h
    · split at h
      · cases h
      · simp only [Option.some.injEq, Prod.mk.injEq] at h
        exact absurd h.1.symm h5
    split at h
    · rename_i hs
      simp only [Option.some.injEq, Prod.mk.injEq] at h
      obtain ⟨rfl, rfl, rfl⟩ := h
      exact hs
    · cases h
theorem lexF_right : ∀ (n : Nat) (l : List UInt8) (x : List Tok), l.length ≤ n → lexF l = some x → ∀ t ∈ x, t.1 ≠ 5 → rightF t.1 t.2 = true := by
  intro n
  induction n with
  | zero =>
    intro l x hl h
    obtain rfl : l = [] := List.eq_nil_of_length_eq_zero (by omega)
    rw [lexF_nil] at h
    injection h with h
    subst h
    simp
  | succ n ih =>
    intro l x hl h
    by_cases hne : l = []
    · subst hne
      rw [lexF_nil] at h
      injection h with h
      subst h
      simp
    have hl0 := List.length_pos_iff.2 hne
    cases hst : stepF l with
    | bad => rw [lexF_bad hne hst] at h; cases h
    | skip m =>
      by_cases hm : m = 0
      · rw [lexF, dif_neg hne, hst] at h
        simp [hm] at h
      · rw [lexF_skip hne hst hm] at h
        exact ih (l.drop m) x (by rw [List.length_drop]; omega) h
    | tok k t m =>
      by_cases hm : m = 0
      · rw [lexF, dif_neg hne, hst] at h
        simp [hm] at h
      · rw [lexF_tok hne hst hm] at h
        obtain ⟨y, hy, rfl⟩ := Option.map_eq_some_iff.1 h
        intro t' ht' h5
        rcases List.mem_cons.1 ht' with rfl | ht'
        · exact first_right (step_tok hst) (fun e => h5 (by rw [e]; rfl))
        · exact ih (l.drop m) y (by rw [List.length_drop]; omega) hy t' ht' h5
theorem lexA_right (l : List UInt8) : ∀ t ∈ (lexA l).1, t.1 ≠ 5 → rightF t.1 t.2 = true := by
  unfold lexA
  split
  · simp
  · cases h : lexF l with
    | none => simp
    | some x => exact lexF_right l.length l x (Nat.le_refl _) h
theorem kept_right {l : List Tok} (h : ∀ t ∈ l, t.1 ≠ 5 → rightF t.1 t.2 = true) : ∀ t ∈ (keptF l).map emptyF, rightF t.1 t.2 = true ∧ t.1 ≠ 5 := by
  intro t ht
  obtain ⟨u, hu, rfl⟩ := List.mem_map.1 ht
  obtain ⟨hu, h5⟩ := List.mem_filter.1 hu
  have h5' : u.1 ≠ 5 := by simpa [isHintF] using h5
  unfold emptyF
  split
  · exact ⟨by decide, by decide⟩
  · exact ⟨h u hu h5', h5'⟩

/- the forms -/
def wFROM : List UInt8 := [70, 82, 79, 77]
def wKV : List UInt8 := [75, 86]
def wWHERE : List UInt8 := [87, 72, 69, 82, 69]
def wV : List UInt8 := [86]
def wK : List UInt8 := [75]
def fGet : List Tok := [(1, wSELECT), (1, wV), (1, wFROM), (1, wKV), (1, wWHERE), (1, wK), (6, [61]), (3, [])]
def fAll : List Tok := [(1, wSELECT), (6, [42]), (1, wFROM), (1, wKV)]
def fPut : List Tok := [(1, wINSERT), (1, wINTO), (1, wKV), (1, wVALUES), (6, [40]), (3, []), (6, [44]), (3, []), (6, [41])]
def fChg : List Tok := [(1, wUPDATE), (1, wKV), (1, wSET), (1, wV), (6, [61]), (3, []), (1, wWHERE), (1, wK), (6, [61]), (3, [])]
def fDel : List Tok := [(1, wDELETE), (1, wFROM), (1, wKV), (1, wWHERE), (1, wK), (6, [61]), (3, [])]
def tGet : ByteArray := ⟨#[83, 69, 76, 69, 67, 84, 32, 86, 32, 70, 82, 79, 77, 32, 75, 86, 32, 87, 72, 69, 82, 69, 32, 75, 32, 61, 32, 39, 39]⟩
def tAll : ByteArray := ⟨#[83, 69, 76, 69, 67, 84, 32, 42, 32, 70, 82, 79, 77, 32, 75, 86]⟩
def tPut : ByteArray := ⟨#[73, 78, 83, 69, 82, 84, 32, 73, 78, 84, 79, 32, 75, 86, 32, 86, 65, 76, 85, 69, 83, 32, 40, 32, 39, 39, 32, 44, 32, 39, 39, 32, 41]⟩
def tChg : ByteArray := ⟨#[85, 80, 68, 65, 84, 69, 32, 75, 86, 32, 83, 69, 84, 32, 86, 32, 61, 32, 39, 39, 32, 87, 72, 69, 82, 69, 32, 75, 32, 61, 32, 39, 39]⟩
def tDel : ByteArray := ⟨#[68, 69, 76, 69, 84, 69, 32, 70, 82, 79, 77, 32, 75, 86, 32, 87, 72, 69, 82, 69, 32, 75, 32, 61, 32, 39, 39]⟩
theorem tGet_is : writeF fGet = tGet.data.toList := by decide
theorem tAll_is : writeF fAll = tAll.data.toList := by decide
theorem tPut_is : writeF fPut = tPut.data.toList := by decide
theorem tChg_is : writeF fChg = tChg.data.toList := by decide
theorem tDel_is : writeF fDel = tDel.data.toList := by decide

/-- what a text says, of its tokens without Hints -/
def shapeF (m : List Tok) : List UInt8 := chopF (writeF (m.map emptyF))
theorem end_map (m : List Tok) : endF (m.map emptyF) = (endF m).map emptyF := by
  unfold endF
  have hc : stopF ∘ emptyF = stopF := funext stop_empty
  rw [List.map_reverse]
  congr 1
  rw [← List.map_reverse, List.dropWhile_map, hc]
theorem shape_iff {l : List Tok} (h : ∀ t ∈ l, t.1 ≠ 5 → rightF t.1 t.2 = true) (f : List Tok) (hf : ∀ t ∈ f, rightF t.1 t.2 = true ∧ t.1 ≠ 5) : shapeF (keptF l) = writeF f ↔ (bodyF l).map emptyF = f := by
  have hk := kept_right h
  unfold shapeF
  rw [chop_write _ _ (Nat.le_refl _) hk, end_map]
  show writeF ((bodyF l).map emptyF) = _ ↔ _
  constructor
  · intro e
    refine write_inj (fun t ht => ?_) hf e
    have e2 : (bodyF l).map emptyF = endF ((keptF l).map emptyF) := (end_map _).symm
    rw [e2] at ht
    obtain ⟨st, e3, _⟩ := endF_split ((keptF l).map emptyF)
    exact hk t (by rw [e3]; exact List.mem_append_left _ ht)
  · rintro rfl
    rfl
theorem strs_body (l : List Tok) : strsF (keptF l) = strsF (bodyF l) := by
  obtain ⟨st, e, hs⟩ := endF_split (keptF l)
  have h0 : strsF st = [] := by
    unfold strsF
    rw [List.filter_eq_nil_iff.2]
    · rfl
    · intro t ht
      obtain rfl := stop_is (hs t ht)
      decide
  have e2 : bodyF l = endF (keptF l) := rfl
  rw [e2]
  conv => lhs; rw [e]
  rw [strsF_append, h0, List.append_nil]

/-- what is done: its number, the key, the value -/
abbrev Doing := Int × List UInt8 × List UInt8
def pickF (m : List Tok) (xs : List (List UInt8)) : Doing :=
  if m = fGet then (1, xs.getD 0 [], [])
  else if m = fAll then (2, [], [])
  else if m = fPut then (3, xs.getD 0 [], xs.getD 1 [])
  else if m = fChg then (4, xs.getD 1 [], xs.getD 0 [])
  else if m = fDel then (5, xs.getD 0 [], [])
  else (0, [], [])
def planF (m : List Tok) : Doing := pickF (m.map emptyF) (strsF m)
def planA (l : List UInt8) : Doing := planF (bodyF (lexA l).1)
theorem strs_len {m f : List Tok} (h : m.map emptyF = f) : (strsF m).length = (strsF f).length := by rw [← h, strsF_empty_len]

/- what does something is classed -/
end
end Go.Proofs.YtdhnpmagapbmhaaGreatDoor
