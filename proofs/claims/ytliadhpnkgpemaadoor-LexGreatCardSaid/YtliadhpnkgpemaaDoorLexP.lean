/-
  What tokens a text has: plain functions of lists of bytes (no function of the program is named here).
-/
import Derived.Test.YtliadhpnkgpemaaDoorBase
import Derived.Lib.IndexMore
import Derived.Lib.Strings
import Derived.Lib.SlTrimSet
namespace Go.Proofs.YtliadhpnkgpemaaDoor
open Go.RowKit

def blankF (c : UInt8) : Bool := c == 32 || c == 9 || c == 10 || c == 13
def digitF (c : UInt8) : Bool := decide (48 ≤ c.toNat) && decide (c.toNat ≤ 57)
def letterF (c : UInt8) : Bool := decide (65 ≤ c.toNat) && decide (c.toNat ≤ 90) || decide (97 ≤ c.toNat) && decide (c.toNat ≤ 122) || decide (c.toNat = 95)
def lodF (c : UInt8) : Bool := letterF c || digitF c
def signF (c : UInt8) : Bool := !(decide (c.toNat ≤ 32) || decide (126 < c.toNat) || lodF c) && (decide (c.toNat ≠ 34) && decide (c.toNat ≠ 96) && decide (c.toNat ≠ 39) && decide (c.toNat ≠ 35))
def upF (c : UInt8) : UInt8 := if 97 ≤ c.toNat ∧ c.toNat ≤ 122 then c - 32 else c
def greatF (l : List UInt8) : List UInt8 := l.map upF
/-- how many bytes at the beginning are such -/
def runF (p : UInt8 → Bool) : List UInt8 → Nat
  | [] => 0
  | c :: r => if p c then runF p r + 1 else 0
theorem runF_le (p : UInt8 → Bool) : ∀ l, runF p l ≤ l.length
  | [] => Nat.le_refl _
  | c :: r => by
    have := runF_le p r
    unfold runF
    split <;> simp <;> omega
theorem runF_drop (p : UInt8 → Bool) : ∀ (l : List UInt8) (k : Nat), (∀ j (h : j < l.length), j < k → p l[j] = true) → k ≤ l.length → runF p l = k + runF p (l.drop k)
  | l, 0, _, _ => by simp
  | [], k + 1, _, h => by simp at h
  | c :: r, k + 1, h, hk => by
    have h0 : p c = true := h 0 (by simp) (by omega)
    have := runF_drop p r k (fun j hj hjk => h (j + 1) (by simpa using hj) (by omega)) (by simpa using hk)
    rw [runF, if_pos h0, this, List.drop_succ_cons]
    omega
theorem runF_all (p : UInt8 → Bool) : ∀ (l : List UInt8), ∀ c ∈ l.take (runF p l), p c = true
  | [], c, h => by simp at h
  | a :: r, c, h => by
    unfold runF at h
    split at h
    · rename_i ha
      rw [List.take_succ_cons] at h
      rcases List.mem_cons.1 h with rfl | h
      · exact ha
      · exact runF_all p r c h
    · simp at h
theorem runF_none {p : UInt8 → Bool} {c : UInt8} {r : List UInt8} (h : p c = false) : runF p (c :: r) = 0 := by unfold runF; simp [h]
theorem runF_some {p : UInt8 → Bool} {c : UInt8} {r : List UInt8} (h : p c = true) : runF p (c :: r) = runF p r + 1 := by rw [runF, if_pos h]

/-- what stands up to a byte q that stands alone, and how many bytes that takes -/
def quotedF (q : UInt8) : List UInt8 → Option (List UInt8 × Nat)
  | [] => none
  | [b] => if b = q then some ([], 1) else none
  | b :: d :: r => if b = q then (if d = q then (quotedF q r).map fun x => (q :: x.1, x.2 + 2) else some ([], 1)) else (quotedF q (d :: r)).map fun x => (b :: x.1, x.2 + 1)
theorem quotedF_other {q b : UInt8} {r : List UInt8} (h : b ≠ q) : quotedF q (b :: r) = (quotedF q r).map fun x => (b :: x.1, x.2 + 1) := by
  cases r with
  | nil => simp [quotedF, h]
  | cons d r => rw [quotedF]; simp [h]
theorem quotedF_twice {q : UInt8} {r : List UInt8} : quotedF q (q :: q :: r) = (quotedF q r).map fun x => (q :: x.1, x.2 + 2) := by rw [quotedF]; simp
theorem quotedF_ends {q : UInt8} {r : List UInt8} (h : r[0]? ≠ some q) : quotedF q (q :: r) = some ([], 1) := by
  cases r with
  | nil => simp [quotedF]
  | cons d r => rw [quotedF]; simp at h; simp [h]
theorem quotedF_le {q : UInt8} : ∀ {l : List UInt8} {x : List UInt8 × Nat}, quotedF q l = some x → 1 ≤ x.2 ∧ x.2 ≤ l.length ∧ x.1.length + 1 ≤ x.2
  | [], x, h => by simp [quotedF] at h
  | [b], x, h => by
    rw [quotedF] at h
    split at h
    · simp at h; subst h; simp
    · simp at h
  | b :: d :: r, x, h => by
    rw [quotedF] at h
    split at h
    · split at h
      · obtain ⟨y, hy, rfl⟩ := Option.map_eq_some_iff.1 h
        have := quotedF_le hy
        simp; omega
      · simp at h; subst h; simp
    · obtain ⟨y, hy, rfl⟩ := Option.map_eq_some_iff.1 h
      have := quotedF_le hy
      simp at this ⊢; omega

def ends2 : List UInt8 := [42, 47]
/-- how many bytes there are up to the end of a remark or a hint, and with that: 0 if there is none -/
def closedF (l : List UInt8) (o : Nat) : Nat := if Lib.index (l.drop o) ends2 < 0 then 0 else o + (Lib.index (l.drop o) ends2).toNat + 2
def blanks4 : List UInt8 := [32, 9, 10, 13]
def trimF (l : List UInt8) : List UInt8 := Lib.trimS l blanks4
def begF (p l : List UInt8) : Bool := Lib.hasPrefix l p

/-- the token that a text begins with: its Kind, its Text, its size -/
def firstF : List UInt8 → Option (Nat × List UInt8 × Nat)
  | [] => none
  | c :: r =>
    if letterF c then some (1, greatF ((c :: r).take (runF lodF (c :: r))), runF lodF (c :: r))
    else if digitF c then some (4, (c :: r).take (runF digitF (c :: r)), runF digitF (c :: r))
    else if c.toNat = 34 ∨ c.toNat = 96 then (quotedF c r).map fun x => (2, x.1, x.2 + 1)
    else if c.toNat = 39 then (quotedF c r).map fun x => (3, x.1, x.2 + 1)
    else if begF [47, 42, 43] (c :: r) then (if closedF (c :: r) 3 = 0 then none else some (5, trimF (((c :: r).take (closedF (c :: r) 3 - 2)).drop 3), closedF (c :: r) 3))
    else if signF c then some (6, [c], 1)
    else none

inductive Step where
  | bad
  | skip (n : Nat)
  | tok (k : Nat) (t : List UInt8) (n : Nat)

def lineF (l : List UInt8) : Nat := if Lib.indexByte l 10 < 0 then l.length else (Lib.indexByte l 10).toNat
def isLineF : List UInt8 → Bool
  | [] => false
  | c :: r => decide (c.toNat = 35) || begF [45, 45] (c :: r)
def isRemarkF (l : List UInt8) : Bool := begF [47, 42] l && !begF [47, 42, 43] l

def stepF : List UInt8 → Step
  | [] => .bad
  | c :: r =>
    if blankF c then .skip 1
    else if isLineF (c :: r) then .skip (lineF (c :: r))
    else if isRemarkF (c :: r) then (if closedF (c :: r) 2 = 0 then .bad else .skip (closedF (c :: r) 2))
    else match firstF (c :: r) with
      | none => .bad
      | some (k, t, n) => .tok k t n

/-- a text's tokens -/
def lexF (l : List UInt8) : Option (List (Int × List UInt8)) :=
  if _h : l = [] then some []
  else match stepF l with
    | .bad => none
    | .skip n => if _hn : n = 0 then none else lexF (l.drop n)
    | .tok k t n => if _hn : n = 0 then none else (lexF (l.drop n)).map (((k : Int), t) :: ·)
termination_by l.length
decreasing_by
  all_goals
    rw [List.length_drop]
    have : 0 < l.length := List.length_pos_iff.2 _h
    omega

theorem lexF_nil : lexF [] = some [] := by rw [lexF]; simp
theorem lexF_bad {l : List UInt8} (h : l ≠ []) (hs : stepF l = .bad) : lexF l = none := by rw [lexF, dif_neg h, hs]
theorem lexF_skip {l : List UInt8} {n : Nat} (h : l ≠ []) (hs : stepF l = .skip n) (hn : n ≠ 0) : lexF l = lexF (l.drop n) := by rw [lexF, dif_neg h, hs]; simp [hn]
theorem lexF_tok {l : List UInt8} {n k : Nat} {t : List UInt8} (h : l ≠ []) (hs : stepF l = .tok k t n) (hn : n ≠ 0) : lexF l = (lexF (l.drop n)).map (((k : Int), t) :: ·) := by rw [lexF, dif_neg h, hs]; simp [hn]

theorem index_room {s sub : List UInt8} (h : 0 ≤ Lib.index s sub) (hs : sub ≠ []) : (Lib.index s sub).toNat + sub.length ≤ s.length := by
  induction s with
  | nil =>
    unfold Lib.index at h
    cases sub with
    | nil => exact absurd rfl hs
    | cons a t => simp at h
  | cons b l ih =>
    unfold Lib.index at h ⊢
    by_cases hp : sub.isPrefixOf (b :: l) = true
    · rw [if_pos hp]
      have := (List.isPrefixOf_iff_prefix.1 hp).length_le
      simpa using this
    · rw [if_neg hp] at h ⊢
      by_cases hm : (Lib.index l sub == -1) = true
      · rw [if_pos hm] at h; omega
      · rw [if_neg hm] at h ⊢
        have hge := Lib.index_ge l sub
        have hne : Lib.index l sub ≠ -1 := by simpa using hm
        have := ih (by omega)
        simp
        omega
theorem closedF_le (l : List UInt8) (o : Nat) (ho : o ≤ l.length) : closedF l o ≤ l.length ∧ (closedF l o ≠ 0 → o + 2 ≤ closedF l o) := by
  unfold closedF
  split
  · exact ⟨Nat.zero_le _, fun h => absurd rfl h⟩
  · have := index_room (s := l.drop o) (sub := ends2) (by omega) (by decide)
    rw [List.length_drop, show ends2.length = 2 from rfl] at this
    exact ⟨by omega, fun _ => by omega⟩
theorem indexByte_lt : ∀ {l : List UInt8} {c : UInt8}, 0 ≤ Lib.indexByte l c → (Lib.indexByte l c).toNat < l.length
  | [], c, h => by simp [Lib.indexByte] at h
  | b :: l, c, h => by
    unfold Lib.indexByte at h ⊢
    by_cases hb : (b == c) = true
    · rw [if_pos hb]; simp
    · rw [if_neg hb] at h ⊢
      by_cases hm : (Lib.indexByte l c == -1) = true
      · rw [if_pos hm] at h; omega
      · rw [if_neg hm] at h ⊢
        have hne : Lib.indexByte l c ≠ -1 := by simpa using hm
        have hge := indexByte_ge1 l c
        have := indexByte_lt (l := l) (c := c) (by omega)
        simp
        omega
where
  indexByte_ge1 (l : List UInt8) (c : UInt8) : -1 ≤ Lib.indexByte l c := by
    induction l with
    | nil => exact Int.le_refl _
    | cons b l ih =>
      unfold Lib.indexByte
      split
      · decide
      · split
        · decide
        · omega
end Go.Proofs.YtliadhpnkgpemaaDoor
