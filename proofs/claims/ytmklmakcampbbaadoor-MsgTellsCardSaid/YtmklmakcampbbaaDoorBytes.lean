/-
  Numbers as rows of bytes, the highest first: plain mathematics.
-/
import Derived.Test.YtmklmakcampbbaaDoorBase
namespace Go.Proofs.YtmklmakcampbbaaDoor
open Go.RowKit

def be : Nat → Nat → List UInt8
  | 0, _ => []
  | k + 1, n => be k (n / 256) ++ [UInt8.ofNat n]

def val (l : List UInt8) : Nat := l.foldl (fun a b => 256 * a + b.toNat) 0

theorem be_length : ∀ (k n : Nat), (be k n).length = k
  | 0, _ => rfl
  | k + 1, n => by simp [be, be_length k]

theorem val_snoc (l : List UInt8) (b : UInt8) : val (l ++ [b]) = 256 * val l + b.toNat := by simp [val, List.foldl_append]
theorem val_nil : val [] = 0 := rfl

theorem pow256 (k : Nat) : 256 ^ (k + 1) = 256 * 256 ^ k := by rw [Nat.pow_succ, Nat.mul_comm]

theorem val_lt : ∀ (k : Nat) (l : List UInt8), l.length = k → val l < 256 ^ k := by
  intro k
  induction k with
  | zero => intro l h; rw [List.eq_nil_of_length_eq_zero h]; decide
  | succ k ih =>
    intro l h
    have hne : l ≠ [] := by intro e; simp [e] at h
    have e := (List.dropLast_concat_getLast hne).symm
    have h1 := ih l.dropLast (by simp [h])
    have h2 := (l.getLast hne).toNat_lt
    rw [e, val_snoc, pow256]
    omega

theorem val_be : ∀ (k n : Nat), n < 256 ^ k → val (be k n) = n
  | 0, n, h => by simp at h; subst h; rfl
  | k + 1, n, h => by
    rw [pow256] at h
    rw [be, val_snoc, val_be k (n / 256) (by omega)]
    simp only [UInt8.toNat_ofNat']
    omega

theorem be_val : ∀ (k : Nat) (l : List UInt8), l.length = k → be k (val l) = l := by
  intro k
  induction k with
  | zero => intro l h; rw [List.eq_nil_of_length_eq_zero h]; rfl
  | succ k ih =>
    intro l h
    have hne : l ≠ [] := by intro e; simp [e] at h
    have e := (List.dropLast_concat_getLast hne).symm
    have h1 := ih l.dropLast (by simp [h])
    have h2 := (l.getLast hne).toNat_lt
    generalize l.getLast hne = b at *
    generalize l.dropLast = r at *
    subst e
    rw [be, val_snoc]
    have e1 : (256 * val r + b.toNat) / 256 = val r := by omega
    have e2 : UInt8.ofNat (256 * val r + b.toNat) = b := by
      apply UInt8.toNat_inj.1
      simp only [UInt8.toNat_ofNat']
      omega
    rw [e1, e2, h1]

theorem take_next (l : List UInt8) (k : Nat) (h : k < l.length) : l.take (k + 1) = l.take k ++ [l[k]] := by
  rw [List.take_succ_eq_append_getElem h]

theorem val_take_next (l : List UInt8) (k : Nat) (h : k < l.length) : val (l.take (k + 1)) = 256 * val (l.take k) + (l[k]).toNat := by
  rw [take_next l k h, val_snoc]

/-- the first bytes of a number are the bytes of what is left of it by a shift -/
theorem be_shift (k i n : Nat) (h : i < k) : be (i + 1) (n / 256 ^ (k - (i + 1))) = be i (n / 256 ^ (k - i)) ++ [UInt8.ofNat (n / 256 ^ (k - 1 - i))] := by
  rw [be]
  have e : k - i = (k - (i + 1)) + 1 := by omega
  have e' : k - 1 - i = k - (i + 1) := by omega
  rw [Nat.div_div_eq_div_mul, e, Nat.pow_succ, e']

theorem be_inj (k a b : Nat) (ha : a < 256 ^ k) (hb : b < 256 ^ k) (h : be k a = be k b) : a = b := by
  rw [← val_be k a ha, ← val_be k b hb, h]

theorem be_cons : ∀ (k n : Nat), be (k + 1) n = UInt8.ofNat (n / 256 ^ k) :: be k n
  | 0, n => by simp [be]
  | k + 1, n => by
    rw [be, be_cons k (n / 256), Nat.div_div_eq_div_mul, ← pow256, List.cons_append]
    rfl

/-- the order of numbers is that of their bytes -/
def lessB : List UInt8 → List UInt8 → Bool
  | a :: l, b :: r => if a = b then lessB l r else decide (a < b)
  | _, _ => false

theorem byte_mod (y : Nat) : Value.int .u8 ((y : Int) % 256) = bv (UInt8.ofNat y) := by
  simp only [bv, UInt8.toNat_ofNat']
  congr 1

theorem val_two (bs : List UInt8) (h : 2 ≤ bs.length) : val (bs.take 2) = 256 * (bs[0]).toNat + (bs[1]).toNat := by
  match bs, h with
  | a :: b :: r, _ => simp [val]
end Go.Proofs.YtmklmakcampbbaaDoor
