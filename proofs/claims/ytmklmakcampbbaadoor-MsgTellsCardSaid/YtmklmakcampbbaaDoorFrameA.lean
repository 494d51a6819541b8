/-
  What the small functions of package frame do (own, Same, wrongCount) and what a frame's bytes begin with: contracts.
-/
import Derived.Test.YtmklmakcampbbaaDoorRefA
namespace Go.Proofs.YtmklmakcampbbaaDoor
open Go.RowKit
set_option maxRecDepth 100000

/-- the frame that bytes begin with: Kind, Body, how many bytes, the error -/
def readF (b : List UInt8) : UInt8 × List UInt8 × Nat × Int :=
  if b.length < 2 then (0, [], 0, 3)
  else if val (b.take 2) = 0 then (0, [], 0, 2)
  else if 301 < val (b.take 2) then (0, [], 0, 4)
  else if b.length < 2 + val (b.take 2) then (0, [], 0, 3)
  else if b.getD 2 0 = 0 then (0, [], 0, 2)
  else (b.getD 2 0, (b.take (2 + val (b.take 2))).drop 3, 2 + val (b.take 2), 0)

/-- a frame as a value, its body read -/
def frV (k : UInt8) (A : Option Addr) (l c : Nat) : Value := .agg #[.int .u8 (k.toNat : Int), .slice A l c]

set_option maxHeartbeats 400000 in
theorem fown_any (A : Option Addr) (bs : List UInt8) (l c : Nat) (w : World) (hr : Sl w w.heap.size A l c bs) (hl : l ≤ 1000000) :
    Calls Tryd.prog 52 #[.slice A l c] w fun e w' => ∃ A' c', e = .returned (.slice A' l c') ∧ Ow w' w.heap.size A' l c' bs ∧ Below w.heap.size w w' := by
  obtain ⟨i0, hi, hz0, hz1, hz2⟩ := info_parts u8info
  have hlen := Lib.hid hr.len
  go_enter Tryd.func52, Tryd.ntmps52
  go_wp2_with (at_builtin; refine wpList_append_rd rfl _ _ _ rfl w.heap.size 5 i0 _ 1 Tryd.underlying26 hi hz0 hz1 hz2 rfl (.slice none 0 0) 0 [] rfl (World.ownsRow_nil _ _ _ _) w.heap.size _ _ _ (bvs bs) rfl (by rw [bvs_length]; exact hlen.out) hr.rd (bvs_one _) (by unfold maxLen; omega) (by omega) (Nat.le_refl _) ?_; intro v1 w1 hown1 hg1; simp only [Nat.zero_add, List.nil_append] at hown1; obtain ⟨A1, c1, rfl, ho1⟩ := Ow.mk' hown1)
  go_ret
  exact ⟨A1, c1, rfl, ho1, (Below.refl _ _).grown hg1 (Nat.le_refl _) (by simp [Value.ownBlock])⟩

theorem list_beq (xs ys : List UInt8) : (xs == ys) = decide (xs = ys) := by
  rw [Bool.eq_iff_iff]
  simp

set_option maxHeartbeats 400000 in
theorem equal_any (A A' : Option Addr) (xs ys : List UInt8) (l c l' c' B B' : Nat) (w : World) (hx : Sl w B A l c xs) (hy : Sl w B' A' l' c' ys) (b : Bool) (hb : Hid (decide (xs = ys) = b)) :
    Calls Tryd.prog 38 #[.slice A l c, .slice A' l' c'] w fun e w' => e = .returned (.bool b) ∧ w = w' := by
  have hcx := run_text (P := Tryd.prog) hx 26 9 5 Tryd.underlying26 Tryd.underlying5 Tryd.underlying9
  have hcy := run_text (P := Tryd.prog) hy 26 9 5 Tryd.underlying26 Tryd.underlying5 Tryd.underlying9
  clear hx hy
  go_enter Tryd.func38, Tryd.ntmps38
  go_wp2
  go_ret
  exact ⟨by rw [← hb.out, ← list_beq]; rfl, rfl⟩

theorem wrongCount_any (n : Nat) (w : World) (x : Int) (hx : Hid ((if n = 0 then (2 : Int) else if 301 < n then 4 else 0) = x)) :
    Calls Tryd.prog 60 #[.int .u64 n] w fun e w' => e = .returned (.int .i64 x) ∧ w = w' := by
  have h := hx.out
  clear hx
  subst h
  by_cases h0 : n = 0
  · subst h0
    go_enter Tryd.func60, Tryd.ntmps60
    go_wp2
    go_ret
    exact ⟨rfl, rfl⟩
  · have e0 : ((n : Int) == 0) = false := by simp; omega
    rw [if_neg h0]
    by_cases h1 : 301 < n
    · rw [if_pos h1]
      go_enter Tryd.func60, Tryd.ntmps60
      go_wp2
      go_ret
      exact ⟨rfl, rfl⟩
    · rw [if_neg h1]
      have e1 : decide (301 < (n : Int)) = false := by simp; omega
      go_enter Tryd.func60, Tryd.ntmps60
      go_wp2
      go_ret
      exact ⟨rfl, rfl⟩

theorem kinds_eq (a b : UInt8) : (((a.toNat : Int)) == (b.toNat : Int)) = decide (a = b) := by
  rw [Bool.eq_iff_iff]
  simp only [beq_iff_eq, decide_eq_true_eq]
  exact ⟨fun h => UInt8.toNat_inj.1 (by omega), fun h => by rw [h]⟩

set_option maxHeartbeats 400000 in
theorem fsame_any (a b : UInt8) (A A' : Option Addr) (xs ys : List UInt8) (l c l' c' : Nat) (w : World) (hx : Sl w w.heap.size A l c xs) (hy : Sl w w.heap.size A' l' c' ys) (r : Bool) (hr : Hid (decide (a = b ∧ xs = ys) = r)) :
    Calls Tryd.prog 20 #[frV a A l c, frV b A' l' c'] w fun e w' => e = .returned (.bool r) ∧ Below w.heap.size w w' := by
  unfold frV
  by_cases hk : a = b
  · have hke : ((a.toNat : Int) == (b.toNat : Int)) = true := by rw [kinds_eq]; simp [hk]
    have hr2 : Hid (decide (xs = ys) = r) := by have := hr.out; simp [hk] at this; exact Lib.hid (by simpa using this)
    clear hr hk
    go_enter Tryd.func20, Tryd.ntmps20
    go_wp2_with fail
    refine (equal_any _ _ xs ys _ _ _ _ _ _ _ (hx.next (kp_alloc (kp_new _ _) _)) (hy.next (kp_alloc (kp_new _ _) _)) r hr2).mono ?_
    rintro e w' ⟨rfl, rfl⟩
    go_wp2_with fail
    go_ret
    exact ⟨rfl, kp_alloc (kp_new _ _) _⟩
  · have hke : ((a.toNat : Int) == (b.toNat : Int)) = false := by rw [kinds_eq]; simp [hk]
    have hr2 : r = false := by rw [← hr.out]; simp [hk]
    subst hr2
    clear hr hk
    go_enter Tryd.func20, Tryd.ntmps20
    go_wp2_with fail
    go_ret
    exact ⟨rfl, kp_alloc (kp_new _ _) _⟩
end Go.Proofs.YtmklmakcampbbaaDoor
