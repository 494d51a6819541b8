/-
  What Bytes of package frame, and the document's own Bytes, do: contracts.
-/
import Derived.Test.YtmklmakcampbbaaDoorFrameC
namespace Go.Proofs.YtmklmakcampbbaaDoor
open Go.RowKit
set_option maxRecDepth 100000

/-- a frame's bytes, and the error -/
def bytesF (k : UInt8) (body : List UInt8) : List UInt8 × Int :=
  if k = 0 then ([], 1) else if 300 < body.length then ([], 4) else (be 2 (body.length + 1) ++ (k :: body), 0)

/-- one answer of Bytes, of the code and of the document -/
def AnsY (f : FuncId) (args : Array Value) (w : World) (r : List UInt8 × Int) : Prop :=
  Calls Tryd.prog f args w fun e w' => ∃ A' l' c', e = .returned (.tuple #[.slice A' l' c', .int .i64 r.2]) ∧ Ow w' w.heap.size A' l' c' r.1 ∧ Below w.heap.size w w'

theorem kind_zero {k : UInt8} (h : k ≠ 0) : ((k.toNat : Int) == 0) = false := by
  have : k.toNat ≠ 0 := fun e => h (UInt8.toNat_inj.1 e)
  simp; omega

set_option maxHeartbeats 400000 in
theorem bytes_arg (A : Option Addr) (l c : Nat) (w : World) :
    Calls Tryd.prog 28 #[frV 0 A l c] w fun e w' => e = .returned (.tuple #[.slice none 0 0, .int .i64 1]) ∧ Below w.heap.size w w' := by
  unfold frV
  go_enter Tryd.func28, Tryd.ntmps28
  go_wp2_with fail
  go_ret2
  exact ⟨rfl, kp_new _ _⟩

set_option maxHeartbeats 400000 in
theorem bytes_long (k : UInt8) (A : Option Addr) (l c : Nat) (w : World) (hk : k ≠ 0) (hl : 300 < l) :
    Calls Tryd.prog 28 #[frV k A l c] w fun e w' => e = .returned (.tuple #[.slice none 0 0, .int .i64 4]) ∧ Below w.heap.size w w' := by
  have hkk := kind_zero hk
  have hd : decide ((300 : Int) < (l : Int)) = true := by simp; omega
  unfold frV
  go_enter Tryd.func28, Tryd.ntmps28
  go_wp2_with fail
  go_ret2
  exact ⟨rfl, kp_new _ _⟩

set_option maxHeartbeats 400000 in
theorem bytes_fine (k : UInt8) (A : Option Addr) (bs : List UInt8) (l c : Nat) (w : World) (hr : Sl w w.heap.size A l c bs) (hk : k ≠ 0) (hl : l ≤ 300) :
    Calls Tryd.prog 28 #[frV k A l c] w fun e w' => ∃ A' c', e = .returned (.tuple #[.slice A' (3 + l) c', .int .i64 0]) ∧ Ow w' w.heap.size A' (3 + l) c' (be 2 (l + 1) ++ (k :: bs)) ∧ Below w.heap.size w w' := by
  have hkk := kind_zero hk
  have hd : decide ((300 : Int) < (l : Int)) = false := by simp; omega
  have hfit : Hid (decide (1 + l < 256 ^ 2) = true) := Lib.hid (by simp; omega)
  unfold frV
  go_enter Tryd.func28, Tryd.ntmps28
  go_wp2_with fail
  refine (put_ok none [] 0 0 2 (1 + l) _ (Sl.nil _ _) (by omega) (by omega) (by omega) hfit 2 rfl).mono ?_
  rintro e w1 ⟨A1, cc, rfl, ho1, hb1⟩
  obtain ⟨c0, c1, f0, f1⟩ := two_cells (two_new hb1)
  have k1 : Below w.heap.size w w1 := (kp_new w _).trans (hb1.mono (by simp))
  have hlt : w.heap.size < w1.heap.size := by have := hb1.size; simp at this; omega
  have c2 : (w1.alloc (.cells #[.int .u8 (k.toNat : Int)] 5)).cell? ⟨w.heap.size, 1, none⟩ = some (.slice A l c) := by
    rw [World.cell?_alloc_lt _ _ _ (by exact hlt)]; exact c1
  have hr1 := (hr.next k1)
  go_wp2_with fail
  have hone : Sl (w1.alloc (.cells #[.int .u8 (k.toNat : Int)] 5)) (w1.alloc (.cells #[.int .u8 (k.toNat : Int)] 5)).heap.size (some ⟨w1.heap.size, 0, none⟩) 1 1 [k] := Sl.new w1 5 [k]
  have hr2 := hr1.next (kp_new w1 (.cells #[.int .u8 (k.toNat : Int)] 5))
  have ho2 := ho1.sl.next (kp_new w1 (.cells #[.int .u8 (k.toNat : Int)] 5))
  have k2 := kp_trans k1 (kp_new w1 (.cells #[.int .u8 (k.toNat : Int)] 5))
  have hz2 : w1.heap.size + 1 = (w1.alloc (.cells #[.int .u8 (k.toNat : Int)] 5)).heap.size := by simp
  generalize w1.alloc (.cells #[.int .u8 (k.toNat : Int)] 5) = w2 at *
  rw [hz2]
  have HZ := Lib.hid hz2
  clear hz2
  simp only [List.nil_append] at ho2
  refine (concat_new w2 [⟨A1, 2, cc, be 2 (1 + l)⟩, ⟨some ⟨w1.heap.size, 0, none⟩, 1, 1, [k]⟩, ⟨A, l, c, bs⟩] 3 rfl (by omega) ?_ (by simp [sizes, flat, be_length, hr.len]; omega) (be 2 (l + 1) ++ (k :: bs)) (Lib.hid (by simp [flat, Nat.add_comm])) (3 + l) (by simp [sizes, flat, be_length, hr.len]; omega)).mono ?_
  · intro p hp
    simp only [List.mem_cons, List.not_mem_nil, or_false] at hp
    rcases hp with rfl | rfl | rfl
    · exact ho2
    · exact hone
    · exact hr2
  rintro e w3 ⟨A3, c3, rfl, ho3, hb3⟩
  go_wp2_with fail
  go_ret2
  exact ⟨A3, c3, rfl, ho3.base k2.size, kp_trans k2 hb3⟩

theorem bytes_any (k : UInt8) (A : Option Addr) (bs : List UInt8) (l c : Nat) (w : World) (hr : Sl w w.heap.size A l c bs) : AnsY 28 #[frV k A l c] w (bytesF k bs) := by
  have hlen := hr.len
  unfold bytesF
  by_cases h0 : k = 0
  · subst h0
    rw [if_pos rfl]
    exact (bytes_arg A l c w).mono fun e w' ⟨he, hb⟩ => ⟨none, 0, 0, he, Ow.nil _ _, hb⟩
  rw [if_neg h0]
  by_cases h1 : 300 < bs.length
  · rw [if_pos h1]
    exact (bytes_long k A l c w h0 (by omega)).mono fun e w' ⟨he, hb⟩ => ⟨none, 0, 0, he, Ow.nil _ _, hb⟩
  rw [if_neg h1, hlen]
  exact (bytes_fine k A bs l c w hr h0 (by omega)).mono fun e w' ⟨A', c', he, ho, hb⟩ => ⟨A', _, c', he, ho, hb⟩

set_option maxHeartbeats 400000 in
theorem rbytes_arg (A : Option Addr) (l c : Nat) (w : World) :
    Calls Tryd.prog 29 #[frV 0 A l c] w fun e w' => e = .returned (.tuple #[.slice none 0 0, .int .i64 1]) ∧ Below w.heap.size w w' := by
  unfold frV
  go_enter Tryd.func29, Tryd.ntmps29
  go_wp2_with fail
  go_ret2
  exact ⟨rfl, kp_new _ _⟩

set_option maxHeartbeats 400000 in
theorem rbytes_long (k : UInt8) (A : Option Addr) (l c : Nat) (w : World) (hk : k ≠ 0) (hl : 300 < l) :
    Calls Tryd.prog 29 #[frV k A l c] w fun e w' => e = .returned (.tuple #[.slice none 0 0, .int .i64 4]) ∧ Below w.heap.size w w' := by
  have hkk := kind_zero hk
  have hd : decide ((300 : Int) < (l : Int)) = true := by simp; omega
  unfold frV
  go_enter Tryd.func29, Tryd.ntmps29
  go_wp2_with fail
  go_ret2
  exact ⟨rfl, kp_new _ _⟩

set_option maxHeartbeats 400000 in
theorem rbytes_fine (k : UInt8) (A : Option Addr) (bs : List UInt8) (l c : Nat) (w : World) (hr : Sl w w.heap.size A l c bs) (hk : k ≠ 0) (hl : l ≤ 300) :
    Calls Tryd.prog 29 #[frV k A l c] w fun e w' => ∃ A' c', e = .returned (.tuple #[.slice A' (3 + l) c', .int .i64 0]) ∧ Ow w' w.heap.size A' (3 + l) c' (be 2 (l + 1) ++ (k :: bs)) ∧ Below w.heap.size w w' := by
  obtain ⟨i0, hi, hz0, hz1, hz2⟩ := info_parts u8info
  have hkk := kind_zero hk
  have hd : decide ((300 : Int) < (l : Int)) = false := by simp; omega
  have hcs : (#[.int .u8 (((l : Int) + 1) / 256), .int .u8 (((l : Int) + 1) % 256), .int .u8 (k.toNat : Int)] : Array Value) = (bvs (be 2 (l + 1) ++ [k])).toArray := by
    have e1 : ((l : Int) + 1) / 256 = ((UInt8.ofNat ((l + 1) / 256)).toNat : Int) := by simp only [UInt8.toNat_ofNat']; omega
    have e2 : ((l : Int) + 1) % 256 = ((UInt8.ofNat (l + 1)).toNat : Int) := by simp only [UInt8.toNat_ofNat']; omega
    rw [e1, e2]
    rfl
  have ho : ∀ X, Ow ((w.alloc X).alloc (.cells #[.int .u8 (((l : Int) + 1) / 256), .int .u8 (((l : Int) + 1) % 256), .int .u8 (k.toNat : Int)] 5)) w.heap.size (some ⟨w.heap.size + 1, 0, none⟩) 3 3 (be 2 (l + 1) ++ [k]) := fun X => by
    rw [hcs]
    have := Ow.new (w.alloc X) w.heap.size (by simp) (be 2 (l + 1) ++ [k]) (by simp [be_length])
    simpa [be_length] using this
  have HO := Lib.hid ho
  clear hcs ho
  unfold frV
  go_enter Tryd.func29, Tryd.ntmps29
  go_wp2_with (at_builtin; refine wpList_append_rd rfl _ _ _ rfl w.heap.size 5 i0 _ 1 Tryd.underlying26 hi hz0 hz1 hz2 rfl _ 3 _ rfl (HO.out _).own _ _ _ _ (bvs bs) rfl (by rw [bvs_length]; exact hr.len) (hr.next (kp_alloc (kp_new _ _) _)).rd (bvs_one _) (by unfold maxLen; omega) (by omega) (by simp; omega) ?_; intro v3 w3 hown3 hg3; rw [← bvs_append, List.append_assoc] at hown3; obtain ⟨A3, c3, rfl, ho3⟩ := Ow.mk' hown3)
  all_goals
    go_ret2
    exact ⟨A3, c3, rfl, ho3, (kp_alloc (kp_new _ _) _).trans (below_own (HO.out _).own hg3 (by simp; omega))⟩

theorem rbytes_any (k : UInt8) (A : Option Addr) (bs : List UInt8) (l c : Nat) (w : World) (hr : Sl w w.heap.size A l c bs) : AnsY 29 #[frV k A l c] w (bytesF k bs) := by
  have hlen := hr.len
  unfold bytesF
  by_cases h0 : k = 0
  · subst h0
    rw [if_pos rfl]
    exact (rbytes_arg A l c w).mono fun e w' ⟨he, hb⟩ => ⟨none, 0, 0, he, Ow.nil _ _, hb⟩
  rw [if_neg h0]
  by_cases h1 : 300 < bs.length
  · rw [if_pos h1]
    exact (rbytes_long k A l c w h0 (by omega)).mono fun e w' ⟨he, hb⟩ => ⟨none, 0, 0, he, Ow.nil _ _, hb⟩
  rw [if_neg h1, hlen]
  exact (rbytes_fine k A bs l c w hr h0 (by omega)).mono fun e w' ⟨A', c', he, ho, hb⟩ => ⟨A', _, c', he, ho, hb⟩
end Go.Proofs.YtmklmakcampbbaaDoor
