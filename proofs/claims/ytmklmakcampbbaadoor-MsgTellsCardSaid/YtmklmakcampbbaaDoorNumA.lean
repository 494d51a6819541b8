/-
  What the small functions of package num do: contracts.
-/
import Derived.Test.YtmklmakcampbbaaDoorBytes
namespace Go.Proofs.YtmklmakcampbbaaDoor
open Go.RowKit
set_option maxRecDepth 100000

theorem u8info : (Tryd.prog.info? 5).map (fun i => (i.zero, i.size, i.bytes)) = some (some (.int .u8 0), 1, 1) := by kernel_rfl

theorem or_byte (n : Nat) (b : UInt8) (hn : n < 72057594037927936) : bits .or .u64 ((n : Int) * 256) (IntKind.u64.wrap (b.toNat : Int)) = ((256 * n + b.toNat : Nat) : Int) := by
  have hb := b.toNat_lt
  rw [IntWalk.u64_in _ (by omega)]
  have e : ((n : Int) * 256) = ((n * 256 : Nat) : Int) := by omega
  rw [e, u64_or_nat _ _ (by omega) (by omega)]
  have h := Nat.shiftLeft_add_eq_or_of_lt (i := 8) (b := b.toNat) (by omega) n
  rw [Nat.shiftLeft_eq] at h
  rw [← h]
  omega

theorem byte_shift (n j : Nat) : (Value.int .u8 ((n : Int) / 2 ^ (8 * j) % 256)) = bv (UInt8.ofNat (n / 256 ^ j)) := by
  have e : (2 : Nat) ^ (8 * j) = 256 ^ j := by rw [Nat.pow_mul]
  have e2 : ((n : Int) / 2 ^ (8 * j) % 256) = ((n / 256 ^ j % 256 : Nat) : Int) := by
    rw [← e]; simp
  rw [e2, bv]
  simp

/-- a new row of bytes -/
def zeros (n : Nat) : List Value := List.replicate n (.int .u8 0)
theorem zeros_made (n : Nat) : madeCells #[.int .u8 0] n = (zeros n).toArray := by
  apply Array.ext
  · simp [madeCells, zeros]
  · intro i h1 h2
    simp [madeCells, zeros, Nat.mod_one]
theorem u8size : (Tryd.prog.info? 5).map (·.size) = some 1 := by kernel_rfl

set_option maxHeartbeats 400000 in
theorem first_any (A : Option Addr) (bs : List UInt8) (l c : Nat) (B : Nat) (size : Nat) (w : World) (hr : Sl w B A l c bs) (h8 : size ≤ 8) (hs : size ≤ l) (hl : l ≤ 1000000) :
    Calls Tryd.prog 57 #[.slice A l c, .int .i64 size] w fun e w' => e = .returned (.int .u64 (val (bs.take size))) ∧ w = w' := by
  go_enter Tryd.func57, Tryd.ntmps57
  go_wp2
  go_loop [5, 8] (fun n i => ∃ k : Nat, k ≤ size ∧ i = .int .i64 k ∧ n = .int .u64 (val (bs.take k))) (fun _ i => size - (intOf i).toNat)
  case atStart => exact ⟨0, Nat.zero_le _, rfl, rfl⟩
  case round =>
    obtain ⟨k, hk, rfl, rfl⟩ := hrel
    by_cases hlt : k < size
    · have hkl : k < bs.length := by have := hr.len; omega
      obtain ⟨ad, rfl, hb, hc⟩ := hr.rd.at_ (k := k) (by rw [bvs_length]; omega)
      have hcell : w.cell? (ad.add k) = some (.int .u8 ((bs[k]).toNat : Int)) := by rw [hc]; simp [bvs, bv]
      have hv : val (bs.take k) < 72057594037927936 := Nat.lt_of_lt_of_le (val_lt k (bs.take k) (by simp; omega)) (Nat.le_trans (Nat.pow_le_pow_right (by omega) (by omega : k ≤ 7)) (by decide))
      have HS := Lib.hid (val_take_next bs k hkl)
      clear hc hr
      go_wp2
      go_round
      case rel => exact ⟨k + 1, by omega, by go_num, by rw [HS.out, or_byte _ _ hv]⟩
      case measure => simp [intOf]; omega
    · go_wp2
      go_ret
      have : k = size := by omega
      subst this
      exact ⟨rfl, rfl⟩

set_option maxHeartbeats 400000 in
theorem behind_new (A : Option Addr) (bs : List UInt8) (l c : Nat) (k : Nat) (w : World) (hr : Sl w w.heap.size A l c bs) (hk : k ≤ l) (hl : l ≤ 1000000) :
    Calls Tryd.prog 58 #[.slice A l c, .int .i64 k] w fun e w' => ∃ A' l', e = .returned (.slice A' l' l') ∧ Sl w' w'.heap.size A' l' l' (bs.drop k) ∧ Fresh w.heap.size A' ∧ Below w.heap.size w w' := by
  obtain ⟨i0, hi, hz0, hz1, hz2⟩ := info_parts u8info
  have hc := hr.cap
  have hcut := hr.rd.cut (k := k) (cap := c) (by rw [bvs_length, hr.len]; exact hc)
  rw [bvs_drop] at hcut
  have hd : (bs.drop k).length = l - k := by rw [List.length_drop, hr.len]
  have HD := Lib.hid hd
  clear hd
  go_enter Tryd.func58, Tryd.ntmps58
  go_wp2_with (at_builtin; refine wpList_append_rd rfl _ _ _ rfl w.heap.size 5 i0 _ 1 Tryd.underlying26 hi hz0 hz1 hz2 rfl (.slice none 0 0) 0 [] rfl (World.ownsRow_nil _ _ _ _) w.heap.size _ _ _ (bvs (bs.drop k)) rfl (by rw [bvs_length]; exact HD.out) hcut (bvs_one _) (by unfold maxLen; omega) (by omega) (Nat.le_refl _) ?_; intro v1 w1 hown1 hg1; simp only [Nat.zero_add, List.nil_append] at hown1; obtain ⟨A1, c1, rfl, hc1, hm1⟩ := own_form hown1; unfold maxLen at hm1)
  all_goals
    go_ret
    have hb1 : Below w.heap.size w w1 := (Below.refl _ _).grown hg1 (Nat.le_refl _) (by simp [Value.ownBlock])
    exact ⟨A1, l - k, rfl, ⟨Rd.of_own hown1, HD.out, Nat.le_refl _⟩, own_fresh hown1, hb1⟩

theorem behind_any (A : Option Addr) (bs : List UInt8) (l c : Nat) (k : Nat) (w : World) (hr : Sl w w.heap.size A l c bs) (hk : k ≤ l) (hl : l ≤ 1000000) :
    Calls Tryd.prog 58 #[.slice A l c, .int .i64 k] w fun e w' => ∃ A' l', e = .returned (.slice A' l' l') ∧ Sl w' w'.heap.size A' l' l' (bs.drop k) ∧ Below w.heap.size w w' :=
  (behind_new A bs l c k w hr hk hl).mono fun _ _ ⟨A1, l1, he, h1, _, h2⟩ => ⟨A1, l1, he, h1, h2⟩

set_option maxHeartbeats 400000 in
theorem own_any (A : Option Addr) (bs : List UInt8) (l c : Nat) (m : Nat) (w : World) (hr : Sl w w.heap.size A l c bs) (hl : l ≤ 1000000) (hm : m ≤ 1000000) :
    Calls Tryd.prog 56 #[.slice A l c, .int .i64 m] w fun e w' => ∃ A' c', e = .returned (.slice A' l c') ∧ Ow w' w.heap.size A' l c' bs ∧ Below w.heap.size w w' := by
  have hlen := hr.len
  obtain ⟨i0, hi, hz0, hz1, hz2⟩ := info_parts u8info
  have hmk : ∀ u : World, (Instr.makeSlice 26 (.int .i64 (l : Int)) (.int .i64 ((l : Int) + (m : Int)))).run Tryd.prog u =
      .ok (.slice (some ⟨u.heap.size, 0, none⟩) l (l + m)) (u.alloc (.cells (zeros (l + m)).toArray 5)) := fun u => by
    have h := run_make (P := Tryd.prog) u 26 5 i0 (.int .u8 0) Tryd.underlying26 hi hz0 .i64 .i64 (l : Int) ((l : Int) + (m : Int)) (by omega) (by omega) (by rw [hz2]; omega) (by omega)
    have e1 : ((l : Int) + (m : Int)).toNat = l + m := by omega
    rw [e1, Int.toNat_natCast, hz1, Nat.mul_one] at h
    rw [h, ← zeros_made]
    rfl
  have hmin : (bvs bs).length = Nat.min l l := by rw [bvs_length, hlen]; simp
  have hfit : 0 + (bvs bs).length ≤ (zeros (l + m)).length := by rw [bvs_length, hlen]; simp [zeros]
  have hpos : 0 < (bvs bs).length → some (⟨w.heap.size, 0, none⟩ : Addr) = some ⟨w.heap.size, 0, none⟩ ∧ ∃ ad, A = some ad ∧ ∀ j v, (bvs bs)[j]? = some v → (w.alloc (.cells (zeros (l + m)).toArray 5)).cell? (ad.add j) = some v := by
    intro h0
    obtain ⟨ad, hA, hb, hcell⟩ := hr.rd.addr h0
    refine ⟨rfl, ad, hA, fun j v hv => ?_⟩
    rw [World.cell?_alloc_lt _ _ _ (by rw [add_block]; exact hb)]
    exact hcell j v hv
  have Hmin := Lib.hid hmin
  have Hpos := Lib.hid hpos
  have Hlen := Lib.hid hlen
  have Hfit := Lib.hid hfit
  clear hmin hpos hlen hfit
  go_enter Tryd.func56, Tryd.ntmps56
  go_wp2_with (with_reducible refine wpList_copy_splice rfl (.tmp 13) (.tmp 14) 26 26 rfl 5 Tryd.underlying26 u8size _ _ _ _ _ _ rfl rfl w.heap.size 0 (zeros (l + m)) 5 (heap_alloc_new w _) (bvs bs) Hmin.out Hpos.out Hfit.out (bvs_one _) w.heap.size w ((Below.refl _ _).alloc (Nat.le_refl _) _) (Nat.le_refl _) ?_; intro w2 HG hB2)
  go_ret
  refine ⟨_, _, rfl, ⟨⟨by rw [bvs_length, Hlen.out]; omega, .inr ⟨w.heap.size, l + m, _, rfl, Nat.le_refl _, HG.out, by omega, by unfold maxLen; omega, ?_, ?_⟩⟩, Hlen.out, by omega, by omega⟩, hB2⟩
  · rw [List.size_toArray, length_splice _ _ _ Hfit.out]; simp [zeros]
  · simp [splice, bvs, Hlen.out]

set_option maxHeartbeats 400000 in
theorem lay_any (A : Option Addr) (l c base size n : Nat) (bs : List UInt8) (w : World) (hown : Ow w base A l c bs) (hbase : base ≤ w.heap.size) (h8 : size ≤ 8) (hl : l ≤ 1000000) :
    Calls Tryd.prog 55 #[.slice A l c, .int .i64 size, .int .u64 n] w fun e w' => ∃ A' c', e = .returned (.slice A' (l + size) c') ∧ Ow w' base A' (l + size) c' (bs ++ be size n) ∧ Below base w w' := by
  obtain ⟨i0, hi, hz0, hz1, hz2⟩ := info_parts u8info
  go_enter Tryd.func55, Tryd.ntmps55
  go_wp2
  go_loopw [0, 9] (fun u i wr => ∃ k : Nat, k ≤ size ∧ i = .int .i64 k ∧ wr.ownsRow base 5 1 u (l + k) (bvs bs ++ bvs (be k (n / 256 ^ (size - k)))) ∧ Below base w wr) (fun _ i _ => size - (intOf i).toNat)
  case atStart => exact ⟨0, Nat.zero_le _, rfl, by simpa [be, bvs] using hown.own, Below.refl _ _⟩
  case round =>
    obtain ⟨k, hk, rfl, hown1, hb1⟩ := hrel
    by_cases hlt : k < size
    · have hsn := be_shift size k n hlt
      have hby := byte_shift n (size - 1 - k)
      have HS := Lib.hid hsn
      have HB := Lib.hid hby
      clear hsn hby
      go_wp2_with (at_builtin; refine wpList_append_rd rfl _ _ _ rfl base 5 i0 _ 1 Tryd.underlying26 hi hz0 hz1 hz2 rfl _ _ _ rfl (hown1.alloc _) (wr.heap.size + 1) _ _ _ [_] rfl rfl (Rd.new _ _ _) (by simp [Value.oneCell']) (by unfold maxLen; omega) (by omega) (by have := hb1.size; simp; omega) ?_; intro v2 w2 hown2 hg2)
      go_roundw
      case rel =>
        have hb2 := below_own (hown1.alloc _) hg2 (by have := hb1.size; simp; omega)
        refine ⟨k + 1, by omega, by go_num, ?_, (hb1.alloc (by have := hb1.size; omega) _).trans hb2⟩
        rw [HS.out, bvs_append, ← List.append_assoc]
        rw [HB.out] at hown2
        exact hown2
      case measure => simp [intOf]; omega
    · go_wp2
      go_ret
      have : k = size := by omega
      subst this
      simp only [Nat.sub_self, Nat.pow_zero, Nat.div_one] at hown1
      rw [← bvs_append] at hown1
      obtain ⟨A1, c1, rfl, how⟩ := Ow.mk' hown1
      exact ⟨A1, c1, rfl, how, hb1⟩
end Go.Proofs.YtmklmakcampbbaaDoor
