/-
  The law's own ascii, strings.ToUpper and ToLower at ASCII text: contracts.
-/
import Derived.Test.YtliadhpnkgpemaaDoorLexU
import Derived.Test.YtliadhpnkgpemaaDoorShelf3
import Derived.Test.YtliadhpnkgpemaaDoorRfC
import Derived.Shelf.Strings.OnBuilder
namespace Go.Proofs.YtliadhpnkgpemaaDoor
open Go.RowKit
set_option maxRecDepth 100000

def lowAscii (c : UInt8) : Bool := decide (c.toNat < 128)
theorem filter_next (l : List UInt8) (k : Nat) (h : k < l.length) : (l.take (k + 1)).filter lowAscii = (l.take k).filter lowAscii ++ (if lowAscii l[k] then [l[k]] else []) := by
  rw [List.take_succ_eq_append_getElem h, List.filter_append]
  congr 1
  simp only [List.filter_cons, List.filter_nil]

set_option maxHeartbeats 2000000 in
theorem ascii_ok (s : ByteArray) (w : World) (hs : s.size ≤ 1000000) : Calls Tryd.prog 27 #[.string s] w fun e w' => ∃ r : ByteArray, e = .returned (.string r) ∧ r.data.toList = s.data.toList.filter lowAscii ∧ Below w.heap.size w w' := by
  obtain ⟨i0, hi, hz0, hz1, hz2⟩ := info_parts byteinfo
  have hlen := Lib.hid (text_len s)
  go_enter Tryd.func27, Tryd.ntmps27
  go_wp2
  go_loopw [3, 8] (fun o v wr => ∃ (k n : Nat) (A : Option Addr) (c : Nat), v = .int .i64 k ∧ k ≤ s.size ∧ n ≤ k ∧ o = .slice A n c ∧ Ow wr w.heap.size A n c ((s.data.toList.take k).filter lowAscii) ∧ Below w.heap.size w wr) (fun _ v _ => s.size - (intOf v).toNat)
  case atStart => exact ⟨0, 0, _, _, rfl, Nat.zero_le _, Nat.le_refl _, rfl, Ow.new w w.heap.size (Nat.le_refl _) [] (by simp), kp_new _ _⟩
  case round =>
    obtain ⟨k, n, A, c, rfl, hk, hn, rfl, ho, kw⟩ := hrel
    by_cases hlt : k < s.size
    · have hkl : k < s.data.toList.length := by rw [hlen.out]; exact hlt
      have hb := text_at s k hlt
      have hnext := Lib.hid (filter_next s.data.toList k hkl)
      generalize s.data.toList[k] = b at hb hnext
      have hsw := kw.size
      by_cases hlow : b.toNat < 128
      · have hla : lowAscii b = true := by unfold lowAscii; exact decide_eq_true hlow
        rw [hla] at hnext
        clear hla
        go_wp2_with (first
          | (at_builtin; refine wpList_append_rd rfl _ _ _ rfl w.heap.size 5 i0 _ 1 Tryd.underlying47 hi hz0 hz1 hz2 rfl _ n _ rfl (ho.own.alloc _) (wr.heap.size + 1) _ _ _ [_] rfl rfl (Rd.new _ _ _) (by simp [Value.oneCell']) (by unfold maxLen; omega) (by omega) (by simp; omega) ?_; intro v2 w2 hown2 hg2; obtain ⟨A2, c2, rfl, ho2⟩ := Ow.push hown2; have kw2 := (kp_alloc kw (.cells #[.int .u8 _] 5)).trans (below_own (ho.own.alloc _) hg2 (by simp; omega)); have hsw2 := kw2.size))
        go_roundw
        case rel => exact ⟨k + 1, n + 1, A2, c2, by go_num, by omega, by omega, rfl, by rw [hnext.out]; exact ho2, kw2⟩
        case measure => simp [intOf]; omega
      · have hla : lowAscii b = false := by unfold lowAscii; exact decide_eq_false hlow
        rw [hla] at hnext
        clear hla
        go_wp2_with fail
        go_roundw
        case rel => exact ⟨k + 1, n, A, c, by go_num, by omega, by omega, rfl, by rw [hnext.out]; simpa using ho, kw⟩
        case measure => simp [intOf]; omega
    · obtain rfl : k = s.size := by omega
      rw [List.take_of_length_le (by rw [hlen.out]; exact Nat.le_refl _)] at ho
      have hsw := kw.size
      have hT := ho.text
      go_wp2_with fail
      go_ret
      exact ⟨_, rfl, by simp, kw⟩

theorem upper_s (s : ByteArray) (w : World) (hs : s.size ≤ 1000000) (ha : ∀ c ∈ s.data.toList, lowAscii c = true) :
    Calls Tryd.prog 26 #[.string s] w fun e w' => ∃ r : ByteArray, e = .returned (.string r) ∧ r.data.toList = s.data.toList.map Lib.upperB ∧ Below w.heap.size w w' := by
  have k := Any.strings_ToUpper_ascii Tryd.lays158 Tryd.Builder_Extra_158 s w (by omega) (fun j b hb => by have := ha b (List.mem_of_getElem? hb); unfold lowAscii at this; exact of_decide_eq_true this)
  change Calls Tryd.prog 26 _ _ _ at k
  exact k.mono fun e w' ⟨he, h2⟩ => ⟨_, he, by simp [Lib.toUpperA], h2⟩
theorem lower_s (s : ByteArray) (w : World) (hs : s.size ≤ 1000000) (ha : ∀ c ∈ s.data.toList, lowAscii c = true) :
    Calls Tryd.prog 28 #[.string s] w fun e w' => ∃ r : ByteArray, e = .returned (.string r) ∧ r.data.toList = s.data.toList.map Lib.lowerB ∧ Below w.heap.size w w' := by
  have k := Any.strings_ToLower_ascii Tryd.lays159 Tryd.Builder_Extra_159 s w (by omega) (fun j b hb => by have := ha b (List.mem_of_getElem? hb); unfold lowAscii at this; exact of_decide_eq_true this)
  change Calls Tryd.prog 28 _ _ _ at k
  exact k.mono fun e w' ⟨he, h2⟩ => ⟨_, he, by simp [Lib.toLowerA], h2⟩
end Go.Proofs.YtliadhpnkgpemaaDoor
