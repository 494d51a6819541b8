/-
  The document's layer 4: what stands between quotes, words, texts with quotes twice: contracts.
-/
import Derived.Test.YtliadhpnkgpemaaDoorRfB
import Derived.Test.YtliadhpnkgpemaaDoorLexI
namespace Go.Proofs.YtliadhpnkgpemaaDoor
open Go.RowKit
set_option maxRecDepth 100000

theorem byteinfo : (Tryd.prog.info? 5).map (fun i => (i.zero, i.size, i.bytes)) = some (some (.int .u8 0), 1, 1) := by kernel_rfl
theorem Ow.push {w : World} {base : Nat} {v : Value} {n : Nat} {bs : List UInt8} {b : UInt8} (h : w.ownsRow base 5 1 v (n + 1) (bvs bs ++ [.int .u8 (b.toNat : Int)])) : ∃ A c, v = .slice A (n + 1) c ∧ Ow w base A (n + 1) c (bs ++ [b]) := by
  rw [show [Value.int .u8 (b.toNat : Int)] = bvs [b] from rfl, ← bvs_append] at h
  exact Ow.mk' h
theorem Ow.empty (w : World) : Ow (w.alloc (.cells #[] 5)) w.heap.size (some ⟨w.heap.size, 0, none⟩) 0 0 [] := by
  have := Ow.new w w.heap.size (Nat.le_refl _) [] (by simp)
  exact this
theorem Ow.text {w : World} {base : Nat} {A : Option Addr} {l c : Nat} {bs : List UInt8} (h : Ow w base A l c bs) : (convert 47 9 (.slice A l c)).run Tryd.prog w = .ok (.string ⟨bs.toArray⟩) w :=
  run_text (P := Tryd.prog) h.sl 47 9 5 Tryd.underlying47 Tryd.underlying5 Tryd.underlying9

set_option maxHeartbeats 1000000 in
theorem word_ok (s : ByteArray) (w : World) (hs : s.size ≤ 1000000) : Calls Tryd.prog 69 #[.string s] w fun e w' => ∃ r : ByteArray, e = .returned (.string r) ∧ r.data.toList = greatF s.data.toList ∧ Below w.heap.size w w' := by
  obtain ⟨i0, hi, hz0, hz1, hz2⟩ := info_parts byteinfo
  have hlen := Lib.hid (text_len s)
  go_enter Tryd.func69, Tryd.ntmps69
  go_wp2
  go_loopw [3, 4] (fun o v wr => ∃ (k : Nat) (A : Option Addr) (c : Nat), v = .int .i64 k ∧ k ≤ s.size ∧ o = .slice A k c ∧ Ow wr w.heap.size A k c ((s.data.toList.take k).map upF) ∧ Below w.heap.size w wr) (fun _ v _ => s.size - (intOf v).toNat)
  case atStart => exact ⟨0, _, _, rfl, Nat.zero_le _, rfl, Ow.empty w, kp_new _ _⟩
  case round =>
    obtain ⟨k, A, c, rfl, hk, rfl, ho, kw⟩ := hrel
    by_cases hlt : k < s.size
    · have hkl : k < s.data.toList.length := by rw [hlen.out]; exact hlt
      have hb := text_at s k hlt
      have hnext := Lib.hid (drop_take_map upF s.data.toList k hkl)
      generalize s.data.toList[k] = b at hb hnext
      have hsw := kw.size
      by_cases hlow : 97 ≤ b.toNat ∧ b.toNat ≤ 122
      · obtain ⟨h1, h2⟩ := hlow
        have hu : (b.toNat : Int) - 32 = ((upF b).toNat : Int) := by rw [up_byte b h1 h2]; omega
        have HU := Lib.hid hu
        clear hu
        go_wp2_with (at_builtin; refine wpList_append_rd rfl _ _ _ rfl w.heap.size 5 i0 _ 1 Tryd.underlying47 hi hz0 hz1 hz2 rfl _ k _ rfl (ho.own.alloc _) (wr.heap.size + 1) _ _ _ [_] rfl rfl (Rd.new _ _ _) (by simp [Value.oneCell']) (by unfold maxLen; omega) (by omega) (by simp; omega) ?_; intro v2 w2 hown2 hg2; rw [HU.out] at hown2; obtain ⟨A2, c2, rfl, ho2⟩ := Ow.push hown2)
        go_roundw
        case rel => exact ⟨k + 1, A2, c2, by go_num, by omega, rfl, by rw [hnext.out]; exact ho2, (kp_alloc kw _).trans (below_own (ho.own.alloc _) hg2 (by simp; omega))⟩
        case measure => simp [intOf]; omega
      · have hsame := up_same b hlow
        have HS := Lib.hid hsame
        have hlow2 : (¬ 97 ≤ b.toNat) ∨ (97 ≤ b.toNat ∧ ¬ b.toNat ≤ 122) := by omega
        clear hsame hlow
        rcases hlow2 with h1 | ⟨h1, h2⟩
        all_goals
          go_wp2_with (at_builtin; refine wpList_append_rd rfl _ _ _ rfl w.heap.size 5 i0 _ 1 Tryd.underlying47 hi hz0 hz1 hz2 rfl _ k _ rfl (ho.own.alloc _) (wr.heap.size + 1) _ _ _ [_] rfl rfl (Rd.new _ _ _) (by simp [Value.oneCell']) (by unfold maxLen; omega) (by omega) (by simp; omega) ?_; intro v2 w2 hown2 hg2; obtain ⟨A2, c2, rfl, ho2⟩ := Ow.push hown2)
          go_roundw
          case rel => exact ⟨k + 1, A2, c2, by go_num, by omega, rfl, by rw [hnext.out, HS.out]; exact ho2, (kp_alloc kw _).trans (below_own (ho.own.alloc _) hg2 (by simp; omega))⟩
          case measure => simp [intOf]; omega
    · obtain rfl : k = s.size := by omega
      rw [List.take_of_length_le (by rw [hlen.out]; exact Nat.le_refl _)] at ho
      have hT := ho.text
      go_wp2_with fail
      go_ret
      exact ⟨_, rfl, by simp [greatF], kw⟩

theorem twiceF_next (q : UInt8) (l : List UInt8) (k : Nat) (h : k < l.length) : twiceF q (l.take (k + 1)) = twiceF q (l.take k) ++ (if l[k] = q then [q, q] else [l[k]]) := by
  induction l generalizing k with
  | nil => simp at h
  | cons b r ih =>
    cases k with
    | zero => simp [twiceF]
    | succ k =>
      have := ih k (by simpa using h)
      simp only [List.take_succ_cons, twiceF, List.getElem_cons_succ]
      split <;> simp [this]

set_option maxHeartbeats 2000000 in
theorem doubled_ok (s : ByteArray) (q : UInt8) (w : World) (hs : s.size ≤ 1000000) : Calls Tryd.prog 46 #[.string s, .int .u8 (q.toNat : Int)] w fun e w' => ∃ r : ByteArray, e = .returned (.string r) ∧ r.data.toList = quoteF q s.data.toList ∧ Below w.heap.size w w' := by
  obtain ⟨i0, hi, hz0, hz1, hz2⟩ := info_parts byteinfo
  have hlen := Lib.hid (text_len s)
  go_enter Tryd.func46, Tryd.ntmps46
  go_wp2
  go_loopw [5, 6] (fun o v wr => ∃ (k n : Nat) (A : Option Addr) (c : Nat), v = .int .i64 k ∧ k ≤ s.size ∧ n ≤ 2 * k + 1 ∧ o = .slice A n c ∧ Ow wr w.heap.size A n c (q :: twiceF q (s.data.toList.take k)) ∧ Below w.heap.size w wr) (fun _ v _ => s.size - (intOf v).toNat)
  case atStart => exact ⟨0, 1, _, _, rfl, Nat.zero_le _, by omega, rfl, Ow.new1 w w.heap.size (Nat.le_refl _) _ q rfl, kp_new _ _⟩
  case round =>
    obtain ⟨k, n, A, c, rfl, hk, hn, rfl, ho, kw⟩ := hrel
    by_cases hlt : k < s.size
    · have hkl : k < s.data.toList.length := by rw [hlen.out]; exact hlt
      have hb := text_at s k hlt
      have hnext := Lib.hid (twiceF_next q s.data.toList k hkl)
      generalize s.data.toList[k] = b at hb hnext
      have hsw := kw.size
      by_cases hbq : b = q
      · subst hbq
        go_wp2_with (first
          | (at_builtin; refine wpList_append_rd rfl _ _ _ rfl w.heap.size 5 i0 _ 1 Tryd.underlying47 hi hz0 hz1 hz2 rfl _ (n + 1) _ rfl (ho2.own.alloc _) (w2.heap.size + 1) _ _ _ [_] rfl rfl (Rd.new _ _ _) (by simp [Value.oneCell']) (by unfold maxLen; omega) (by omega) (by simp; omega) ?_; intro v3 w3 hown3 hg3; obtain ⟨A3, c3, rfl, ho3⟩ := Ow.push hown3; have kw3 := (kp_alloc kw2 (.cells #[.int .u8 _] 5)).trans (below_own (ho2.own.alloc _) hg3 (by simp; omega)); have hsw3 := kw3.size)
          | (at_builtin; refine wpList_append_rd rfl _ _ _ rfl w.heap.size 5 i0 _ 1 Tryd.underlying47 hi hz0 hz1 hz2 rfl _ n _ rfl (ho.own.alloc _) (wr.heap.size + 1) _ _ _ [_] rfl rfl (Rd.new _ _ _) (by simp [Value.oneCell']) (by unfold maxLen; omega) (by omega) (by simp; omega) ?_; intro v2 w2 hown2 hg2; obtain ⟨A2, c2, rfl, ho2⟩ := Ow.push hown2; have kw2 := (kp_alloc kw (.cells #[.int .u8 _] 5)).trans (below_own (ho.own.alloc _) hg2 (by simp; omega)); have hsw2 := kw2.size))
        go_roundw
        case rel => exact ⟨k + 1, n + 1 + 1, A3, c3, by go_num, by omega, by omega, rfl, by rw [hnext.out, if_pos rfl]; simpa using ho3, kw3⟩
        case measure => simp [intOf]; omega
      · have hbq2 := byte_eq_no hbq
        have HB := Lib.hid hbq
        clear hbq
        go_wp2_with (first
          | (at_builtin; refine wpList_append_rd rfl _ _ _ rfl w.heap.size 5 i0 _ 1 Tryd.underlying47 hi hz0 hz1 hz2 rfl _ n _ rfl (ho.own.alloc _) (wr.heap.size + 1) _ _ _ [_] rfl rfl (Rd.new _ _ _) (by simp [Value.oneCell']) (by unfold maxLen; omega) (by omega) (by simp; omega) ?_; intro v2 w2 hown2 hg2; obtain ⟨A2, c2, rfl, ho2⟩ := Ow.push hown2; have kw2 := (kp_alloc kw (.cells #[.int .u8 _] 5)).trans (below_own (ho.own.alloc _) hg2 (by simp; omega)); have hsw2 := kw2.size))
        go_roundw
        case rel => exact ⟨k + 1, n + 1, A2, c2, by go_num, by omega, by omega, rfl, by rw [hnext.out, if_neg HB.out]; simpa using ho2, kw2⟩
        case measure => simp [intOf]; omega
    · obtain rfl : k = s.size := by omega
      rw [List.take_of_length_le (by rw [hlen.out]; exact Nat.le_refl _)] at ho
      have hsw := kw.size
      go_wp2_with (first
          | (at_builtin; refine wpList_append_rd rfl _ _ _ rfl w.heap.size 5 i0 _ 1 Tryd.underlying47 hi hz0 hz1 hz2 rfl _ n _ rfl (ho.own.alloc _) (wr.heap.size + 1) _ _ _ [_] rfl rfl (Rd.new _ _ _) (by simp [Value.oneCell']) (by unfold maxLen; omega) (by omega) (by simp; omega) ?_; intro v2 w2 hown2 hg2; obtain ⟨A2, c2, rfl, ho2⟩ := Ow.push hown2; have kw2 := (kp_alloc kw (.cells #[.int .u8 _] 5)).trans (below_own (ho.own.alloc _) hg2 (by simp; omega)); have hsw2 := kw2.size; have hT := ho2.text))
      go_ret
      exact ⟨_, rfl, by simp [quoteF], kw2⟩
end Go.Proofs.YtliadhpnkgpemaaDoor
