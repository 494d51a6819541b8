/-
  The calls whose answers the document fixes, at layer 2: they answer so.
-/
import Derived.Test.YtmohgfmknkfcaaaFrameH
namespace Go.Proofs.Ytmohgfmknkfcaaa
open Go.RowKit

theorem feedA : feedF [] 0 [0] = ([], [0], 0) := by
  rw [feedF, if_pos rfl, allF_short (by decide)]; rfl
theorem feedB : feedF [0] 0 [2, 7, 9, 0] = ([(7, [9])], [0], 0) := by
  have h : readF ([0] ++ [2, 7, 9, 0]) = (7, [9], 4, 0) := by decide
  rw [feedF, if_pos rfl, allF_step (by rw [h]), h]
  have h2 : ([0] ++ [2, 7, 9, 0] : List UInt8).drop 4 = [0] := rfl
  simp only []
  rw [h2, allF_short (by decide)]
theorem feedC : feedF [0] 0 [0] = ([], [], 2) := by
  rw [feedF, if_pos rfl, allF_bad (by decide) (by decide)]; rfl
theorem feedD (bs : List UInt8) : feedF [] 2 bs = ([], [], 2) := by
  rw [feedF, if_neg (by decide)]

theorem bytesE : bytesF 7 [9] = ([0, 2, 7, 9], 0) := by decide
theorem readE : readF [0, 2, 7, 9, 0] = (7, [9], 4, 0) := by decide
theorem says_none {rs : List Rep} (h : says rs = []) : rs = [] := by simpa [says] using h
theorem says_one {rs : List Rep} {k : UInt8} {bs : List UInt8} (h : says rs = [(k, bs)]) : ∃ p : Part, rs = [⟨k, p⟩] ∧ p.bs = bs := by
  match rs, h with
  | [r], h =>
    simp only [says, List.map_cons, List.map_nil, List.cons.injEq, Rep.says, Prod.mk.injEq, and_true] at h
    obtain ⟨rfl, rfl⟩ := h
    exact ⟨r.p, rfl, rfl⟩
  | [], h => simp [says] at h
  | _ :: _ :: _, h => simp [says] at h

set_option maxRecDepth 100000 in
set_option maxHeartbeats 1000000 in
theorem awake2 (w : World) : Calls Try.prog 7 #[] w fun e w' => e = .returned (.bool true) ∧ Below w.heap.size w w' := by
  go_enter Try.func7, Try.ntmps7
  go_wp2_with fail
  refine (new_any w (w.heap.size + 1)).mono ?_
  rintro e w1 ⟨rfl, hd1, hz1, hb1⟩
  generalize hbb : w.heap.size = b at *
  have hbB : Hid (w.heap.size = b) := Lib.hid hbb
  have z1 : b + 1 ≤ w1.heap.size := by omega
  clear hbb hz1
  go_wp2_with fail
  refine (feed_any _ b (b + 1) [] [0] 0 (hd1.next (kp_new _ _)) (by simp; omega) _ 1 1 (Sl.new w1 5 [0]) (by simp)).mono ?_
  rw [feedA]
  rintro e w2 ⟨A2, n2, c2, rs2, rfl, hs2, hf2, hn2, hd2, hb2⟩
  obtain rfl := says_none hs2
  obtain rfl : 0 = n2 := hf2.len
  have k2 : Bel b w1 w2 := (Bel.of b (kp_new _ _)).trans hb2
  have z2 := k2.size
  clear hs2 hf2 hb2 hn2
  go_wp2_with fail
  refine (feed_any _ b (b + 1) [0] [2, 7, 9, 0] 0 (hd2.next (kp_new _ _)) (by simp; omega) _ 4 4 (Sl.new w2 5 [2, 7, 9, 0]) (by simp)).mono ?_
  rw [feedB]
  rintro e w3 ⟨A3, n3, c3, rs3, rfl, hs3, hf3, hn3, hd3, hb3⟩
  obtain ⟨p3, rfl, hp3⟩ := says_one hs3
  obtain rfl : 1 = n3 := hf3.len
  have k3 : Bel b w2 w3 := (Bel.of b (kp_new _ _)).trans hb3
  have z3 := k3.size
  clear hs3 hb3 hn3
  go_wp2_with fail
  refine (bytes_any 7 _ [9] 1 1 _ (Sl.new w3 5 [9])).mono ?_
  rw [bytesE]
  rintro e w4 ⟨A4, l4, c4, rfl, ho4, hb4⟩
  have k4 := kp_trans (kp_new w3 _) hb4
  have z4 := k4.size
  go_wp2_with fail
  refine (read_any _ [0, 2, 7, 9, 0] 5 5 _ (Sl.new w4 5 [0, 2, 7, 9, 0]) (by omega)).mono ?_
  rw [readE]
  rintro e w5 ⟨A5, l5, c5, rfl, ho5, hb5⟩
  unfold frV
  have k5 := kp_trans (kp_new w4 _) hb5
  have z5 := k5.size
  have hd5 := (hd3.next k4).next k5
  have hf5 := (hf3.next k4).next k5
  have ho45 := ho4.next k5
  clear hd1 hd2 hd3 hf3 ho4 ho5
  go_wp2_with fail
  refine (pending_any _ b (b + 1) [0] 0 (hd5.next (kp_new _ _))).mono ?_
  rintro e w' ⟨rfl, rfl⟩
  have k6 := kp_new w5 (.cells #[.int .u8 7, .slice A5 l5 c5] 24)
  have hd6 := hd5.next k6
  have hf6 := hf5.next k6
  have ho6 := ho45.next k6
  have z6 := k6.size
  clear hd5 hf5 ho45
  go_wp2_with fail
  have hz6 : w5.heap.size + 1 = (w5.alloc (.cells #[.int .u8 7, .slice A5 l5 c5] 24)).heap.size := by simp
  generalize w5.alloc (.cells #[.int .u8 7, .slice A5 l5 c5] 24) = w6 at *
  rw [hz6]
  clear hz6
  refine (feed_any _ b (b + 1) [0] [0] 0 (hd6.next (kp_new _ _)) (by simp; omega) _ 1 1 (Sl.new w6 5 [0]) (by simp)).mono ?_
  rw [feedC]
  rintro e w7 ⟨A7, n7, c7, rs7, rfl, _, _, _, hd7, hb7⟩
  have k7 : Bel b w6 w7 := (Bel.of b (kp_new _ _)).trans hb7
  have z7 := k7.size
  have hf7 := hf6.bel k7 (by simp; omega)
  have ho7 := ho6.bel k7 (by simp; omega)
  clear hb7 hf6 hd6 ho6
  go_wp2_with fail
  refine (feed_any _ b (b + 1) [] [0, 2, 7, 9] 2 (hd7.next (kp_new _ _)) (by simp; omega) _ 4 4 (Sl.new w7 5 [0, 2, 7, 9]) (by simp)).mono ?_
  rw [feedD]
  rintro e w8 ⟨A8, n8, c8, rs8, rfl, _, _, _, hd8, hb8⟩
  have k8 : Bel b w7 w8 := (Bel.of b (kp_new _ _)).trans hb8
  have z8 := k8.size
  have hf8 := hf7.bel k8 (by simp; omega)
  have ho8 := ho7.bel k8 (by simp; omega)
  clear hb8 hf7 hd7 ho7
  have hfr := hf8.fr
  obtain ⟨ad, hA3, hbl, hcs⟩ := hfr.rd.addr (by rw [repCells_length]; simp)
  have c0 : w8.cell? ad = some (.int .u8 7) := by
    have hadd : ad.add 0 = ad := by simp [Addr.add]
    have := hcs 0 _ rfl
    rw [hadd] at this
    exact this
  have c1 : w8.cell? ⟨ad.block, ad.off + 1, none⟩ = some (.slice p3.A p3.l p3.c) := hcs 1 _ rfl
  have hbody := hfr.body ⟨7, p3⟩ (by simp)
  simp only at hbody
  rw [hp3] at hbody
  have hkk : Below w.heap.size w w8 := by
    rw [hbB.out]
    exact (((((hb1.trans (k2.below (Nat.le_refl _) (by omega))).trans (k3.below (Nat.le_refl _) (by omega))).trans (k4.mono (by omega))).trans (k5.mono (by omega))).trans (k6.mono (by omega))).trans ((k7.trans k8).below (Nat.le_refl _) (by omega))
  subst hA3
  go_wp2_with fail
  refine (fsame_any 7 7 _ _ [9] [9] _ _ _ _ _ (hbody.next (kp_new _ _)) (Sl.new w8 5 [9]) true (Lib.hid (by decide))).mono ?_
  rintro e w9 ⟨rfl, hb9⟩
  have k9 := kp_trans (kp_new w8 _) hb9
  have ho9 := ho8.next k9
  have hd9 := hd8.next k9
  clear hcs hfr c0 c1 ho8 hd8
  go_wp2_with fail
  refine (same_kp _ _ [0, 2, 7, 9] [0, 2, 7, 9] _ _ _ _ _ _ _ (ho9.sl.next (kp_new _ _)) (Sl.new w9 5 [0, 2, 7, 9]) (by have := ho9.len; simp at this; omega) true (Lib.hid (by decide))).mono ?_
  rintro e w10 ⟨rfl, hb10⟩
  have k10 := kp_trans (kp_new w9 _) hb10
  go_wp2_with fail
  refine (pending_any _ b (b + 1) [] 2 (hd9.next k10)).mono ?_
  rintro e w' ⟨rfl, rfl⟩
  go_wp2_with fail
  go_ret
  exact ⟨rfl, kp_trans (kp_trans hkk k9) k10⟩
end Go.Proofs.Ytmohgfmknkfcaaa
