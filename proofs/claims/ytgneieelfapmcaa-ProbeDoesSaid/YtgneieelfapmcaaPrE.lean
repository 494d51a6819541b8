/-
  The project's plan of probes: Tick, New; all that the laws ask of it.
-/
import Derived.Test.YtgneieelfapmcaaPrI
namespace Go.Proofs.Ytgneieelfapmcaa
open Go.RowKit
set_option maxRecDepth 100000

section
variable {b : Nat} {p : Pb} {S : Nat → Prop} {w : World}
theorem own_blk {w : World} {base n size c : Nat} {e : TypeId} {A : Option Addr} {xs : List Value} (h : w.ownsRow base e size (.slice A n c) n xs) : ∀ k, (∃ ad, A = some ad ∧ ad.block = k) → base ≤ k ∧ k < w.heap.size := by
  rintro k ⟨ad, rfl, rfl⟩
  rcases h.2 with ⟨h1, _⟩ | ⟨g, cap, cur, h1, hb, hg, _⟩
  · cases h1
  · injection h1 with h1 _ _
    injection h1 with h1
    subst h1
    exact ⟨hb, (Array.getElem?_eq_some_iff.1 hg).1⟩
set_option maxHeartbeats 8000000 in
theorem ptick_ok {t now : Int} {k : Nat} (h : PXx b p S w) (hp : PrI t k p) (h1 : t ≤ now) (h2 : now ≤ 4294967296) (hk : k ≤ 1000) :
    Calls Try.prog 10 #[.pointer (some ⟨b, 0, none⟩), .int .u64 now] w fun e w' => ∃ A n c B m d, e = .returned (.tuple #[.slice A n c, .slice B m d]) ∧ AK w' A n (tickA p now) ∧ NR w' B m (tickL p now) ∧ Told (PX b (tickC p now)) S A B w w' := by
  have ht0 := hp.t0
  have hnm := hp.nm
  have hn0 := hp.n0
  have hle := hp.len
  obtain ⟨w1, hw1⟩ : ∃ u, (w.alloc (.cells #[.pointer (some ⟨b, 0, none⟩)] 26)).alloc (.cells #[.int .u64 now] 22) = u := ⟨_, rfl⟩
  have z1 : w1.heap.size = w.heap.size + 2 := by rw [← hw1]; simp
  have k1 : Below w.heap.size w w1 := hw1 ▸ kp_trans (kp_new w _) (kp_new _ _)
  have b1 : w1.cell? ⟨w.heap.size, 0, none⟩ = some (.pointer (some ⟨b, 0, none⟩)) := by
    refine (cellsAt (cs := #[.pointer (some ⟨b, 0, none⟩)]) (t := 26) ?_ 0 rfl).1
    rw [← hw1, heap_alloc_old _ _ (by simp)]
    exact heap_alloc_new w _
  have b2 : w1.cell? ⟨w.heap.size + 1, 0, none⟩ = some (.int .u64 now) := by
    refine (cellsAt (cs := #[.int .u64 now]) (t := 22) ?_ 0 rfl).1
    have e : w.heap.size + 1 = (w.alloc (.cells #[.pointer (some ⟨b, 0, none⟩)] 26)).heap.size := by simp
    rw [← hw1, e]
    exact heap_alloc_new _ _
  have hat : ∀ x ∈ p.l, (x.o ≠ 0 → x.d = x.a + p.ev) ∧ 0 ≤ x.a ∧ x.a < 1125899906842624 := fun x hx => by
    obtain ⟨j, hj, rfl⟩ := List.getElem_of_mem hx
    have := hp.at_ j hj
    have ha := this.at_
    refine ⟨fun ho => ?_, this.a0, by omega⟩
    rcases this.d with ⟨_, _, e⟩ | e
    · exact absurd e ho
    · exact e
  have HE := Lib.hid (pend_ok now w.heap.size (h.next k1) b1 b2 h.lt (by omega) hat ⟨hp.la1, hp.lam⟩)
  have HI := Lib.hid (isLate_ok (b := b) now w)
  rw [hw1] at HI
  have hev : 1 ≤ p.ev ∧ p.ev ≤ 1000 := ⟨hp.ev1, hp.evm⟩
  have HS := Lib.hid h.lt
  clear hp h hat b1 b2 hw1
  go_enter Try.func10, Try.ntmps10
  go_wp2_with fail
  refine HI.out.mono ?_
  rintro e u ⟨rfl, hu⟩
  obtain rfl : w1 = u := hu.symm
  clear hu HI
  go_wp2_with fail
  refine HE.out.mono ?_
  rintro e w2 ⟨B, m, d, rfl, hB, ho2, hx2⟩
  have HA := Lib.hid (pask_ok now hx2 (by omega) (by omega) hev hn0 (by show p.last < _; omega))
  have HB := Lib.hid hB
  have HO2 := Lib.hid ho2
  clear HE hB ho2 hx2
  go_wp2_with fail
  refine HA.out.mono ?_
  rintro e w3 ⟨A, n, c, rfl, hA, ho3, hx3⟩
  have hz2 := HO2.out.size
  have hz3 := ho3.size
  have hB3 := own_off HB.out ho3 fun k hk => by have := HS.out k hk; omega
  have HF : Hid (AK w3 A n (tickA p now) ∧ NR w3 B m (tickL p now) ∧ Told (PX b (tickC p now)) S A B w w3) := Lib.hid ⟨AK.of_own hA, NR.of_own hB3, ⟨S, hx3, fun _ h => .inl h, fun k hk => by
    have hlo : w.heap.size ≤ k ∧ k < w3.heap.size := by
      rcases hk with hk | hk
      · have := own_blk hA k hk; omega
      · have := own_blk hB3 k hk; omega
    exact ⟨hlo.1, hlo.2, fun hs => by have := HS.out k hs; omega⟩⟩, ((Off.of S k1).trans HO2.out fun _ h => .inl h).trans ho3 fun _ h => .inl h⟩
  clear HA HB HO2 hA ho3 hx3 hB3 k1
  go_wp2_with fail
  go_ret2
  exact ⟨_, _, _, _, _, _, rfl, HF.out⟩
end

/-- within New: so many are given their first time -/
def nwL (n j : Nat) : List Nw := (List.range n).map fun (i : Nat) => ⟨if i < j then (i : Int) else 0, 0, 0⟩
theorem nwL_length (n j : Nat) : (nwL n j).length = n := by simp [nwL]
theorem nwL_next {n j : Nat} (h : j < n) : nwL n (j + 1) = (nwL n j).set j { (nwL n j)[j]'(by rw [nwL_length]; exact h) with d := j } := by
  refine List.ext_getElem (by simp [nwL]) fun i h1 h2 => ?_
  rw [List.getElem_set]
  simp only [nwL, List.getElem_map, List.getElem_range]
  by_cases e : j = i
  · subst e; simp
  · rw [if_neg e]
    by_cases h3 : i < j
    · rw [if_pos (by omega), if_pos h3]
    · rw [if_neg (by omega), if_neg h3]
theorem nwL_done (n : Int) (ev la : Int) : (⟨nwL n.toNat n.toNat, ev, la, 0⟩ : Pb) = newPb n ev la := by
  unfold newPb nwL
  congr 1
  refine List.map_congr_left fun i hi => ?_
  rw [if_pos (by simpa using hi)]
theorem nwL_zero {w : World} {b n : Nat} (ev la : Int) (h : w.heap[b]? = some (.cells #[.int .u64 0, .int .u64 0, .int .u64 0, .int .u64 0, .int .u64 0, .int .u64 0, .int .u64 0, .int .u64 0, .int .u64 0, .int .u64 0, .int .u64 0, .int .u64 0, .int .i64 n, .int .u64 ev, .int .u64 la, .int .u64 0] 61 (0, 0))) (hn : n ≤ 6) :
    PXx b ⟨nwL n 0, ev, la, 0⟩ (fun k => k = b) w := by
  have hd : ∀ (i : Nat) (hi : i < (nwL n 0).length), (nwL n 0)[i] = ⟨0, 0, 0⟩ := fun i hi => by simp [nwL]
  refine ⟨⟨_, h⟩, fun j hj => ?_, fun j hj => ?_, (cellsAt h 12 (by show _ = some (Value.int .i64 ((nwL n 0).length : Nat)); rw [nwL_length]; rfl)).1, (cellsAt h 13 rfl).1, (cellsAt h 14 rfl).1, (cellsAt h 15 rfl).1, by show (nwL n 0).length ≤ 6; rw [nwL_length]; exact hn, rfl, fun k hk => by subst hk; exact (Array.getElem?_eq_some_iff.1 h).1⟩
  · have hj' : j < n := by have : j < (nwL n 0).length := hj; rwa [nwL_length] at this
    rw [hd j hj]
    refine (cellsAt h (j * 2) ?_).1
    rcases (by omega : j = 0 ∨ j = 1 ∨ j = 2 ∨ j = 3 ∨ j = 4 ∨ j = 5) with rfl | rfl | rfl | rfl | rfl | rfl <;> rfl
  · have hj' : j < n := by have : j < (nwL n 0).length := hj; rwa [nwL_length] at this
    rw [hd j hj]
    refine (cellsAt h (j * 2 + 1) ?_).1
    rcases (by omega : j = 0 ∨ j = 1 ∨ j = 2 ∨ j = 3 ∨ j = 4 ∨ j = 5) with rfl | rfl | rfl | rfl | rfl | rfl <;> rfl
set_option maxHeartbeats 4000000 in
theorem pnew_bad (n ev la : Int) (w : World) (h : ¬ newOk13 n ev la) :
    Calls Try.prog 8 #[.int .i64 n, .int .u64 ev, .int .u64 la] w fun e w' => e = .returned (.tuple #[.pointer none, .int .i64 1]) ∧ Below w.heap.size w w' := by
  unfold newOk13 at h
  by_cases c1 : n < 1
  · clear h
    go_enter Try.func8, Try.ntmps8
    go_wp2_with fail
    go_ret2
    exact ⟨rfl, Below.refl _ _⟩
  by_cases c2 : 6 < n
  · clear h
    go_enter Try.func8, Try.ntmps8
    go_wp2_with fail
    go_ret2
    exact ⟨rfl, Below.refl _ _⟩
  by_cases c3 : 1 ≤ ev ∧ ev ≤ 1000
  · have h4 : decide (1 ≤ la ∧ la ≤ 1000) = false := decide_eq_false (by omega)
    have H1 := Lib.hid (mayTime_ok ev w true (Lib.hid (decide_eq_true c3)))
    have H2 := Lib.hid (mayTime_ok la w false (Lib.hid h4))
    clear h h4
    go_enter Try.func8, Try.ntmps8
    go_wp2_with fail
    refine H1.out.mono ?_
    rintro e u ⟨rfl, hu⟩
    obtain rfl : w = u := hu
    go_wp2_with fail
    refine H2.out.mono ?_
    rintro e u ⟨rfl, hu⟩
    obtain rfl : w = u := hu
    go_wp2_with fail
    go_ret2
    exact ⟨rfl, Below.refl _ _⟩
  · have H1 := Lib.hid (mayTime_ok ev w false (Lib.hid (decide_eq_false c3)))
    clear h
    go_enter Try.func8, Try.ntmps8
    go_wp2_with fail
    refine H1.out.mono ?_
    rintro e u ⟨rfl, hu⟩
    obtain rfl : w = u := hu
    go_wp2_with fail
    go_ret2
    exact ⟨rfl, Below.refl _ _⟩
set_option maxHeartbeats 8000000 in
theorem pnew_good (n ev la : Int) (w : World) (h : newOk13 n ev la) :
    Calls Try.prog 8 #[.int .i64 n, .int .u64 ev, .int .u64 la] w fun e w' => ∃ b, e = .returned (.tuple #[.pointer (some ⟨b, 0, none⟩), .int .i64 0]) ∧ (∃ S, (PX b (newPb n ev la)).p S w' ∧ ∀ k, S k → w.heap.size ≤ k) ∧ Below w.heap.size w w' := by
  obtain ⟨h1, h2, h3, h4, h5, h6⟩ := h
  have H1 := Lib.hid (mayTime_ok ev w true (Lib.hid (decide_eq_true ⟨h3, h4⟩)))
  have H2 := Lib.hid (mayTime_ok la w true (Lib.hid (decide_eq_true ⟨h5, h6⟩)))
  have HN := Lib.hid (nwL_done n ev la)
  obtain ⟨m, rfl⟩ : ∃ m : Nat, n = m := ⟨n.toNat, by omega⟩
  rw [Int.toNat_natCast] at HN
  have hm6 : m ≤ 6 := by omega
  obtain ⟨w1, hw1⟩ : ∃ u, w.alloc (.cells #[.int .u64 0, .int .u64 0, .int .u64 0, .int .u64 0, .int .u64 0, .int .u64 0, .int .u64 0, .int .u64 0, .int .u64 0, .int .u64 0, .int .u64 0, .int .u64 0, .int .i64 m, .int .u64 ev, .int .u64 la, .int .u64 0] 61) = u := ⟨_, rfl⟩
  have k1 : Below w.heap.size w w1 := hw1 ▸ kp_new w _
  have hx : PXx w.heap.size ⟨nwL m 0, ev, la, 0⟩ (fun k => k = w.heap.size) w1 := nwL_zero ev la (by rw [← hw1]; exact heap_alloc_new w _) hm6
  have HA := Lib.hid (pall_ok hx)
  rw [show ((⟨nwL m 0, ev, la, 0⟩ : Pb).l.length) = m from nwL_length m 0] at HA
  have HW1 := Lib.hid hw1
  have HX := Lib.hid hx
  clear hw1 hx
  go_enter Try.func8, Try.ntmps8
  go_wp2_with fail
  refine H1.out.mono ?_
  rintro e u ⟨rfl, hu⟩
  obtain rfl : w = u := hu
  go_wp2_with fail
  refine H2.out.mono ?_
  rintro e u ⟨rfl, hu⟩
  obtain rfl : w = u := hu
  clear H1 H2
  go_wp2_with fail
  rw [HW1.out]
  refine HA.out.mono ?_
  rintro e w2 ⟨rfl, k2⟩
  have HT0 : Hid (PXx w.heap.size ⟨nwL m 0, ev, la, 0⟩ (fun k => k = w.heap.size) w2 ∧ Below w.heap.size w w2) := Lib.hid ⟨HX.out.next k2, k1.trans (k2.mono k1.size)⟩
  clear HA HX HW1 k1 k2
  go_wp2_with fail
  go_loopw [34] (fun i wr => ∃ j : Nat, j ≤ m ∧ i = .int .i64 j ∧ Hid (PXx w.heap.size ⟨nwL m j, ev, la, 0⟩ (fun k => k = w.heap.size) wr ∧ Below w.heap.size w wr)) (fun i _ => m - (intOf i).toNat)
  case atStart => exact ⟨0, Nat.zero_le _, rfl, HT0⟩
  case round =>
    obtain ⟨j, hj, rfl, ht⟩ := hrel
    clear HT0
    by_cases hlt : j < m
    · have hj0 : (0 : Int) ≤ (j : Int) := by omega
      have hj1 : (j : Int) < (m : Int) := by omega
      have hj6 : (j : Int) < 6 := by omega
      have hjm : j < (nwL m j).length := by rw [nwL_length]; exact hlt
      have hd := ht.out.1.d j hjm
      have hz := ht.out.1.fz (j * 2)
      have hwj : IntKind.u64.wrap (j : Int) = (j : Int) := by rw [IntKind.wrap_u64]; omega
      have HT2 : Hid (PXx w.heap.size ⟨nwL m (j + 1), ev, la, 0⟩ (fun k => k = w.heap.size) (wr.setCell ⟨w.heap.size, j * 2, none⟩ (.int .u64 j)) ∧ Below w.heap.size w (wr.setCell ⟨w.heap.size, j * 2, none⟩ (.int .u64 j))) := Lib.hid ⟨by rw [nwL_next hlt]; exact ht.out.1.setD hjm j, ht.out.2.setCell (p := ⟨w.heap.size, j * 2, none⟩) (Nat.le_refl _) _⟩
      generalize (nwL m j)[j].d = xd at hd
      clear ht
      go_wp2_with fail
      go_roundw
      case rel => exact ⟨j + 1, by omega, by go_num, HT2⟩
      case measure => simp [intOf]; omega
    · obtain rfl : j = m := by omega
      have HF := ht
      rw [HN.out] at HF
      clear ht HN
      go_wp2_with fail
      go_ret2
      exact ⟨_, rfl, ⟨_, HF.out.1, fun k hk => by omega⟩, HF.out.2⟩
theorem probec_ok : ProbeC PX where
  bad := fun n ev la w _ _ _ h => pnew_bad n ev la w h
  good := fun n ev la w h => pnew_good n ev la w h
  tick := fun _ _ _ _ _ _ _ h hp h1 h2 hk => ptick_ok h hp h1 h2 hk
  answer := fun _ _ _ _ i n _ _ h _ _ _ => pans_ok h i n
  out := fun _ _ _ _ i _ _ h _ _ => pout_ok h i
  due := fun _ _ _ _ i _ _ h _ _ => pdue_ok h i
end Go.Proofs.Ytgneieelfapmcaa
