/-
  The laws' own helper large, of layer 7: contract; a tally that a call made itself.
-/
import Derived.Test.YtkkmjoadhjnldaaDoorTaK
import Derived.Test.YtkkmjoadhjnldaaDoorOpenA
namespace Go.Proofs.YtkkmjoadhjnldaaDoor
open Go.RowKit
set_option maxRecDepth 100000

def largeT (ns : List ByteArray) (ts : List Act7) : Bool := decide (100 < ns.length) || decide (100 < ts.length) || ns.any (fun s => decide (300 < s.size)) || ts.any (fun t => decide (300 < t.s.size))
theorem large_no {ns : List ByteArray} {ts : List Act7} (h : largeT ns ts = false) : ns.length ≤ 100 ∧ ts.length ≤ 100 ∧ (∀ s ∈ ns, s.size ≤ 300) ∧ ∀ t ∈ ts, t.s.size ≤ 300 := by
  unfold largeT at h
  simp only [Bool.or_eq_false_iff, decide_eq_false_iff_not, List.any_eq_false, decide_eq_true_eq, Nat.not_lt] at h
  exact ⟨h.1.1.1, h.1.1.2, h.1.2, h.2⟩
theorem large_is_no {ns : List ByteArray} {ts : List Act7} (h1 : ns.length ≤ 100) (h2 : ts.length ≤ 100) (h3 : ∀ j (h : j < ns.length), ns[j].size ≤ 300) (h4 : ∀ j (h : j < ts.length), ts[j].s.size ≤ 300) : largeT ns ts = false := by
  unfold largeT
  simp only [Bool.or_eq_false_iff, decide_eq_false_iff_not, List.any_eq_false, decide_eq_true_eq, Nat.not_lt]
  refine ⟨⟨⟨h1, h2⟩, fun s hs => ?_⟩, fun t ht => ?_⟩
  · obtain ⟨j, hj, rfl⟩ := List.getElem_of_mem hs
    exact h3 j hj
  · obtain ⟨j, hj, rfl⟩ := List.getElem_of_mem ht
    exact h4 j hj
theorem large_name {ns : List ByteArray} {ts : List Act7} {j : Nat} (h : j < ns.length) (h3 : 300 < ns[j].size) : largeT ns ts = true := by
  have : ns.any (fun s => decide (300 < s.size)) = true := List.any_eq_true.2 ⟨ns[j], List.getElem_mem h, decide_eq_true h3⟩
  simp [largeT, this]
theorem large_act {ns : List ByteArray} {ts : List Act7} {j : Nat} (h : j < ts.length) (h3 : 300 < ts[j].s.size) : largeT ns ts = true := by
  have : ts.any (fun t => decide (300 < t.s.size)) = true := List.any_eq_true.2 ⟨ts[j], List.getElem_mem h, decide_eq_true h3⟩
  simp [largeT, this]

set_option maxHeartbeats 2000000 in
theorem large7_ok (A A' : Option Addr) (n c m c' : Nat) (ns : List ByteArray) (ts : List Act7) (w : World) (h : XR w A n ns) (h' : AR w A' m ts) (b : Bool) (hb : Hid (largeT ns ts = b)) :
    Calls Tryd.prog 7 #[.slice A n c, .slice A' m c'] w fun e w' => e = .returned (.bool b) ∧ Below w.heap.size w w' := by
  have hl := h.len
  have hl' := h'.len
  have HL := Lib.hid hl
  have HL' := Lib.hid hl'
  have HX := Lib.hid h
  have HA := Lib.hid h'
  by_cases h1 : 100 < n
  · have hT : Hid (b = true) := Lib.hid (by rw [← hb.out]; unfold largeT; rw [decide_eq_true (show 100 < ns.length by omega)]; rfl)
    clear h h' hl hl'
    go_enter Tryd.func7, Tryd.ntmps7
    go_wp2_with fail
    go_ret
    exact ⟨by rw [hT.out]; rfl, Below.refl _ _⟩
  by_cases h2 : 100 < m
  · have hT : Hid (b = true) := Lib.hid (by rw [← hb.out]; unfold largeT; rw [decide_eq_true (show 100 < ts.length by omega)]; simp)
    clear h h' hl hl'
    go_enter Tryd.func7, Tryd.ntmps7
    go_wp2_with fail
    go_ret
    exact ⟨by rw [hT.out]; rfl, Below.refl _ _⟩
  have HN := Lib.hid (show ns.length ≤ 100 by omega)
  have HM := Lib.hid (show ts.length ≤ 100 by omega)
  clear h h' hl hl'
  go_enter Tryd.func7, Tryd.ntmps7
  go_wp2_with fail
  go_loopw [19] (fun i wr => ∃ k : Nat, k ≤ n ∧ i = .int .i64 k ∧ Hid (∀ j (hj : j < ns.length), j < k → ns[j].size ≤ 300) ∧ wr = w) (fun i _ => n - (intOf i).toNat)
  case atStart => exact ⟨0, Nat.zero_le _, rfl, Lib.hid (fun j _ h => absurd h (Nat.not_lt_zero _)), rfl⟩
  case round =>
    obtain ⟨k, hk, rfl, hne, rfl⟩ := hrel
    by_cases hlt : k < n
    · have hkl : k < ns.length := by rw [HL.out]; exact hlt
      obtain ⟨ad, rfl, _, c0⟩ := HX.out.at_ hkl
      by_cases he : 300 < ns[k].size
      · have hT : Hid (b = true) := Lib.hid (by rw [← hb.out, large_name hkl he])
        clear hne
        generalize ns[k] = x at *
        have hq : (300 : Int) < (x.size : Int) := by omega
        go_wp2_with fail
        go_ret
        exact ⟨by rw [hT.out]; rfl, Below.refl _ _⟩
      · have hne2 : Hid (∀ j (hj : j < ns.length), j < k + 1 → ns[j].size ≤ 300) := Lib.hid (fun j hj hjk => by
          by_cases h : j = k
          · subst h; omega
          · exact hne.out j hj (by omega))
        clear hne
        generalize ns[k] = x at *
        have hq : ¬ (300 : Int) < (x.size : Int) := by omega
        go_wp2_with fail
        go_roundw
        case rel => exact ⟨k + 1, by omega, by go_num, hne2, trivial⟩
        case measure => simp [intOf]; omega
    · obtain rfl : k = n := by omega
      obtain ⟨wo, hwo⟩ : ∃ x, x = wr := ⟨wr, rfl⟩
      subst hwo
      go_wp2_with fail
      go_loopw [29] (fun i wr => ∃ q : Nat, q ≤ m ∧ i = .int .i64 q ∧ Hid (∀ j (hj : j < ts.length), j < q → ts[j].s.size ≤ 300) ∧ Below wo.heap.size wo wr) (fun i _ => m - (intOf i).toNat)
      case atStart => exact ⟨0, Nat.zero_le _, rfl, Lib.hid (fun j _ h => absurd h (Nat.not_lt_zero _)), Below.refl _ _⟩
      case round =>
        obtain ⟨q, hq, rfl, hns, k0⟩ := hrel
        by_cases hlt2 : q < m
        · have hql : q < ts.length := by rw [HL'.out]; exact hlt2
          obtain ⟨ad, rfl, _, hcc⟩ := HA.out.at_ hql
          obtain ⟨c0, c1, c2, c3⟩ := hcc _ k0
          have kk := Lib.hid (kp_alloc k0 (.cells #[.int .i64 ts[q].d, .string ts[q].s, .int .i64 ts[q].n, .int .i64 ts[q].m] 36))
          clear hcc
          by_cases he : 300 < ts[q].s.size
          · have hT : Hid (b = true) := Lib.hid (by rw [← hb.out, large_act hql he])
            clear hns
            generalize ts[q] = x at *
            have hq : (300 : Int) < (x.s.size : Int) := by omega
            go_wp2_with fail
            go_ret
            exact ⟨by rw [hT.out]; rfl, kk.out⟩
          · have hne2 : Hid (∀ j (hj : j < ts.length), j < q + 1 → ts[j].s.size ≤ 300) := Lib.hid (fun j hj hjk => by
              by_cases h : j = q
              · subst h; omega
              · exact hns.out j hj (by omega))
            clear hns
            generalize ts[q] = x at *
            have hq : ¬ (300 : Int) < (x.s.size : Int) := by omega
            go_wp2_with fail
            go_roundw
            case rel => exact ⟨q + 1, by omega, by go_num, hne2, kk.out⟩
            case measure => simp [intOf]; omega
        · obtain rfl : q = m := by omega
          have hF : Hid (b = false) := Lib.hid (by rw [← hb.out, large_is_no HN.out HM.out (fun j h => hne.out j h (by have := HL.out; omega)) (fun j h => hns.out j h (by have := HL'.out; omega))])
          clear hne hns
          go_wp2_with fail
          go_ret
          exact ⟨by rw [hF.out]; rfl, k0⟩

/-- a tally that a call made itself -/
structure PB (w0 : World) (w : World) (b : Nat) (l ns : List ByteArray) (cs : List Int) : Prop where
  at_ : ∃ S, PT S w b l ns cs ∧ ∀ k, S k → w0.heap.size ≤ k
  low : Below w0.heap.size w0 w
theorem PB.next {w0 w w' : World} {b : Nat} {l ns : List ByteArray} {cs : List Int} (h : PB w0 w b l ns cs) (hb : Below w.heap.size w w') : PB w0 w' b l ns cs := by
  obtain ⟨⟨S, h1, h2⟩, h3⟩ := h
  exact ⟨⟨S, h1.next hb, h2⟩, kp_trans h3 hb⟩
theorem PC.pb {S : Nat → Prop} {w0 w w' : World} {b : Nat} {l ns : List ByteArray} {cs : List Int} (h : PC S w b l ns cs w') (hS : ∀ k, S k → w0.heap.size ≤ k) (hl : Below w0.heap.size w0 w) : PB w0 w' b l ns cs := by
  obtain ⟨⟨S', h1, h2⟩, h3⟩ := h
  have hz := hl.size
  exact ⟨⟨S', h1, fun k hk => (h2 k hk).elim (hS k) (fun e => by omega)⟩, hl.trans (h3.below hS hz)⟩
section
variable {w0 w : World} {b : Nat} {l ns : List ByteArray} {cs : List Int}
theorem PB.add (h : PB w0 w b l ns cs) (s : ByteArray) (x : Int) (hs : s.size ≤ 1000) : Calls Tryd.prog 12 #[.pointer (some ⟨b, 0, none⟩), .string s, .int .i64 x] w fun e w' => e = .returned (.bool (decide (0 ≤ placeT s ns))) ∧ PB w0 w' b l ns (addT ns cs s x) := by
  obtain ⟨⟨S, h1, h2⟩, h3⟩ := h
  exact (add7_ok S b l ns cs s x w h1 hs).mono fun e w' ⟨he, hp⟩ => ⟨he, hp.pb h2 h3⟩
theorem PB.count (h : PB w0 w b l ns cs) (s : ByteArray) (hs : s.size ≤ 1000) : Calls Tryd.prog 16 #[.pointer (some ⟨b, 0, none⟩), .string s] w fun e w' => e = .returned (.tuple #[.int .i64 (countT ns cs s), .bool (decide (0 ≤ placeT s ns))]) ∧ PB w0 w' b l ns cs := by
  obtain ⟨⟨S, h1, h2⟩, h3⟩ := h
  exact (count7_ok S b l ns cs s w h1 hs).mono fun e w' ⟨he, hp⟩ => ⟨he, hp.pb h2 h3⟩
theorem PB.swap (h : PB w0 w b l ns cs) (s : ByteArray) (x y : Int) (hs : s.size ≤ 1000) : Calls Tryd.prog 14 #[.pointer (some ⟨b, 0, none⟩), .string s, .int .i64 x, .int .i64 y] w fun e w' => e = .returned (.bool (swapT ns cs s x y).2) ∧ PB w0 w' b l ns (swapT ns cs s x y).1 := by
  obtain ⟨⟨S, h1, h2⟩, h3⟩ := h
  exact (swap7_ok S b l ns cs s x y w h1 hs).mono fun e w' ⟨he, hp⟩ => ⟨he, hp.pb h2 h3⟩
theorem PB.namesOf (h : PB w0 w b l ns cs) : Calls Tryd.prog 11 #[.pointer (some ⟨b, 0, none⟩)] w fun e w' => ∃ A n c, e = .returned (.slice A n c) ∧ XR w' A n ns ∧ n ≤ 900 ∧ PB w0 w' b l ns cs := by
  obtain ⟨⟨S, h1, h2⟩, h3⟩ := h
  exact (names7_ok S b l ns cs w h1).mono fun e w' ⟨A, n, c, he, hx, hn, _, hp⟩ => ⟨A, n, c, he, hx, hn, hp.pb h2 h3⟩
theorem PB.lines (h : PB w0 w b l ns cs) (htab : Lib.TabIs Tryd.prog w0 tabName .u64 Lib.pow10Tab) (hcs : ∀ n ∈ cs, -9223372036854775808 ≤ n ∧ n ≤ 9223372036854775807) (hz : ∀ s ∈ ns, s.size ≤ 1000) : Calls Tryd.prog 18 #[.pointer (some ⟨b, 0, none⟩)] w fun e w' => ∃ A n c ss, e = .returned (.slice A n c) ∧ XR w' A n ss ∧ bls ss = linesT ns cs ∧ n ≤ 1000 ∧ PB w0 w' b l ns cs := by
  obtain ⟨⟨S, h1, h2⟩, h3⟩ := h
  exact (lines7_ok S b l ns cs w0.heap.size w h1 ((Lib.tabBelow_of_tabIs htab).on h3) h2 h3.size hcs hz).mono fun e w' ⟨A, n, c, ss, he, hx, hb, hn, _, hp⟩ => ⟨A, n, c, ss, he, hx, hb, hn, hp.pb h2 h3⟩
end
theorem pb_new (w0 : World) (A : Option Addr) (N c : Nat) (l : List ByteArray) (w : World) (h : XR w A N l) (hN : N ≤ 900) (hs : ∀ s ∈ l, s.size ≤ 1000) (hw : Below w0.heap.size w0 w) : Calls Tryd.prog 8 #[.slice A N c] w fun e w' => ∃ b, e = .returned (.pointer (some ⟨b, 0, none⟩)) ∧ PB w0 w' b l (newT l) (zeros (newT l).length) := by
  refine (pnew_ok A N c l w h hN hs).mono ?_
  rintro e w' ⟨S, b, he, h1, h2, h3⟩
  have hz := hw.size
  exact ⟨b, he, ⟨S, h1, fun k hk => by have := h2 k hk; omega⟩, kp_trans hw h3⟩
end Go.Proofs.YtkkmjoadhjnldaaDoor
