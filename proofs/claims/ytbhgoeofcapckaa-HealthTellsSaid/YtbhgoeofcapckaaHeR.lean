/-
  The document's layer 12: Right, On, Step; what the law says may be: contracts.
-/
import Derived.Test.YtbhgoeofcapckaaHeP
import Derived.BigQuiet
import Derived.BigRegion
namespace Go.Proofs.Ytbhgoeofcapckaa
open Go.RowKit
set_option maxRecDepth 100000

set_option maxHeartbeats 4000000 in
theorem rrighthe_ok (c : HCf) (w : World) :
    Calls Try.prog 8 #[c.v] w fun e w' => e = .returned (.bool (rightHe c)) ∧ Below w.heap.size w w' := by
  obtain ⟨bo, hb⟩ : ∃ b, rightHe c = b := ⟨_, rfl⟩
  obtain ⟨f, p, l⟩ := c
  unfold rightHe at hb
  dsimp only at hb
  have HBO : Hid (decide (1 ≤ f ∧ f ≤ 1000 ∧ 1 ≤ p ∧ p ≤ 1000 ∧ l ≤ 1000) = bo) := Lib.hid hb
  show Calls _ _ _ _ fun e w' => e = .returned (.bool (decide (1 ≤ f ∧ f ≤ 1000 ∧ 1 ≤ p ∧ p ≤ 1000 ∧ l ≤ 1000))) ∧ _
  rw [hb]
  clear hb
  unfold HCf.v
  have hbf : bo = true ↔ (1 ≤ f ∧ f ≤ 1000 ∧ 1 ≤ p ∧ p ≤ 1000 ∧ l ≤ 1000) := by rw [← HBO.out, decide_eq_true_iff]
  by_cases a1 : 1 ≤ f
  rotate_left
  · obtain rfl : bo = false := by rw [Bool.eq_false_iff]; intro h; exact a1 (hbf.1 h).1
    clear hbf HBO
    go_enter Try.func8, Try.ntmps8
    go_wp2_with fail
    go_ret
    exact ⟨rfl, kp_new _ _⟩
  by_cases a2 : f ≤ 1000
  rotate_left
  · obtain rfl : bo = false := by rw [Bool.eq_false_iff]; intro h; exact a2 (hbf.1 h).2.1
    clear hbf HBO
    go_enter Try.func8, Try.ntmps8
    go_wp2_with fail
    go_ret
    exact ⟨rfl, kp_new _ _⟩
  by_cases a3 : 1 ≤ p
  rotate_left
  · obtain rfl : bo = false := by rw [Bool.eq_false_iff]; intro h; exact a3 (hbf.1 h).2.2.1
    clear hbf HBO
    go_enter Try.func8, Try.ntmps8
    go_wp2_with fail
    go_ret
    exact ⟨rfl, kp_new _ _⟩
  by_cases a4 : p ≤ 1000
  rotate_left
  · obtain rfl : bo = false := by rw [Bool.eq_false_iff]; intro h; exact a4 (hbf.1 h).2.2.2.1
    clear hbf HBO
    go_enter Try.func8, Try.ntmps8
    go_wp2_with fail
    go_ret
    exact ⟨rfl, kp_new _ _⟩
  obtain rfl : bo = decide (l ≤ 1000) := by rw [Bool.eq_iff_iff, hbf, decide_eq_true_iff]; exact ⟨fun h => h.2.2.2.2, fun h => ⟨a1, a2, a3, a4, h⟩⟩
  clear hbf HBO
  go_enter Try.func8, Try.ntmps8
  go_wp2_with fail
  go_ret
  exact ⟨rfl, kp_new _ _⟩
set_option maxHeartbeats 4000000 in
theorem ronhe_ok (s : HSt) (w : World) :
    Calls Try.prog 12 #[s.v] w fun e w' => e = .returned (onHe s).v ∧ Below w.heap.size w w' := by
  obtain ⟨i, c⟩ := s
  unfold onHe
  dsimp only
  by_cases h : i = 4
  · rw [if_pos h]
    subst h
    unfold HSt.v
    go_enter Try.func12, Try.ntmps12
    go_wp2_with fail
    refine bodyPost_ret (v := HSt.v ⟨2, 0⟩) ?_ rfl ⟨rfl, ?_⟩
    · rw [results_cell1 rfl]
      unfold HSt.v
      go_simp
    · exact kp_alloc (kp_new _ _) _
  · rw [if_neg h]
    have e0 : (i == 4) = false := by simpa using h
    clear h
    unfold HSt.v
    go_enter Try.func12, Try.ntmps12
    go_wp2_with fail
    refine bodyPost_ret (v := HSt.v ⟨i, c⟩) ?_ rfl ⟨rfl, ?_⟩
    · rw [results_cell1 rfl]
      unfold HSt.v
      go_simp
    · exact kp_alloc (kp_new _ _) _
set_option maxHeartbeats 8000000 in
theorem rstephe_ok (c : HCf) (s : HSt) (p : HPr) (w : World) (hc0 : 0 ≤ s.c) (hc1 : s.c ≤ 1000) :
    Calls Try.prog 15 #[c.v, s.v, p.v] w fun e w' => e = .returned (stepHe c s p).v ∧ Below w.heap.size w w' := by
  obtain ⟨f, q, l⟩ := c
  obtain ⟨i, n⟩ := s
  obtain ⟨ok, g⟩ := p
  dsimp only at hc0 hc1
  have hw : IntKind.i64.wrap (n + 1) = n + 1 := by rw [IntKind.wrap_i64]; omega
  by_cases a1 : i < 1
  · have a1' : True := trivial
    have hs : stepHe ⟨f, q, l⟩ ⟨i, n⟩ ⟨ok, g⟩ = ⟨i, n⟩ := by
      unfold stepHe passHe
      dsimp only
      rw [if_pos (.inl a1)]
    rw [hs]
    clear hs
    unfold HCf.v HSt.v HPr.v
    go_enter Try.func15, Try.ntmps15
    go_wp2_with fail
    refine bodyPost_ret (v := HSt.v ⟨i, n⟩) ?_ rfl ⟨rfl, kp_alloc (kp_alloc (kp_alloc (kp_new _ _) _) _) _⟩
    rw [results_cell1 rfl]
    unfold HSt.v
    go_simp
  by_cases a2 : 3 < i
  · have a2' : True := trivial
    have hs : stepHe ⟨f, q, l⟩ ⟨i, n⟩ ⟨ok, g⟩ = ⟨i, n⟩ := by
      unfold stepHe passHe
      dsimp only
      rw [if_pos (.inr a2)]
    rw [hs]
    clear hs
    unfold HCf.v HSt.v HPr.v
    go_enter Try.func15, Try.ntmps15
    go_wp2_with fail
    refine bodyPost_ret (v := HSt.v ⟨i, n⟩) ?_ rfl ⟨rfl, kp_alloc (kp_alloc (kp_alloc (kp_new _ _) _) _) _⟩
    rw [results_cell1 rfl]
    unfold HSt.v
    go_simp
  have a3 : ¬ (i < 1 ∨ 3 < i) := by omega
  by_cases hp : ok = true ∧ g ≤ l
  · obtain ⟨rfl, hg⟩ := hp
    have hq : (true && decide (g ≤ l)) = true := by rw [decide_eq_true hg]; rfl
    by_cases b1 : i = 1
    · subst b1
      have hs : stepHe ⟨f, q, l⟩ ⟨1, n⟩ ⟨true, g⟩ = ⟨1, 0⟩ := by
        unfold stepHe passHe
        dsimp only
        rw [if_neg a3, if_pos hq, if_pos rfl]
      rw [hs]
      clear hs a3 hq
      unfold HCf.v HSt.v HPr.v
      go_enter Try.func15, Try.ntmps15
      go_wp2_with fail
      refine bodyPost_ret (v := HSt.v ⟨1, 0⟩) ?_ rfl ⟨rfl, kp_alloc (kp_alloc (kp_alloc (kp_new _ _) _) _) _⟩
      rw [results_cell1 rfl]
      unfold HSt.v
      go_simp
    have b1' : (i == 1) = false := by simpa using b1
    by_cases b3 : i = 3
    · subst b3
      by_cases b4 : q ≤ n + 1
      · have b4' : True := trivial
        have hs : stepHe ⟨f, q, l⟩ ⟨3, n⟩ ⟨true, g⟩ = ⟨1, 0⟩ := by
          unfold stepHe passHe
          dsimp only
          rw [if_neg a3, if_pos hq, if_neg b1, if_pos rfl, if_pos b4]
        rw [hs]
        clear hs a3 hq
        unfold HCf.v HSt.v HPr.v
        go_enter Try.func15, Try.ntmps15
        go_wp2_with fail
        refine bodyPost_ret (v := HSt.v ⟨1, 0⟩) ?_ rfl ⟨rfl, kp_alloc (kp_alloc (kp_alloc (kp_new _ _) _) _) _⟩
        rw [results_cell1 rfl]
        unfold HSt.v
        go_simp
      · have b4' : True := trivial
        have hs : stepHe ⟨f, q, l⟩ ⟨3, n⟩ ⟨true, g⟩ = ⟨3, n + 1⟩ := by
          unfold stepHe passHe
          dsimp only
          rw [if_neg a3, if_pos hq, if_neg b1, if_pos rfl, if_neg b4]
        rw [hs]
        clear hs a3 hq
        unfold HCf.v HSt.v HPr.v
        go_enter Try.func15, Try.ntmps15
        go_wp2_with fail
        refine bodyPost_ret (v := HSt.v ⟨3, n + 1⟩) ?_ rfl ⟨rfl, kp_alloc (kp_alloc (kp_alloc (kp_new _ _) _) _) _⟩
        rw [results_cell1 rfl]
        unfold HSt.v
        go_simp
    · have b3' : (i == 3) = false := by simpa using b3
      by_cases b4 : q ≤ 1
      · have b4' : True := trivial
        have hs : stepHe ⟨f, q, l⟩ ⟨i, n⟩ ⟨true, g⟩ = ⟨1, 0⟩ := by
          unfold stepHe passHe
          dsimp only
          rw [if_neg a3, if_pos hq, if_neg b1, if_neg b3, if_pos b4]
        rw [hs]
        clear hs a3 hq
        unfold HCf.v HSt.v HPr.v
        go_enter Try.func15, Try.ntmps15
        go_wp2_with fail
        refine bodyPost_ret (v := HSt.v ⟨1, 0⟩) ?_ rfl ⟨rfl, kp_alloc (kp_alloc (kp_alloc (kp_new _ _) _) _) _⟩
        rw [results_cell1 rfl]
        unfold HSt.v
        go_simp
      · have b4' : True := trivial
        have hs : stepHe ⟨f, q, l⟩ ⟨i, n⟩ ⟨true, g⟩ = ⟨3, 1⟩ := by
          unfold stepHe passHe
          dsimp only
          rw [if_neg a3, if_pos hq, if_neg b1, if_neg b3, if_neg b4]
        rw [hs]
        clear hs a3 hq
        unfold HCf.v HSt.v HPr.v
        go_enter Try.func15, Try.ntmps15
        go_wp2_with fail
        refine bodyPost_ret (v := HSt.v ⟨3, 1⟩) ?_ rfl ⟨rfl, kp_alloc (kp_alloc (kp_alloc (kp_new _ _) _) _) _⟩
        rw [results_cell1 rfl]
        unfold HSt.v
        go_simp
  have hq : ¬ (ok && decide (g ≤ l)) = true := by rw [Bool.and_eq_true, decide_eq_true_iff]; exact hp
  cases ok with
  | true =>
    have hg : ¬ g ≤ l := fun h => hp ⟨rfl, h⟩
    by_cases b1 : i = 1
    · subst b1
      have hs : stepHe ⟨f, q, l⟩ ⟨1, n⟩ ⟨true, g⟩ = ⟨2, 0⟩ := by
        unfold stepHe passHe
        dsimp only
        rw [if_neg a3, if_neg hq, if_neg (by simp)]
      rw [hs]
      clear hs a3 hq hp
      unfold HCf.v HSt.v HPr.v
      go_enter Try.func15, Try.ntmps15
      go_wp2_with fail
      refine bodyPost_ret (v := HSt.v ⟨2, 0⟩) ?_ rfl ⟨rfl, kp_alloc (kp_alloc (kp_alloc (kp_new _ _) _) _) _⟩
      rw [results_cell1 rfl]
      unfold HSt.v
      go_simp
    · have b1' : (i == 1) = false := by simpa using b1
      have hs : stepHe ⟨f, q, l⟩ ⟨i, n⟩ ⟨true, g⟩ = ⟨2, 0⟩ := by
        unfold stepHe passHe
        dsimp only
        rw [if_neg a3, if_neg hq, if_neg (by simp)]
      rw [hs]
      clear hs a3 hq hp
      unfold HCf.v HSt.v HPr.v
      go_enter Try.func15, Try.ntmps15
      go_wp2_with fail
      refine bodyPost_ret (v := HSt.v ⟨2, 0⟩) ?_ rfl ⟨rfl, kp_alloc (kp_alloc (kp_alloc (kp_new _ _) _) _) _⟩
      rw [results_cell1 rfl]
      unfold HSt.v
      go_simp
  | false =>
    by_cases b1 : i = 1
    · subst b1
      by_cases b2 : n + 1 < f
      · have b2' : True := trivial
        have hs : stepHe ⟨f, q, l⟩ ⟨1, n⟩ ⟨false, g⟩ = ⟨1, n + 1⟩ := by
          unfold stepHe passHe
          dsimp only
          rw [if_neg a3, if_neg hq, if_pos ⟨rfl, rfl, b2⟩]
        rw [hs]
        clear hs a3 hq hp
        unfold HCf.v HSt.v HPr.v
        go_enter Try.func15, Try.ntmps15
        go_wp2_with fail
        refine bodyPost_ret (v := HSt.v ⟨1, n + 1⟩) ?_ rfl ⟨rfl, kp_alloc (kp_alloc (kp_alloc (kp_new _ _) _) _) _⟩
        rw [results_cell1 rfl]
        unfold HSt.v
        go_simp
      · have b2' : True := trivial
        have hs : stepHe ⟨f, q, l⟩ ⟨1, n⟩ ⟨false, g⟩ = ⟨2, 0⟩ := by
          unfold stepHe passHe
          dsimp only
          rw [if_neg a3, if_neg hq, if_neg (fun h => b2 h.2.2)]
        rw [hs]
        clear hs a3 hq hp
        unfold HCf.v HSt.v HPr.v
        go_enter Try.func15, Try.ntmps15
        go_wp2_with fail
        refine bodyPost_ret (v := HSt.v ⟨2, 0⟩) ?_ rfl ⟨rfl, kp_alloc (kp_alloc (kp_alloc (kp_new _ _) _) _) _⟩
        rw [results_cell1 rfl]
        unfold HSt.v
        go_simp
    · have b1' : (i == 1) = false := by simpa using b1
      have hs : stepHe ⟨f, q, l⟩ ⟨i, n⟩ ⟨false, g⟩ = ⟨2, 0⟩ := by
        unfold stepHe passHe
        dsimp only
        rw [if_neg a3, if_neg hq, if_neg (fun h => b1 h.1)]
      rw [hs]
      clear hs a3 hq hp
      unfold HCf.v HSt.v HPr.v
      go_enter Try.func15, Try.ntmps15
      go_wp2_with fail
      refine bodyPost_ret (v := HSt.v ⟨2, 0⟩) ?_ rfl ⟨rfl, kp_alloc (kp_alloc (kp_alloc (kp_new _ _) _) _) _⟩
      rw [results_cell1 rfl]
      unfold HSt.v
      go_simp
end Go.Proofs.Ytbhgoeofcapckaa
