/-
  The project's health: Right, Serves, Off, On, Step: contracts.
-/
import Derived.Test.YtbhgoeofcapckaaHeK
namespace Go.Proofs.Ytbhgoeofcapckaa
open Go.RowKit
set_option maxRecDepth 100000

set_option maxHeartbeats 4000000 in
theorem mayRow_ok (n : Int) (w : World) :
    Calls Try.prog 16 #[.int .i64 n] w fun e w' => e = .returned (.bool (decide (1 ≤ n ∧ n ≤ 1000))) ∧ Below w.heap.size w w' := by
  by_cases h1 : 1 ≤ n
  · by_cases h2 : n ≤ 1000
    · rw [decide_eq_true (And.intro h1 h2)]
      go_enter Try.func16, Try.ntmps16
      go_wp2_with fail
      go_ret
      exact ⟨rfl, Below.refl _ _⟩
    · rw [decide_eq_false (fun h => h2 h.2)]
      go_enter Try.func16, Try.ntmps16
      go_wp2_with fail
      go_ret
      exact ⟨rfl, Below.refl _ _⟩
  · rw [decide_eq_false (fun h => h1 h.1)]
    go_enter Try.func16, Try.ntmps16
    go_wp2_with fail
    go_ret
    exact ⟨rfl, Below.refl _ _⟩
set_option maxHeartbeats 4000000 in
theorem isHe_ok (s : HSt) (n : Int) (w : World) :
    Calls Try.prog 17 #[s.v, .int .i64 n] w fun e w' => e = .returned (.bool (s.i == n)) ∧ Below w.heap.size w w' := by
  obtain ⟨i, c⟩ := s
  by_cases h : i = n
  · subst h
    show Calls _ _ _ _ fun e w' => e = .returned (.bool (i == i)) ∧ _
    rw [beq_self_eq_true]
    unfold HSt.v
    go_enter Try.func17, Try.ntmps17
    go_wp2_with fail
    go_ret
    exact ⟨rfl, kp_new _ _⟩
  · have hb : (i == n) = false := by simpa using h
    show Calls _ _ _ _ fun e w' => e = .returned (.bool (i == n)) ∧ _
    rw [hb]
    clear hb
    unfold HSt.v
    go_enter Try.func17, Try.ntmps17
    go_wp2_with fail
    go_ret
    exact ⟨rfl, kp_new _ _⟩
set_option maxHeartbeats 4000000 in
theorem servesHe_ok (s : HSt) (w : World) :
    Calls Try.prog 9 #[s.v] w fun e w' => e = .returned (.bool (s.i == 1)) ∧ Below w.heap.size w w' := by
  obtain ⟨i, c⟩ := s
  have HR := Lib.hid (isHe_ok ⟨i, c⟩ 1 (w.alloc (.cells #[.int .i64 i, .int .i64 c] 26)))
  show Calls _ _ _ _ fun e w' => e = .returned (.bool (i == 1)) ∧ _
  generalize hbo : (i == 1) = bo
  dsimp only at HR
  rw [hbo] at HR
  clear hbo
  unfold HSt.v at *
  dsimp only at *
  go_enter Try.func9, Try.ntmps9
  go_wp2_with fail
  refine HR.out.mono ?_
  rintro e w3 ⟨rfl, k3⟩
  have HK3 := Lib.hid (kp_trans (kp_new _ _) k3)
  clear k3 HR
  go_wp2_with fail
  go_ret
  exact ⟨rfl, HK3.out⟩
set_option maxHeartbeats 4000000 in
theorem offHe_ok (s : HSt) (w : World) :
    Calls Try.prog 10 #[s.v] w fun e w' => e = .returned (HSt.v ⟨4, 0⟩) ∧ Below w.heap.size w w' := by
  obtain ⟨i, c⟩ := s
  unfold HSt.v
  dsimp only
  go_enter Try.func10, Try.ntmps10
  go_wp2_with fail
  refine bodyPost_ret (v := HSt.v ⟨4, 0⟩) ?_ rfl ⟨rfl, ?_⟩
  · rw [results_cell1 rfl]
    unfold HSt.v
    go_simp
  · exact kp_alloc (kp_new _ _) _
theorem new2 (w : World) (x y : Obj) : ((w.alloc x).alloc y).heap[w.heap.size]? = some x := by
  refine ((kp_new (w.alloc x) y).block _ (by simp)).trans ?_
  exact heap_alloc_new w x
theorem new2' (w : World) (x y : Obj) : ((w.alloc x).alloc y).heap[w.heap.size + 1]? = some y := by
  have := heap_alloc_new (w.alloc x) y
  rwa [World.size_alloc] at this
set_option maxHeartbeats 4000000 in
theorem onHe_ok (s : HSt) (w : World) :
    Calls Try.prog 11 #[s.v] w fun e w' => e = .returned (onHe s).v ∧ Below w.heap.size w w' := by
  obtain ⟨i, c⟩ := s
  obtain ⟨w2, hw2⟩ : ∃ u, (w.alloc (.cells #[.int .i64 i, .int .i64 c] 26)).alloc (.cells #[.int .i64 0, .int .i64 0] 26) = u := ⟨_, rfl⟩
  have k2 : Below w.heap.size w w2 := hw2 ▸ kp_alloc (kp_new _ _) _
  have b1 : w2.heap[w.heap.size]? = some (.cells #[.int .i64 i, .int .i64 c] 26 (0, 0)) := hw2 ▸ new2 w _ _
  have b2 : w2.heap[w.heap.size + 1]? = some (.cells #[.int .i64 0, .int .i64 0] 26 (0, 0)) := hw2 ▸ new2' w _ _
  have hz2 : w.heap.size + 2 = w2.heap.size := by rw [← hw2]; simp
  have HR := Lib.hid (isHe_ok ⟨i, c⟩ 4 w2)
  have HW := Lib.hid hw2
  have HK := Lib.hid k2
  unfold onHe
  unfold HSt.v at HR
  dsimp only at *
  clear hw2 k2
  by_cases h : i = 4
  · subst h
    rw [if_pos rfl]
    unfold HSt.v
    go_enter Try.func11, Try.ntmps11
    go_wp2_with fail
    rw [HW.out]
    refine HR.out.mono ?_
    rintro e w3 ⟨rfl, k3⟩
    have HK3 := Lib.hid (HK.out.trans (k3.mono HK.out.size))
    obtain ⟨_, _⟩ := cellsAt ((k3.block _ (by omega)).trans b1) 0 (v := .int .i64 4) rfl
    obtain ⟨_, _⟩ := cellsAt ((k3.block _ (by omega)).trans b1) 1 (v := .int .i64 c) rfl
    obtain ⟨_, _⟩ := cellsAt ((k3.block _ (by omega)).trans b2) 0 (v := .int .i64 0) rfl
    obtain ⟨_, _⟩ := cellsAt ((k3.block _ (by omega)).trans b2) 1 (v := .int .i64 0) rfl
    clear HR HW HK b1 b2 k3 hz2
    go_wp2_with fail
    refine bodyPost_ret (v := HSt.v ⟨2, 0⟩) ?_ rfl ⟨rfl, ?_⟩
    · rw [results_cell1 rfl]
      unfold HSt.v
      go_simp
    · exact (HK3.out.setCell (Nat.le_succ _) _).setCell (Nat.le_succ _) _
  · rw [if_neg h]
    have e0 : (i == 4) = false := by simpa using h
    rw [e0] at HR
    clear h e0
    unfold HSt.v
    go_enter Try.func11, Try.ntmps11
    go_wp2_with fail
    rw [HW.out]
    refine HR.out.mono ?_
    rintro e w3 ⟨rfl, k3⟩
    have HK3 := Lib.hid (HK.out.trans (k3.mono HK.out.size))
    obtain ⟨_, _⟩ := cellsAt ((k3.block _ (by omega)).trans b1) 0 (v := .int .i64 i) rfl
    obtain ⟨_, _⟩ := cellsAt ((k3.block _ (by omega)).trans b1) 1 (v := .int .i64 c) rfl
    obtain ⟨_, _⟩ := cellsAt ((k3.block _ (by omega)).trans b2) 0 (v := .int .i64 0) rfl
    obtain ⟨_, _⟩ := cellsAt ((k3.block _ (by omega)).trans b2) 1 (v := .int .i64 0) rfl
    clear HR HW HK b1 b2 k3 hz2
    go_wp2_with fail
    refine bodyPost_ret (v := HSt.v ⟨i, c⟩) ?_ rfl ⟨rfl, ?_⟩
    · rw [results_cell1 rfl]
      unfold HSt.v
      go_simp
    · exact (HK3.out.setCell (Nat.le_succ _) _).setCell (Nat.le_succ _) _
/-- behind a probe that passes -/
def passedHe (q : Int) (s : HSt) : HSt := if s.i = 1 then ⟨1, 0⟩ else if s.i = 2 then (if q ≤ 1 then ⟨1, 0⟩ else ⟨3, 1⟩) else if s.i = 3 then (if q ≤ s.c + 1 then ⟨1, 0⟩ else ⟨3, s.c + 1⟩) else s
/-- behind one that doesn't -/
def failedHe (f : Int) (ok : Bool) (s : HSt) : HSt := if s.i = 1 then (if ok = false ∧ s.c + 1 < f then ⟨1, s.c + 1⟩ else ⟨2, 0⟩) else if s.i = 2 ∨ s.i = 3 then ⟨2, 0⟩ else s
theorem stepHe_pf (c : HCf) (s : HSt) (p : HPr) : stepHe c s p = if passHe c p = true then passedHe c.p s else failedHe c.f p.o s := by
  obtain ⟨i, n⟩ := s
  unfold stepHe passedHe failedHe
  dsimp only
  by_cases h : i < 1 ∨ 3 < i
  · rw [if_pos h]
    have e1 : ¬ i = 1 := by omega
    have e2 : ¬ i = 2 := by omega
    have e3 : ¬ i = 3 := by omega
    have e4 : ¬ (i = 2 ∨ i = 3) := by omega
    rw [if_neg e1, if_neg e2, if_neg e3, if_neg e1, if_neg e4]
    split <;> rfl
  rw [if_neg h]
  by_cases hp : passHe c p = true
  · rw [if_pos hp, if_pos hp]
    by_cases e1 : i = 1
    · rw [if_pos e1, if_pos e1]
    rw [if_neg e1, if_neg e1]
    by_cases e3 : i = 3
    · have e2 : ¬ i = 2 := by omega
      rw [if_pos e3, if_neg e2, if_pos e3]
    · have e2 : i = 2 := by omega
      rw [if_neg e3, if_pos e2]
  · rw [if_neg hp, if_neg hp]
    by_cases e1 : i = 1
    · rw [if_pos e1]
      by_cases h2 : p.o = false ∧ n + 1 < c.f
      · rw [if_pos ⟨e1, h2⟩, if_pos h2]
      · rw [if_neg (fun h => h2 h.2), if_neg h2]
    · have e2 : i = 2 ∨ i = 3 := by omega
      rw [if_neg e1, if_pos e2, if_neg (fun h => e1 h.1)]
set_option maxHeartbeats 8000000 in
theorem passedHe_ok (q : Int) (s : HSt) (w : World) (h0 : 0 ≤ s.c) (h1 : s.c ≤ 1000) :
    Calls Try.prog 18 #[s.v, .int .i64 q] w fun e w' => e = .returned (passedHe q s).v ∧ Below w.heap.size w w' := by
  obtain ⟨i, n⟩ := s
  dsimp only at h0 h1
  have hw : IntKind.i64.wrap (n + 1) = n + 1 := by rw [IntKind.wrap_i64]; omega
  clear h0 h1
  by_cases e1 : i = 1
  · subst e1
    clear hw
    have hs : passedHe q ⟨1, n⟩ = ⟨1, 0⟩ := by
      unfold passedHe; dsimp only; rw [if_pos rfl]
    rw [hs]
    clear hs
    unfold HSt.v
    go_enter Try.func18, Try.ntmps18
    go_wp2_with fail
    refine bodyPost_ret (v := HSt.v ⟨1, 0⟩) ?_ rfl ⟨rfl, kp_alloc (kp_new _ _) _⟩
    rw [results_cell1 rfl]
    unfold HSt.v
    go_simp
  by_cases e2 : i = 2
  · subst e2
    clear hw e1
    by_cases h : q ≤ 1
    · have h' : ¬ 1 < q := by omega
      have hs : passedHe q ⟨2, n⟩ = ⟨1, 0⟩ := by
        unfold passedHe; dsimp only; rw [if_neg (by decide), if_pos rfl, if_pos h]
      rw [hs]
      clear hs
      unfold HSt.v
      go_enter Try.func18, Try.ntmps18
      go_wp2_with fail
      refine bodyPost_ret (v := HSt.v ⟨1, 0⟩) ?_ rfl ⟨rfl, kp_alloc (kp_new _ _) _⟩
      rw [results_cell1 rfl]
      unfold HSt.v
      go_simp
    · have h' : 1 < q := by omega
      have hs : passedHe q ⟨2, n⟩ = ⟨3, 1⟩ := by
        unfold passedHe; dsimp only; rw [if_neg (by decide), if_pos rfl, if_neg h]
      rw [hs]
      clear hs
      unfold HSt.v
      go_enter Try.func18, Try.ntmps18
      go_wp2_with fail
      refine bodyPost_ret (v := HSt.v ⟨3, 1⟩) ?_ rfl ⟨rfl, kp_alloc (kp_new _ _) _⟩
      rw [results_cell1 rfl]
      unfold HSt.v
      go_simp
  by_cases e3 : i = 3
  · subst e3
    clear e1 e2
    by_cases h : q ≤ n + 1
    · have h' : ¬ n + 1 < q := by omega
      have hs : passedHe q ⟨3, n⟩ = ⟨1, 0⟩ := by
        unfold passedHe; dsimp only; rw [if_neg (by decide), if_neg (by decide), if_pos rfl, if_pos h]
      rw [hs]
      clear hs
      unfold HSt.v
      go_enter Try.func18, Try.ntmps18
      go_wp2_with fail
      refine bodyPost_ret (v := HSt.v ⟨1, 0⟩) ?_ rfl ⟨rfl, kp_alloc (kp_new _ _) _⟩
      rw [results_cell1 rfl]
      unfold HSt.v
      go_simp
    · have h' : n + 1 < q := by omega
      have hs : passedHe q ⟨3, n⟩ = ⟨3, n + 1⟩ := by
        unfold passedHe; dsimp only; rw [if_neg (by decide), if_neg (by decide), if_pos rfl, if_neg h]
      rw [hs]
      clear hs
      unfold HSt.v
      go_enter Try.func18, Try.ntmps18
      go_wp2_with fail
      refine bodyPost_ret (v := HSt.v ⟨3, n + 1⟩) ?_ rfl ⟨rfl, kp_alloc (kp_new _ _) _⟩
      rw [results_cell1 rfl]
      unfold HSt.v
      go_simp
  clear hw
  have hs : passedHe q ⟨i, n⟩ = ⟨i, n⟩ := by
    unfold passedHe; dsimp only; rw [if_neg e1, if_neg e2, if_neg e3]
  rw [hs]
  clear hs
  unfold HSt.v
  go_enter Try.func18, Try.ntmps18
  go_wp2_with fail
  refine bodyPost_ret (v := HSt.v ⟨i, n⟩) ?_ rfl ⟨rfl, kp_alloc (kp_new _ _) _⟩
  rw [results_cell1 rfl]
  unfold HSt.v
  go_simp
set_option maxHeartbeats 8000000 in
theorem failedHe_ok (f : Int) (ok : Bool) (s : HSt) (w : World) (h0 : 0 ≤ s.c) (h1 : s.c ≤ 1000) :
    Calls Try.prog 19 #[s.v, .int .i64 f, .bool ok] w fun e w' => e = .returned (failedHe f ok s).v ∧ Below w.heap.size w w' := by
  obtain ⟨i, n⟩ := s
  dsimp only at h0 h1
  have hw : IntKind.i64.wrap (n + 1) = n + 1 := by rw [IntKind.wrap_i64]; omega
  clear h0 h1
  by_cases e1 : i = 1
  · subst e1
    cases ok with
    | true =>
      have hs : failedHe f true ⟨1, n⟩ = ⟨2, 0⟩ := by
        unfold failedHe; dsimp only; rw [if_pos rfl, if_neg (by simp)]
      rw [hs]
      clear hs
      unfold HSt.v
      go_enter Try.func19, Try.ntmps19
      go_wp2_with fail
      refine bodyPost_ret (v := HSt.v ⟨2, 0⟩) ?_ rfl ⟨rfl, kp_alloc (kp_new _ _) _⟩
      rw [results_cell1 rfl]
      unfold HSt.v
      go_simp
    | false =>
      by_cases h : n + 1 < f
      · have h' : True := trivial
        have hs : failedHe f false ⟨1, n⟩ = ⟨1, n + 1⟩ := by
          unfold failedHe; dsimp only; rw [if_pos rfl, if_pos ⟨rfl, h⟩]
        rw [hs]
        clear hs
        unfold HSt.v
        go_enter Try.func19, Try.ntmps19
        go_wp2_with fail
        refine bodyPost_ret (v := HSt.v ⟨1, n + 1⟩) ?_ rfl ⟨rfl, kp_alloc (kp_new _ _) _⟩
        rw [results_cell1 rfl]
        unfold HSt.v
        go_simp
      · have h' : True := trivial
        have hs : failedHe f false ⟨1, n⟩ = ⟨2, 0⟩ := by
          unfold failedHe; dsimp only; rw [if_pos rfl, if_neg (fun x => h x.2)]
        rw [hs]
        clear hs
        unfold HSt.v
        go_enter Try.func19, Try.ntmps19
        go_wp2_with fail
        refine bodyPost_ret (v := HSt.v ⟨2, 0⟩) ?_ rfl ⟨rfl, kp_alloc (kp_new _ _) _⟩
        rw [results_cell1 rfl]
        unfold HSt.v
        go_simp
  by_cases e2 : i = 2
  · subst e2
    clear hw e1
    have hs : failedHe f ok ⟨2, n⟩ = ⟨2, 0⟩ := by
      unfold failedHe; dsimp only; rw [if_neg (by decide), if_pos (.inl rfl)]
    rw [hs]
    clear hs
    unfold HSt.v
    go_enter Try.func19, Try.ntmps19
    go_wp2_with fail
    refine bodyPost_ret (v := HSt.v ⟨2, 0⟩) ?_ rfl ⟨rfl, kp_alloc (kp_new _ _) _⟩
    rw [results_cell1 rfl]
    unfold HSt.v
    go_simp
  by_cases e3 : i = 3
  · subst e3
    clear hw e1 e2
    have hs : failedHe f ok ⟨3, n⟩ = ⟨2, 0⟩ := by
      unfold failedHe; dsimp only; rw [if_neg (by decide), if_pos (.inr rfl)]
    rw [hs]
    clear hs
    unfold HSt.v
    go_enter Try.func19, Try.ntmps19
    go_wp2_with fail
    refine bodyPost_ret (v := HSt.v ⟨2, 0⟩) ?_ rfl ⟨rfl, kp_alloc (kp_new _ _) _⟩
    rw [results_cell1 rfl]
    unfold HSt.v
    go_simp
  clear hw
  have hs : failedHe f ok ⟨i, n⟩ = ⟨i, n⟩ := by
    unfold failedHe; dsimp only; rw [if_neg e1, if_neg (fun h => h.elim e2 e3)]
  rw [hs]
  clear hs
  unfold HSt.v
  go_enter Try.func19, Try.ntmps19
  go_wp2_with fail
  refine bodyPost_ret (v := HSt.v ⟨i, n⟩) ?_ rfl ⟨rfl, kp_alloc (kp_new _ _) _⟩
  rw [results_cell1 rfl]
  unfold HSt.v
  go_simp
set_option maxHeartbeats 8000000 in
theorem rightHe_ok (c : HCf) (w : World) :
    Calls Try.prog 7 #[c.v] w fun e w' => e = .returned (.bool (rightHe c)) ∧ Below w.heap.size w w' := by
  obtain ⟨f, q, l⟩ := c
  obtain ⟨w2, hw2⟩ : ∃ u, w.alloc (.cells #[.int .i64 f, .int .i64 q, .int .u64 l] 24) = u := ⟨_, rfl⟩
  have HK : Hid (Below w.heap.size w w2) := Lib.hid (hw2 ▸ kp_new _ _)
  have b1 : w2.heap[w.heap.size]? = some (.cells #[.int .i64 f, .int .i64 q, .int .u64 l] 24 (0, 0)) := hw2 ▸ heap_alloc_new w _
  have HZ0 : Hid (w.heap.size < w2.heap.size) := Lib.hid (by rw [← hw2]; simp)
  have HW := Lib.hid hw2
  clear hw2
  by_cases a1 : 1 ≤ f ∧ f ≤ 1000
  rotate_left
  · have hr : rightHe ⟨f, q, l⟩ = false := decide_eq_false (fun h => a1 ⟨h.1, h.2.1⟩)
    rw [hr]
    have hm0 : decide (1 ≤ f ∧ f ≤ 1000) = false := decide_eq_false a1
    clear hr a1
    unfold HCf.v
    go_enter Try.func7, Try.ntmps7
    go_wp2_with fail
    rw [HW.out]
    refine (mayRow_ok _ _).mono ?_
    rintro e w3 ⟨he0, k3⟩
    rw [hm0] at he0
    subst he0
    have HK3 := Lib.hid (HK.out.trans (k3.mono HK.out.size))
    have d3 := (k3.block _ (HZ0.out)).trans b1
    have HZ1 : Hid (w.heap.size < w3.heap.size) := Lib.hid (Nat.lt_of_lt_of_le HZ0.out k3.size)
    obtain ⟨_, _⟩ := cellsAt d3 0 (v := .int .i64 f) rfl
    obtain ⟨_, _⟩ := cellsAt d3 1 (v := .int .i64 q) rfl
    obtain ⟨_, _⟩ := cellsAt d3 2 (v := .int .u64 l) rfl
    clear k3 b1
    have D3 := Lib.hid d3
    clear d3
    go_wp2_with fail
    go_ret
    exact ⟨rfl, HK3.out⟩
  have hm0 : decide (1 ≤ f ∧ f ≤ 1000) = true := decide_eq_true a1
  by_cases a2 : 1 ≤ q ∧ q ≤ 1000
  rotate_left
  · have hr : rightHe ⟨f, q, l⟩ = false := decide_eq_false (fun h => a2 ⟨h.2.2.1, h.2.2.2.1⟩)
    rw [hr]
    have hm1 : decide (1 ≤ q ∧ q ≤ 1000) = false := decide_eq_false a2
    clear hr a1 a2
    unfold HCf.v
    go_enter Try.func7, Try.ntmps7
    go_wp2_with fail
    rw [HW.out]
    refine (mayRow_ok _ _).mono ?_
    rintro e w3 ⟨he0, k3⟩
    rw [hm0] at he0
    subst he0
    have HK3 := Lib.hid (HK.out.trans (k3.mono HK.out.size))
    have d3 := (k3.block _ (HZ0.out)).trans b1
    have HZ1 : Hid (w.heap.size < w3.heap.size) := Lib.hid (Nat.lt_of_lt_of_le HZ0.out k3.size)
    obtain ⟨_, _⟩ := cellsAt d3 0 (v := .int .i64 f) rfl
    obtain ⟨_, _⟩ := cellsAt d3 1 (v := .int .i64 q) rfl
    obtain ⟨_, _⟩ := cellsAt d3 2 (v := .int .u64 l) rfl
    clear k3 b1
    have D3 := Lib.hid d3
    clear d3
    go_wp2_with fail
    refine (mayRow_ok _ _).mono ?_
    rintro e w4 ⟨he1, k4⟩
    rw [hm1] at he1
    subst he1
    have HK4 := Lib.hid (HK3.out.trans (k4.mono HK3.out.size))
    have d4 := (k4.block _ (HZ1.out)).trans D3.out
    have HZ2 : Hid (w.heap.size < w4.heap.size) := Lib.hid (Nat.lt_of_lt_of_le HZ1.out k4.size)
    obtain ⟨_, _⟩ := cellsAt d4 0 (v := .int .i64 f) rfl
    obtain ⟨_, _⟩ := cellsAt d4 1 (v := .int .i64 q) rfl
    obtain ⟨_, _⟩ := cellsAt d4 2 (v := .int .u64 l) rfl
    clear k4
    have D4 := Lib.hid d4
    clear d4
    go_wp2_with fail
    go_ret
    exact ⟨rfl, HK4.out⟩
  have hm1 : decide (1 ≤ q ∧ q ≤ 1000) = true := decide_eq_true a2
  have hr : rightHe ⟨f, q, l⟩ = decide (l ≤ 1000) := decide_eq_decide.2 ⟨fun h => h.2.2.2.2, fun h => ⟨a1.1, a1.2, a2.1, a2.2, h⟩⟩
  rw [hr]
  clear hr a1 a2
  unfold HCf.v
  go_enter Try.func7, Try.ntmps7
  go_wp2_with fail
  rw [HW.out]
  refine (mayRow_ok _ _).mono ?_
  rintro e w3 ⟨he0, k3⟩
  rw [hm0] at he0
  subst he0
  have HK3 := Lib.hid (HK.out.trans (k3.mono HK.out.size))
  have d3 := (k3.block _ (HZ0.out)).trans b1
  have HZ1 : Hid (w.heap.size < w3.heap.size) := Lib.hid (Nat.lt_of_lt_of_le HZ0.out k3.size)
  obtain ⟨_, _⟩ := cellsAt d3 0 (v := .int .i64 f) rfl
  obtain ⟨_, _⟩ := cellsAt d3 1 (v := .int .i64 q) rfl
  obtain ⟨_, _⟩ := cellsAt d3 2 (v := .int .u64 l) rfl
  clear k3 b1
  have D3 := Lib.hid d3
  clear d3
  go_wp2_with fail
  refine (mayRow_ok _ _).mono ?_
  rintro e w4 ⟨he1, k4⟩
  rw [hm1] at he1
  subst he1
  have HK4 := Lib.hid (HK3.out.trans (k4.mono HK3.out.size))
  have d4 := (k4.block _ (HZ1.out)).trans D3.out
  have HZ2 : Hid (w.heap.size < w4.heap.size) := Lib.hid (Nat.lt_of_lt_of_le HZ1.out k4.size)
  obtain ⟨_, _⟩ := cellsAt d4 0 (v := .int .i64 f) rfl
  obtain ⟨_, _⟩ := cellsAt d4 1 (v := .int .i64 q) rfl
  obtain ⟨_, _⟩ := cellsAt d4 2 (v := .int .u64 l) rfl
  clear k4
  have D4 := Lib.hid d4
  clear d4
  go_wp2_with fail
  go_ret
  exact ⟨rfl, HK4.out⟩
theorem new4 (w : World) (x y z u : Obj) : ((((w.alloc x).alloc y).alloc z).alloc u).heap[w.heap.size + 3]? = some u := by
  have := heap_alloc_new (((w.alloc x).alloc y).alloc z) u
  rwa [World.size_alloc, World.size_alloc, World.size_alloc] at this
set_option maxHeartbeats 8000000 in
theorem stepHe_ok (c : HCf) (s : HSt) (p : HPr) (w : World) (h0 : 0 ≤ s.c) (h1 : s.c ≤ 1000) :
    Calls Try.prog 14 #[c.v, s.v, p.v] w fun e w' => e = .returned (stepHe c s p).v ∧ Below w.heap.size w w' := by
  rw [stepHe_pf]
  obtain ⟨f, q, l⟩ := c
  obtain ⟨ok, g⟩ := p
  obtain ⟨w2, hw2⟩ : ∃ u, (((w.alloc (.cells #[.int .i64 f, .int .i64 q, .int .u64 l] 24)).alloc (.cells #[.int .i64 s.i, .int .i64 s.c] 26)).alloc (.cells #[.bool ok, .int .u64 g] 28)).alloc (.cells #[.int .i64 0, .int .i64 0] 26) = u := ⟨_, rfl⟩
  have HK : Hid (Below w.heap.size w w2) := Lib.hid (hw2 ▸ kp_alloc (kp_alloc (kp_alloc (kp_new _ _) _) _) _)
  have b4 : w2.heap[w.heap.size + 3]? = some (.cells #[.int .i64 0, .int .i64 0] 26 (0, 0)) := hw2 ▸ new4 w _ _ _ _
  have HZ : Hid (w.heap.size + 3 < w2.heap.size) := Lib.hid (by rw [← hw2]; simp)
  have HW := Lib.hid hw2
  clear hw2
  by_cases hp : ok = true ∧ g ≤ l
  · obtain ⟨rfl, hg⟩ := hp
    rw [if_pos (show passHe ⟨f, q, l⟩ ⟨true, g⟩ = true from by unfold passHe; simpa using hg)]
    have HR := Lib.hid (passedHe_ok q s w2 h0 h1)
    show Calls _ _ _ _ fun e w' => e = .returned (passedHe q s).v ∧ _
    generalize passedHe q s = r at *
    obtain ⟨x, y⟩ := r
    obtain ⟨i, n⟩ := s
    unfold HCf.v HPr.v
    unfold HSt.v at *
    dsimp only at *
    clear h0 h1
    go_enter Try.func14, Try.ntmps14
    go_wp2_with fail
    rw [HW.out]
    refine HR.out.mono ?_
    rintro e w3 ⟨rfl, k3⟩
    have HK3 := Lib.hid (HK.out.trans (k3.mono HK.out.size))
    obtain ⟨_, _⟩ := cellsAt ((k3.block _ HZ.out).trans b4) 0 (v := .int .i64 0) rfl
    obtain ⟨_, _⟩ := cellsAt ((k3.block _ HZ.out).trans b4) 1 (v := .int .i64 0) rfl
    clear HR HW HK HZ b4 k3
    go_wp2_with fail
    refine bodyPost_ret (v := HSt.v ⟨x, y⟩) ?_ rfl ⟨rfl, ?_⟩
    · rw [results_cell1 rfl]
      unfold HSt.v
      go_simp
    · exact (HK3.out.setCell (Nat.le_add_right _ 3) _).setCell (Nat.le_add_right _ 3) _
  · rw [if_neg (show ¬ passHe ⟨f, q, l⟩ ⟨ok, g⟩ = true from by unfold passHe; simpa using hp)]
    have HR := Lib.hid (failedHe_ok f ok s w2 h0 h1)
    show Calls _ _ _ _ fun e w' => e = .returned (failedHe f ok s).v ∧ _
    generalize failedHe f ok s = r at *
    obtain ⟨x, y⟩ := r
    obtain ⟨i, n⟩ := s
    unfold HCf.v HPr.v
    unfold HSt.v at *
    dsimp only at *
    clear h0 h1
    cases ok with
    | true =>
      have hg : ¬ g ≤ l := fun h => hp ⟨rfl, h⟩
      clear hp
      go_enter Try.func14, Try.ntmps14
      go_wp2_with fail
      rw [HW.out]
      refine HR.out.mono ?_
      rintro e w3 ⟨rfl, k3⟩
      have HK3 := Lib.hid (HK.out.trans (k3.mono HK.out.size))
      obtain ⟨_, _⟩ := cellsAt ((k3.block _ HZ.out).trans b4) 0 (v := .int .i64 0) rfl
      obtain ⟨_, _⟩ := cellsAt ((k3.block _ HZ.out).trans b4) 1 (v := .int .i64 0) rfl
      clear HR HW HK HZ b4 k3
      go_wp2_with fail
      refine bodyPost_ret (v := HSt.v ⟨x, y⟩) ?_ rfl ⟨rfl, ?_⟩
      · rw [results_cell1 rfl]
        unfold HSt.v
        go_simp
      · exact (HK3.out.setCell (Nat.le_add_right _ 3) _).setCell (Nat.le_add_right _ 3) _
    | false =>
      clear hp
      go_enter Try.func14, Try.ntmps14
      go_wp2_with fail
      rw [HW.out]
      refine HR.out.mono ?_
      rintro e w3 ⟨rfl, k3⟩
      have HK3 := Lib.hid (HK.out.trans (k3.mono HK.out.size))
      obtain ⟨_, _⟩ := cellsAt ((k3.block _ HZ.out).trans b4) 0 (v := .int .i64 0) rfl
      obtain ⟨_, _⟩ := cellsAt ((k3.block _ HZ.out).trans b4) 1 (v := .int .i64 0) rfl
      clear HR HW HK HZ b4 k3
      go_wp2_with fail
      refine bodyPost_ret (v := HSt.v ⟨x, y⟩) ?_ rfl ⟨rfl, ?_⟩
      · rw [results_cell1 rfl]
        unfold HSt.v
        go_simp
      · exact (HK3.out.setCell (Nat.le_add_right _ 3) _).setCell (Nat.le_add_right _ 3) _
theorem healthc_ok : HealthC where
  right := rightHe_ok
  serves := servesHe_ok
  off := offHe_ok
  on := onHe_ok
  step := fun c s p w _ h0 h1 => stepHe_ok c s p w h0 h1
end Go.Proofs.Ytbhgoeofcapckaa
