/-
  The document's layer 9: a connection in memory: contracts.
-/
import Derived.Test.YtnaefikajmgmdaaCoB
namespace Go.Proofs.Ytnaefikajmgmdaa
open Go.RowKit
set_option maxRecDepth 100000

/-- a connection of the document's, as it lies -/
def rcells (ep s o f : Int) (d : Bool) (n : Int) : Array Value := #[.int .u64 ep, .int .i64 s, .int .i64 o, .int .u64 f, .bool d, .int .i64 n]
def RCp (b : Nat) (ep : Int) (c : Cn) (S : Nat → Prop) (w : World) : Prop :=
  w.heap[b]? = some (.cells (rcells ep c.s c.o c.f c.d c.n) 38 (0, 0)) ∧ S b ∧ (∀ k, S k → k < w.heap.size) ∧ c.ok
def RC (b : Nat) (ep : Int) (c : Cn) : Thing where
  p := RCp b ep c
  keep := fun ⟨h1, h2, h3, h4⟩ hk hz => ⟨(hk b h2).trans h1, h2, fun k h => Nat.lt_of_lt_of_le (h3 k h) hz, h4⟩
  lt := fun ⟨_, _, h3, _⟩ => h3
section
variable {b : Nat} {ep : Int} {c : Cn} {S : Nat → Prop} {w : World}
theorem RC.at_ (h : (RC b ep c).p S w) : w.heap[b]? = some (.cells (rcells ep c.s c.o c.f c.d c.n) 38 (0, 0)) ∧ S b ∧ (∀ k, S k → k < w.heap.size) ∧ c.ok := h
theorem RC.turn {w' : World} {c' : Cn} (h : (RC b ep c).p S w) (hb : w'.heap[b]? = some (.cells (rcells ep c'.s c'.o c'.f c'.d c'.n) 38 (0, 0))) (ho : Off S w w') (hc : c'.ok) : Turn (RC b ep c') S w w' := by
  obtain ⟨_, h2, h3, _⟩ := RC.at_ h
  exact ⟨⟨S, ⟨hb, h2, fun k hk => Nat.lt_of_lt_of_le (h3 k hk) ho.size, hc⟩, fun k hk => .inl hk⟩, ho⟩
theorem rset {cs cs' : Array Value} {t : TypeId} (hb : w.heap[b]? = some (.cells cs t (0, 0))) (i : Nat) (v : Value) (hc : cs.setIfInBounds i v = cs') : (w.setCell ⟨b, i, none⟩ v).heap[b]? = some (.cells cs' t (0, 0)) := by
  rw [← hc]
  exact heap_setCell_same w b i _ _ _ hb
theorem Off.setr {S : Nat → Prop} {w w' : World} {b : Nat} (h : Off S w w') (hb : S b) (i : Nat) (u : Value) : Off S w (w'.setCell ⟨b, i, none⟩ u) := h.setCell (p := ⟨b, i, none⟩) (.inl hb) u
theorem rcell {s o f n : Int} {d : Bool} (h : w.heap[b]? = some (.cells (rcells ep s o f d n) 38 (0, 0))) :
    (w.cell? ⟨b, 0, none⟩ = some (.int .u64 ep) ∧ w.cell? ⟨b, 1, none⟩ = some (.int .i64 s) ∧ w.cell? ⟨b, 2, none⟩ = some (.int .i64 o) ∧ w.cell? ⟨b, 3, none⟩ = some (.int .u64 f) ∧ w.cell? ⟨b, 4, none⟩ = some (.bool d) ∧ w.cell? ⟨b, 5, none⟩ = some (.int .i64 n)) ∧
    w.frozen? ⟨b, 1, none⟩ = false ∧ w.frozen? ⟨b, 2, none⟩ = false ∧ w.frozen? ⟨b, 3, none⟩ = false ∧ w.frozen? ⟨b, 4, none⟩ = false ∧ w.frozen? ⟨b, 5, none⟩ = false :=
  ⟨⟨(cellsAt h 0 rfl).1, (cellsAt h 1 rfl).1, (cellsAt h 2 rfl).1, (cellsAt h 3 rfl).1, (cellsAt h 4 rfl).1, (cellsAt h 5 rfl).1⟩, (cellsAt h 1 rfl).2, (cellsAt h 2 rfl).2, (cellsAt h 3 rfl).2, (cellsAt h 4 rfl).2, (cellsAt h 5 rfl).2⟩

theorem rnew9_ok (ep : Int) (w : World) :
    Calls Try.prog 8 #[.int .u64 ep] w fun e w' => e = .returned (.pointer (some ⟨w.heap.size, 0, none⟩)) ∧ (RC w.heap.size ep (.idle false 0)).p (fun k => k = w.heap.size) w' ∧ Below w.heap.size w w' := by
  go_enter Try.func8, Try.ntmps8
  go_wp2_with fail
  go_ret
  exact ⟨rfl, ⟨heap_alloc_new w _, rfl, fun k hk => by subst hk; simp, trivial⟩, kp_new w _⟩

theorem rshut_ok {s o f n : Int} {d : Bool} (h : w.heap[b]? = some (.cells (rcells ep s o f d n) 38 (0, 0))) :
    Calls Try.prog 39 #[.pointer (some ⟨b, 0, none⟩)] w fun e w' => e = .returned (.tuple #[]) ∧ w'.heap[b]? = some (.cells (rcells ep 4 0 0 d n) 38 (0, 0)) ∧ Off (fun k => k = b) w w' := by
  obtain ⟨⟨_, c1, c2, c3, _, _⟩, f1, f2, f3, _, _⟩ := rcell h
  have H : Hid ((((w.setCell ⟨b, 1, none⟩ (.int .i64 4)).setCell ⟨b, 2, none⟩ (.int .i64 0)).setCell ⟨b, 3, none⟩ (.int .u64 0)).heap[b]? = some (.cells (rcells ep 4 0 0 d n) 38 (0, 0)) ∧ Off (fun k => k = b) w (((w.setCell ⟨b, 1, none⟩ (.int .i64 4)).setCell ⟨b, 2, none⟩ (.int .i64 0)).setCell ⟨b, 3, none⟩ (.int .u64 0))) :=
    Lib.hid ⟨rset (rset (rset h 1 _ rfl) 2 _ rfl) 3 _ rfl, (((Off.refl (fun k => k = b) w).setr rfl 1 _).setr rfl 2 _).setr rfl 3 _⟩
  clear h
  go_enter Try.func39, Try.ntmps39
  go_wp2_with fail
  go_end0
  exact ⟨rfl, H.out⟩

theorem rlend_ok (x : Int) (h : (RC b ep c).p S w) :
    Calls Try.prog 23 #[.pointer (some ⟨b, 0, none⟩), .int .i64 x] w fun e w' => e = .returned (.bool (c.lendA x)) ∧ Turn (RC b ep (c.lendC x)) S w w' := by
  have H := Lib.hid h
  obtain ⟨hb, hS, _, hok⟩ := RC.at_ h
  clear h
  cases c with
  | idle d n =>
    obtain ⟨⟨_, c1, c2, c3, _, _⟩, f1, f2, f3, _, _⟩ := rcell hb
    dsimp only [Cn.s, Cn.o, Cn.f, Cn.d, Cn.n] at c1 c2 c3
    by_cases hx : 1 ≤ x
    · have hA : Cn.lendA x (.idle d n) = true := by simpa [Cn.lendA] using hx
      have hC : Cn.lendC x (.idle d n) = .lent x 0 d n := by simp [Cn.lendC, hx]
      have HT : Hid (Turn (RC b ep (.lent x 0 d n)) S w ((w.setCell ⟨b, 1, none⟩ (.int .i64 2)).setCell ⟨b, 2, none⟩ (.int .i64 x))) := Lib.hid (RC.turn H.out (rset (rset hb 1 _ rfl) 2 _ rfl) (((Off.refl _ _).setr hS 1 _).setr hS 2 _) hx)
      rw [hA, hC]
      have hx1 : ¬ x < 1 := by omega
      clear hb hok H hA hC hx
      go_enter Try.func23, Try.ntmps23
      go_wp2_with fail
      go_ret
      exact ⟨rfl, HT.out⟩
    · have hA : Cn.lendA x (.idle d n) = false := by simp [Cn.lendA]; omega
      have hC : Cn.lendC x (.idle d n) = .idle d n := by simp [Cn.lendC, hx]
      rw [hA, hC]
      have hx1 : x < 1 := by omega
      clear hb hok hA hC hx
      go_enter Try.func23, Try.ntmps23
      go_wp2_with fail
      go_ret
      exact ⟨rfl, Turn.here H.out⟩
  | lent o f d n | drains o f d n | closed d n =>
    obtain ⟨⟨_, c1, c2, c3, _, _⟩, f1, f2, f3, _, _⟩ := rcell hb
    dsimp only [Cn.s, Cn.o, Cn.f, Cn.d, Cn.n] at c1 c2 c3
    clear hb hok
    go_enter Try.func23, Try.ntmps23
    go_wp2_with fail
    go_ret
    exact ⟨rfl, Turn.here H.out⟩

set_option maxHeartbeats 1000000 in
theorem rsend_ok (y : Int) (h : (RC b ep c).p S w) :
    Calls Try.prog 24 #[.pointer (some ⟨b, 0, none⟩), .int .u64 y] w fun e w' => e = .returned (.int .i64 (c.sendA y)) ∧ Turn (RC b ep (c.sendC y)) S w w' := by
  have H := Lib.hid h
  obtain ⟨hb, hS, _, hok⟩ := RC.at_ h
  clear h
  by_cases hy : y = 0
  · have hA : c.sendA y = 1 := by cases c <;> simp [Cn.sendA, hy]
    have hC : c.sendC y = c := by cases c <;> simp [Cn.sendC, hy]
    have hy1 : (y == 0) = true := by simpa using hy
    rw [hA, hC]
    clear hb hok hA hC hy
    go_enter Try.func24, Try.ntmps24
    go_wp2_with fail
    go_ret
    exact ⟨rfl, Turn.here H.out⟩
  · have hy1 : (y == 0) = false := by simpa using hy
    cases c with
    | idle d n | drains o f d n | closed d n =>
      obtain ⟨⟨_, c1, c2, c3, _, _⟩, f1, f2, f3, _, _⟩ := rcell hb
      dsimp only [Cn.s, Cn.o, Cn.f, Cn.d, Cn.n] at c1 c2 c3
      simp only [Cn.sendA, if_neg hy]
      clear hb hok hy
      go_enter Try.func24, Try.ntmps24
      go_wp2_with fail
      go_ret
      exact ⟨rfl, Turn.here H.out⟩
    | lent o f d n =>
      obtain ⟨⟨_, c1, c2, c3, _, c5⟩, f1, f2, f3, _, f5⟩ := rcell hb
      dsimp only [Cn.s, Cn.o, Cn.f, Cn.d, Cn.n] at c1 c2 c3 c5
      by_cases hf : f = 0
      · have hA : Cn.sendA y (.lent o f d n) = 0 := by simp [Cn.sendA, hy, hf]
        have hC : Cn.sendC y (.lent o f d n) = .lent o y d (IntKind.i64.wrap (n + 1)) := by simp [Cn.sendC, hy, hf]
        have hf1 : (f == 0) = true := by simpa using hf
        have HT : Hid (Turn (RC b ep (.lent o y d (IntKind.i64.wrap (n + 1)))) S w ((w.setCell ⟨b, 3, none⟩ (.int .u64 y)).setCell ⟨b, 5, none⟩ (.int .i64 (IntKind.i64.wrap (n + 1))))) := Lib.hid (RC.turn H.out (rset (rset hb 3 _ rfl) 5 _ rfl) (((Off.refl _ _).setr hS 3 _).setr hS 5 _) hok)
        rw [hA, hC]
        generalize hm : IntKind.i64.wrap (n + 1) = m at *
        clear hb hok H hA hC hf hy
        go_enter Try.func24, Try.ntmps24
        go_wp2_with fail
        go_ret
        exact ⟨rfl, HT.out⟩
      · have hA : Cn.sendA y (.lent o f d n) = 7 := by simp [Cn.sendA, hy, hf]
        have hC : Cn.sendC y (.lent o f d n) = .lent o f d n := by simp [Cn.sendC, hf]
        have hf1 : (f == 0) = false := by simpa using hf
        rw [hA, hC]
        clear hb hok hA hC hf hy
        go_enter Try.func24, Try.ntmps24
        go_wp2_with fail
        go_ret
        exact ⟨rfl, Turn.here H.out⟩

set_option maxHeartbeats 1000000 in
theorem rreply_ok (y : Int) (h : (RC b ep c).p S w) :
    Calls Try.prog 25 #[.pointer (some ⟨b, 0, none⟩), .int .u64 y] w fun e w' => e = .returned (.bool (c.replyA y)) ∧ Turn (RC b ep (c.replyC y)) S w w' := by
  have H := Lib.hid h
  obtain ⟨hb, hS, _, hok⟩ := RC.at_ h
  obtain ⟨⟨_, c1, c2, c3, c4, c5⟩, f1, f2, f3, _, _⟩ := rcell hb
  clear h
  by_cases hy : y = 0
  · have hA : c.replyA y = false := by simp [Cn.replyA, hy]
    have hC : c.replyC y = c := by cases c <;> simp [Cn.replyC, hy]
    have hy1 : (y == 0) = true := by simpa using hy
    rw [hA, hC]
    clear hb hok hA hC hy
    go_enter Try.func25, Try.ntmps25
    go_wp2_with fail
    go_ret
    exact ⟨rfl, Turn.here H.out⟩
  · have hy1 : (y == 0) = false := by simpa using hy
    by_cases hf : c.f = y
    · have hA : c.replyA y = true := by simp [Cn.replyA, hy, hf]
      have hf1 : (c.f == y) = true := by simpa using hf
      rw [hA]
      cases c with
      | idle d n => exact absurd hf.symm hy
      | closed d n => exact absurd hf.symm hy
      | lent o f d n =>
        have hf' : f = y := hf
        have hC : Cn.replyC y (.lent o f d n) = .lent o 0 d n := by simp [Cn.replyC, hy, hf']
        rw [hC]
        dsimp only [Cn.s, Cn.o, Cn.f, Cn.d, Cn.n] at c1 c2 c3 hf1
        have HT : Hid (Turn (RC b ep (.lent o 0 d n)) S w (w.setCell ⟨b, 3, none⟩ (.int .u64 0))) := Lib.hid (RC.turn H.out (rset hb 3 _ rfl) ((Off.refl _ _).setr hS 3 _) hok)
        clear hb hok hA hC hy hf hf' H c4 c5
        go_enter Try.func25, Try.ntmps25
        go_wp2_with fail
        go_ret
        exact ⟨rfl, HT.out⟩
      | drains o f d n =>
        have hf' : f = y := hf
        have hC : Cn.replyC y (.drains o f d n) = .closed d n := by simp [Cn.replyC, hy, hf']
        rw [hC]
        dsimp only [Cn.s, Cn.o, Cn.f, Cn.d, Cn.n] at c1 c2 c3 hf1
        have HT : Hid (∀ u, u.heap[b]? = some (.cells (rcells ep 4 0 0 d n) 38 (0, 0)) → Off (fun k => k = b) (w.setCell ⟨b, 3, none⟩ (.int .u64 0)) u → Turn (RC b ep (.closed d n)) S w u) := Lib.hid fun u h1 h2 => RC.turn (c' := .closed d n) H.out h1 (((Off.refl S w).setr hS 3 _).trans (h2.wide (T := S) (fun k e => e ▸ hS)) fun _ h => .inl h) trivial
        have H1 := Lib.hid (rshut_ok (rset hb 3 (.int .u64 0) (cs' := rcells ep 3 o 0 d n) rfl))
        clear hb hok hA hC hy hf hf' H c4 c5
        go_enter Try.func25, Try.ntmps25
        go_wp2_with fail
        refine H1.out.mono ?_
        rintro e w1 ⟨rfl, h1, h2⟩
        have HX := HT.out w1 h1 h2
        clear HT h1 h2
        go_wp2_with fail
        go_ret
        exact ⟨rfl, HX⟩
    · have hA : c.replyA y = false := by simp [Cn.replyA, hf]
      have hC : c.replyC y = c := by
        cases c <;> simp only [Cn.replyC]
        · exact if_neg (fun h => hf h.2)
        · exact if_neg (fun h => hf h.2)
      have hf1 : (c.f == y) = false := by simpa using hf
      rw [hA, hC]
      clear hb hok hA hC hy hf c1 c2 c4 c5
      generalize c.f = f at *
      go_enter Try.func25, Try.ntmps25
      go_wp2_with fail
      go_ret
      exact ⟨rfl, Turn.here H.out⟩

theorem rsoil_ok (h : (RC b ep c).p S w) :
    Calls Try.prog 26 #[.pointer (some ⟨b, 0, none⟩)] w fun e w' => e = .returned (.bool c.soilA) ∧ Turn (RC b ep c.soilC) S w w' := by
  have H := Lib.hid h
  obtain ⟨hb, hS, _, hok⟩ := RC.at_ h
  obtain ⟨⟨_, c1, _, _, c4, _⟩, f1, f2, f3, f4, _⟩ := rcell hb
  clear h
  cases c with
  | lent o f d n =>
    dsimp only [Cn.s, Cn.o, Cn.f, Cn.d, Cn.n] at c1 c4
    have HT : Hid (Turn (RC b ep (.lent o f true n)) S w (w.setCell ⟨b, 4, none⟩ (.bool true))) := Lib.hid (RC.turn H.out (rset hb 4 _ rfl) ((Off.refl S w).setr hS 4 _) hok)
    clear hb hok H
    go_enter Try.func26, Try.ntmps26
    go_wp2_with fail
    go_ret
    exact ⟨rfl, HT.out⟩
  | idle d n | drains o f d n | closed d n =>
    dsimp only [Cn.s, Cn.o, Cn.f, Cn.d, Cn.n] at c1 c4
    clear hb hok
    go_enter Try.func26, Try.ntmps26
    go_wp2_with fail
    go_ret
    exact ⟨rfl, Turn.here H.out⟩

set_option maxHeartbeats 1000000 in
theorem rrelease_ok (h : (RC b ep c).p S w) :
    Calls Try.prog 27 #[.pointer (some ⟨b, 0, none⟩)] w fun e w' => e = .returned (.bool c.releaseA) ∧ Turn (RC b ep c.releaseC) S w w' := by
  have H := Lib.hid h
  obtain ⟨hb, hS, _, hok⟩ := RC.at_ h
  obtain ⟨⟨_, c1, c2, c3, c4, _⟩, f1, f2, f3, f4, _⟩ := rcell hb
  clear h
  cases c with
  | idle d n | drains o f d n | closed d n =>
    dsimp only [Cn.s, Cn.o, Cn.f, Cn.d, Cn.n] at c1 c2 c3 c4
    clear hb hok
    go_enter Try.func27, Try.ntmps27
    go_wp2_with fail
    go_ret
    exact ⟨rfl, Turn.here H.out⟩
  | lent o f d n =>
    dsimp only [Cn.s, Cn.o, Cn.f, Cn.d, Cn.n] at c1 c2 c3 c4
    by_cases hf : f = 0
    · have hf1 : (f == 0) = true := by simpa using hf
      have hA : Cn.releaseA (.lent o f d n) = true := by simpa [Cn.releaseA] using hf
      rw [hA]
      cases d with
      | true =>
        have hC : Cn.releaseC (.lent o f true n) = .closed true n := by simp [Cn.releaseC, hf]
        have HT : Hid (∀ u, u.heap[b]? = some (.cells (rcells ep 4 0 0 true n) 38 (0, 0)) → Off (fun k => k = b) w u → Turn (RC b ep (.closed true n)) S w u) := Lib.hid fun u h1 h2 => RC.turn (c' := .closed true n) H.out h1 (h2.wide (fun k e => e ▸ hS)) trivial
        have H1 := Lib.hid (rshut_ok hb)
        rw [hC]
        clear hb hok H hA hC hf
        go_enter Try.func27, Try.ntmps27
        go_wp2_with fail
        refine H1.out.mono ?_
        rintro e w1 ⟨rfl, h1, h2⟩
        have HX := HT.out w1 h1 h2
        clear HT h1 h2
        go_wp2_with fail
        go_ret
        exact ⟨rfl, HX⟩
      | false =>
        have hC : Cn.releaseC (.lent o f false n) = .idle false n := by simp [Cn.releaseC, hf]
        have HT : Hid (Turn (RC b ep (.idle false n)) S w ((w.setCell ⟨b, 1, none⟩ (.int .i64 1)).setCell ⟨b, 2, none⟩ (.int .i64 0))) := Lib.hid (RC.turn H.out (by subst hf; exact rset (rset hb 1 _ rfl) 2 _ rfl) (((Off.refl S w).setr hS 1 _).setr hS 2 _) trivial)
        rw [hC]
        clear hb hok H hA hC hf
        go_enter Try.func27, Try.ntmps27
        go_wp2_with fail
        go_ret
        exact ⟨rfl, HT.out⟩
    · have hf1 : (f == 0) = false := by simpa using hf
      have hA : Cn.releaseA (.lent o f d n) = false := by simpa [Cn.releaseA] using hf
      have hC : Cn.releaseC (.lent o f d n) = .lent o f d n := by simp [Cn.releaseC, hf]
      rw [hA, hC]
      clear hb hok hA hC hf
      go_enter Try.func27, Try.ntmps27
      go_wp2_with fail
      go_ret
      exact ⟨rfl, Turn.here H.out⟩

set_option maxHeartbeats 1000000 in
theorem rdrain_ok (h : (RC b ep c).p S w) :
    Calls Try.prog 28 #[.pointer (some ⟨b, 0, none⟩)] w fun e w' => e = .returned (.tuple #[]) ∧ Turn (RC b ep c.drainC) S w w' := by
  have H := Lib.hid h
  obtain ⟨hb, hS, _, hok⟩ := RC.at_ h
  obtain ⟨⟨_, c1, c2, c3, c4, _⟩, f1, f2, f3, f4, _⟩ := rcell hb
  clear h
  have HT : Hid (∀ c' : Cn, (∃ d n, c' = .closed d n ∧ c.d = d ∧ c.n = n) → ∀ u, u.heap[b]? = some (.cells (rcells ep 4 0 0 c.d c.n) 38 (0, 0)) → Off (fun k => k = b) w u → Turn (RC b ep c') S w u) := Lib.hid fun c' ⟨d, n, e1, e2, e3⟩ u h1 h2 => by
    subst e1 e2 e3
    exact RC.turn (c' := .closed c.d c.n) H.out h1 (h2.wide (fun k e => e ▸ hS)) trivial
  have H1 := Lib.hid (rshut_ok hb)
  cases c with
  | idle d n =>
    dsimp only [Cn.s, Cn.o, Cn.f, Cn.d, Cn.n] at c1 c2 c3 c4 HT H1
    clear hb hok H
    go_enter Try.func28, Try.ntmps28
    go_wp2_with fail
    refine H1.out.mono ?_
    rintro e w1 ⟨rfl, h1, h2⟩
    have HX := HT.out (.closed d n) ⟨d, n, rfl, rfl, rfl⟩ w1 h1 h2
    clear HT h1 h2
    go_wp2_with fail
    go_end0
    exact ⟨rfl, HX⟩
  | lent o f d n =>
    dsimp only [Cn.s, Cn.o, Cn.f, Cn.d, Cn.n] at c1 c2 c3 c4 HT H1
    by_cases hf : f = 0
    · have hf1 : (f == 0) = true := by simpa using hf
      have hC : Cn.drainC (.lent o f d n) = .closed d n := by simp [Cn.drainC, hf]
      rw [hC]
      clear hb hok H hC hf
      go_enter Try.func28, Try.ntmps28
      go_wp2_with fail
      refine H1.out.mono ?_
      rintro e w1 ⟨rfl, h1, h2⟩
      have HX := HT.out (.closed d n) ⟨d, n, rfl, rfl, rfl⟩ w1 h1 h2
      clear HT h1 h2
      go_wp2_with fail
      go_end0
      exact ⟨rfl, HX⟩
    · have hf1 : (f == 0) = false := by simpa using hf
      have hC : Cn.drainC (.lent o f d n) = .drains o f d n := by simp [Cn.drainC, hf]
      have HX : Hid (Turn (RC b ep (.drains o f d n)) S w (w.setCell ⟨b, 1, none⟩ (.int .i64 3))) := Lib.hid (RC.turn H.out (rset hb 1 _ rfl) ((Off.refl S w).setr hS 1 _) ⟨hok, hf⟩)
      rw [hC]
      clear hb hok H hC hf HT H1
      go_enter Try.func28, Try.ntmps28
      go_wp2_with fail
      go_end0
      exact ⟨rfl, HX.out⟩
  | drains o f d n | closed d n =>
    dsimp only [Cn.s, Cn.o, Cn.f, Cn.d, Cn.n] at c1 c2 c3 c4
    clear hb hok HT H1
    go_enter Try.func28, Try.ntmps28
    go_wp2_with fail
    go_end0
    exact ⟨rfl, Turn.here H.out⟩

theorem rbreak_ok (h : (RC b ep c).p S w) :
    Calls Try.prog 29 #[.pointer (some ⟨b, 0, none⟩)] w fun e w' => e = .returned (.int .u64 c.f) ∧ Turn (RC b ep c.breakC) S w w' := by
  have H := Lib.hid h
  obtain ⟨hb, hS, _, hok⟩ := RC.at_ h
  obtain ⟨⟨_, c1, c2, c3, c4, _⟩, f1, f2, f3, f4, _⟩ := rcell hb
  clear h
  have HT : Hid (∀ u, u.heap[b]? = some (.cells (rcells ep 4 0 0 c.d c.n) 38 (0, 0)) → Off (fun k => k = b) w u → Turn (RC b ep c.breakC) S w u) := Lib.hid fun u h1 h2 => RC.turn (c' := .closed c.d c.n) H.out h1 (h2.wide (fun k e => e ▸ hS)) trivial
  have H1 := Lib.hid (rshut_ok hb)
  generalize c.breakC = c' at *
  clear hb hok H c1 c2 c4
  generalize c.f = f at *
  go_enter Try.func29, Try.ntmps29
  go_wp2_with fail
  refine H1.out.mono ?_
  rintro e w1 ⟨rfl, h1, h2⟩
  have HX := HT.out w1 h1 h2
  clear HT h1 h2
  go_wp2_with fail
  go_ret
  exact ⟨rfl, HX⟩
end
end Go.Proofs.Ytnaefikajmgmdaa
