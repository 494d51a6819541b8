/-
  Two tallies of a call's own; the order of what is added.
-/
import Derived.Test.YtkkmjoadhjnldaaDoorTaD
namespace Go.Proofs.YtkkmjoadhjnldaaDoor
open Go.RowKit
set_option maxRecDepth 100000

theorem wrapT_swap (c x y : Int) : wrapT (wrapT (c + x) + y) = wrapT (wrapT (c + y) + x) := by
  unfold wrapT wrap64
  omega
theorem moreT_len (cs : List Int) (i : Nat) (x : Int) : (moreT cs i x).length = cs.length := by simp [moreT]
theorem moreT_swap (cs : List Int) (i j : Nat) (x y : Int) : moreT (moreT cs i x) j y = moreT (moreT cs j y) i x := by
  unfold moreT
  by_cases hij : i = j
  · subst hij
    by_cases hi : i < cs.length
    · have e : ∀ v, (cs.set i v).getD i 0 = v := fun v => by rw [List.getD_eq_getElem?_getD, List.getElem?_set_self hi]; rfl
      rw [e, e, List.set_set, List.set_set, wrapT_swap]
    · rw [List.set_eq_of_length_le (by simp; omega), List.set_eq_of_length_le (by omega), List.set_eq_of_length_le (by simp; omega), List.set_eq_of_length_le (by omega)]
  · have e1 : (cs.set i (wrapT (cs.getD i 0 + x))).getD j 0 = cs.getD j 0 := by
      rw [List.getD_eq_getElem?_getD, List.getElem?_set_ne hij, ← List.getD_eq_getElem?_getD]
    have e2 : (cs.set j (wrapT (cs.getD j 0 + y))).getD i 0 = cs.getD i 0 := by
      rw [List.getD_eq_getElem?_getD, List.getElem?_set_ne (fun h => hij h.symm), ← List.getD_eq_getElem?_getD]
    rw [e1, e2, List.set_comm _ _ hij]
theorem addT_swap (ns : List ByteArray) (cs : List Int) (s s' : ByteArray) (x y : Int) : addT ns (addT ns cs s x) s' y = addT ns (addT ns cs s' y) s x := by
  unfold addT
  by_cases h1 : placeT s ns < 0
  · simp [h1]
  · by_cases h2 : placeT s' ns < 0
    · simp [h1, h2]
    · simp only [h1, h2, if_false]
      exact moreT_swap _ _ _ _ _
/-- what acts add -/
def sumT (ns : List ByteArray) (cs : List Int) (ts : List Act7) : List Int := ts.foldl (fun c t => addT ns c t.s t.n) cs
theorem sumT_next (ns : List ByteArray) (cs : List Int) (ts : List Act7) (k : Nat) (h : k < ts.length) : sumT ns cs (ts.take (k + 1)) = addT ns (sumT ns cs (ts.take k)) ts[k].s ts[k].n := by
  unfold sumT
  rw [List.take_succ_eq_append_getElem h, List.foldl_append]
  rfl
theorem sumT_add (ns : List ByteArray) (s : ByteArray) (x : Int) : ∀ (ts : List Act7) (cs : List Int), sumT ns (addT ns cs s x) ts = addT ns (sumT ns cs ts) s x
  | [], _ => rfl
  | t :: r, cs => by
    have ih := sumT_add ns s x r (addT ns cs t.s t.n)
    show sumT ns (addT ns (addT ns cs s x) t.s t.n) r = _
    rw [addT_swap]
    exact ih
theorem sumT_rev (ns : List ByteArray) : ∀ (ts : List Act7) (cs : List Int), sumT ns cs ts.reverse = sumT ns cs ts
  | [], _ => rfl
  | t :: r, cs => by
    have ih := sumT_rev ns r cs
    have h1 : sumT ns cs (r.reverse ++ [t]) = addT ns (sumT ns cs r.reverse) t.s t.n := by simp [sumT, List.foldl_append]
    rw [List.reverse_cons, h1, ih, ← sumT_add]
    rfl
theorem InT.sum {cs : List Int} (ns : List ByteArray) : ∀ (ts : List Act7) {cs : List Int}, InT cs → InT (sumT ns cs ts)
  | [], _, h => h
  | t :: r, _, h => InT.sum (cs := cs) ns r (h.add ns t.s t.n)

/-- two tallies that a call made itself -/
structure P2 (w0 : World) (b1 b2 : Nat) (l ns : List ByteArray) (cs ds : List Int) (w : World) : Prop where
  at_ : ∃ S T, PT S w b1 l ns cs ∧ PT T w b2 l ns ds ∧ (∀ k, S k → ¬ T k) ∧ ∀ k, S k ∨ T k → w0.heap.size ≤ k
  low : Below w0.heap.size w0 w
/-- and block X is none of theirs -/
structure P2X (w0 : World) (b1 b2 : Nat) (l ns : List ByteArray) (cs ds : List Int) (X : Nat) (w : World) : Prop where
  at_ : ∃ S T, PT S w b1 l ns cs ∧ PT T w b2 l ns ds ∧ (∀ k, S k → ¬ T k) ∧ ∀ k, S k ∨ T k → w0.heap.size ≤ k ∧ k ≠ X
  low : Below w0.heap.size w0 w
  xlt : X < w.heap.size
section
variable {w0 w w' : World} {b1 b2 : Nat} {l ns : List ByteArray} {cs ds : List Int} {X : Nat}
theorem P2.x (h : P2 w0 b1 b2 l ns cs ds w) (o o' : Obj) : P2X w0 b1 b2 l ns cs ds (w.heap.size + 1) ((w.alloc o).alloc o') := by
  have k := kp_alloc (kp_new w o) o'
  obtain ⟨⟨S, T, h1, h2, h3, h4⟩, h5⟩ := h
  exact ⟨⟨S, T, h1.next k, h2.next k, h3, fun i hi => ⟨h4 i hi, by have := hi.elim (h1.lt i) (h2.lt i); omega⟩⟩, kp_trans h5 k, by simp⟩
theorem P2X.add1 (h : P2X w0 b1 b2 l ns cs ds X w) (s : ByteArray) (x : Int) (hs : s.size ≤ 1000) : Calls Tryd.prog 12 #[.pointer (some ⟨b1, 0, none⟩), .string s, .int .i64 x] w fun e w' => e = .returned (.bool (decide (0 ≤ placeT s ns))) ∧ P2 w0 b1 b2 l ns (addT ns cs s x) ds w' ∧ ∀ o, w'.cell? ⟨X, o, none⟩ = w.cell? ⟨X, o, none⟩ := by
  obtain ⟨⟨S, T, h1, h2, h3, h4⟩, h5, h6⟩ := h
  have hz := h5.size
  refine (add7_ok S b1 l ns cs s x w h1 hs).mono ?_
  rintro e w' ⟨he, ⟨S', g1, g2⟩, g3⟩
  refine ⟨he, ⟨⟨S', T, g1, h2.off g3 (fun k hk hk2 => h3 k hk2 hk), fun k hk hk2 => ?_, fun k hk => ?_⟩, h5.trans (g3.below (fun k hk => (h4 k (.inl hk)).1) hz)⟩, fun o => World.cell?_of_block (g3.block X h6 fun hk => (h4 X (.inl hk)).2 rfl)⟩
  · rcases g2 k hk with e | e
    · exact h3 k e hk2
    · have := h2.lt k hk2; omega
  · rcases hk with hk | hk
    · rcases g2 k hk with e | e
      · exact (h4 k (.inl e)).1
      · omega
    · exact (h4 k (.inr hk)).1
theorem P2.add2 (h : P2 w0 b1 b2 l ns cs ds w) (s : ByteArray) (x : Int) (hs : s.size ≤ 1000) : Calls Tryd.prog 12 #[.pointer (some ⟨b2, 0, none⟩), .string s, .int .i64 x] w fun e w' => e = .returned (.bool (decide (0 ≤ placeT s ns))) ∧ P2 w0 b1 b2 l ns cs (addT ns ds s x) w' := by
  obtain ⟨⟨S, T, h1, h2, h3, h4⟩, h5⟩ := h
  have hz := h5.size
  refine (add7_ok T b2 l ns ds s x w h2 hs).mono ?_
  rintro e w' ⟨he, ⟨T', g1, g2⟩, g3⟩
  refine ⟨he, ⟨⟨S, T', h1.off g3 h3, g1, fun k hk hk2 => ?_, fun k hk => ?_⟩, h5.trans (g3.below (fun k hk => h4 k (.inr hk)) hz)⟩⟩
  · rcases g2 k hk2 with e | e
    · exact h3 k hk e
    · have := h1.lt k hk; omega
  · rcases hk with hk | hk
    · exact h4 k (.inl hk)
    · rcases g2 k hk with e | e
      · exact h4 k (.inr e)
      · omega
end
end Go.Proofs.YtkkmjoadhjnldaaDoor
