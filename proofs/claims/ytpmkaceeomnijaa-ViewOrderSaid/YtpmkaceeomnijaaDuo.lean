/-
  Things that lie in blocks of their own, one or two of them, and what calls on them leave (no function of the program is named here).
-/
import Derived.Test.YtpmkaceeomnijaaReg3
namespace Go.Proofs.Ytpmkaceeomnijaa
open Go.RowKit
set_option maxRecDepth 100000

/-- a thing: what it asks of a world, by its blocks -/
structure Thing where
  p : (Nat → Prop) → World → Prop
  keep : ∀ {S : Nat → Prop} {w w' : World}, p S w → (∀ k, S k → w'.heap[k]? = w.heap[k]?) → w.heap.size ≤ w'.heap.size → p S w'
  lt : ∀ {S : Nat → Prop} {w : World}, p S w → ∀ k, S k → k < w.heap.size
/-- what is left by a call on a thing whose blocks are S: it is Y then -/
structure Turn (Y : Thing) (S : Nat → Prop) (w w' : World) : Prop where
  at_ : ∃ S', Y.p S' w' ∧ ∀ k, S' k → S k ∨ w.heap.size ≤ k
  off : Off S w w'
section
variable {X Y Z : Thing} {S T : Nat → Prop} {w w' w'' : World}
theorem Thing.off (h : X.p S w) (ho : Off T w w') (hT : ∀ k, S k → ¬ T k) : X.p S w' := X.keep h (fun k hk => ho.block k (X.lt h k hk) (hT k hk)) ho.size
theorem Thing.next (h : X.p S w) (hb : Below w.heap.size w w') : X.p S w' := X.keep h (fun k hk => hb.block k (X.lt h k hk)) hb.size
theorem Thing.drew (h : X.p S w) : X.p S w.drew := X.keep h (fun _ _ => rfl) (Nat.le_refl _)
theorem Turn.same (h : X.p S w) (hb : Below w.heap.size w w') : Turn X S w w' := ⟨⟨S, Thing.next h hb, fun _ h => .inl h⟩, Off.of S hb⟩
theorem Turn.here (h : X.p S w) : Turn X S w w := ⟨⟨S, h, fun _ h => .inl h⟩, Off.refl _ _⟩
theorem Turn.then (h : Turn Y S w w') (k : ∀ S', Y.p S' w' → Turn Z S' w' w'') : Turn Z S w w'' := by
  obtain ⟨⟨S', h1, h2⟩, h3⟩ := h
  obtain ⟨⟨S'', k1, k2⟩, k3⟩ := k S' h1
  have hz := h3.size
  exact ⟨⟨S'', k1, fun i hi => (k2 i hi).elim (fun e => h2 i e) (fun e => .inr (by omega))⟩, h3.trans k3 h2⟩
theorem Turn.below (h : Turn Y S w w') (hb : Below w'.heap.size w' w'') : Turn Y S w w'' := h.then fun _ h => .same h hb
end

/-- one thing that a call made itself; the blocks N are none of it -/
structure Solo (w0 : World) (X : Thing) (N : Nat → Prop) (w : World) : Prop where
  at_ : ∃ S, X.p S w ∧ ∀ k, S k → w0.heap.size ≤ k ∧ ¬ N k
  low : Below w0.heap.size w0 w
  nlt : ∀ k, N k → k < w.heap.size
/-- two -/
structure Duo (w0 : World) (X Y : Thing) (N : Nat → Prop) (w : World) : Prop where
  at_ : ∃ S T, X.p S w ∧ Y.p T w ∧ (∀ k, S k → ¬ T k) ∧ ∀ k, S k ∨ T k → w0.heap.size ≤ k ∧ ¬ N k
  low : Below w0.heap.size w0 w
  nlt : ∀ k, N k → k < w.heap.size
def noneB : Nat → Prop := fun _ => False
section
variable {P : Program} {w0 w w' : World} {X X' Y Y' : Thing} {N N' S T : Nat → Prop}
theorem Solo.next (h : Solo w0 X N w) (hb : Below w.heap.size w w') : Solo w0 X N w' := by
  obtain ⟨⟨S, h1, h2⟩, h3, h4⟩ := h
  exact ⟨⟨S, Thing.next h1 hb, h2⟩, h3.trans (hb.mono h3.size), fun k hk => Nat.lt_of_lt_of_le (h4 k hk) hb.size⟩
theorem Solo.less (h : Solo w0 X N w) (hN : ∀ k, N' k → N k) : Solo w0 X N' w := by
  obtain ⟨⟨S, h1, h2⟩, h3, h4⟩ := h
  exact ⟨⟨S, h1, fun k hk => ⟨(h2 k hk).1, fun e => (h2 k hk).2 (hN k e)⟩⟩, h3, fun k hk => h4 k (hN k hk)⟩
theorem Solo.mark (h : Solo w0 X N w) (o : Obj) : Solo w0 X (fun k => k = w.heap.size ∨ N k) (w.alloc o) := by
  have hb : Below w.heap.size w (w.alloc o) := (Below.refl _ _).alloc (Nat.le_refl _) o
  obtain ⟨⟨S, h1, h2⟩, h3, h4⟩ := h.next hb
  obtain ⟨⟨S0, g1, g2⟩, _, g4⟩ := h
  refine ⟨⟨S0, Thing.next g1 hb, fun k hk => ⟨(g2 k hk).1, fun e => e.elim (fun e => by have := X.lt g1 k hk; omega) (g2 k hk).2⟩⟩, h3, fun k hk => ?_⟩
  rcases hk with rfl | hk
  · simp
  · exact h4 k hk
theorem Solo.turn (hl : Below w0.heap.size w0 w) (hn : ∀ k, N k → k < w.heap.size) (h2 : ∀ k, S k → w0.heap.size ≤ k ∧ ¬ N k) (ht : Turn Y S w w') : Solo w0 Y N w' ∧ ∀ k, N k → w'.heap[k]? = w.heap[k]? := by
  obtain ⟨⟨S', g1, g2⟩, g3⟩ := ht
  have hz := hl.size
  exact ⟨⟨⟨S', g1, fun k hk => (g2 k hk).elim (h2 k) (fun e => ⟨by omega, fun hN => by have := hn k hN; omega⟩)⟩, hl.trans (g3.below (fun k hk => (h2 k hk).1) hz), fun k hk => Nat.lt_of_lt_of_le (hn k hk) g3.size⟩,
    fun k hk => g3.block k (hn k hk) fun e => (h2 k e).2 hk⟩
theorem Solo.op {f : FuncId} {args : Array Value} {Q : Ending → World → Prop} (h : Solo w0 X N w) (hop : ∀ S, X.p S w → Calls P f args w fun e w' => Q e w' ∧ Turn Y S w w') :
    Calls P f args w fun e w' => Q e w' ∧ Solo w0 Y N w' ∧ ∀ k, N k → w'.heap[k]? = w.heap[k]? := by
  obtain ⟨⟨S, h1, h2⟩, h3, h4⟩ := h
  exact (hop S h1).mono fun e w' ⟨hq, ht⟩ => ⟨hq, Solo.turn h3 h4 h2 ht⟩
/-- a thing that is asked alone -/
theorem Solo.ask {f : FuncId} {args : Array Value} {Q : Ending → World → Prop} (h : Solo w0 X N w) (hop : ∀ S, X.p S w → Calls P f args w fun e w' => Q e w' ∧ Below w.heap.size w w') : Calls P f args w fun e w' => Q e w' ∧ Solo w0 X N w' := by
  obtain ⟨S, h1, _⟩ := h.at_
  exact (hop S h1).mono fun e w' ⟨hq, hb⟩ => ⟨hq, h.next hb⟩
theorem Solo.make (hl : Below w0.heap.size w0 w) (hx : X.p S w') (hS : ∀ k, S k → w.heap.size ≤ k) (hb : Below w.heap.size w w') : Solo w0 X noneB w' := by
  have hz := hl.size
  exact ⟨⟨S, hx, fun k hk => ⟨by have := hS k hk; omega, fun h => h⟩⟩, hl.trans (hb.mono hz), fun k h => h.elim⟩

theorem Duo.swap (h : Duo w0 X Y N w) : Duo w0 Y X N w := by
  obtain ⟨⟨S, T, h1, h2, h3, h4⟩, h5, h6⟩ := h
  exact ⟨⟨T, S, h2, h1, fun k hk hk2 => h3 k hk2 hk, fun k hk => h4 k hk.symm⟩, h5, h6⟩
theorem Duo.next (h : Duo w0 X Y N w) (hb : Below w.heap.size w w') : Duo w0 X Y N w' := by
  obtain ⟨⟨S, T, h1, h2, h3, h4⟩, h5, h6⟩ := h
  exact ⟨⟨S, T, Thing.next h1 hb, Thing.next h2 hb, h3, h4⟩, h5.trans (hb.mono h5.size), fun k hk => Nat.lt_of_lt_of_le (h6 k hk) hb.size⟩
theorem Duo.less (h : Duo w0 X Y N w) (hN : ∀ k, N' k → N k) : Duo w0 X Y N' w := by
  obtain ⟨⟨S, T, h1, h2, h3, h4⟩, h5, h6⟩ := h
  exact ⟨⟨S, T, h1, h2, h3, fun k hk => ⟨(h4 k hk).1, fun e => (h4 k hk).2 (hN k e)⟩⟩, h5, fun k hk => h6 k (hN k hk)⟩
theorem Duo.mark (h : Duo w0 X Y N w) (o : Obj) : Duo w0 X Y (fun k => k = w.heap.size ∨ N k) (w.alloc o) := by
  have hb : Below w.heap.size w (w.alloc o) := (Below.refl _ _).alloc (Nat.le_refl _) o
  obtain ⟨⟨S, T, h1, h2, h3, h4⟩, h5, h6⟩ := h
  refine ⟨⟨S, T, Thing.next h1 hb, Thing.next h2 hb, h3, fun k hk => ⟨(h4 k hk).1, fun e => e.elim (fun e => ?_) (h4 k hk).2⟩⟩, h5.trans (hb.mono h5.size), fun k hk => ?_⟩
  · have := hk.elim (X.lt h1 k) (Y.lt h2 k)
    omega
  · rcases hk with rfl | hk
    · simp
    · have := h6 k hk
      simp
      omega
theorem Duo.left {f : FuncId} {args : Array Value} {Q : Ending → World → Prop} (h : Duo w0 X Y N w) (hop : ∀ S, X.p S w → Calls P f args w fun e w' => Q e w' ∧ Turn X' S w w') :
    Calls P f args w fun e w' => Q e w' ∧ Duo w0 X' Y N w' ∧ ∀ k, N k → w'.heap[k]? = w.heap[k]? := by
  obtain ⟨⟨S, T, h1, h2, h3, h4⟩, h5, h6⟩ := h
  refine (hop S h1).mono fun e w' ⟨hq, ⟨S', g1, g2⟩, g3⟩ => ⟨hq, ⟨⟨S', T, g1, Thing.off h2 g3 (fun k hk hk2 => h3 k hk2 hk), fun k hk hk2 => ?_, fun k hk => ?_⟩, h5.trans (g3.below (fun k hk => (h4 k (.inl hk)).1) h5.size), fun k hk => Nat.lt_of_lt_of_le (h6 k hk) g3.size⟩, fun k hk => g3.block k (h6 k hk) fun e => (h4 k (.inl e)).2 hk⟩
  · rcases g2 k hk with e | e
    · exact h3 k e hk2
    · have := Y.lt h2 k hk2; omega
  · rcases hk with hk | hk
    · rcases g2 k hk with e | e
      · exact h4 k (.inl e)
      · have := h5.size
        exact ⟨by omega, fun hN => by have := h6 k hN; omega⟩
    · exact h4 k (.inr hk)
theorem Duo.right {f : FuncId} {args : Array Value} {Q : Ending → World → Prop} (h : Duo w0 X Y N w) (hop : ∀ T, Y.p T w → Calls P f args w fun e w' => Q e w' ∧ Turn Y' T w w') :
    Calls P f args w fun e w' => Q e w' ∧ Duo w0 X Y' N w' ∧ ∀ k, N k → w'.heap[k]? = w.heap[k]? :=
  (h.swap.left hop).mono fun _ _ ⟨hq, hd, hc⟩ => ⟨hq, hd.swap, hc⟩
theorem Duo.askl {f : FuncId} {args : Array Value} {Q : Ending → World → Prop} (h : Duo w0 X Y N w) (hop : ∀ S, X.p S w → Calls P f args w fun e w' => Q e w' ∧ Below w.heap.size w w') : Calls P f args w fun e w' => Q e w' ∧ Duo w0 X Y N w' := by
  obtain ⟨S, T, h1, _⟩ := h.at_
  exact (hop S h1).mono fun e w' ⟨hq, hb⟩ => ⟨hq, h.next hb⟩
theorem Duo.askr {f : FuncId} {args : Array Value} {Q : Ending → World → Prop} (h : Duo w0 X Y N w) (hop : ∀ S, Y.p S w → Calls P f args w fun e w' => Q e w' ∧ Below w.heap.size w w') : Calls P f args w fun e w' => Q e w' ∧ Duo w0 X Y N w' := by
  obtain ⟨S, T, _, h1, _⟩ := h.at_
  exact (hop T h1).mono fun e w' ⟨hq, hb⟩ => ⟨hq, h.next hb⟩
theorem Solo.duo (h : Solo w0 X noneB w) (hy : Y.p T w') (hT : ∀ k, T k → w.heap.size ≤ k) (hb : Below w.heap.size w w') : Duo w0 X Y noneB w' := by
  obtain ⟨⟨S, h1, h2⟩, h3, _⟩ := h
  have hz := h3.size
  exact ⟨⟨S, T, Thing.next h1 hb, hy, fun k hk hk2 => by have := X.lt h1 k hk; have := hT k hk2; omega, fun k hk => hk.elim (h2 k) fun hk => ⟨by have := hT k hk; omega, fun h => h⟩⟩, h3.trans (hb.mono hz), fun k h => h.elim⟩
end

/-- midway through an act: the left one has done it (f), the right one has (g) -/
structure MidA (S T : Nat → Prop) (Z : Nat) (X0 X1 Y0 Y1 : Thing) (ws : World) (f g : Bool) (u : World) : Prop where
  off : Off (fun k => S k ∨ T k) ws u
  big : Z ≤ u.heap.size
  at_ : ∃ S' T', (f = false → S' = S) ∧ (g = false → T' = T) ∧ (bif f then X1 else X0).p S' u ∧ (bif g then Y1 else Y0).p T' u ∧ (∀ k, S' k → S k ∨ Z ≤ k) ∧ (∀ k, T' k → T k ∨ Z ≤ k) ∧ ∀ k, S' k → ¬ T' k
section
variable {S T N : Nat → Prop} {Z : Nat} {X0 X1 Y0 Y1 : Thing} {w0 ws u u' : World} {f g : Bool}
theorem MidA.getl (h : MidA S T Z X0 X1 Y0 Y1 ws false g u) : X0.p S u := by
  obtain ⟨_, _, S', T', h1, _, h3, _⟩ := h
  rw [h1 rfl] at h3
  exact h3
theorem MidA.getr (h : MidA S T Z X0 X1 Y0 Y1 ws f false u) : Y0.p T u := by
  obtain ⟨_, _, S', T', _, h2, _, h4, _⟩ := h
  rw [h2 rfl] at h4
  exact h4
theorem MidA.flip (h : MidA S T Z X0 X1 Y0 Y1 ws f g u) : MidA T S Z Y0 Y1 X0 X1 ws g f u := by
  obtain ⟨h1, h2, S', T', a, b, c, d, e, f, g⟩ := h
  exact ⟨h1.wide fun k hk => hk.symm, h2, T', S', b, a, d, c, f, e, fun k hk hk2 => g k hk2 hk⟩
theorem MidA.left (h : MidA S T Z X0 X1 Y0 Y1 ws false g u) (ht : Turn X1 S u u') : MidA S T Z X0 X1 Y0 Y1 ws true g u' ∧ Off (fun k => S k ∨ T k) u u' := by
  obtain ⟨h1, h2, S', T', a, b, _, d, _, f', g'⟩ := h
  obtain ⟨⟨S1, e1, e2⟩, e3⟩ := ht
  have hS' := a rfl
  subst hS'
  have ho : Off (fun k => S' k ∨ T k) u u' := e3.wide fun k hk => .inl hk
  refine ⟨⟨h1.trans ho (fun k hk => .inl hk), Nat.le_trans h2 e3.size, S1, T', (fun h => by cases h), b, e1, Thing.off d e3 (fun k hk hk2 => g' k hk2 hk), fun k hk => (e2 k hk).elim .inl (fun e => .inr (by omega)), f', fun k hk hk2 => ?_⟩, ho⟩
  rcases e2 k hk with e | e
  · exact g' k e hk2
  · have := (bif g then Y1 else Y0).lt d k hk2
    omega
theorem MidA.right (h : MidA S T Z X0 X1 Y0 Y1 ws f false u) (ht : Turn Y1 T u u') : MidA S T Z X0 X1 Y0 Y1 ws f true u' ∧ Off (fun k => S k ∨ T k) u u' := by
  obtain ⟨h1, h2⟩ := h.flip.left ht
  exact ⟨h1.flip, h2.wide fun k hk => hk.symm⟩
theorem MidA.start (h1 : X0.p S ws) (h2 : Y0.p T ws) (h3 : ∀ k, S k → ¬ T k) (hZ : Z ≤ ws.heap.size) : MidA S T Z X0 X1 Y0 Y1 ws false false ws := ⟨Off.refl _ _, hZ, S, T, fun _ => rfl, fun _ => rfl, h1, h2, fun _ h => .inl h, fun _ h => .inl h, h3⟩
theorem MidA.next (h : MidA S T Z X0 X1 Y0 Y1 ws f g u) (hb : Below u.heap.size u u') : MidA S T Z X0 X1 Y0 Y1 ws f g u' := by
  obtain ⟨h1, h2, S', T', a, b, c, d, e, f', g'⟩ := h
  exact ⟨h1.trans (Off.of (fun _ => False) hb) (fun _ h => h.elim), Nat.le_trans h2 hb.size, S', T', a, b, Thing.next c hb, Thing.next d hb, e, f', g'⟩
theorem MidA.done (h : MidA S T Z X0 X1 Y0 Y1 ws true true u) (hS : ∀ k, S k ∨ T k → w0.heap.size ≤ k ∧ ¬ N k) (hN : ∀ k, N k → k < Z) (hZ : w0.heap.size ≤ Z) (hl : Below w0.heap.size w0 ws) : Duo w0 X1 Y1 N u := by
  obtain ⟨h1, h2, S', T', _, _, c, d, e, f', g'⟩ := h
  refine ⟨⟨S', T', c, d, g', fun k hk => ?_⟩, hl.trans (h1.below (fun k hk => (hS k hk).1) hl.size), fun k hk => by have := hN k hk; omega⟩
  have key : S k ∨ T k ∨ Z ≤ k := by
    rcases hk with hk | hk
    · rcases e k hk with h | h
      · exact .inl h
      · exact .inr (.inr h)
    · rcases f' k hk with h | h
      · exact .inr (.inl h)
      · exact .inr (.inr h)
  rcases key with h | h | h
  · exact hS k (.inl h)
  · exact hS k (.inr h)
  · exact ⟨by omega, fun hn => by have := hN k hn; omega⟩
/-- a cell of a block that is none of theirs -/
theorem MidA.cell (h : MidA S T Z X0 X1 Y0 Y1 ws f g u) {X : Nat} (hX : X < ws.heap.size) (hn : ¬ (S X ∨ T X)) (o : Nat) : u.cell? ⟨X, o, none⟩ = ws.cell? ⟨X, o, none⟩ := World.cell?_of_block (h.off.block X hX hn)
end
end Go.Proofs.Ytpmkaceeomnijaa
