/-
  The project's tally and the document's, side by side.
-/
import Derived.Test.YtkkmjoadhjnldaaDoorTaG
import Derived.Test.YtkkmjoadhjnldaaDoorReg3
namespace Go.Proofs.YtkkmjoadhjnldaaDoor
open Go.RowKit
set_option maxRecDepth 100000

theorem addN_mem {acc : List ByteArray} {x s : ByteArray} (h : s ∈ addN acc x) : s ∈ acc ∨ s = x := by
  unfold addN at h
  split at h
  · rcases List.mem_append.1 h with h | h
    · exact .inl h
    · exact .inr (by simpa using h)
  · exact .inl h
theorem newT_mem {l : List ByteArray} {s : ByteArray} (h : s ∈ newT l) : s ∈ l := by
  induction e : l.reverse generalizing l with
  | nil =>
    obtain rfl : l = [] := by simpa using e
    exact h
  | cons x r ih =>
    obtain rfl : l = r.reverse ++ [x] := by rw [← List.reverse_reverse l, e]; simp
    rw [newT_push] at h
    rcases addN_mem h with h | h
    · exact List.mem_append_left _ (ih (l := r.reverse) h (by simp))
    · simp [h]
theorem PT.small {S : Nat → Prop} {w : World} {b : Nat} {l ns : List ByteArray} {cs : List Int} (h : PT S w b l ns cs) : ∀ s ∈ ns, s.size ≤ 1000 := fun s hs => h.short s (newT_mem (h.names ▸ hs))
/-- counts that an int64 holds -/
def InT (cs : List Int) : Prop := ∀ n ∈ cs, -9223372036854775808 ≤ n ∧ n ≤ 9223372036854775807
theorem wrapT_in (n : Int) : -9223372036854775808 ≤ wrapT n ∧ wrapT n ≤ 9223372036854775807 := by
  unfold wrapT wrap64
  omega
theorem InT.set {cs : List Int} (h : InT cs) {i : Nat} {x : Int} (hx : -9223372036854775808 ≤ x ∧ x ≤ 9223372036854775807) : InT (cs.set i x) := fun n hn => by
  rcases List.mem_or_eq_of_mem_set hn with h1 | h1
  · exact h n h1
  · rw [h1]; exact hx
theorem InT.add {cs : List Int} (h : InT cs) (ns : List ByteArray) (s : ByteArray) (x : Int) : InT (addT ns cs s x) := by
  unfold addT
  split
  · exact h
  · exact h.set (wrapT_in _)
theorem InT.swap {cs : List Int} (h : InT cs) (ns : List ByteArray) (s : ByteArray) (x y : Int) (hy : -9223372036854775808 ≤ y ∧ y ≤ 9223372036854775807) : InT (swapT ns cs s x y).1 := by
  unfold swapT
  split
  · exact h
  split
  · exact h.set hy
  · exact h
theorem InT.zeros (n : Nat) : InT (zeros n) := fun x hx => by
  obtain rfl := List.eq_of_mem_replicate hx
  omega

/-- a row of texts of a block that is none of theirs -/
def nmSta (S : Nat → Prop) (ns : List ByteArray) : Sta S := ⟨fun v u => ∃ A n c, v = .slice A n c ∧ XR u A n ns ∧ n ≤ 900 ∧ ∀ ad, A = some ad → ad.block < u.heap.size ∧ ¬ S ad.block, fun _ _ _ ⟨A, n, c, h1, h2, h3, h4⟩ ho =>
  ⟨A, n, c, h1, h2.off ho.size fun ad e => ho.block _ (h4 ad e).1 (h4 ad e).2, h3, fun ad e => ⟨Nat.lt_of_lt_of_le (h4 ad e).1 ho.size, (h4 ad e).2⟩⟩⟩

/-- both hold the same counts -/
structure PD (w0 : World) (lo hi b rb : Nat) (B : Option Addr) (l ns : List ByteArray) (cs : List Int) (w : World) : Prop where
  at_ : ∃ S, PT S w b l ns cs ∧ ∀ k, S k → w0.heap.size ≤ k ∧ (k < lo ∨ hi ≤ k)
  rt : RT lo hi w rb B ns cs
  mid : w0.heap.size ≤ lo ∧ hi ≤ w.heap.size
  low : Below w0.heap.size w0 w
section
variable {w0 w w' : World} {lo hi b rb : Nat} {B : Option Addr} {l ns : List ByteArray} {cs : List Int}
theorem RT.next (h : RT lo hi w rb B ns cs) (hb : Below w.heap.size w w') (_ : hi ≤ w.heap.size) : RT lo hi w' rb B ns cs := h.off (Off.of (fun _ => False) hb) fun _ h => h.elim
theorem PD.next (h : PD w0 lo hi b rb B l ns cs w) (hb : Below w.heap.size w w') : PD w0 lo hi b rb B l ns cs w' := by
  obtain ⟨⟨S, h1, h2⟩, h3, h4, h5⟩ := h
  exact ⟨⟨S, h1.next hb, h2⟩, h3.next hb h4.2, ⟨h4.1, Nat.le_trans h4.2 hb.size⟩, kp_trans h5 hb⟩
theorem PD.of_pc {S : Nat → Prop} (hp : PC S w b l ns cs w') (h2 : ∀ k, S k → w0.heap.size ≤ k ∧ (k < lo ∨ hi ≤ k)) (h3 : RT lo hi w rb B ns cs) (h4 : w0.heap.size ≤ lo ∧ hi ≤ w.heap.size) (h5 : Below w0.heap.size w0 w) : PD w0 lo hi b rb B l ns cs w' := by
  obtain ⟨⟨S', g1, g2⟩, g3⟩ := hp
  have hz := h5.size
  exact ⟨⟨S', g1, fun k hk => (g2 k hk).elim (h2 k) (fun e => ⟨by omega, .inr (by omega)⟩)⟩, h3.off g3 fun k hk => (h2 k hk).2, ⟨h4.1, Nat.le_trans h4.2 g3.size⟩, h5.trans (g3.below (fun k hk => (h2 k hk).1) hz)⟩
theorem PD.pcount (h : PD w0 lo hi b rb B l ns cs w) (s : ByteArray) (hs : s.size ≤ 1000) : Calls Tryd.prog 16 #[.pointer (some ⟨b, 0, none⟩), .string s] w fun e w' => e = .returned (.tuple #[.int .i64 (countT ns cs s), .bool (decide (0 ≤ placeT s ns))]) ∧ PD w0 lo hi b rb B l ns cs w' := by
  obtain ⟨⟨S, h1, h2⟩, h3, h4, h5⟩ := h
  exact (count7_ok S b l ns cs s w h1 hs).mono fun e w' ⟨he, hp⟩ => ⟨he, PD.of_pc hp h2 h3 h4 h5⟩
theorem PD.rcount (h : PD w0 lo hi b rb B l ns cs w) (s : ByteArray) : Calls Tryd.prog 17 #[.pointer (some ⟨rb, 0, none⟩), .string s] w fun e w' => e = .returned (.tuple #[.int .i64 (countT ns cs s), .bool (decide (0 ≤ placeT s ns))]) ∧ w = w' := rcount_ok lo hi rb B ns cs s w h.rt
theorem PD.plines (h : PD w0 lo hi b rb B l ns cs w) (htab : Lib.TabIs Tryd.prog w0 tabName .u64 Lib.pow10Tab) (hcs : InT cs) : Calls Tryd.prog 18 #[.pointer (some ⟨b, 0, none⟩)] w fun e w' => ∃ A n c ss, e = .returned (.slice A n c) ∧ XR w' A n ss ∧ bls ss = linesT ns cs ∧ n ≤ 1000 ∧ PD w0 lo hi b rb B l ns cs w' := by
  obtain ⟨⟨S, h1, h2⟩, h3, h4, h5⟩ := h
  exact (lines7_ok S b l ns cs w0.heap.size w h1 ((Lib.tabBelow_of_tabIs htab).on h5) (fun k hk => (h2 k hk).1) h5.size hcs h1.small).mono fun e w' ⟨A, n, c, ss, he, hx, hb, hn, _, hp⟩ => ⟨A, n, c, ss, he, hx, hb, hn, PD.of_pc hp h2 h3 h4 h5⟩
theorem PD.rlines (h : PD w0 lo hi b rb B l ns cs w) (hcs : InT cs) : Calls Tryd.prog 19 #[.pointer (some ⟨rb, 0, none⟩)] w fun e w' => ∃ A n c ss, e = .returned (.slice A n c) ∧ XR w' A n ss ∧ bls ss = linesT ns cs ∧ n ≤ 1000 ∧ Below w.heap.size w w' := by
  obtain ⟨⟨S, h1, h2⟩, h3, h4, h5⟩ := h
  exact rlines_ok lo hi rb B ns cs w h3 h1.small hcs
end

/-- and block X is none of theirs -/
structure PDX (w0 : World) (lo hi b rb : Nat) (B : Option Addr) (l ns : List ByteArray) (cs : List Int) (X : Nat) (w : World) : Prop where
  at_ : ∃ S, PT S w b l ns cs ∧ ∀ k, S k → w0.heap.size ≤ k ∧ (k < lo ∨ hi ≤ k) ∧ k ≠ X
  rt : RT lo hi w rb B ns cs
  mid : w0.heap.size ≤ lo ∧ hi ≤ w.heap.size
  low : Below w0.heap.size w0 w
  xlt : X < w.heap.size
section
variable {w0 w w' : World} {lo hi b rb : Nat} {B : Option Addr} {l ns : List ByteArray} {cs : List Int} {X : Nat}
theorem PD.x (h : PD w0 lo hi b rb B l ns cs w) (o : Obj) : PDX w0 lo hi b rb B l ns cs w.heap.size (w.alloc o) := by
  have k := kp_new w o
  obtain ⟨⟨S, h1, h2⟩, h3, h4, h5⟩ := h
  exact ⟨⟨S, h1.next k, fun i hi => ⟨(h2 i hi).1, (h2 i hi).2, by have := h1.lt i hi; omega⟩⟩, h3.next k h4.2, ⟨h4.1, Nat.le_trans h4.2 k.size⟩, kp_trans h5 k, by simp⟩
theorem PDX.pcount (h : PDX w0 lo hi b rb B l ns cs X w) (s : ByteArray) (hs : s.size ≤ 1000) : Calls Tryd.prog 16 #[.pointer (some ⟨b, 0, none⟩), .string s] w fun e w' => e = .returned (.tuple #[.int .i64 (countT ns cs s), .bool (decide (0 ≤ placeT s ns))]) ∧ PD w0 lo hi b rb B l ns cs w' ∧ ∀ o, w'.cell? ⟨X, o, none⟩ = w.cell? ⟨X, o, none⟩ := by
  obtain ⟨⟨S, h1, h2⟩, h3, h4, h5, h6⟩ := h
  exact (count7_ok S b l ns cs s w h1 hs).mono fun e w' ⟨he, hp⟩ => ⟨he, PD.of_pc hp (fun k hk => ⟨(h2 k hk).1, (h2 k hk).2.1⟩) h3 h4 h5, fun o => World.cell?_of_block (hp.off.block X h6 fun hk => (h2 X hk).2.2 rfl)⟩
end

/-- midway through an act: the project's tally has done it (f), the document's has (g) -/
structure DSt (S : Nat → Prop) (Z lo hi b rb : Nat) (B : Option Addr) (l ns : List ByteArray) (c0 c1 : List Int) (ws : World) (f g : Bool) (u : World) : Prop where
  off : Off (fun k => S k ∨ Mid lo hi k) ws u
  big : Z ≤ u.heap.size
  p : match f with | false => PT S u b l ns c0 | true => ∃ S', PT S' u b l ns c1 ∧ ∀ k, S' k → S k ∨ Z ≤ k
  r : RT lo hi u rb B ns (bif g then c1 else c0)
section
variable {S : Nat → Prop} {Z lo hi b rb : Nat} {B : Option Addr} {l ns : List ByteArray} {c0 c1 : List Int} {ws u u' : World} {f g : Bool}
theorem DSt.pdone (h : DSt S Z lo hi b rb B l ns c0 c1 ws false g u) (hS : ∀ k, S k → k < lo ∨ hi ≤ k) (hp : PC S u b l ns c1 u') : DSt S Z lo hi b rb B l ns c0 c1 ws true g u' ∧ Off (fun k => S k ∨ Mid lo hi k) u u' := by
  obtain ⟨h1, h2, h3, h4⟩ := h
  obtain ⟨⟨S', g1, g2⟩, g3⟩ := hp
  have ho : Off (fun k => S k ∨ Mid lo hi k) u u' := g3.wide fun k hk => .inl hk
  exact ⟨⟨h1.trans ho (fun k hk => .inl hk), Nat.le_trans h2 g3.size, ⟨S', g1, fun k hk => (g2 k hk).elim .inl (fun e => .inr (by omega))⟩, h4.off g3 hS⟩, ho⟩
theorem DSt.rdone (h : DSt S Z lo hi b rb B l ns c0 c1 ws f false u) (hS : ∀ k, S k → k < lo ∨ hi ≤ k) (hZ : hi ≤ Z) (hr : RT lo hi u' rb B ns c1) (g3 : Off (Mid lo hi) u u') : DSt S Z lo hi b rb B l ns c0 c1 ws f true u' ∧ Off (fun k => S k ∨ Mid lo hi k) u u' := by
  obtain ⟨h1, h2, h3, h4⟩ := h
  have ho : Off (fun k => S k ∨ Mid lo hi k) u u' := g3.wide fun k hk => .inr hk
  refine ⟨⟨h1.trans ho (fun k hk => .inl hk), Nat.le_trans h2 g3.size, ?_, hr⟩, ho⟩
  cases f with
  | false => exact PT.off h3 g3 fun k hk hm => by have := hS k hk; unfold Mid at hm; omega
  | true =>
    obtain ⟨S', e1, e2⟩ := h3
    exact ⟨S', e1.off g3 fun k hk hm => by
      unfold Mid at hm
      rcases e2 k hk with e | e
      · have := hS k e; omega
      · omega, e2⟩
theorem DSt.pd {w0 : World} (h : DSt S Z lo hi b rb B l ns c0 c1 ws true true u) (hS : ∀ k, S k → w0.heap.size ≤ k ∧ (k < lo ∨ hi ≤ k)) (hZ : hi ≤ Z ∧ w0.heap.size ≤ Z) (hlo : w0.heap.size ≤ lo) (hl : Below w0.heap.size w0 ws) : PD w0 lo hi b rb B l ns c1 u := by
  obtain ⟨h1, h2, ⟨S', e1, e2⟩, h4⟩ := h
  have hz := hl.size
  refine ⟨⟨S', e1, fun k hk => (e2 k hk).elim (hS k) (fun e => ⟨by omega, .inr (by omega)⟩)⟩, h4, ⟨hlo, by omega⟩, hl.trans (h1.below (fun k hk => ?_) hz)⟩
  rcases hk with hk | hk
  · exact (hS k hk).1
  · unfold Mid at hk
    omega
theorem DSt.pdx {w0 : World} {X : Nat} (h : DSt S Z lo hi b rb B l ns c0 c1 ws true true u) (hS : ∀ k, S k → w0.heap.size ≤ k ∧ (k < lo ∨ hi ≤ k) ∧ k ≠ X) (hZ : hi ≤ Z ∧ w0.heap.size ≤ Z ∧ X < Z) (hlo : w0.heap.size ≤ lo) (hl : Below w0.heap.size w0 ws) : PDX w0 lo hi b rb B l ns c1 X u := by
  have h0 := h.pd (w0 := w0) (fun k hk => ⟨(hS k hk).1, (hS k hk).2.1⟩) ⟨hZ.1, hZ.2.1⟩ hlo hl
  obtain ⟨h1, h2, ⟨S', e1, e2⟩, h4⟩ := h
  exact ⟨⟨S', e1, fun k hk => (e2 k hk).elim (hS k) (fun e => ⟨by omega, .inr (by omega), by omega⟩)⟩, h0.rt, h0.mid, h0.low, by omega⟩
theorem DSt.both (h : DSt S Z lo hi b rb B l ns c0 c0 ws f g u) : DSt S Z lo hi b rb B l ns c0 c0 ws f true u := ⟨h.off, h.big, h.p, by have := h.r; cases g <;> exact this⟩
theorem DSt.start (h1 : PT S ws b l ns c0) (h2 : RT lo hi ws rb B ns c0) (hZ : Z ≤ ws.heap.size) : DSt S Z lo hi b rb B l ns c0 c1 ws false false ws := ⟨Off.refl _ _, hZ, h1, h2⟩
theorem PT.drew {w : World} {cs : List Int} (h : PT S w b l ns cs) : PT S w.drew b l ns cs := h.keep (fun _ _ => rfl) (Nat.le_refl _)
/-- a cell of a block that is none of theirs -/
theorem DSt.cell (h : DSt S Z lo hi b rb B l ns c0 c1 ws f g u) {X : Nat} (hX : X < ws.heap.size) (hn : ¬ (S X ∨ Mid lo hi X)) (o : Nat) : u.cell? ⟨X, o, none⟩ = ws.cell? ⟨X, o, none⟩ := World.cell?_of_block (h.off.block X hX hn)
end
end Go.Proofs.YtkkmjoadhjnldaaDoor
