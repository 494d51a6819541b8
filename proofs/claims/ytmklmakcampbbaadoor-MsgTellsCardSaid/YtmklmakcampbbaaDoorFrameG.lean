/-
  All frames of bytes; a decoder in memory; what New, keep and Pending of package frame do: contracts.
-/
import Derived.Test.YtmklmakcampbbaaDoorFrameF
namespace Go.Proofs.YtmklmakcampbbaaDoor
open Go.RowKit
set_option maxRecDepth 100000

theorem readF_ok {bs : List UInt8} (h : (readF bs).2.2.2 = 0) : 0 < (readF bs).2.2.1 ∧ (readF bs).2.2.1 ≤ bs.length ∧ (readF bs).2.1.length ≤ 300 ∧ (readF bs).1 ≠ 0 := by
  unfold readF at h ⊢
  by_cases h2 : bs.length < 2
  · rw [if_pos h2] at h; simp at h
  rw [if_neg h2] at h ⊢
  by_cases h0 : val (bs.take 2) = 0
  · rw [if_pos h0] at h; simp at h
  rw [if_neg h0] at h ⊢
  by_cases h1 : 301 < val (bs.take 2)
  · rw [if_pos h1] at h; simp at h
  rw [if_neg h1] at h ⊢
  by_cases hs : bs.length < 2 + val (bs.take 2)
  · rw [if_pos hs] at h; simp at h
  rw [if_neg hs] at h ⊢
  by_cases hk : bs.getD 2 0 = 0
  · rw [if_pos hk] at h; simp at h
  rw [if_neg hk]
  refine ⟨by simp only []; omega, by simp only []; omega, ?_, hk⟩
  simp only [List.length_drop, List.length_take]
  omega

/-- the frames of bytes, what is left, the error -/
def allF (bs : List UInt8) : List (UInt8 × List UInt8) × List UInt8 × Int :=
  if _h : (readF bs).2.2.2 = 0 then
    (((readF bs).1, (readF bs).2.1) :: (allF (bs.drop (readF bs).2.2.1)).1, (allF (bs.drop (readF bs).2.2.1)).2)
  else if (readF bs).2.2.2 = 3 then ([], bs, 0)
  else ([], [], (readF bs).2.2.2)
termination_by bs.length
decreasing_by all_goals (have := readF_ok _h; rw [List.length_drop]; omega)

theorem allF_step {bs : List UInt8} (h : (readF bs).2.2.2 = 0) : allF bs = (((readF bs).1, (readF bs).2.1) :: (allF (bs.drop (readF bs).2.2.1)).1, (allF (bs.drop (readF bs).2.2.1)).2) := by
  rw [allF, dif_pos h]
theorem allF_short {bs : List UInt8} (h : (readF bs).2.2.2 = 3) : allF bs = ([], bs, 0) := by
  rw [allF, dif_neg (by rw [h]; decide), if_pos h]
theorem allF_bad {bs : List UInt8} (h : (readF bs).2.2.2 ≠ 0) (h3 : (readF bs).2.2.2 ≠ 3) : allF bs = ([], [], (readF bs).2.2.2) := by
  rw [allF, dif_neg h, if_neg h3]

/-- all but one block is as it was -/
structure Bel (b : Nat) (w w' : World) : Prop where
  os : w'.os = w.os
  tape : w'.tape = w.tape
  output : w'.output = w.output
  size : w.heap.size ≤ w'.heap.size
  block : ∀ k, k < w.heap.size → k ≠ b → w'.heap[k]? = w.heap[k]?
theorem Bel.of {w w' : World} (b : Nat) (h : Below w.heap.size w w') : Bel b w w' := ⟨h.os, h.tape, h.output, h.size, fun k hk _ => h.block k hk⟩
theorem Bel.trans {b : Nat} {a c d : World} (h : Bel b a c) (k : Bel b c d) : Bel b a d :=
  ⟨k.os.trans h.os, k.tape.trans h.tape, k.output.trans h.output, Nat.le_trans h.size k.size, fun i hi hn => (k.block i (Nat.lt_of_lt_of_le hi h.size) hn).trans (h.block i hi hn)⟩
theorem Bel.below {b B : Nat} {w w' : World} (h : Bel b w w') (hB : B ≤ b) (hw : B ≤ w.heap.size) : Below B w w' := ⟨h.os, h.tape, h.output, h.size, fun k hk => h.block k (by omega) (by omega)⟩
theorem Bel.setCell {b : Nat} {w w' : World} (h : Bel b w w') (p : Addr) (hp : p.block = b) (u : Value) : Bel b w (w'.setCell p u) :=
  ⟨h.os, h.tape, h.output, by have := h.size; simp only [World.setCell, Array.size_modify]; exact this, fun k hk hn => by rw [Below.heap_setCell _ _ _ _ (by omega)]; exact h.block k hk hn⟩
theorem own_bel {w w' : World} {base n size b : Nat} {e : TypeId} {v : Value} {xs : List Value} (h : w.ownsRow base e size v n xs) (hb : Bel b w w') (hB : b < base) : w'.ownsRow base e size v n xs := by
  refine ⟨h.1, ?_⟩
  rcases h.2 with h2 | ⟨g, cap, cur, hv, hg, hh, r⟩
  · exact .inl h2
  · have hlt := (Array.getElem?_eq_some_iff.1 hh).1
    exact .inr ⟨g, cap, cur, hv, hg, (hb.block g hlt (by omega)).trans hh, r⟩
theorem Ow.bel {w w' : World} {base b : Nat} {A : Option Addr} {l c : Nat} {bs : List UInt8} (h : Ow w base A l c bs) (hb : Bel b w w') (hB : b < base) : Ow w' base A l c bs := ⟨own_bel h.own hb hB, h.len, h.cap, h.most⟩

/-- a row of frames of the call's own -/
structure FO (w : World) (base : Nat) (A : Option Addr) (n c : Nat) (rs : List Rep) : Prop where
  own : w.ownsRow base 28 2 (.slice A n c) n (repCells rs)
  body : ∀ r ∈ rs, Ow w base r.p.A r.p.l r.p.c r.p.bs
theorem FO.len {w : World} {base n c : Nat} {A : Option Addr} {rs : List Rep} (h : FO w base A n c rs) : rs.length = n := by
  have := h.own.1
  rw [repCells_length] at this
  omega
theorem FO.bel {w w' : World} {base n c b : Nat} {A : Option Addr} {rs : List Rep} (h : FO w base A n c rs) (hb : Bel b w w') (hB : b < base) : FO w' base A n c rs := ⟨own_bel h.own hb hB, fun r hr => (h.body r hr).bel hb hB⟩
theorem FO.next {w w' : World} {base n c : Nat} {A : Option Addr} {rs : List Rep} (h : FO w base A n c rs) (hb : Below w.heap.size w w') : FO w' base A n c rs := ⟨own_below_s h.own hb (Nat.le_refl _), fun r hr => (h.body r hr).next hb⟩
theorem FO.fr {w : World} {base n c : Nat} {A : Option Addr} {rs : List Rep} (h : FO w base A n c rs) : FR w A n rs := ⟨h.len, Rd.of_own2 h.own, fun r hr => (h.body r hr).sl⟩
theorem FO.base {w : World} {base base' n c : Nat} {A : Option Addr} {rs : List Rep} (h : FO w base A n c rs) (hb : base' ≤ base) : FO w base' A n c rs := ⟨own_base_s h.own hb, fun r hr => (h.body r hr).base hb⟩
theorem FO.nil (w : World) (base : Nat) : FO w base none 0 0 [] := ⟨World.ownsRow_nil _ _ _ _, fun r hr => by simp at hr⟩

/-- a decoder: where it is, what it keeps, its error -/
structure Dec (w : World) (b base : Nat) (kept : List UInt8) (x : Int) : Prop where
  at_ : ∃ A l c, w.heap[b]? = some (.cells #[.slice A l c, .int .i64 x] 80 (0, 0)) ∧ Ow w base A l c kept
theorem Dec.lt {w : World} {b base : Nat} {kept : List UInt8} {x : Int} (h : Dec w b base kept x) : b < w.heap.size := by
  obtain ⟨A, l, c, h, _⟩ := h.at_
  exact (Array.getElem?_eq_some_iff.1 h).1
theorem Dec.next {w w' : World} {b base : Nat} {kept : List UInt8} {x : Int} (h : Dec w b base kept x) (hb : Below w.heap.size w w') : Dec w' b base kept x := by
  have hlt := h.lt
  obtain ⟨A, l, c, h, ho⟩ := h.at_
  exact ⟨A, l, c, (hb.block b hlt).trans h, ho.next hb⟩
theorem Dec.bel {w w' : World} {b b' base : Nat} {kept : List UInt8} {x : Int} (h : Dec w b base kept x) (hb : Bel b' w w') (hne : b ≠ b') (hB : b' < base) : Dec w' b base kept x := by
  have hlt := h.lt
  obtain ⟨A, l, c, h, ho⟩ := h.at_
  exact ⟨A, l, c, (hb.block b hlt hne).trans h, ho.bel hb hB⟩
theorem Dec.base {w : World} {b base base' : Nat} {kept : List UInt8} {x : Int} (h : Dec w b base kept x) (hB : base' ≤ base) : Dec w b base' kept x := by
  obtain ⟨A, l, c, h, ho⟩ := h.at_
  exact ⟨A, l, c, h, ho.base hB⟩

theorem new_any (w : World) (base : Nat) : Calls Tryd.prog 21 #[] w fun e w' => e = .returned (.pointer (some ⟨w.heap.size, 0, none⟩)) ∧ Dec w' w.heap.size base [] 0 ∧ w'.heap.size = w.heap.size + 1 ∧ Below w.heap.size w w' := by
  go_enter Tryd.func21, Tryd.ntmps21
  go_wp2
  go_ret
  exact ⟨rfl, ⟨none, 0, 0, heap_alloc_new w _, Ow.nil _ _⟩, by simp, kp_new _ _⟩

theorem pending_any (w : World) (b base : Nat) (kept : List UInt8) (x : Int) (h : Dec w b base kept x) : Calls Tryd.prog 23 #[.pointer (some ⟨b, 0, none⟩)] w fun e w' => e = .returned (.int .i64 (kept.length : Int)) ∧ w = w' := by
  obtain ⟨A, l, c, hb, ho⟩ := h.at_
  obtain ⟨c0, c1, f0, f1⟩ := two_cells hb
  have HL := Lib.hid ho.len
  clear hb
  go_enter Tryd.func23, Tryd.ntmps23
  go_wp2
  go_ret
  exact ⟨by rw [HL.out]; rfl, rfl⟩

/-- a store into one of two cells -/
theorem two_set {w : World} {b : Nat} {x y : Value} {t : TypeId} (h : w.heap[b]? = some (.cells #[x, y] t (0, 0))) (u : Value) : (w.setCell ⟨b, 0, none⟩ u).heap[b]? = some (.cells #[u, y] t (0, 0)) ∧ (w.setCell ⟨b, 1, none⟩ u).heap[b]? = some (.cells #[x, u] t (0, 0)) := by
  constructor <;> simp [World.setCell, Array.getElem?_modify, h]

set_option maxHeartbeats 400000 in
theorem keep_any (w : World) (b : Nat) (X : Value) (x : Int) (A : Option Addr) (l c : Nat) (bs : List UInt8) (hb : w.heap[b]? = some (.cells #[X, .int .i64 x] 80 (0, 0))) (hr : Sl w w.heap.size A l c bs) (hl : l ≤ 1000000) :
    Calls Tryd.prog 41 #[.pointer (some ⟨b, 0, none⟩), .slice A l c] w fun e w' => e = .returned (.tuple #[]) ∧ Dec w' b w.heap.size bs x ∧ Bel b w w' := by
  have hlt : b < w.heap.size := (Array.getElem?_eq_some_iff.1 hb).1
  have HB := Lib.hid hb
  clear hb
  go_enter Tryd.func41, Tryd.ntmps41
  go_wp2_with fail
  refine (fown_any _ _ _ _ _ hr hl).mono ?_
  rintro e w1 ⟨A1, c1, rfl, ho1, hb1⟩
  have hb2 := (hb1.block b hlt).trans HB.out
  obtain ⟨c0, d1, f0, f1⟩ := two_cells hb2
  have HB2 := Lib.hid hb2
  clear hb2
  go_wp2_with fail
  go_end0
  refine ⟨rfl, ⟨A1, l, c1, (two_set HB2.out _).1, ho1.setCell hlt _⟩, (Bel.of b hb1).setCell _ rfl _⟩
end Go.Proofs.YtmklmakcampbbaaDoor
