/-
  All but one block is as it was: a frame for calls that write one block of the caller's.
-/
import Derived.Test.YtpmkaceeomnijaaBase
namespace Go.Proofs.Ytpmkaceeomnijaa
open Go.RowKit
set_option maxRecDepth 100000

/-- all but one block is as it was -/
structure Bel (b : Nat) (w w' : World) : Prop where
  os : w'.os = w.os
  tape : w'.tape = w.tape
  output : w'.output = w.output
  size : w.heap.size ≤ w'.heap.size
  block : ∀ k, k < w.heap.size → k ≠ b → w'.heap[k]? = w.heap[k]?
theorem Bel.of {w w' : World} (b : Nat) (h : Below w.heap.size w w') : Bel b w w' := ⟨h.os, h.tape, h.output, h.size, fun k hk _ => h.block k hk⟩
theorem Bel.trans {b : Nat} {a c d : World} (h : Bel b a c) (k : Bel b c d) : Bel b a d :=
  ⟨k.os.trans h.os, k.tape.trans h.tape, k.output.trans h.output, Nat.le_trans h.size k.size, fun i hi hn => (k.block i (Nat.lt_of_lt_of_le hi h.size) hn).trans (h.block i hi hn)⟩
theorem Bel.below {b B : Nat} {w w' : World} (h : Bel b w w') (hB : B ≤ b) (hw : B ≤ w.heap.size) : Below B w w' := ⟨h.os, h.tape, h.output, h.size, fun k hk => h.block k (by omega) (by omega)⟩
theorem Bel.setCell {b : Nat} {w w' : World} (h : Bel b w w') (p : Addr) (hp : p.block = b) (u : Value) : Bel b w (w'.setCell p u) :=
  ⟨h.os, h.tape, h.output, by have := h.size; simp only [World.setCell, Array.size_modify]; exact this, fun k hk hn => by rw [Below.heap_setCell _ _ _ _ (by omega)]; exact h.block k hk hn⟩
theorem Bel.drew {b : Nat} {w w' : World} (h : Bel b w w') : Bel b w w'.drew := ⟨h.os, h.tape, h.output, h.size, h.block⟩
theorem Bel.ofDrew {b : Nat} {w w' : World} (h : Below w.drew.heap.size w.drew w') : Bel b w w' := ⟨h.os, h.tape, h.output, h.size, fun k hk _ => h.block k hk⟩
theorem own_bel {w w' : World} {base n size b : Nat} {e : TypeId} {v : Value} {xs : List Value} (h : w.ownsRow base e size v n xs) (hb : Bel b w w') (hB : b < base) : w'.ownsRow base e size v n xs := by
  refine ⟨h.1, ?_⟩
  rcases h.2 with h2 | ⟨g, cap, cur, hv, hg, hh, r⟩
  · exact .inl h2
  · have hlt := (Array.getElem?_eq_some_iff.1 hh).1
    exact .inr ⟨g, cap, cur, hv, hg, (hb.block g hlt (by omega)).trans hh, r⟩
theorem Ow.bel {w w' : World} {base b : Nat} {A : Option Addr} {l c : Nat} {bs : List UInt8} (h : Ow w base A l c bs) (hb : Bel b w w') (hB : b < base) : Ow w' base A l c bs := ⟨own_bel h.own hb hB, h.len, h.cap, h.most⟩

end Go.Proofs.Ytpmkaceeomnijaa
