/-
  Layer 13: what the laws ask of the project's plan of probes, as one statement (to be proved of the landed code), over a thing that is the plan.
-/
import Derived.Test.YtgneieelfapmcaaPrU
namespace Go.Proofs.Ytgneieelfapmcaa
open Go.RowKit
set_option maxRecDepth 100000

/-- the blocks of what a call told -/
def rowB2 (A B : Option Addr) (k : Nat) : Prop := (∃ ad, A = some ad ∧ ad.block = k) ∨ ∃ ad, B = some ad ∧ ad.block = k
/-- what a call on a thing leaves that tells two rows: they lie in new blocks, none of the thing's -/
structure Told (Y : Thing) (S : Nat → Prop) (A B : Option Addr) (w w' : World) : Prop where
  at_ : ∃ S', Y.p S' w' ∧ (∀ k, S' k → S k ∨ w.heap.size ≤ k) ∧ ∀ k, rowB2 A B k → w.heap.size ≤ k ∧ k < w'.heap.size ∧ ¬ S' k
  off : Off S w w'
/-- a number as the program's kinds hold it -/
def I64 (i : Int) : Prop := -9223372036854775808 ≤ i ∧ i ≤ 9223372036854775807
def U64 (n : Int) : Prop := 0 ≤ n ∧ n < 18446744073709551616
structure ProbeC (X : Nat → Pb → Thing) : Prop where
  bad : ∀ (n ev la : Int) (w : World), I64 n → U64 ev → U64 la → ¬ newOk13 n ev la → Calls Try.prog 8 #[.int .i64 n, .int .u64 ev, .int .u64 la] w fun e w' => e = .returned (.tuple #[.pointer none, .int .i64 1]) ∧ Below w.heap.size w w'
  good : ∀ (n ev la : Int) (w : World), newOk13 n ev la → Calls Try.prog 8 #[.int .i64 n, .int .u64 ev, .int .u64 la] w fun e w' => ∃ b, e = .returned (.tuple #[.pointer (some ⟨b, 0, none⟩), .int .i64 0]) ∧ (∃ S, (X b (newPb n ev la)).p S w' ∧ ∀ k, S k → w.heap.size ≤ k) ∧ Below w.heap.size w w'
  tick : ∀ (b : Nat) (p : Pb) (t now : Int) (k : Nat) (S : Nat → Prop) (w : World), (X b p).p S w → PrI t k p → t ≤ now → now ≤ 4294967296 → k ≤ 1000 →
    Calls Try.prog 10 #[.pointer (some ⟨b, 0, none⟩), .int .u64 now] w fun e w' => ∃ A n c B m d, e = .returned (.tuple #[.slice A n c, .slice B m d]) ∧ AK w' A n (tickA p now) ∧ NR w' B m (tickL p now) ∧ Told (X b (tickC p now)) S A B w w'
  answer : ∀ (b : Nat) (p : Pb) (t : Int) (k : Nat) (i n : Int) (S : Nat → Prop) (w : World), (X b p).p S w → PrI t k p → I64 i → U64 n →
    Calls Try.prog 15 #[.pointer (some ⟨b, 0, none⟩), .int .i64 i, .int .u64 n] w fun e w' => e = .returned (.bool (ansB p i n)) ∧ Turn (X b (ansC p i n)) S w w'
  out : ∀ (b : Nat) (p : Pb) (t : Int) (k : Nat) (i : Int) (S : Nat → Prop) (w : World), (X b p).p S w → PrI t k p → I64 i →
    Calls Try.prog 17 #[.pointer (some ⟨b, 0, none⟩), .int .i64 i] w fun e w' => e = .returned (.int .u64 (outP p i)) ∧ Below w.heap.size w w'
  due : ∀ (b : Nat) (p : Pb) (t : Int) (k : Nat) (i : Int) (S : Nat → Prop) (w : World), (X b p).p S w → PrI t k p → I64 i →
    Calls Try.prog 18 #[.pointer (some ⟨b, 0, none⟩), .int .i64 i] w fun e w' => e = .returned (.int .u64 (dueP p i)) ∧ Below w.heap.size w w'

section
variable {X : Nat → Pb → Thing} {w0 w w' : World} {N : Nat → Prop} {b : Nat} {p : Pb} {t now : Int} {k : Nat} {Y : Thing}
theorem Solo.told {A B : Option Addr} {S : Nat → Prop} (hl : Below w0.heap.size w0 w) (hn : ∀ k, N k → k < w.heap.size) (h2 : ∀ k, S k → w0.heap.size ≤ k ∧ ¬ N k) (ht : Told Y S A B w w') : Solo w0 Y (fun k => rowB2 A B k ∨ N k) w' ∧ ∀ k, N k → w'.heap[k]? = w.heap[k]? := by
  obtain ⟨⟨S', g1, g2, g4⟩, g3⟩ := ht
  have hz := hl.size
  refine ⟨⟨⟨S', g1, fun k hk => ⟨(g2 k hk).elim (fun e => (h2 k e).1) (fun e => by omega), fun e => e.elim (fun e => (g4 k e).2.2 hk) fun hN => (g2 k hk).elim (fun e => (h2 k e).2 hN) fun e => by have := hn k hN; omega⟩⟩, hl.trans (g3.below (fun k hk => (h2 k hk).1) hz), fun k hk => hk.elim (fun e => (g4 k e).2.1) fun e => Nat.lt_of_lt_of_le (hn k e) g3.size⟩, fun k hk => g3.block k (hn k hk) fun e => (h2 k e).2 hk⟩
theorem Solo.tick (C : ProbeC X) (h : Solo w0 (X b p) N w) (hp : PrI t k p) (h1 : t ≤ now) (h2 : now ≤ 4294967296) (hk : k ≤ 1000) :
    Calls Try.prog 10 #[.pointer (some ⟨b, 0, none⟩), .int .u64 now] w fun e w' => ∃ A n c B m d, e = .returned (.tuple #[.slice A n c, .slice B m d]) ∧ AK w' A n (tickA p now) ∧ NR w' B m (tickL p now) ∧ Solo w0 (X b (tickC p now)) (fun k => rowB2 A B k ∨ N k) w' ∧ (∀ k, N k → w'.heap[k]? = w.heap[k]?) ∧ w.heap.size ≤ w'.heap.size ∧ ∀ k, rowB2 A B k → w.heap.size ≤ k := by
  obtain ⟨⟨S, g1, g2⟩, g3, g4⟩ := h
  refine (C.tick b p t now k S w g1 hp h1 h2 hk).mono ?_
  rintro e w' ⟨A, n, c, B, m, d, he, ha, hb, ht⟩
  exact ⟨A, n, c, B, m, d, he, ha, hb, (Solo.told g3 g4 g2 ht).1, (Solo.told g3 g4 g2 ht).2, ht.off.size, fun k hk => by obtain ⟨S', _, _, h5⟩ := ht.at_; exact (h5 k hk).1⟩
theorem Solo.answer (C : ProbeC X) (h : Solo w0 (X b p) N w) (hp : PrI t k p) (i n : Int) (hi : I64 i) (hn : U64 n) :
    Calls Try.prog 15 #[.pointer (some ⟨b, 0, none⟩), .int .i64 i, .int .u64 n] w fun e w' => e = .returned (.bool (ansB p i n)) ∧ Solo w0 (X b (ansC p i n)) N w' ∧ ∀ k, N k → w'.heap[k]? = w.heap[k]? := h.op fun S hx => C.answer b p t k i n S w hx hp hi hn
theorem Solo.out (C : ProbeC X) (h : Solo w0 (X b p) N w) (hp : PrI t k p) (i : Int) (hi : I64 i) :
    Calls Try.prog 17 #[.pointer (some ⟨b, 0, none⟩), .int .i64 i] w fun e w' => e = .returned (.int .u64 (outP p i)) ∧ Solo w0 (X b p) N w' ∧ Below w.heap.size w w' := by
  obtain ⟨S, g1, _⟩ := h.at_
  exact (C.out b p t k i S w g1 hp hi).mono fun e w' ⟨he, hb⟩ => ⟨he, h.next hb, hb⟩
theorem Solo.due (C : ProbeC X) (h : Solo w0 (X b p) N w) (hp : PrI t k p) (i : Int) (hi : I64 i) :
    Calls Try.prog 18 #[.pointer (some ⟨b, 0, none⟩), .int .i64 i] w fun e w' => e = .returned (.int .u64 (dueP p i)) ∧ Solo w0 (X b p) N w' ∧ Below w.heap.size w w' := by
  obtain ⟨S, g1, _⟩ := h.at_
  exact (C.due b p t k i S w g1 hp hi).mono fun e w' ⟨he, hb⟩ => ⟨he, h.next hb, hb⟩
theorem AK.kept {A : Option Addr} {n : Nat} {ts : List (Int × Int)} (h : AK w A n ts) (hz : w.heap.size ≤ w'.heap.size) (hk : ∀ k, (∃ ad, A = some ad ∧ ad.block = k) → w'.heap[k]? = w.heap[k]?) : AK w' A n ts := h.off hz fun ad hA => hk _ ⟨ad, hA, rfl⟩
theorem NR.kept13 {A : Option Addr} {n : Nat} {zs : List Int} (h : NR w A n zs) (hz : w.heap.size ≤ w'.heap.size) (hk : ∀ k, (∃ ad, A = some ad ∧ ad.block = k) → w'.heap[k]? = w.heap[k]?) : NR w' A n zs := h.off hz fun ad hA => hk _ ⟨ad, hA, rfl⟩
theorem PrI.outU {t : Int} {k : Nat} {p : Pb} (h : PrI t k p) (hk : k ≤ 1000) (i : Int) : U64 (outP p i) := by
  have h0 := h.n0
  have hm := h.nm
  by_cases hi : 0 ≤ i ∧ i < p.l.length
  · have hj : i.toNat < p.l.length := by omega
    have := h.at_ i.toNat hj
    rw [outP_at hi.1 hj]
    exact ⟨this.o0, by have := this.ol; omega⟩
  · rw [outP_no hi]
    exact ⟨by decide, by decide⟩
/-- a cell of a block that is none of the thing's is written -/
theorem Solo.poke (h : Solo w0 Y N w) {a : Addr} (hN : N a.block) (h0 : w0.heap.size ≤ a.block) (v : Value) : Solo w0 Y N (w.setCell a v) := by
  obtain ⟨⟨S, g1, g2⟩, g3, g4⟩ := h
  exact ⟨⟨S, Y.keep g1 (fun k hk => set_other fun e => (g2 k hk).2 (e ▸ hN)) (by rw [set_size]; exact Nat.le_refl _), g2⟩, g3.setCell (p := a) h0 v, fun k hk => by rw [set_size]; exact g4 k hk⟩
end
end Go.Proofs.Ytgneieelfapmcaa
