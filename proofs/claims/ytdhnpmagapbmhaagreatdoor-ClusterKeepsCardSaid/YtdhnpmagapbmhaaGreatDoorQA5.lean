/-
  Contracts and plain functions that the law stands on, part 5 of 19.
-/
import Derived.Test.YtdhnpmagapbmhaaGreatDoorQA4
import Derived.BigRegion
import Derived.BigQuiet
import Derived.OneCell
import Derived.Deep.AppendSrc
import Derived.Lib.SliceRun
import Derived.Laws.StructEq
import Derived.Test.YtdhnpmagapbmhaaGreatDoorShelf4
namespace Go.Proofs.YtdhnpmagapbmhaaGreatDoor
/- What is read of a table, by the call Reads of package plan: contract. Rows of texts. -/
section
open Go.RowKit
set_option maxRecDepth 100000

def tvs (l : List ByteArray) : List Value := l.map .string
theorem tvs_length (l : List ByteArray) : (tvs l).length = l.length := by simp [tvs]
theorem tvs_append (a b : List ByteArray) : tvs (a ++ b) = tvs a ++ tvs b := by simp [tvs]
theorem strinfo6 : (Tryz.prog.info? 9).map (fun i => (i.zero, i.size, i.bytes)) = some (some (.string ⟨#[]⟩), 1, 16) := by kernel_rfl
/-- a row of texts that is read -/
structure XR (w : World) (A : Option Addr) (n : Nat) (ss : List ByteArray) : Prop where
  len : ss.length = n
  rd : Rd w w.heap.size A (tvs ss)
theorem XR.next {w w' : World} {A : Option Addr} {n : Nat} {ss : List ByteArray} (h : XR w A n ss) (hb : Below w.heap.size w w') : XR w' A n ss := ⟨h.len, (h.rd.below hb (Nat.le_refl _)).more hb.size⟩
theorem XR.nil (w : World) : XR w none 0 [] := ⟨rfl, .inl rfl⟩
theorem XR.at_ {w : World} {A : Option Addr} {n : Nat} {ss : List ByteArray} (h : XR w A n ss) {j : Nat} (hj : j < ss.length) : ∃ ad, A = some ad ∧ ad.block < w.heap.size ∧ w.cell? (ad.add j) = some (.string ss[j]) := by
  obtain ⟨ad, hA, hb, hc⟩ := h.rd.at_ (k := j) (by rw [tvs_length]; exact hj)
  exact ⟨ad, hA, hb, by simpa [tvs] using hc⟩
theorem XR.new (w : World) (t : TypeId) (ss : List ByteArray) : XR (w.alloc (.cells (tvs ss).toArray t)) (some ⟨w.heap.size, 0, none⟩) ss.length ss := ⟨rfl, (Rd.new w t (tvs ss)).more (by simp)⟩
theorem XR.of_own {w : World} {base n c : Nat} {e : TypeId} {A : Option Addr} {ss : List ByteArray} (h : w.ownsRow base e 1 (.slice A n c) n (tvs ss)) : XR w A n ss := ⟨by have := h.1; rw [tvs_length] at this; omega, Rd.of_own h⟩

theorem firsts_next (l : List Kv) (k : Nat) (h : k < l.length) : ((l.take (k + 1)).flatMap fun p => [p.k, p.v]) = ((l.take k).flatMap fun p => [p.k, p.v]) ++ [l[k].k, l[k].v] := by
  rw [List.take_succ_eq_append_getElem h, List.flatMap_append]
  rfl
end

/- All but one block is as it was: a frame for calls that write one block of the caller's. -/
section
open Go.RowKit
set_option maxRecDepth 100000

/-- all but one block is as it was -/
structure Bel (b : Nat) (w w' : World) : Prop where
  os : w'.os = w.os
  tape : w'.tape = w.tape
  output : w'.output = w.output
  size : w.heap.size ≤ w'.heap.size
  block : ∀ k, k < w.heap.size → k ≠ b → w'.heap[k]? = w.heap[k]?
theorem Bel.of {w w' : World} (b : Nat) (h : Below w.heap.size w w') : Bel b w w' := ⟨h.os, h.tape, h.output, h.size, fun k hk _ => h.block k hk⟩
theorem Bel.trans {b : Nat} {a c d : World} (h : Bel b a c) (k : Bel b c d) : Bel b a d :=
  ⟨k.os.trans h.os, k.tape.trans h.tape, k.output.trans h.output, Nat.le_trans h.size k.size, fun i hi hn => (k.block i (Nat.lt_of_lt_of_le hi h.size) hn).trans (h.block i hi hn)⟩
theorem Bel.setCell {b : Nat} {w w' : World} (h : Bel b w w') (p : Addr) (hp : p.block = b) (u : Value) : Bel b w (w'.setCell p u) :=
  ⟨h.os, h.tape, h.output, by have := h.size; simp only [World.setCell, Array.size_modify]; exact this, fun k hk hn => by rw [Below.heap_setCell _ _ _ _ (by omega)]; exact h.block k hk hn⟩
theorem Bel.drew {b : Nat} {w w' : World} (h : Bel b w w') : Bel b w w'.drew := ⟨h.os, h.tape, h.output, h.size, h.block⟩
theorem Bel.ofDrew {b : Nat} {w w' : World} (h : Below w.drew.heap.size w.drew w') : Bel b w w' := ⟨h.os, h.tape, h.output, h.size, fun k hk _ => h.block k hk⟩
end

/- All but some blocks are as they were: a frame for calls that write blocks of their own things. -/
section
open Go.RowKit
set_option maxRecDepth 100000

/-- all blocks but these are as they were -/
structure Off (S : Nat → Prop) (w w' : World) : Prop where
  os : w'.os = w.os
  tape : w'.tape = w.tape
  output : w'.output = w.output
  size : w.heap.size ≤ w'.heap.size
  block : ∀ k, k < w.heap.size → ¬ S k → w'.heap[k]? = w.heap[k]?
section
variable {S T : Nat → Prop} {w w' w'' : World}
theorem Off.refl (S : Nat → Prop) (w : World) : Off S w w := ⟨rfl, rfl, rfl, Nat.le_refl _, fun _ _ _ => rfl⟩
theorem Off.of (S : Nat → Prop) (h : Below w.heap.size w w') : Off S w w' := ⟨h.os, h.tape, h.output, h.size, fun k hk _ => h.block k hk⟩
theorem Off.bel {b : Nat} (hS : S b) (h : Bel b w w') : Off S w w' := ⟨h.os, h.tape, h.output, h.size, fun k hk hn => h.block k hk fun e => hn (e ▸ hS)⟩
theorem Off.trans (h : Off S w w') (k : Off T w' w'') (hT : ∀ i, T i → S i ∨ w.heap.size ≤ i) : Off S w w'' :=
  ⟨k.os.trans h.os, k.tape.trans h.tape, k.output.trans h.output, Nat.le_trans h.size k.size, fun i hi hn => (k.block i (Nat.lt_of_lt_of_le hi h.size) fun e => (hT i e).elim hn fun e => by omega).trans (h.block i hi hn)⟩
theorem Off.below {B : Nat} (h : Off S w w') (hS : ∀ k, S k → B ≤ k) (hB : B ≤ w.heap.size) : Below B w w' := ⟨h.os, h.tape, h.output, h.size, fun k hk => h.block k (by omega) fun e => by have := hS k e; omega⟩
theorem Off.setCell (h : Off S w w') {p : Addr} (hp : S p.block ∨ w.heap.size ≤ p.block) (u : Value) : Off S w (w'.setCell p u) :=
  ⟨h.os, h.tape, h.output, by have := h.size; simp only [World.setCell, Array.size_modify]; exact this, fun k hk hn => by
    rw [Below.heap_setCell _ _ _ _ (fun e => by subst e; exact hp.elim hn fun e => by omega)]
    exact h.block k hk hn⟩
theorem Off.drew (h : Off S w w') : Off S w w'.drew := ⟨h.os, h.tape, h.output, h.size, h.block⟩
theorem Off.wide (h : Off S w w') (hS : ∀ k, S k → T k) : Off T w w' := ⟨h.os, h.tape, h.output, h.size, fun k hk hn => h.block k hk fun e => hn (hS k e)⟩
end
theorem own_keep {w w' : World} {base n size : Nat} {e : TypeId} {v : Value} {xs : List Value} (h : w.ownsRow base e size v n xs) (hk : ∀ g, v.ownBlock = some g → w'.heap[g]? = w.heap[g]?) : w'.ownsRow base e size v n xs := by
  refine ⟨h.1, ?_⟩
  rcases h.2 with h2 | ⟨g, cap, cur, hv, hg, hh, r⟩
  · exact .inl h2
  · exact .inr ⟨g, cap, cur, hv, hg, (hk g (by rw [hv]; rfl)).trans hh, r⟩
/-- a cell of a block that is known -/
theorem cellsAt {w : World} {b : Nat} {cs : Array Value} {t : TypeId} (h : w.heap[b]? = some (.cells cs t (0, 0))) (i : Nat) {v : Value} (hi : cs[i]? = some v) : w.cell? ⟨b, i, none⟩ = some v ∧ w.frozen? ⟨b, i, none⟩ = false := by
  refine ⟨?_, frozen_of_row w b i cs t h⟩
  rw [cell_of_row _ _ i cs t (0, 0) h]
  exact hi
end

/- A region that draws its order, gone through once an operation: the world's state may turn as operations are done, and blocks of some things may be written. -/
section
open Go.RowKit

/-- one operation more is done -/
def doneB (L : Nat → Bool) (i : Nat) : Nat → Bool := fun j => bif Nat.beq j i then true else L j
theorem doneB_ext {L : Nat → Bool} {i : Nat} {M : Nat → Bool} (h : M i = true) (h2 : ∀ j, j ≠ i → M j = L j) : M = doneB L i := by
  funext j
  unfold doneB
  by_cases hj : j = i
  · subst hj
    rw [h, show Nat.beq j j = true from Nat.beq_refl j]
    rfl
  · rw [h2 j hj, show Nat.beq j i = false from by
      cases hb : Nat.beq j i with
      | false => rfl
      | true => exact absurd (Nat.eq_of_beq_eq_true hb) hj]
    rfl

section
variable {P : Program} {ops : Array Oper} {Q : Exit → Act → World → Prop}

end
end

/- Things that lie in blocks of their own, one or two of them, and what calls on them leave (no function of the program is named here). -/
section
open Go.RowKit
set_option maxRecDepth 100000

/-- a thing: what it asks of a world, by its blocks -/
structure Thing where
  p : (Nat → Prop) → World → Prop
  keep : ∀ {S : Nat → Prop} {w w' : World}, p S w → (∀ k, S k → w'.heap[k]? = w.heap[k]?) → w.heap.size ≤ w'.heap.size → p S w'
  lt : ∀ {S : Nat → Prop} {w : World}, p S w → ∀ k, S k → k < w.heap.size
/-- what is left by a call on a thing whose blocks are S: it is Y then -/
structure Turn (Y : Thing) (S : Nat → Prop) (w w' : World) : Prop where
  at_ : ∃ S', Y.p S' w' ∧ ∀ k, S' k → S k ∨ w.heap.size ≤ k
  off : Off S w w'
section
variable {X Y Z : Thing} {S T : Nat → Prop} {w w' w'' : World}
theorem Thing.off (h : X.p S w) (ho : Off T w w') (hT : ∀ k, S k → ¬ T k) : X.p S w' := X.keep h (fun k hk => ho.block k (X.lt h k hk) (hT k hk)) ho.size
theorem Thing.next (h : X.p S w) (hb : Below w.heap.size w w') : X.p S w' := X.keep h (fun k hk => hb.block k (X.lt h k hk)) hb.size
theorem Turn.same (h : X.p S w) (hb : Below w.heap.size w w') : Turn X S w w' := ⟨⟨S, Thing.next h hb, fun _ h => .inl h⟩, Off.of S hb⟩
theorem Turn.here (h : X.p S w) : Turn X S w w := ⟨⟨S, h, fun _ h => .inl h⟩, Off.refl _ _⟩
end

/-- one thing that a call made itself; the blocks N are none of it -/
structure Solo (w0 : World) (X : Thing) (N : Nat → Prop) (w : World) : Prop where
  at_ : ∃ S, X.p S w ∧ ∀ k, S k → w0.heap.size ≤ k ∧ ¬ N k
  low : Below w0.heap.size w0 w
  nlt : ∀ k, N k → k < w.heap.size
/-- two -/
structure Duo (w0 : World) (X Y : Thing) (N : Nat → Prop) (w : World) : Prop where
  at_ : ∃ S T, X.p S w ∧ Y.p T w ∧ (∀ k, S k → ¬ T k) ∧ ∀ k, S k ∨ T k → w0.heap.size ≤ k ∧ ¬ N k
  low : Below w0.heap.size w0 w
  nlt : ∀ k, N k → k < w.heap.size
def noneB : Nat → Prop := fun _ => False
section
variable {P : Program} {w0 w w' : World} {X X' Y Y' : Thing} {N N' S T : Nat → Prop}
theorem Solo.make (hl : Below w0.heap.size w0 w) (hx : X.p S w') (hS : ∀ k, S k → w.heap.size ≤ k) (hb : Below w.heap.size w w') : Solo w0 X noneB w' := by
  have hz := hl.size
  exact ⟨⟨S, hx, fun k hk => ⟨by have := hS k hk; omega, fun h => h⟩⟩, hl.trans (hb.mono hz), fun k h => h.elim⟩

theorem Duo.swap (h : Duo w0 X Y N w) : Duo w0 Y X N w := by
  obtain ⟨⟨S, T, h1, h2, h3, h4⟩, h5, h6⟩ := h
  exact ⟨⟨T, S, h2, h1, fun k hk hk2 => h3 k hk2 hk, fun k hk => h4 k hk.symm⟩, h5, h6⟩
theorem Duo.next (h : Duo w0 X Y N w) (hb : Below w.heap.size w w') : Duo w0 X Y N w' := by
  obtain ⟨⟨S, T, h1, h2, h3, h4⟩, h5, h6⟩ := h
  exact ⟨⟨S, T, Thing.next h1 hb, Thing.next h2 hb, h3, h4⟩, h5.trans (hb.mono h5.size), fun k hk => Nat.lt_of_lt_of_le (h6 k hk) hb.size⟩
theorem Duo.mark (h : Duo w0 X Y N w) (o : Obj) : Duo w0 X Y (fun k => k = w.heap.size ∨ N k) (w.alloc o) := by
  have hb : Below w.heap.size w (w.alloc o) := (Below.refl _ _).alloc (Nat.le_refl _) o
  obtain ⟨⟨S, T, h1, h2, h3, h4⟩, h5, h6⟩ := h
  refine ⟨⟨S, T, Thing.next h1 hb, Thing.next h2 hb, h3, fun k hk => ⟨(h4 k hk).1, fun e => e.elim (fun e => ?_) (h4 k hk).2⟩⟩, h5.trans (hb.mono h5.size), fun k hk => ?_⟩
  · have := hk.elim (X.lt h1 k) (Y.lt h2 k)
    omega
  · rcases hk with rfl | hk
    · simp
    · have := h6 k hk
      simp
      omega
theorem Duo.left {f : FuncId} {args : Array Value} {Q : Ending → World → Prop} (h : Duo w0 X Y N w) (hop : ∀ S, X.p S w → Calls P f args w fun e w' => Q e w' ∧ Turn X' S w w') :
    Calls P f args w fun e w' => Q e w' ∧ Duo w0 X' Y N w' ∧ ∀ k, N k → w'.heap[k]? = w.heap[k]? := by
  obtain ⟨⟨S, T, h1, h2, h3, h4⟩, h5, h6⟩ := h
  refine (hop S h1).mono fun e w' ⟨hq, ⟨S', g1, g2⟩, g3⟩ => ⟨hq, ⟨⟨S', T, g1, Thing.off h2 g3 (fun k hk hk2 => h3 k hk2 hk), fun k hk hk2 => ?_, fun k hk => ?_⟩, h5.trans (g3.below (fun k hk => (h4 k (.inl hk)).1) h5.size), fun k hk => Nat.lt_of_lt_of_le (h6 k hk) g3.size⟩, fun k hk => g3.block k (h6 k hk) fun e => (h4 k (.inl e)).2 hk⟩
  · rcases g2 k hk with e | e
    · exact h3 k e hk2
    · have := Y.lt h2 k hk2; omega
  · rcases hk with hk | hk
    · rcases g2 k hk with e | e
      · exact h4 k (.inl e)
      · have := h5.size
        exact ⟨by omega, fun hN => by have := h6 k hN; omega⟩
    · exact h4 k (.inr hk)
theorem Solo.duo (h : Solo w0 X noneB w) (hy : Y.p T w') (hT : ∀ k, T k → w.heap.size ≤ k) (hb : Below w.heap.size w w') : Duo w0 X Y noneB w' := by
  obtain ⟨⟨S, h1, h2⟩, h3, _⟩ := h
  have hz := h3.size
  exact ⟨⟨S, T, Thing.next h1 hb, hy, fun k hk hk2 => by have := X.lt h1 k hk; have := hT k hk2; omega, fun k hk => hk.elim (h2 k) fun hk => ⟨by have := hT k hk; omega, fun h => h⟩⟩, h3.trans (hb.mono hz), fun k h => h.elim⟩
end

section
variable {S T N : Nat → Prop} {Z : Nat} {X0 X1 Y0 Y1 : Thing} {w0 ws u u' : World} {f g : Bool}
end
end

/- The document's layer 15: nodes in memory; New, find, Lead: contracts. -/
section
open Go.RowKit
set_option maxRecDepth 100000

theorem entinfo : (Tryz.prog.info? 100).map (fun i => (i.zero, i.size, i.bytes)) = some (some (.agg #[.int .u64 0, .string ⟨#[]⟩]), 2, 24) := by kernel_rfl
theorem set_other {w : World} {p : Addr} {v : Value} {k : Nat} (h : k ≠ p.block) : (w.setCell p v).heap[k]? = w.heap[k]? := Below.heap_setCell _ _ _ _ fun e => h (by first | exact e | exact e.symm)
theorem set_size (w : World) (p : Addr) (v : Value) : (w.setCell p v).heap.size = w.heap.size := by simp [World.setCell]
theorem XR.off {w w' : World} {A : Option Addr} {n : Nat} {ss : List ByteArray} (h : XR w A n ss) (hz : w.heap.size ≤ w'.heap.size) (hk : ∀ ad, A = some ad → w'.heap[ad.block]? = w.heap[ad.block]?) : XR w' A n ss := by
  refine ⟨h.len, ?_⟩
  rcases h.rd with h | ⟨ad, e, hlt, hc⟩
  · exact .inl h
  · exact .inr ⟨ad, e, Nat.lt_of_lt_of_le hlt hz, fun j u hu => (World.cell?_of_block (by rw [add_block]; exact hk ad e)).trans (hc j u hu)⟩
/-- a connection's transaction as it lies -/
structure OpR where
  c : Int
  A : Option Addr
  n : Nat
  d : Nat
instance : Inhabited OpR := ⟨⟨0, none, 0, 0⟩⟩
section
variable {b : Nat} {n : Nd} {AL : Option Addr} {nl cl : Nat} {AO : Option Addr} {no co : Nat} {os : List OpR} {S : Nat → Prop} {w w' : World}
end
section
variable {b : Nat} {n : Nd} {S : Nat → Prop} {w : World}
end
end

/- Rows of numbers and of truths, as they lie in memory (no function of the program is named here). -/
section
open Go.RowKit
set_option maxRecDepth 100000

theorem Rd.offR {w w' : World} {A : Option Addr} {xs : List Value} (h : Rd w w.heap.size A xs) (hz : w.heap.size ≤ w'.heap.size) (hk : ∀ ad, A = some ad → w'.heap[ad.block]? = w.heap[ad.block]?) : Rd w' w'.heap.size A xs := by
  rcases h with h | ⟨ad, e, hlt, hc⟩
  · exact .inl h
  · exact .inr ⟨ad, e, Nat.lt_of_lt_of_le hlt hz, fun j u hu => (World.cell?_of_block (by rw [add_block]; exact hk ad e)).trans (hc j u hu)⟩
end

/- An append of one element that tells where the row lies: where it lay, or in a new block (no function of the program is named here). -/
section
open Go.RowKit
set_option maxRecDepth 100000

theorem run_append_one {P : Program} {w : World} (t ty e : TypeId) (i : TypeInfo) (z : Value) (bytes : Nat) (ht : P.underlying t = some (.slice e)) (hi : P.info? e = some i) (hz : i.zero = some z)
    (hsize : i.size = 1) (hby : i.bytes = bytes) (hzs : z.cells.size = 1) {A : Option Addr} {n c : Nat} {xs : List Value} (hown : w.ownsRow 0 e 1 (.slice A n c) n xs) (ad : Addr) (c1 : Nat) (y : Value) (hy : w.cell? ad = some y) (h1 : y.oneCell' = true) (hn : n + 1 ≤ 1000) (hbytes : bytes ≤ 1000) :
    ∃ A' c' w', (Builtin.append_ #[t, t] ty #[.slice A n c, .slice (some ad) 1 c1]).run P w = .ok (.slice A' (n + 1) c') w' ∧ w'.ownsRow 0 e 1 (.slice A' (n + 1) c') (n + 1) (xs ++ [y]) ∧ w.grownBy w' (Value.slice A n c).ownBlock ∧
      ((Value.slice A' (n + 1) c').ownBlock = (Value.slice A n c).ownBlock ∨ ∃ g, (Value.slice A' (n + 1) c').ownBlock = some g ∧ w.heap.size ≤ g) := by
  have hcell : ∀ j u, [y][j]? = some u → w.cell? (ad.add j) = some u := fun j u hu => by
    match j, hu with
    | 0, hu =>
      rw [show ad.add 0 = ad from by unfold Addr.add; split <;> simp_all, hy]
      simpa using hu
  have hrd : Rd w (ad.block + 1) (some ad) [y] := .inr ⟨ad, rfl, Nat.lt_succ_self _, hcell⟩
  have hb1 : (n + 1) * bytes ≤ 140737488355328 := by
    have : (n + 1) * bytes ≤ 1000 * 1000 := Nat.mul_le_mul hn hbytes
    omega
  have ho1 : ∀ u ∈ [y], u.oneCell' = true := by simpa using h1
  obtain ⟨v', w', hr, h2, h3⟩ := run_append_rds (P := P) (w := w) 0 t ty e i z 1 bytes ht hi hz hsize hby hzs (by omega) (.slice A n c) n xs hown (ad.block + 1) (some ad) 1 c1 [y] rfl hrd ho1 (by unfold maxLen; omega) hb1 (Nat.zero_le _)
  obtain ⟨A', c', rfl, _, _⟩ := own_form_s h2
  refine ⟨A', c', w', hr, h2, h3, ?_⟩
  rcases hown.2 with ⟨h4, h5⟩ | ⟨g, cap, cur, h4, hbg, hg, hnc, hcm, hcs, htake⟩
  · injection h4 with e1 e2 e3
    subst e1 e2 e3
    obtain ⟨v2, w2, hr2, h22, _⟩ := run_append_rds (P := P) (w := w) w.heap.size t ty e i z 1 bytes ht hi hz hsize hby hzs (by omega) (.slice none 0 0) 0 xs ⟨hown.1, .inl ⟨rfl, rfl⟩⟩ (ad.block + 1) (some ad) 1 c1 [y] rfl hrd ho1 (by unfold maxLen; omega) hb1 (Nat.le_refl _)
    rw [hr] at hr2
    injection hr2 with e1 e2
    subst e1
    cases hq : (Value.slice A' (0 + 1) c').ownBlock with
    | none => exact .inl rfl
    | some g => exact .inr ⟨g, rfl, (h22.lt g hq).1⟩
  · injection h4 with e1 _ e3
    subst e1 e3
    have hs : Src P i.size t (.slice (some ad) 1 c1) 1 [y] w := Src.ofSlice w ht ad 1 c1 _ (by simp [hsize]) hcell ho1
    have hcs' : cur.size = c := by simpa using hcs
    by_cases hroom : n + 1 ≤ c
    · have hr2 := run_append_room_src (P := P) w t t ty e i ht hi g 0 n c _ 1 [y] hs hroom (fun j hj => by
          obtain rfl : j = 0 := by simpa using hj
          rw [hsize, show 0 + n * 1 + 0 = n by omega, cell_of_row _ _ n cur e (0, 0) hg, Array.getElem?_eq_getElem (by omega)]
          rfl) (fun j hj => frozen_of_row w g _ cur e hg)
      rw [hr] at hr2
      injection hr2 with e1 _
      injection e1 with e1 _ _
      subst e1
      exact .inl rfl
    · have hxl : xs.length = n := by simpa using hown.1
      have hold : (Builtin.firstCells i.size n (.slice (some ⟨g, 0, none⟩) n c)).run P w.drew = .ok xs.toArray w.drew := run_firstCells_some _ _ _ _ _ _ _ (by rw [hxl, hsize]; omega) fun j u hu => hown.cells (g := g) rfl j u hu
      have hr2 := run_append_grow_src (P := P) w t t ty e i z ht hi hz (some ⟨g, 0, none⟩) n c xs hold _ 1 [y] hs (by omega) (by omega) (growslice_fits (by omega) (by rw [hby]; exact hb1))
      rw [hr] at hr2
      injection hr2 with e1 _
      injection e1 with e1 _ _
      subst e1
      exact .inr ⟨_, rfl, Nat.le_refl _⟩
theorem wpList_append_run {P : Program} {ops : Array Oper} {rest : List Oper} {o : Oper} {a : Act} {w : World} {Q : Exit → Act → World → Prop} (hw : Region.wanted o (yielded ops a.tmps) = true) (s x : Operand) (t : TypeId)
    (ho : o.op = .call { callee := .builtin .append, args := #[s, x], argTypes := #[t, t] }) (v y : Value) (hs : a.eval s = v) (hx : a.eval x = y) {v3 : Value} {w3 : World}
    (hrun : (Builtin.append_ #[t, t] o.type #[v, y]).run P w = .ok v3 w3) (h : wpList P ops Q rest (a.put o.dst v3) w3) : wpList P ops Q (o :: rest) a w :=
  wpList_step fun _ hK => by
    rw [if_pos hw]
    unfold Oper.wp execOp
    simp only [ho, resolve, invoke, builtin, Sem.run_bind, Sem.run_pure, Result.andThen_ok, List.map_toArray, List.map_cons, List.map_nil, hs, hx, hrun]
    exact hK _ _ h
end

/- An append onto an empty literal: what lay there stays (no function of the program is named here). -/
section
open Go.RowKit
set_option maxRecDepth 100000
end

/- A region that draws its order, gone through once an operation: each operation keeps what it keeps (Kp), and a slot's fact need not outlive operations that are done ahead of it. -/
section
open Go.RowKit

/-- an operation waits for another; for another, in some steps -/
def depB (ops : Array Oper) (i j : Nat) : Bool := match ops[i]? with
  | some o => o.after.any fun e => Region.binds .any e && e.on == j
  | none => false
def needB (ops : Array Oper) : Nat → Nat → Nat → Bool
  | 0, i, j => depB ops i j
  | f + 1, i, j => depB ops i j || (List.range ops.size).any fun k => depB ops i k && needB ops f k j
theorem needB_done {ops : Array Oper} {L : Nat → Bool} (hcl : ∀ k j, L k = true → depB ops k j = true → L j = true) : ∀ (f i j : Nat), (∀ k, depB ops i k = true → L k = true) → needB ops f i j = true → L j = true
  | 0, _, _, hi, h => hi _ h
  | f + 1, i, j, hi, h => by
    unfold needB at h
    rcases Bool.or_eq_true_iff.1 h with h | h
    · exact hi _ h
    · obtain ⟨k, _, hk⟩ := List.any_eq_true.1 h
      obtain ⟨h1, h2⟩ := Bool.and_eq_true_iff.1 hk
      exact needB_done hcl f k j (fun q hq => hcl k q (hi k h1) hq) h2
section
variable {P : Program} {ops : Array Oper} {Q : Exit → Act → World → Prop}

end
end

/- A region that draws its order, gone through once an operation: as XReg4, and besides: operations that name no slot (stores), and operations whose guard is known to fail. -/
section
open Go.RowKit

/-- the checks that a region's table must pass -/
def regOk5 (ops : Array Oper) (n : Nat) : Bool :=
  ops.toList.all (fun o => match o.dst with | some d => decide (d < n) | none => true) &&
  decide (dstsOf ops).Nodup &&
  ops.toList.zipIdx.all (fun (o, i) => o.after.all fun e => !Region.binds .any e || decide (e.on < i))
theorem once_filterMap {α β : Type} (f : α → Option β) : ∀ {l : List α}, (l.filterMap f).Nodup → ∀ {i j : Nat} {x y : α} {d : β}, l[i]? = some x → l[j]? = some y → f x = some d → f y = some d → i = j
  | [], _, _, _, _, _, _, h, _, _, _ => by simp at h
  | z :: r, hn, i, j, x, y, d, hi, hj, hx, hy => by
    have hr : (r.filterMap f).Nodup := by
      rw [List.filterMap_cons] at hn
      split at hn
      · exact hn
      · exact (List.nodup_cons.1 hn).2
    cases i with
    | zero =>
      cases j with
      | zero => rfl
      | succ j =>
        exfalso
        simp only [List.getElem?_cons_zero, Option.some.injEq] at hi
        simp only [List.getElem?_cons_succ] at hj
        subst hi
        rw [List.filterMap_cons, hx] at hn
        exact (List.nodup_cons.1 hn).1 (List.mem_filterMap.2 ⟨y, List.mem_of_getElem? hj, hy⟩)
    | succ i =>
      cases j with
      | zero =>
        exfalso
        simp only [List.getElem?_cons_zero, Option.some.injEq] at hj
        simp only [List.getElem?_cons_succ] at hi
        subst hj
        rw [List.filterMap_cons, hy] at hn
        exact (List.nodup_cons.1 hn).1 (List.mem_filterMap.2 ⟨x, List.mem_of_getElem? hi, hx⟩)
      | succ j =>
        simp only [List.getElem?_cons_succ] at hi hj
        rw [once_filterMap f hr hi hj hx hy]
section
variable {P : Program} {ops : Array Oper} {Q : Exit → Act → World → Prop}
end

/-- nothing is asked of what an operation keeps -/
def KeepT (_ : Nat) (_ _ : World) : Prop := True
end

/- A region that draws its order, gone through once an operation: as XReg5, but a slot's fact may turn with what is done (it need not outlive who reads it). -/
section
open Go.RowKit

/-- a fact of a value, by what is done; what each operation keeps keeps it -/
structure Stl (Kp : Nat → World → World → Prop) where
  p : (Nat → Bool) → Value → World → Prop
  st : ∀ i L v u u', L i = false → p L v u → Kp i u u' → p (doneB L i) v u'
def Stl.any (Kp : Nat → World → World → Prop) : Stl Kp := ⟨fun _ _ _ => True, fun _ _ _ _ _ _ _ _ => trivial⟩
/-- the value is known -/
def Stl.eq {Kp : Nat → World → World → Prop} (c : Value) : Stl Kp := ⟨fun _ v _ => v = c, fun _ _ _ _ _ _ h _ => h⟩
def Stl.find {Kp : Nat → World → World → Prop} : List (Nat × Stl Kp) → Nat → Stl Kp
  | [], _ => Stl.any Kp
  | (t, s) :: r, u => bif Nat.beq t u then s else Stl.find r u
theorem done_same {L : Nat → Bool} {i : Nat} : doneB L i i = true := by
  unfold doneB
  rw [show Nat.beq i i = true from Nat.beq_refl i]
  rfl
theorem done_mono {L : Nat → Bool} {i j : Nat} (h : L j = true) : doneB L i j = true := by
  unfold doneB
  cases Nat.beq j i with
  | true => rfl
  | false => exact h
theorem done_not {L : Nat → Bool} {i j : Nat} (h : doneB L i j = false) : L j = false ∧ j ≠ i := by
  refine ⟨?_, fun e => ?_⟩
  · cases hl : L j with
    | false => rfl
    | true => rw [done_mono hl] at h; cases h
  · subst e; rw [done_same] at h; cases h
section
variable {P : Program} {ops : Array Oper} {Q : Exit → Act → World → Prop}
/-- what one operation leaves -/
def Went6 (S : (Nat → Bool) → World → Prop) {Kp : Nat → World → World → Prop} (Sp : Nat → Stl Kp) (L : Nat → Bool) (i : Nat) (a : Act) (d : Option Tmp) (w : World) (a' : Act) (w' : World) : Prop :=
  ∃ v, a' = a.put d v ∧ S (doneB L i) w' ∧ Kp i w w' ∧ ∀ t, d = some t → (Sp t).p (doneB L i) v w'
theorem Went6.same {S : (Nat → Bool) → World → Prop} {Kp : Nat → World → World → Prop} {Sp : Nat → Stl Kp} {L : Nat → Bool} {i : Nat} {a : Act} {t : Nat} {w : World} {v : Value} (hr : Kp i w w) (hS : S (doneB L i) w) (h : (Sp t).p (doneB L i) v w)  : Went6 S Sp L i a (some t) w { tmps := a.tmps.setIfInBounds t v, defers := a.defers } w :=
  ⟨v, rfl, hS, hr, fun _ e => by injection e with e; subst e; exact h⟩
theorem Went6.next {S : (Nat → Bool) → World → Prop} {Kp : Nat → World → World → Prop} {Sp : Nat → Stl Kp} {L : Nat → Bool} {i : Nat} {a : Act} {t : Nat} {w w' : World} {v : Value} (hS : S (doneB L i) w') (hb : Kp i w w') (h : (Sp t).p (doneB L i) v w')  : Went6 S Sp L i a (some t) w { tmps := a.tmps.setIfInBounds t v, defers := a.defers } w' :=
  ⟨v, rfl, hS, hb, fun _ e => by injection e with e; subst e; exact h⟩
end
section
variable {P : Program} {ops : Array Oper} {Q : Exit → Act → World → Prop}
/-- what is asked of one operation -/
def OkOp6 (P : Program) (ops : Array Oper) (Q : Exit → Act → World → Prop) (S : (Nat → Bool) → World → Prop) {Kp : Nat → World → World → Prop} (Sp : Nat → Stl Kp) (a0 : Act) (i : Nat) (o : Oper) : Prop :=
  ∀ L a w, L i = false → StandI ops i a0 a → S L w → (∀ t, (waitsFor ops o).contains t = true → (Sp t).p L (a.tmps.getD t undef) w) → (∀ f j, needB ops f i j = true → L j = true) → (∀ f k, needB ops f k i = true → L k = false) →
    (Wants ops a o ∧ o.wp P a w (Went6 S Sp L i a o.dst w) Q) ∨ (WantsNot ops a o ∧ S (doneB L i) w ∧ Kp i w w ∧ ∀ t, o.dst = some t → (Sp t).p (doneB L i) undef w)

theorem wpAny_specs6 (S : (Nat → Bool) → World → Prop) {Kp : Nat → World → World → Prop} (Sp : Nat → Stl Kp) (a0 : Act) (hok : regOk5 ops a0.tmps.size = true)
    (each : EachOp (OkOp6 P ops Q S Sp a0) 0 ops.toList)
    (fin : ∀ L a w, (∀ j, j < ops.size → L j = true) → Stand ops a0 a → S L w → (∀ t, (dstsOf ops).contains t = true → (Sp t).p L (a.tmps.getD t undef) w) → Q .normal a w) :
    ∀ (fuel : Nat) (listed : Array Bool) (a : Act) (w : World), listed.size = ops.size → ((List.range ops.size).filter fun i => !listed.getD i true).length ≤ fuel →
      Stand ops a0 a → S (fun j => listed.getD j false) w → (∀ i d, listed.getD i false = true → dstOf ops i = some d → (Sp d).p (fun j => listed.getD j false) (a.tmps.getD d undef) w) →
      (∀ j d, j < ops.size → listed.getD j false = false → dstOf ops j = some d → a.tmps.getD d undef = a0.tmps.getD d undef) →
      (∀ j o, listed.getD j false = true → ops[j]? = some o → ∀ e ∈ o.after, Region.binds .any e = true → listed.getD e.on false = true) → wpAny P .any ops Q fuel listed a w := by
  simp only [regOk5, Bool.and_eq_true, List.all_eq_true, decide_eq_true_eq] at hok
  obtain ⟨⟨hdst, hnd⟩, hlow⟩ := hok
  have hdst' : ∀ o ∈ ops.toList, ∀ d, o.dst = some d → d < a0.tmps.size := fun o ho d hd => by
    have := hdst o ho
    rw [hd] at this
    simpa using this
  have hinj : ∀ i j d, dstOf ops i = some d → dstOf ops j = some d → i = j := fun i j d hi hj => by
    unfold dstOf at hi hj
    obtain ⟨x, hx, hxd⟩ := Option.bind_eq_some_iff.1 hi
    obtain ⟨y, hy, hyd⟩ := Option.bind_eq_some_iff.1 hj
    exact once_filterMap (l := ops.toList) (fun o : Oper => o.dst) hnd (by simpa using hx) (by simpa using hy) hxd hyd
  have hready0 : ∀ listed : Array Bool, listed.size = ops.size → Region.ready .any ops listed = [] → ∀ i, i < ops.size → listed.getD i false = true := by
    intro listed hsz hr i
    induction i using Nat.strongRecOn with
    | _ i ih =>
      intro hi
      cases hl : listed.getD i false with
      | true => rfl
      | false =>
        exfalso
        have hl2 : listed.getD i true = false := by
          rw [Array.getD_eq_getD_getElem?, Array.getElem?_eq_getElem (by omega)] at hl ⊢; simpa using hl
        have hm : i ∈ Region.ready .any ops listed := by
          unfold Region.ready
          rw [List.mem_filter]
          refine ⟨List.mem_range.2 hi, ?_⟩
          rw [hl2, Array.getElem?_eq_getElem hi]
          simp only [Bool.not_false, Bool.true_and, Option.map_some, Option.getD_some, Array.all_eq_true_iff_forall_mem]
          intro e he
          have h1 := hlow (ops[i], i) (by rw [List.mem_zipIdx_iff_getElem?]; simp [hi])
          simp only [Array.all_eq_true_iff_forall_mem] at h1
          have h2 := h1 e he
          cases hb : Region.binds .any e with
          | false => simp
          | true =>
            rw [hb] at h2
            have h3 : e.on < i := by simpa using h2
            simp [ih e.on h3 (by omega)]
        rw [hr] at hm
        cases hm
  have hfin : ∀ listed a w, listed.size = ops.size → Stand ops a0 a → S (fun j => listed.getD j false) w → (∀ i d, listed.getD i false = true → dstOf ops i = some d → (Sp d).p (fun j => listed.getD j false) (a.tmps.getD d undef) w) → Region.ready .any ops listed = [] → Q .normal a w := by
    intro listed a w hsz hst hS hsp hr
    refine fin _ a w (hready0 listed hsz hr) hst hS fun t ht => ?_
    obtain ⟨o, ho, he⟩ := List.mem_filterMap.1 (List.contains_iff_mem.1 ht)
    obtain ⟨i, hi, hio⟩ := List.mem_iff_getElem.1 ho
    have hi' : i < ops.size := by simpa using hi
    have hd : dstOf ops i = some t := by
      unfold dstOf
      rw [Array.getElem?_eq_getElem hi', show ops[i] = o by rw [← hio]; simp]
      exact he
    exact hsp i t (hready0 listed hsz hr i hi') hd
  intro fuel
  induction fuel with
  | zero =>
    intro listed a w hsz hc hst hS hsp _ _
    have hr : Region.ready .any ops listed = [] := by
      have h0 : ((List.range ops.size).filter fun i => !listed.getD i true) = [] := List.eq_nil_of_length_eq_zero (by omega)
      unfold Region.ready
      rw [List.filter_eq_nil_iff] at h0 ⊢
      intro i hi
      have := h0 i hi
      simp only [Bool.not_eq_true] at this ⊢
      rw [this, Bool.false_and]
    exact ⟨hr, hfin listed a w hsz hst hS hsp hr⟩
  | succ fuel ih =>
    intro listed a w hsz hc hst hS hsp hun0 hcl
    refine ⟨hfin listed a w hsz hst hS hsp, fun i hi => ?_⟩
    unfold Region.ready at hi
    rw [List.mem_filter, List.mem_range] at hi
    obtain ⟨hilt, hi2⟩ := hi
    rw [Array.getElem?_eq_getElem hilt] at hi2
    simp only [Bool.and_eq_true, Option.map_some, Option.getD_some, Array.all_eq_true_iff_forall_mem] at hi2
    obtain ⟨hun, hdeps⟩ := hi2
    have hdi : dstOf ops i = (ops[i]).dst := by unfold dstOf; rw [Array.getElem?_eq_getElem hilt]; rfl
    have hthis := each.at_ i ops[i] (by simp [hilt])
    rw [Nat.zero_add] at hthis
    have hni : listed.getD i false = false := by
      have hl : listed.getD i true = false := by simpa using hun
      rw [Array.getD_eq_getD_getElem?, Array.getElem?_eq_getElem (by omega)] at hl ⊢
      simpa using hl
    have hold : ∀ t, (laterOf ops i).contains t = true → a.tmps.getD t undef = a0.tmps.getD t undef := fun t ht => by
      unfold laterOf at ht
      obtain ⟨o, ho, hot⟩ := List.mem_filterMap.1 (List.contains_iff_mem.1 ht)
      rw [List.mem_filter] at ho
      obtain ⟨j, hj, hje⟩ := List.mem_iff_getElem.1 ho.1
      have hj' : j < ops.size := by simpa using hj
      have hjo : ops[j]? = some o := by rw [Array.getElem?_eq_getElem hj', ← hje]; simp
      have hdj : dstOf ops j = some t := by unfold dstOf; rw [hjo]; exact hot
      refine hun0 j t hj' ?_ hdj
      rw [Bool.eq_false_iff]
      intro hlj
      obtain ⟨e, he, h2⟩ := Array.any_eq_true'.1 ho.2
      simp only [Bool.and_eq_true, beq_iff_eq] at h2
      have := hcl j o hlj hjo e he h2.1
      rw [h2.2, hni] at this
      cases this
    have hclB : ∀ k q, (fun j => listed.getD j false) k = true → depB ops k q = true → (fun j => listed.getD j false) q = true := fun k q hk hq => by
      unfold depB at hq
      cases hko : ops[k]? with
      | none => rw [hko] at hq; cases hq
      | some o =>
        rw [hko] at hq
        obtain ⟨e, he, h3⟩ := Array.any_eq_true'.1 hq
        simp only [Bool.and_eq_true, beq_iff_eq] at h3
        have h4 := hcl k o hk hko e he h3.1
        rw [h3.2] at h4
        exact h4
    have hor := hthis _ a w hni ⟨hst, hold⟩ hS (fun t ht => by
      unfold waitsFor at ht
      obtain ⟨e, he, het⟩ := List.mem_filterMap.1 (List.contains_iff_mem.1 ht)
      rw [List.mem_filter] at he
      have := hdeps e (by simpa using he.1)
      rw [he.2] at this
      exact hsp e.on t (by simpa using this) het) (fun f j hj => needB_done (L := fun j => listed.getD j false) (fun k q hk hq => by
        unfold depB at hq
        cases hko : ops[k]? with
        | none => rw [hko] at hq; cases hq
        | some o =>
          rw [hko] at hq
          obtain ⟨e, he, h3⟩ := Array.any_eq_true'.1 hq
          simp only [Bool.and_eq_true, beq_iff_eq] at h3
          have h4 := hcl k o hk hko e he h3.1
          rw [h3.2] at h4
          exact h4) f i j (fun k hk => by
        unfold depB at hk
        rw [Array.getElem?_eq_getElem hilt] at hk
        obtain ⟨e, he, h3⟩ := Array.any_eq_true'.1 hk
        simp only [Bool.and_eq_true, beq_iff_eq] at h3
        have h4 := hdeps e he
        rw [h3.1, h3.2] at h4
        simpa using h4) hj) (fun f k hk => by
        cases hlk : listed.getD k false with
        | false => rfl
        | true =>
          have h6 : listed.getD i false = true := needB_done (L := fun j => listed.getD j false) hclB f k i (fun q hq => hclB k q hlk hq) hk
          rw [hni] at h6
          cases h6)
    suffices key : ∀ a' w', Went6 S Sp (fun j => listed.getD j false) i a (ops[i]).dst w a' w' → wpAny P .any ops Q fuel (listed.setIfInBounds i true) a' w' by
      unfold wpOp
      simp only [Array.getElem?_eq_getElem hilt]
      rcases hor with ⟨hw, hwp⟩ | ⟨hw, hS', hk', hsp'⟩
      · simp only [wants hw, if_true]
        exact .inl (Oper.wp_mono (fun a' w' h => key a' w' h) hwp)
      · rw [wants_not hw]
        simp only [Bool.false_eq_true, if_false]
        exact key _ _ ⟨undef, rfl, hS', hk', hsp'⟩
    rintro a' w' ⟨v, rfl, hS', hb, hsp'⟩
    have hval : ∀ d, (ops[i]).dst = some d → ((a.put (ops[i]).dst v).tmps.getD d undef) = v := fun d hd => by
      rw [hd]
      simp only [Act.put]
      rw [Array.getD_eq_getD_getElem?, Array.getElem?_setIfInBounds_self_of_lt (by rw [hst.size]; exact hdst' ops[i] (by simp) d hd)]
      rfl
    have hoth : ∀ t, (ops[i]).dst ≠ some t → (a.put (ops[i]).dst v).tmps.getD t undef = a.tmps.getD t undef := fun t ht => by
      cases hd : (ops[i]).dst with
      | none => rfl
      | some d =>
        simp only [Act.put]
        rw [Array.getD_eq_getD_getElem?, Array.getD_eq_getD_getElem?, Array.getElem?_setIfInBounds_ne (fun h => ht (by rw [hd, h]))]
    have hput : (a.put (ops[i]).dst v).tmps.size = a0.tmps.size ∧ (a.put (ops[i]).dst v).defers = a0.defers := by
      cases (ops[i]).dst <;> simp [Act.put, hst.size, hst.defers]
    have hset : ∀ j, j ≠ i → (listed.setIfInBounds i true).getD j false = listed.getD j false := fun j hji => by
      rw [Array.getD_eq_getD_getElem?, Array.getElem?_setIfInBounds_ne (fun h => hji h.symm), ← Array.getD_eq_getD_getElem?]
    have hseti : (listed.setIfInBounds i true).getD i false = true := by
      rw [Array.getD_eq_getD_getElem?, Array.getElem?_setIfInBounds_self_of_lt (by omega)]; rfl
    refine ih _ _ _ (by simp [hsz]) ?_ ⟨hput.1, hput.2, fun t ht => ?_⟩ (by rw [doneB_ext (L := fun j => listed.getD j false) (i := i) (M := fun j => (listed.setIfInBounds i true).getD j false) hseti hset]; exact hS') (fun j dj hj hdj => ?_) (fun j dj hj hlj hdj => ?_) (fun j o hlj hjo e he hb2 => ?_)
    · have hl : listed.getD i true = false := by simpa using hun
      have := filter_lt (l := List.range ops.size) (p := fun j => !listed.getD j true) (q := fun j => !(listed.setIfInBounds i true).getD j true) (fun x hx => by
        by_cases hxi : i = x
        · subst hxi
          rw [Array.getD_eq_getD_getElem?, Array.getElem?_setIfInBounds_self_of_lt (by omega)] at hx
          simp at hx
        · rw [Array.getD_eq_getD_getElem?, Array.getElem?_setIfInBounds_ne hxi, ← Array.getD_eq_getD_getElem?] at hx
          exact hx) (i := i) (List.mem_range.2 hilt) (by simp [hl]) (by
          rw [Array.getD_eq_getD_getElem?, Array.getElem?_setIfInBounds_self_of_lt (by omega)]; simp)
      omega
    · rw [hoth t, hst.out t ht]
      intro e
      have : (dstsOf ops).contains t = true := List.contains_iff_mem.2 (List.mem_filterMap.2 ⟨ops[i], by simp, e⟩)
      rw [this] at ht
      cases ht
    · by_cases hji : j = i
      · subst hji
        rw [hdi] at hdj
        rw [hval dj hdj, doneB_ext (L := fun q => listed.getD q false) (i := j) (M := fun q => (listed.setIfInBounds j true).getD q false) hseti hset]
        exact hsp' dj hdj
      · have hne : (ops[i]).dst ≠ some dj := fun e => hji (hinj j i dj hdj (hdi.trans e))
        rw [hoth dj hne]
        rw [Array.getD_eq_getD_getElem?, Array.getElem?_setIfInBounds_ne (fun h => hji h.symm), ← Array.getD_eq_getD_getElem?] at hj
        rw [doneB_ext (L := fun j => listed.getD j false) (i := i) (M := fun j => (listed.setIfInBounds i true).getD j false) hseti hset]
        exact (Sp dj).st i _ _ _ _ hni (hsp j dj hj hdj) hb
    · have hji : j ≠ i := fun h => by rw [h, hseti] at hlj; cases hlj
      rw [hset j hji] at hlj
      rw [hoth dj (fun e => hji (hinj j i dj hdj (hdi.trans e)))]
      exact hun0 j dj hj hlj hdj
    · have hon : listed.getD e.on false = true := by
        by_cases hji : j = i
        · subst hji
          rw [Array.getElem?_eq_getElem hilt] at hjo
          injection hjo with hjo
          subst hjo
          have := hdeps e he
          rw [hb2] at this
          simpa using this
        · rw [hset j hji] at hlj
          exact hcl j o hlj hjo e he hb2
      by_cases hei : e.on = i
      · rw [hei]; exact hseti
      · rw [hset _ hei]; exact hon

theorem wp_region_specs6 {id : Nat} {a0 : Act} {w0 : World} (S : (Nat → Bool) → World → Prop) {Kp : Nat → World → World → Prop} (Sp : List (Nat × Stl Kp)) (hm : P.follows .mixedOrders = true) (hok : regOk5 ops a0.tmps.size = true) (hS : S (fun _ => false) w0.drew)
    (each : EachOp (OkOp6 P ops Q S (Stl.find Sp) a0) 0 ops.toList)
    (fin : ∀ L a w, (∀ j, Nat.blt j ops.size = true → L j = true) → Stand ops a0 a → S L w → (∀ t, (dstsOf ops).contains t = true → (Stl.find Sp t).p L (a.tmps.getD t undef) w) → Q .normal a w) :
    (Code.region id ops true).wp P Q a0 w0 :=
  wp_region_any hm (wpAny_specs6 S (Stl.find Sp) a0 hok each (fun L a w hL => fin L a w fun j hj => hL j (Nat.le_of_ble_eq_true hj)) _ _ _ _ (by simp) (by
    refine Nat.le_trans (List.length_filter_le _ _) (by simp)) ⟨rfl, rfl, fun _ _ => rfl⟩ (by rw [show (fun j => (Array.replicate ops.size false).getD j false) = fun _ => false from by funext j; rw [Array.getD_eq_getD_getElem?, Array.getElem?_replicate]; split <;> rfl]; exact hS) (fun i d h => by
    exfalso
    rw [Array.getD_eq_getD_getElem?, Array.getElem?_replicate] at h
    split at h <;> simp at h) (fun _ _ _ _ _ => rfl) (fun j o h => by
    exfalso
    rw [Array.getD_eq_getD_getElem?, Array.getElem?_replicate] at h
    split at h <;> simp at h))
end

/-- what an operation that isn't one of these two leaves is new -/
def Kp2 (d1 d2 : Nat) (i : Nat) (u u' : World) : Prop := i ≠ d1 → i ≠ d2 → Below u.heap.size u u'
theorem Kp2.refl (d1 d2 i : Nat) (u : World) : Kp2 d1 d2 i u u := fun _ _ => Below.refl _ _
end

/- The document's layer 15: Close, lay: contracts. -/
section
open Go.RowKit
set_option maxRecDepth 100000

section
variable {P : Program} {w : World}
end
theorem XR.offO {w w' : World} {S : Nat → Prop} {A : Option Addr} {n : Nat} {ss : List ByteArray} (h : XR w A n ss) (ho : Off S w w') (hn : ∀ ad, A = some ad → ¬ S ad.block) : XR w' A n ss := by
  refine ⟨h.len, ?_⟩
  rcases h.rd with h1 | ⟨ad, e, hlt, hc⟩
  · exact .inl h1
  · exact .inr ⟨ad, e, Nat.lt_of_lt_of_le hlt ho.size, fun j u hu => (World.cell?_of_block (by rw [add_block]; exact ho.block _ hlt (hn ad e))).trans (hc j u hu)⟩
section
variable {b : Nat} {n n' n'' : Nd} {S : Nat → Prop} {w w' w'' : World}
/-- rows of two cells, cut -/
theorem cut2_0 {w : World} {B : Nat} {A : Option Addr} {n c : Nat} {xs : List Value} (hr : Rd w B A xs) (P : Program) (t : TypeId) (ht : P.underlying t = some (.slice (P.elem t))) (hz : (P.info? (P.elem t)).map (·.size) = some 2) {j : Nat} (y : Int) (hy : y = j) (hj : j ≤ n) (hc : n ≤ c) :
    ∃ A', (∀ u, (Instr.slice t (.slice A n c) none (some (.int .i64 y)) none).run P u = .ok (.slice A' j c) u) ∧ Rd w B A' (xs.take (j * 2)) := by
  obtain ⟨ti, hti, hsz⟩ := Option.map_eq_some_iff.1 hz
  refine ⟨A, fun u => ?_, hr.front _⟩
  subst hy
  rw [run_slice_h u t A n c ht .i64 j (by omega) (by omega)]
  cases A with
  | none => simp [sizeOf, typeInfo, hti, hsz, sliced, Result.andThen]
  | some ad => simp [sizeOf, typeInfo, hti, hsz, sliced, Result.andThen, Addr.add]
theorem cut2_1 {w : World} {B : Nat} {A : Option Addr} {n c : Nat} {xs : List Value} (hl : xs.length = n * 2) (hr : Rd w B A xs) (P : Program) (t : TypeId) (ht : P.underlying t = some (.slice (P.elem t))) (hz : (P.info? (P.elem t)).map (·.size) = some 2) {i : Nat} (x : Int) (hx : x = i) (hi : i ≤ n) (hc : n ≤ c) :
    ∃ A', (∀ u, (Instr.slice t (.slice A n c) (some (.int .i64 x)) none none).run P u = .ok (.slice A' (n - i) (c - i)) u) ∧ Rd w B A' (xs.drop (i * 2)) := by
  obtain ⟨ti, hti, hsz⟩ := Option.map_eq_some_iff.1 hz
  have hr2 := hr.cut (k := i * 2) (cap := c * 2) (by omega)
  have e : (if c * 2 = i * 2 then A else A.map (·.add (i * 2))) = if c = i then A else A.map (·.add (i * 2)) := by
    by_cases hci : c = i
    · rw [if_pos hci, if_pos (by rw [hci])]
    · rw [if_neg hci, if_neg (by omega)]
  rw [e] at hr2
  refine ⟨_, fun u => ?_, hr2⟩
  subst hx
  rw [run_slice_l u t A n c ht .i64 i (by omega) (by omega)]
  simp [sizeOf, typeInfo, hti, hsz, sliced, Result.andThen]
end
end

/- The document's layer 6, and the law's own helpers: pairs, Table, Same, Texts, large: contracts. -/
section
open Go.RowKit
set_option maxRecDepth 100000

theorem take_same6 {α : Type} [DecidableEq α] {xs ys : List α} {k : Nat} (hx : k < xs.length) (hy : k < ys.length) (h : xs.take k = ys.take k) (he : xs[k] = ys[k]) : xs.take (k + 1) = ys.take (k + 1) := by
  rw [List.take_succ_eq_append_getElem hx, List.take_succ_eq_append_getElem hy, h, he]

set_option maxHeartbeats 2000000 in
theorem texts6_ok (A A' : Option Addr) (n n' c c' : Nat) (xs ys : List ByteArray) (w : World) (hx : XR w A n xs) (hy : XR w A' n' ys) (hn : n ≤ 1000000) (hn' : n' ≤ 1000000) (b : Bool) (hb : Hid (decide (xs = ys) = b)) :
    Calls Tryz.prog 28 #[.slice A n c, .slice A' n' c'] w fun e w' => e = .returned (.bool b) ∧ ∃ m, w' = w.drewN m := by
  by_cases hll : n = n'
  · subst hll
    have hlx := Lib.hid hx.len
    have hly := Lib.hid hy.len
    go_enter Tryz.func28, Tryz.ntmps28
    go_wp2
    go_loopw [5] (fun i wr => ∃ k m : Nat, k ≤ n ∧ i = .int .i64 k ∧ Hid (xs.take k = ys.take k) ∧ wr = w.drewN m) (fun i _ => n - (intOf i).toNat)
    case atStart => exact ⟨0, 0, Nat.zero_le _, rfl, Lib.hid (by simp), rfl⟩
    case round =>
      obtain ⟨k, m, hk, rfl, he, hw⟩ := hrel
      have hx' : XR wr A n xs := by subst hw; exact hx.next (kp_drewN _ _)
      have hy' : XR wr A' n ys := by subst hw; exact hy.next (kp_drewN _ _)
      have HW := Lib.hid hw
      clear hw hx hy
      by_cases hlt : k < n
      · have hkx : k < xs.length := by rw [hlx.out]; omega
        have hky : k < ys.length := by rw [hly.out]; omega
        obtain ⟨ad, rfl, _, c0⟩ := hx'.at_ hkx
        obtain ⟨ad', rfl, _, d0⟩ := hy'.at_ hky
        clear hx' hy'
        by_cases hee : xs[k] = ys[k]
        · have hsn : Hid (xs.take (k + 1) = ys.take (k + 1)) := Lib.hid (take_same6 hkx hky he.out hee)
          rw [hee] at c0
          clear hee
          generalize ys[k] = y at *
          have hq : (y.toList == y.toList) = true := by simp
          go_wp2
          go_quiet (fail)
          go_wp2
          go_roundw
          case rel => exact ⟨k + 1, m + nq, by omega, by go_num, hsn, by rw [HW.out, World.drewN_drewN]⟩
          case measure => simp [intOf]; omega
        · have hf : b = false := by
            rw [← hb.out]
            simp only [decide_eq_false_iff_not]
            rintro rfl
            exact hee rfl
          subst hf
          have hq : (xs[k].toList == ys[k].toList) = false := by
            simp only [beq_eq_false_iff_ne, ne_eq]
            exact fun h => hee (bytes_ext h)
          clear hee
          generalize xs[k] = x at *
          generalize ys[k] = y at *
          go_wp2
          go_quiet (fail)
          go_wp2
          go_ret
          exact ⟨rfl, m + nq, by rw [HW.out, World.drewN_drewN]⟩
      · have hf : b = true := by
          rw [← hb.out]
          have h1 := he.out
          rw [List.take_of_length_le (by rw [hlx.out]; omega), List.take_of_length_le (by rw [hly.out]; omega)] at h1
          simp [h1]
        subst hf
        go_wp2
        go_ret
        exact ⟨rfl, m, HW.out⟩
  · have hf : b = false := by
      rw [← hb.out]
      simp only [decide_eq_false_iff_not]
      rintro rfl
      have := hx.len
      have := hy.len
      omega
    subst hf
    have ht : ((n : Int) != (n' : Int)) = true := by rw [bne_iff_ne]; omega
    go_enter Tryz.func28, Tryz.ntmps28
    go_wp2
    go_ret
    exact ⟨rfl, 0, rfl⟩
end

/- What the document's layer 6 reads and writes of a table, pair by pair: the same as the plain functions (no function of the program is named here). -/
section
open Go.RowKit
set_option maxRecDepth 100000
end

/- The document's layer 6: what is read of a table and written to it: contracts. -/
section
open Go.RowKit
set_option maxRecDepth 100000
end

/- The document's layer 6: what is written to a table: contract. -/
section
open Go.RowKit
set_option maxRecDepth 100000
end

/- strings.TrimRight at the cutset that the shapes use: contract. -/
section
open Go.RowKit
set_option maxRecDepth 100000

theorem chop_s (s : ByteArray) (w : World) (hs : s.size ≤ 1000000000) : Calls Tryz.prog 200 #[.string s, .string ⟨#[32, 59]⟩] w fun e w' => ∃ r : ByteArray, e = .returned (.string r) ∧ r.data.toList = chopF s.data.toList ∧ Below w.heap.size w w' := by
  have h := Any.strings_TrimRight_laid Tryz.lays162 (by kernel_rfl) s ⟨#[32, 59]⟩ w (by omega) (by decide) (ascii_of_all (by decide))
  change Calls Tryz.prog 200 _ _ _ at h
  exact h.mono fun _ _ ⟨he, hb⟩ => ⟨_, he, by simp [chopF, cut2], hb⟩
end

/- What is written of tokens whose Strings are emptied, and the texts of these, by the call shaped of package plan: contract. -/
section
open Go.RowKit
set_option maxRecDepth 100000

def bts (ss : List ByteArray) : List (List UInt8) := ss.map fun x => x.data.toList
theorem bts_append (a b : List ByteArray) : bts (a ++ b) = bts a ++ bts b := by simp [bts]
theorem says_next (us : List Tk) (k : Nat) (h : k < us.length) : saysT (us.take (k + 1)) = saysT (us.take k) ++ [us[k].says] := by
  rw [List.take_succ_eq_append_getElem h, saysT_append]
  rfl
/-- the tokens that stay, their Strings emptied -/
def stayF (l : List Tok) : List Tok := (keptF l).map emptyF
theorem stay_hint (l : List Tok) (t : List UInt8) : stayF (l ++ [(5, t)]) = stayF l := by simp [stayF, keptF, isHintF]
theorem stay_str (l : List Tok) (t : List UInt8) : stayF (l ++ [(3, t)]) = stayF l ++ [(3, [])] := by simp [stayF, keptF, isHintF, emptyF]
theorem stay_other (l : List Tok) (k : Int) (t : List UInt8) (h5 : k ≠ 5) (h3 : k ≠ 3) : stayF (l ++ [(k, t)]) = stayF l ++ [(k, t)] := by simp [stayF, keptF, isHintF, emptyF, h5, h3]
theorem strs_hint (l : List Tok) (t : List UInt8) : strsF (keptF (l ++ [(5, t)])) = strsF (keptF l) := by simp [strsF, keptF, isHintF]
theorem strs_str (l : List Tok) (t : List UInt8) : strsF (keptF (l ++ [(3, t)])) = strsF (keptF l) ++ [t] := by simp [strsF, keptF, isHintF, isStrF]
theorem strs_other (l : List Tok) (k : Int) (t : List UInt8) (h5 : k ≠ 5) (h3 : k ≠ 3) : strsF (keptF (l ++ [(k, t)])) = strsF (keptF l) := by simp [strsF, keptF, isHintF, isStrF, h5, h3]

theorem own_ne_type {w : World} {base n size : Nat} {e t : TypeId} {v : Value} {xs : List Value} (h : w.ownsRow base e size v n xs) {b : Nat} {cs : Array Value} {fz : Nat × Nat} (hb : w.heap[b]? = some (.cells cs t fz)) (ht : t ≠ e) : v.ownBlock ≠ some b := by
  rcases h.2 with ⟨rfl, _⟩ | ⟨g, cap, cur, rfl, _, hg, _⟩
  · simp [Value.ownBlock]
  · simp only [Value.ownBlock, ne_eq, Option.some.injEq]
    rintro rfl
    rw [hg] at hb
    simp only [Option.some.injEq, Obj.cells.injEq] at hb
    exact ht hb.2.1.symm

set_option maxHeartbeats 4000000 in
theorem shaped_ok (A : Option Addr) (n c : Nat) (us : List Tk) (w : World) (h : TR w A n us) (hn : n ≤ 400) (hsz : ∀ t ∈ us, t.t.size ≤ 400) (hL : Lw w) :
    Calls Tryz.prog 182 #[.slice A n c] w fun e w' => ∃ (r : ByteArray) (A2 : Option Addr) (n2 c2 : Nat) (ss : List ByteArray), e = .returned (.tuple #[.string r, .slice A2 n2 c2]) ∧ r.data.toList = shapeF (keptF (saysT us)) ∧ XR w' A2 n2 ss ∧ bts ss = strsF (keptF (saysT us)) ∧ Below w.heap.size w w' := by
  obtain ⟨i0, hi, hz0, hz1, hz2⟩ := info_parts strinfo6
  obtain ⟨j0, gi, gz0, gz1, gz2⟩ := info_parts tkinfo
  have HL := Lib.hid h.len
  have HH := Lib.hid h
  have HZ := Lib.hid hsz
  have HLw := Lib.hid hL
  clear h hsz hL
  go_enter Tryz.func182, Tryz.ntmps182
  go_wp2_with fail
  go_loopw [4, 5, 10] (fun v u i wr => ∃ (k z1 z2 : Nat) (A1 A2 : Option Addr) (c1 c2 : Nat) (ks : List Tk) (ss : List ByteArray), k ≤ n ∧ z1 ≤ k ∧ z2 ≤ k ∧ v = .slice A1 z1 c1 ∧ u = .slice A2 z2 c2 ∧ i = .int .i64 k ∧
    Hid (OT 142 wr w.heap.size A1 z1 c1 ks) ∧ Hid (wr.ownsRow w.heap.size 9 1 (.slice A2 z2 c2) z2 (tvs ss)) ∧ Hid (saysT ks = stayF (saysT (us.take k))) ∧ Hid (bts ss = strsF (keptF (saysT (us.take k)))) ∧ Hid (sumT ks ≤ k * 401) ∧ Below w.heap.size w wr) (fun _ _ i _ => n - (intOf i).toNat)
  case atStart => exact ⟨0, 0, 0, none, none, 0, 0, [], [], Nat.zero_le _, Nat.le_refl _, Nat.le_refl _, rfl, rfl, rfl, Lib.hid (OT.nil _ _ _), Lib.hid (World.ownsRow_nil _ _ _ _), Lib.hid rfl, Lib.hid rfl, Lib.hid (Nat.zero_le _), Below.refl _ _⟩
  case round =>
    obtain ⟨k, z1, z2, A1, A2, c1, c2, ks, ss, hk, q1, q2, rfl, rfl, rfl, ho, hx, hs, hb, hm, k0⟩ := hrel
    have hsz0 := k0.size
    by_cases hlt : k < n
    · have hkl : k < us.length := by rw [HL.out]; exact hlt
      obtain ⟨ad, rfl, had, hcc⟩ := HH.out.at_ hkl
      obtain ⟨x0, x1⟩ := hcc _ k0
      have hsn := says_next us k hkl
      have hte : us[k].says = (us[k].k, us[k].t.data.toList) := rfl
      rw [hte] at hsn
      have htz := HZ.out us[k] (List.getElem_mem hkl)
      clear hcc hte
      generalize us[k].k = x at *
      generalize us[k].t = y at *
      have kb : Below w.heap.size w (wr.alloc (.cells #[.int .i64 x, .string y] 142)) := kp_alloc k0 _
      by_cases h5 : x = 5
      · subst h5
        have hs2 : Hid (saysT ks = stayF (saysT (us.take (k + 1)))) := Lib.hid (by rw [hsn, stay_hint]; exact hs.out)
        have hb2 : Hid (bts ss = strsF (keptF (saysT (us.take (k + 1))))) := Lib.hid (by rw [hsn, strs_hint]; exact hb.out)
        have hm2 : Hid (sumT ks ≤ (k + 1) * 401) := Lib.hid (by have := hm.out; omega)
        clear hsn hs hb hm
        go_wp2_with fail
        go_roundw
        case rel => exact ⟨k + 1, z1, z2, A1, A2, c1, c2, ks, ss, by omega, by omega, by omega, rfl, rfl, by go_num, Lib.hid (ho.out.next (kp_new wr _)), Lib.hid (hx.out.alloc _), hs2, hb2, hm2, kb⟩
        case measure => simp [intOf]; omega
      have n5 : (x == 5) = false := by simpa using h5
      by_cases h3 : x = 3
      · subst h3
        have hs2 : Hid (saysT (ks ++ [⟨3, ⟨#[]⟩⟩]) = stayF (saysT (us.take (k + 1)))) := Lib.hid (by rw [hsn, stay_str, saysT_append, hs.out]; rfl)
        have hb2 : Hid (bts (ss ++ [y]) = strsF (keptF (saysT (us.take (k + 1))))) := Lib.hid (by rw [hsn, strs_str, bts_append, hb.out]; rfl)
        have hm2 : Hid (sumT (ks ++ [⟨3, ⟨#[]⟩⟩]) ≤ (k + 1) * 401) := Lib.hid (by
          have := hm.out
          rw [sumT_append, show sumT [(⟨3, ⟨#[]⟩⟩ : Tk)] = 1 from rfl]
          omega)
        have hap : ∀ w', ((wr.alloc (.cells #[.int .i64 3, .string y] 142)).alloc (.cells #[.string y] 9)).grownBy w' (Value.slice A2 z2 c2).ownBlock → OT 142 w' w.heap.size A1 z1 c1 ks := fun w' hg =>
          ⟨own_apart ((ho.out.own.alloc _).alloc _) ((hx.out.alloc _).alloc _) (by decide) hg, ho.out.cap⟩
        have hbx : ((wr.alloc (.cells #[.int .i64 3, .string y] 142)).alloc (.cells #[.string y] 9)).heap[wr.heap.size]? = some (.cells #[.int .i64 3, .string y] 142 (0, 0)) := by
          exact (World.grownBy_alloc _ _ none).block wr.heap.size (by simp) (by simp) |>.trans (heap_alloc_new wr _)
        have hne2 : some wr.heap.size ≠ (Value.slice A2 z2 c2).ownBlock := fun e => by have := (hx.out.lt _ e.symm).2; omega
        have hne1 : (Value.slice A1 z1 c1).ownBlock ≠ some wr.heap.size := fun e => by have := (ho.out.own.lt _ e).2; omega
        have HX2 := Lib.hid ((hx.out.alloc (.cells #[.int .i64 3, .string y] 142)).alloc (.cells #[.string y] 9))
        have HSRC : Hid (Rd ((wr.alloc (.cells #[.int .i64 3, .string y] 142)).alloc (.cells #[.string y] 9)) (wr.heap.size + 1 + 1) (some ⟨wr.heap.size + 1, 0, none⟩) [.string y]) := Lib.hid (by
          have := Rd.new (wr.alloc (.cells #[.int .i64 3, .string y] 142)) 9 [.string y]
          simpa using this)
        have kb2 : Below w.heap.size w ((wr.alloc (.cells #[.int .i64 3, .string y] 142)).alloc (.cells #[.string y] 9)) := kp_alloc kb _
        have HAP := Lib.hid hap
        have HBX := Lib.hid hbx
        have HN2 := Lib.hid hne2
        have HN1 := Lib.hid hne1
        have HS2 := Lib.hid (show w.heap.size ≤ ((wr.alloc (.cells #[.int .i64 3, .string y] 142)).alloc (.cells #[.string y] 9)).heap.size by simp; omega)
        clear hsn hs hb hm hap hbx hne2 hne1
        go_wp2_with (first
          | (at_builtin; refine wpList_append_rd rfl _ _ _ rfl w.heap.size 9 i0 _ 16 Tryz.underlying35 hi hz0 hz1 hz2 rfl _ z2 _ rfl HX2.out _ _ _ _ [.string y] rfl rfl HSRC.out (by simp [Value.oneCell']) (by unfold maxLen; omega) (by omega) HS2.out ?_; intro v3 w3 hown3 hg3; obtain ⟨A3, c3, rfl, hcap3, _⟩ := own_form hown3; have hb3 := Lib.hid ((hg3.block _ (by simp; omega) HN2.out).trans HBX.out); obtain ⟨d0, d1, f0, f1⟩ := cells2 hb3.out;
             have HOT := Lib.hid ((ownsRow_setCell_other (HAP.out w3 hg3).own (a := ⟨wr.heap.size, 1, none⟩) HN1.out (.string ⟨#[]⟩)).alloc (.cells #[.int .i64 3, .string ⟨#[]⟩] 142));
             have HXT := Lib.hid (ownsRow_setCell_other (a := ⟨wr.heap.size, 1, none⟩) hown3 (own_ne_type hown3 hb3.out (by decide)) (.string ⟨#[]⟩));
             have HSR3 : Hid (Rd ((w3.setCell ⟨wr.heap.size, 1, none⟩ (.string ⟨#[]⟩)).alloc (.cells #[.int .i64 3, .string ⟨#[]⟩] 142)) (w3.heap.size + 1) (some ⟨w3.heap.size, 0, none⟩) [.int .i64 3, .string ⟨#[]⟩]) := Lib.hid (by have := Rd.new (w3.setCell ⟨wr.heap.size, 1, none⟩ (.string ⟨#[]⟩)) 142 [.int .i64 3, .string ⟨#[]⟩]; simpa using this))
          | (at_builtin; refine wpList_append_rds rfl _ _ _ rfl w.heap.size 142 j0 _ 2 24 Tryz.underlying119 gi gz0 gz1 gz2 rfl (by omega) _ z1 _ rfl HOT.out _ _ _ _ [.int .i64 3, .string ⟨#[]⟩] rfl rfl HSR3.out (by simp [Value.oneCell']) (by unfold maxLen; omega) (by omega) (by simp; have := hg3.size; have := HS2.out; omega) ?_; intro v4 w4 hown4 hg4; obtain ⟨A4, c4, rfl, ho4⟩ := OT.push hown4))
        go_roundw
        case rel =>
          have k3 : Below w.heap.size w w3 := kb2.trans (below_own HX2.out hg3 HS2.out)
          have k3b : Below w.heap.size w ((w3.setCell ⟨wr.heap.size, 1, none⟩ (.string ⟨#[]⟩)).alloc (.cells #[.int .i64 3, .string ⟨#[]⟩] 142)) := kp_alloc (k3.setCell hsz0 _) _
          have hx4 := own_apart (HXT.out.alloc (.cells #[.int .i64 3, .string ⟨#[]⟩] 142)) HOT.out (by decide) hg4
          refine ⟨k + 1, z1 + 1, z2 + 1, A4, A3, c4, c3, ks ++ [⟨3, ⟨#[]⟩⟩], ss ++ [y], by omega, by omega, by omega, rfl, rfl, by go_num, Lib.hid ho4, Lib.hid ?_, hs2, hb2, hm2, k3b.trans (below_own_s HOT.out hg4 k3b.size)⟩
          rw [tvs_append]
          exact hx4
        case measure => simp [intOf]; omega
      · have n3 : (x == 3) = false := by simpa using h3
        have hs2 : Hid (saysT (ks ++ [⟨x, y⟩]) = stayF (saysT (us.take (k + 1)))) := Lib.hid (by rw [hsn, stay_other _ _ _ h5 h3, saysT_append, hs.out]; rfl)
        have hb2 : Hid (bts ss = strsF (keptF (saysT (us.take (k + 1))))) := Lib.hid (by rw [hsn, strs_other _ _ _ h5 h3, hb.out])
        have hm2 : Hid (sumT (ks ++ [⟨x, y⟩]) ≤ (k + 1) * 401) := Lib.hid (by
          have := hm.out
          rw [sumT_append, show sumT [(⟨x, y⟩ : Tk)] = y.size + 1 from by simp [sumT]]
          omega)
        have HOT := Lib.hid ((ho.out.own.alloc (.cells #[.int .i64 x, .string y] 142)).alloc (.cells #[.int .i64 x, .string y] 142))
        have HX2 := Lib.hid ((hx.out.alloc (.cells #[.int .i64 x, .string y] 142)).alloc (.cells #[.int .i64 x, .string y] 142))
        have HSRC : Hid (Rd ((wr.alloc (.cells #[.int .i64 x, .string y] 142)).alloc (.cells #[.int .i64 x, .string y] 142)) (wr.heap.size + 1 + 1) (some ⟨wr.heap.size + 1, 0, none⟩) [.int .i64 x, .string y]) := Lib.hid (by
          have := Rd.new (wr.alloc (.cells #[.int .i64 x, .string y] 142)) 142 [.int .i64 x, .string y]
          simpa using this)
        have kb2 : Below w.heap.size w ((wr.alloc (.cells #[.int .i64 x, .string y] 142)).alloc (.cells #[.int .i64 x, .string y] 142)) := kp_alloc kb _
        clear hsn hs hb hm ho hx h5 h3
        go_wp2_with (at_builtin; refine wpList_append_rds rfl _ _ _ rfl w.heap.size 142 j0 _ 2 24 Tryz.underlying119 gi gz0 gz1 gz2 rfl (by omega) _ z1 _ rfl HOT.out _ _ _ _ [.int .i64 x, .string y] rfl rfl HSRC.out (by simp [Value.oneCell']) (by unfold maxLen; omega) (by omega) kb2.size ?_; intro v4 w4 hown4 hg4; obtain ⟨A4, c4, rfl, ho4⟩ := OT.push hown4)
        go_roundw
        case rel => exact ⟨k + 1, z1 + 1, z2, A4, A2, c4, c2, ks ++ [⟨x, y⟩], ss, by omega, by omega, by omega, rfl, rfl, by go_num, Lib.hid ho4, Lib.hid (own_apart HX2.out HOT.out (by decide) hg4), hs2, hb2, hm2, kb2.trans (below_own_s HOT.out hg4 kb2.size)⟩
        case measure => simp [intOf]; omega
    · obtain rfl : k = n := by omega
      rw [List.take_of_length_le (by rw [HL.out]; exact Nat.le_refl _)] at hs hb
      have HL2 := Lib.hid (HLw.out.below k0 (by obtain ⟨m, hm⟩ := HLw.out; exact World.block_lt_of_cell? _ _ hm))
      have hmm : sumT ks ≤ 1000000 := by have := hm.out; omega
      have hwl := writeF_len ks
      go_wp2_with fail
      refine (write_ok A1 z1 c1 ks wr ho.out.tr hmm HL2.out).mono ?_
      rintro e w1 ⟨r, rfl, hr, k1⟩
      have hrs : r.size ≤ 1000000000 := by
        have := text_len r
        rw [hr] at this
        omega
      go_wp2_with fail
      refine (chop_s r w1 hrs).mono ?_
      rintro e w2 ⟨r2, rfl, hr2, k2⟩
      go_wp2_with fail
      go_ret2
      have kk := kp_trans k1 k2
      refine ⟨r2, A2, z2, c2, ss, rfl, ?_, (XR.of_own hx.out).next kk, hb.out, kp_trans k0 kk⟩
      rw [hr2, hr, hs.out]
      rfl
end

/- The forms, what each does, and Of, by calls of package plan: contracts. -/
section
open Go.RowKit
set_option maxRecDepth 100000

def formC : List Value := [.string tGet, .func (.func 202) #[] #[], .string tAll, .func (.func 203) #[] #[], .string tPut, .func (.func 204) #[] #[], .string tChg, .func (.func 205) #[] #[], .string tDel, .func (.func 206) #[] #[]]

theorem forms_ok (w : World) : Calls Tryz.prog 183 #[] w fun e w' => e = .returned (.slice (some ⟨w.heap.size, 0, none⟩) 5 5) ∧ w' = w.alloc (.cells formC.toArray 259) := by
  go_enter Tryz.func183, Tryz.ntmps183
  go_wp2_with fail
  go_ret
  exact ⟨rfl, rfl⟩

set_option maxHeartbeats 1000000 in
theorem do1_ok (A : Option Addr) (n c : Nat) (x : ByteArray) (ss : List ByteArray) (w : World) (h : XR w A n (x :: ss)) :
    Calls Tryz.prog 202 #[.slice A n c] w fun e w' => e = .returned (planV 1 x ⟨#[]⟩) ∧ Below w.heap.size w w' := by
  obtain ⟨ad, rfl, had, hc⟩ := h.at_ (j := 0) (by simp)
  have hlen := h.len
  rw [List.length_cons] at hlen
  have h0 : (0 : Int) < (n : Int) := by omega
  rw [show ad.add 0 = ad from rfl, List.getElem_cons_zero] at hc
  clear h hlen
  go_enter Tryz.func202, Tryz.ntmps202
  go_wp2_with fail
  refine bodyPost_ret (v := planV 1 x ⟨#[]⟩) ?_ rfl ⟨rfl, kp_new _ _⟩
  rw [results_cell1 rfl]
  unfold planV
  go_simp
set_option maxHeartbeats 1000000 in
theorem do5_ok (A : Option Addr) (n c : Nat) (x : ByteArray) (ss : List ByteArray) (w : World) (h : XR w A n (x :: ss)) :
    Calls Tryz.prog 206 #[.slice A n c] w fun e w' => e = .returned (planV 5 x ⟨#[]⟩) ∧ Below w.heap.size w w' := by
  obtain ⟨ad, rfl, had, hc⟩ := h.at_ (j := 0) (by simp)
  have hlen := h.len
  rw [List.length_cons] at hlen
  have h0 : (0 : Int) < (n : Int) := by omega
  rw [show ad.add 0 = ad from rfl, List.getElem_cons_zero] at hc
  clear h hlen
  go_enter Tryz.func206, Tryz.ntmps206
  go_wp2_with fail
  refine bodyPost_ret (v := planV 5 x ⟨#[]⟩) ?_ rfl ⟨rfl, kp_new _ _⟩
  rw [results_cell1 rfl]
  unfold planV
  go_simp

theorem do2_ok (A : Option Addr) (n c : Nat) (w : World) :
    Calls Tryz.prog 203 #[.slice A n c] w fun e w' => e = .returned (planV 2 ⟨#[]⟩ ⟨#[]⟩) ∧ Below w.heap.size w w' := by
  go_enter Tryz.func203, Tryz.ntmps203
  go_wp2_with fail
  refine bodyPost_ret (v := planV 2 ⟨#[]⟩ ⟨#[]⟩) ?_ rfl ⟨rfl, kp_new _ _⟩
  rw [results_cell1 rfl]
  unfold planV
  go_simp
set_option maxHeartbeats 1000000 in
theorem do3_ok (A : Option Addr) (n c : Nat) (x y : ByteArray) (ss : List ByteArray) (w : World) (h : XR w A n (x :: y :: ss)) :
    Calls Tryz.prog 204 #[.slice A n c] w fun e w' => e = .returned (planV 3 x y) ∧ Below w.heap.size w w' := by
  obtain ⟨ad, rfl, had, hc⟩ := h.at_ (j := 0) (by simp)
  obtain ⟨ad', e', _, hc'⟩ := h.at_ (j := 1) (by simp)
  injection e' with e'
  subst e'
  have hlen := h.len
  rw [List.length_cons, List.length_cons] at hlen
  have h0 : (0 : Int) < (n : Int) := by omega
  have h1 : (1 : Int) < (n : Int) := by omega
  rw [show ad.add 0 = ad from rfl, List.getElem_cons_zero] at hc
  rw [show ad.add 1 = ⟨ad.block, ad.off + 1, none⟩ from rfl, List.getElem_cons_succ, List.getElem_cons_zero] at hc'
  have kw := kp_new w (.cells #[.int .i64 0, .string ⟨#[]⟩, .string ⟨#[]⟩] 229)
  rw [← kw.cell had] at hc
  rw [← kw.cell (show (⟨ad.block, ad.off + 1, none⟩ : Addr).block < w.heap.size from had)] at hc'
  clear h hlen
  go_enter Tryz.func204, Tryz.ntmps204
  go_wp2_with fail
  go_region
  all_goals
    go_wp2_with fail
    refine bodyPost_ret (v := planV 3 x y) ?_ rfl ⟨rfl, ?_⟩
    · rw [results_cell1 rfl]
      unfold planV
      go_simp
    · exact (kp_new _ _).drew
set_option maxHeartbeats 1000000 in
theorem do4_ok (A : Option Addr) (n c : Nat) (x y : ByteArray) (ss : List ByteArray) (w : World) (h : XR w A n (x :: y :: ss)) :
    Calls Tryz.prog 205 #[.slice A n c] w fun e w' => e = .returned (planV 4 y x) ∧ Below w.heap.size w w' := by
  obtain ⟨ad, rfl, had, hc⟩ := h.at_ (j := 0) (by simp)
  obtain ⟨ad', e', _, hc'⟩ := h.at_ (j := 1) (by simp)
  injection e' with e'
  subst e'
  have hlen := h.len
  rw [List.length_cons, List.length_cons] at hlen
  have h0 : (0 : Int) < (n : Int) := by omega
  have h1 : (1 : Int) < (n : Int) := by omega
  rw [show ad.add 0 = ad from rfl, List.getElem_cons_zero] at hc
  rw [show ad.add 1 = ⟨ad.block, ad.off + 1, none⟩ from rfl, List.getElem_cons_succ, List.getElem_cons_zero] at hc'
  have kw := kp_new w (.cells #[.int .i64 0, .string ⟨#[]⟩, .string ⟨#[]⟩] 229)
  rw [← kw.cell had] at hc
  rw [← kw.cell (show (⟨ad.block, ad.off + 1, none⟩ : Addr).block < w.heap.size from had)] at hc'
  clear h hlen
  go_enter Tryz.func205, Tryz.ntmps205
  go_wp2_with fail
  go_region
  all_goals
    go_wp2_with fail
    refine bodyPost_ret (v := planV 4 y x) ?_ rfl ⟨rfl, ?_⟩
    · rw [results_cell1 rfl]
      unfold planV
      go_simp
    · exact (kp_new _ _).drew
end
end Go.Proofs.YtdhnpmagapbmhaaGreatDoor
