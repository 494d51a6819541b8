/-
  Contracts and plain functions that the law stands on, part 6 of 24.
-/
import Derived.Test.YtdhnpmagapbmhaaGreatDoorQD5
import Derived.BigRegion
import Derived.BigQuiet
import Derived.OneCell
import Derived.Deep.AppendSrc
namespace Go.Proofs.YtdhnpmagapbmhaaGreatDoor
/- What is read of a table, by the call Reads of package plan: contract. Rows of texts. -/
section
open Go.RowKit
set_option maxRecDepth 100000
def tvs (l : List ByteArray) : List Value := l.map .string
theorem tvs_length (l : List ByteArray) : (tvs l).length = l.length := by simp [tvs]
theorem tvs_append (a b : List ByteArray) : tvs (a ++ b) = tvs a ++ tvs b := by simp [tvs]
theorem tvs_one (l : List ByteArray) : ∀ u ∈ tvs l, u.oneCell' = true := by
 intro u hu; obtain ⟨b, _, rfl⟩ := List.mem_map.1 hu; rfl
theorem strinfo6 : (Tryz.prog.info? 9).map (fun i => (i.zero, i.size, i.bytes)) = some (some (.string ⟨#[]⟩), 1, 16) := by kernel_rfl
structure XR (w : World) (A : Option Addr) (n : Nat) (ss : List ByteArray) : Prop where
 len : ss.length = n
 rd : Rd w w.heap.size A (tvs ss)
theorem XR.next {w w' : World} {A : Option Addr} {n : Nat} {ss : List ByteArray} (h : XR w A n ss) (hb : Below w.heap.size w w') : XR w' A n ss := ⟨h.len, (h.rd.below hb (Nat.le_refl _)).more hb.size⟩
theorem XR.nil (w : World) : XR w none 0 [] := ⟨rfl, .inl rfl⟩
theorem XR.at_ {w : World} {A : Option Addr} {n : Nat} {ss : List ByteArray} (h : XR w A n ss) {j : Nat} (hj : j < ss.length) : ∃ ad, A = some ad ∧ ad.block < w.heap.size ∧ w.cell? (ad.add j) = some (.string ss[j]) := by
 obtain ⟨ad, hA, hb, hc⟩ := h.rd.at_ (k := j) (by rw [tvs_length]; exact hj); exact ⟨ad, hA, hb, by simpa [tvs] using hc⟩
theorem XR.new (w : World) (t : TypeId) (ss : List ByteArray) : XR (w.alloc (.cells (tvs ss).toArray t)) (some ⟨w.heap.size, 0, none⟩) ss.length ss := ⟨rfl, (Rd.new w t (tvs ss)).more (by simp)⟩
theorem XR.of_own {w : World} {base n c : Nat} {e : TypeId} {A : Option Addr} {ss : List ByteArray} (h : w.ownsRow base e 1 (.slice A n c) n (tvs ss)) : XR w A n ss := ⟨by have := h.1; rw [tvs_length] at this; omega, Rd.of_own h⟩
theorem firsts_next (l : List Kv) (k : Nat) (h : k < l.length) : ((l.take (k + 1)).flatMap fun p => [p.k, p.v]) = ((l.take k).flatMap fun p => [p.k, p.v]) ++ [l[k].k, l[k].v] := by
 rw [List.take_succ_eq_append_getElem h, List.flatMap_append]; rfl
end

/- All but one block is as it was: a frame for calls that write one block of the caller's. -/
section
open Go.RowKit
set_option maxRecDepth 100000
structure Bel (b : Nat) (w w' : World) : Prop where
 os : w'.os = w.os
 tape : w'.tape = w.tape
 output : w'.output = w.output
 size : w.heap.size ≤ w'.heap.size
 block : ∀ k, k < w.heap.size → k ≠ b → w'.heap[k]? = w.heap[k]?
theorem Bel.of {w w' : World} (b : Nat) (h : Below w.heap.size w w') : Bel b w w' := ⟨h.os, h.tape, h.output, h.size, fun k hk _ => h.block k hk⟩
theorem Bel.trans {b : Nat} {a c d : World} (h : Bel b a c) (k : Bel b c d) : Bel b a d :=
 ⟨k.os.trans h.os, k.tape.trans h.tape, k.output.trans h.output, Nat.le_trans h.size k.size, fun i hi hn => (k.block i (Nat.lt_of_lt_of_le hi h.size) hn).trans (h.block i hi hn)⟩
theorem Bel.setCell {b : Nat} {w w' : World} (h : Bel b w w') (p : Addr) (hp : p.block = b) (u : Value) : Bel b w (w'.setCell p u) :=
 ⟨h.os, h.tape, h.output, by have := h.size; simp only [World.setCell, Array.size_modify]; exact this, fun k hk hn => by rw [Below.heap_setCell _ _ _ _ (by omega)]; exact h.block k hk hn⟩
theorem Bel.drew {b : Nat} {w w' : World} (h : Bel b w w') : Bel b w w'.drew := ⟨h.os, h.tape, h.output, h.size, h.block⟩
theorem Bel.ofDrew {b : Nat} {w w' : World} (h : Below w.drew.heap.size w.drew w') : Bel b w w' := ⟨h.os, h.tape, h.output, h.size, fun k hk _ => h.block k hk⟩
end

/- All but some blocks are as they were: a frame for calls that write blocks of their own things. -/
section
open Go.RowKit
set_option maxRecDepth 100000
structure Off (S : Nat → Prop) (w w' : World) : Prop where
 os : w'.os = w.os
 tape : w'.tape = w.tape
 output : w'.output = w.output
 size : w.heap.size ≤ w'.heap.size
 block : ∀ k, k < w.heap.size → ¬ S k → w'.heap[k]? = w.heap[k]?
section
variable {S T : Nat → Prop} {w w' w'' : World}
theorem Off.refl (S : Nat → Prop) (w : World) : Off S w w := ⟨rfl, rfl, rfl, Nat.le_refl _, fun _ _ _ => rfl⟩
theorem Off.of (S : Nat → Prop) (h : Below w.heap.size w w') : Off S w w' := ⟨h.os, h.tape, h.output, h.size, fun k hk _ => h.block k hk⟩
theorem Off.bel {b : Nat} (hS : S b) (h : Bel b w w') : Off S w w' := ⟨h.os, h.tape, h.output, h.size, fun k hk hn => h.block k hk fun e => hn (e ▸ hS)⟩
theorem Off.trans (h : Off S w w') (k : Off T w' w'') (hT : ∀ i, T i → S i ∨ w.heap.size ≤ i) : Off S w w'' :=
 ⟨k.os.trans h.os, k.tape.trans h.tape, k.output.trans h.output, Nat.le_trans h.size k.size, fun i hi hn => (k.block i (Nat.lt_of_lt_of_le hi h.size) fun e => (hT i e).elim hn fun e => by omega).trans (h.block i hi hn)⟩
theorem Off.below {B : Nat} (h : Off S w w') (hS : ∀ k, S k → B ≤ k) (hB : B ≤ w.heap.size) : Below B w w' := ⟨h.os, h.tape, h.output, h.size, fun k hk => h.block k (by omega) fun e => by have := hS k e; omega⟩
theorem Off.setCell (h : Off S w w') {p : Addr} (hp : S p.block ∨ w.heap.size ≤ p.block) (u : Value) : Off S w (w'.setCell p u) :=
 ⟨h.os, h.tape, h.output, by have := h.size; simp only [World.setCell, Array.size_modify]; exact this, fun k hk hn => by
  rw [Below.heap_setCell _ _ _ _ (fun e => by subst e; exact hp.elim hn fun e => by omega)]
  exact h.block k hk hn⟩
theorem Off.drew (h : Off S w w') : Off S w w'.drew := ⟨h.os, h.tape, h.output, h.size, h.block⟩
theorem Off.wide (h : Off S w w') (hS : ∀ k, S k → T k) : Off T w w' := ⟨h.os, h.tape, h.output, h.size, fun k hk hn => h.block k hk fun e => hn (hS k e)⟩
end
theorem own_keep {w w' : World} {base n size : Nat} {e : TypeId} {v : Value} {xs : List Value} (h : w.ownsRow base e size v n xs) (hk : ∀ g, v.ownBlock = some g → w'.heap[g]? = w.heap[g]?) : w'.ownsRow base e size v n xs := by
 refine ⟨h.1, ?_⟩; rcases h.2 with h2 | ⟨g, cap, cur, hv, hg, hh, r⟩
 · exact .inl h2
 · exact .inr ⟨g, cap, cur, hv, hg, (hk g (by rw [hv]; rfl)).trans hh, r⟩
theorem cellsAt {w : World} {b : Nat} {cs : Array Value} {t : TypeId} (h : w.heap[b]? = some (.cells cs t (0, 0))) (i : Nat) {v : Value} (hi : cs[i]? = some v) : w.cell? ⟨b, i, none⟩ = some v ∧ w.frozen? ⟨b, i, none⟩ = false := by
 refine ⟨?_, frozen_of_row w b i cs t h⟩; rw [cell_of_row _ _ i cs t (0, 0) h]; exact hi
end

/- A region that draws its order, gone through once an operation: the world's state may turn as operations are done, and blocks of some things may be written. -/
section
open Go.RowKit
def doneB (L : Nat → Bool) (i : Nat) : Nat → Bool := fun j => bif Nat.beq j i then true else L j
theorem doneB_ext {L : Nat → Bool} {i : Nat} {M : Nat → Bool} (h : M i = true) (h2 : ∀ j, j ≠ i → M j = L j) : M = doneB L i := by
 funext j; unfold doneB; by_cases hj : j = i
 · subst hj; rw [h, show Nat.beq j j = true from Nat.beq_refl j]; rfl
 · rw [h2 j hj, show Nat.beq j i = false from by
    cases hb : Nat.beq j i with
    | false => rfl
    | true => exact absurd (Nat.eq_of_beq_eq_true hb) hj]
   rfl
section
variable {P : Program} {ops : Array Oper} {Q : Exit → Act → World → Prop}
end
end

/- Things that lie in blocks of their own, one or two of them, and what calls on them leave (no function of the program is named here). -/
section
open Go.RowKit
set_option maxRecDepth 100000
structure Thing where
 p : (Nat → Prop) → World → Prop
 keep : ∀ {S : Nat → Prop} {w w' : World}, p S w → (∀ k, S k → w'.heap[k]? = w.heap[k]?) → w.heap.size ≤ w'.heap.size → p S w'
 lt : ∀ {S : Nat → Prop} {w : World}, p S w → ∀ k, S k → k < w.heap.size
structure Turn (Y : Thing) (S : Nat → Prop) (w w' : World) : Prop where
 at_ : ∃ S', Y.p S' w' ∧ ∀ k, S' k → S k ∨ w.heap.size ≤ k
 off : Off S w w'
section
variable {X Y Z : Thing} {S T : Nat → Prop} {w w' w'' : World}
theorem Thing.off (h : X.p S w) (ho : Off T w w') (hT : ∀ k, S k → ¬ T k) : X.p S w' := X.keep h (fun k hk => ho.block k (X.lt h k hk) (hT k hk)) ho.size
theorem Thing.next (h : X.p S w) (hb : Below w.heap.size w w') : X.p S w' := X.keep h (fun k hk => hb.block k (X.lt h k hk)) hb.size
theorem Turn.same (h : X.p S w) (hb : Below w.heap.size w w') : Turn X S w w' := ⟨⟨S, Thing.next h hb, fun _ h => .inl h⟩, Off.of S hb⟩
theorem Turn.here (h : X.p S w) : Turn X S w w := ⟨⟨S, h, fun _ h => .inl h⟩, Off.refl _ _⟩
end
structure Solo (w0 : World) (X : Thing) (N : Nat → Prop) (w : World) : Prop where
 at_ : ∃ S, X.p S w ∧ ∀ k, S k → w0.heap.size ≤ k ∧ ¬ N k
 low : Below w0.heap.size w0 w
 nlt : ∀ k, N k → k < w.heap.size
structure Duo (w0 : World) (X Y : Thing) (N : Nat → Prop) (w : World) : Prop where
 at_ : ∃ S T, X.p S w ∧ Y.p T w ∧ (∀ k, S k → ¬ T k) ∧ ∀ k, S k ∨ T k → w0.heap.size ≤ k ∧ ¬ N k
 low : Below w0.heap.size w0 w
 nlt : ∀ k, N k → k < w.heap.size
def noneB : Nat → Prop := fun _ => False
section
variable {P : Program} {w0 w w' : World} {X X' Y Y' : Thing} {N N' S T : Nat → Prop}
theorem Solo.make (hl : Below w0.heap.size w0 w) (hx : X.p S w') (hS : ∀ k, S k → w.heap.size ≤ k) (hb : Below w.heap.size w w') : Solo w0 X noneB w' := by
 have hz := hl.size; exact ⟨⟨S, hx, fun k hk => ⟨by have := hS k hk; omega, fun h => h⟩⟩, hl.trans (hb.mono hz), fun k h => h.elim⟩
theorem Duo.swap (h : Duo w0 X Y N w) : Duo w0 Y X N w := by
 obtain ⟨⟨S, T, h1, h2, h3, h4⟩, h5, h6⟩ := h; exact ⟨⟨T, S, h2, h1, fun k hk hk2 => h3 k hk2 hk, fun k hk => h4 k hk.symm⟩, h5, h6⟩
theorem Duo.next (h : Duo w0 X Y N w) (hb : Below w.heap.size w w') : Duo w0 X Y N w' := by
 obtain ⟨⟨S, T, h1, h2, h3, h4⟩, h5, h6⟩ := h; exact ⟨⟨S, T, Thing.next h1 hb, Thing.next h2 hb, h3, h4⟩, h5.trans (hb.mono h5.size), fun k hk => Nat.lt_of_lt_of_le (h6 k hk) hb.size⟩
theorem Duo.mark (h : Duo w0 X Y N w) (o : Obj) : Duo w0 X Y (fun k => k = w.heap.size ∨ N k) (w.alloc o) := by
 have hb : Below w.heap.size w (w.alloc o) := (Below.refl _ _).alloc (Nat.le_refl _) o; obtain ⟨⟨S, T, h1, h2, h3, h4⟩, h5, h6⟩ := h; refine ⟨⟨S, T, Thing.next h1 hb, Thing.next h2 hb, h3, fun k hk => ⟨(h4 k hk).1, fun e => e.elim (fun e => ?_) (h4 k hk).2⟩⟩, h5.trans (hb.mono h5.size), fun k hk => ?_⟩
 · have := hk.elim (X.lt h1 k) (Y.lt h2 k); omega
 · rcases hk with rfl | hk
   · simp
   · have := h6 k hk; simp; omega
theorem Duo.left {f : FuncId} {args : Array Value} {Q : Ending → World → Prop} (h : Duo w0 X Y N w) (hop : ∀ S, X.p S w → Calls P f args w fun e w' => Q e w' ∧ Turn X' S w w') :
 Calls P f args w fun e w' => Q e w' ∧ Duo w0 X' Y N w' ∧ ∀ k, N k → w'.heap[k]? = w.heap[k]? := by
 obtain ⟨⟨S, T, h1, h2, h3, h4⟩, h5, h6⟩ := h; refine (hop S h1).mono fun e w' ⟨hq, ⟨S', g1, g2⟩, g3⟩ => ⟨hq, ⟨⟨S', T, g1, Thing.off h2 g3 (fun k hk hk2 => h3 k hk2 hk), fun k hk hk2 => ?_, fun k hk => ?_⟩, h5.trans (g3.below (fun k hk => (h4 k (.inl hk)).1) h5.size), fun k hk => Nat.lt_of_lt_of_le (h6 k hk) g3.size⟩, fun k hk => g3.block k (h6 k hk) fun e => (h4 k (.inl e)).2 hk⟩
 · rcases g2 k hk with e | e
   · exact h3 k e hk2
   · have := Y.lt h2 k hk2; omega
 · rcases hk with hk | hk
   · rcases g2 k hk with e | e
     · exact h4 k (.inl e)
     · have := h5.size; exact ⟨by omega, fun hN => by have := h6 k hN; omega⟩
   · exact h4 k (.inr hk)
theorem Solo.duo (h : Solo w0 X noneB w) (hy : Y.p T w') (hT : ∀ k, T k → w.heap.size ≤ k) (hb : Below w.heap.size w w') : Duo w0 X Y noneB w' := by
 obtain ⟨⟨S, h1, h2⟩, h3, _⟩ := h; have hz := h3.size; exact ⟨⟨S, T, Thing.next h1 hb, hy, fun k hk hk2 => by have := X.lt h1 k hk; have := hT k hk2; omega, fun k hk => hk.elim (h2 k) fun hk => ⟨by have := hT k hk; omega, fun h => h⟩⟩, h3.trans (hb.mono hz), fun k h => h.elim⟩
end
section
variable {S T N : Nat → Prop} {Z : Nat} {X0 X1 Y0 Y1 : Thing} {w0 ws u u' : World} {f g : Bool}
end
end

/- The document's layer 15: nodes in memory; New, find, Lead: contracts. -/
section
open Go.RowKit
set_option maxRecDepth 100000
theorem entinfo : (Tryz.prog.info? 100).map (fun i => (i.zero, i.size, i.bytes)) = some (some (.agg #[.int .u64 0, .string ⟨#[]⟩]), 2, 24) := by kernel_rfl
theorem opninfo : (Tryz.prog.info? 160).map (fun i => (i.zero, i.size, i.bytes)) = some (some (.agg #[.int .i64 0, .slice none 0 0]), 2, 32) := by kernel_rfl
theorem set_other {w : World} {p : Addr} {v : Value} {k : Nat} (h : k ≠ p.block) : (w.setCell p v).heap[k]? = w.heap[k]? := Below.heap_setCell _ _ _ _ fun e => h (by first | exact e | exact e.symm)
theorem set_size (w : World) (p : Addr) (v : Value) : (w.setCell p v).heap.size = w.heap.size := by simp [World.setCell]
theorem XR.off {w w' : World} {A : Option Addr} {n : Nat} {ss : List ByteArray} (h : XR w A n ss) (hz : w.heap.size ≤ w'.heap.size) (hk : ∀ ad, A = some ad → w'.heap[ad.block]? = w.heap[ad.block]?) : XR w' A n ss := by
 refine ⟨h.len, ?_⟩; rcases h.rd with h | ⟨ad, e, hlt, hc⟩
 · exact .inl h
 · exact .inr ⟨ad, e, Nat.lt_of_lt_of_le hlt hz, fun j u hu => (World.cell?_of_block (by rw [add_block]; exact hk ad e)).trans (hc j u hu)⟩
structure OpR where
 c : Int
 A : Option Addr
 n : Nat
 d : Nat
instance : Inhabited OpR := ⟨⟨0, none, 0, 0⟩⟩
def opC (os : List OpR) : List Value := os.flatMap fun o => [.int .i64 o.c, .slice o.A o.n o.d]
theorem opC_append (a b : List OpR) : opC (a ++ b) = opC a ++ opC b := by simp [opC]
theorem opC_length : ∀ ts : List OpR, (opC ts).length = ts.length * 2
 | [] => rfl
 | r :: rs => by
   have := opC_length rs; simp only [opC, List.flatMap_cons, List.length_append, List.length_cons, List.length_nil] at this ⊢; omega
theorem opC_at : ∀ (rs : List OpR) (j : Nat) (h : j < rs.length), (opC rs)[j * 2]? = some (.int .i64 rs[j].c) ∧ (opC rs)[j * 2 + 1]? = some (.slice rs[j].A rs[j].n rs[j].d)
 | [], _, h => by simp at h
 | r :: rs, 0, _ => by simp [opC]
 | r :: rs, j + 1, h => by
   have := opC_at rs j (by simpa using h); have e1 : (j + 1) * 2 = j * 2 + 2 := by omega
   simp only [opC, List.flatMap_cons] at this ⊢; rw [e1]; simpa using this
theorem opC_one : ∀ (l : List OpR), ∀ u ∈ opC l, u.oneCell' = true
 | [], _, h => by simp [opC] at h
 | c :: cs, u, h => by
   simp only [opC, List.flatMap_cons, List.mem_append, List.mem_cons, List.not_mem_nil, or_false] at h; rcases h with (rfl | rfl) | h
   · rfl
   · rfl
   · exact opC_one cs u h
theorem opC_take : ∀ (rs : List OpR) (k : Nat), opC (rs.take k) = (opC rs).take (k * 2)
 | _, 0 => by simp [opC]
 | [], k + 1 => by simp [opC]
 | r :: rs, k + 1 => by
   have := opC_take rs k; have e1 : (k + 1) * 2 = k * 2 + 2 := by omega
   rw [List.take_succ_cons]; simp only [opC, List.flatMap_cons] at this ⊢; rw [this, e1]; simp
theorem opC_drop : ∀ (rs : List OpR) (k : Nat), opC (rs.drop k) = (opC rs).drop (k * 2)
 | _, 0 => by simp [opC]
 | [], k + 1 => by simp [opC]
 | r :: rs, k + 1 => by
   have := opC_drop rs k; have e1 : (k + 1) * 2 = k * 2 + 2 := by omega
   rw [List.drop_succ_cons]; simp only [opC, List.flatMap_cons] at this ⊢; rw [this, e1]; simp
theorem opC_set : ∀ (rs : List OpR) (k : Nat) (o : OpR) (h : k < rs.length), o.c = rs[k].c → opC (rs.set k o) = (opC rs).set (k * 2 + 1) (.slice o.A o.n o.d)
 | r :: rs, 0, o, _, e => by
   have e' : o.c = r.c := e; simp [opC, e']
 | r :: rs, k + 1, o, h, e => by
   have := opC_set rs k o (by simpa using h) e; have e1 : (k + 1) * 2 + 1 = k * 2 + 1 + 1 + 1 := by omega
   rw [List.set_cons_succ]; simp only [opC, List.flatMap_cons] at this ⊢; rw [this, e1]; simp
structure RNx (b : Nat) (n : Nd) (AL : Option Addr) (nl cl : Nat) (AO : Option Addr) (no co : Nat) (os : List OpR) (S : Nat → Prop) (w : World) : Prop where
 top : w.heap[b]? = some (.cells #[.int .u64 n.ep, .bool n.ld, .slice AL nl cl, .slice AO no co] 56 (0, 0))
 lg : LR w AL nl n.lg
 own : w.ownsRow 0 160 2 (.slice AO no co) no (opC os)
 len : os.length = n.op.length
 at_ : ∀ j (h1 : j < os.length) (h2 : j < n.op.length), os[j].c = n.op[j].c ∧ XR w os[j].A os[j].n n.op[j].ts
 sb : S b
 sl : ∀ ad, AL = some ad → S ad.block ∧ ad.block ≠ b ∧ (Value.slice AO no co).ownBlock ≠ some ad.block
 so : ∀ g, (Value.slice AO no co).ownBlock = some g → S g ∧ g ≠ b
 st : ∀ j (h1 : j < os.length) ad, os[j].A = some ad → S ad.block ∧ ad.block ≠ b ∧ (Value.slice AO no co).ownBlock ≠ some ad.block
 lt : ∀ k, S k → k < w.heap.size
section
variable {b : Nat} {n : Nd} {AL : Option Addr} {nl cl : Nat} {AO : Option Addr} {no co : Nat} {os : List OpR} {S : Nat → Prop} {w w' : World}
theorem RNx.olen (h : RNx b n AL nl cl AO no co os S w) : n.op.length = no := by
 have := h.own.1; rw [opC_length] at this; have := h.len; omega
theorem RNx.keep (h : RNx b n AL nl cl AO no co os S w) (hk : ∀ k, S k → w'.heap[k]? = w.heap[k]?) (hz : w.heap.size ≤ w'.heap.size) : RNx b n AL nl cl AO no co os S w' :=
 { h with
  top := (hk _ h.sb).trans h.top
  lg := h.lg.off hz fun ad e => hk _ (h.sl ad e).1
  own := own_keep h.own fun g hg => hk _ (h.so g hg).1
  at_ := fun j h1 h2 => ⟨(h.at_ j h1 h2).1, (h.at_ j h1 h2).2.off hz fun ad e => hk _ (h.st j h1 ad e).1⟩
  lt := fun k hk => Nat.lt_of_lt_of_le (h.lt k hk) hz }
theorem RNx.noop (h : RNx b n AL nl cl AO no co os S w) (e : Int) (l : Bool) (ht : w'.heap[b]? = some (.cells #[.int .u64 e, .bool l, .slice AL nl cl, .slice none 0 0] 56 (0, 0))) (hk : ∀ k, S k → k ≠ b → w'.heap[k]? = w.heap[k]?) (hz : w.heap.size ≤ w'.heap.size) : RNx b ⟨e, l, n.lg, []⟩ AL nl cl none 0 0 [] S w' where
 top := ht
 lg := h.lg.off hz fun ad e => hk _ (h.sl ad e).1 (h.sl ad e).2.1
 own := World.ownsRow_nil _ _ _ _
 len := rfl
 at_ := fun j h1 => absurd h1 (Nat.not_lt_zero _)
 sb := h.sb
 sl := fun ad e => ⟨(h.sl ad e).1, (h.sl ad e).2.1, by simp [Value.ownBlock]⟩
 so := fun g hg => by simp [Value.ownBlock] at hg
 st := fun j h1 => absurd h1 (Nat.not_lt_zero _)
 lt := fun k hk => Nat.lt_of_lt_of_le (h.lt k hk) hz
theorem RNx.relog (h : RNx b n AL nl cl AO no co os S w) {A' : Option Addr} {n' c' : Nat} {l' : List Lg} (ht : w'.heap[b]? = some (.cells #[.int .u64 n.ep, .bool n.ld, .slice A' n' c', .slice AO no co] 56 (0, 0))) (hl : LR w' A' n' l') (hn : ∀ ad, A' = some ad → w.heap.size ≤ ad.block ∧ ad.block < w'.heap.size) (hk : ∀ k, S k → k ≠ b → w'.heap[k]? = w.heap[k]?) (hz : w.heap.size ≤ w'.heap.size) :
 RNx b { n with lg := l' } A' n' c' AO no co os (fun k => S k ∨ (w.heap.size ≤ k ∧ k < w'.heap.size)) w' where
 top := ht
 lg := hl
 own := own_keep h.own fun g hg => hk _ (h.so g hg).1 (h.so g hg).2
 len := h.len
 at_ := fun j h1 h2 => ⟨(h.at_ j h1 h2).1, (h.at_ j h1 h2).2.off hz fun ad e => hk _ (h.st j h1 ad e).1 (h.st j h1 ad e).2.1⟩
 sb := .inl h.sb
 sl := fun ad e => ⟨.inr (hn ad e), by have := (hn ad e).1; have := h.lt b h.sb; omega, fun e2 => by have := (hn ad e).1; have := h.lt _ (h.so _ e2).1; omega⟩
 so := fun g hg => ⟨.inl (h.so g hg).1, (h.so g hg).2⟩
 st := fun j h1 ad e => ⟨.inl (h.st j h1 ad e).1, (h.st j h1 ad e).2⟩
 lt := fun k hk => hk.elim (fun hk => Nat.lt_of_lt_of_le (h.lt k hk) hz) (fun hk => hk.2)
theorem RNx.reop (h : RNx b n AL nl cl AO no co os S w) {A' : Option Addr} {n' c' : Nat} {os' : List OpR} {l' : List Op15} (ht : w'.heap[b]? = some (.cells #[.int .u64 n.ep, .bool n.ld, .slice AL nl cl, .slice A' n' c'] 56 (0, 0))) (ho : w'.ownsRow w.heap.size 160 2 (.slice A' n' c') n' (opC os')) (hlen : os'.length = l'.length)
 (ha : ∀ j (h1 : j < os'.length) (h2 : j < l'.length), os'[j].c = l'[j].c ∧ ((∃ i, ∃ (q1 : i < os.length) (q2 : i < n.op.length), os'[j] = os[i] ∧ l'[j] = n.op[i]) ∨ (os'[j].A = none ∧ os'[j].n = 0 ∧ l'[j].ts = []))) (hk : ∀ k, S k → k ≠ b → w'.heap[k]? = w.heap[k]?) (hz : w.heap.size ≤ w'.heap.size) :
 RNx b { n with op := l' } AL nl cl A' n' c' os' (fun k => S k ∨ (w.heap.size ≤ k ∧ k < w'.heap.size)) w' where
 top := ht
 lg := h.lg.off hz fun ad e => hk _ (h.sl ad e).1 (h.sl ad e).2.1
 own := own_base_s ho (Nat.zero_le _)
 len := hlen
 at_ := fun j h1 h2 => by
  refine ⟨(ha j h1 h2).1, ?_⟩; rcases (ha j h1 h2).2 with ⟨i, q1, q2, e1, e2⟩ | ⟨e1, e2, e3⟩
  · have e2' : l'[j].ts = n.op[i].ts := by rw [e2]
    rw [e1]; show XR w' os[i].A os[i].n l'[j].ts; rw [e2']; exact (h.at_ i q1 q2).2.off hz fun ad e => hk _ (h.st i q1 ad e).1 (h.st i q1 ad e).2.1
  · rw [e1, e2]; show XR w' none 0 l'[j].ts; rw [e3]; exact XR.nil w'
 sb := .inl h.sb
 sl := fun ad e => ⟨.inl (h.sl ad e).1, (h.sl ad e).2.1, fun e2 => by have := (ho.lt _ e2).1; have := h.lt _ (h.sl ad e).1; omega⟩
 so := fun g hg => ⟨.inr (ho.lt g hg), by have := (ho.lt g hg).1; have := h.lt b h.sb; omega⟩
 st := fun j h1 ad e => by
  have h2 : j < l'.length := by omega
  rcases (ha j h1 h2).2 with ⟨i, q1, q2, e1, e2⟩ | ⟨e1, _, _⟩
  · rw [e1] at e; exact ⟨.inl (h.st i q1 ad e).1, (h.st i q1 ad e).2.1, fun e3 => by have := (ho.lt _ e3).1; have := h.lt _ (h.st i q1 ad e).1; omega⟩
  · rw [e1] at e; cases e
 lt := fun k hk => hk.elim (fun hk => Nat.lt_of_lt_of_le (h.lt k hk) hz) (fun hk => hk.2)
theorem RNx.tops (h : RNx b n AL nl cl AO no co os S w) : w.cell? ⟨b, 0, none⟩ = some (.int .u64 n.ep) ∧ w.cell? ⟨b, 1, none⟩ = some (.bool n.ld) ∧ w.cell? ⟨b, 2, none⟩ = some (.slice AL nl cl) ∧ w.cell? ⟨b, 3, none⟩ = some (.slice AO no co) ∧ w.frozen? ⟨b, 0, none⟩ = false ∧ w.frozen? ⟨b, 1, none⟩ = false ∧ w.frozen? ⟨b, 2, none⟩ = false ∧ w.frozen? ⟨b, 3, none⟩ = false :=
 ⟨(cellsAt h.top 0 rfl).1, (cellsAt h.top 1 rfl).1, (cellsAt h.top 2 rfl).1, (cellsAt h.top 3 rfl).1, (cellsAt h.top 0 (v := .int .u64 n.ep) rfl).2, (cellsAt h.top 1 (v := .bool n.ld) rfl).2, (cellsAt h.top 2 (v := .slice AL nl cl) rfl).2, (cellsAt h.top 3 (v := .slice AO no co) rfl).2⟩
theorem RNx.opat (h : RNx b n AL nl cl AO no co os S w) {j : Nat} (hj : j < os.length) : ∃ g, AO = some ⟨g, 0, none⟩ ∧ S g ∧ g ≠ b ∧ w.cell? ⟨g, j * 2, none⟩ = some (.int .i64 os[j].c) ∧ w.cell? ⟨g, j * 2 + 1, none⟩ = some (.slice os[j].A os[j].n os[j].d) ∧ w.frozen? ⟨g, j * 2 + 1, none⟩ = false := by
 have hh := h.own; rcases h.own.2 with ⟨_, h2⟩ | ⟨g, cap, cur, h1, _, hg, _⟩
 · have := h.own.1; rw [opC_length] at this; omega
 · injection h1 with h1 _ _; subst h1; have hs := h.so g rfl; refine ⟨g, rfl, hs.1, hs.2, ?_, ?_, ?_⟩
   · have := hh.cells (g := g) rfl (j * 2) _ (opC_at os j hj).1; rwa [show (⟨g, 0, none⟩ : Addr).add (j * 2) = ⟨g, j * 2, none⟩ from by unfold Addr.add; split <;> simp_all] at this
   · have := hh.cells (g := g) rfl (j * 2 + 1) _ (opC_at os j hj).2; rwa [show (⟨g, 0, none⟩ : Addr).add (j * 2 + 1) = ⟨g, j * 2 + 1, none⟩ from by unfold Addr.add; split <;> simp_all] at this
   · exact frozen_of_row w g _ cur _ hg
end
def RN (b : Nat) (n : Nd) : Thing where
 p := fun S w => ∃ AL nl cl AO no co os, RNx b n AL nl cl AO no co os S w
 keep := fun ⟨_, _, _, _, _, _, _, h⟩ hk hz => ⟨_, _, _, _, _, _, _, h.keep hk hz⟩
 lt := fun ⟨_, _, _, _, _, _, _, h⟩ => h.lt
section
variable {b : Nat} {n : Nd} {S : Nat → Prop} {w : World}
set_option maxHeartbeats 4000000 in
theorem rfind15_ok (c : Int) (h : (RN b n).p S w) (hop : n.op.length ≤ 1000) :
 Calls Tryz.prog 88 #[.pointer (some ⟨b, 0, none⟩), .int .i64 c] w fun e w' => e = .returned (.int .i64 (idxOp c n.op)) ∧ w = w' := by
 obtain ⟨AL, nl, cl, AO, no, co, os, hx⟩ := h; obtain ⟨_, _, _, c3, _⟩ := hx.tops; have hl := hx.len; have HX := hid hx; have HOL := hid hx.olen; have hno : no ≤ 1000 := by rw [← HOL.out]; exact hop
 clear hx hop; go_enter Tryz.func88, Tryz.ntmps88; go_wp2_with fail
 go_loopw [5] (fun i wr => ∃ k : Nat, k ≤ no ∧ i = .int .i64 k ∧ Hid (∀ j (hj : j < n.op.length), j < k → n.op[j].c ≠ c) ∧ wr = w) (fun i _ => no - (intOf i).toNat)
 case atStart => exact ⟨0, Nat.zero_le _, rfl, hid (fun j _ h => absurd h (Nat.not_lt_zero _)), rfl⟩
 case round =>
  obtain ⟨k, hk, rfl, hne, rfl⟩ := hrel; by_cases hlt : k < no
  · have hkl : k < n.op.length := by rw [HOL.out]; exact hlt
    have hko : k < os.length := by rw [hl]; exact hkl
    obtain ⟨g, rfl, _, _, y0, _⟩ := HX.out.opat hko; rw [(HX.out.at_ k hko hkl).1] at y0; have hi0 : (0 : Int) ≤ (k : Int) := by omega
    have hi1 : (k : Int) < (no : Int) := by omega
    by_cases he : n.op[k].c = c
    · have hp : Hid (idxOp c n.op = k) := hid (idxOp_at hkl hne.out he); have hq : (n.op[k].c == c) = true := by rw [he]; simp
      generalize n.op[k].c = y at *; clear he hne; go_wp2_with fail; go_ret; exact ⟨by rw [hp.out]; rfl, rfl⟩
    · have hne2 : Hid (∀ j (hj : j < n.op.length), j < k + 1 → n.op[j].c ≠ c) := hid (fun j hj hjk => by
       by_cases h : j = k
       · subst h; exact he
       · exact hne.out j hj (by omega))
      have hq : (n.op[k].c == c) = false := by simpa using he
      generalize n.op[k].c = y at *; clear he hne; go_wp2_with fail; go_roundw
      case rel => exact ⟨k + 1, by omega, by go_num, hne2, trivial⟩
      case measure => simp [intOf]; omega
  · have hp : Hid (idxOp c n.op = -1) := hid (idxOp_none fun y hy => by
     obtain ⟨j, hj, rfl⟩ := List.getElem_of_mem hy
     exact hne.out j hj (by have := HOL.out; omega))
    clear hne; go_wp2_with fail; go_ret; exact ⟨by rw [hp.out]; rfl, rfl⟩
theorem rlead15_ok (e : Int) (h : (RN b n).p S w) :
 Calls Tryz.prog 35 #[.pointer (some ⟨b, 0, none⟩), .int .u64 e] w fun e' w' => e' = .returned (.bool (decide (n.ep ≤ e))) ∧ Turn (RN b (leadNd n e)) S w w' := by
 have HT := hid h; obtain ⟨AL, nl, cl, AO, no, co, os, hx⟩ := h; obtain ⟨c0, c1, c2, c3, f0, f1, f2, f3⟩ := hx.tops; have HX := hid hx; by_cases he : e < n.ep
 · rw [decide_eq_false (by omega), show leadNd n e = n from if_pos he]; clear hx; go_enter Tryz.func35, Tryz.ntmps35; go_wp2_with fail; go_ret; exact ⟨rfl, Turn.here HT.out⟩
 · rw [decide_eq_true (by omega), show leadNd n e = ⟨e, true, n.lg, []⟩ from if_neg he]; have hblt : b < w.heap.size := hx.lt b hx.sb; clear hx; go_enter Tryz.func35, Tryz.ntmps35; go_wp2_with fail; go_ret; have t3 := heap_setCell_same _ b 3 _ _ (.slice none 0 0) (heap_setCell_same _ b 1 _ _ (.bool true) (heap_setCell_same w b 0 _ _ (.int .u64 e) HX.out.top)); exact ⟨rfl, ⟨S, ⟨AL, nl, cl, none, 0, 0, [], HX.out.noop e true t3 (fun k _ hk => (set_other hk).trans ((set_other hk).trans (set_other hk))) (by rw [set_size, set_size, set_size]; exact Nat.le_refl _)⟩, fun _ h => .inl h⟩, Off.setCell (Off.setCell (Off.setCell (Off.refl S w) (.inl HX.out.sb) _) (.inl HX.out.sb) _) (.inl HX.out.sb) _⟩
end
end

/- Rows of numbers and of truths, as they lie in memory (no function of the program is named here). -/
section
open Go.RowKit
set_option maxRecDepth 100000
theorem own_type_ne {w : World} {base n size : Nat} {e t : TypeId} {v : Value} {xs : List Value} (h : w.ownsRow base e size v n xs) {b : Nat} {cs : Array Value} {fz : Nat × Nat} (hb : w.heap[b]? = some (.cells cs t fz)) (ht : t ≠ e) : v.ownBlock ≠ some b := by
 rcases h.2 with ⟨rfl, _⟩ | ⟨g, cap, cur, rfl, _, hg, _⟩
 · simp [Value.ownBlock]
 · simp only [Value.ownBlock, ne_eq, Option.some.injEq]; rintro rfl; rw [hg] at hb; simp only [Option.some.injEq, Obj.cells.injEq] at hb; exact ht hb.2.1.symm
theorem Rd.offR {w w' : World} {A : Option Addr} {xs : List Value} (h : Rd w w.heap.size A xs) (hz : w.heap.size ≤ w'.heap.size) (hk : ∀ ad, A = some ad → w'.heap[ad.block]? = w.heap[ad.block]?) : Rd w' w'.heap.size A xs := by
 rcases h with h | ⟨ad, e, hlt, hc⟩
 · exact .inl h
 · exact .inr ⟨ad, e, Nat.lt_of_lt_of_le hlt hz, fun j u hu => (World.cell?_of_block (by rw [add_block]; exact hk ad e)).trans (hc j u hu)⟩
end

/- An append of one element that tells where the row lies: where it lay, or in a new block (no function of the program is named here). -/
section
open Go.RowKit
set_option maxRecDepth 100000
theorem run_append_one {P : Program} {w : World} (t ty e : TypeId) (i : TypeInfo) (z : Value) (bytes : Nat) (ht : P.underlying t = some (.slice e)) (hi : P.info? e = some i) (hz : i.zero = some z)
 (hsize : i.size = 1) (hby : i.bytes = bytes) (hzs : z.cells.size = 1) {A : Option Addr} {n c : Nat} {xs : List Value} (hown : w.ownsRow 0 e 1 (.slice A n c) n xs) (ad : Addr) (c1 : Nat) (y : Value) (hy : w.cell? ad = some y) (h1 : y.oneCell' = true) (hn : n + 1 ≤ 1000) (hbytes : bytes ≤ 1000) :
 ∃ A' c' w', (Builtin.append_ #[t, t] ty #[.slice A n c, .slice (some ad) 1 c1]).run P w = .ok (.slice A' (n + 1) c') w' ∧ w'.ownsRow 0 e 1 (.slice A' (n + 1) c') (n + 1) (xs ++ [y]) ∧ w.grownBy w' (Value.slice A n c).ownBlock ∧
  ((Value.slice A' (n + 1) c').ownBlock = (Value.slice A n c).ownBlock ∨ ∃ g, (Value.slice A' (n + 1) c').ownBlock = some g ∧ w.heap.size ≤ g) := by
 have hcell : ∀ j u, [y][j]? = some u → w.cell? (ad.add j) = some u := fun j u hu => by
  match j, hu with
  | 0, hu =>
    rw [show ad.add 0 = ad from by unfold Addr.add; split <;> simp_all, hy]; simpa using hu
 have hrd : Rd w (ad.block + 1) (some ad) [y] := .inr ⟨ad, rfl, Nat.lt_succ_self _, hcell⟩
 have hb1 : (n + 1) * bytes ≤ 140737488355328 := by
  have : (n + 1) * bytes ≤ 1000 * 1000 := Nat.mul_le_mul hn hbytes; omega
 have ho1 : ∀ u ∈ [y], u.oneCell' = true := by simpa using h1
 obtain ⟨v', w', hr, h2, h3⟩ := run_append_rds (P := P) (w := w) 0 t ty e i z 1 bytes ht hi hz hsize hby hzs (by omega) (.slice A n c) n xs hown (ad.block + 1) (some ad) 1 c1 [y] rfl hrd ho1 (by unfold maxLen; omega) hb1 (Nat.zero_le _); obtain ⟨A', c', rfl, _, _⟩ := own_form_s h2; refine ⟨A', c', w', hr, h2, h3, ?_⟩; rcases hown.2 with ⟨h4, h5⟩ | ⟨g, cap, cur, h4, hbg, hg, hnc, hcm, hcs, htake⟩
 · injection h4 with e1 e2 e3; subst e1 e2 e3; obtain ⟨v2, w2, hr2, h22, _⟩ := run_append_rds (P := P) (w := w) w.heap.size t ty e i z 1 bytes ht hi hz hsize hby hzs (by omega) (.slice none 0 0) 0 xs ⟨hown.1, .inl ⟨rfl, rfl⟩⟩ (ad.block + 1) (some ad) 1 c1 [y] rfl hrd ho1 (by unfold maxLen; omega) hb1 (Nat.le_refl _); rw [hr] at hr2; injection hr2 with e1 e2; subst e1
   cases hq : (Value.slice A' (0 + 1) c').ownBlock with
   | none => exact .inl rfl
   | some g => exact .inr ⟨g, rfl, (h22.lt g hq).1⟩
 · injection h4 with e1 _ e3; subst e1 e3; have hs : Src P i.size t (.slice (some ad) 1 c1) 1 [y] w := Src.ofSlice w ht ad 1 c1 _ (by simp [hsize]) hcell ho1; have hcs' : cur.size = c := by simpa using hcs
   by_cases hroom : n + 1 ≤ c
   · have hr2 := run_append_room_src (P := P) w t t ty e i ht hi g 0 n c _ 1 [y] hs hroom (fun j hj => by
      obtain rfl : j = 0 := by simpa using hj
      rw [hsize, show 0 + n * 1 + 0 = n by omega, cell_of_row _ _ n cur e (0, 0) hg, Array.getElem?_eq_getElem (by omega)]
      rfl) (fun j hj => frozen_of_row w g _ cur e hg)
     rw [hr] at hr2; injection hr2 with e1 _; injection e1 with e1 _ _; subst e1; exact .inl rfl
   · have hxl : xs.length = n := by simpa using hown.1
     have hold : (Builtin.firstCells i.size n (.slice (some ⟨g, 0, none⟩) n c)).run P w.drew = .ok xs.toArray w.drew := run_firstCells_some _ _ _ _ _ _ _ (by rw [hxl, hsize]; omega) fun j u hu => hown.cells (g := g) rfl j u hu; have hr2 := run_append_grow_src (P := P) w t t ty e i z ht hi hz (some ⟨g, 0, none⟩) n c xs hold _ 1 [y] hs (by omega) (by omega) (growslice_fits (by omega) (by rw [hby]; exact hb1)); rw [hr] at hr2; injection hr2 with e1 _; injection e1 with e1 _ _; subst e1; exact .inr ⟨_, rfl, Nat.le_refl _⟩
theorem wpList_append_run {P : Program} {ops : Array Oper} {rest : List Oper} {o : Oper} {a : Act} {w : World} {Q : Exit → Act → World → Prop} (hw : Region.wanted o (yielded ops a.tmps) = true) (s x : Operand) (t : TypeId)
 (ho : o.op = .call { callee := .builtin .append, args := #[s, x], argTypes := #[t, t] }) (v y : Value) (hs : a.eval s = v) (hx : a.eval x = y) {v3 : Value} {w3 : World}
 (hrun : (Builtin.append_ #[t, t] o.type #[v, y]).run P w = .ok v3 w3) (h : wpList P ops Q rest (a.put o.dst v3) w3) : wpList P ops Q (o :: rest) a w :=
 wpList_step fun _ hK => by
  rw [if_pos hw]; unfold Oper.wp execOp; simp only [ho, resolve, invoke, builtin, Sem.run_bind, Sem.run_pure, Result.andThen_ok, List.map_toArray, List.map_cons, List.map_nil, hs, hx, hrun]; exact hK _ _ h
end

/- An append onto an empty literal: what lay there stays (no function of the program is named here). -/
section
open Go.RowKit
set_option maxRecDepth 100000
theorem run_append_empty {P : Program} {w : World} (base : Nat) (t ty e : TypeId) (i : TypeInfo) (z : Value) (size bytes : Nat) (ht : P.underlying t = some (.slice e)) (hi : P.info? e = some i) (hz : i.zero = some z)
 (hsize : i.size = size) (hby : i.bytes = bytes) (hzs : z.cells.size = size) (hsz : 0 < size) (g : Nat) (hown : w.ownsRow base e size (.slice (some ⟨g, 0, none⟩) 0 0) 0 [])
 (B : Nat) (A : Option Addr) (m c : Nat) (news : List Value) (hm : news.length = m * size) (hr : Rd w B A news) (h1 : ∀ u ∈ news, u.oneCell' = true)
 (h63 : m ≤ maxLen) (hbytes : m * bytes ≤ 140737488355328) (hbase : base ≤ w.heap.size) :
 ∃ v' w', (Builtin.append_ #[t, t] ty #[.slice (some ⟨g, 0, none⟩) 0 0, .slice A m c]).run P w = .ok v' w' ∧ w'.ownsRow base e size v' m news ∧ Below w.heap.size w w' := by
 obtain ⟨v', w', hrun, h2, h3⟩ := run_append_rds (P := P) (w := w) base t ty e i z size bytes ht hi hz hsize hby hzs hsz _ 0 [] hown B A m c news hm hr h1 (by omega) (by simpa using hbytes) hbase; rw [Nat.zero_add, List.nil_append] at h2; refine ⟨v', w', hrun, h2, ?_⟩
 cases A with
 | none =>
   have hn : news = [] := by
    rcases hr with h | ⟨_, h, _⟩
    · exact h
    · cases h
   subst hn
   obtain rfl : m = 0 := by
    rcases Nat.eq_zero_or_pos m with h | h
    · exact h
    · have := Nat.mul_pos h hsz; simp at hm
      omega
   have hr2 := run_append_nothings (P := P) (w := w) base t ty e i size ht hi _ 0 c [] hown; rw [hrun] at hr2; injection hr2 with _ e2; rw [e2]; exact Below.refl _ _
 | some ad =>
   have hc : ∀ j u, news[j]? = some u → w.cell? (ad.add j) = some u := by
    intro j u hu; rcases hr with h | ⟨ad', h, _, hc⟩
    · subst h; simp at hu
    · injection h with h; subst h; exact hc j u hu
   have hs : Src P i.size t (.slice (some ad) m c) m news w := Src.ofSlice w ht ad m c _ (by simp [hsize, hm]) hc h1; by_cases hm0 : m = 0
   · subst hm0; have hn : news = [] := List.eq_nil_of_length_eq_zero (by simpa using hm); subst hn; have hr2 := run_append_room_src (P := P) w t t ty e i ht hi g 0 0 0 _ 0 [] hs (Nat.le_refl _) (fun j hj => absurd hj (Nat.not_lt_zero _)) (fun j hj => absurd hj (Nat.not_lt_zero _)); rw [hrun] at hr2; injection hr2 with _ e2; rw [e2]; exact Below.refl _ _
   · have hold : (Builtin.firstCells i.size 0 (.slice (some ⟨g, 0, none⟩) 0 0)).run P w.drew = .ok ([] : List Value).toArray w.drew := run_firstCells_some _ _ _ _ _ _ _ (by simp) fun j u hu => by simp at hu
     have hr2 := run_append_grow_src (P := P) w t t ty e i z ht hi hz (some ⟨g, 0, none⟩) 0 0 [] hold _ m news hs (by omega) (by unfold maxLen at h63; omega) (growslice_fits (by unfold maxLen at h63; omega) (by rw [hby]; simpa using hbytes)); rw [hrun] at hr2; injection hr2 with _ e2; rw [e2]; exact kp_alloc (Below.refl _ _).drew _
theorem wp_append_empty {P : Program} {w : World} {o : Oper} {a : Act} {K : Act → World → Prop} {Q : Exit → Act → World → Prop} (s x : Operand) (t : TypeId)
 (ho : o.op = .call { callee := .builtin .append, args := #[s, x], argTypes := #[t, t] })
 (base : Nat) (e : TypeId) (i : TypeInfo) (z : Value) (size bytes : Nat) (ht : P.underlying t = some (.slice e)) (hi : P.info? e = some i) (hz : i.zero = some z)
 (hsize : i.size = size) (hby : i.bytes = bytes) (hzs : z.cells.size = size) (hsz : 0 < size) (g : Nat) (hs : a.eval s = .slice (some ⟨g, 0, none⟩) 0 0) (hown : w.ownsRow base e size (.slice (some ⟨g, 0, none⟩) 0 0) 0 [])
 (B : Nat) (A : Option Addr) (m c : Nat) (news : List Value) (hx : a.eval x = .slice A m c) (hm : news.length = m * size) (hr : Rd w B A news) (h1 : ∀ u ∈ news, u.oneCell' = true)
 (h63 : m ≤ maxLen) (hbytes : m * bytes ≤ 140737488355328) (hbase : base ≤ w.heap.size)
 (h : ∀ v' w', w'.ownsRow base e size v' m news → Below w.heap.size w w' → K (a.put o.dst v') w') : o.wp P a w K Q := by
 obtain ⟨v', w', hrun, h2, h3⟩ := run_append_empty (P := P) base t o.type e i z size bytes ht hi hz hsize hby hzs hsz g hown B A m c news hm hr h1 h63 hbytes hbase; unfold Oper.wp execOp; simp only [ho, resolve, invoke, builtin, Sem.run_bind, Sem.run_pure, Result.andThen_ok, List.map_toArray, List.map_cons, List.map_nil, hs, hx, hrun]; exact h v' w' h2 h3
end

/- A region that draws its order, gone through once an operation: each operation keeps what it keeps (Kp), and a slot's fact need not outlive operations that are done ahead of it. -/
section
open Go.RowKit
def depB (ops : Array Oper) (i j : Nat) : Bool := match ops[i]? with
 | some o => o.after.any fun e => Region.binds .any e && e.on == j
 | none => false
def needB (ops : Array Oper) : Nat → Nat → Nat → Bool
 | 0, i, j => depB ops i j
 | f + 1, i, j => depB ops i j || (List.range ops.size).any fun k => depB ops i k && needB ops f k j
theorem needB_done {ops : Array Oper} {L : Nat → Bool} (hcl : ∀ k j, L k = true → depB ops k j = true → L j = true) : ∀ (f i j : Nat), (∀ k, depB ops i k = true → L k = true) → needB ops f i j = true → L j = true
 | 0, _, _, hi, h => hi _ h
 | f + 1, i, j, hi, h => by
   unfold needB at h; rcases Bool.or_eq_true_iff.1 h with h | h
   · exact hi _ h
   · obtain ⟨k, _, hk⟩ := List.any_eq_true.1 h; obtain ⟨h1, h2⟩ := Bool.and_eq_true_iff.1 hk; exact needB_done hcl f k j (fun q hq => hcl k q (hi k h1) hq) h2
section
variable {P : Program} {ops : Array Oper} {Q : Exit → Act → World → Prop}
end
end

/- A region that draws its order, gone through once an operation: as XReg4, and besides: operations that name no slot (stores), and operations whose guard is known to fail. -/
section
open Go.RowKit
def regOk5 (ops : Array Oper) (n : Nat) : Bool :=
 ops.toList.all (fun o => match o.dst with | some d => decide (d < n) | none => true) &&
 decide (dstsOf ops).Nodup &&
 ops.toList.zipIdx.all (fun (o, i) => o.after.all fun e => !Region.binds .any e || decide (e.on < i))
theorem once_filterMap {α β : Type} (f : α → Option β) : ∀ {l : List α}, (l.filterMap f).Nodup → ∀ {i j : Nat} {x y : α} {d : β}, l[i]? = some x → l[j]? = some y → f x = some d → f y = some d → i = j
 | [], _, _, _, _, _, _, h, _, _, _ => by simp at h
 | z :: r, hn, i, j, x, y, d, hi, hj, hx, hy => by
   have hr : (r.filterMap f).Nodup := by
    rw [List.filterMap_cons] at hn; split at hn
    · exact hn
    · exact (List.nodup_cons.1 hn).2
   cases i with
   | zero =>
     cases j with
     | zero => rfl
     | succ j =>
       exfalso; simp only [List.getElem?_cons_zero, Option.some.injEq] at hi; simp only [List.getElem?_cons_succ] at hj; subst hi; rw [List.filterMap_cons, hx] at hn; exact (List.nodup_cons.1 hn).1 (List.mem_filterMap.2 ⟨y, List.mem_of_getElem? hj, hy⟩)
   | succ i =>
     cases j with
     | zero =>
       exfalso; simp only [List.getElem?_cons_zero, Option.some.injEq] at hj; simp only [List.getElem?_cons_succ] at hi; subst hj; rw [List.filterMap_cons, hy] at hn; exact (List.nodup_cons.1 hn).1 (List.mem_filterMap.2 ⟨x, List.mem_of_getElem? hi, hx⟩)
     | succ j =>
       simp only [List.getElem?_cons_succ] at hi hj; rw [once_filterMap f hr hi hj hx hy]
section
variable {P : Program} {ops : Array Oper} {Q : Exit → Act → World → Prop}
end
def KeepT (_ : Nat) (_ _ : World) : Prop := True
end

/- A region that draws its order, gone through once an operation: as XReg5, but a slot's fact may turn with what is done (it need not outlive who reads it). -/
section
open Go.RowKit
structure Stl (Kp : Nat → World → World → Prop) where
 p : (Nat → Bool) → Value → World → Prop
 st : ∀ i L v u u', L i = false → p L v u → Kp i u u' → p (doneB L i) v u'
def Stl.any (Kp : Nat → World → World → Prop) : Stl Kp := ⟨fun _ _ _ => True, fun _ _ _ _ _ _ _ _ => trivial⟩
def Stl.eq {Kp : Nat → World → World → Prop} (c : Value) : Stl Kp := ⟨fun _ v _ => v = c, fun _ _ _ _ _ _ h _ => h⟩
def Stl.find {Kp : Nat → World → World → Prop} : List (Nat × Stl Kp) → Nat → Stl Kp
 | [], _ => Stl.any Kp
 | (t, s) :: r, u => bif Nat.beq t u then s else Stl.find r u
theorem done_same {L : Nat → Bool} {i : Nat} : doneB L i i = true := by
 unfold doneB; rw [show Nat.beq i i = true from Nat.beq_refl i]; rfl
theorem done_mono {L : Nat → Bool} {i j : Nat} (h : L j = true) : doneB L i j = true := by
 unfold doneB
 cases Nat.beq j i with
 | true => rfl
 | false => exact h
theorem done_not {L : Nat → Bool} {i j : Nat} (h : doneB L i j = false) : L j = false ∧ j ≠ i := by
 refine ⟨?_, fun e => ?_⟩
 · cases hl : L j with
   | false => rfl
   | true => rw [done_mono hl] at h; cases h
 · subst e; rw [done_same] at h; cases h
section
variable {P : Program} {ops : Array Oper} {Q : Exit → Act → World → Prop}
def Went6 (S : (Nat → Bool) → World → Prop) {Kp : Nat → World → World → Prop} (Sp : Nat → Stl Kp) (L : Nat → Bool) (i : Nat) (a : Act) (d : Option Tmp) (w : World) (a' : Act) (w' : World) : Prop :=
 ∃ v, a' = a.put d v ∧ S (doneB L i) w' ∧ Kp i w w' ∧ ∀ t, d = some t → (Sp t).p (doneB L i) v w'
theorem Went6.same {S : (Nat → Bool) → World → Prop} {Kp : Nat → World → World → Prop} {Sp : Nat → Stl Kp} {L : Nat → Bool} {i : Nat} {a : Act} {t : Nat} {w : World} {v : Value} (hr : Kp i w w) (hS : S (doneB L i) w) (h : (Sp t).p (doneB L i) v w)  : Went6 S Sp L i a (some t) w { tmps := a.tmps.setIfInBounds t v, defers := a.defers } w :=
 ⟨v, rfl, hS, hr, fun _ e => by injection e with e; subst e; exact h⟩
theorem Went6.next {S : (Nat → Bool) → World → Prop} {Kp : Nat → World → World → Prop} {Sp : Nat → Stl Kp} {L : Nat → Bool} {i : Nat} {a : Act} {t : Nat} {w w' : World} {v : Value} (hS : S (doneB L i) w') (hb : Kp i w w') (h : (Sp t).p (doneB L i) v w')  : Went6 S Sp L i a (some t) w { tmps := a.tmps.setIfInBounds t v, defers := a.defers } w' :=
 ⟨v, rfl, hS, hb, fun _ e => by injection e with e; subst e; exact h⟩
end
section
variable {P : Program} {ops : Array Oper} {Q : Exit → Act → World → Prop}
def OkOp6 (P : Program) (ops : Array Oper) (Q : Exit → Act → World → Prop) (S : (Nat → Bool) → World → Prop) {Kp : Nat → World → World → Prop} (Sp : Nat → Stl Kp) (a0 : Act) (i : Nat) (o : Oper) : Prop :=
 ∀ L a w, L i = false → StandI ops i a0 a → S L w → (∀ t, (_ : (waitsFor ops o).contains t = true := by kernel_rfl) → (Sp t).p L (a.tmps.getD t undef) w) → (∀ f j, (_ : needB ops f i j = true := by kernel_rfl) → L j = true) → (∀ f k, (_ : needB ops f k i = true := by kernel_rfl) → L k = false) →
  (Wants ops a o ∧ o.wp P a w (Went6 S Sp L i a o.dst w) Q) ∨ (WantsNot ops a o ∧ S (doneB L i) w ∧ Kp i w w ∧ ∀ t, o.dst = some t → (Sp t).p (doneB L i) undef w)
theorem wpAny_specs6 (S : (Nat → Bool) → World → Prop) {Kp : Nat → World → World → Prop} (Sp : Nat → Stl Kp) (a0 : Act) (hok : regOk5 ops a0.tmps.size = true)
 (each : EachOp (OkOp6 P ops Q S Sp a0) 0 ops.toList)
 (fin : ∀ L a w, (∀ j, j < ops.size → L j = true) → Stand ops a0 a → S L w → (∀ t, (dstsOf ops).contains t = true → (Sp t).p L (a.tmps.getD t undef) w) → Q .normal a w) :
 ∀ (fuel : Nat) (listed : Array Bool) (a : Act) (w : World), listed.size = ops.size → ((List.range ops.size).filter fun i => !listed.getD i true).length ≤ fuel →
  Stand ops a0 a → S (fun j => listed.getD j false) w → (∀ i d, listed.getD i false = true → dstOf ops i = some d → (Sp d).p (fun j => listed.getD j false) (a.tmps.getD d undef) w) →
  (∀ j d, j < ops.size → listed.getD j false = false → dstOf ops j = some d → a.tmps.getD d undef = a0.tmps.getD d undef) →
  (∀ j o, listed.getD j false = true → ops[j]? = some o → ∀ e ∈ o.after, Region.binds .any e = true → listed.getD e.on false = true) → wpAny P .any ops Q fuel listed a w := by
 simp only [regOk5, Bool.and_eq_true, List.all_eq_true, decide_eq_true_eq] at hok; obtain ⟨⟨hdst, hnd⟩, hlow⟩ := hok
 have hdst' : ∀ o ∈ ops.toList, ∀ d, o.dst = some d → d < a0.tmps.size := fun o ho d hd => by
  have := hdst o ho; rw [hd] at this; simpa using this
 have hinj : ∀ i j d, dstOf ops i = some d → dstOf ops j = some d → i = j := fun i j d hi hj => by
  unfold dstOf at hi hj; obtain ⟨x, hx, hxd⟩ := Option.bind_eq_some_iff.1 hi; obtain ⟨y, hy, hyd⟩ := Option.bind_eq_some_iff.1 hj; exact once_filterMap (l := ops.toList) (fun o : Oper => o.dst) hnd (by simpa using hx) (by simpa using hy) hxd hyd
 have hready0 : ∀ listed : Array Bool, listed.size = ops.size → Region.ready .any ops listed = [] → ∀ i, i < ops.size → listed.getD i false = true := by
  intro listed hsz hr i
  induction i using Nat.strongRecOn with
  | _ i ih =>
    intro hi
    cases hl : listed.getD i false with
    | true => rfl
    | false =>
      exfalso
      have hl2 : listed.getD i true = false := by
       rw [Array.getD_eq_getD_getElem?, Array.getElem?_eq_getElem (by omega)] at hl ⊢; simpa using hl
      have hm : i ∈ Region.ready .any ops listed := by
       unfold Region.ready; rw [List.mem_filter]; refine ⟨List.mem_range.2 hi, ?_⟩; rw [hl2, Array.getElem?_eq_getElem hi]; simp only [Bool.not_false, Bool.true_and, Option.map_some, Option.getD_some, Array.all_eq_true_iff_forall_mem]; intro e he; have h1 := hlow (ops[i], i) (by rw [List.mem_zipIdx_iff_getElem?]; simp [hi]); simp only [Array.all_eq_true_iff_forall_mem] at h1; have h2 := h1 e he
       cases hb : Region.binds .any e with
       | false => simp
       | true =>
         rw [hb] at h2; have h3 : e.on < i := by simpa using h2
         simp [ih e.on h3 (by omega)]
      rw [hr] at hm; cases hm
 have hfin : ∀ listed a w, listed.size = ops.size → Stand ops a0 a → S (fun j => listed.getD j false) w → (∀ i d, listed.getD i false = true → dstOf ops i = some d → (Sp d).p (fun j => listed.getD j false) (a.tmps.getD d undef) w) → Region.ready .any ops listed = [] → Q .normal a w := by
  intro listed a w hsz hst hS hsp hr; refine fin _ a w (hready0 listed hsz hr) hst hS fun t ht => ?_; obtain ⟨o, ho, he⟩ := List.mem_filterMap.1 (List.contains_iff_mem.1 ht); obtain ⟨i, hi, hio⟩ := List.mem_iff_getElem.1 ho; have hi' : i < ops.size := by simpa using hi
  have hd : dstOf ops i = some t := by
   unfold dstOf; rw [Array.getElem?_eq_getElem hi', show ops[i] = o by rw [← hio]; simp]; exact he
  exact hsp i t (hready0 listed hsz hr i hi') hd
 intro fuel
 induction fuel with
 | zero =>
   intro listed a w hsz hc hst hS hsp _ _
   have hr : Region.ready .any ops listed = [] := by
    have h0 : ((List.range ops.size).filter fun i => !listed.getD i true) = [] := List.eq_nil_of_length_eq_zero (by omega); unfold Region.ready; rw [List.filter_eq_nil_iff] at h0 ⊢; intro i hi; have := h0 i hi; simp only [Bool.not_eq_true] at this ⊢; rw [this, Bool.false_and]
   exact ⟨hr, hfin listed a w hsz hst hS hsp hr⟩
 | succ fuel ih =>
   intro listed a w hsz hc hst hS hsp hun0 hcl; refine ⟨hfin listed a w hsz hst hS hsp, fun i hi => ?_⟩; unfold Region.ready at hi; rw [List.mem_filter, List.mem_range] at hi; obtain ⟨hilt, hi2⟩ := hi; rw [Array.getElem?_eq_getElem hilt] at hi2; simp only [Bool.and_eq_true, Option.map_some, Option.getD_some, Array.all_eq_true_iff_forall_mem] at hi2; obtain ⟨hun, hdeps⟩ := hi2; have hdi : dstOf ops i = (ops[i]).dst := by unfold dstOf; rw [Array.getElem?_eq_getElem hilt]; rfl
   have hthis := each.at_ i ops[i] (by simp [hilt]); rw [Nat.zero_add] at hthis
   have hni : listed.getD i false = false := by
    have hl : listed.getD i true = false := by simpa using hun
    rw [Array.getD_eq_getD_getElem?, Array.getElem?_eq_getElem (by omega)] at hl ⊢; simpa using hl
   have hold : ∀ t, (laterOf ops i).contains t = true → a.tmps.getD t undef = a0.tmps.getD t undef := fun t ht => by
    unfold laterOf at ht; obtain ⟨o, ho, hot⟩ := List.mem_filterMap.1 (List.contains_iff_mem.1 ht); rw [List.mem_filter] at ho; obtain ⟨j, hj, hje⟩ := List.mem_iff_getElem.1 ho.1; have hj' : j < ops.size := by simpa using hj
    have hjo : ops[j]? = some o := by rw [Array.getElem?_eq_getElem hj', ← hje]; simp
    have hdj : dstOf ops j = some t := by unfold dstOf; rw [hjo]; exact hot
    refine hun0 j t hj' ?_ hdj; rw [Bool.eq_false_iff]; intro hlj; obtain ⟨e, he, h2⟩ := Array.any_eq_true'.1 ho.2; simp only [Bool.and_eq_true, beq_iff_eq] at h2; have := hcl j o hlj hjo e he h2.1; rw [h2.2, hni] at this; cases this
   have hclB : ∀ k q, (fun j => listed.getD j false) k = true → depB ops k q = true → (fun j => listed.getD j false) q = true := fun k q hk hq => by
    unfold depB at hq
    cases hko : ops[k]? with
    | none => rw [hko] at hq; cases hq
    | some o =>
      rw [hko] at hq; obtain ⟨e, he, h3⟩ := Array.any_eq_true'.1 hq; simp only [Bool.and_eq_true, beq_iff_eq] at h3; have h4 := hcl k o hk hko e he h3.1; rw [h3.2] at h4; exact h4
   have hor := hthis _ a w hni ⟨hst, hold⟩ hS (fun t ht => by
    unfold waitsFor at ht; obtain ⟨e, he, het⟩ := List.mem_filterMap.1 (List.contains_iff_mem.1 ht); rw [List.mem_filter] at he; have := hdeps e (by simpa using he.1); rw [he.2] at this
    exact hsp e.on t (by simpa using this) het) (fun f j hj => needB_done (L := fun j => listed.getD j false) (fun k q hk hq => by
     unfold depB at hq
     cases hko : ops[k]? with
     | none => rw [hko] at hq; cases hq
     | some o =>
       rw [hko] at hq; obtain ⟨e, he, h3⟩ := Array.any_eq_true'.1 hq; simp only [Bool.and_eq_true, beq_iff_eq] at h3; have h4 := hcl k o hk hko e he h3.1; rw [h3.2] at h4
       exact h4) f i j (fun k hk => by
     unfold depB at hk; rw [Array.getElem?_eq_getElem hilt] at hk; obtain ⟨e, he, h3⟩ := Array.any_eq_true'.1 hk; simp only [Bool.and_eq_true, beq_iff_eq] at h3; have h4 := hdeps e he; rw [h3.1, h3.2] at h4
     simpa using h4) hj) (fun f k hk => by
     cases hlk : listed.getD k false with
     | false => rfl
     | true =>
       have h6 : listed.getD i false = true := needB_done (L := fun j => listed.getD j false) hclB f k i (fun q hq => hclB k q hlk hq) hk; rw [hni] at h6
       cases h6)
   suffices key : ∀ a' w', Went6 S Sp (fun j => listed.getD j false) i a (ops[i]).dst w a' w' → wpAny P .any ops Q fuel (listed.setIfInBounds i true) a' w' by
    unfold wpOp; simp only [Array.getElem?_eq_getElem hilt]; rcases hor with ⟨hw, hwp⟩ | ⟨hw, hS', hk', hsp'⟩
    · simp only [wants hw, if_true]; exact .inl (Oper.wp_mono (fun a' w' h => key a' w' h) hwp)
    · rw [wants_not hw]; simp only [Bool.false_eq_true, if_false]; exact key _ _ ⟨undef, rfl, hS', hk', hsp'⟩
   rintro a' w' ⟨v, rfl, hS', hb, hsp'⟩
   have hval : ∀ d, (ops[i]).dst = some d → ((a.put (ops[i]).dst v).tmps.getD d undef) = v := fun d hd => by
    rw [hd]; simp only [Act.put]; rw [Array.getD_eq_getD_getElem?, Array.getElem?_setIfInBounds_self_of_lt (by rw [hst.size]; exact hdst' ops[i] (by simp) d hd)]; rfl
   have hoth : ∀ t, (ops[i]).dst ≠ some t → (a.put (ops[i]).dst v).tmps.getD t undef = a.tmps.getD t undef := fun t ht => by
    cases hd : (ops[i]).dst with
    | none => rfl
    | some d =>
      simp only [Act.put]; rw [Array.getD_eq_getD_getElem?, Array.getD_eq_getD_getElem?, Array.getElem?_setIfInBounds_ne (fun h => ht (by rw [hd, h]))]
   have hput : (a.put (ops[i]).dst v).tmps.size = a0.tmps.size ∧ (a.put (ops[i]).dst v).defers = a0.defers := by
    cases (ops[i]).dst <;> simp [Act.put, hst.size, hst.defers]
   have hset : ∀ j, j ≠ i → (listed.setIfInBounds i true).getD j false = listed.getD j false := fun j hji => by
    rw [Array.getD_eq_getD_getElem?, Array.getElem?_setIfInBounds_ne (fun h => hji h.symm), ← Array.getD_eq_getD_getElem?]
   have hseti : (listed.setIfInBounds i true).getD i false = true := by
    rw [Array.getD_eq_getD_getElem?, Array.getElem?_setIfInBounds_self_of_lt (by omega)]; rfl
   refine ih _ _ _ (by simp [hsz]) ?_ ⟨hput.1, hput.2, fun t ht => ?_⟩ (by rw [doneB_ext (L := fun j => listed.getD j false) (i := i) (M := fun j => (listed.setIfInBounds i true).getD j false) hseti hset]; exact hS') (fun j dj hj hdj => ?_) (fun j dj hj hlj hdj => ?_) (fun j o hlj hjo e he hb2 => ?_)
   · have hl : listed.getD i true = false := by simpa using hun
     have := filter_lt (l := List.range ops.size) (p := fun j => !listed.getD j true) (q := fun j => !(listed.setIfInBounds i true).getD j true) (fun x hx => by
      by_cases hxi : i = x
      · subst hxi; rw [Array.getD_eq_getD_getElem?, Array.getElem?_setIfInBounds_self_of_lt (by omega)] at hx; simp at hx
      · rw [Array.getD_eq_getD_getElem?, Array.getElem?_setIfInBounds_ne hxi, ← Array.getD_eq_getD_getElem?] at hx
        exact hx) (i := i) (List.mem_range.2 hilt) (by simp [hl]) (by
        rw [Array.getD_eq_getD_getElem?, Array.getElem?_setIfInBounds_self_of_lt (by omega)]; simp)
     omega
   · rw [hoth t, hst.out t ht]; intro e; have : (dstsOf ops).contains t = true := List.contains_iff_mem.2 (List.mem_filterMap.2 ⟨ops[i], by simp, e⟩); rw [this] at ht; cases ht
   · by_cases hji : j = i
     · subst hji; rw [hdi] at hdj; rw [hval dj hdj, doneB_ext (L := fun q => listed.getD q false) (i := j) (M := fun q => (listed.setIfInBounds j true).getD q false) hseti hset]; exact hsp' dj hdj
     · have hne : (ops[i]).dst ≠ some dj := fun e => hji (hinj j i dj hdj (hdi.trans e)); rw [hoth dj hne]; rw [Array.getD_eq_getD_getElem?, Array.getElem?_setIfInBounds_ne (fun h => hji h.symm), ← Array.getD_eq_getD_getElem?] at hj; rw [doneB_ext (L := fun j => listed.getD j false) (i := i) (M := fun j => (listed.setIfInBounds i true).getD j false) hseti hset]; exact (Sp dj).st i _ _ _ _ hni (hsp j dj hj hdj) hb
   · have hji : j ≠ i := fun h => by rw [h, hseti] at hlj; cases hlj
     rw [hset j hji] at hlj; rw [hoth dj (fun e => hji (hinj j i dj hdj (hdi.trans e)))]; exact hun0 j dj hj hlj hdj
   · have hon : listed.getD e.on false = true := by
      by_cases hji : j = i
      · subst hji; rw [Array.getElem?_eq_getElem hilt] at hjo; injection hjo with hjo; subst hjo; have := hdeps e he; rw [hb2] at this; simpa using this
      · rw [hset j hji] at hlj; exact hcl j o hlj hjo e he hb2
     by_cases hei : e.on = i
     · rw [hei]; exact hseti
     · rw [hset _ hei]; exact hon
theorem wp_region_specs6 {id : Nat} {a0 : Act} {w0 : World} (S : (Nat → Bool) → World → Prop) {Kp : Nat → World → World → Prop} (Sp : List (Nat × Stl Kp)) (hm : P.follows .mixedOrders = true) (hok : regOk5 ops a0.tmps.size = true) (hS : S (fun _ => false) w0.drew)
 (each : EachOp (OkOp6 P ops Q S (Stl.find Sp) a0) 0 ops.toList)
 (fin : ∀ L a w, (∀ j, Nat.blt j ops.size = true → L j = true) → Stand ops a0 a → S L w → (∀ t, (_ : (dstsOf ops).contains t = true := by kernel_rfl) → (Stl.find Sp t).p L (a.tmps.getD t undef) w) → Q .normal a w) :
 (Code.region id ops true).wp P Q a0 w0 :=
 wp_region_any hm (wpAny_specs6 S (Stl.find Sp) a0 hok each (fun L a w hL => fin L a w fun j hj => hL j (Nat.le_of_ble_eq_true hj)) _ _ _ _ (by simp) (by
  refine Nat.le_trans (List.length_filter_le _ _) (by simp)) ⟨rfl, rfl, fun _ _ => rfl⟩ (by rw [show (fun j => (Array.replicate ops.size false).getD j false) = fun _ => false from by funext j; rw [Array.getD_eq_getD_getElem?, Array.getElem?_replicate]; split <;> rfl]; exact hS) (fun i d h => by
  exfalso; rw [Array.getD_eq_getD_getElem?, Array.getElem?_replicate] at h
  split at h <;> simp at h) (fun _ _ _ _ _ => rfl) (fun j o h => by
  exfalso; rw [Array.getD_eq_getD_getElem?, Array.getElem?_replicate] at h
  split at h <;> simp at h))
end
def Kp2 (d1 d2 : Nat) (i : Nat) (u u' : World) : Prop := i ≠ d1 → i ≠ d2 → Below u.heap.size u u'
theorem Kp2.refl (d1 d2 i : Nat) (u : World) : Kp2 d1 d2 i u u := fun _ _ => Below.refl _ _
def rowL (d1 d2 : Nat) (B : Nat) (T : TypeId) (size n : Nat) (xs : List Value) : Stl (Kp2 d1 d2) where
 p := fun L v u => ∃ D e, v = .slice D n e ∧ (L d1 = false → L d2 = false → u.ownsRow B T size (.slice D n e) n xs)
 st := fun i L v u u' _ h hk => by
  obtain ⟨D, e, hv, h⟩ := h; refine ⟨D, e, hv, fun h1 h2 => ?_⟩; obtain ⟨a1, b1⟩ := done_not h1; obtain ⟨a2, b2⟩ := done_not h2; exact own_below_s (h a1 a2) (hk (fun e => b1 e.symm) (fun e => b2 e.symm)) (Nat.le_refl _)
def rowK (d1 d2 : Nat) (B : Nat) (T : TypeId) (size n : Nat) (xs : List Value) : Stl (Kp2 d1 d2) where
 p := fun L v u => L d1 = true ∧ ∃ D e, v = .slice D n e ∧ (L d2 = false → u.ownsRow B T size (.slice D n e) n xs)
 st := fun i L v u u' hi h hk => by
  obtain ⟨h0, D, e, hv, h⟩ := h; refine ⟨done_mono h0, D, e, hv, fun h2 => ?_⟩; obtain ⟨a2, b2⟩ := done_not h2; exact own_below_s (h a2) (hk (fun e => by subst e; rw [hi] at h0; cases h0) (fun e => b2 e.symm)) (Nat.le_refl _)
def nilL (d1 d2 : Nat) (B : Nat) (T : TypeId) (size : Nat) : Stl (Kp2 d1 d2) where
 p := fun L v u => ∃ g, v = .slice (some ⟨g, 0, none⟩) 0 0 ∧ (L d1 = false → L d2 = false → u.ownsRow B T size (.slice (some ⟨g, 0, none⟩) 0 0) 0 [])
 st := fun i L v u u' _ h hk => by
  obtain ⟨g, e, h⟩ := h; refine ⟨g, e, fun h1 h2 => ?_⟩; obtain ⟨a1, b1⟩ := done_not h1; obtain ⟨a2, b2⟩ := done_not h2; exact own_below_s (h a1 a2) (hk (fun e => b1 e.symm) (fun e => b2 e.symm)) (Nat.le_refl _)
def belL (d1 d2 : Nat) (q : Value → World → Prop) (hq : ∀ v u u', q v u → Below u.heap.size u u' → q v u') (q0 : Value → Prop) : Stl (Kp2 d1 d2) where
 p := fun L v u => q0 v ∧ (L d1 = false → L d2 = false → q v u)
 st := fun i L v u u' _ h hk => ⟨h.1, fun h1 h2 => by
  obtain ⟨a1, b1⟩ := done_not h1; obtain ⟨a2, b2⟩ := done_not h2
  exact hq v u u' (h.2 a1 a2) (hk (fun e => b1 e.symm) (fun e => b2 e.symm))⟩
def shL (d1 d2 : Nat) (mk : Option Addr → Nat → Nat → Value) (q : World → Option Addr → Nat → Prop) (hq : ∀ u u' D m, q u D m → Below u.heap.size u u' → q u' D m) : Stl (Kp2 d1 d2) where
 p := fun L v u => ∃ D m e, v = mk D m e ∧ (L d1 = false → L d2 = false → q u D m)
 st := fun i L v u u' _ h hk => by
  obtain ⟨D, m, e, hv, h⟩ := h; refine ⟨D, m, e, hv, fun h1 h2 => ?_⟩; obtain ⟨a1, b1⟩ := done_not h1; obtain ⟨a2, b2⟩ := done_not h2; exact hq u u' D m (h a1 a2) (hk (fun e => b1 e.symm) (fun e => b2 e.symm))
def SL6 (st : Nat) (W : World) (F : World → Prop) (L : Nat → Bool) (u : World) : Prop := bif L st then F u else Below W.heap.size W u
theorem SL6.ahead {st : Nat} {W u : World} {F : World → Prop} {L : Nat → Bool} (h : SL6 st W F L u) (h0 : L st = false) : Below W.heap.size W u := by
 unfold SL6 at h; rw [h0] at h; exact h
theorem SL6.of {st : Nat} {W u : World} {F : World → Prop} {L : Nat → Bool} (h0 : L st = false) (h : Below W.heap.size W u) : SL6 st W F L u := by
 unfold SL6; rw [h0]; exact h
theorem SL6.done {st : Nat} {W u : World} {F : World → Prop} {L : Nat → Bool} (h : SL6 st W F L u) (h0 : L st = true) : F u := by
 unfold SL6 at h; rw [h0] at h; exact h
theorem SL6.last {st : Nat} {W u : World} {F : World → Prop} {L : Nat → Bool} (h0 : L st = true) (h : F u) : SL6 st W F L u := by
 unfold SL6; rw [h0]; exact h
end
end Go.Proofs.YtdhnpmagapbmhaaGreatDoor
