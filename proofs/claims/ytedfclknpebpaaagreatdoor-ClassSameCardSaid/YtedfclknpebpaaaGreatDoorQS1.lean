/-
  Contracts and plain functions that the law stands on, part 1 of 4.
-/
import Derived.Test.YtedfclknpebpaaaGreatDoorRows
import Derived.WalkKit
import Derived.WalkSpells
import Derived.Lib.Hide
import Derived.Lib.AppendStr
import Derived.Lib.BufferRead
import Derived.Lib.ConvBytes
import Derived.Laws.IdiomStrings
import Derived.Laws.CopyOwn
import Derived.Deep.Draws
import Derived.Lib.IndexMore
import Derived.Lib.Strings
import Derived.Lib.SlTrimSet
import Derived.Test.YtedfclknpebpaaaGreatDoorShelf
import Derived.Shelf.Strings.SlTrimAscii
import Derived.BigCall
import Derived.BigQuiet
import Derived.Lib.SliceRun
namespace Go.Proofs.YtedfclknpebpaaaGreatDoor
/- Words for lists of bytes and what memory holds of them; no function of the program is named here. -/
section
open Go.RowKit

/-- a byte as a cell -/
def bv (b : UInt8) : Value := .int .u8 (b.toNat : Int)
def bvs (l : List UInt8) : List Value := l.map bv

theorem bvs_length (l : List UInt8) : (bvs l).length = l.length := by simp [bvs]
theorem bvs_append (l r : List UInt8) : bvs (l ++ r) = bvs l ++ bvs r := by simp [bvs]
theorem bvs_drop (l : List UInt8) (k : Nat) : (bvs l).drop k = bvs (l.drop k) := by simp [bvs, List.map_drop]
theorem bvs_take (l : List UInt8) (k : Nat) : (bvs l).take k = bvs (l.take k) := by simp [bvs, List.map_take]
theorem bvs_one (l : List UInt8) : ∀ u ∈ bvs l, u.oneCell' = true := by
  intro u hu
  obtain ⟨b, _, rfl⟩ := List.mem_map.1 hu
  rfl
theorem bvs_get (l : List UInt8) (k : Nat) (h : k < l.length) : (bvs l)[k]? = some (bv l[k]) := by simp [bvs, h]
theorem bv_inj {a b : UInt8} (e : bv a = bv b) : a = b := by
  simp only [bv, Value.int.injEq, true_and] at e
  exact UInt8.toNat_inj.1 (by omega)
theorem bvs_inj : ∀ {l r : List UInt8}, bvs l = bvs r → l = r
  | [], [], _ => rfl
  | [], _ :: _, h => by simp [bvs] at h
  | _ :: _, [], h => by simp [bvs] at h
  | a :: l, b :: r, h => by
    simp only [bvs, List.map_cons, List.cons.injEq] at h
    rw [bv_inj h.1, bvs_inj (l := l) (r := r) h.2]

/-- what a slice's address reads: nothing is asked of an empty one -/
def Rd (w : World) (B : Nat) (A : Option Addr) (xs : List Value) : Prop :=
  xs = [] ∨ ∃ ad, A = some ad ∧ ad.block < B ∧ ∀ j u, xs[j]? = some u → w.cell? (ad.add j) = some u

theorem add_block (a : Addr) (n : Nat) : (a.add n).block = a.block := by unfold Addr.add; split <;> rfl
theorem add_add (a : Addr) (i j : Nat) : (a.add i).add j = a.add (i + j) := by
  unfold Addr.add
  by_cases hi : i = 0 <;> by_cases hj : j = 0 <;> simp [hi, hj, Nat.add_assoc]

section
variable {w w' : World} {B : Nat} {A : Option Addr} {xs : List Value}
theorem Rd.nil (w : World) (B : Nat) (A : Option Addr) : Rd w B A [] := .inl rfl
theorem Rd.keep (h : Rd w B A xs) (hk : ∀ p : Addr, p.block < B → w'.cell? p = w.cell? p) : Rd w' B A xs := by
  rcases h with h | ⟨ad, e, hb, hc⟩
  · exact .inl h
  · exact .inr ⟨ad, e, hb, fun j u hu => (hk _ (by rw [add_block]; exact hb)).trans (hc j u hu)⟩
theorem Rd.more {B' : Nat} (h : Rd w B A xs) (hB : B ≤ B') : Rd w B' A xs := by
  rcases h with h | ⟨ad, e, hb, hc⟩
  · exact .inl h
  · exact .inr ⟨ad, e, by omega, hc⟩
theorem Rd.below {B' : Nat} (h : Rd w B A xs) (hb : Below B' w w') (hB : B ≤ B') : Rd w' B A xs := h.keep fun _ hp => hb.cell (by omega)
theorem Rd.at_ (h : Rd w B A xs) {k : Nat} (hk : k < xs.length) : ∃ ad, A = some ad ∧ ad.block < B ∧ w.cell? (ad.add k) = some xs[k] := by
  rcases h with rfl | ⟨ad, e, hb, hc⟩
  · simp at hk
  · exact ⟨ad, e, hb, hc k _ (List.getElem?_eq_getElem hk)⟩
theorem Rd.addr (h : Rd w B A xs) (hk : 0 < xs.length) : ∃ ad, A = some ad ∧ ad.block < B ∧ ∀ j u, xs[j]? = some u → w.cell? (ad.add j) = some u := by
  rcases h with rfl | h
  · simp at hk
  · exact h
/-- a cut off the front: the address as the model spells it -/
theorem Rd.cut {k cap : Nat} (h : Rd w B A xs) (hc : xs.length ≤ cap) : Rd w B (if cap = k then A else A.map (·.add k)) (xs.drop k) := by
  rcases Nat.lt_or_ge k xs.length with hlt | hge
  · obtain ⟨ad, rfl, hb, hcell⟩ := h.addr (by omega)
    rw [if_neg (by omega)]
    refine .inr ⟨ad.add k, rfl, by rw [add_block]; exact hb, fun j u hu => ?_⟩
    rw [add_add]
    exact hcell _ u (by rw [← hu, List.getElem?_drop])
  · rw [List.drop_eq_nil_of_le hge]
    exact .inl rfl
theorem Rd.front (h : Rd w B A xs) (k : Nat) : Rd w B A (xs.take k) := by
  rcases h with rfl | ⟨ad, e, hb, hc⟩
  · exact .inl (by simp)
  · refine .inr ⟨ad, e, hb, fun j u hu => hc j u ?_⟩
    rw [List.getElem?_take] at hu
    split at hu
    · exact hu
    · cases hu
theorem Rd.of_own {base n c : Nat} {e : TypeId} (h : w.ownsRow base e 1 (.slice A n c) n xs) : Rd w w.heap.size A xs := by
  rcases h.2 with ⟨_, hn⟩ | ⟨g, cap, cur, hv, _, hg, _⟩
  · exact .inl (List.eq_nil_of_length_eq_zero (by have := h.1; omega))
  · have hA : A = some ⟨g, 0, none⟩ := by injection hv
    subst hA
    exact .inr ⟨_, rfl, (Array.getElem?_eq_some_iff.1 hg).1, h.cells (g := g) rfl⟩
end

theorem own_len {w : World} {base e n : Nat} {v : Value} {xs : List Value} (h : w.ownsRow base e 1 v n xs) : n = xs.length := by have := h.1; omega

/-- a row that a call owns is a slice, at its head or nil -/
theorem own_form {w : World} {base n : Nat} {e : TypeId} {v : Value} {xs : List Value} (h : w.ownsRow base e 1 v n xs) : ∃ A c, v = .slice A n c ∧ n ≤ c ∧ c ≤ maxLen := by
  rcases h.2 with ⟨rfl, rfl⟩ | ⟨g, cap, cur, rfl, _, _, h1, h2, _⟩
  · exact ⟨_, _, rfl, Nat.le_refl _, by simp [maxLen]⟩
  · exact ⟨_, _, rfl, h1, h2⟩

/-- a row that was owned stays so, below what a later call turned -/
theorem own_below {w w' : World} {base n B : Nat} {e : TypeId} {v : Value} {xs : List Value} (h : w.ownsRow base e 1 v n xs) (hb : Below B w w') (hB : w.heap.size ≤ B) : w'.ownsRow base e 1 v n xs := by
  refine ⟨h.1, ?_⟩
  rcases h.2 with h2 | ⟨g, cap, cur, hv, hg, hh, r⟩
  · exact .inl h2
  · have hlt := (Array.getElem?_eq_some_iff.1 hh).1
    exact .inr ⟨g, cap, cur, hv, hg, (hb.block g (by omega)).trans hh, r⟩
theorem own_base {w : World} {base base' n : Nat} {e : TypeId} {v : Value} {xs : List Value} (h : w.ownsRow base e 1 v n xs) (hB : base' ≤ base) : w.ownsRow base' e 1 v n xs := by
  refine ⟨h.1, ?_⟩
  rcases h.2 with h2 | ⟨g, cap, cur, hv, hg, r⟩
  · exact .inl h2
  · exact .inr ⟨g, cap, cur, hv, by omega, r⟩
/-- a frame behind an append onto a row of the call's own -/
theorem below_own {w w' : World} {base n : Nat} {e : TypeId} {v : Value} {xs : List Value} (h : w.ownsRow base e 1 v n xs) (hg : w.grownBy w' v.ownBlock) (hb : base ≤ w.heap.size) : Below base w w' :=
  (Below.refl _ _).grown hg hb (fun k hk => (h.lt k hk).1)

theorem below_drewN {B : Nat} {a w : World} (h : Below B a w) (n : Nat) : Below B a (w.drewN n) := ⟨h.os, h.tape, h.output, h.size, h.block⟩

/-- a slice of bytes, as an argument and as an answer: what it reads, how long it is -/
structure Sl (w : World) (B : Nat) (A : Option Addr) (l c : Nat) (bs : List UInt8) : Prop where
  rd : Rd w B A (bvs bs)
  len : bs.length = l
  cap : l ≤ c
theorem Sl.below {w w' : World} {B B' : Nat} {A : Option Addr} {l c : Nat} {bs : List UInt8} (h : Sl w B A l c bs) (hb : Below B' w w') (hB : B ≤ B') : Sl w' B A l c bs := ⟨h.rd.below hb hB, h.len, h.cap⟩
theorem Sl.more {w : World} {B B' : Nat} {A : Option Addr} {l c : Nat} {bs : List UInt8} (h : Sl w B A l c bs) (hB : B ≤ B') : Sl w B' A l c bs := ⟨h.rd.more hB, h.len, h.cap⟩
/-- what was read stays read, behind a call that leaves what was there -/
theorem Sl.next {w w' : World} {A : Option Addr} {l c : Nat} {bs : List UInt8} (h : Sl w w.heap.size A l c bs) (hb : Below w.heap.size w w') : Sl w' w'.heap.size A l c bs := (h.below hb (Nat.le_refl _)).more hb.size
theorem Sl.nil (w : World) (B : Nat) : Sl w B none 0 0 [] := ⟨.inl rfl, rfl, Nat.le_refl _⟩

/-- a row of bytes that the call made, with room that nobody else has -/
structure Ow (w : World) (base : Nat) (A : Option Addr) (l c : Nat) (bs : List UInt8) : Prop where
  own : w.ownsRow base 5 1 (.slice A l c) l (bvs bs)
  len : bs.length = l
  cap : l ≤ c
  most : c ≤ 9223372036854775807
theorem Ow.mk' {w : World} {base : Nat} {v : Value} {l : Nat} {bs : List UInt8} (h : w.ownsRow base 5 1 v l (bvs bs)) : ∃ A c, v = .slice A l c ∧ Ow w base A l c bs := by
  obtain ⟨A, c, rfl, h1, h2⟩ := own_form h
  have := h.1
  rw [bvs_length] at this
  exact ⟨A, c, rfl, h, by omega, h1, by unfold maxLen at h2; omega⟩
theorem Ow.sl {w : World} {base : Nat} {A : Option Addr} {l c : Nat} {bs : List UInt8} (h : Ow w base A l c bs) : Sl w w.heap.size A l c bs := ⟨Rd.of_own h.own, h.len, h.cap⟩
theorem Ow.next {w w' : World} {base : Nat} {A : Option Addr} {l c : Nat} {bs : List UInt8} (h : Ow w base A l c bs) (hb : Below w.heap.size w w') : Ow w' base A l c bs := ⟨own_below h.own hb (Nat.le_refl _), h.len, h.cap, h.most⟩
theorem Ow.base {w : World} {base base' : Nat} {A : Option Addr} {l c : Nat} {bs : List UInt8} (h : Ow w base A l c bs) (hb : base' ≤ base) : Ow w base' A l c bs := ⟨own_base h.own hb, h.len, h.cap, h.most⟩
theorem Ow.nil (w : World) (base : Nat) : Ow w base none 0 0 [] := ⟨World.ownsRow_nil _ _ _ _, rfl, Nat.le_refl _, by omega⟩

/-- a new block is read -/
theorem Rd.new (w : World) (t : TypeId) (xs : List Value) : Rd (w.alloc (.cells xs.toArray t)) (w.heap.size + 1) (some ⟨w.heap.size, 0, none⟩) xs := by
  refine .inr ⟨_, rfl, by simp, fun j u hu => ?_⟩
  have hadd : (⟨w.heap.size, 0, none⟩ : Addr).add j = ⟨w.heap.size, j, none⟩ := by unfold Addr.add; split <;> simp_all
  rw [hadd, cell_of_row _ _ j xs.toArray t (0, 0) (heap_alloc_new w _)]
  simpa using hu

theorem Ow.new (w : World) (base : Nat) (hb : base ≤ w.heap.size) (bs : List UInt8) (hl : bs.length ≤ 1000000) : Ow (w.alloc (.cells (bvs bs).toArray 5)) base (some ⟨w.heap.size, 0, none⟩) bs.length bs.length bs :=
  ⟨⟨by rw [bvs_length]; omega, .inr ⟨w.heap.size, bs.length, _, rfl, hb, heap_alloc_new w _, Nat.le_refl _, by unfold maxLen; omega, by simp [bvs], List.take_of_length_le (by simp [bvs])⟩⟩, rfl, Nat.le_refl _, by omega⟩

theorem Ow.new1 (w : World) (base : Nat) (hb : base ≤ w.heap.size) (x : Value) (b : UInt8) (hx : x = bv b) : Ow (w.alloc (.cells #[x] 5)) base (some ⟨w.heap.size, 0, none⟩) 1 1 [b] := by
  subst hx
  exact Ow.new w base hb [b] (by simp)

theorem Sl.new (w : World) (t : TypeId) (bs : List UInt8) : Sl (w.alloc (.cells (bvs bs).toArray t)) (w.alloc (.cells (bvs bs).toArray t)).heap.size (some ⟨w.heap.size, 0, none⟩) bs.length bs.length bs :=
  ⟨by have := Rd.new w t (bvs bs); simpa using this, rfl, Nat.le_refl _⟩
/-- what stands behind two calls, one after the other -/
theorem kp_trans {a b c : World} (h : Below a.heap.size a b) (k : Below b.heap.size b c) : Below a.heap.size a c := h.trans (k.mono h.size)
theorem kp_alloc {a b : World} (h : Below a.heap.size a b) (o : Obj) : Below a.heap.size a (b.alloc o) := h.alloc h.size o
theorem kp_new (a : World) (o : Obj) : Below a.heap.size a (a.alloc o) := kp_alloc (Below.refl _ _) o
theorem kp_drewN (a : World) (n : Nat) : Below a.heap.size a (a.drewN n) := below_drewN (Below.refl _ _) n
theorem kp_own {w w' : World} {B base : Nat} {A : Option Addr} {l c : Nat} {bs : List UInt8} (h : Ow w base A l c bs) (hg : w.grownBy w' (Value.slice A l c).ownBlock) (hb : B ≤ base) (hw : base ≤ w.heap.size) : Below B w w' :=
  (below_own h.own hg hw).mono hb

/-- bytes as a text -/
theorem run_text {P : Program} {w : World} {B : Nat} {A : Option Addr} {l c : Nat} {bs : List UInt8} (h : Sl w B A l c bs) (src dst e : TypeId) (hs : P.underlying src = some (.slice e)) (he : P.underlying e = some (.int .u8)) (hd : P.underlying dst = some .string) :
    (convert src dst (.slice A l c)).run P w = .ok (.string ⟨bs.toArray⟩) w := by
  obtain ⟨hr, hl, _⟩ := h
  subst hl
  cases A with
  | none =>
    have hn : bs = [] := by
      rcases hr with h | ⟨_, h, _⟩
      · have := congrArg List.length h; rw [bvs_length] at this; exact List.eq_nil_of_length_eq_zero this
      · cases h
    subst hn
    exact Lib.run_convert_nil_bytes w src dst e c hs he hd
  | some ad =>
    refine run_convert_bytes_back w src dst e ad c bs hs he hd fun j hj => ?_
    rcases hr with h | ⟨ad', h, _, hc⟩
    · have := congrArg List.length h; rw [bvs_length] at this; simp at this; subst this; simp at hj
    · injection h with h; subst h
      exact hc j _ (bvs_get bs j hj)

/-- what a row of the call's own says of its address -/
def Fresh (n : Nat) (A : Option Addr) : Prop := ∀ ad, A = some ad → n ≤ ad.block
theorem Fresh.none (n : Nat) : Fresh n none := fun _ h => by cases h
theorem Fresh.less {n m : Nat} {A : Option Addr} (h : Fresh n A) (hm : m ≤ n) : Fresh m A := fun ad e => Nat.le_trans hm (h ad e)
theorem own_fresh {w : World} {base n c s : Nat} {A : Option Addr} {e : TypeId} {xs : List Value} (h : w.ownsRow base e s (.slice A n c) n xs) : Fresh base A := by
  intro ad hA
  rcases h.2 with ⟨h1, _⟩ | ⟨g, cap, cur, h1, h2, _⟩
  · injection h1 with h1; rw [h1] at hA; cases hA
  · injection h1 with h1; rw [h1] at hA; injection hA with hA; subst hA; exact h2
/-- what is read in another block stays read -/
theorem Rd.grown {w w' : World} {B : Nat} {A : Option Addr} {xs : List Value} {k : Option Nat} (h : Rd w B A xs) (hB : B ≤ w.heap.size) (hg : w.grownBy w' k) (hn : ∀ ad, A = some ad → some ad.block ≠ k) : Rd w' B A xs := by
  rcases h with h | ⟨ad, e, hb, hc⟩
  · exact .inl h
  · exact .inr ⟨ad, e, hb, fun j u hu => (World.cell?_of_block (hg.block _ (by rw [add_block]; omega) (by rw [add_block]; exact hn ad e))).trans (hc j u hu)⟩
theorem Sl.grown {w w' : World} {B : Nat} {A : Option Addr} {l c : Nat} {bs : List UInt8} {k : Option Nat} (h : Sl w B A l c bs) (hB : B ≤ w.heap.size) (hg : w.grownBy w' k) (hn : ∀ ad, A = some ad → some ad.block ≠ k) : Sl w' B A l c bs := ⟨h.rd.grown hB hg hn, h.len, h.cap⟩
theorem Rd.setCell {w : World} {B : Nat} {A : Option Addr} {xs : List Value} (h : Rd w B A xs) (p : Addr) (u : Value) (hn : ∀ ad, A = some ad → ad.block ≠ p.block) : Rd (w.setCell p u) B A xs := by
  rcases h with h | ⟨ad, e, hb, hc⟩
  · exact .inl h
  · refine .inr ⟨ad, e, hb, fun j v hv => ?_⟩
    rw [World.cell?_of_block (Below.heap_setCell _ _ _ _ (by rw [add_block]; exact hn ad e))]
    exact hc j v hv
theorem Sl.setCell {w : World} {B : Nat} {A : Option Addr} {l c : Nat} {bs : List UInt8} (h : Sl w B A l c bs) (p : Addr) (u : Value) (hn : ∀ ad, A = some ad → ad.block ≠ p.block) : Sl (w.setCell p u) B A l c bs := ⟨h.rd.setCell p u hn, h.len, h.cap⟩
theorem Sl.drew {w : World} {B : Nat} {A : Option Addr} {l c : Nat} {bs : List UInt8} (h : Sl w B A l c bs) : Sl w.drew B A l c bs := ⟨h.rd, h.len, h.cap⟩
/-- a slice of a slice, its address as the model spells it -/
theorem Sl.sub {w : World} {B : Nat} {A : Option Addr} {l c : Nat} {bs : List UInt8} (h : Sl w B A l c bs) {i j : Nat} (hi : i ≤ j) (hj : j ≤ l) :
    Sl w B (if c = i then A else A.map (·.add i)) (j - i) (c - i) ((bs.take j).drop i) := by
  have hl := h.len
  have hc := h.cap
  have h1 := (h.rd.front j).cut (k := i) (cap := c) (by rw [List.length_take, bvs_length]; omega)
  rw [bvs_take, bvs_drop] at h1
  exact ⟨h1, by rw [List.length_drop, List.length_take]; omega, by omega⟩

/-- cuts of a slice of bytes: the cut's address under one name, its run in every world -/
theorem Sl.cut2 {w : World} {B : Nat} {A : Option Addr} {l c : Nat} {bs : List UInt8} (h : Sl w B A l c bs) (P : Program) (t : TypeId) (ht : P.underlying t = some (.slice (P.elem t))) (hz : (P.info? (P.elem t)).map (·.size) = some 1)
    {i j : Nat} (x y : Int) (hx : x = i) (hy : y = j) (hi : i ≤ j) (hj : j ≤ l) :
    ∃ A', (∀ u, (Instr.slice t (.slice A l c) (some (.int .i64 x)) (some (.int .i64 y)) none).run P u = .ok (.slice A' (j - i) (c - i)) u) ∧ Sl w B A' (j - i) (c - i) ((bs.take j).drop i) := by
  have hc := h.cap
  obtain ⟨ti, hti, hsz⟩ := Option.map_eq_some_iff.1 hz
  refine ⟨_, fun u => ?_, h.sub hi hj⟩
  subst hx hy
  rw [run_slice_lh u t A l c ht .i64 .i64 i j (by omega) (by omega) (by omega)]
  simp [sizeOf, typeInfo, hti, hsz, sliced, Result.andThen]
theorem Sl.cut1 {w : World} {B : Nat} {A : Option Addr} {l c : Nat} {bs : List UInt8} (h : Sl w B A l c bs) (P : Program) (t : TypeId) (ht : P.underlying t = some (.slice (P.elem t))) (hz : (P.info? (P.elem t)).map (·.size) = some 1)
    {i : Nat} (x : Int) (hx : x = i) (hi : i ≤ l) :
    ∃ A', (∀ u, (Instr.slice t (.slice A l c) (some (.int .i64 x)) none none).run P u = .ok (.slice A' (l - i) (c - i)) u) ∧ Sl w B A' (l - i) (c - i) (bs.drop i) := by
  have hc := h.cap
  have hl := h.len
  obtain ⟨ti, hti, hsz⟩ := Option.map_eq_some_iff.1 hz
  have hs := h.sub hi (Nat.le_refl l)
  rw [List.take_of_length_le (by omega)] at hs
  refine ⟨_, fun u => ?_, hs⟩
  subst hx
  rw [run_slice_l u t A l c ht .i64 i (by omega) (by omega)]
  simp [sizeOf, typeInfo, hti, hsz, sliced, Result.andThen]
theorem Sl.cut0 {w : World} {B : Nat} {A : Option Addr} {l c : Nat} {bs : List UInt8} (h : Sl w B A l c bs) (P : Program) (t : TypeId) (ht : P.underlying t = some (.slice (P.elem t))) (hz : (P.info? (P.elem t)).map (·.size) = some 1)
    {j : Nat} (y : Int) (hy : y = j) (hj : j ≤ l) :
    ∃ A', (∀ u, (Instr.slice t (.slice A l c) none (some (.int .i64 y)) none).run P u = .ok (.slice A' j c) u) ∧ Sl w B A' j c (bs.take j) := by
  have hc := h.cap
  obtain ⟨ti, hti, hsz⟩ := Option.map_eq_some_iff.1 hz
  have hs := h.sub (Nat.zero_le j) hj
  simp only [Nat.sub_zero, List.drop_zero] at hs
  refine ⟨_, fun u => ?_, hs⟩
  subst hy
  rw [run_slice_h u t A l c ht .i64 j (by omega) (by omega)]
  simp [sizeOf, typeInfo, hti, hsz, sliced, Result.andThen]

section
variable {P : Program} {w : World}
/-- append where the source has no address: nothing is laid -/
theorem run_append_nothing (base : Nat) (t ty e : TypeId) (i : TypeInfo) (ht : P.underlying t = some (.slice e)) (hi : P.info? e = some i)
    (v : Value) (n c : Nat) (xs : List Value) (hown : w.ownsRow base e 1 v n xs) : (Builtin.append_ #[t, t] ty #[v, .slice none 0 c]).run P w = .ok v w := by
  rcases hown.2 with ⟨rfl, rfl⟩ | ⟨g, cap, cur, rfl, _, _, hnc, _⟩
  · simp [Builtin.append_, run_underlying ht, sizeOf, typeInfo, hi, Builtin.lenOf, Builtin.firstCells]
  · simp [Builtin.append_, run_underlying ht, sizeOf, typeInfo, hi, Builtin.lenOf, Builtin.firstCells, hnc, storeCells]

/-- append onto a row of the call's own, whatever the source: nil, empty or not -/
theorem run_append_rd (base : Nat) (t ty e : TypeId) (i : TypeInfo) (z : Value) (bytes : Nat) (ht : P.underlying t = some (.slice e)) (hi : P.info? e = some i) (hz : i.zero = some z)
    (hsize : i.size = 1) (hby : i.bytes = bytes) (hzs : z.cells.size = 1)
    (v : Value) (n : Nat) (xs : List Value) (hown : w.ownsRow base e 1 v n xs)
    (B : Nat) (A : Option Addr) (m c : Nat) (news : List Value) (hm : news.length = m) (hr : Rd w B A news) (h1 : ∀ u ∈ news, u.oneCell' = true)
    (h63 : n + m ≤ maxLen) (hbytes : (n + m) * bytes ≤ 140737488355328) (hbase : base ≤ w.heap.size) :
    ∃ v' w', (Builtin.append_ #[t, t] ty #[v, .slice A m c]).run P w = .ok v' w' ∧ w'.ownsRow base e 1 v' (n + m) (xs ++ news) ∧ w.grownBy w' v.ownBlock := by
  cases A with
  | none =>
    have hn : news = [] := by
      rcases hr with h | ⟨_, h, _⟩
      · exact h
      · cases h
    subst hn
    obtain rfl : m = 0 := by simpa using hm.symm
    exact ⟨v, w, run_append_nothing base t ty e i ht hi v n c xs hown, by simpa using hown, World.grownBy.refl w _⟩
  | some ad =>
    have hc : ∀ j u, news[j]? = some u → w.cell? (ad.add j) = some u := by
      intro j u hu
      rcases hr with h | ⟨ad', h, _, hc⟩
      · subst h; simp at hu
      · injection h with h; subst h; exact hc j u hu
    obtain ⟨v', w', hrun, h2, h3, _⟩ := run_append_own (P := P) w base t ty e i z 1 bytes ht hi hz hsize hby hzs (by decide) v n xs hown ad m c news (by omega) hc h1 h63 hbytes hbase
    exact ⟨v', w', hrun, h2, h3⟩

theorem wp_append_rd {o : Oper} {a : Act} {K : Act → World → Prop} {Q : Exit → Act → World → Prop} (s x : Operand) (t : TypeId)
    (ho : o.op = .call { callee := .builtin .append, args := #[s, x], argTypes := #[t, t] })
    (base : Nat) (e : TypeId) (i : TypeInfo) (z : Value) (bytes : Nat) (ht : P.underlying t = some (.slice e)) (hi : P.info? e = some i) (hz : i.zero = some z)
    (hsize : i.size = 1) (hby : i.bytes = bytes) (hzs : z.cells.size = 1)
    (v : Value) (n : Nat) (xs : List Value) (hs : a.eval s = v) (hown : w.ownsRow base e 1 v n xs)
    (B : Nat) (A : Option Addr) (m c : Nat) (news : List Value) (hx : a.eval x = .slice A m c) (hm : news.length = m) (hr : Rd w B A news) (h1 : ∀ u ∈ news, u.oneCell' = true)
    (h63 : n + m ≤ maxLen) (hbytes : (n + m) * bytes ≤ 140737488355328) (hbase : base ≤ w.heap.size)
    (h : ∀ v' w', w'.ownsRow base e 1 v' (n + m) (xs ++ news) → w.grownBy w' v.ownBlock → K (a.put o.dst v') w') : o.wp P a w K Q := by
  obtain ⟨v', w', hrun, h2, h3⟩ := run_append_rd (P := P) base t o.type e i z bytes ht hi hz hsize hby hzs v n xs hown B A m c news hm hr h1 h63 hbytes hbase
  unfold Oper.wp execOp
  simp only [ho, resolve, invoke, builtin, Sem.run_bind, Sem.run_pure, Result.andThen_ok, List.map_toArray, List.map_cons, List.map_nil, hs, hx, hrun]
  exact h v' w' h2 h3

theorem wpList_append_rd {ops : Array Oper} {rest : List Oper} {o : Oper} {a : Act} {Q : Exit → Act → World → Prop} (hw : Region.wanted o (yielded ops a.tmps) = true) (s x : Operand) (t : TypeId)
    (ho : o.op = .call { callee := .builtin .append, args := #[s, x], argTypes := #[t, t] })
    (base : Nat) (e : TypeId) (i : TypeInfo) (z : Value) (bytes : Nat) (ht : P.underlying t = some (.slice e)) (hi : P.info? e = some i) (hz : i.zero = some z)
    (hsize : i.size = 1) (hby : i.bytes = bytes) (hzs : z.cells.size = 1)
    (v : Value) (n : Nat) (xs : List Value) (hs : a.eval s = v) (hown : w.ownsRow base e 1 v n xs)
    (B : Nat) (A : Option Addr) (m c : Nat) (news : List Value) (hx : a.eval x = .slice A m c) (hm : news.length = m) (hr : Rd w B A news) (h1 : ∀ u ∈ news, u.oneCell' = true)
    (h63 : n + m ≤ maxLen) (hbytes : (n + m) * bytes ≤ 140737488355328) (hbase : base ≤ w.heap.size)
    (h : ∀ v' w', w'.ownsRow base e 1 v' (n + m) (xs ++ news) → w.grownBy w' v.ownBlock → wpList P ops Q rest (a.put o.dst v') w') : wpList P ops Q (o :: rest) a w :=
  wpList_step fun _ hK => by
    rw [if_pos hw]
    exact wp_append_rd s x t ho base e i z bytes ht hi hz hsize hby hzs v n xs hs hown B A m c news hx hm hr h1 h63 hbytes hbase fun v' w' h2 h3 => hK _ _ (h v' w' h2 h3)

theorem step_append_rd {ops : Array Oper} {o : Oper} {a : Act} {K : Act → World → Prop} {Q : Exit → Act → World → Prop} {E : Prop} (hw : Region.wanted o (yielded ops a.tmps) = true) (s x : Operand) (t : TypeId)
    (ho : o.op = .call { callee := .builtin .append, args := #[s, x], argTypes := #[t, t] })
    (base : Nat) (e : TypeId) (i : TypeInfo) (z : Value) (bytes : Nat) (ht : P.underlying t = some (.slice e)) (hi : P.info? e = some i) (hz : i.zero = some z)
    (hsize : i.size = 1) (hby : i.bytes = bytes) (hzs : z.cells.size = 1)
    (v : Value) (n : Nat) (xs : List Value) (hs : a.eval s = v) (hown : w.ownsRow base e 1 v n xs)
    (B : Nat) (A : Option Addr) (m c : Nat) (news : List Value) (hx : a.eval x = .slice A m c) (hm : news.length = m) (hr : Rd w B A news) (h1 : ∀ u ∈ news, u.oneCell' = true)
    (h63 : n + m ≤ maxLen) (hbytes : (n + m) * bytes ≤ 140737488355328) (hbase : base ≤ w.heap.size)
    (h : ∀ v' w', w'.ownsRow base e 1 v' (n + m) (xs ++ news) → w.grownBy w' v.ownBlock → K (a.put o.dst v') w') :
    if Region.wanted o (yielded ops a.tmps) = true then Oper.wp P o a w K Q else E := by
  rw [if_pos hw]
  exact wp_append_rd s x t ho base e i z bytes ht hi hz hsize hby hzs v n xs hs hown B A m c news hx hm hr h1 h63 hbytes hbase h

/-- a text as bytes -/
theorem run_bytes (w : World) (src dst e : TypeId) (s : ByteArray) (hs : P.underlying src = some .string) (hd : P.underlying dst = some (.slice e)) (he : P.underlying e = some (.int .u8)) :
    ∃ c w1, (convert src dst (.string s)).run P w = .ok (.slice (some ⟨w.heap.size, 0, none⟩) s.size c) w1 ∧ Sl w1 w1.heap.size (some ⟨w.heap.size, 0, none⟩) s.size c s.data.toList ∧ Below w.heap.size w w1 := by
  have hl : s.data.toList.length = s.size := by rw [Array.length_toList]; rfl
  refine ⟨_, _, Lib.run_convert_string_bytes w src dst e s hs hd he, ⟨.inr ⟨_, rfl, ?_, fun j u hu => ?_⟩, hl, grownCap_ge _ _ _ _⟩, ⟨?_, ?_, ?_, ?_, fun k hk => Lib.bytesWorld_at_old w e s k hk⟩⟩
  · rw [Lib.bytesWorld_size]; exact Nat.lt_succ_self _
  · have hj : j < s.size := by
      have := (List.getElem?_eq_some_iff.1 hu).1
      rw [bvs_length, hl] at this
      exact this
    have hadd : (⟨w.heap.size, 0, none⟩ : Addr).add j = ⟨w.heap.size, j, none⟩ := by unfold Addr.add; split <;> simp_all
    rw [hadd, Lib.bytesWorld_cell w e s j hj]
    rw [bvs_get _ j (by omega)] at hu
    rw [← hu, bv]
    simp [List.getD, List.getElem?_eq_getElem (show j < s.data.toList.length by omega)]
  · rfl
  · rfl
  · rfl
  · rw [Lib.bytesWorld_size]; omega
end
end

/- What tokens a text has: plain functions of lists of bytes (no function of the program is named here). -/
section
open Go.RowKit

def blankF (c : UInt8) : Bool := c == 32 || c == 9 || c == 10 || c == 13
def digitF (c : UInt8) : Bool := decide (48 ≤ c.toNat) && decide (c.toNat ≤ 57)
def letterF (c : UInt8) : Bool := decide (65 ≤ c.toNat) && decide (c.toNat ≤ 90) || decide (97 ≤ c.toNat) && decide (c.toNat ≤ 122) || decide (c.toNat = 95)
def lodF (c : UInt8) : Bool := letterF c || digitF c
def signF (c : UInt8) : Bool := !(decide (c.toNat ≤ 32) || decide (126 < c.toNat) || lodF c) && (decide (c.toNat ≠ 34) && decide (c.toNat ≠ 96) && decide (c.toNat ≠ 39) && decide (c.toNat ≠ 35))
def upF (c : UInt8) : UInt8 := if 97 ≤ c.toNat ∧ c.toNat ≤ 122 then c - 32 else c
def greatF (l : List UInt8) : List UInt8 := l.map upF
/-- how many bytes at the beginning are such -/
def runF (p : UInt8 → Bool) : List UInt8 → Nat
  | [] => 0
  | c :: r => if p c then runF p r + 1 else 0
theorem runF_le (p : UInt8 → Bool) : ∀ l, runF p l ≤ l.length
  | [] => Nat.le_refl _
  | c :: r => by
    have := runF_le p r
    unfold runF
    split <;> simp <;> omega
theorem runF_drop (p : UInt8 → Bool) : ∀ (l : List UInt8) (k : Nat), (∀ j (h : j < l.length), j < k → p l[j] = true) → k ≤ l.length → runF p l = k + runF p (l.drop k)
  | l, 0, _, _ => by simp
  | [], k + 1, _, h => by simp at h
  | c :: r, k + 1, h, hk => by
    have h0 : p c = true := h 0 (by simp) (by omega)
    have := runF_drop p r k (fun j hj hjk => h (j + 1) (by simpa using hj) (by omega)) (by simpa using hk)
    rw [runF, if_pos h0, this, List.drop_succ_cons]
    omega
theorem runF_all (p : UInt8 → Bool) : ∀ (l : List UInt8), ∀ c ∈ l.take (runF p l), p c = true
  | [], c, h => by simp at h
  | a :: r, c, h => by
    unfold runF at h
    split at h
    · rename_i ha
      rw [List.take_succ_cons] at h
      rcases List.mem_cons.1 h with rfl | h
      · exact ha
      · exact runF_all p r c h
    · simp at h
theorem runF_none {p : UInt8 → Bool} {c : UInt8} {r : List UInt8} (h : p c = false) : runF p (c :: r) = 0 := by unfold runF; simp [h]
theorem runF_some {p : UInt8 → Bool} {c : UInt8} {r : List UInt8} (h : p c = true) : runF p (c :: r) = runF p r + 1 := by rw [runF, if_pos h]

/-- what stands up to a byte q that stands alone, and how many bytes that takes -/
def quotedF (q : UInt8) : List UInt8 → Option (List UInt8 × Nat)
  | [] => none
  | [b] => if b = q then some ([], 1) else none
  | b :: d :: r => if b = q then (if d = q then (quotedF q r).map fun x => (q :: x.1, x.2 + 2) else some ([], 1)) else (quotedF q (d :: r)).map fun x => (b :: x.1, x.2 + 1)
theorem quotedF_other {q b : UInt8} {r : List UInt8} (h : b ≠ q) : quotedF q (b :: r) = (quotedF q r).map fun x => (b :: x.1, x.2 + 1) := by
  cases r with
  | nil => simp [quotedF, h]
  | cons d r => rw [quotedF]; simp [h]
theorem quotedF_twice {q : UInt8} {r : List UInt8} : quotedF q (q :: q :: r) = (quotedF q r).map fun x => (q :: x.1, x.2 + 2) := by rw [quotedF]; simp
theorem quotedF_ends {q : UInt8} {r : List UInt8} (h : r[0]? ≠ some q) : quotedF q (q :: r) = some ([], 1) := by
  cases r with
  | nil => simp [quotedF]
  | cons d r => rw [quotedF]; simp at h; simp [h]
theorem quotedF_le {q : UInt8} : ∀ {l : List UInt8} {x : List UInt8 × Nat}, quotedF q l = some x → 1 ≤ x.2 ∧ x.2 ≤ l.length ∧ x.1.length + 1 ≤ x.2
  | [], x, h => by simp [quotedF] at h
  | [b], x, h => by
    rw [quotedF] at h
    split at h
    · simp at h; subst h; simp
    · simp at h
  | b :: d :: r, x, h => by
    rw [quotedF] at h
    split at h
    · split at h
      · obtain ⟨y, hy, rfl⟩ := Option.map_eq_some_iff.1 h
        have := quotedF_le hy
        simp; omega
      · simp at h; subst h; simp
    · obtain ⟨y, hy, rfl⟩ := Option.map_eq_some_iff.1 h
      have := quotedF_le hy
      simp at this ⊢; omega

def ends2 : List UInt8 := [42, 47]
/-- how many bytes there are up to the end of a remark or a hint, and with that: 0 if there is none -/
def closedF (l : List UInt8) (o : Nat) : Nat := if Lib.index (l.drop o) ends2 < 0 then 0 else o + (Lib.index (l.drop o) ends2).toNat + 2
def blanks4 : List UInt8 := [32, 9, 10, 13]
def trimF (l : List UInt8) : List UInt8 := Lib.trimS l blanks4
def begF (p l : List UInt8) : Bool := Lib.hasPrefix l p

/-- the token that a text begins with: its Kind, its Text, its size -/
def firstF : List UInt8 → Option (Nat × List UInt8 × Nat)
  | [] => none
  | c :: r =>
    if letterF c then some (1, greatF ((c :: r).take (runF lodF (c :: r))), runF lodF (c :: r))
    else if digitF c then some (4, (c :: r).take (runF digitF (c :: r)), runF digitF (c :: r))
    else if c.toNat = 34 ∨ c.toNat = 96 then (quotedF c r).map fun x => (2, x.1, x.2 + 1)
    else if c.toNat = 39 then (quotedF c r).map fun x => (3, x.1, x.2 + 1)
    else if begF [47, 42, 43] (c :: r) then (if closedF (c :: r) 3 = 0 then none else some (5, trimF (((c :: r).take (closedF (c :: r) 3 - 2)).drop 3), closedF (c :: r) 3))
    else if signF c then some (6, [c], 1)
    else none

inductive Step where
  | bad
  | skip (n : Nat)
  | tok (k : Nat) (t : List UInt8) (n : Nat)

def lineF (l : List UInt8) : Nat := if Lib.indexByte l 10 < 0 then l.length else (Lib.indexByte l 10).toNat
def isLineF : List UInt8 → Bool
  | [] => false
  | c :: r => decide (c.toNat = 35) || begF [45, 45] (c :: r)
def isRemarkF (l : List UInt8) : Bool := begF [47, 42] l && !begF [47, 42, 43] l

def stepF : List UInt8 → Step
  | [] => .bad
  | c :: r =>
    if blankF c then .skip 1
    else if isLineF (c :: r) then .skip (lineF (c :: r))
    else if isRemarkF (c :: r) then (if closedF (c :: r) 2 = 0 then .bad else .skip (closedF (c :: r) 2))
    else match firstF (c :: r) with
      | none => .bad
      | some (k, t, n) => .tok k t n

/-- a text's tokens -/
def lexF (l : List UInt8) : Option (List (Int × List UInt8)) :=
  if _h : l = [] then some []
  else match stepF l with
    | .bad => none
    | .skip n => if _hn : n = 0 then none else lexF (l.drop n)
    | .tok k t n => if _hn : n = 0 then none else (lexF (l.drop n)).map (((k : Int), t) :: ·)
termination_by l.length
decreasing_by
  all_goals
    rw [List.length_drop]
    have : 0 < l.length := List.length_pos_iff.2 _h
    omega

theorem lexF_nil : lexF [] = some [] := by rw [lexF]; simp
theorem lexF_bad {l : List UInt8} (h : l ≠ []) (hs : stepF l = .bad) : lexF l = none := by rw [lexF, dif_neg h, hs]
theorem lexF_skip {l : List UInt8} {n : Nat} (h : l ≠ []) (hs : stepF l = .skip n) (hn : n ≠ 0) : lexF l = lexF (l.drop n) := by rw [lexF, dif_neg h, hs]; simp [hn]
theorem lexF_tok {l : List UInt8} {n k : Nat} {t : List UInt8} (h : l ≠ []) (hs : stepF l = .tok k t n) (hn : n ≠ 0) : lexF l = (lexF (l.drop n)).map (((k : Int), t) :: ·) := by rw [lexF, dif_neg h, hs]; simp [hn]

theorem index_room {s sub : List UInt8} (h : 0 ≤ Lib.index s sub) (hs : sub ≠ []) : (Lib.index s sub).toNat + sub.length ≤ s.length := by
  induction s with
  | nil =>
    unfold Lib.index at h
    cases sub with
    | nil => exact absurd rfl hs
    | cons a t => simp at h
  | cons b l ih =>
    unfold Lib.index at h ⊢
    by_cases hp : sub.isPrefixOf (b :: l) = true
    · rw [if_pos hp]
      have := (List.isPrefixOf_iff_prefix.1 hp).length_le
      simpa using this
    · rw [if_neg hp] at h ⊢
      by_cases hm : (Lib.index l sub == -1) = true
      · rw [if_pos hm] at h; omega
      · rw [if_neg hm] at h ⊢
        have hge := Lib.index_ge l sub
        have hne : Lib.index l sub ≠ -1 := by simpa using hm
        have := ih (by omega)
        simp
        omega
theorem closedF_le (l : List UInt8) (o : Nat) (ho : o ≤ l.length) : closedF l o ≤ l.length ∧ (closedF l o ≠ 0 → o + 2 ≤ closedF l o) := by
  unfold closedF
  split
  · exact ⟨Nat.zero_le _, fun h => absurd rfl h⟩
  · have := index_room (s := l.drop o) (sub := ends2) (by omega) (by decide)
    rw [List.length_drop, show ends2.length = 2 from rfl] at this
    exact ⟨by omega, fun _ => by omega⟩
theorem indexByte_lt : ∀ {l : List UInt8} {c : UInt8}, 0 ≤ Lib.indexByte l c → (Lib.indexByte l c).toNat < l.length
  | [], c, h => by simp [Lib.indexByte] at h
  | b :: l, c, h => by
    unfold Lib.indexByte at h ⊢
    by_cases hb : (b == c) = true
    · rw [if_pos hb]; simp
    · rw [if_neg hb] at h ⊢
      by_cases hm : (Lib.indexByte l c == -1) = true
      · rw [if_pos hm] at h; omega
      · rw [if_neg hm] at h ⊢
        have hne : Lib.indexByte l c ≠ -1 := by simpa using hm
        have hge := indexByte_ge1 l c
        have := indexByte_lt (l := l) (c := c) (by omega)
        simp
        omega
where
  indexByte_ge1 (l : List UInt8) (c : UInt8) : -1 ≤ Lib.indexByte l c := by
    induction l with
    | nil => exact Int.le_refl _
    | cons b l ih =>
      unfold Lib.indexByte
      split
      · decide
      · split
        · decide
        · omega
end

/- The library's contracts in these texts' own words: a builder's bytes as a list, texts as lists of bytes. -/
section
open Go.RowKit
set_option maxRecDepth 100000

theorem byteCells_bvs (l : List UInt8) : Lib.byteCells l = bvs l := rfl
theorem text_len (s : ByteArray) : s.data.toList.length = s.size := by rw [Array.length_toList]; rfl
theorem text_ext {s t : ByteArray} (h : s.data.toList = t.data.toList) : s = t := by
  cases s; cases t
  simp only [ByteArray.mk.injEq]
  exact Array.toList_inj.1 h
theorem text_cut (s : ByteArray) (a b : Nat) : (s.extract a b).data.toList = (s.data.toList.drop a).take (b - a) := by
  rw [ByteArray.data_extract]
  simp
theorem text_rest (s : ByteArray) (a : Nat) : (s.extract a s.size).data.toList = s.data.toList.drop a := by
  rw [text_cut, List.take_of_length_le]
  rw [List.length_drop, text_len]
  exact Nat.le_refl _
theorem text_front (s : ByteArray) (b : Nat) : (s.extract 0 b).data.toList = s.data.toList.take b := by
  rw [text_cut]
  simp
theorem text_at (s : ByteArray) (i : Nat) (h : i < s.size) : s[i] = s.data.toList[i]'(by rw [text_len]; exact h) := by
  rw [Array.getElem_toList]
  rfl

/-- the variable that the library's search reads holds some number -/
def Lw (w : World) : Prop := ∃ m : Int, w.cell? ⟨1, 0, none⟩ = some (.int .i64 m)
theorem Lw.next {w w' : World} (h : Lw w) (hb : Below w.heap.size w w') : Lw w' := by
  obtain ⟨m, hm⟩ := h
  exact ⟨m, (hb.cell (World.block_lt_of_cell? _ _ hm)).trans hm⟩
theorem Lw.below {w w' : World} {B : Nat} (h : Lw w) (hb : Below B w w') (hB : 1 < B) : Lw w' := by
  obtain ⟨m, hm⟩ := h
  exact ⟨m, (hb.cell hB).trans hm⟩

theorem indexByte_s (s : ByteArray) (c : UInt8) (w : World) : Calls Tryz.prog 42 #[.string s, .int .u8 (c.toNat : Int)] w fun e w' => e = .returned (.int .i64 (Lib.indexByte s.data.toList c)) ∧ w' = w := by
  have h := Tryz.strings_IndexByte s (c.toNat : Int) w
  have e : (c.toNat : Int).toNat.toUInt8 = c := by simp
  rw [e] at h
  exact h

theorem index_s (s sub : ByteArray) (w : World) (hL : Lw w) (hs : s.size ≤ 1000000) : Calls Tryz.prog 77 #[.string s, .string sub] w fun e w' => e = .returned (.int .i64 (Lib.index s.data.toList sub.data.toList)) ∧ w' = w := by
  obtain ⟨m, hm⟩ := hL
  exact Tryz.strings_Index s sub m w (by omega) hm

theorem hasPrefix_s (s p : ByteArray) (w : World) : Calls Tryz.prog 75 #[.string s, .string p] w fun e w' => e = .returned (.bool (begF p.data.toList s.data.toList)) ∧ w' = w := Tryz.strings_HasPrefix s p w

theorem trim_s (s : ByteArray) (w : World) (hs : s.size ≤ 1000000) : Calls Tryz.prog 97 #[.string s, .string ⟨#[32, 9, 10, 13]⟩] w fun e w' => ∃ r : ByteArray, e = .returned (.string r) ∧ r.data.toList = trimF s.data.toList ∧ Below w.heap.size w w' := by
  have h := Any.strings_Trim_laid Tryz.lays160 (by kernel_rfl) s ⟨#[32, 9, 10, 13]⟩ w (by omega) (by decide) (ascii_of_all (by decide))
  change Calls Tryz.prog 97 _ _ _ at h
  exact h.mono fun _ _ ⟨he, hb⟩ => ⟨_, he, by simp [trimF, blanks4], hb⟩

/-- a builder of the call's own that holds these bytes -/
def Bd (B b : Nat) (l : List UInt8) (w : World) : Prop := Lib.IsBuilderF 42 5 B b (Lib.byteCells l) w
/-- what a write leaves as it was -/
def Kept (b : Nat) (w w' : World) : Prop := Lib.OthersKept 5 (some b) w w'

theorem Bd.new (w : World) (B : Nat) (hB : B ≤ w.heap.size) : Bd B w.heap.size [] (w.alloc (.cells #[.pointer none, .slice none 0 0] 42)) := by
  have h := Lib.IsBuilderF.of (Lib.fresh_isBuilder 42 5 w)
  rcases h with ⟨_, v, hb, hown, hne⟩ | ⟨_, v, hb, hown, hne⟩
  · have hz := hown.1
    refine .inl ⟨hB, v, hb, ⟨hz, ?_⟩, hne⟩
    rcases hown.2 with h2 | ⟨g, cap, cur, fz, hv, hg, r⟩
    · exact .inl h2
    · exact .inr ⟨g, cap, cur, fz, hv, by omega, r⟩
  · have hz := hown.1
    refine .inr ⟨hB, v, hb, ⟨hz, ?_⟩, hne⟩
    rcases hown.2 with h2 | ⟨g, cap, cur, fz, hv, hg, r⟩
    · exact .inl h2
    · exact .inr ⟨g, cap, cur, fz, hv, by omega, r⟩
theorem Bd.alloc {B b : Nat} {l : List UInt8} {w : World} (h : Bd B b l w) (o : Obj) : Bd B b l (w.alloc o) := Lib.IsBuilderF.alloc h o

theorem writeByte_s (B b : Nat) (l : List UInt8) (c : UInt8) (w : World) (h : Bd B b l w) (hl : l.length ≤ 100000000) (hB : B ≤ w.heap.size) :
    Calls Tryz.prog 37 #[.pointer (some ⟨b, 0, none⟩), .int .u8 (c.toNat : Int)] w fun e w' => e = .returned .nilIface ∧ Bd B b (l ++ [c]) w' ∧ Below B w w' ∧ Kept b w w' := by
  have k := Any.Builder_WriteByte_k { Tryz.lays230 with } Tryz.Builder_Extra_230 B b (Lib.byteCells l) (c.toNat : Int) w h (by rw [Lib.byteCells_length]; omega) hB
  change Calls Tryz.prog 37 _ _ _ at k
  refine k.mono fun e w' ⟨he, h1, h2, h3⟩ => ⟨he, ?_, h2, h3⟩
  unfold Bd
  rw [Lib.byteCells_append]
  exact .inr h1

theorem writeString_s (B b : Nat) (l : List UInt8) (s : ByteArray) (w : World) (h : Bd B b l w) (hl : l.length ≤ 100000000) (hs : s.size ≤ 100000000) (hB : B ≤ w.heap.size) :
    Calls Tryz.prog 18 #[.pointer (some ⟨b, 0, none⟩), .string s] w fun e w' => e = .returned (.tuple #[.int .i64 s.size, .nilIface]) ∧ Bd B b (l ++ s.data.toList) w' ∧ Below B w w' ∧ Kept b w w' := by
  have k := Any.Builder_WriteString_k { Tryz.lays230 with } Tryz.Builder_Extra_230 B b (Lib.byteCells l) s w h (by rw [Lib.byteCells_length]; omega) hB
  change Calls Tryz.prog 18 _ _ _ at k
  refine k.mono fun e w' ⟨he, h1, h2, h3⟩ => ⟨he, ?_, h2, h3⟩
  unfold Bd
  rw [Lib.byteCells_append]
  exact .inr h1

theorem writeRune_s (B b : Nat) (l : List UInt8) (c : UInt8) (w : World) (h : Bd B b l w) (hl : l.length ≤ 100000000) (hc : c.toNat < 128) (hB : B ≤ w.heap.size) :
    Calls Tryz.prog 72 #[.pointer (some ⟨b, 0, none⟩), .int .i32 (c.toNat : Int)] w fun e w' => e = .returned (.tuple #[.int .i64 1, .nilIface]) ∧ Bd B b (l ++ [c]) w' ∧ Below B w w' ∧ Kept b w w' := by
  have k := Any.Builder_WriteRune_k { Tryz.lays230 with } Tryz.Builder_Extra_230 B b (Lib.byteCells l) (c.toNat : Int) (by omega) (by omega) w h (by rw [Lib.byteCells_length]; omega) hB
  have e1 : Lib.runeCells (c.toNat : Int) = [.int .u8 (c.toNat : Int)] := by rw [Lib.runeCells, Lib.encodeRuneZ_one (by omega) (by omega)]; rfl
  rw [e1] at k
  change Calls Tryz.prog 72 _ _ _ at k
  refine k.mono fun e w' ⟨he, h1, h2, h3⟩ => ⟨he, ?_, h2, h3⟩
  unfold Bd
  rw [Lib.byteCells_append]
  exact .inr h1

theorem string_s (B b : Nat) (l : List UInt8) (w : World) (h : Bd B b l w) (hB : B ≤ w.heap.size) :
    Calls Tryz.prog 21 #[.pointer (some ⟨b, 0, none⟩)] w fun e w' => ∃ r : ByteArray, e = .returned (.string r) ∧ r.data.toList = l ∧ Below B w w' := by
  have k := Any.Builder_String_any_k { Tryz.lays230 with } Tryz.Builder_Extra_230 B b l w h hB
  change Calls Tryz.prog 21 _ _ _ at k
  exact k.mono fun e w' ⟨he, _, h2, _⟩ => ⟨_, he, by simp, h2⟩
end

/- What the small functions of package lex do: contracts. -/
section
open Go.RowKit
set_option maxRecDepth 100000

theorem by_all (p : UInt8 → Bool) (h : ∀ n : Fin 256, p (UInt8.ofNat n.val) = true) (c : UInt8) : p c = true := by
  have := h ⟨c.toNat, c.toNat_lt⟩
  simpa using this

theorem ret_bool {a b : Bool} (h : a = b) : Ending.returned (.bool a) = .returned (.bool b) := by rw [h]

theorem isBlank_ok (c : UInt8) (w : World) : Calls Tryz.prog 40 #[.int .u8 (c.toNat : Int)] w fun e w' => e = .returned (.bool (blankF c)) ∧ w = w' := by
  have hF : decide (0 ≤ Lib.indexByte [32, 9, 10, 13] c) = blankF c := by
    have := by_all (fun c => decide (0 ≤ Lib.indexByte [32, 9, 10, 13] c) == blankF c) (by decide +kernel) c
    simpa using this
  have HF := Lib.hid hF
  clear hF
  go_enter Tryz.func40, Tryz.ntmps40
  go_wp2_with (go_at_call 42; refine (indexByte_s _ c w).mono ?_; rintro e w' ⟨rfl, rfl⟩)
  go_ret
  refine ⟨?_, rfl⟩
  rw [← HF.out]
  rfl

theorem isDigit_ok (c : UInt8) (w : World) : Calls Tryz.prog 82 #[.int .u8 (c.toNat : Int)] w fun e w' => e = .returned (.bool (digitF c)) ∧ w = w' := by
  have hF : digitF c = (decide (48 ≤ c.toNat) && decide (c.toNat ≤ 57)) := rfl
  have HF := Lib.hid hF
  clear hF
  go_enter Tryz.func82, Tryz.ntmps82
  go_wp2
  all_goals
    go_ret
    refine ⟨ret_bool ?_, rfl⟩
    rw [HF.out, Bool.eq_iff_iff]
    simp
    try omega

theorem isLetter_ok (c : UInt8) (w : World) : Calls Tryz.prog 78 #[.int .u8 (c.toNat : Int)] w fun e w' => e = .returned (.bool (letterF c)) ∧ w = w' := by
  have hF : letterF c = (decide (65 ≤ c.toNat) && decide (c.toNat ≤ 90) || decide (97 ≤ c.toNat) && decide (c.toNat ≤ 122) || decide (c.toNat = 95)) := rfl
  have HF := Lib.hid hF
  clear hF
  go_enter Tryz.func78, Tryz.ntmps78
  go_wp2
  all_goals
    go_ret
    refine ⟨ret_bool ?_, rfl⟩
    rw [HF.out, Bool.eq_iff_iff]
    simp
    try omega

theorem isLetterOrDigit_ok (c : UInt8) (w : World) : Calls Tryz.prog 80 #[.int .u8 (c.toNat : Int)] w fun e w' => e = .returned (.bool (lodF c)) ∧ w = w' := by
  have hF : lodF c = (letterF c || digitF c) := rfl
  have HF := Lib.hid hF
  clear hF
  generalize hl : letterF c = a
  generalize hd : digitF c = b
  rw [hl, hd] at HF
  have H1 := isLetter_ok c w
  have H2 := isDigit_ok c w
  rw [hl] at H1
  rw [hd] at H2
  clear hl hd
  have H1 := Lib.hid H1
  have H2 := Lib.hid H2
  cases a <;> cases b
  all_goals
    go_enter Tryz.func80, Tryz.ntmps80
    go_wp2_with (first
      | (go_at_call 78; refine H1.out.mono ?_; rintro e w' ⟨rfl, rfl⟩)
      | (go_at_call 82; refine H2.out.mono ?_; rintro e w' ⟨rfl, rfl⟩))
    go_ret
    exact ⟨by rw [HF.out]; rfl, rfl⟩

theorem isSign_ok (c : UInt8) (w : World) : Calls Tryz.prog 85 #[.int .u8 (c.toNat : Int)] w fun e w' => e = .returned (.bool (signF c)) ∧ w = w' := by
  have hF : signF c = (!(decide (c.toNat ≤ 32) || decide (126 < c.toNat) || lodF c) && (decide (c.toNat ≠ 34) && decide (c.toNat ≠ 96) && decide (c.toNat ≠ 39) && decide (c.toNat ≠ 35))) := rfl
  generalize hl : lodF c = a
  rw [hl] at hF
  have HF := Lib.hid hF
  have H1 := isLetterOrDigit_ok c w
  rw [hl] at H1
  clear hl hF
  have H1 := Lib.hid H1
  cases a
  all_goals
    go_enter Tryz.func85, Tryz.ntmps85
    go_wp2_with (go_at_call 80; refine H1.out.mono ?_; rintro e w' ⟨rfl, rfl⟩)
  all_goals
    go_ret
    refine ⟨ret_bool ?_, rfl⟩
    rw [HF.out, Bool.eq_iff_iff]
    simp
    try omega
end

/- How many bytes at the beginning of a text are such: contracts. -/
section
open Go.RowKit
set_option maxRecDepth 100000

set_option maxHeartbeats 400000 in
theorem run_lod_same (s : ByteArray) (w : World) (hs : s.size ≤ 1000000) : Calls Tryz.prog 79 #[.string s, .func (.func 80) #[] #[]] w fun e w' => e = .returned (.int .i64 (runF lodF s.data.toList : Int)) ∧ w' = w := by
  have hall : ∀ k, k ≤ s.size → (∀ j (h : j < s.data.toList.length), j < k → lodF s.data.toList[j] = true) → runF lodF s.data.toList = k + runF lodF (s.data.toList.drop k) := fun k hk h => runF_drop _ _ k h (by rw [text_len]; exact hk)
  generalize hR : runF lodF s.data.toList = R at *
  have HA := Lib.hid hall
  clear hall hR
  go_enter Tryz.func79, Tryz.ntmps79
  go_wp2
  go_loopw [5] (fun n wr => ∃ k : Nat, k ≤ s.size ∧ n = .int .i64 k ∧ Hid (∀ j (h : j < s.data.toList.length), j < k → lodF s.data.toList[j] = true) ∧ wr = w) (fun n _ => s.size - (intOf n).toNat)
  case atStart => exact ⟨0, Nat.zero_le _, rfl, Lib.hid (fun j _ h => by omega), rfl⟩
  case round =>
    obtain ⟨k, hk, rfl, hin, rfl⟩ := hrel
    by_cases hlt : k < s.size
    · have hb := text_at s k hlt
      have hd : s.data.toList.drop k = s.data.toList[k]'(by rw [text_len]; exact hlt) :: s.data.toList.drop (k + 1) := List.drop_eq_getElem_cons _
      generalize hc : s.data.toList[k]'(by rw [text_len]; exact hlt) = c at hb hd
      have hp := isLetterOrDigit_ok c
      have HD := Lib.hid hd
      have HC := Lib.hid hc
      clear hd hc
      cases hpc : lodF c
      · rw [hpc] at hp
        have HP := Lib.hid hp
        clear hp
        have hR : R = k := by rw [HA.out k hk hin.out, HD.out, runF_none hpc]; rfl
        subst hR
        clear hpc
        go_wp2_with fail
        refine (HP.out _).mono ?_
        rintro e w' ⟨rfl, rfl⟩
        go_wp2_with fail
        go_ret
        exact ⟨rfl, rfl⟩
      · rw [hpc] at hp
        have HP := Lib.hid hp
        have hin2 : Hid (∀ j (h : j < s.data.toList.length), j < k + 1 → lodF s.data.toList[j] = true) := Lib.hid (fun j h hj => by
          rcases Nat.lt_or_ge j k with h1 | h1
          · exact hin.out j h h1
          · obtain rfl : j = k := by omega
            rw [HC.out]; exact hpc)
        clear hp hpc
        go_wp2_with fail
        refine (HP.out _).mono ?_
        rintro e w' ⟨rfl, rfl⟩
        go_wp2_with fail
        go_roundw
        case rel => exact ⟨k + 1, by omega, by go_num, hin2, trivial⟩
        case measure => simp [intOf]; omega
    · have hk' : k = s.size := by omega
      have hR : R = k := by rw [HA.out k hk hin.out, List.drop_eq_nil_of_le (by rw [text_len]; omega)]; rfl
      subst hR
      go_wp2_with fail
      go_ret
      exact ⟨rfl, rfl⟩

set_option maxHeartbeats 400000 in
theorem run_digit_same (s : ByteArray) (w : World) (hs : s.size ≤ 1000000) : Calls Tryz.prog 79 #[.string s, .func (.func 82) #[] #[]] w fun e w' => e = .returned (.int .i64 (runF digitF s.data.toList : Int)) ∧ w' = w := by
  have hall : ∀ k, k ≤ s.size → (∀ j (h : j < s.data.toList.length), j < k → digitF s.data.toList[j] = true) → runF digitF s.data.toList = k + runF digitF (s.data.toList.drop k) := fun k hk h => runF_drop _ _ k h (by rw [text_len]; exact hk)
  generalize hR : runF digitF s.data.toList = R at *
  have HA := Lib.hid hall
  clear hall hR
  go_enter Tryz.func79, Tryz.ntmps79
  go_wp2
  go_loopw [5] (fun n wr => ∃ k : Nat, k ≤ s.size ∧ n = .int .i64 k ∧ Hid (∀ j (h : j < s.data.toList.length), j < k → digitF s.data.toList[j] = true) ∧ wr = w) (fun n _ => s.size - (intOf n).toNat)
  case atStart => exact ⟨0, Nat.zero_le _, rfl, Lib.hid (fun j _ h => by omega), rfl⟩
  case round =>
    obtain ⟨k, hk, rfl, hin, rfl⟩ := hrel
    by_cases hlt : k < s.size
    · have hb := text_at s k hlt
      have hd : s.data.toList.drop k = s.data.toList[k]'(by rw [text_len]; exact hlt) :: s.data.toList.drop (k + 1) := List.drop_eq_getElem_cons _
      generalize hc : s.data.toList[k]'(by rw [text_len]; exact hlt) = c at hb hd
      have hp := isDigit_ok c
      have HD := Lib.hid hd
      have HC := Lib.hid hc
      clear hd hc
      cases hpc : digitF c
      · rw [hpc] at hp
        have HP := Lib.hid hp
        clear hp
        have hR : R = k := by rw [HA.out k hk hin.out, HD.out, runF_none hpc]; rfl
        subst hR
        clear hpc
        go_wp2_with fail
        refine (HP.out _).mono ?_
        rintro e w' ⟨rfl, rfl⟩
        go_wp2_with fail
        go_ret
        exact ⟨rfl, rfl⟩
      · rw [hpc] at hp
        have HP := Lib.hid hp
        have hin2 : Hid (∀ j (h : j < s.data.toList.length), j < k + 1 → digitF s.data.toList[j] = true) := Lib.hid (fun j h hj => by
          rcases Nat.lt_or_ge j k with h1 | h1
          · exact hin.out j h h1
          · obtain rfl : j = k := by omega
            rw [HC.out]; exact hpc)
        clear hp hpc
        go_wp2_with fail
        refine (HP.out _).mono ?_
        rintro e w' ⟨rfl, rfl⟩
        go_wp2_with fail
        go_roundw
        case rel => exact ⟨k + 1, by omega, by go_num, hin2, trivial⟩
        case measure => simp [intOf]; omega
    · have hk' : k = s.size := by omega
      have hR : R = k := by rw [HA.out k hk hin.out, List.drop_eq_nil_of_le (by rw [text_len]; omega)]; rfl
      subst hR
      go_wp2_with fail
      go_ret
      exact ⟨rfl, rfl⟩

theorem run_lod (s : ByteArray) (w : World) (hs : s.size ≤ 1000000) : Calls Tryz.prog 79 #[.string s, .func (.func 80) #[] #[]] w fun e w' => e = .returned (.int .i64 (runF lodF s.data.toList : Int)) ∧ Below w.heap.size w w' :=
  (run_lod_same s w hs).mono fun _ _ ⟨he, hw⟩ => ⟨he, hw ▸ Below.refl _ _⟩
theorem run_digit (s : ByteArray) (w : World) (hs : s.size ≤ 1000000) : Calls Tryz.prog 79 #[.string s, .func (.func 82) #[] #[]] w fun e w' => e = .returned (.int .i64 (runF digitF s.data.toList : Int)) ∧ Below w.heap.size w w' :=
  (run_digit_same s w hs).mono fun _ _ ⟨he, hw⟩ => ⟨he, hw ▸ Below.refl _ _⟩
end

/- A word with great letters; where a remark, or a hint, ends; what begins a remark: contracts. -/
section
open Go.RowKit
set_option maxRecDepth 100000

theorem up_byte (c : UInt8) (h1 : 97 ≤ c.toNat) (h2 : c.toNat ≤ 122) : ((upF c).toNat : Int) = (c.toNat : Int) + -32 := by
  have : ((c - 32).toNat : Int) = (c.toNat : Int) + -32 := by
    have h3 : (32 : UInt8) ≤ c := by rw [UInt8.le_iff_toNat_le]; simp; omega
    rw [UInt8.toNat_sub_of_le _ _ h3]
    simp
    omega
  unfold upF
  rw [if_pos ⟨h1, h2⟩]
  exact this
theorem up_same (c : UInt8) (h : ¬ (97 ≤ c.toNat ∧ c.toNat ≤ 122)) : upF c = c := by unfold upF; rw [if_neg h]
theorem up_lt (c : UInt8) (h : c.toNat < 128) : (upF c).toNat < 128 := by
  by_cases h1 : 97 ≤ c.toNat ∧ c.toNat ≤ 122
  · have := up_byte c h1.1 h1.2
    omega
  · rw [up_same c h1]; exact h
theorem drop_take_map (f : UInt8 → UInt8) (l : List UInt8) (k : Nat) (h : k < l.length) : (l.take (k + 1)).map f = (l.take k).map f ++ [f l[k]] := by
  rw [List.take_succ_eq_append_getElem h, List.map_append]
  rfl

set_option maxHeartbeats 1000000 in
theorem great_ok (s : ByteArray) (w : World) (hs : s.size ≤ 1000000) (ha : ∀ c ∈ s.data.toList, c.toNat < 128) : Calls Tryz.prog 81 #[.string s] w fun e w' => ∃ r : ByteArray, e = .returned (.string r) ∧ r.data.toList = greatF s.data.toList ∧ Below w.heap.size w w' := by
  have HA := Lib.hid ha
  clear ha
  have hlen := Lib.hid (text_len s)
  go_enter Tryz.func81, Tryz.ntmps81
  go_wp2
  go_loopw [] (fun wr => ∃ (pos : Nat), pos ≤ s.size ∧ Bd w.heap.size w.heap.size ((s.data.toList.take pos).map upF) wr ∧ wr.heap[w.heap.size + 1]? = some (.stringIter s pos) ∧ Below w.heap.size w wr) (fun wr => s.size - wr.iterPos (w.heap.size + 1))
  case atStart =>
    refine ⟨0, Nat.zero_le _, (Bd.new w w.heap.size (Nat.le_refl _)).alloc _, ?_, ((Below.refl _ w).alloc (Nat.le_refl _) _).alloc (by simp) _⟩
    have := World.iter_heap (w.alloc (.cells #[.pointer none, .slice none 0 0] 42)) s 0
    simpa using this
  case round =>
    obtain ⟨pos, hle, hI, hit, hbw⟩ := hrel
    have hsz : w.heap.size + 1 < wr.heap.size := (Array.getElem?_eq_some_iff.1 hit).1
    by_cases hp : pos < s.size
    · have hpl : pos < s.data.toList.length := by rw [hlen.out]; exact hp
      have hb := text_at s pos hp
      have hmem := HA.out (s.data.toList[pos]) (List.getElem_mem _)
      have hnext := Lib.hid (drop_take_map upF s.data.toList pos hpl)
      have hll : ((s.data.toList.take pos).map upF).length ≤ 1000000 := by rw [List.length_map, List.length_take]; omega
      generalize hc : s.data.toList[pos] = c at hb hmem hnext
      have hnx0 := fun ty => Lib.run_next_ascii_at (P := Tryz.prog) wr (w.heap.size + 1) s pos ty hit hp (by rw [hb]; exact hmem)
      rw [hb] at hnx0
      have hI2 := hI.iterAt hit (pos + 1)
      have hit2 := Lib.iterAt_heap wr (w.heap.size + 1) s pos (pos + 1) hit
      have hbw2 := Lib.below_iterAt hbw (k := w.heap.size + 1) (by omega) s (pos + 1)
      have hsz2 : w.heap.size ≤ (wr.iterAt (w.heap.size + 1) s (pos + 1)).heap.size := by rw [Lib.iterAt_size]; omega
      have hW := fun d (hd : d.toNat < 128) => writeRune_s w.heap.size w.heap.size _ d _ hI2 (by omega) hd hsz2
      have HW := Lib.hid hW
      clear hW hI hI2 hc hb
      by_cases hlow : 97 ≤ c.toNat ∧ c.toNat ≤ 122
      · obtain ⟨h1, h2⟩ := hlow
        have hu := up_byte c h1 h2
        have hlt := up_lt c hmem
        have HU := Lib.hid hu
        clear hu
        have HL := Lib.hid (And.intro h1 h2)
        have hW1 := HW.out (upF c) hlt
        rw [HU.out] at hW1
        have HW1 := Lib.hid hW1
        clear hW1
        go_wp2_with fail
        refine HW1.out.mono ?_
        rintro e W1 ⟨rfl, h1, b1, k1⟩
        go_wp2_with fail
        go_roundw
        case rel =>
          exact ⟨pos + 1, by omega, by rw [hnext.out]; exact h1, k1.iter hit2 (by omega), hbw2.trans b1⟩
        case measure =>
          simp only [World.iterPos, k1.iter hit2 (by omega), hit]
          omega
      · have hW1 := HW.out c hmem
        rw [up_same c hlow] at hnext
        have HW1 := Lib.hid hW1
        clear hW1
        go_wp2_with fail
        all_goals
          refine HW1.out.mono ?_
          rintro e W1 ⟨rfl, h1, b1, k1⟩
          go_wp2_with fail
          go_roundw
          case rel =>
            exact ⟨pos + 1, by omega, by rw [hnext.out]; exact h1, k1.iter hit2 (by omega), hbw2.trans b1⟩
          case measure =>
            simp only [World.iterPos, k1.iter hit2 (by omega), hit]
            omega
    · have hnx : ∀ ty, (Instr.next (.pointer (some ⟨w.heap.size + 1, 0, none⟩)) true ty).run Tryz.prog wr = _ := fun ty => Lib.run_next_end_at wr (w.heap.size + 1) s pos ty hit hp
      obtain rfl : pos = s.size := by omega
      have hS := string_s w.heap.size w.heap.size _ wr hI (by omega)
      rw [List.take_of_length_le (by rw [hlen.out]; exact Nat.le_refl _)] at hS
      have HS := Lib.hid hS
      clear hS
      go_wp2_with fail
      refine HS.out.mono ?_
      rintro e W1 ⟨r, rfl, hr, b1⟩
      go_wp2_with fail
      go_ret
      exact ⟨r, rfl, hr, hbw.trans b1⟩

set_option maxHeartbeats 400000 in
theorem closedSize_ok (s : ByteArray) (o : Nat) (w : World) (hs : s.size ≤ 1000000) (ho : o ≤ s.size) (hL : Lw w) : Calls Tryz.prog 44 #[.string s, .int .i64 (o : Int)] w fun e w' => e = .returned (.int .i64 (closedF s.data.toList o : Int)) ∧ w = w' := by
  have hi := index_s (s.extract o s.size) ⟨#[42, 47]⟩ w hL (by rw [ByteArray.size_extract]; omega)
  rw [text_rest] at hi
  have hr : 0 ≤ Lib.index (s.data.toList.drop o) ends2 → (Lib.index (s.data.toList.drop o) ends2).toNat + 2 ≤ s.size - o := fun h => by
    have := index_room h (by decide)
    rw [List.length_drop, text_len] at this
    exact this
  have hF : closedF s.data.toList o = if Lib.index (s.data.toList.drop o) ends2 < 0 then 0 else o + (Lib.index (s.data.toList.drop o) ends2).toNat + 2 := rfl
  have hge := Lib.index_ge (s.data.toList.drop o) ends2
  rw [show (⟨#[42, 47]⟩ : ByteArray).data.toList = ends2 from rfl] at hi
  generalize Lib.index (s.data.toList.drop o) ends2 = x at hi hr hF hge
  have HI := Lib.hid hi
  have HR := Lib.hid hr
  have HF := Lib.hid hF
  clear hi hr hF
  by_cases h0 : x < 0
  · have hx : x = -1 := by omega
    rw [if_pos h0] at HF
    go_enter Tryz.func44, Tryz.ntmps44
    go_wp2_with (go_at_call 77; refine HI.out.mono ?_; rintro e w' ⟨rfl, rfl⟩)
    go_ret
    exact ⟨by rw [HF.out]; rfl, rfl⟩
  · have hr2 := HR.out (by omega)
    obtain ⟨k, rfl⟩ : ∃ k : Nat, x = k := ⟨x.toNat, by omega⟩
    rw [if_neg h0, Int.toNat_natCast] at HF
    rw [Int.toNat_natCast] at hr2
    go_enter Tryz.func44, Tryz.ntmps44
    go_wp2_with (go_at_call 77; refine HI.out.mono ?_; rintro e w' ⟨rfl, rfl⟩)
    go_ret
    exact ⟨by rw [HF.out]; simp, rfl⟩

set_option maxHeartbeats 400000 in
theorem beginsLine_ok (s : ByteArray) (w : World) (hs : 0 < s.size) : Calls Tryz.prog 41 #[.string s] w fun e w' => e = .returned (.bool (isLineF s.data.toList)) ∧ w = w' := by
  have hl : 0 < s.data.toList.length := by rw [text_len]; exact hs
  have hb := text_at s 0 hs
  have hh := hasPrefix_s s ⟨#[45, 45]⟩ w
  have hF : isLineF s.data.toList = (decide ((s.data.toList[0]).toNat = 35) || begF [45, 45] s.data.toList) := by
    generalize s.data.toList = l at hl
    cases l with
    | nil => simp at hl
    | cons c r => rfl
  rw [show (⟨#[45, 45]⟩ : ByteArray).data.toList = [45, 45] from rfl] at hh
  generalize begF [45, 45] s.data.toList = y at hh hF
  generalize s.data.toList[0] = c at hb hF
  have HH := Lib.hid hh
  have HF := Lib.hid hF
  clear hh hF hl
  cases y <;> by_cases hc : c.toNat = 35
  all_goals
    go_enter Tryz.func41, Tryz.ntmps41
    go_wp2_with (go_at_call 75; refine HH.out.mono ?_; rintro e w' ⟨rfl, rfl⟩)
    go_ret
    exact ⟨ret_bool (by rw [HF.out]; first | (simp [hc]; done) | (simp [hc]; omega)), rfl⟩

set_option maxHeartbeats 400000 in
theorem beginsRemark_ok (s : ByteArray) (w : World) : Calls Tryz.prog 43 #[.string s] w fun e w' => e = .returned (.bool (isRemarkF s.data.toList)) ∧ w = w' := by
  have h1 := hasPrefix_s s ⟨#[47, 42]⟩ w
  have h2 := hasPrefix_s s ⟨#[47, 42, 43]⟩ w
  have hF : isRemarkF s.data.toList = (begF [47, 42] s.data.toList && !begF [47, 42, 43] s.data.toList) := rfl
  rw [show (⟨#[47, 42]⟩ : ByteArray).data.toList = [47, 42] from rfl] at h1
  rw [show (⟨#[47, 42, 43]⟩ : ByteArray).data.toList = [47, 42, 43] from rfl] at h2
  generalize begF [47, 42] s.data.toList = x at h1 hF
  generalize begF [47, 42, 43] s.data.toList = y at h2 hF
  have H1 := Lib.hid h1
  have H2 := Lib.hid h2
  have HF := Lib.hid hF
  clear h1 h2 hF
  cases x <;> cases y
  all_goals
    go_enter Tryz.func43, Tryz.ntmps43
    go_wp2_with fail
    refine H1.out.mono ?_
    rintro e w' ⟨rfl, rfl⟩
    go_wp2_with fail
    first
      | (refine H2.out.mono ?_
         rintro e w' ⟨rfl, rfl⟩
         go_wp2_with fail
         go_ret
         exact ⟨ret_bool (by rw [HF.out]; rfl), rfl⟩)
      | (go_ret
         exact ⟨ret_bool (by rw [HF.out]; rfl), rfl⟩)
end

/- A name or a string between its quotes: contract. -/
section
open Go.RowKit
set_option maxRecDepth 100000

theorem cells2 {w : World} {b : Nat} {x y : Value} {t : TypeId} (h : w.heap[b]? = some (.cells #[x, y] t (0, 0))) :
    w.cell? ⟨b, 0, none⟩ = some x ∧ w.cell? ⟨b, 1, none⟩ = some y ∧ w.frozen? ⟨b, 0, none⟩ = false ∧ w.frozen? ⟨b, 1, none⟩ = false := by
  refine ⟨?_, ?_, ?_, ?_⟩
  · rw [cell_of_row _ _ 0 #[x, y] t (0, 0) h]; rfl
  · rw [cell_of_row _ _ 1 #[x, y] t (0, 0) h]; rfl
  · simp [World.frozen?, h]
  · simp [World.frozen?, h]
theorem alloc_pair (w : World) (o o' : Obj) : ((w.alloc o).alloc o').heap[w.heap.size]? = some o ∧ ((w.alloc o).alloc o').heap[w.heap.size + 1]? = some o' := by
  constructor
  · rw [(kp_new (w.alloc o) o').block _ (by simp)]
    exact heap_alloc_new w o
  · have := heap_alloc_new (w.alloc o) o'
    simpa using this

theorem byte_ne {a b : UInt8} (h : ¬ a = b) : ((a.toNat : Int) != (b.toNat : Int)) = true := by
  simp only [bne_iff_ne, ne_eq]
  exact fun e => h (UInt8.toNat_inj.1 (by omega))
theorem byte_eq_no {a b : UInt8} (h : ¬ a = b) : ((a.toNat : Int) == (b.toNat : Int)) = false := by
  simp only [beq_eq_false_iff_ne, ne_eq]
  exact fun e => h (UInt8.toNat_inj.1 (by omega))

/-- a token, and how many bytes it takes, as a call answers it: a zero token and 0 where there is none -/
def Ans1 (x : Option (Int × List UInt8 × Nat)) (k : Int) (r : ByteArray) (n : Nat) : Prop :=
  match x with
  | none => k = 0 ∧ r = ⟨#[]⟩ ∧ n = 0
  | some (k', t, m) => k = k' ∧ r.data.toList = t ∧ n = m

def tokV (k : Int) (r : ByteArray) : Value := .agg #[.int .i64 k, .string r]

set_option maxHeartbeats 1000000 in
theorem quoted_ok (kind : Int) (s : ByteArray) (c : UInt8) (rest : List UInt8) (w : World) (hs : s.size ≤ 1000000) (hl : s.data.toList = c :: rest) :
    Calls Tryz.prog 83 #[.int .i64 kind, .string s] w fun e w' => ∃ k r n, e = .returned (.tuple #[tokV k r, .int .i64 (n : Nat)]) ∧ Ans1 ((quotedF c rest).map fun x => (kind, x.1, x.2 + 1)) k r n ∧ Below w.heap.size w w' := by
  unfold tokV
  have hn : 0 < s.size := by rw [← text_len, hl]; simp
  have hc0 : s[0] = c := by rw [text_at s 0 hn]; simp [hl]
  have hx : quotedF c rest = quotedF c (s.data.toList.drop 1) := by rw [hl]; rfl
  rw [hx]
  generalize hR0 : quotedF c (s.data.toList.drop 1) = R
  have HR := Lib.hid hR0
  have hlen := Lib.hid (text_len s)
  clear hR0 hx hl
  go_enter Tryz.func83, Tryz.ntmps83
  go_wp2
  go_loopw [8] (fun at_ wr => ∃ (k : Nat) (done : List UInt8), at_ = .int .i64 k ∧ 1 ≤ k ∧ k ≤ s.size ∧ done.length ≤ k ∧ Bd (w.heap.size + 1) (w.heap.size + 1) done wr ∧ w.heap.size + 1 < wr.heap.size ∧ wr.heap[w.heap.size]? = some (.cells #[.int .i64 0, .string ⟨#[]⟩] 35 (0, 0)) ∧ Hid (R = (quotedF c (s.data.toList.drop k)).map fun x => (done ++ x.1, x.2 + k - 1)) ∧ Below w.heap.size w wr) (fun at_ _ => s.size - (intOf at_).toNat)
  case atStart =>
    refine ⟨1, [], rfl, Nat.le_refl _, by omega, by simp, ?_, by simp, (alloc_pair w _ _).1, Lib.hid ?_, kp_alloc (kp_new _ _) _⟩
    · have := Bd.new (w.alloc (.cells #[.int .i64 0, .string ⟨#[]⟩] 35)) (w.heap.size + 1) (by simp)
      simpa using this
    · rw [HR.out]
      cases R <;> simp
  case round =>
    obtain ⟨k, done, rfl, hk1, hks, hdl, hI, hsz, hres, hx, kw⟩ := hrel
    have HRES := Lib.hid hres
    clear hres HR
    by_cases hlt : k < s.size
    · have hkl : k < s.data.toList.length := by rw [hlen.out]; exact hlt
      have hb := text_at s k hlt
      have hd : s.data.toList.drop k = s.data.toList[k] :: s.data.toList.drop (k + 1) := List.drop_eq_getElem_cons hkl
      rw [hd] at hx
      generalize s.data.toList[k] = b at hb hd hx
      clear hd
      by_cases hbc : b = c
      · subst hbc
        by_cases h1 : k + 1 < s.size
        · have hb1 := text_at s (k + 1) h1
          have hd1 : s.data.toList.drop (k + 1) = s.data.toList[k + 1]'(by rw [hlen.out]; exact h1) :: s.data.toList.drop (k + 1 + 1) := List.drop_eq_getElem_cons _
          rw [hd1] at hx
          generalize s.data.toList[k + 1]'(by rw [hlen.out]; exact h1) = d at hb1 hd1 hx
          clear hd1
          by_cases hdb : d = b
          · subst hdb
            rw [quotedF_twice] at hx
            have hx2 : Hid (R = (quotedF d (s.data.toList.drop (k + 1 + 1))).map fun x => (done ++ [d] ++ x.1, x.2 + (k + 1 + 1) - 1)) := Lib.hid (by
              rw [hx.out]
              cases quotedF d (s.data.toList.drop (k + 1 + 1)) <;> simp
              omega)
            have hW := Lib.hid (writeByte_s (w.heap.size + 1) (w.heap.size + 1) done d wr hI (by omega) (by omega))
            clear hx hI
            go_wp2_with fail
            refine hW.out.mono ?_
            rintro e W1 ⟨rfl, hI1, b1, _⟩
            go_wp2_with fail
            go_roundw
            case rel => exact ⟨k + 1 + 1, done ++ [d], by go_num, by omega, by omega, by simp; omega, hI1, by have := b1.size; omega, (b1.block _ (Nat.lt_succ_self _)).trans HRES.out, hx2, kw.trans (b1.mono (Nat.le_succ _))⟩
            case measure => simp [intOf]; omega
          · have hR : R = some (done, k) := by rw [hx.out, quotedF_ends (by simpa using hdb)]; simp
            subst hR
            have hdb2 : ((d.toNat : Int) != (b.toNat : Int)) = true := byte_ne hdb
            have hS := Lib.hid (string_s (w.heap.size + 1) (w.heap.size + 1) done wr hI (by omega))
            clear hx hI
            go_wp2_with fail
            refine hS.out.mono ?_
            rintro e W1 ⟨r, rfl, hr, b1⟩
            obtain ⟨x0, x1, f0, f1⟩ := cells2 ((b1.block _ (Nat.lt_succ_self _)).trans HRES.out)
            go_wp2_with fail
            refine bodyPost_ret (v := .tuple #[.agg #[.int .i64 kind, .string r], .int .i64 ((k + 1 : Nat) : Int)]) ?_ rfl ⟨kind, r, k + 1, rfl, ⟨rfl, hr, rfl⟩, ?_⟩
            · rw [results_cell_tmp rfl]
              go_simp
            · exact (((kw.trans (b1.mono (Nat.le_succ _))).setCell (Nat.le_refl _) _).setCell (Nat.le_refl _) _)
        · have h2 : ((k : Int) + 1 == (s.size : Int)) = true := by simp only [beq_iff_eq]; omega
          have hR : R = some (done, k) := by
            rw [hx.out, List.drop_eq_nil_of_le (by rw [hlen.out]; omega), quotedF_ends (by simp)]; simp
          subst hR
          have hS := Lib.hid (string_s (w.heap.size + 1) (w.heap.size + 1) done wr hI (by omega))
          clear hx hI
          go_wp2_with fail
          refine hS.out.mono ?_
          rintro e W1 ⟨r, rfl, hr, b1⟩
          obtain ⟨x0, x1, f0, f1⟩ := cells2 ((b1.block _ (Nat.lt_succ_self _)).trans HRES.out)
          go_wp2_with fail
          refine bodyPost_ret (v := .tuple #[.agg #[.int .i64 kind, .string r], .int .i64 ((k + 1 : Nat) : Int)]) ?_ rfl ⟨kind, r, k + 1, rfl, ⟨rfl, hr, rfl⟩, ?_⟩
          · rw [results_cell_tmp rfl]
            go_simp
          · exact (((kw.trans (b1.mono (Nat.le_succ _))).setCell (Nat.le_refl _) _).setCell (Nat.le_refl _) _)
      · rw [quotedF_other hbc] at hx
        have hx2 : Hid (R = (quotedF c (s.data.toList.drop (k + 1))).map fun x => (done ++ [b] ++ x.1, x.2 + (k + 1) - 1)) := Lib.hid (by
          rw [hx.out]
          cases quotedF c (s.data.toList.drop (k + 1)) <;> simp)
        have hbc2 := byte_eq_no hbc
        have hW := Lib.hid (writeByte_s (w.heap.size + 1) (w.heap.size + 1) done b wr hI (by omega) (by omega))
        clear hx hI
        go_wp2_with fail
        refine hW.out.mono ?_
        rintro e W1 ⟨rfl, hI1, b1, _⟩
        go_wp2_with fail
        go_roundw
        case rel => exact ⟨k + 1, done ++ [b], by go_num, by omega, by omega, by simp; omega, hI1, by have := b1.size; omega, (b1.block _ (Nat.lt_succ_self _)).trans HRES.out, hx2, kw.trans (b1.mono (Nat.le_succ _))⟩
        case measure => simp [intOf]; omega
    · have hR : R = none := by rw [hx.out, List.drop_eq_nil_of_le (by rw [hlen.out]; omega)]; rfl
      subst hR
      clear hx
      obtain ⟨x0, x1, f0, f1⟩ := cells2 HRES.out
      go_wp2_with fail
      refine bodyPost_ret (v := .tuple #[.agg #[.int .i64 0, .string ⟨#[]⟩], .int .i64 ((0 : Nat) : Int)]) ?_ rfl ⟨0, ⟨#[]⟩, 0, rfl, ⟨rfl, rfl, rfl⟩, ?_⟩
      · rw [results_cell_tmp rfl]
        go_simp
      · exact ((kw.setCell (Nat.le_refl _) _).setCell (Nat.le_refl _) _)
end

/- A hint, and the token that a text begins with: contracts. -/
section
open Go.RowKit
set_option maxRecDepth 100000

def hintF (l : List UInt8) : Option (List UInt8 × Nat) := if closedF l 3 = 0 then none else some (trimF ((l.take (closedF l 3 - 2)).drop 3), closedF l 3)

set_option maxHeartbeats 1000000 in
theorem hint_ok (s : ByteArray) (w : World) (hs : s.size ≤ 1000000) (h3 : 3 ≤ s.size) (hL : Lw w) :
    Calls Tryz.prog 84 #[.string s] w fun e w' => ∃ k r n, e = .returned (.tuple #[tokV k r, .int .i64 (n : Nat)]) ∧ Ans1 ((hintF s.data.toList).map fun x => (5, x.1, x.2)) k r n ∧ Below w.heap.size w w' := by
  unfold tokV
  have hcl := closedF_le s.data.toList 3 (by rw [text_len]; exact h3)
  rw [text_len] at hcl
  have hF : hintF s.data.toList = if closedF s.data.toList 3 = 0 then none else some (trimF ((s.data.toList.take (closedF s.data.toList 3 - 2)).drop 3), closedF s.data.toList 3) := rfl
  have b0 := heap_alloc_new w (.cells #[.int .i64 0, .string ⟨#[]⟩] 35)
  have kw := kp_new w (.cells #[.int .i64 0, .string ⟨#[]⟩] 35)
  have hz : w.heap.size < (w.alloc (.cells #[.int .i64 0, .string ⟨#[]⟩] 35)).heap.size := by simp
  have hC := closedSize_ok s 3 _ hs h3 (hL.next kw)
  generalize hint0 : hintF s.data.toList = R at hF ⊢
  clear hint0
  have HZ := Lib.hid hz
  have HB := Lib.hid b0
  clear b0 hz
  by_cases h0 : closedF s.data.toList 3 = 0
  · rw [if_pos h0] at hF
    rw [h0] at hC
    have HC := Lib.hid hC
    subst hF
    clear hC h0 hcl
    go_enter Tryz.func84, Tryz.ntmps84
    go_wp2_with fail
    refine HC.out.mono ?_
    rintro e w1 ⟨rfl, rfl⟩
    obtain ⟨x0, x1, f0, f1⟩ := cells2 HB.out
    go_wp2_with fail
    refine bodyPost_ret (v := .tuple #[.agg #[.int .i64 0, .string ⟨#[]⟩], .int .i64 ((0 : Nat) : Int)]) ?_ rfl ⟨0, ⟨#[]⟩, 0, rfl, ⟨rfl, rfl, rfl⟩, ?_⟩
    · rw [results_cell_tmp rfl]
      go_simp
    · exact kw
  · rw [if_neg h0] at hF
    have h5 := hcl.2 h0
    have hle := hcl.1
    have hT := trim_s (s.extract 3 (closedF s.data.toList 3 - 2)) (w.alloc (.cells #[.int .i64 0, .string ⟨#[]⟩] 35)) (by rw [ByteArray.size_extract]; omega)
    rw [text_cut, show (s.data.toList.drop 3).take (closedF s.data.toList 3 - 2 - 3) = (s.data.toList.take (closedF s.data.toList 3 - 2)).drop 3 from by rw [List.drop_take]] at hT
    generalize closedF s.data.toList 3 = n at hF hC hT h0 h5 hle
    have HF := Lib.hid hF
    have HC := Lib.hid hC
    have HT := Lib.hid hT
    have hsub : ((n : Int) + -2).toNat = n - 2 := by omega
    clear hF hC hT hcl
    go_enter Tryz.func84, Tryz.ntmps84
    go_wp2_with fail
    refine HC.out.mono ?_
    rintro e w1 ⟨rfl, rfl⟩
    go_wp2_with fail
    refine HT.out.mono ?_
    rintro e w1 ⟨r, rfl, hr, k1⟩
    obtain ⟨x0, x1, f0, f1⟩ := cells2 ((k1.block _ HZ.out).trans HB.out)
    go_wp2_with fail
    refine bodyPost_ret (v := .tuple #[.agg #[.int .i64 5, .string r], .int .i64 (n : Int)]) ?_ rfl ⟨5, r, n, rfl, ?_, ?_⟩
    · rw [results_cell_tmp rfl]
      go_simp
    · rw [HF.out]
      exact ⟨rfl, hr, rfl⟩
    · exact (((kp_trans kw k1).setCell (Nat.le_refl _) _).setCell (Nat.le_refl _) _)

theorem lod_ascii (c : UInt8) (h : lodF c = true) : c.toNat < 128 := by
  have := by_all (fun c => !lodF c || decide (c.toNat < 128)) (by decide +kernel) c
  simp only [h, Bool.not_true, Bool.false_or, decide_eq_true_eq] at this
  exact this

def firstI (l : List UInt8) : Option (Int × List UInt8 × Nat) := (firstF l).map fun x => ((x.1 : Int), x.2.1, x.2.2)

set_option maxHeartbeats 2000000 in
theorem first_ok (s : ByteArray) (c : UInt8) (rest : List UInt8) (w : World) (hs : s.size ≤ 1000000) (hl : s.data.toList = c :: rest) (hL : Lw w) :
    Calls Tryz.prog 45 #[.string s] w fun e w' => ∃ k r n, e = .returned (.tuple #[tokV k r, .int .i64 (n : Nat)]) ∧ Ans1 (firstI s.data.toList) k r n ∧ Below w.heap.size w w' := by
  unfold tokV
  have hn : 0 < s.size := by rw [← text_len, hl]; simp
  have hc0 : s[0] = c := by rw [text_at s 0 hn]; simp [hl]
  have b0 := heap_alloc_new w (.cells #[.int .i64 0, .string ⟨#[]⟩] 35)
  have kw := kp_new w (.cells #[.int .i64 0, .string ⟨#[]⟩] 35)
  have hz : w.heap.size < (w.alloc (.cells #[.int .i64 0, .string ⟨#[]⟩] 35)).heap.size := by simp
  have hL1 := hL.next kw
  have hF : firstI s.data.toList = firstI (c :: rest) := by rw [hl]
  have HZ := Lib.hid hz
  have HB := Lib.hid b0
  have HLen := Lib.hid (text_len s)
  have HL := Lib.hid hl
  generalize hR : firstI s.data.toList = R at hF ⊢
  clear b0 hz hR hl
  have H1 := fun u => isLetter_ok c u
  by_cases h1 : letterF c = true
  · have hFF : firstI (c :: rest) = some (1, greatF ((c :: rest).take (runF lodF (c :: rest))), runF lodF (c :: rest)) := by simp [firstI, firstF, h1]
    rw [hFF, ← HL.out] at hF
    have hr := fun u => run_lod s u hs
    have hle := runF_le lodF s.data.toList
    have hall := runF_all lodF s.data.toList
    rw [text_len] at hle
    generalize runF lodF s.data.toList = n at hF hr hle hall
    have hg := fun u => great_ok (s.extract 0 n) u (by rw [ByteArray.size_extract]; omega) (by
      rw [text_front]
      exact fun x hx => lod_ascii x (hall x hx))
    rw [text_front] at hg
    rw [h1] at H1
    have HF := Lib.hid hF
    have H1' := Lib.hid H1
    have HR := Lib.hid hr
    have HG := Lib.hid hg
    clear H1 hr hg hF hFF hall h1
    go_enter Tryz.func45, Tryz.ntmps45
    go_wp2_with fail
    refine (H1'.out _).mono ?_
    rintro e w1 ⟨rfl, rfl⟩
    go_wp2_with fail
    refine (HR.out _).mono ?_
    rintro e w2 ⟨rfl, k2⟩
    go_wp2_with fail
    refine (HG.out _).mono ?_
    rintro e w3 ⟨r, rfl, hr, k3⟩
    obtain ⟨x0, x1, f0, f1⟩ := cells2 (((kp_trans k2 k3).block _ HZ.out).trans HB.out)
    go_wp2_with fail
    refine bodyPost_ret (v := .tuple #[.agg #[.int .i64 1, .string r], .int .i64 (n : Int)]) ?_ rfl ⟨1, r, n, rfl, ?_, ?_⟩
    · rw [results_cell_tmp rfl]
      go_simp
    · rw [HF.out]
      exact ⟨rfl, hr, rfl⟩
    · exact (((kp_trans kw (kp_trans k2 k3)).setCell (Nat.le_refl _) _).setCell (Nat.le_refl _) _)
  have h1f : letterF c = false := by simpa using h1
  rw [h1f] at H1
  have H1' := Lib.hid H1
  clear H1
  have H2 := fun u => isDigit_ok c u
  by_cases h2 : digitF c = true
  · have hFF : firstI (c :: rest) = some (4, (c :: rest).take (runF digitF (c :: rest)), runF digitF (c :: rest)) := by simp [firstI, firstF, h1, h2]
    rw [hFF, ← HL.out] at hF
    have hr := fun u => run_digit s u hs
    have hle := runF_le digitF s.data.toList
    rw [text_len] at hle
    generalize runF digitF s.data.toList = n at hF hr hle
    have ht := text_front s n
    rw [h2] at H2
    have HF := Lib.hid hF
    have H2' := Lib.hid H2
    have HR := Lib.hid hr
    have HT := Lib.hid ht
    clear H2 hr hF hFF h1 h1f h2 ht
    go_enter Tryz.func45, Tryz.ntmps45
    go_wp2_with fail
    refine (H1'.out _).mono ?_
    rintro e w1 ⟨rfl, rfl⟩
    go_wp2_with fail
    refine (H2'.out _).mono ?_
    rintro e w1 ⟨rfl, rfl⟩
    go_wp2_with fail
    refine (HR.out _).mono ?_
    rintro e w2 ⟨rfl, k2⟩
    obtain ⟨x0, x1, f0, f1⟩ := cells2 ((k2.block _ HZ.out).trans HB.out)
    go_wp2_with fail
    refine bodyPost_ret (v := .tuple #[.agg #[.int .i64 4, .string (s.extract 0 n)], .int .i64 (n : Int)]) ?_ rfl ⟨4, s.extract 0 n, n, rfl, ?_, ?_⟩
    · rw [results_cell_tmp rfl]
      go_simp
    · rw [HF.out]
      exact ⟨rfl, HT.out, rfl⟩
    · exact (((kp_trans kw k2).setCell (Nat.le_refl _) _).setCell (Nat.le_refl _) _)
  have h2f : digitF c = false := by simpa using h2
  rw [h2f] at H2
  have H2' := Lib.hid H2
  clear H2
  by_cases h3 : c.toNat = 34 ∨ c.toNat = 96
  · have hFF : firstI (c :: rest) = (quotedF c rest).map fun x => ((2 : Int), x.1, x.2 + 1) := by
      simp only [firstI, firstF, h1f, h2f, if_pos h3, Bool.false_eq_true, if_false, Option.map_map]
      rfl
    rw [hFF] at hF
    have hQ := fun u => quoted_ok 2 s c rest u hs HL.out
    unfold tokV at hQ
    have HQ := Lib.hid hQ
    have HF := Lib.hid hF
    have h3b : (((c.toNat : Int) == 34) = true) ∨ (((c.toNat : Int) == 34) = false ∧ ((c.toNat : Int) == 96) = true) := by
      simp only [beq_iff_eq, beq_eq_false_iff_ne, ne_eq]
      omega
    clear hQ hF hFF h1 h1f h2 h2f h3
    rcases h3b with h3a | ⟨h3a, h3c⟩
    all_goals
      go_enter Tryz.func45, Tryz.ntmps45
      go_wp2_with fail
      refine (H1'.out _).mono ?_
      rintro e w1 ⟨rfl, rfl⟩
      go_wp2_with fail
      refine (H2'.out _).mono ?_
      rintro e w1 ⟨rfl, rfl⟩
      go_wp2_with fail
      refine (HQ.out _).mono ?_
      rintro e w2 ⟨k, r, n, rfl, hA, k2⟩
      obtain ⟨x0, x1, f0, f1⟩ := cells2 ((k2.block _ HZ.out).trans HB.out)
      go_wp2_with fail
      refine bodyPost_ret (v := .tuple #[.agg #[.int .i64 k, .string r], .int .i64 (n : Int)]) ?_ rfl ⟨k, r, n, rfl, ?_, ?_⟩
      · rw [results_cell_tmp rfl]
        go_simp
      · rw [HF.out]
        exact hA
      · exact (((kp_trans kw k2).setCell (Nat.le_refl _) _).setCell (Nat.le_refl _) _)
  have h3a : ((c.toNat : Int) == 34) = false := by simp only [beq_eq_false_iff_ne, ne_eq]; omega
  have h3c : ((c.toNat : Int) == 96) = false := by simp only [beq_eq_false_iff_ne, ne_eq]; omega
  by_cases h4 : c.toNat = 39
  · have hFF : firstI (c :: rest) = (quotedF c rest).map fun x => ((3 : Int), x.1, x.2 + 1) := by
      simp only [firstI, firstF, h1f, h2f, if_neg h3, if_pos h4, Bool.false_eq_true, if_false, Option.map_map]
      rfl
    rw [hFF] at hF
    have hQ := fun u => quoted_ok 3 s c rest u hs HL.out
    unfold tokV at hQ
    have HQ := Lib.hid hQ
    have HF := Lib.hid hF
    have h4i : ((c.toNat : Int) == 39) = true := by simp only [beq_iff_eq]; omega
    clear hQ hF hFF h1 h1f h2 h2f h3 h4
    go_enter Tryz.func45, Tryz.ntmps45
    go_wp2_with fail
    refine (H1'.out _).mono ?_
    rintro e w1 ⟨rfl, rfl⟩
    go_wp2_with fail
    refine (H2'.out _).mono ?_
    rintro e w1 ⟨rfl, rfl⟩
    go_wp2_with fail
    refine (HQ.out _).mono ?_
    rintro e w2 ⟨k, r, n, rfl, hA, k2⟩
    obtain ⟨x0, x1, f0, f1⟩ := cells2 ((k2.block _ HZ.out).trans HB.out)
    go_wp2_with fail
    refine bodyPost_ret (v := .tuple #[.agg #[.int .i64 k, .string r], .int .i64 (n : Int)]) ?_ rfl ⟨k, r, n, rfl, ?_, ?_⟩
    · rw [results_cell_tmp rfl]
      go_simp
    · rw [HF.out]
      exact hA
    · exact (((kp_trans kw k2).setCell (Nat.le_refl _) _).setCell (Nat.le_refl _) _)
  have h4a : ((c.toNat : Int) == 39) = false := by simp only [beq_eq_false_iff_ne, ne_eq]; omega
  have hP := fun u => hasPrefix_s s ⟨#[47, 42, 43]⟩ u
  rw [show (⟨#[47, 42, 43]⟩ : ByteArray).data.toList = [47, 42, 43] from rfl] at hP
  by_cases h5 : begF [47, 42, 43] s.data.toList = true
  · have hsz : 3 ≤ s.size := by
      rw [← text_len]
      have := (List.isPrefixOf_iff_prefix.1 h5).length_le
      simpa using this
    have hFF : firstI (c :: rest) = (hintF s.data.toList).map fun x => ((5 : Int), x.1, x.2) := by
      rw [HL.out] at h5 ⊢
      simp only [firstI, firstF, h1f, h2f, if_neg h3, if_neg h4, if_pos h5, Bool.false_eq_true, if_false, hintF]
      split <;> rfl
    rw [hFF] at hF
    have hQ := hint_ok s _ hs hsz hL1
    unfold tokV at hQ
    rw [h5] at hP
    have HP := Lib.hid hP
    have HQ := Lib.hid hQ
    have HF := Lib.hid hF
    clear hQ hF hFF h1 h1f h2 h2f h3 h4 hP h5
    go_enter Tryz.func45, Tryz.ntmps45
    go_wp2_with fail
    refine (H1'.out _).mono ?_
    rintro e w1 ⟨rfl, rfl⟩
    go_wp2_with fail
    refine (H2'.out _).mono ?_
    rintro e w1 ⟨rfl, rfl⟩
    go_wp2_with fail
    refine (HP.out _).mono ?_
    rintro e w1 ⟨rfl, rfl⟩
    go_wp2_with fail
    refine HQ.out.mono ?_
    rintro e w2 ⟨k, r, n, rfl, hA, k2⟩
    obtain ⟨x0, x1, f0, f1⟩ := cells2 ((k2.block _ HZ.out).trans HB.out)
    go_wp2_with fail
    refine bodyPost_ret (v := .tuple #[.agg #[.int .i64 k, .string r], .int .i64 (n : Int)]) ?_ rfl ⟨k, r, n, rfl, ?_, ?_⟩
    · rw [results_cell_tmp rfl]
      go_simp
    · rw [HF.out]
      exact hA
    · exact (((kp_trans kw k2).setCell (Nat.le_refl _) _).setCell (Nat.le_refl _) _)
  have h5f : begF [47, 42, 43] s.data.toList = false := by simpa using h5
  have h5c : begF [47, 42, 43] (c :: rest) = false := by rw [← HL.out]; exact h5f
  rw [h5f] at hP
  have HP := Lib.hid hP
  clear hP h5 h5f
  have H6 := fun u => isSign_ok c u
  by_cases h6 : signF c = true
  · have hFF : firstI (c :: rest) = some (6, [c], 1) := by
      simp only [firstI, firstF, h1f, h2f, if_neg h3, if_neg h4, h5c, if_pos h6, Bool.false_eq_true, if_false]
      rfl
    rw [hFF] at hF
    rw [h6] at H6
    have ht : (s.extract 0 1).data.toList = [c] := by rw [text_front, HL.out]; rfl
    have H6' := Lib.hid H6
    have HF := Lib.hid hF
    have HT := Lib.hid ht
    clear H6 hF hFF h1 h1f h2 h2f h3 h4 h5c ht h6
    go_enter Tryz.func45, Tryz.ntmps45
    go_wp2_with fail
    refine (H1'.out _).mono ?_
    rintro e w1 ⟨rfl, rfl⟩
    go_wp2_with fail
    refine (H2'.out _).mono ?_
    rintro e w1 ⟨rfl, rfl⟩
    go_wp2_with fail
    refine (HP.out _).mono ?_
    rintro e w1 ⟨rfl, rfl⟩
    go_wp2_with fail
    refine (H6'.out _).mono ?_
    rintro e w1 ⟨rfl, rfl⟩
    obtain ⟨x0, x1, f0, f1⟩ := cells2 HB.out
    go_wp2_with fail
    refine bodyPost_ret (v := .tuple #[.agg #[.int .i64 6, .string (s.extract 0 1)], .int .i64 ((1 : Nat) : Int)]) ?_ rfl ⟨6, s.extract 0 1, 1, rfl, ?_, ?_⟩
    · rw [results_cell_tmp rfl]
      go_simp
    · rw [HF.out]
      exact ⟨rfl, HT.out, rfl⟩
    · first | exact ((kw.setCell (Nat.le_refl _) _).setCell (Nat.le_refl _) _) | exact kp_new _ _
  · have h6f : signF c = false := by simpa using h6
    have hFF : firstI (c :: rest) = none := by
      simp only [firstI, firstF, h1f, h2f, if_neg h3, if_neg h4, h5c, h6f, Bool.false_eq_true, if_false]
      rfl
    rw [hFF] at hF
    rw [h6f] at H6
    have H6' := Lib.hid H6
    have HF := Lib.hid hF
    clear H6 hF hFF h1 h1f h2 h2f h3 h4 h5c h6 h6f
    go_enter Tryz.func45, Tryz.ntmps45
    go_wp2_with fail
    refine (H1'.out _).mono ?_
    rintro e w1 ⟨rfl, rfl⟩
    go_wp2_with fail
    refine (H2'.out _).mono ?_
    rintro e w1 ⟨rfl, rfl⟩
    go_wp2_with fail
    refine (HP.out _).mono ?_
    rintro e w1 ⟨rfl, rfl⟩
    go_wp2_with fail
    refine (H6'.out _).mono ?_
    rintro e w1 ⟨rfl, rfl⟩
    obtain ⟨x0, x1, f0, f1⟩ := cells2 HB.out
    go_wp2_with fail
    refine bodyPost_ret (v := .tuple #[.agg #[.int .i64 0, .string ⟨#[]⟩], .int .i64 ((0 : Nat) : Int)]) ?_ rfl ⟨0, ⟨#[]⟩, 0, rfl, ?_, ?_⟩
    · rw [results_cell_tmp rfl]
      go_simp
    · rw [HF.out]
      exact ⟨rfl, rfl, rfl⟩
    · first | exact ((kw.setCell (Nat.le_refl _) _).setCell (Nat.le_refl _) _) | exact kp_new _ _
end

/- Append onto a row of the call's own whose elements are of several cells; a block's two cells. -/
section
open Go.RowKit
set_option maxRecDepth 100000

section
variable {P : Program} {w : World}
theorem run_append_nothings (base : Nat) (t ty e : TypeId) (i : TypeInfo) (size : Nat) (ht : P.underlying t = some (.slice e)) (hi : P.info? e = some i)
    (v : Value) (n c : Nat) (xs : List Value) (hown : w.ownsRow base e size v n xs) : (Builtin.append_ #[t, t] ty #[v, .slice none 0 c]).run P w = .ok v w := by
  rcases hown.2 with ⟨rfl, rfl⟩ | ⟨g, cap, cur, rfl, _, _, hnc, _⟩
  · simp [Builtin.append_, run_underlying ht, sizeOf, typeInfo, hi, Builtin.lenOf, Builtin.firstCells]
  · simp [Builtin.append_, run_underlying ht, sizeOf, typeInfo, hi, Builtin.lenOf, Builtin.firstCells, hnc, storeCells]

theorem run_append_rds (base : Nat) (t ty e : TypeId) (i : TypeInfo) (z : Value) (size bytes : Nat) (ht : P.underlying t = some (.slice e)) (hi : P.info? e = some i) (hz : i.zero = some z)
    (hsize : i.size = size) (hby : i.bytes = bytes) (hzs : z.cells.size = size) (hsz : 0 < size)
    (v : Value) (n : Nat) (xs : List Value) (hown : w.ownsRow base e size v n xs)
    (B : Nat) (A : Option Addr) (m c : Nat) (news : List Value) (hm : news.length = m * size) (hr : Rd w B A news) (h1 : ∀ u ∈ news, u.oneCell' = true)
    (h63 : n + m ≤ maxLen) (hbytes : (n + m) * bytes ≤ 140737488355328) (hbase : base ≤ w.heap.size) :
    ∃ v' w', (Builtin.append_ #[t, t] ty #[v, .slice A m c]).run P w = .ok v' w' ∧ w'.ownsRow base e size v' (n + m) (xs ++ news) ∧ w.grownBy w' v.ownBlock := by
  cases A with
  | none =>
    have hn : news = [] := by
      rcases hr with h | ⟨_, h, _⟩
      · exact h
      · cases h
    subst hn
    obtain rfl : m = 0 := by
      rcases Nat.eq_zero_or_pos m with h | h
      · exact h
      · have := Nat.mul_pos h hsz
        simp at hm
        omega
    exact ⟨v, w, run_append_nothings base t ty e i size ht hi v n c xs hown, by simpa using hown, World.grownBy.refl w _⟩
  | some ad =>
    have hc : ∀ j u, news[j]? = some u → w.cell? (ad.add j) = some u := by
      intro j u hu
      rcases hr with h | ⟨ad', h, _, hc⟩
      · subst h; simp at hu
      · injection h with h; subst h; exact hc j u hu
    obtain ⟨v', w', hrun, h2, h3, _⟩ := run_append_own (P := P) w base t ty e i z size bytes ht hi hz hsize hby hzs hsz v n xs hown ad m c news hm hc h1 h63 hbytes hbase
    exact ⟨v', w', hrun, h2, h3⟩

theorem wp_append_rds {o : Oper} {a : Act} {K : Act → World → Prop} {Q : Exit → Act → World → Prop} (s x : Operand) (t : TypeId)
    (ho : o.op = .call { callee := .builtin .append, args := #[s, x], argTypes := #[t, t] })
    (base : Nat) (e : TypeId) (i : TypeInfo) (z : Value) (size bytes : Nat) (ht : P.underlying t = some (.slice e)) (hi : P.info? e = some i) (hz : i.zero = some z)
    (hsize : i.size = size) (hby : i.bytes = bytes) (hzs : z.cells.size = size) (hsz : 0 < size)
    (v : Value) (n : Nat) (xs : List Value) (hs : a.eval s = v) (hown : w.ownsRow base e size v n xs)
    (B : Nat) (A : Option Addr) (m c : Nat) (news : List Value) (hx : a.eval x = .slice A m c) (hm : news.length = m * size) (hr : Rd w B A news) (h1 : ∀ u ∈ news, u.oneCell' = true)
    (h63 : n + m ≤ maxLen) (hbytes : (n + m) * bytes ≤ 140737488355328) (hbase : base ≤ w.heap.size)
    (h : ∀ v' w', w'.ownsRow base e size v' (n + m) (xs ++ news) → w.grownBy w' v.ownBlock → K (a.put o.dst v') w') : o.wp P a w K Q := by
  obtain ⟨v', w', hrun, h2, h3⟩ := run_append_rds (P := P) base t o.type e i z size bytes ht hi hz hsize hby hzs hsz v n xs hown B A m c news hm hr h1 h63 hbytes hbase
  unfold Oper.wp execOp
  simp only [ho, resolve, invoke, builtin, Sem.run_bind, Sem.run_pure, Result.andThen_ok, List.map_toArray, List.map_cons, List.map_nil, hs, hx, hrun]
  exact h v' w' h2 h3

theorem wpList_append_rds {ops : Array Oper} {rest : List Oper} {o : Oper} {a : Act} {Q : Exit → Act → World → Prop} (hw : Region.wanted o (yielded ops a.tmps) = true) (s x : Operand) (t : TypeId)
    (ho : o.op = .call { callee := .builtin .append, args := #[s, x], argTypes := #[t, t] })
    (base : Nat) (e : TypeId) (i : TypeInfo) (z : Value) (size bytes : Nat) (ht : P.underlying t = some (.slice e)) (hi : P.info? e = some i) (hz : i.zero = some z)
    (hsize : i.size = size) (hby : i.bytes = bytes) (hzs : z.cells.size = size) (hsz : 0 < size)
    (v : Value) (n : Nat) (xs : List Value) (hs : a.eval s = v) (hown : w.ownsRow base e size v n xs)
    (B : Nat) (A : Option Addr) (m c : Nat) (news : List Value) (hx : a.eval x = .slice A m c) (hm : news.length = m * size) (hr : Rd w B A news) (h1 : ∀ u ∈ news, u.oneCell' = true)
    (h63 : n + m ≤ maxLen) (hbytes : (n + m) * bytes ≤ 140737488355328) (hbase : base ≤ w.heap.size)
    (h : ∀ v' w', w'.ownsRow base e size v' (n + m) (xs ++ news) → w.grownBy w' v.ownBlock → wpList P ops Q rest (a.put o.dst v') w') : wpList P ops Q (o :: rest) a w :=
  wpList_step fun _ hK => by
    rw [if_pos hw]
    exact wp_append_rds s x t ho base e i z size bytes ht hi hz hsize hby hzs hsz v n xs hs hown B A m c news hx hm hr h1 h63 hbytes hbase fun v' w' h2 h3 => hK _ _ (h v' w' h2 h3)
end

/-- a row of wide elements: its form, and what keeps it -/
theorem own_form_s {w : World} {base n size : Nat} {e : TypeId} {v : Value} {xs : List Value} (h : w.ownsRow base e size v n xs) : ∃ A c, v = .slice A n c ∧ n ≤ c ∧ c ≤ maxLen := by
  rcases h.2 with ⟨rfl, rfl⟩ | ⟨g, cap, cur, rfl, _, _, h1, h2, _⟩
  · exact ⟨_, _, rfl, Nat.le_refl _, by simp [maxLen]⟩
  · exact ⟨_, _, rfl, h1, h2⟩
theorem own_below_s {w w' : World} {base n B size : Nat} {e : TypeId} {v : Value} {xs : List Value} (h : w.ownsRow base e size v n xs) (hb : Below B w w') (hB : w.heap.size ≤ B) : w'.ownsRow base e size v n xs := by
  refine ⟨h.1, ?_⟩
  rcases h.2 with h2 | ⟨g, cap, cur, hv, hg, hh, r⟩
  · exact .inl h2
  · have hlt := (Array.getElem?_eq_some_iff.1 hh).1
    exact .inr ⟨g, cap, cur, hv, hg, (hb.block g (by omega)).trans hh, r⟩
theorem own_base_s {w : World} {base base' n size : Nat} {e : TypeId} {v : Value} {xs : List Value} (h : w.ownsRow base e size v n xs) (hB : base' ≤ base) : w.ownsRow base' e size v n xs := by
  refine ⟨h.1, ?_⟩
  rcases h.2 with h2 | ⟨g, cap, cur, hv, hg, r⟩
  · exact .inl h2
  · exact .inr ⟨g, cap, cur, hv, by omega, r⟩
theorem below_own_s {w w' : World} {base n size : Nat} {e : TypeId} {v : Value} {xs : List Value} (h : w.ownsRow base e size v n xs) (hg : w.grownBy w' v.ownBlock) (hb : base ≤ w.heap.size) : Below base w w' :=
  (Below.refl _ _).grown hg hb (fun k hk => (h.lt k hk).1)
/-- rows of other types lie in other blocks -/
theorem own_apart {w w' : World} {base base' n n' size size' : Nat} {e e' : TypeId} {v v' : Value} {xs xs' : List Value} (h : w.ownsRow base e size v n xs) (h' : w.ownsRow base' e' size' v' n' xs') (he : e ≠ e') (hg : w.grownBy w' v'.ownBlock) : w'.ownsRow base e size v n xs := by
  refine h.kept hg ?_
  rcases h.2 with ⟨rfl, _⟩ | ⟨g, cap, cur, rfl, _, hh, _⟩
  · exact .inl rfl
  · refine .inr ?_
    rcases h'.2 with ⟨rfl, _⟩ | ⟨g', cap', cur', rfl, _, hh', _⟩
    · simp [Value.ownBlock]
    · simp only [Value.ownBlock, ne_eq, Option.some.injEq]
      rintro rfl
      rw [hh] at hh'
      simp only [Option.some.injEq, Obj.cells.injEq] at hh'
      exact he hh'.2.1
theorem own_setCell_s {w : World} {base : Nat} {e : TypeId} {size : Nat} {v : Value} {n : Nat} {xs : List Value} (h : w.ownsRow base e size v n xs) {a : Addr} (ha : a.block < base) (u : Value) : (w.setCell a u).ownsRow base e size v n xs := ownsRow_setCell_below h ha u
/-- a new row of wide elements -/
theorem own_new_s (w : World) (base size : Nat) (e : TypeId) (n : Nat) (xs : List Value) (hx : xs.length = n * size) (hb : base ≤ w.heap.size) (hn : n ≤ maxLen) : (w.alloc (.cells xs.toArray e)).ownsRow base e size (.slice (some ⟨w.heap.size, 0, none⟩) n n) n xs :=
  ⟨hx, .inr ⟨w.heap.size, n, _, rfl, hb, heap_alloc_new w _, Nat.le_refl _, hn, by simpa using hx, List.take_of_length_le (by simp [hx])⟩⟩
end

/- Rows of tokens as they lie in memory: of whatever package's token type. -/
section
open Go.RowKit
set_option maxRecDepth 100000

/-- a token: its Kind, its Text -/
structure Tk where
  k : Int
  t : ByteArray
deriving DecidableEq
instance : Inhabited Tk := ⟨⟨0, ⟨#[]⟩⟩⟩
def Tk.cells (t : Tk) : List Value := [.int .i64 t.k, .string t.t]
def tkC (ts : List Tk) : List Value := ts.flatMap Tk.cells
def Tk.says (t : Tk) : Int × List UInt8 := (t.k, t.t.data.toList)
def saysT (ts : List Tk) : List (Int × List UInt8) := ts.map Tk.says
theorem Tk.says_inj {a b : Tk} (h : a.says = b.says) : a = b := by
  cases a; cases b
  simp only [Tk.says, Prod.mk.injEq] at h
  rw [h.1, text_ext h.2]
theorem saysT_inj : ∀ {a b : List Tk}, saysT a = saysT b → a = b
  | [], [], _ => rfl
  | [], _ :: _, h => by simp [saysT] at h
  | _ :: _, [], h => by simp [saysT] at h
  | x :: a, y :: b, h => by
    simp only [saysT, List.map_cons, List.cons.injEq] at h
    rw [Tk.says_inj h.1, saysT_inj h.2]
theorem saysT_append (a b : List Tk) : saysT (a ++ b) = saysT a ++ saysT b := by simp [saysT]
theorem saysT_length (a : List Tk) : (saysT a).length = a.length := by simp [saysT]
theorem tkC_length : ∀ ts : List Tk, (tkC ts).length = ts.length * 2
  | [] => rfl
  | r :: rs => by
    have := tkC_length rs
    simp only [tkC, List.flatMap_cons, List.length_append, List.length_cons, Tk.cells, List.length_nil] at this ⊢
    omega
theorem tkC_append (a b : List Tk) : tkC (a ++ b) = tkC a ++ tkC b := by simp [tkC]
theorem tkC_at : ∀ (rs : List Tk) (j : Nat) (h : j < rs.length), (tkC rs)[j * 2]? = some (.int .i64 rs[j].k) ∧ (tkC rs)[j * 2 + 1]? = some (.string rs[j].t)
  | [], _, h => by simp at h
  | r :: rs, 0, _ => by simp [tkC, Tk.cells]
  | r :: rs, j + 1, h => by
    have := tkC_at rs j (by simpa using h)
    have e1 : (j + 1) * 2 = j * 2 + 2 := by omega
    simp only [tkC, List.flatMap_cons] at this ⊢
    rw [e1]
    simpa [Tk.cells] using this
theorem tkC_next (rs : List Tk) (k : Nat) (h : k < rs.length) : tkC (rs.take (k + 1)) = tkC (rs.take k) ++ [.int .i64 rs[k].k, .string rs[k].t] := by
  rw [List.take_succ_eq_append_getElem h, tkC_append]
  simp [tkC, Tk.cells]
theorem tkC_one (rs : List Tk) : ∀ u ∈ tkC rs, u.oneCell' = true := by
  intro u hu
  simp only [tkC, List.mem_flatMap] at hu
  obtain ⟨r, _, h⟩ := hu
  simp only [Tk.cells, List.mem_cons, List.not_mem_nil, or_false] at h
  rcases h with rfl | rfl <;> rfl
theorem Rd.of_ownT {w : World} {A : Option Addr} {xs : List Value} {base n c : Nat} {e : TypeId} (h : w.ownsRow base e 2 (.slice A n c) n xs) : Rd w w.heap.size A xs := by
  rcases h.2 with ⟨_, hn⟩ | ⟨g, cap, cur, hv, _, hg, _⟩
  · exact .inl (List.eq_nil_of_length_eq_zero (by have := h.1; omega))
  · have hA : A = some ⟨g, 0, none⟩ := by injection hv
    subst hA
    exact .inr ⟨_, rfl, (Array.getElem?_eq_some_iff.1 hg).1, h.cells (g := g) rfl⟩

/-- a row of tokens that is read -/
structure TR (w : World) (A : Option Addr) (n : Nat) (ts : List Tk) : Prop where
  len : ts.length = n
  rd : Rd w w.heap.size A (tkC ts)
theorem TR.next {w w' : World} {A : Option Addr} {n : Nat} {ts : List Tk} (h : TR w A n ts) (hb : Below w.heap.size w w') : TR w' A n ts := ⟨h.len, (h.rd.below hb (Nat.le_refl _)).more hb.size⟩
theorem TR.nil (w : World) : TR w none 0 [] := ⟨rfl, .inl rfl⟩
/-- its cells at a place -/
theorem TR.at_ {w : World} {A : Option Addr} {n : Nat} {ts : List Tk} (h : TR w A n ts) {j : Nat} (hj : j < ts.length) : ∃ ad, A = some ad ∧ ad.block < w.heap.size ∧ ∀ w', Below w.heap.size w w' → w'.cell? (ad.add (j * 2)) = some (.int .i64 ts[j].k) ∧ w'.cell? ⟨(ad.add (j * 2)).block, (ad.add (j * 2)).off + 1, none⟩ = some (.string ts[j].t) := by
  obtain ⟨ad, hA, hb, hc⟩ := h.rd.addr (by rw [tkC_length]; omega)
  refine ⟨ad, hA, hb, fun w' hw => ⟨?_, ?_⟩⟩
  · rw [hw.cell (by rw [add_block]; exact hb)]; exact hc _ _ (tkC_at ts j hj).1
  · have e1 : (⟨(ad.add (j * 2)).block, (ad.add (j * 2)).off + 1, none⟩ : Addr) = ad.add (j * 2 + 1) := by rw [← add_add]; rfl
    rw [e1, hw.cell (by rw [add_block]; exact hb)]; exact hc _ _ (tkC_at ts j hj).2

/-- a row of tokens of the call's own -/
structure OT (e : TypeId) (w : World) (base : Nat) (A : Option Addr) (n c : Nat) (ts : List Tk) : Prop where
  own : w.ownsRow base e 2 (.slice A n c) n (tkC ts)
  cap : n ≤ c
section
variable {e : TypeId} {w : World} {base : Nat} {A : Option Addr} {n c : Nat} {ts : List Tk}
theorem OT.len (h : OT e w base A n c ts) : ts.length = n := by
  have := h.own.1
  rw [tkC_length] at this
  omega
theorem OT.tr (h : OT e w base A n c ts) : TR w A n ts := ⟨h.len, Rd.of_ownT h.own⟩
theorem OT.next {w' : World} (h : OT e w base A n c ts) (hb : Below w.heap.size w w') : OT e w' base A n c ts := ⟨own_below_s h.own hb (Nat.le_refl _), h.cap⟩
theorem OT.nil (e : TypeId) (w : World) (base : Nat) : OT e w base none 0 0 [] := ⟨World.ownsRow_nil _ _ _ _, Nat.le_refl _⟩
theorem OT.push {v : Value} {k : Int} {r : ByteArray} (h : w.ownsRow base e 2 v (n + 1) (tkC ts ++ [.int .i64 k, .string r])) : ∃ A c, v = .slice A (n + 1) c ∧ OT e w base A (n + 1) c (ts ++ [⟨k, r⟩]) := by
  obtain ⟨A, c, rfl, h1, _⟩ := own_form_s h
  exact ⟨A, c, rfl, by rw [tkC_append]; exact h, h1⟩
end
theorem tkinfo : (Tryz.prog.info? 35).map (fun i => (i.zero, i.size, i.bytes)) = some (some (.agg #[.int .i64 0, .string ⟨#[]⟩]), 2, 24) := by kernel_rfl
theorem tkinfoR : (Tryz.prog.info? 33).map (fun i => (i.zero, i.size, i.bytes)) = some (some (.agg #[.int .i64 0, .string ⟨#[]⟩]), 2, 24) := by kernel_rfl
end

/- What tokens are, as a statement: plain functions of lists of tokens (no function of the program is named here). -/
section
abbrev Tok := Int × List UInt8

def stopF (t : Tok) : Bool := decide (t.1 = 6) && decide (t.2 = [59])
def isHintF (t : Tok) : Bool := decide (t.1 = 5)
def wordF (ws : List (List UInt8)) (t : Tok) : Bool := decide (t.1 = 1) && decide (t.2 ∈ ws)
def hasF (l : List Tok) (ws : List (List UInt8)) : Bool := l.any (wordF ws)
def headF (l : List Tok) (ws : List (List UInt8)) : Bool := (l.head?.map (wordF ws)).getD false
def bareF (l : List Tok) (ws : List (List UInt8)) : Bool := decide (l.length = 0) || (decide (l.length = 1) && headF l ws)

/- the words -/
def wSHOW : List UInt8 := [83, 72, 79, 87]
def wDESCRIBE : List UInt8 := [68, 69, 83, 67, 82, 73, 66, 69]
def wDESC : List UInt8 := [68, 69, 83, 67]
def wEXPLAIN : List UInt8 := [69, 88, 80, 76, 65, 73, 78]
def wINSERT : List UInt8 := [73, 78, 83, 69, 82, 84]
def wUPDATE : List UInt8 := [85, 80, 68, 65, 84, 69]
def wDELETE : List UInt8 := [68, 69, 76, 69, 84, 69]
def wREPLACE : List UInt8 := [82, 69, 80, 76, 65, 67, 69]
def wCREATE : List UInt8 := [67, 82, 69, 65, 84, 69]
def wDROP : List UInt8 := [68, 82, 79, 80]
def wALTER : List UInt8 := [65, 76, 84, 69, 82]
def wTRUNCATE : List UInt8 := [84, 82, 85, 78, 67, 65, 84, 69]
def wGRANT : List UInt8 := [71, 82, 65, 78, 84]
def wREVOKE : List UInt8 := [82, 69, 86, 79, 75, 69]
def wCALL : List UInt8 := [67, 65, 76, 76]
def wLOCK : List UInt8 := [76, 79, 67, 75]
def wSELECT : List UInt8 := [83, 69, 76, 69, 67, 84]
def wVALUES : List UInt8 := [86, 65, 76, 85, 69, 83]
def wTABLE : List UInt8 := [84, 65, 66, 76, 69]
def wWITH : List UInt8 := [87, 73, 84, 72]
def wBEGIN : List UInt8 := [66, 69, 71, 73, 78]
def wSTART : List UInt8 := [83, 84, 65, 82, 84]
def wCOMMIT : List UInt8 := [67, 79, 77, 77, 73, 84]
def wROLLBACK : List UInt8 := [82, 79, 76, 76, 66, 65, 67, 75]
def wSET : List UInt8 := [83, 69, 84]
def wINTO : List UInt8 := [73, 78, 84, 79]
def wSHARE : List UInt8 := [83, 72, 65, 82, 69]
def wWORK : List UInt8 := [87, 79, 82, 75]
def wTRANSACTION : List UInt8 := [84, 82, 65, 78, 83, 65, 67, 84, 73, 79, 78]
def wANALYZE : List UInt8 := [65, 78, 65, 76, 89, 90, 69]
def wANALYSE : List UInt8 := [65, 78, 65, 76, 89, 83, 69]
def wAUTOCOMMIT : List UInt8 := [65, 85, 84, 79, 67, 79, 77, 77, 73, 84]
def wGLOBAL : List UInt8 := [71, 76, 79, 66, 65, 76]
def wPERSIST : List UInt8 := [80, 69, 82, 83, 73, 83, 84]

/-- the words that begin statements, and their families -/
def famL : List (List UInt8 × Int) :=
  [(wSHOW, 1), (wDESCRIBE, 1), (wDESC, 1), (wEXPLAIN, 2), (wINSERT, 3), (wUPDATE, 3), (wDELETE, 3), (wREPLACE, 3), (wCREATE, 3), (wDROP, 3), (wALTER, 3), (wTRUNCATE, 3), (wGRANT, 3), (wREVOKE, 3), (wCALL, 3), (wLOCK, 3),
   (wSELECT, 4), (wVALUES, 4), (wTABLE, 4), (wWITH, 5), (wBEGIN, 6), (wSTART, 7), (wCOMMIT, 8), (wROLLBACK, 9), (wSET, 10)]
def famF (x : List UInt8) : Int := ((famL.reverse.find? fun p => decide (p.1 = x)).map Prod.snd).getD 0

def six : List (List UInt8) := [wINSERT, wUPDATE, wDELETE, wREPLACE, wINTO, wSHARE]
def selF (rest : List Tok) (reads : Bool) : Int := if hasF rest six then 2 else if reads then 1 else 7
def ifF (c : Int) (b : Bool) : Int := if b then c else 7

/-- an EXPLAIN's class, of what is behind it, and of that's class -/
def exF (rest : List Tok) (c : Int) : Int := if headF rest [wANALYZE, wANALYSE] then (if c = 2 then 2 else if c = 7 then 7 else 1) else 1
/-- the class by the family of the first word -/
def famB (v : Int) (rest : List Tok) (ex : Int) : Int :=
  if v = 1 then 1
  else if v = 2 then ex
  else if v = 3 then 2
  else if v = 4 then selF rest true
  else if v = 5 then selF rest (hasF rest [wSELECT])
  else if v = 6 then ifF 3 (bareF rest [wWORK, wTRANSACTION])
  else if v = 7 then ifF 3 (headF rest [wTRANSACTION])
  else if v = 8 then ifF 4 (bareF rest [wWORK])
  else if v = 9 then ifF 5 (bareF rest [wWORK])
  else if v = 10 then ifF 6 (!headF rest [wAUTOCOMMIT, wGLOBAL, wPERSIST])
  else 7
/-- the class of tokens -/
def classF : List Tok → Int
  | [] => 7
  | t :: rest => if decide (t.1 ≠ 1) || (t :: rest).any stopF then 7 else famB (famF t.2) rest (exF rest (classF (rest.drop 1)))
termination_by l => l.length
decreasing_by
  simp only [List.length_drop, List.length_cons]
  omega
theorem classF_nil : classF [] = 7 := by rw [classF]
theorem classF_no {t : Tok} {r : List Tok} (h : t.1 ≠ 1 ∨ (t :: r).any stopF = true) : classF (t :: r) = 7 := by
  rw [classF]
  have : (decide (t.1 ≠ 1) || (t :: r).any stopF) = true := by
    rcases h with h | h
    · rw [decide_eq_true h]; rfl
    · rw [h]; simp
  rw [this, if_pos rfl]
theorem classF_word {t : Tok} {r : List Tok} (h : t.1 = 1) (hs : (t :: r).any stopF = false) : classF (t :: r) = famB (famF t.2) r (exF r (classF (r.drop 1))) := by
  rw [classF]
  have : (decide (t.1 ≠ 1) || (t :: r).any stopF) = false := by
    rw [hs, decide_eq_false (by simpa using h)]; rfl
  rw [this]
  rfl

/-- without the signs that end it -/
def endF (l : List Tok) : List Tok := (l.reverse.dropWhile stopF).reverse
theorem endF_nil : endF [] = [] := rfl
theorem endF_stop {l : List Tok} {t : Tok} (h : stopF t = true) : endF (l ++ [t]) = endF l := by simp [endF, h]
theorem endF_last {l : List Tok} {t : Tok} (h : stopF t = false) : endF (l ++ [t]) = l ++ [t] := by simp [endF, h]
def bodyF (l : List Tok) : List Tok := endF (l.filter fun t => !isHintF t)
/-- where it asks to go -/
def asksF : List Tok → Int
  | [] => 0
  | t :: r => if t.1 = 5 ∧ t.2 = [112, 114, 105, 109, 97, 114, 121] then 1 else if t.1 = 5 ∧ t.2 = [114, 101, 112, 108, 105, 99, 97] then 2 else asksF r
end

/- What the small functions of package class do: contracts. -/
section
open Go.RowKit
set_option maxRecDepth 100000

theorem toList_is (s : ByteArray) (l : List UInt8) : (s.toList == l) = decide (s.data.toList = l) := by
  rw [ByteArray.toList_eq, Bool.eq_iff_iff]
  simp
/-- texts as bytes -/
def txs (ws : List ByteArray) : List (List UInt8) := ws.map fun x => x.data.toList
theorem mem_txs {s : ByteArray} {ws : List ByteArray} : s.data.toList ∈ txs ws ↔ s ∈ ws := by
  unfold txs
  rw [List.mem_map]
  constructor
  · rintro ⟨x, hx, e⟩
    rw [← text_ext e]
    exact hx
  · exact fun h => ⟨s, h, rfl⟩

theorem isStop_ok (t : Tk) (w : World) : Calls Tryz.prog 47 #[.agg #[.int .i64 t.k, .string t.t]] w fun e w' => e = .returned (.bool (stopF t.says)) ∧ Below w.heap.size w w' := by
  obtain ⟨k, s⟩ := t
  have kw := kp_new w (.cells #[.int .i64 k, .string s] 35)
  have hF : stopF (Tk.says ⟨k, s⟩) = (decide (k = 6) && (s.toList == [59])) := by rw [toList_is]; rfl
  have HF := Lib.hid hF
  clear hF
  by_cases h : k = 6
  · subst h
    go_enter Tryz.func47, Tryz.ntmps47
    go_wp2_with fail
    go_ret
    exact ⟨ret_bool (by rw [HF.out]; rfl), kw⟩
  · have HD := Lib.hid (decide_eq_false h)
    go_enter Tryz.func47, Tryz.ntmps47
    go_wp2_with fail
    go_ret
    exact ⟨ret_bool (by rw [HF.out, HD.out]; rfl), kw⟩

theorem isHint_ok (t : Tk) (w : World) : Calls Tryz.prog 55 #[.agg #[.int .i64 t.k, .string t.t]] w fun e w' => e = .returned (.bool (isHintF t.says)) ∧ Below w.heap.size w w' := by
  obtain ⟨k, s⟩ := t
  have kw := kp_new w (.cells #[.int .i64 k, .string s] 35)
  go_enter Tryz.func55, Tryz.ntmps55
  go_wp2_with fail
  go_ret
  exact ⟨ret_bool rfl, kw⟩

theorem rsign5_ok (t : Tk) (w : World) : Calls Tryz.prog 27 #[.agg #[.int .i64 t.k, .string t.t]] w fun e w' => e = .returned (.bool (stopF t.says)) ∧ Below w.heap.size w w' := by
  obtain ⟨k, s⟩ := t
  have kw := kp_new w (.cells #[.int .i64 k, .string s] 33)
  have hF : stopF (Tk.says ⟨k, s⟩) = (decide (k = 6) && (s.toList == [59])) := by rw [toList_is]; rfl
  have HF := Lib.hid hF
  clear hF
  by_cases h : k = 6
  · subst h
    go_enter Tryz.func27, Tryz.ntmps27
    go_wp2_with fail
    go_ret
    exact ⟨ret_bool (by rw [HF.out]; rfl), kw⟩
  · have HD := Lib.hid (decide_eq_false h)
    go_enter Tryz.func27, Tryz.ntmps27
    go_wp2_with fail
    go_ret
    exact ⟨ret_bool (by rw [HF.out, HD.out]; rfl), kw⟩

/-- a row of texts that is read -/
structure SR (w : World) (A : Option Addr) (n : Nat) (ws : List ByteArray) : Prop where
  len : ws.length = n
  rd : Rd w w.heap.size A (ws.map .string)
theorem SR.next {w w' : World} {A : Option Addr} {n : Nat} {ws : List ByteArray} (h : SR w A n ws) (hb : Below w.heap.size w w') : SR w' A n ws := ⟨h.len, (h.rd.below hb (Nat.le_refl _)).more hb.size⟩
theorem SR.at_ {w : World} {A : Option Addr} {n : Nat} {ws : List ByteArray} (h : SR w A n ws) {j : Nat} (hj : j < ws.length) : ∃ ad, A = some ad ∧ ad.block < w.heap.size ∧ w.cell? (ad.add j) = some (.string ws[j]) := by
  obtain ⟨ad, hA, hb, hc⟩ := h.rd.at_ (k := j) (by rw [List.length_map]; exact hj)
  exact ⟨ad, hA, hb, by simpa using hc⟩
theorem SR.new (w : World) (t : TypeId) (ws : List ByteArray) : SR (w.alloc (.cells (ws.map Value.string).toArray t)) (some ⟨w.heap.size, 0, none⟩) ws.length ws :=
  ⟨rfl, by have := Rd.new w t (ws.map Value.string); simpa using this⟩

theorem txt_ne {x y : ByteArray} (h : x ≠ y) : (x.toList == y.toList) = false := by
  rw [Bool.eq_false_iff]
  intro hh
  have h2 := eq_of_beq hh
  rw [ByteArray.toList_eq, ByteArray.toList_eq] at h2
  exact h (ByteArray.ext (Array.toList_inj.1 h2))

/-- where a text stands in a row -/
theorem indexS_ok (A : Option Addr) (n c : Nat) (ws : List ByteArray) (s : ByteArray) (w : World) (h : SR w A n ws) (hn : n ≤ 1000000) (b : Bool) (hb : Hid (decide (s.data.toList ∈ txs ws) = b)) :
    Calls Tryz.prog 116 #[.slice A n c, .string s] w fun e w' => ∃ r : Int, e = .returned (.int .i64 r) ∧ decide (0 ≤ r) = b ∧ w = w' := by
  have hlen := Lib.hid h.len
  go_enter Tryz.func116, Tryz.ntmps116
  go_wp2
  go_loop [8] (fun i => ∃ k : Nat, k ≤ n ∧ i = .int .i64 k ∧ Hid (s ∉ ws.take k)) (fun i => n - (intOf i).toNat)
  case atStart => exact ⟨0, Nat.zero_le _, rfl, Lib.hid (by simp)⟩
  case round =>
    obtain ⟨k, hk, rfl, hno⟩ := hrel
    by_cases hlt : k < n
    · have hkl : k < ws.length := by rw [hlen.out]; exact hlt
      obtain ⟨ad, rfl, _, hc⟩ := h.at_ hkl
      have hmem : ws[k] ∈ ws := List.getElem_mem hkl
      have hnx : s ≠ ws[k] → s ∉ ws.take (k + 1) := fun hne => by
        rw [List.take_succ_eq_append_getElem hkl]
        simp only [List.mem_append, List.mem_singleton]
        rintro (h1 | h1)
        · exact hno.out h1
        · exact hne h1
      generalize ws[k] = x at *
      by_cases hx : s = x
      · subst hx
        have hbt : b = true := by rw [← hb.out]; exact decide_eq_true (mem_txs.2 hmem)
        subst hbt
        clear hmem hnx
        go_wp2_with fail
        go_ret
        exact ⟨k, rfl, by simp, rfl⟩
      · have HN := Lib.hid (hnx hx)
        have ht := txt_ne hx
        clear hmem hnx hx
        go_wp2_with fail
        go_round
        case rel => exact ⟨k + 1, by omega, by go_num, HN⟩
        case measure => simp [intOf]; omega
    · obtain rfl : k = n := by omega
      have h1 := hno.out
      rw [List.take_of_length_le (by rw [hlen.out]; exact Nat.le_refl _)] at h1
      have hbf : b = false := by rw [← hb.out]; exact decide_eq_false fun h2 => h1 (mem_txs.1 h2)
      subst hbf
      clear h1
      go_wp2_with fail
      go_ret
      exact ⟨-1, rfl, by simp, rfl⟩
theorem containsS_ok (A : Option Addr) (n c : Nat) (ws : List ByteArray) (s : ByteArray) (w : World) (h : SR w A n ws) (hn : n ≤ 1000000) (b : Bool) (hb : Hid (decide (s.data.toList ∈ txs ws) = b)) :
    Calls Tryz.prog 98 #[.slice A n c, .string s] w fun e w' => e = .returned (.bool b) ∧ w = w' := by
  have hI := Lib.hid (indexS_ok A n c ws s w h hn b hb)
  go_enter Tryz.func98, Tryz.ntmps98
  go_wp2_with fail
  refine hI.out.mono ?_
  rintro e w1 ⟨r, rfl, hr, rfl⟩
  have HR := Lib.hid hr
  clear hr
  go_wp2_with fail
  go_ret
  exact ⟨ret_bool (by rw [← HR.out]), rfl⟩

theorem isWord_ok (t : Tk) (A : Option Addr) (n c : Nat) (ws : List ByteArray) (w : World) (h : SR w A n ws) (hn : n ≤ 1000000) :
    Calls Tryz.prog 87 #[.agg #[.int .i64 t.k, .string t.t], .slice A n c] w fun e w' => e = .returned (.bool (wordF (txs ws) t.says)) ∧ Below w.heap.size w w' := by
  obtain ⟨k, s⟩ := t
  have kw := kp_new w (.cells #[.int .i64 k, .string s] 35)
  have hF : wordF (txs ws) (Tk.says ⟨k, s⟩) = (decide (k = 1) && decide (s.data.toList ∈ txs ws)) := rfl
  have hC := Lib.hid (containsS_ok A n c ws s _ (h.next kw) hn _ (Lib.hid rfl))
  generalize decide (s.data.toList ∈ txs ws) = b at *
  have HF := Lib.hid hF
  clear hF
  by_cases hk : k = 1
  · subst hk
    go_enter Tryz.func87, Tryz.ntmps87
    go_wp2_with fail
    refine hC.out.mono ?_
    rintro e w1 ⟨rfl, rfl⟩
    go_wp2_with fail
    go_ret
    exact ⟨ret_bool (by rw [HF.out]; rfl), kw⟩
  · have HD := Lib.hid (decide_eq_false hk)
    go_enter Tryz.func87, Tryz.ntmps87
    go_wp2_with fail
    go_ret
    exact ⟨ret_bool (by rw [HF.out, HD.out]; rfl), kw⟩
end

/- Rows of tokens and words of package class: contracts. -/
section
open Go.RowKit
set_option maxRecDepth 100000

/-- the first one's cells -/
theorem TR.head {w : World} {A : Option Addr} {n : Nat} {t : Tk} {r : List Tk} (h : TR w A n (t :: r)) : ∃ ad, A = some ad ∧ ad.block < w.heap.size ∧ ∀ w', Below w.heap.size w w' → w'.cell? ad = some (.int .i64 t.k) ∧ w'.cell? ⟨ad.block, ad.off + 1, none⟩ = some (.string t.t) := by
  obtain ⟨ad, hA, hb, hc⟩ := h.at_ (j := 0) (by simp)
  exact ⟨ad, hA, hb, fun w' hw => by simpa [Addr.add] using hc w' hw⟩

/-- a token is a word, or none, at a place of a row -/
theorem hasWord_ok (A : Option Addr) (n c : Nat) (ts : List Tk) (B : Option Addr) (m d : Nat) (ws : List ByteArray) (w : World) (h : TR w A n ts) (hs : SR w B m ws) (hn : n ≤ 1000000) (hm : m ≤ 1000000) :
    Calls Tryz.prog 50 #[.slice A n c, .slice B m d] w fun e w' => e = .returned (.bool (hasF (saysT ts) (txs ws))) ∧ Below w.heap.size w w' := by
  have hlen := Lib.hid h.len
  go_enter Tryz.func50, Tryz.ntmps50
  go_wp2
  go_loopw [9] (fun i wr => ∃ k : Nat, k ≤ n ∧ i = .int .i64 k ∧ Hid (hasF (saysT ts) (txs ws) = hasF (saysT (ts.drop k)) (txs ws)) ∧ Below w.heap.size w wr) (fun i _ => n - (intOf i).toNat)
  case atStart => exact ⟨0, Nat.zero_le _, rfl, Lib.hid rfl, Below.refl _ _⟩
  case round =>
    obtain ⟨k, hk, rfl, hx, kw⟩ := hrel
    by_cases hlt : k < n
    · have hkl : k < ts.length := by rw [hlen.out]; exact hlt
      obtain ⟨ad, rfl, _, hc⟩ := h.at_ hkl
      obtain ⟨c0, c1⟩ := hc _ kw
      have hst : hasF (saysT (ts.drop k)) (txs ws) = (wordF (txs ws) ts[k].says || hasF (saysT (ts.drop (k + 1))) (txs ws)) := by
        rw [List.drop_eq_getElem_cons hkl]
        rfl
      rw [hst] at hx
      have kw2 := kp_trans kw (kp_new wr (.cells #[.int .i64 ts[k].k, .string ts[k].t] 35))
      have hC := Lib.hid (isWord_ok ts[k] B m d ws _ (hs.next kw2) hm)
      clear hc hst
      generalize wordF (txs ws) ts[k].says = b at *
      generalize ts[k].k = x at *
      generalize ts[k].t = s at *
      cases b
      · have hx2 : Hid (hasF (saysT ts) (txs ws) = hasF (saysT (ts.drop (k + 1))) (txs ws)) := Lib.hid (by rw [hx.out]; rfl)
        clear hx
        go_wp2_with fail
        refine hC.out.mono ?_
        rintro e w1 ⟨rfl, k1⟩
        go_wp2_with fail
        go_roundw
        case rel => exact ⟨k + 1, by omega, by go_num, hx2, kp_trans kw2 k1⟩
        case measure => simp [intOf]; omega
      · have hF : hasF (saysT ts) (txs ws) = true := by rw [hx.out]; rfl
        have HF := Lib.hid hF
        clear hF hx
        go_wp2_with fail
        refine hC.out.mono ?_
        rintro e w1 ⟨rfl, k1⟩
        go_wp2_with fail
        go_ret
        exact ⟨by rw [HF.out]; rfl, kp_trans kw2 k1⟩
    · obtain rfl : k = n := by omega
      have hF : hasF (saysT ts) (txs ws) = false := by rw [hx.out, List.drop_eq_nil_of_le (by rw [hlen.out]; exact Nat.le_refl _)]; rfl
      have HF := Lib.hid hF
      clear hF hx
      go_wp2_with fail
      go_ret
      exact ⟨by rw [HF.out]; rfl, kw⟩

theorem beginsWith_ok (A : Option Addr) (n c : Nat) (ts : List Tk) (B : Option Addr) (m d : Nat) (ws : List ByteArray) (w : World) (h : TR w A n ts) (hs : SR w B m ws) (hm : m ≤ 1000000) :
    Calls Tryz.prog 53 #[.slice A n c, .slice B m d] w fun e w' => e = .returned (.bool (headF (saysT ts) (txs ws))) ∧ Below w.heap.size w w' := by
  cases ts with
  | nil =>
    obtain rfl : 0 = n := h.len
    go_enter Tryz.func53, Tryz.ntmps53
    go_wp2_with fail
    go_ret
    exact ⟨rfl, Below.refl _ _⟩
  | cons t r =>
    have hn : 0 < n := by have := h.len; simp at this; omega
    obtain ⟨ad, rfl, _, hc⟩ := h.head
    obtain ⟨c0, c1⟩ := hc _ (Below.refl _ _)
    have hC := Lib.hid (isWord_ok t B m d ws w hs hm)
    have hF : headF (saysT (t :: r)) (txs ws) = wordF (txs ws) t.says := rfl
    rw [hF]
    clear hc hF
    generalize wordF (txs ws) t.says = b at *
    obtain ⟨k, s⟩ := t
    go_enter Tryz.func53, Tryz.ntmps53
    go_wp2_with fail
    refine hC.out.mono ?_
    rintro e w1 ⟨rfl, k1⟩
    go_wp2_with fail
    go_ret
    exact ⟨rfl, k1⟩

theorem isBare_ok (A : Option Addr) (n c : Nat) (ts : List Tk) (B : Option Addr) (m d : Nat) (ws : List ByteArray) (w : World) (h : TR w A n ts) (hs : SR w B m ws) (hm : m ≤ 1000000) (hn : n ≤ 1000000) :
    Calls Tryz.prog 52 #[.slice A n c, .slice B m d] w fun e w' => e = .returned (.bool (bareF (saysT ts) (txs ws))) ∧ Below w.heap.size w w' := by
  cases ts with
  | nil =>
    obtain rfl : 0 = n := h.len
    go_enter Tryz.func52, Tryz.ntmps52
    go_wp2_with fail
    go_ret
    exact ⟨rfl, Below.refl _ _⟩
  | cons t r =>
    have hl : r.length + 1 = n := by have := h.len; simpa using this
    by_cases h1 : n = 1
    · subst h1
      obtain rfl : r = [] := List.eq_nil_of_length_eq_zero (by omega)
      obtain ⟨ad, rfl, _, hc⟩ := h.head
      obtain ⟨c0, c1⟩ := hc _ (Below.refl _ _)
      have hC := Lib.hid (isWord_ok t B m d ws w hs hm)
      have hF : bareF (saysT [t]) (txs ws) = wordF (txs ws) t.says := rfl
      rw [hF]
      clear hc hF
      generalize wordF (txs ws) t.says = b at *
      obtain ⟨k, s⟩ := t
      go_enter Tryz.func52, Tryz.ntmps52
      go_wp2_with fail
      refine hC.out.mono ?_
      rintro e w1 ⟨rfl, k1⟩
      go_wp2_with fail
      go_ret
      exact ⟨rfl, k1⟩
    · have hF : bareF (saysT (t :: r)) (txs ws) = false := by
        unfold bareF
        rw [saysT_length, List.length_cons, hl, decide_eq_false h1, decide_eq_false (by omega)]
        rfl
      have h0 : ¬ n = 0 := by omega
      rw [hF]
      clear hF hl
      go_enter Tryz.func52, Tryz.ntmps52
      go_wp2_with fail
      go_ret
      exact ⟨ret_bool (by simpa using h0), Below.refl _ _⟩

theorem classIf_ok (c : Int) (b : Bool) (w : World) : Calls Tryz.prog 51 #[.int .i64 c, .bool b] w fun e w' => e = .returned (.int .i64 (ifF c b)) ∧ w = w' := by
  cases b
  all_goals
    go_enter Tryz.func51, Tryz.ntmps51
    go_wp2_with fail
    go_ret
    exact ⟨rfl, rfl⟩
end

/- selected, withoutEnd of package class: contracts. -/
section
open Go.RowKit
set_option maxRecDepth 100000

theorem selected_ok (A : Option Addr) (n c : Nat) (ts : List Tk) (b : Bool) (w : World) (h : TR w A n ts) (hn : n ≤ 1000000) :
    Calls Tryz.prog 49 #[.slice A n c, .bool b] w fun e w' => e = .returned (.int .i64 (selF (saysT ts) b)) ∧ Below w.heap.size w w' := by
  have kw := kp_new w (.cells #[.string ⟨#[73, 78, 83, 69, 82, 84]⟩, .string ⟨#[85, 80, 68, 65, 84, 69]⟩, .string ⟨#[68, 69, 76, 69, 84, 69]⟩, .string ⟨#[82, 69, 80, 76, 65, 67, 69]⟩, .string ⟨#[73, 78, 84, 79]⟩, .string ⟨#[83, 72, 65, 82, 69]⟩] 9)
  have hS := SR.new w 9 [⟨#[73, 78, 83, 69, 82, 84]⟩, ⟨#[85, 80, 68, 65, 84, 69]⟩, ⟨#[68, 69, 76, 69, 84, 69]⟩, ⟨#[82, 69, 80, 76, 65, 67, 69]⟩, ⟨#[73, 78, 84, 79]⟩, ⟨#[83, 72, 65, 82, 69]⟩]
  have hC := Lib.hid (hasWord_ok A n c ts _ 6 6 _ _ (h.next kw) hS hn (by decide))
  have hF : selF (saysT ts) b = if hasF (saysT ts) six then 2 else ifF 1 b := rfl
  have hE : txs [⟨#[73, 78, 83, 69, 82, 84]⟩, ⟨#[85, 80, 68, 65, 84, 69]⟩, ⟨#[68, 69, 76, 69, 84, 69]⟩, ⟨#[82, 69, 80, 76, 65, 67, 69]⟩, ⟨#[73, 78, 84, 79]⟩, ⟨#[83, 72, 65, 82, 69]⟩] = six := rfl
  rw [hE] at hC
  rw [hF]
  clear hS hF hE
  generalize hasF (saysT ts) six = x at *
  cases x
  · go_enter Tryz.func49, Tryz.ntmps49
    go_wp2_with fail
    refine hC.out.mono ?_
    rintro e w1 ⟨rfl, k1⟩
    go_wp2_with fail
    refine (classIf_ok 1 b w1).mono ?_
    rintro e w2 ⟨rfl, rfl⟩
    go_wp2_with fail
    go_ret
    exact ⟨rfl, kp_trans kw k1⟩
  · go_enter Tryz.func49, Tryz.ntmps49
    go_wp2_with fail
    refine hC.out.mono ?_
    rintro e w1 ⟨rfl, k1⟩
    go_wp2_with fail
    go_ret
    exact ⟨rfl, kp_trans kw k1⟩

theorem TR.front {w : World} {A : Option Addr} {n : Nat} {ts : List Tk} (h : TR w A n ts) {k : Nat} (hk : k ≤ n) : TR w A k (ts.take k) :=
  ⟨by rw [List.length_take, h.len]; omega, by
    have := h.rd.front (k * 2)
    have e : (tkC ts).take (k * 2) = tkC (ts.take k) := by
      have h1 : tkC ts = tkC (ts.take k) ++ tkC (ts.drop k) := by rw [← tkC_append, List.take_append_drop]
      rw [h1, List.take_append_of_le_length (by rw [tkC_length, List.length_take, h.len]; omega), List.take_of_length_le (by rw [tkC_length, List.length_take]; omega)]
    rwa [e] at this⟩

set_option maxHeartbeats 400000 in
theorem withoutEnd_ok (A : Option Addr) (n c : Nat) (ts : List Tk) (w : World) (h : TR w A n ts) (hc : n ≤ c) (hn : n ≤ 1000000) :
    Calls Tryz.prog 25 #[.slice A n c] w fun e w' => ∃ k, e = .returned (.slice A k c) ∧ k ≤ n ∧ saysT (ts.take k) = endF (saysT ts) ∧ Below w.heap.size w w' := by
  have hlen := Lib.hid h.len
  go_enter Tryz.func25, Tryz.ntmps25
  go_wp2
  go_loopw [0] (fun v wr => ∃ k : Nat, k ≤ n ∧ v = .slice A k c ∧ Hid (endF (saysT ts) = endF (saysT (ts.take k))) ∧ Below w.heap.size w wr) (fun v _ => match v with | .slice _ k _ => k | _ => 0)
  case atStart => exact ⟨n, Nat.le_refl _, rfl, Lib.hid (by rw [List.take_of_length_le (by rw [hlen.out]; exact Nat.le_refl _)]), Below.refl _ _⟩
  case round =>
    obtain ⟨k, hk, rfl, hx, kw⟩ := hrel
    cases k with
    | zero =>
      have hF : saysT (ts.take 0) = endF (saysT ts) := by rw [hx.out]; rfl
      have HF := Lib.hid hF
      clear hF hx
      go_wp2_with fail
      go_ret
      exact ⟨0, rfl, hk, HF.out, kw⟩
    | succ j =>
      have hjl : j < ts.length := by rw [hlen.out]; omega
      obtain ⟨ad, rfl, _, hcc⟩ := h.at_ hjl
      obtain ⟨c0, c1⟩ := hcc _ kw
      have hS := Lib.hid (isStop_ok ts[j] wr)
      have hst : saysT (ts.take (j + 1)) = saysT (ts.take j) ++ [ts[j].says] := by
        rw [List.take_succ_eq_append_getElem hjl, saysT_append]
        rfl
      rw [hst] at hx
      have HST := Lib.hid hst
      have e1 : ((j + 1 : Nat) : Int) - 1 = (j : Int) := by omega
      clear hcc hst
      cases hs : stopF ts[j].says with
      | false =>
        have hF : saysT (ts.take (j + 1)) = endF (saysT ts) := by rw [hx.out, endF_last hs, HST.out]
        have HF := Lib.hid hF
        rw [hs] at hS
        clear hF hx hs
        generalize ts[j].k = x at *
        generalize ts[j].t = s at *
        go_wp2_with fail
        refine hS.out.mono ?_
        rintro e w1 ⟨rfl, k1⟩
        go_wp2_with fail
        go_ret
        exact ⟨j + 1, rfl, hk, HF.out, kp_trans kw k1⟩
      | true =>
        have hx2 : Hid (endF (saysT ts) = endF (saysT (ts.take j))) := Lib.hid (by rw [hx.out, endF_stop hs])
        rw [hs] at hS
        clear hx hs
        generalize ts[j].k = x at *
        generalize ts[j].t = s at *
        go_wp2_with fail
        refine hS.out.mono ?_
        rintro e w1 ⟨rfl, k1⟩
        go_wp2_with fail
        go_roundw
        case rel => exact ⟨j, by omega, rfl, hx2, kp_trans kw k1⟩
        case measure => simp
end

/- slices.IndexFunc, slices.ContainsFunc at a token's predicate: contracts. -/
section
open Go.RowKit
set_option maxRecDepth 100000

/-- what a function of tokens answers, and leaves -/
def TokPred (g : FuncId) (p : Tok → Bool) : Prop := ∀ (t : Tk) (w : World), Calls Tryz.prog g #[.agg #[.int .i64 t.k, .string t.t]] w fun e w' => e = .returned (.bool (p t.says)) ∧ Below w.heap.size w w'

/-- the first place at which a predicate holds, or -1 -/
def firstAt (p : Tok → Bool) (l : List Tok) : Int := match l.findIdx? p with | some k => (k : Int) | none => -1
theorem firstAt_hit {p : Tok → Bool} {l : List Tok} {k : Nat} (hk : k < l.length) (h : p l[k] = true) (hno : ∀ x ∈ l.take k, p x = false) : firstAt p l = (k : Int) := by
  have : l.findIdx? p = some k := by
    rw [List.findIdx?_eq_some_iff_getElem]
    refine ⟨hk, h, fun j hj => ?_⟩
    rw [hno _ (List.mem_iff_getElem.2 ⟨j, by rw [List.length_take]; omega, by rw [List.getElem_take]⟩)]
    simp
  unfold firstAt
  rw [this]
theorem firstAt_miss {p : Tok → Bool} {l : List Tok} (hno : ∀ x ∈ l, p x = false) : firstAt p l = -1 := by
  have : l.findIdx? p = none := by
    rw [List.findIdx?_eq_none_iff]
    exact hno
  unfold firstAt
  rw [this]
theorem firstAt_any (p : Tok → Bool) (l : List Tok) : decide (0 ≤ firstAt p l) = l.any p := by
  unfold firstAt
  cases h : l.findIdx? p with
  | none =>
    rw [List.findIdx?_eq_none_iff] at h
    have : l.any p = false := by rw [List.any_eq_false]; intro x hx; rw [h x hx]; simp
    rw [this]
    rfl
  | some k =>
    rw [List.findIdx?_eq_some_iff_getElem] at h
    obtain ⟨hk, h1, _⟩ := h
    have : l.any p = true := by rw [List.any_eq_true]; exact ⟨_, List.getElem_mem hk, h1⟩
    rw [this]
    simp

theorem says_take (ts : List Tk) (k : Nat) : (saysT ts).take k = saysT (ts.take k) := by simp [saysT, List.map_take]
theorem says_at {ts : List Tk} {k : Nat} (h : k < ts.length) : (saysT ts)[k]'(by rw [saysT_length]; exact h) = ts[k].says := by simp [saysT]

set_option maxHeartbeats 400000 in
theorem indexFunc_ok (g : FuncId) (p : Tok → Bool) (hp : TokPred g p) (eg : ∀ args w, (callFunc g args).run Tryz.prog w = .ok (.enter g args) w) (A : Option Addr) (n c : Nat) (ts : List Tk) (w : World) (h : TR w A n ts) (hn : n ≤ 1000000) :
    Calls Tryz.prog 86 #[.slice A n c, .func (.func g) #[] #[]] w fun e w' => e = .returned (.int .i64 (firstAt p (saysT ts))) ∧ Below w.heap.size w w' := by
  have hlen := Lib.hid h.len
  have hP := Lib.hid hp
  clear hp
  go_enter Tryz.func86, Tryz.ntmps86
  go_wp2
  go_loopw [8] (fun i wr => ∃ k : Nat, k ≤ n ∧ i = .int .i64 k ∧ Hid (∀ x ∈ (saysT ts).take k, p x = false) ∧ Below w.heap.size w wr) (fun i _ => n - (intOf i).toNat)
  case atStart => exact ⟨0, Nat.zero_le _, rfl, Lib.hid (by simp), Below.refl _ _⟩
  case round =>
    obtain ⟨k, hk, rfl, hno, kw⟩ := hrel
    by_cases hlt : k < n
    · have hkl : k < ts.length := by rw [hlen.out]; exact hlt
      obtain ⟨ad, rfl, _, hcc⟩ := h.at_ hkl
      obtain ⟨c0, c1⟩ := hcc _ kw
      have hC := Lib.hid (hP.out ts[k] wr)
      have hks : k < (saysT ts).length := by rw [saysT_length]; exact hkl
      have hsa := says_at hkl
      clear hcc
      cases hs : p ts[k].says with
      | false =>
        have hno2 : Hid (∀ x ∈ (saysT ts).take (k + 1), p x = false) := Lib.hid (by
          rw [List.take_succ_eq_append_getElem hks]
          intro x hx
          rcases List.mem_append.1 hx with h1 | h1
          · exact hno.out x h1
          · rw [List.mem_singleton.1 h1, hsa]; exact hs)
        rw [hs] at hC
        clear hs hsa hno
        generalize ts[k].k = x at *
        generalize ts[k].t = s at *
        go_wp2_with fail
        refine hC.out.mono ?_
        rintro e w1 ⟨rfl, k1⟩
        go_wp2_with fail
        go_roundw
        case rel => exact ⟨k + 1, by omega, by go_num, hno2, kp_trans kw k1⟩
        case measure => simp [intOf]; omega
      | true =>
        have hF := firstAt_hit hks (by rw [hsa]; exact hs) hno.out
        have HF := Lib.hid hF
        rw [hs] at hC
        clear hs hsa hno hF
        generalize ts[k].k = x at *
        generalize ts[k].t = s at *
        go_wp2_with fail
        refine hC.out.mono ?_
        rintro e w1 ⟨rfl, k1⟩
        go_wp2_with fail
        go_ret
        exact ⟨by rw [HF.out]; rfl, kp_trans kw k1⟩
    · obtain rfl : k = n := by omega
      have h1 := hno.out
      rw [List.take_of_length_le (by rw [saysT_length, hlen.out]; exact Nat.le_refl _)] at h1
      have HF := Lib.hid (firstAt_miss h1)
      clear h1
      go_wp2_with fail
      go_ret
      exact ⟨by rw [HF.out]; rfl, kw⟩

theorem containsFunc_ok (g : FuncId) (p : Tok → Bool) (hp : TokPred g p) (eg : ∀ args w, (callFunc g args).run Tryz.prog w = .ok (.enter g args) w) (A : Option Addr) (n c : Nat) (ts : List Tk) (w : World) (h : TR w A n ts) (hn : n ≤ 1000000) :
    Calls Tryz.prog 46 #[.slice A n c, .func (.func g) #[] #[]] w fun e w' => e = .returned (.bool ((saysT ts).any p)) ∧ Below w.heap.size w w' := by
  have hI := Lib.hid (indexFunc_ok g p hp eg A n c ts w h hn)
  have HF := Lib.hid (firstAt_any p (saysT ts))
  generalize firstAt p (saysT ts) = r at *
  go_enter Tryz.func46, Tryz.ntmps46
  go_wp2_with fail
  refine hI.out.mono ?_
  rintro e w1 ⟨rfl, k1⟩
  go_wp2_with fail
  go_ret
  exact ⟨ret_bool (by rw [← HF.out]), k1⟩
end

/- All but one block is as it was: a frame for calls that write one block of the caller's. -/
section
open Go.RowKit
set_option maxRecDepth 100000

/-- all but one block is as it was -/
structure Bel (b : Nat) (w w' : World) : Prop where
  os : w'.os = w.os
  tape : w'.tape = w.tape
  output : w'.output = w.output
  size : w.heap.size ≤ w'.heap.size
  block : ∀ k, k < w.heap.size → k ≠ b → w'.heap[k]? = w.heap[k]?
theorem Bel.of {w w' : World} (b : Nat) (h : Below w.heap.size w w') : Bel b w w' := ⟨h.os, h.tape, h.output, h.size, fun k hk _ => h.block k hk⟩
theorem Bel.trans {b : Nat} {a c d : World} (h : Bel b a c) (k : Bel b c d) : Bel b a d :=
  ⟨k.os.trans h.os, k.tape.trans h.tape, k.output.trans h.output, Nat.le_trans h.size k.size, fun i hi hn => (k.block i (Nat.lt_of_lt_of_le hi h.size) hn).trans (h.block i hi hn)⟩
theorem Bel.below {b B : Nat} {w w' : World} (h : Bel b w w') (hB : B ≤ b) (hw : B ≤ w.heap.size) : Below B w w' := ⟨h.os, h.tape, h.output, h.size, fun k hk => h.block k (by omega) (by omega)⟩
theorem Bel.setCell {b : Nat} {w w' : World} (h : Bel b w w') (p : Addr) (hp : p.block = b) (u : Value) : Bel b w (w'.setCell p u) :=
  ⟨h.os, h.tape, h.output, by have := h.size; simp only [World.setCell, Array.size_modify]; exact this, fun k hk hn => by rw [Below.heap_setCell _ _ _ _ (by omega)]; exact h.block k hk hn⟩
theorem Bel.drew {b : Nat} {w w' : World} (h : Bel b w w') : Bel b w w'.drew := ⟨h.os, h.tape, h.output, h.size, h.block⟩
theorem Bel.ofDrew {b : Nat} {w w' : World} (h : Below w.drew.heap.size w.drew w') : Bel b w w' := ⟨h.os, h.tape, h.output, h.size, fun k hk _ => h.block k hk⟩
theorem own_bel {w w' : World} {base n size b : Nat} {e : TypeId} {v : Value} {xs : List Value} (h : w.ownsRow base e size v n xs) (hb : Bel b w w') (hB : b < base) : w'.ownsRow base e size v n xs := by
  refine ⟨h.1, ?_⟩
  rcases h.2 with h2 | ⟨g, cap, cur, hv, hg, hh, r⟩
  · exact .inl h2
  · have hlt := (Array.getElem?_eq_some_iff.1 hh).1
    exact .inr ⟨g, cap, cur, hv, hg, (hb.block g hlt (by omega)).trans hh, r⟩
theorem Ow.bel {w w' : World} {base b : Nat} {A : Option Addr} {l c : Nat} {bs : List UInt8} (h : Ow w base A l c bs) (hb : Bel b w w') (hB : b < base) : Ow w' base A l c bs := ⟨own_bel h.own hb hB, h.len, h.cap, h.most⟩
end

/- slices.DeleteFunc at tokens: contract. -/
section
open Go.RowKit
set_option maxRecDepth 100000

theorem add_at (g j : Nat) : (⟨g, 0, none⟩ : Addr).add j = ⟨g, j, none⟩ := by
  unfold Addr.add
  split
  · rename_i h; simp_all
  · simp
theorem pair_kept {w w2 : World} {x y : Value} {t : TypeId} (k : Below (w.alloc (.cells #[x, y] t)).heap.size (w.alloc (.cells #[x, y] t)) w2) : w2.cell? ⟨w.heap.size, 0, none⟩ = some x ∧ w2.cell? ⟨w.heap.size, 1, none⟩ = some y := by
  have hb : w2.heap[w.heap.size]? = some (.cells #[x, y] t (0, 0)) := (k.block _ (by simp)).trans (heap_alloc_new w _)
  constructor
  · rw [cell_of_row _ _ 0 #[x, y] t (0, 0) hb]; rfl
  · rw [cell_of_row _ _ 1 #[x, y] t (0, 0) hb]; rfl

/-- a block's tokens, from its head, none of them frozen -/
structure RowG (w : World) (g : Nat) (us : List Tk) : Prop where
  cell : ∀ j (h : j < us.length), (w.cell? ⟨g, j * 2, none⟩ = some (.int .i64 us[j].k) ∧ w.cell? ⟨g, j * 2 + 1, none⟩ = some (.string us[j].t)) ∧ w.frozen? ⟨g, j * 2, none⟩ = false ∧ w.frozen? ⟨g, j * 2 + 1, none⟩ = false
  lt : g < w.heap.size
theorem RowG.keep {w w' : World} {g : Nat} {us : List Tk} (h : RowG w g us) (hk : w'.heap[g]? = w.heap[g]?) (hs : w.heap.size ≤ w'.heap.size) : RowG w' g us := by
  refine ⟨fun j hj => ?_, Nat.lt_of_lt_of_le h.lt hs⟩
  have hc : ∀ p : Addr, p.block = g → w'.cell? p = w.cell? p := fun p hp => World.cell?_of_block (by rw [hp]; exact hk)
  have hf : ∀ p : Addr, p.block = g → w'.frozen? p = w.frozen? p := fun p hp => by unfold World.frozen?; rw [hp, hk]
  obtain ⟨⟨c0, c1⟩, f0, f1⟩ := h.cell j hj
  exact ⟨⟨(hc _ rfl).trans c0, (hc _ rfl).trans c1⟩, (hf _ rfl).trans f0, (hf _ rfl).trans f1⟩
theorem RowG.next {w w' : World} {g : Nat} {us : List Tk} (h : RowG w g us) (hb : Below w.heap.size w w') : RowG w' g us := h.keep (hb.block g h.lt) hb.size
/-- a token is stored -/
theorem RowG.set {w : World} {g : Nat} {us : List Tk} (h : RowG w g us) (k : Nat) (t : Tk) : RowG ((w.setCell ⟨g, k * 2, none⟩ (.int .i64 t.k)).setCell ⟨g, k * 2 + 1, none⟩ (.string t.t)) g (us.set k t) := by
  refine ⟨fun j hj => ?_, by simpa [World.setCell] using h.lt⟩
  rw [List.length_set] at hj
  obtain ⟨⟨c0, c1⟩, f0, f1⟩ := h.cell j hj
  refine ⟨?_, by simpa using f0, by simpa using f1⟩
  by_cases e : k = j
  · subst e
    simp only [List.getElem_set_self]
    refine ⟨?_, ?_⟩
    · rw [World.cell?_setCell_other _ _ _ _ (by simp)]
      exact World.cell?_setCell_same _ _ _ c0
    · refine World.cell?_setCell_same _ _ _ (u := .string us[k].t) ?_
      rw [World.cell?_setCell_other _ _ _ _ (by simp)]
      exact c1
  · rw [List.getElem_set_ne e]
    refine ⟨?_, ?_⟩
    · rw [World.cell?_setCell_other _ _ _ _ (by simp; try omega), World.cell?_setCell_other _ _ _ _ (by simp; try omega)]
      exact c0
    · rw [World.cell?_setCell_other _ _ _ _ (by simp; try omega), World.cell?_setCell_other _ _ _ _ (by simp; try omega)]
      exact c1
theorem RowG.tr {w : World} {g : Nat} {us : List Tk} (h : RowG w g us) : TR w (some ⟨g, 0, none⟩) us.length us := by
  refine ⟨rfl, .inr ⟨_, rfl, h.lt, fun j u hu => ?_⟩⟩
  rw [add_at]
  have hj : j < (tkC us).length := (List.getElem?_eq_some_iff.1 hu).1
  rw [tkC_length] at hj
  have hq : j / 2 < us.length := by omega
  obtain ⟨⟨c0, c1⟩, _, _⟩ := h.cell (j / 2) hq
  obtain ⟨t0, t1⟩ := tkC_at us (j / 2) hq
  rcases Nat.mod_two_eq_zero_or_one j with e | e
  · have e2 : j / 2 * 2 = j := by omega
    rw [e2] at c0 t0
    rw [c0, ← t0, hu]
  · have e2 : j / 2 * 2 + 1 = j := by omega
    rw [e2] at c1 t1
    rw [c1, ← t1, hu]
theorem OT.rowG {e : TypeId} {w : World} {base : Nat} {A : Option Addr} {n c : Nat} {ts : List Tk} (h : OT e w base A n c ts) (hn : 0 < n) : ∃ g, A = some ⟨g, 0, none⟩ ∧ base ≤ g ∧ RowG w g ts := by
  rcases h.own.2 with ⟨_, h0⟩ | ⟨g, cap, cur, hv, hg, hh, _, _, hs, hx⟩
  · omega
  · injection hv with hA
    refine ⟨g, hA, hg, fun j hj => ?_, (Array.getElem?_eq_some_iff.1 hh).1⟩
    obtain ⟨t0, t1⟩ := tkC_at ts j hj
    rw [← hx] at t0 t1
    have hlen := h.len
    rw [List.getElem?_take_of_lt (by omega), Array.getElem?_toList] at t0 t1
    refine ⟨⟨?_, ?_⟩, ?_, ?_⟩
    · rw [cell_of_row _ _ _ cur e (0, 0) hh]; exact t0
    · rw [cell_of_row _ _ _ cur e (0, 0) hh]; exact t1
    · unfold World.frozen?
      simp [hh]
    · unfold World.frozen?
      simp [hh]

theorem below_cells {base g : Nat} {w : World} : ∀ (vs : List Value) {w1 : World} (o : Nat), Below base w w1 → base ≤ g → Below base w (w1.setCells g o vs)
  | [], _, _, h, _ => h
  | v :: r, _, o, h, hg => by
    rw [World.setCells]
    exact below_cells r (o + 1) (h.setCell hg v) hg
theorem TR.cleared {w : World} {g k : Nat} {us : List Tk} (h : TR w (some ⟨g, 0, none⟩) k us) (vs : List Value) : TR (w.setCells g (k * 2) vs) (some ⟨g, 0, none⟩) k us := by
  refine ⟨h.len, ?_⟩
  have hs := (below_cells (base := 0) vs (k * 2) (Below.refl 0 w) (Nat.zero_le g)).size
  rcases h.rd with h0 | ⟨ad, hA, hb, hc⟩
  · exact .inl h0
  · injection hA with hA
    subst hA
    refine .inr ⟨_, rfl, Nat.lt_of_lt_of_le hb hs, fun j u hu => ?_⟩
    have hj : j < (tkC us).length := (List.getElem?_eq_some_iff.1 hu).1
    rw [tkC_length, h.len] at hj
    rw [← hc j u hu, add_at]
    exact World.cell?_setCells_out g vs (k * 2) w ⟨g, j, none⟩ fun _ _ => .inl hj

/-- 'clear' at tokens -/
theorem run_clear_toks (w : World) (ty : TypeId) (b o n c : Nat) (hn : 0 < n) (hc : ∀ j, j < n * 2 → (w.cell? ⟨b, o + j, none⟩).isSome = true) (hf : ∀ j, j < n * 2 → w.frozen? ⟨b, o + j, none⟩ = false) :
    ∃ vs : List Value, vs.length = n * 2 ∧ (Builtin.clear_ #[34] ty #[.slice (some ⟨b, o, none⟩) n c]).run Tryz.prog w = .ok (.tuple #[]) (w.setCells b o vs) := by
  have hv : ∀ w, (zeroValue 35).run Tryz.prog w = .ok (.agg #[.int .i64 0, .string ⟨#[]⟩]) w := fun _ => by kernel_rfl
  have hz : (Value.agg #[.int .i64 0, .string ⟨#[]⟩]).cells = #[.int .i64 0, .string ⟨#[]⟩] := rfl
  have hl : (Builtin.zeroCells (Value.agg #[.int .i64 0, .string ⟨#[]⟩]).cells n).toList.length = n * 2 := by
    rw [hz]
    simp [Builtin.zeroCells]
  have h1 : ∀ v ∈ (Builtin.zeroCells (Value.agg #[.int .i64 0, .string ⟨#[]⟩]).cells n).toList, v.oneCell' = true := by
    intro v hv'
    rw [hz] at hv'
    simp only [Builtin.zeroCells, Array.toList_map, List.mem_map] at hv'
    obtain ⟨i, _, rfl⟩ := hv'
    have : i % 2 = 0 ∨ i % 2 = 1 := by omega
    rcases this with e | e <;> simp [e, Value.oneCell']
  generalize (Value.agg #[.int .i64 0, .string ⟨#[]⟩]) = z at hv hl h1
  refine ⟨_, hl, ?_⟩
  have hst := run_storeCells_cells (P := Tryz.prog) b o (Builtin.zeroCells z.cells n).toList 0 w (by rw [hl]; simpa using hc) (by rw [hl]; simpa using hf) h1
  simp only [Nat.add_zero] at hst
  clear hl h1
  obtain ⟨m, rfl⟩ : ∃ m, n = m + 1 := ⟨n - 1, by omega⟩
  simp [Builtin.clear_, run_underlying Tryz.underlying34, hv, hst]

theorem firstAt_cases (p : Tok → Bool) (l : List Tok) : (firstAt p l = -1 ∧ l.filter (fun t => !p t) = l) ∨ ∃ k : Nat, firstAt p l = (k : Int) ∧ k < l.length ∧ (l.take (k + 1)).filter (fun t => !p t) = l.take k := by
  unfold firstAt
  cases h : l.findIdx? p with
  | none =>
    rw [List.findIdx?_eq_none_iff] at h
    exact .inl ⟨rfl, List.filter_eq_self.2 fun x hx => by rw [h x hx]; rfl⟩
  | some k =>
    rw [List.findIdx?_eq_some_iff_getElem] at h
    obtain ⟨hk, h1, h2⟩ := h
    refine .inr ⟨k, rfl, hk, ?_⟩
    rw [List.take_succ_eq_append_getElem hk, List.filter_append]
    have e1 : [l[k]].filter (fun t => !p t) = [] := by simp [h1]
    rw [e1, List.append_nil]
    refine List.filter_eq_self.2 fun x hx => ?_
    obtain ⟨j, hj, rfl⟩ := List.mem_iff_getElem.1 hx
    rw [List.length_take] at hj
    rw [List.getElem_take]
    have := h2 j (by omega)
    simpa using this

set_option maxHeartbeats 1000000 in
theorem deleteFunc_ok (g : FuncId) (p : Tok → Bool) (hp : TokPred g p) (eg : ∀ args w, (callFunc g args).run Tryz.prog w = .ok (.enter g args) w) (A : Option Addr) (n c : Nat) (ts : List Tk) (w : World) (base : Nat) (h : OT 35 w base A n c ts) (hbase : base ≤ w.heap.size) (hn : n ≤ 1000000) :
    Calls Tryz.prog 54 #[.slice A n c, .func (.func g) #[] #[]] w fun e w' => ∃ (us : List Tk) (k : Nat), e = .returned (.slice A k c) ∧ TR w' A k us ∧ k ≤ n ∧ Hid (saysT us = (saysT ts).filter fun t => !p t) ∧ Below base w w' := by
  have hlen := Lib.hid h.len
  have hcap := h.cap
  have hI := Lib.hid (indexFunc_ok g p hp eg A n c ts w h.tr hn)
  have hP := Lib.hid hp
  clear hp
  rcases firstAt_cases p (saysT ts) with ⟨hF, hall⟩ | ⟨i0, hF, hi0, hpre⟩
  · rw [hF] at hI
    have HA := Lib.hid hall.symm
    clear hF hall
    have HT := Lib.hid h
    clear h
    go_enter Tryz.func54, Tryz.ntmps54
    go_wp2_with fail
    refine hI.out.mono ?_
    rintro e w1 ⟨rfl, k1⟩
    go_wp2_with fail
    go_ret
    exact ⟨ts, n, rfl, HT.out.tr.next k1, Nat.le_refl _, HA, k1.mono hbase⟩
  · rw [hF] at hI
    rw [saysT_length] at hi0
    have hin : i0 < n := by rw [← hlen.out]; exact hi0
    obtain ⟨gb, rfl, hgb, hrow⟩ := h.rowG (by omega)
    have hst : Hid (saysT (ts.take i0) = (saysT (ts.take (i0 + 1))).filter fun t => !p t) := Lib.hid (by rw [← says_take, ← says_take, hpre])
    have hne : ((i0 : Int) == -1) = false := beq_eq_false_iff_ne.2 (by omega)
    have HR := Lib.hid hrow
    clear hF hpre h hrow
    go_enter Tryz.func54, Tryz.ntmps54
    go_wp2_with fail
    refine hI.out.mono ?_
    rintro e w1 ⟨rfl, k1⟩
    go_wp2_with fail
    go_loopw [5, 6] (fun i j wr => ∃ (k m : Nat) (us : List Tk), i = .int .i64 k ∧ j = .int .i64 m ∧ k < m ∧ m ≤ n ∧ us.length = n ∧ RowG wr gb us ∧ Hid (saysT (us.take k) = (saysT (ts.take m)).filter fun t => !p t) ∧ Hid (us.drop m = ts.drop m) ∧ Below base w wr) (fun _ j _ => n - (intOf j).toNat)
    case atStart => exact ⟨i0, i0 + 1, ts, rfl, by go_num, by omega, by omega, hlen.out, HR.out.next k1, hst, Lib.hid rfl, k1.mono hbase⟩
    case round =>
      obtain ⟨k, m, us, rfl, rfl, hkm, hm, hul, hr, hx, hd, kw⟩ := hrel
      clear hst HR
      by_cases hlt : m < n
      · have hml : m < us.length := by omega
        have hmt : m < ts.length := by rw [hlen.out]; exact hlt
        have he : us[m] = ts[m] := by
          have e1 := congrArg (fun l => l[0]?) hd.out
          simp only [List.getElem?_drop, Nat.add_zero, List.getElem?_eq_getElem hml, List.getElem?_eq_getElem hmt, Option.some.injEq] at e1
          exact e1
        obtain ⟨⟨c0, c1⟩, _, _⟩ := hr.cell m hml
        have hC := Lib.hid (hP.out us[m])
        have hd2 : Hid (us.drop (m + 1) = ts.drop (m + 1)) := Lib.hid (by
          have e1 := congrArg (fun l => l.drop 1) hd.out
          simpa only [List.drop_drop] using e1)
        have htk : (saysT (ts.take (m + 1))).filter (fun t => !p t) = (saysT (ts.take m)).filter (fun t => !p t) ++ (if p us[m].says then [] else [us[m].says]) := by
          rw [List.take_succ_eq_append_getElem hmt, saysT_append, List.filter_append, ← he]
          cases hq : p us[m].says <;> simp [saysT, hq]
        cases hq : p us[m].says with
        | true =>
          have hx2 : Hid (saysT (us.take k) = (saysT (ts.take (m + 1))).filter fun t => !p t) := Lib.hid (by rw [htk, hq, hx.out]; simp)
          rw [hq] at hC
          have HRR := Lib.hid hr
          clear hx htk hq he hd hr
          generalize us[m].k = x at *
          generalize us[m].t = s at *
          go_wp2_with fail
          refine (hC.out _).mono ?_
          rintro e w2 ⟨rfl, k2⟩
          go_wp2_with fail
          go_roundw
          case rel => exact ⟨k, m + 1, us, rfl, by go_num, by omega, by omega, hul, (HRR.out.next (kp_new _ _)).next k2, hx2, hd2, kw.trans ((kp_trans (kp_new wr (.cells #[.int .i64 x, .string s] 35)) k2).mono (Nat.le_trans hbase kw.size))⟩
          case measure => simp [intOf]; omega
        | false =>
          have hkl : k < us.length := by omega
          have hx2 : Hid (saysT ((us.set k us[m]).take (k + 1)) = (saysT (ts.take (m + 1))).filter fun t => !p t) := Lib.hid (by
            rw [htk, hq, ← hx.out, List.take_succ_eq_append_getElem (by rw [List.length_set]; exact hkl), List.getElem_set_self, saysT_append, List.take_set_of_le (Nat.le_refl _)]
            rfl)
          have hd3 : Hid ((us.set k us[m]).drop (m + 1) = ts.drop (m + 1)) := Lib.hid (by rw [List.drop_set_of_lt (by omega)]; exact hd2.out)
          have hul3 : (us.set k us[m]).length = n := by rw [List.length_set]; exact hul
          have hset : ∀ W, RowG W gb us → RowG ((W.setCell ⟨gb, k * 2, none⟩ (.int .i64 us[m].k)).setCell ⟨gb, k * 2 + 1, none⟩ (.string us[m].t)) gb (us.set k us[m]) := fun W hW => hW.set k us[m]
          rw [hq] at hC
          have HRR := Lib.hid hr
          have HST := Lib.hid hset
          clear hx htk hq he hd hr hd2 hset
          generalize us.set k us[m] = us3 at *
          generalize us[m].k = x at *
          generalize us[m].t = s at *
          go_wp2_with fail
          refine (hC.out _).mono ?_
          rintro e w2 ⟨rfl, k2⟩
          obtain ⟨d0, d1⟩ := pair_kept k2
          have hr2 := (HRR.out.next (kp_new _ _)).next k2
          obtain ⟨⟨e0, e1⟩, z0, z1⟩ := hr2.cell k hkl
          have HR2 := Lib.hid hr2
          have kw2 := kw.trans ((kp_trans (kp_new wr (.cells #[.int .i64 x, .string s] 35)) k2).mono (Nat.le_trans hbase kw.size))
          clear hr2
          go_wp2_with fail
          go_roundw
          case rel => exact ⟨k + 1, m + 1, us3, by go_num, by go_num, by omega, by omega, hul3, HST.out _ HR2.out, hx2, hd3, (kw2.setCell hgb _).setCell hgb _⟩
          case measure => simp [intOf]; omega
      · obtain rfl : m = n := by omega
        have hck : ¬ c = k := by omega
        have hcl := hr
        obtain ⟨vs, hvl, hrun⟩ := run_clear_toks wr 0 gb (k * 2) (m - k) (c - k) (by omega) (fun j hj => by
          have hq : (k * 2 + j) / 2 < us.length := by omega
          obtain ⟨⟨q0, q1⟩, _, _⟩ := hr.cell _ hq
          rcases Nat.mod_two_eq_zero_or_one j with e | e
          · rw [show (k * 2 + j) / 2 * 2 = k * 2 + j by omega] at q0
            rw [q0]; rfl
          · rw [show (k * 2 + j) / 2 * 2 + 1 = k * 2 + j by omega] at q1
            rw [q1]; rfl) (fun j hj => by
          have hq : (k * 2 + j) / 2 < us.length := by omega
          obtain ⟨_, q0, q1⟩ := hr.cell _ hq
          rcases Nat.mod_two_eq_zero_or_one j with e | e
          · rw [show (k * 2 + j) / 2 * 2 = k * 2 + j by omega] at q0
            exact q0
          · rw [show (k * 2 + j) / 2 * 2 + 1 = k * 2 + j by omega] at q1
            exact q1)
        have htr : TR (wr.setCells gb (k * 2) vs) (some ⟨gb, 0, none⟩) k (us.take k) := (hr.tr.front (by omega)).cleared vs
        have hkb : Below base w (wr.setCells gb (k * 2) vs) := below_cells vs _ kw hgb
        have hfin : Hid (saysT (us.take k) = (saysT ts).filter fun t => !p t) := Lib.hid (by rw [hx.out, List.take_of_length_le (by rw [hlen.out]; exact Nat.le_refl _)])
        have HTR := Lib.hid htr
        have HKB := Lib.hid hkb
        clear hx hd hr hcl htr hkb
        go_wp2_with fail
        go_ret
        exact ⟨us.take k, k, rfl, HTR.out, by omega, hfin, HKB.out⟩
end
end Go.Proofs.YtedfclknpebpaaaGreatDoor
