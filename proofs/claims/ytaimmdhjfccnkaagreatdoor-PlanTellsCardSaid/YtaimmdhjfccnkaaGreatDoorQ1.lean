/-
  Contracts and plain functions that the law stands on, part 1 of 5.
-/
import Derived.Test.YtaimmdhjfccnkaaGreatDoorRows
import Derived.WalkKit
import Derived.WalkSpells
import Derived.Lib.Hide
import Derived.Lib.AppendStr
import Derived.Lib.BufferRead
import Derived.Lib.ConvBytes
import Derived.Laws.IdiomStrings
import Derived.Laws.CopyOwn
import Derived.Deep.Draws
import Derived.Lib.IndexMore
import Derived.Lib.Strings
import Derived.Lib.SlTrimSet
import Derived.Test.YtaimmdhjfccnkaaGreatDoorBLay
import Derived.Shelf.Strings.SlTrimAscii
import Derived.BigCall
import Derived.WalkMore
namespace Go.Proofs.YtaimmdhjfccnkaaGreatDoor
/- Words for lists of bytes and what memory holds of them; no function of the program is named here. -/
section
open Go.RowKit

/-- a byte as a cell -/
def bv (b : UInt8) : Value := .int .u8 (b.toNat : Int)
def bvs (l : List UInt8) : List Value := l.map bv

theorem bvs_length (l : List UInt8) : (bvs l).length = l.length := by simp [bvs]
theorem bvs_append (l r : List UInt8) : bvs (l ++ r) = bvs l ++ bvs r := by simp [bvs]
theorem bvs_drop (l : List UInt8) (k : Nat) : (bvs l).drop k = bvs (l.drop k) := by simp [bvs, List.map_drop]
theorem bvs_take (l : List UInt8) (k : Nat) : (bvs l).take k = bvs (l.take k) := by simp [bvs, List.map_take]
theorem bvs_one (l : List UInt8) : ∀ u ∈ bvs l, u.oneCell' = true := by
  intro u hu
  obtain ⟨b, _, rfl⟩ := List.mem_map.1 hu
  rfl
theorem bvs_get (l : List UInt8) (k : Nat) (h : k < l.length) : (bvs l)[k]? = some (bv l[k]) := by simp [bvs, h]
theorem bv_inj {a b : UInt8} (e : bv a = bv b) : a = b := by
  simp only [bv, Value.int.injEq, true_and] at e
  exact UInt8.toNat_inj.1 (by omega)
theorem bvs_inj : ∀ {l r : List UInt8}, bvs l = bvs r → l = r
  | [], [], _ => rfl
  | [], _ :: _, h => by simp [bvs] at h
  | _ :: _, [], h => by simp [bvs] at h
  | a :: l, b :: r, h => by
    simp only [bvs, List.map_cons, List.cons.injEq] at h
    rw [bv_inj h.1, bvs_inj (l := l) (r := r) h.2]

/-- what a slice's address reads: nothing is asked of an empty one -/
def Rd (w : World) (B : Nat) (A : Option Addr) (xs : List Value) : Prop :=
  xs = [] ∨ ∃ ad, A = some ad ∧ ad.block < B ∧ ∀ j u, xs[j]? = some u → w.cell? (ad.add j) = some u

theorem add_block (a : Addr) (n : Nat) : (a.add n).block = a.block := by unfold Addr.add; split <;> rfl
theorem add_add (a : Addr) (i j : Nat) : (a.add i).add j = a.add (i + j) := by
  unfold Addr.add
  by_cases hi : i = 0 <;> by_cases hj : j = 0 <;> simp [hi, hj, Nat.add_assoc]

section
variable {w w' : World} {B : Nat} {A : Option Addr} {xs : List Value}
theorem Rd.nil (w : World) (B : Nat) (A : Option Addr) : Rd w B A [] := .inl rfl
theorem Rd.keep (h : Rd w B A xs) (hk : ∀ p : Addr, p.block < B → w'.cell? p = w.cell? p) : Rd w' B A xs := by
  rcases h with h | ⟨ad, e, hb, hc⟩
  · exact .inl h
  · exact .inr ⟨ad, e, hb, fun j u hu => (hk _ (by rw [add_block]; exact hb)).trans (hc j u hu)⟩
theorem Rd.more {B' : Nat} (h : Rd w B A xs) (hB : B ≤ B') : Rd w B' A xs := by
  rcases h with h | ⟨ad, e, hb, hc⟩
  · exact .inl h
  · exact .inr ⟨ad, e, by omega, hc⟩
theorem Rd.below {B' : Nat} (h : Rd w B A xs) (hb : Below B' w w') (hB : B ≤ B') : Rd w' B A xs := h.keep fun _ hp => hb.cell (by omega)
theorem Rd.at_ (h : Rd w B A xs) {k : Nat} (hk : k < xs.length) : ∃ ad, A = some ad ∧ ad.block < B ∧ w.cell? (ad.add k) = some xs[k] := by
  rcases h with rfl | ⟨ad, e, hb, hc⟩
  · simp at hk
  · exact ⟨ad, e, hb, hc k _ (List.getElem?_eq_getElem hk)⟩
theorem Rd.addr (h : Rd w B A xs) (hk : 0 < xs.length) : ∃ ad, A = some ad ∧ ad.block < B ∧ ∀ j u, xs[j]? = some u → w.cell? (ad.add j) = some u := by
  rcases h with rfl | h
  · simp at hk
  · exact h
/-- a cut off the front: the address as the model spells it -/
theorem Rd.cut {k cap : Nat} (h : Rd w B A xs) (hc : xs.length ≤ cap) : Rd w B (if cap = k then A else A.map (·.add k)) (xs.drop k) := by
  rcases Nat.lt_or_ge k xs.length with hlt | hge
  · obtain ⟨ad, rfl, hb, hcell⟩ := h.addr (by omega)
    rw [if_neg (by omega)]
    refine .inr ⟨ad.add k, rfl, by rw [add_block]; exact hb, fun j u hu => ?_⟩
    rw [add_add]
    exact hcell _ u (by rw [← hu, List.getElem?_drop])
  · rw [List.drop_eq_nil_of_le hge]
    exact .inl rfl
theorem Rd.front (h : Rd w B A xs) (k : Nat) : Rd w B A (xs.take k) := by
  rcases h with rfl | ⟨ad, e, hb, hc⟩
  · exact .inl (by simp)
  · refine .inr ⟨ad, e, hb, fun j u hu => hc j u ?_⟩
    rw [List.getElem?_take] at hu
    split at hu
    · exact hu
    · cases hu
theorem Rd.of_own {base n c : Nat} {e : TypeId} (h : w.ownsRow base e 1 (.slice A n c) n xs) : Rd w w.heap.size A xs := by
  rcases h.2 with ⟨_, hn⟩ | ⟨g, cap, cur, hv, _, hg, _⟩
  · exact .inl (List.eq_nil_of_length_eq_zero (by have := h.1; omega))
  · have hA : A = some ⟨g, 0, none⟩ := by injection hv
    subst hA
    exact .inr ⟨_, rfl, (Array.getElem?_eq_some_iff.1 hg).1, h.cells (g := g) rfl⟩
end

theorem own_len {w : World} {base e n : Nat} {v : Value} {xs : List Value} (h : w.ownsRow base e 1 v n xs) : n = xs.length := by have := h.1; omega

/-- a row that a call owns is a slice, at its head or nil -/
theorem own_form {w : World} {base n : Nat} {e : TypeId} {v : Value} {xs : List Value} (h : w.ownsRow base e 1 v n xs) : ∃ A c, v = .slice A n c ∧ n ≤ c ∧ c ≤ maxLen := by
  rcases h.2 with ⟨rfl, rfl⟩ | ⟨g, cap, cur, rfl, _, _, h1, h2, _⟩
  · exact ⟨_, _, rfl, Nat.le_refl _, by simp [maxLen]⟩
  · exact ⟨_, _, rfl, h1, h2⟩

/-- a row that was owned stays so, below what a later call turned -/
theorem own_below {w w' : World} {base n B : Nat} {e : TypeId} {v : Value} {xs : List Value} (h : w.ownsRow base e 1 v n xs) (hb : Below B w w') (hB : w.heap.size ≤ B) : w'.ownsRow base e 1 v n xs := by
  refine ⟨h.1, ?_⟩
  rcases h.2 with h2 | ⟨g, cap, cur, hv, hg, hh, r⟩
  · exact .inl h2
  · have hlt := (Array.getElem?_eq_some_iff.1 hh).1
    exact .inr ⟨g, cap, cur, hv, hg, (hb.block g (by omega)).trans hh, r⟩
theorem own_base {w : World} {base base' n : Nat} {e : TypeId} {v : Value} {xs : List Value} (h : w.ownsRow base e 1 v n xs) (hB : base' ≤ base) : w.ownsRow base' e 1 v n xs := by
  refine ⟨h.1, ?_⟩
  rcases h.2 with h2 | ⟨g, cap, cur, hv, hg, r⟩
  · exact .inl h2
  · exact .inr ⟨g, cap, cur, hv, by omega, r⟩
/-- a frame behind an append onto a row of the call's own -/
theorem below_own {w w' : World} {base n : Nat} {e : TypeId} {v : Value} {xs : List Value} (h : w.ownsRow base e 1 v n xs) (hg : w.grownBy w' v.ownBlock) (hb : base ≤ w.heap.size) : Below base w w' :=
  (Below.refl _ _).grown hg hb (fun k hk => (h.lt k hk).1)

theorem below_drewN {B : Nat} {a w : World} (h : Below B a w) (n : Nat) : Below B a (w.drewN n) := ⟨h.os, h.tape, h.output, h.size, h.block⟩

/-- a slice of bytes, as an argument and as an answer: what it reads, how long it is -/
structure Sl (w : World) (B : Nat) (A : Option Addr) (l c : Nat) (bs : List UInt8) : Prop where
  rd : Rd w B A (bvs bs)
  len : bs.length = l
  cap : l ≤ c
theorem Sl.below {w w' : World} {B B' : Nat} {A : Option Addr} {l c : Nat} {bs : List UInt8} (h : Sl w B A l c bs) (hb : Below B' w w') (hB : B ≤ B') : Sl w' B A l c bs := ⟨h.rd.below hb hB, h.len, h.cap⟩
theorem Sl.more {w : World} {B B' : Nat} {A : Option Addr} {l c : Nat} {bs : List UInt8} (h : Sl w B A l c bs) (hB : B ≤ B') : Sl w B' A l c bs := ⟨h.rd.more hB, h.len, h.cap⟩
/-- what was read stays read, behind a call that leaves what was there -/
theorem Sl.next {w w' : World} {A : Option Addr} {l c : Nat} {bs : List UInt8} (h : Sl w w.heap.size A l c bs) (hb : Below w.heap.size w w') : Sl w' w'.heap.size A l c bs := (h.below hb (Nat.le_refl _)).more hb.size
theorem Sl.nil (w : World) (B : Nat) : Sl w B none 0 0 [] := ⟨.inl rfl, rfl, Nat.le_refl _⟩

/-- a row of bytes that the call made, with room that nobody else has -/
structure Ow (w : World) (base : Nat) (A : Option Addr) (l c : Nat) (bs : List UInt8) : Prop where
  own : w.ownsRow base 5 1 (.slice A l c) l (bvs bs)
  len : bs.length = l
  cap : l ≤ c
  most : c ≤ 9223372036854775807
theorem Ow.mk' {w : World} {base : Nat} {v : Value} {l : Nat} {bs : List UInt8} (h : w.ownsRow base 5 1 v l (bvs bs)) : ∃ A c, v = .slice A l c ∧ Ow w base A l c bs := by
  obtain ⟨A, c, rfl, h1, h2⟩ := own_form h
  have := h.1
  rw [bvs_length] at this
  exact ⟨A, c, rfl, h, by omega, h1, by unfold maxLen at h2; omega⟩
theorem Ow.sl {w : World} {base : Nat} {A : Option Addr} {l c : Nat} {bs : List UInt8} (h : Ow w base A l c bs) : Sl w w.heap.size A l c bs := ⟨Rd.of_own h.own, h.len, h.cap⟩
theorem Ow.next {w w' : World} {base : Nat} {A : Option Addr} {l c : Nat} {bs : List UInt8} (h : Ow w base A l c bs) (hb : Below w.heap.size w w') : Ow w' base A l c bs := ⟨own_below h.own hb (Nat.le_refl _), h.len, h.cap, h.most⟩
theorem Ow.base {w : World} {base base' : Nat} {A : Option Addr} {l c : Nat} {bs : List UInt8} (h : Ow w base A l c bs) (hb : base' ≤ base) : Ow w base' A l c bs := ⟨own_base h.own hb, h.len, h.cap, h.most⟩
theorem Ow.nil (w : World) (base : Nat) : Ow w base none 0 0 [] := ⟨World.ownsRow_nil _ _ _ _, rfl, Nat.le_refl _, by omega⟩

/-- a new block is read -/
theorem Rd.new (w : World) (t : TypeId) (xs : List Value) : Rd (w.alloc (.cells xs.toArray t)) (w.heap.size + 1) (some ⟨w.heap.size, 0, none⟩) xs := by
  refine .inr ⟨_, rfl, by simp, fun j u hu => ?_⟩
  have hadd : (⟨w.heap.size, 0, none⟩ : Addr).add j = ⟨w.heap.size, j, none⟩ := by unfold Addr.add; split <;> simp_all
  rw [hadd, cell_of_row _ _ j xs.toArray t (0, 0) (heap_alloc_new w _)]
  simpa using hu

theorem Ow.new (w : World) (base : Nat) (hb : base ≤ w.heap.size) (bs : List UInt8) (hl : bs.length ≤ 1000000) : Ow (w.alloc (.cells (bvs bs).toArray 5)) base (some ⟨w.heap.size, 0, none⟩) bs.length bs.length bs :=
  ⟨⟨by rw [bvs_length]; omega, .inr ⟨w.heap.size, bs.length, _, rfl, hb, heap_alloc_new w _, Nat.le_refl _, by unfold maxLen; omega, by simp [bvs], List.take_of_length_le (by simp [bvs])⟩⟩, rfl, Nat.le_refl _, by omega⟩

theorem Ow.new1 (w : World) (base : Nat) (hb : base ≤ w.heap.size) (x : Value) (b : UInt8) (hx : x = bv b) : Ow (w.alloc (.cells #[x] 5)) base (some ⟨w.heap.size, 0, none⟩) 1 1 [b] := by
  subst hx
  exact Ow.new w base hb [b] (by simp)

theorem Sl.new (w : World) (t : TypeId) (bs : List UInt8) : Sl (w.alloc (.cells (bvs bs).toArray t)) (w.alloc (.cells (bvs bs).toArray t)).heap.size (some ⟨w.heap.size, 0, none⟩) bs.length bs.length bs :=
  ⟨by have := Rd.new w t (bvs bs); simpa using this, rfl, Nat.le_refl _⟩
/-- what stands behind two calls, one after the other -/
theorem kp_trans {a b c : World} (h : Below a.heap.size a b) (k : Below b.heap.size b c) : Below a.heap.size a c := h.trans (k.mono h.size)
theorem kp_alloc {a b : World} (h : Below a.heap.size a b) (o : Obj) : Below a.heap.size a (b.alloc o) := h.alloc h.size o
theorem kp_new (a : World) (o : Obj) : Below a.heap.size a (a.alloc o) := kp_alloc (Below.refl _ _) o
theorem kp_drewN (a : World) (n : Nat) : Below a.heap.size a (a.drewN n) := below_drewN (Below.refl _ _) n
theorem kp_own {w w' : World} {B base : Nat} {A : Option Addr} {l c : Nat} {bs : List UInt8} (h : Ow w base A l c bs) (hg : w.grownBy w' (Value.slice A l c).ownBlock) (hb : B ≤ base) (hw : base ≤ w.heap.size) : Below B w w' :=
  (below_own h.own hg hw).mono hb

/-- bytes as a text -/
theorem run_text {P : Program} {w : World} {B : Nat} {A : Option Addr} {l c : Nat} {bs : List UInt8} (h : Sl w B A l c bs) (src dst e : TypeId) (hs : P.underlying src = some (.slice e)) (he : P.underlying e = some (.int .u8)) (hd : P.underlying dst = some .string) :
    (convert src dst (.slice A l c)).run P w = .ok (.string ⟨bs.toArray⟩) w := by
  obtain ⟨hr, hl, _⟩ := h
  subst hl
  cases A with
  | none =>
    have hn : bs = [] := by
      rcases hr with h | ⟨_, h, _⟩
      · have := congrArg List.length h; rw [bvs_length] at this; exact List.eq_nil_of_length_eq_zero this
      · cases h
    subst hn
    exact Lib.run_convert_nil_bytes w src dst e c hs he hd
  | some ad =>
    refine run_convert_bytes_back w src dst e ad c bs hs he hd fun j hj => ?_
    rcases hr with h | ⟨ad', h, _, hc⟩
    · have := congrArg List.length h; rw [bvs_length] at this; simp at this; subst this; simp at hj
    · injection h with h; subst h
      exact hc j _ (bvs_get bs j hj)

/-- what a row of the call's own says of its address -/
def Fresh (n : Nat) (A : Option Addr) : Prop := ∀ ad, A = some ad → n ≤ ad.block
theorem Fresh.none (n : Nat) : Fresh n none := fun _ h => by cases h
theorem Fresh.less {n m : Nat} {A : Option Addr} (h : Fresh n A) (hm : m ≤ n) : Fresh m A := fun ad e => Nat.le_trans hm (h ad e)
theorem own_fresh {w : World} {base n c s : Nat} {A : Option Addr} {e : TypeId} {xs : List Value} (h : w.ownsRow base e s (.slice A n c) n xs) : Fresh base A := by
  intro ad hA
  rcases h.2 with ⟨h1, _⟩ | ⟨g, cap, cur, h1, h2, _⟩
  · injection h1 with h1; rw [h1] at hA; cases hA
  · injection h1 with h1; rw [h1] at hA; injection hA with hA; subst hA; exact h2
/-- what is read in another block stays read -/
theorem Rd.grown {w w' : World} {B : Nat} {A : Option Addr} {xs : List Value} {k : Option Nat} (h : Rd w B A xs) (hB : B ≤ w.heap.size) (hg : w.grownBy w' k) (hn : ∀ ad, A = some ad → some ad.block ≠ k) : Rd w' B A xs := by
  rcases h with h | ⟨ad, e, hb, hc⟩
  · exact .inl h
  · exact .inr ⟨ad, e, hb, fun j u hu => (World.cell?_of_block (hg.block _ (by rw [add_block]; omega) (by rw [add_block]; exact hn ad e))).trans (hc j u hu)⟩
theorem Sl.grown {w w' : World} {B : Nat} {A : Option Addr} {l c : Nat} {bs : List UInt8} {k : Option Nat} (h : Sl w B A l c bs) (hB : B ≤ w.heap.size) (hg : w.grownBy w' k) (hn : ∀ ad, A = some ad → some ad.block ≠ k) : Sl w' B A l c bs := ⟨h.rd.grown hB hg hn, h.len, h.cap⟩
theorem Rd.setCell {w : World} {B : Nat} {A : Option Addr} {xs : List Value} (h : Rd w B A xs) (p : Addr) (u : Value) (hn : ∀ ad, A = some ad → ad.block ≠ p.block) : Rd (w.setCell p u) B A xs := by
  rcases h with h | ⟨ad, e, hb, hc⟩
  · exact .inl h
  · refine .inr ⟨ad, e, hb, fun j v hv => ?_⟩
    rw [World.cell?_of_block (Below.heap_setCell _ _ _ _ (by rw [add_block]; exact hn ad e))]
    exact hc j v hv
theorem Sl.setCell {w : World} {B : Nat} {A : Option Addr} {l c : Nat} {bs : List UInt8} (h : Sl w B A l c bs) (p : Addr) (u : Value) (hn : ∀ ad, A = some ad → ad.block ≠ p.block) : Sl (w.setCell p u) B A l c bs := ⟨h.rd.setCell p u hn, h.len, h.cap⟩
theorem Sl.drew {w : World} {B : Nat} {A : Option Addr} {l c : Nat} {bs : List UInt8} (h : Sl w B A l c bs) : Sl w.drew B A l c bs := ⟨h.rd, h.len, h.cap⟩
/-- a slice of a slice, its address as the model spells it -/
theorem Sl.sub {w : World} {B : Nat} {A : Option Addr} {l c : Nat} {bs : List UInt8} (h : Sl w B A l c bs) {i j : Nat} (hi : i ≤ j) (hj : j ≤ l) :
    Sl w B (if c = i then A else A.map (·.add i)) (j - i) (c - i) ((bs.take j).drop i) := by
  have hl := h.len
  have hc := h.cap
  have h1 := (h.rd.front j).cut (k := i) (cap := c) (by rw [List.length_take, bvs_length]; omega)
  rw [bvs_take, bvs_drop] at h1
  exact ⟨h1, by rw [List.length_drop, List.length_take]; omega, by omega⟩

/-- cuts of a slice of bytes: the cut's address under one name, its run in every world -/
theorem Sl.cut2 {w : World} {B : Nat} {A : Option Addr} {l c : Nat} {bs : List UInt8} (h : Sl w B A l c bs) (P : Program) (t : TypeId) (ht : P.underlying t = some (.slice (P.elem t))) (hz : (P.info? (P.elem t)).map (·.size) = some 1)
    {i j : Nat} (x y : Int) (hx : x = i) (hy : y = j) (hi : i ≤ j) (hj : j ≤ l) :
    ∃ A', (∀ u, (Instr.slice t (.slice A l c) (some (.int .i64 x)) (some (.int .i64 y)) none).run P u = .ok (.slice A' (j - i) (c - i)) u) ∧ Sl w B A' (j - i) (c - i) ((bs.take j).drop i) := by
  have hc := h.cap
  obtain ⟨ti, hti, hsz⟩ := Option.map_eq_some_iff.1 hz
  refine ⟨_, fun u => ?_, h.sub hi hj⟩
  subst hx hy
  rw [run_slice_lh u t A l c ht .i64 .i64 i j (by omega) (by omega) (by omega)]
  simp [sizeOf, typeInfo, hti, hsz, sliced, Result.andThen]
theorem Sl.cut1 {w : World} {B : Nat} {A : Option Addr} {l c : Nat} {bs : List UInt8} (h : Sl w B A l c bs) (P : Program) (t : TypeId) (ht : P.underlying t = some (.slice (P.elem t))) (hz : (P.info? (P.elem t)).map (·.size) = some 1)
    {i : Nat} (x : Int) (hx : x = i) (hi : i ≤ l) :
    ∃ A', (∀ u, (Instr.slice t (.slice A l c) (some (.int .i64 x)) none none).run P u = .ok (.slice A' (l - i) (c - i)) u) ∧ Sl w B A' (l - i) (c - i) (bs.drop i) := by
  have hc := h.cap
  have hl := h.len
  obtain ⟨ti, hti, hsz⟩ := Option.map_eq_some_iff.1 hz
  have hs := h.sub hi (Nat.le_refl l)
  rw [List.take_of_length_le (by omega)] at hs
  refine ⟨_, fun u => ?_, hs⟩
  subst hx
  rw [run_slice_l u t A l c ht .i64 i (by omega) (by omega)]
  simp [sizeOf, typeInfo, hti, hsz, sliced, Result.andThen]
theorem Sl.cut0 {w : World} {B : Nat} {A : Option Addr} {l c : Nat} {bs : List UInt8} (h : Sl w B A l c bs) (P : Program) (t : TypeId) (ht : P.underlying t = some (.slice (P.elem t))) (hz : (P.info? (P.elem t)).map (·.size) = some 1)
    {j : Nat} (y : Int) (hy : y = j) (hj : j ≤ l) :
    ∃ A', (∀ u, (Instr.slice t (.slice A l c) none (some (.int .i64 y)) none).run P u = .ok (.slice A' j c) u) ∧ Sl w B A' j c (bs.take j) := by
  have hc := h.cap
  obtain ⟨ti, hti, hsz⟩ := Option.map_eq_some_iff.1 hz
  have hs := h.sub (Nat.zero_le j) hj
  simp only [Nat.sub_zero, List.drop_zero] at hs
  refine ⟨_, fun u => ?_, hs⟩
  subst hy
  rw [run_slice_h u t A l c ht .i64 j (by omega) (by omega)]
  simp [sizeOf, typeInfo, hti, hsz, sliced, Result.andThen]

section
variable {P : Program} {w : World}
/-- append where the source has no address: nothing is laid -/
theorem run_append_nothing (base : Nat) (t ty e : TypeId) (i : TypeInfo) (ht : P.underlying t = some (.slice e)) (hi : P.info? e = some i)
    (v : Value) (n c : Nat) (xs : List Value) (hown : w.ownsRow base e 1 v n xs) : (Builtin.append_ #[t, t] ty #[v, .slice none 0 c]).run P w = .ok v w := by
  rcases hown.2 with ⟨rfl, rfl⟩ | ⟨g, cap, cur, rfl, _, _, hnc, _⟩
  · simp [Builtin.append_, run_underlying ht, sizeOf, typeInfo, hi, Builtin.lenOf, Builtin.firstCells]
  · simp [Builtin.append_, run_underlying ht, sizeOf, typeInfo, hi, Builtin.lenOf, Builtin.firstCells, hnc, storeCells]

/-- append onto a row of the call's own, whatever the source: nil, empty or not -/
theorem run_append_rd (base : Nat) (t ty e : TypeId) (i : TypeInfo) (z : Value) (bytes : Nat) (ht : P.underlying t = some (.slice e)) (hi : P.info? e = some i) (hz : i.zero = some z)
    (hsize : i.size = 1) (hby : i.bytes = bytes) (hzs : z.cells.size = 1)
    (v : Value) (n : Nat) (xs : List Value) (hown : w.ownsRow base e 1 v n xs)
    (B : Nat) (A : Option Addr) (m c : Nat) (news : List Value) (hm : news.length = m) (hr : Rd w B A news) (h1 : ∀ u ∈ news, u.oneCell' = true)
    (h63 : n + m ≤ maxLen) (hbytes : (n + m) * bytes ≤ 140737488355328) (hbase : base ≤ w.heap.size) :
    ∃ v' w', (Builtin.append_ #[t, t] ty #[v, .slice A m c]).run P w = .ok v' w' ∧ w'.ownsRow base e 1 v' (n + m) (xs ++ news) ∧ w.grownBy w' v.ownBlock := by
  cases A with
  | none =>
    have hn : news = [] := by
      rcases hr with h | ⟨_, h, _⟩
      · exact h
      · cases h
    subst hn
    obtain rfl : m = 0 := by simpa using hm.symm
    exact ⟨v, w, run_append_nothing base t ty e i ht hi v n c xs hown, by simpa using hown, World.grownBy.refl w _⟩
  | some ad =>
    have hc : ∀ j u, news[j]? = some u → w.cell? (ad.add j) = some u := by
      intro j u hu
      rcases hr with h | ⟨ad', h, _, hc⟩
      · subst h; simp at hu
      · injection h with h; subst h; exact hc j u hu
    obtain ⟨v', w', hrun, h2, h3, _⟩ := run_append_own (P := P) w base t ty e i z 1 bytes ht hi hz hsize hby hzs (by decide) v n xs hown ad m c news (by omega) hc h1 h63 hbytes hbase
    exact ⟨v', w', hrun, h2, h3⟩

theorem wp_append_rd {o : Oper} {a : Act} {K : Act → World → Prop} {Q : Exit → Act → World → Prop} (s x : Operand) (t : TypeId)
    (ho : o.op = .call { callee := .builtin .append, args := #[s, x], argTypes := #[t, t] })
    (base : Nat) (e : TypeId) (i : TypeInfo) (z : Value) (bytes : Nat) (ht : P.underlying t = some (.slice e)) (hi : P.info? e = some i) (hz : i.zero = some z)
    (hsize : i.size = 1) (hby : i.bytes = bytes) (hzs : z.cells.size = 1)
    (v : Value) (n : Nat) (xs : List Value) (hs : a.eval s = v) (hown : w.ownsRow base e 1 v n xs)
    (B : Nat) (A : Option Addr) (m c : Nat) (news : List Value) (hx : a.eval x = .slice A m c) (hm : news.length = m) (hr : Rd w B A news) (h1 : ∀ u ∈ news, u.oneCell' = true)
    (h63 : n + m ≤ maxLen) (hbytes : (n + m) * bytes ≤ 140737488355328) (hbase : base ≤ w.heap.size)
    (h : ∀ v' w', w'.ownsRow base e 1 v' (n + m) (xs ++ news) → w.grownBy w' v.ownBlock → K (a.put o.dst v') w') : o.wp P a w K Q := by
  obtain ⟨v', w', hrun, h2, h3⟩ := run_append_rd (P := P) base t o.type e i z bytes ht hi hz hsize hby hzs v n xs hown B A m c news hm hr h1 h63 hbytes hbase
  unfold Oper.wp execOp
  simp only [ho, resolve, invoke, builtin, Sem.run_bind, Sem.run_pure, Result.andThen_ok, List.map_toArray, List.map_cons, List.map_nil, hs, hx, hrun]
  exact h v' w' h2 h3

theorem wpList_append_rd {ops : Array Oper} {rest : List Oper} {o : Oper} {a : Act} {Q : Exit → Act → World → Prop} (hw : Region.wanted o (yielded ops a.tmps) = true) (s x : Operand) (t : TypeId)
    (ho : o.op = .call { callee := .builtin .append, args := #[s, x], argTypes := #[t, t] })
    (base : Nat) (e : TypeId) (i : TypeInfo) (z : Value) (bytes : Nat) (ht : P.underlying t = some (.slice e)) (hi : P.info? e = some i) (hz : i.zero = some z)
    (hsize : i.size = 1) (hby : i.bytes = bytes) (hzs : z.cells.size = 1)
    (v : Value) (n : Nat) (xs : List Value) (hs : a.eval s = v) (hown : w.ownsRow base e 1 v n xs)
    (B : Nat) (A : Option Addr) (m c : Nat) (news : List Value) (hx : a.eval x = .slice A m c) (hm : news.length = m) (hr : Rd w B A news) (h1 : ∀ u ∈ news, u.oneCell' = true)
    (h63 : n + m ≤ maxLen) (hbytes : (n + m) * bytes ≤ 140737488355328) (hbase : base ≤ w.heap.size)
    (h : ∀ v' w', w'.ownsRow base e 1 v' (n + m) (xs ++ news) → w.grownBy w' v.ownBlock → wpList P ops Q rest (a.put o.dst v') w') : wpList P ops Q (o :: rest) a w :=
  wpList_step fun _ hK => by
    rw [if_pos hw]
    exact wp_append_rd s x t ho base e i z bytes ht hi hz hsize hby hzs v n xs hs hown B A m c news hx hm hr h1 h63 hbytes hbase fun v' w' h2 h3 => hK _ _ (h v' w' h2 h3)

theorem step_append_rd {ops : Array Oper} {o : Oper} {a : Act} {K : Act → World → Prop} {Q : Exit → Act → World → Prop} {E : Prop} (hw : Region.wanted o (yielded ops a.tmps) = true) (s x : Operand) (t : TypeId)
    (ho : o.op = .call { callee := .builtin .append, args := #[s, x], argTypes := #[t, t] })
    (base : Nat) (e : TypeId) (i : TypeInfo) (z : Value) (bytes : Nat) (ht : P.underlying t = some (.slice e)) (hi : P.info? e = some i) (hz : i.zero = some z)
    (hsize : i.size = 1) (hby : i.bytes = bytes) (hzs : z.cells.size = 1)
    (v : Value) (n : Nat) (xs : List Value) (hs : a.eval s = v) (hown : w.ownsRow base e 1 v n xs)
    (B : Nat) (A : Option Addr) (m c : Nat) (news : List Value) (hx : a.eval x = .slice A m c) (hm : news.length = m) (hr : Rd w B A news) (h1 : ∀ u ∈ news, u.oneCell' = true)
    (h63 : n + m ≤ maxLen) (hbytes : (n + m) * bytes ≤ 140737488355328) (hbase : base ≤ w.heap.size)
    (h : ∀ v' w', w'.ownsRow base e 1 v' (n + m) (xs ++ news) → w.grownBy w' v.ownBlock → K (a.put o.dst v') w') :
    if Region.wanted o (yielded ops a.tmps) = true then Oper.wp P o a w K Q else E := by
  rw [if_pos hw]
  exact wp_append_rd s x t ho base e i z bytes ht hi hz hsize hby hzs v n xs hs hown B A m c news hx hm hr h1 h63 hbytes hbase h

/-- a text as bytes -/
theorem run_bytes (w : World) (src dst e : TypeId) (s : ByteArray) (hs : P.underlying src = some .string) (hd : P.underlying dst = some (.slice e)) (he : P.underlying e = some (.int .u8)) :
    ∃ c w1, (convert src dst (.string s)).run P w = .ok (.slice (some ⟨w.heap.size, 0, none⟩) s.size c) w1 ∧ Sl w1 w1.heap.size (some ⟨w.heap.size, 0, none⟩) s.size c s.data.toList ∧ Below w.heap.size w w1 := by
  have hl : s.data.toList.length = s.size := by rw [Array.length_toList]; rfl
  refine ⟨_, _, Lib.run_convert_string_bytes w src dst e s hs hd he, ⟨.inr ⟨_, rfl, ?_, fun j u hu => ?_⟩, hl, grownCap_ge _ _ _ _⟩, ⟨?_, ?_, ?_, ?_, fun k hk => Lib.bytesWorld_at_old w e s k hk⟩⟩
  · rw [Lib.bytesWorld_size]; exact Nat.lt_succ_self _
  · have hj : j < s.size := by
      have := (List.getElem?_eq_some_iff.1 hu).1
      rw [bvs_length, hl] at this
      exact this
    have hadd : (⟨w.heap.size, 0, none⟩ : Addr).add j = ⟨w.heap.size, j, none⟩ := by unfold Addr.add; split <;> simp_all
    rw [hadd, Lib.bytesWorld_cell w e s j hj]
    rw [bvs_get _ j (by omega)] at hu
    rw [← hu, bv]
    simp [List.getD, List.getElem?_eq_getElem (show j < s.data.toList.length by omega)]
  · rfl
  · rfl
  · rfl
  · rw [Lib.bytesWorld_size]; omega
end
end

/- What tokens a text has: plain functions of lists of bytes (no function of the program is named here). -/
section
open Go.RowKit

def blankF (c : UInt8) : Bool := c == 32 || c == 9 || c == 10 || c == 13
def digitF (c : UInt8) : Bool := decide (48 ≤ c.toNat) && decide (c.toNat ≤ 57)
def letterF (c : UInt8) : Bool := decide (65 ≤ c.toNat) && decide (c.toNat ≤ 90) || decide (97 ≤ c.toNat) && decide (c.toNat ≤ 122) || decide (c.toNat = 95)
def lodF (c : UInt8) : Bool := letterF c || digitF c
def signF (c : UInt8) : Bool := !(decide (c.toNat ≤ 32) || decide (126 < c.toNat) || lodF c) && (decide (c.toNat ≠ 34) && decide (c.toNat ≠ 96) && decide (c.toNat ≠ 39) && decide (c.toNat ≠ 35))
def upF (c : UInt8) : UInt8 := if 97 ≤ c.toNat ∧ c.toNat ≤ 122 then c - 32 else c
def greatF (l : List UInt8) : List UInt8 := l.map upF
/-- how many bytes at the beginning are such -/
def runF (p : UInt8 → Bool) : List UInt8 → Nat
  | [] => 0
  | c :: r => if p c then runF p r + 1 else 0
theorem runF_le (p : UInt8 → Bool) : ∀ l, runF p l ≤ l.length
  | [] => Nat.le_refl _
  | c :: r => by
    have := runF_le p r
    unfold runF
    split <;> simp <;> omega
theorem runF_drop (p : UInt8 → Bool) : ∀ (l : List UInt8) (k : Nat), (∀ j (h : j < l.length), j < k → p l[j] = true) → k ≤ l.length → runF p l = k + runF p (l.drop k)
  | l, 0, _, _ => by simp
  | [], k + 1, _, h => by simp at h
  | c :: r, k + 1, h, hk => by
    have h0 : p c = true := h 0 (by simp) (by omega)
    have := runF_drop p r k (fun j hj hjk => h (j + 1) (by simpa using hj) (by omega)) (by simpa using hk)
    rw [runF, if_pos h0, this, List.drop_succ_cons]
    omega
theorem runF_all (p : UInt8 → Bool) : ∀ (l : List UInt8), ∀ c ∈ l.take (runF p l), p c = true
  | [], c, h => by simp at h
  | a :: r, c, h => by
    unfold runF at h
    split at h
    · rename_i ha
      rw [List.take_succ_cons] at h
      rcases List.mem_cons.1 h with rfl | h
      · exact ha
      · exact runF_all p r c h
    · simp at h
theorem runF_none {p : UInt8 → Bool} {c : UInt8} {r : List UInt8} (h : p c = false) : runF p (c :: r) = 0 := by unfold runF; simp [h]
theorem runF_some {p : UInt8 → Bool} {c : UInt8} {r : List UInt8} (h : p c = true) : runF p (c :: r) = runF p r + 1 := by rw [runF, if_pos h]

/-- what stands up to a byte q that stands alone, and how many bytes that takes -/
def quotedF (q : UInt8) : List UInt8 → Option (List UInt8 × Nat)
  | [] => none
  | [b] => if b = q then some ([], 1) else none
  | b :: d :: r => if b = q then (if d = q then (quotedF q r).map fun x => (q :: x.1, x.2 + 2) else some ([], 1)) else (quotedF q (d :: r)).map fun x => (b :: x.1, x.2 + 1)
theorem quotedF_other {q b : UInt8} {r : List UInt8} (h : b ≠ q) : quotedF q (b :: r) = (quotedF q r).map fun x => (b :: x.1, x.2 + 1) := by
  cases r with
  | nil => simp [quotedF, h]
  | cons d r => rw [quotedF]; simp [h]
theorem quotedF_twice {q : UInt8} {r : List UInt8} : quotedF q (q :: q :: r) = (quotedF q r).map fun x => (q :: x.1, x.2 + 2) := by rw [quotedF]; simp
theorem quotedF_ends {q : UInt8} {r : List UInt8} (h : r[0]? ≠ some q) : quotedF q (q :: r) = some ([], 1) := by
  cases r with
  | nil => simp [quotedF]
  | cons d r => rw [quotedF]; simp at h; simp [h]
theorem quotedF_le {q : UInt8} : ∀ {l : List UInt8} {x : List UInt8 × Nat}, quotedF q l = some x → 1 ≤ x.2 ∧ x.2 ≤ l.length ∧ x.1.length + 1 ≤ x.2
  | [], x, h => by simp [quotedF] at h
  | [b], x, h => by
    rw [quotedF] at h
    split at h
    · simp at h; subst h; simp
    · simp at h
  | b :: d :: r, x, h => by
    rw [quotedF] at h
    split at h
    · split at h
      · obtain ⟨y, hy, rfl⟩ := Option.map_eq_some_iff.1 h
        have := quotedF_le hy
        simp; omega
      · simp at h; subst h; simp
    · obtain ⟨y, hy, rfl⟩ := Option.map_eq_some_iff.1 h
      have := quotedF_le hy
      simp at this ⊢; omega

def ends2 : List UInt8 := [42, 47]
/-- how many bytes there are up to the end of a remark or a hint, and with that: 0 if there is none -/
def closedF (l : List UInt8) (o : Nat) : Nat := if Lib.index (l.drop o) ends2 < 0 then 0 else o + (Lib.index (l.drop o) ends2).toNat + 2
def blanks4 : List UInt8 := [32, 9, 10, 13]
def trimF (l : List UInt8) : List UInt8 := Lib.trimS l blanks4
def begF (p l : List UInt8) : Bool := Lib.hasPrefix l p

/-- the token that a text begins with: its Kind, its Text, its size -/
def firstF : List UInt8 → Option (Nat × List UInt8 × Nat)
  | [] => none
  | c :: r =>
    if letterF c then some (1, greatF ((c :: r).take (runF lodF (c :: r))), runF lodF (c :: r))
    else if digitF c then some (4, (c :: r).take (runF digitF (c :: r)), runF digitF (c :: r))
    else if c.toNat = 34 ∨ c.toNat = 96 then (quotedF c r).map fun x => (2, x.1, x.2 + 1)
    else if c.toNat = 39 then (quotedF c r).map fun x => (3, x.1, x.2 + 1)
    else if begF [47, 42, 43] (c :: r) then (if closedF (c :: r) 3 = 0 then none else some (5, trimF (((c :: r).take (closedF (c :: r) 3 - 2)).drop 3), closedF (c :: r) 3))
    else if signF c then some (6, [c], 1)
    else none

inductive Step where
  | bad
  | skip (n : Nat)
  | tok (k : Nat) (t : List UInt8) (n : Nat)

def lineF (l : List UInt8) : Nat := if Lib.indexByte l 10 < 0 then l.length else (Lib.indexByte l 10).toNat
def isLineF : List UInt8 → Bool
  | [] => false
  | c :: r => decide (c.toNat = 35) || begF [45, 45] (c :: r)
def isRemarkF (l : List UInt8) : Bool := begF [47, 42] l && !begF [47, 42, 43] l

def stepF : List UInt8 → Step
  | [] => .bad
  | c :: r =>
    if blankF c then .skip 1
    else if isLineF (c :: r) then .skip (lineF (c :: r))
    else if isRemarkF (c :: r) then (if closedF (c :: r) 2 = 0 then .bad else .skip (closedF (c :: r) 2))
    else match firstF (c :: r) with
      | none => .bad
      | some (k, t, n) => .tok k t n

/-- a text's tokens -/
def lexF (l : List UInt8) : Option (List (Int × List UInt8)) :=
  if _h : l = [] then some []
  else match stepF l with
    | .bad => none
    | .skip n => if _hn : n = 0 then none else lexF (l.drop n)
    | .tok k t n => if _hn : n = 0 then none else (lexF (l.drop n)).map (((k : Int), t) :: ·)
termination_by l.length
decreasing_by
  all_goals
    rw [List.length_drop]
    have : 0 < l.length := List.length_pos_iff.2 _h
    omega

theorem lexF_nil : lexF [] = some [] := by rw [lexF]; simp
theorem lexF_bad {l : List UInt8} (h : l ≠ []) (hs : stepF l = .bad) : lexF l = none := by rw [lexF, dif_neg h, hs]
theorem lexF_skip {l : List UInt8} {n : Nat} (h : l ≠ []) (hs : stepF l = .skip n) (hn : n ≠ 0) : lexF l = lexF (l.drop n) := by rw [lexF, dif_neg h, hs]; simp [hn]
theorem lexF_tok {l : List UInt8} {n k : Nat} {t : List UInt8} (h : l ≠ []) (hs : stepF l = .tok k t n) (hn : n ≠ 0) : lexF l = (lexF (l.drop n)).map (((k : Int), t) :: ·) := by rw [lexF, dif_neg h, hs]; simp [hn]

theorem index_room {s sub : List UInt8} (h : 0 ≤ Lib.index s sub) (hs : sub ≠ []) : (Lib.index s sub).toNat + sub.length ≤ s.length := by
  induction s with
  | nil =>
    unfold Lib.index at h
    cases sub with
    | nil => exact absurd rfl hs
    | cons a t => simp at h
  | cons b l ih =>
    unfold Lib.index at h ⊢
    by_cases hp : sub.isPrefixOf (b :: l) = true
    · rw [if_pos hp]
      have := (List.isPrefixOf_iff_prefix.1 hp).length_le
      simpa using this
    · rw [if_neg hp] at h ⊢
      by_cases hm : (Lib.index l sub == -1) = true
      · rw [if_pos hm] at h; omega
      · rw [if_neg hm] at h ⊢
        have hge := Lib.index_ge l sub
        have hne : Lib.index l sub ≠ -1 := by simpa using hm
        have := ih (by omega)
        simp
        omega
theorem closedF_le (l : List UInt8) (o : Nat) (ho : o ≤ l.length) : closedF l o ≤ l.length ∧ (closedF l o ≠ 0 → o + 2 ≤ closedF l o) := by
  unfold closedF
  split
  · exact ⟨Nat.zero_le _, fun h => absurd rfl h⟩
  · have := index_room (s := l.drop o) (sub := ends2) (by omega) (by decide)
    rw [List.length_drop, show ends2.length = 2 from rfl] at this
    exact ⟨by omega, fun _ => by omega⟩
theorem indexByte_lt : ∀ {l : List UInt8} {c : UInt8}, 0 ≤ Lib.indexByte l c → (Lib.indexByte l c).toNat < l.length
  | [], c, h => by simp [Lib.indexByte] at h
  | b :: l, c, h => by
    unfold Lib.indexByte at h ⊢
    by_cases hb : (b == c) = true
    · rw [if_pos hb]; simp
    · rw [if_neg hb] at h ⊢
      by_cases hm : (Lib.indexByte l c == -1) = true
      · rw [if_pos hm] at h; omega
      · rw [if_neg hm] at h ⊢
        have hne : Lib.indexByte l c ≠ -1 := by simpa using hm
        have hge := indexByte_ge1 l c
        have := indexByte_lt (l := l) (c := c) (by omega)
        simp
        omega
where
  indexByte_ge1 (l : List UInt8) (c : UInt8) : -1 ≤ Lib.indexByte l c := by
    induction l with
    | nil => exact Int.le_refl _
    | cons b l ih =>
      unfold Lib.indexByte
      split
      · decide
      · split
        · decide
        · omega
end

/- The library's contracts in these texts' own words: a builder's bytes as a list, texts as lists of bytes. -/
section
open Go.RowKit
set_option maxRecDepth 100000

theorem byteCells_bvs (l : List UInt8) : Lib.byteCells l = bvs l := rfl
theorem text_len (s : ByteArray) : s.data.toList.length = s.size := by rw [Array.length_toList]; rfl
theorem text_ext {s t : ByteArray} (h : s.data.toList = t.data.toList) : s = t := by
  cases s; cases t
  simp only [ByteArray.mk.injEq]
  exact Array.toList_inj.1 h
theorem text_cut (s : ByteArray) (a b : Nat) : (s.extract a b).data.toList = (s.data.toList.drop a).take (b - a) := by
  rw [ByteArray.data_extract]
  simp
theorem text_rest (s : ByteArray) (a : Nat) : (s.extract a s.size).data.toList = s.data.toList.drop a := by
  rw [text_cut, List.take_of_length_le]
  rw [List.length_drop, text_len]
  exact Nat.le_refl _
theorem text_front (s : ByteArray) (b : Nat) : (s.extract 0 b).data.toList = s.data.toList.take b := by
  rw [text_cut]
  simp
theorem text_at (s : ByteArray) (i : Nat) (h : i < s.size) : s[i] = s.data.toList[i]'(by rw [text_len]; exact h) := by
  rw [Array.getElem_toList]
  rfl

/-- the variable that the library's search reads holds some number -/
def Lw (w : World) : Prop := ∃ m : Int, w.cell? ⟨0, 0, none⟩ = some (.int .i64 m)
theorem Lw.next {w w' : World} (h : Lw w) (hb : Below w.heap.size w w') : Lw w' := by
  obtain ⟨m, hm⟩ := h
  exact ⟨m, (hb.cell (World.block_lt_of_cell? _ _ hm)).trans hm⟩
theorem Lw.below {w w' : World} {B : Nat} (h : Lw w) (hb : Below B w w') (hB : 0 < B) : Lw w' := by
  obtain ⟨m, hm⟩ := h
  exact ⟨m, (hb.cell hB).trans hm⟩

theorem indexByte_s (s : ByteArray) (c : UInt8) (w : World) : Calls Tryz.prog 30 #[.string s, .int .u8 (c.toNat : Int)] w fun e w' => e = .returned (.int .i64 (Lib.indexByte s.data.toList c)) ∧ w' = w := by
  have h := Tryz.strings_IndexByte s (c.toNat : Int) w
  have e : (c.toNat : Int).toNat.toUInt8 = c := by simp
  rw [e] at h
  exact h

theorem index_s (s sub : ByteArray) (w : World) (hL : Lw w) (hs : s.size ≤ 1000000) : Calls Tryz.prog 60 #[.string s, .string sub] w fun e w' => e = .returned (.int .i64 (Lib.index s.data.toList sub.data.toList)) ∧ w' = w := by
  obtain ⟨m, hm⟩ := hL
  exact Tryz.strings_Index s sub m w (by omega) hm

theorem hasPrefix_s (s p : ByteArray) (w : World) : Calls Tryz.prog 58 #[.string s, .string p] w fun e w' => e = .returned (.bool (begF p.data.toList s.data.toList)) ∧ w' = w := Tryz.strings_HasPrefix s p w

theorem trim_s (s : ByteArray) (w : World) (hs : s.size ≤ 1000000) : Calls Tryz.prog 95 #[.string s, .string ⟨#[32, 9, 10, 13]⟩] w fun e w' => ∃ r : ByteArray, e = .returned (.string r) ∧ r.data.toList = trimF s.data.toList ∧ Below w.heap.size w w' := by
  have h := Any.strings_Trim_laid Tryz.lays160 (by kernel_rfl) s ⟨#[32, 9, 10, 13]⟩ w (by omega) (by decide) (ascii_of_all (by decide))
  change Calls Tryz.prog 95 _ _ _ at h
  exact h.mono fun _ _ ⟨he, hb⟩ => ⟨_, he, by simp [trimF, blanks4], hb⟩

/-- a builder of the call's own that holds these bytes -/
def Bd (B b : Nat) (l : List UInt8) (w : World) : Prop := Lib.IsBuilderF 122 5 B b (Lib.byteCells l) w
/-- what a write leaves as it was -/
def Kept (b : Nat) (w w' : World) : Prop := Lib.OthersKept 5 (some b) w w'

theorem Bd.new (w : World) (B : Nat) (hB : B ≤ w.heap.size) : Bd B w.heap.size [] (w.alloc (.cells #[.pointer none, .slice none 0 0] 122)) := by
  have h := Lib.IsBuilderF.of (Lib.fresh_isBuilder 122 5 w)
  rcases h with ⟨_, v, hb, hown, hne⟩ | ⟨_, v, hb, hown, hne⟩
  · have hz := hown.1
    refine .inl ⟨hB, v, hb, ⟨hz, ?_⟩, hne⟩
    rcases hown.2 with h2 | ⟨g, cap, cur, fz, hv, hg, r⟩
    · exact .inl h2
    · exact .inr ⟨g, cap, cur, fz, hv, by omega, r⟩
  · have hz := hown.1
    refine .inr ⟨hB, v, hb, ⟨hz, ?_⟩, hne⟩
    rcases hown.2 with h2 | ⟨g, cap, cur, fz, hv, hg, r⟩
    · exact .inl h2
    · exact .inr ⟨g, cap, cur, fz, hv, by omega, r⟩
theorem Bd.alloc {B b : Nat} {l : List UInt8} {w : World} (h : Bd B b l w) (o : Obj) : Bd B b l (w.alloc o) := Lib.IsBuilderF.alloc h o

theorem writeByte_s (B b : Nat) (l : List UInt8) (c : UInt8) (w : World) (h : Bd B b l w) (hl : l.length ≤ 100000000) (hB : B ≤ w.heap.size) :
    Calls Tryz.prog 73 #[.pointer (some ⟨b, 0, none⟩), .int .u8 (c.toNat : Int)] w fun e w' => e = .returned .nilIface ∧ Bd B b (l ++ [c]) w' ∧ Below B w w' ∧ Kept b w w' := by
  have k := Any.Builder_WriteByte_k Tryz.blay167 Tryz.bextra B b (Lib.byteCells l) (c.toNat : Int) w h (by rw [Lib.byteCells_length]; omega) hB
  change Calls Tryz.prog 73 _ _ _ at k
  refine k.mono fun e w' ⟨he, h1, h2, h3⟩ => ⟨he, ?_, h2, h3⟩
  unfold Bd
  rw [Lib.byteCells_append]
  exact .inr h1

theorem writeString_s (B b : Nat) (l : List UInt8) (s : ByteArray) (w : World) (h : Bd B b l w) (hl : l.length ≤ 100000000) (hs : s.size ≤ 100000000) (hB : B ≤ w.heap.size) :
    Calls Tryz.prog 74 #[.pointer (some ⟨b, 0, none⟩), .string s] w fun e w' => e = .returned (.tuple #[.int .i64 s.size, .nilIface]) ∧ Bd B b (l ++ s.data.toList) w' ∧ Below B w w' ∧ Kept b w w' := by
  have k := Any.Builder_WriteString_k Tryz.blay166 Tryz.bextra B b (Lib.byteCells l) s w h (by rw [Lib.byteCells_length]; omega) hB
  change Calls Tryz.prog 74 _ _ _ at k
  refine k.mono fun e w' ⟨he, h1, h2, h3⟩ => ⟨he, ?_, h2, h3⟩
  unfold Bd
  rw [Lib.byteCells_append]
  exact .inr h1

theorem writeRune_s (B b : Nat) (l : List UInt8) (c : UInt8) (w : World) (h : Bd B b l w) (hl : l.length ≤ 100000000) (hc : c.toNat < 128) (hB : B ≤ w.heap.size) :
    Calls Tryz.prog 94 #[.pointer (some ⟨b, 0, none⟩), .int .i32 (c.toNat : Int)] w fun e w' => e = .returned (.tuple #[.int .i64 1, .nilIface]) ∧ Bd B b (l ++ [c]) w' ∧ Below B w w' ∧ Kept b w w' := by
  have k := Any.Builder_WriteRune_k Tryz.blay168 Tryz.bextra B b (Lib.byteCells l) (c.toNat : Int) (by omega) (by omega) w h (by rw [Lib.byteCells_length]; omega) hB
  have e1 : Lib.runeCells (c.toNat : Int) = [.int .u8 (c.toNat : Int)] := by rw [Lib.runeCells, Lib.encodeRuneZ_one (by omega) (by omega)]; rfl
  rw [e1] at k
  change Calls Tryz.prog 94 _ _ _ at k
  refine k.mono fun e w' ⟨he, h1, h2, h3⟩ => ⟨he, ?_, h2, h3⟩
  unfold Bd
  rw [Lib.byteCells_append]
  exact .inr h1

theorem string_s (B b : Nat) (l : List UInt8) (w : World) (h : Bd B b l w) (hB : B ≤ w.heap.size) :
    Calls Tryz.prog 76 #[.pointer (some ⟨b, 0, none⟩)] w fun e w' => ∃ r : ByteArray, e = .returned (.string r) ∧ r.data.toList = l ∧ Below B w w' := by
  have k := Any.Builder_String_any_k { Tryz.lays155 with } Tryz.Builder_Extra_155 B b l w h hB
  change Calls Tryz.prog 76 _ _ _ at k
  exact k.mono fun e w' ⟨he, _, h2, _⟩ => ⟨_, he, by simp, h2⟩
end

/- What the small functions of package lex do: contracts. -/
section
open Go.RowKit
set_option maxRecDepth 100000

theorem by_all (p : UInt8 → Bool) (h : ∀ n : Fin 256, p (UInt8.ofNat n.val) = true) (c : UInt8) : p c = true := by
  have := h ⟨c.toNat, c.toNat_lt⟩
  simpa using this

theorem ret_bool {a b : Bool} (h : a = b) : Ending.returned (.bool a) = .returned (.bool b) := by rw [h]

theorem isBlank_ok (c : UInt8) (w : World) : Calls Tryz.prog 28 #[.int .u8 (c.toNat : Int)] w fun e w' => e = .returned (.bool (blankF c)) ∧ w = w' := by
  have hF : decide (0 ≤ Lib.indexByte [32, 9, 10, 13] c) = blankF c := by
    have := by_all (fun c => decide (0 ≤ Lib.indexByte [32, 9, 10, 13] c) == blankF c) (by decide +kernel) c
    simpa using this
  have HF := Lib.hid hF
  clear hF
  go_enter Tryz.func28, Tryz.ntmps28
  go_wp2_with (go_at_call 30; refine (indexByte_s _ c w).mono ?_; rintro e w' ⟨rfl, rfl⟩)
  go_ret
  refine ⟨?_, rfl⟩
  rw [← HF.out]
  rfl

theorem isDigit_ok (c : UInt8) (w : World) : Calls Tryz.prog 65 #[.int .u8 (c.toNat : Int)] w fun e w' => e = .returned (.bool (digitF c)) ∧ w = w' := by
  have hF : digitF c = (decide (48 ≤ c.toNat) && decide (c.toNat ≤ 57)) := rfl
  have HF := Lib.hid hF
  clear hF
  go_enter Tryz.func65, Tryz.ntmps65
  go_wp2
  all_goals
    go_ret
    refine ⟨ret_bool ?_, rfl⟩
    rw [HF.out, Bool.eq_iff_iff]
    simp
    try omega

theorem isLetter_ok (c : UInt8) (w : World) : Calls Tryz.prog 61 #[.int .u8 (c.toNat : Int)] w fun e w' => e = .returned (.bool (letterF c)) ∧ w = w' := by
  have hF : letterF c = (decide (65 ≤ c.toNat) && decide (c.toNat ≤ 90) || decide (97 ≤ c.toNat) && decide (c.toNat ≤ 122) || decide (c.toNat = 95)) := rfl
  have HF := Lib.hid hF
  clear hF
  go_enter Tryz.func61, Tryz.ntmps61
  go_wp2
  all_goals
    go_ret
    refine ⟨ret_bool ?_, rfl⟩
    rw [HF.out, Bool.eq_iff_iff]
    simp
    try omega

theorem isLetterOrDigit_ok (c : UInt8) (w : World) : Calls Tryz.prog 63 #[.int .u8 (c.toNat : Int)] w fun e w' => e = .returned (.bool (lodF c)) ∧ w = w' := by
  have hF : lodF c = (letterF c || digitF c) := rfl
  have HF := Lib.hid hF
  clear hF
  generalize hl : letterF c = a
  generalize hd : digitF c = b
  rw [hl, hd] at HF
  have H1 := isLetter_ok c w
  have H2 := isDigit_ok c w
  rw [hl] at H1
  rw [hd] at H2
  clear hl hd
  have H1 := Lib.hid H1
  have H2 := Lib.hid H2
  cases a <;> cases b
  all_goals
    go_enter Tryz.func63, Tryz.ntmps63
    go_wp2_with (first
      | (go_at_call 61; refine H1.out.mono ?_; rintro e w' ⟨rfl, rfl⟩)
      | (go_at_call 65; refine H2.out.mono ?_; rintro e w' ⟨rfl, rfl⟩))
    go_ret
    exact ⟨by rw [HF.out]; rfl, rfl⟩

theorem isSign_ok (c : UInt8) (w : World) : Calls Tryz.prog 68 #[.int .u8 (c.toNat : Int)] w fun e w' => e = .returned (.bool (signF c)) ∧ w = w' := by
  have hF : signF c = (!(decide (c.toNat ≤ 32) || decide (126 < c.toNat) || lodF c) && (decide (c.toNat ≠ 34) && decide (c.toNat ≠ 96) && decide (c.toNat ≠ 39) && decide (c.toNat ≠ 35))) := rfl
  generalize hl : lodF c = a
  rw [hl] at hF
  have HF := Lib.hid hF
  have H1 := isLetterOrDigit_ok c w
  rw [hl] at H1
  clear hl hF
  have H1 := Lib.hid H1
  cases a
  all_goals
    go_enter Tryz.func68, Tryz.ntmps68
    go_wp2_with (go_at_call 63; refine H1.out.mono ?_; rintro e w' ⟨rfl, rfl⟩)
  all_goals
    go_ret
    refine ⟨ret_bool ?_, rfl⟩
    rw [HF.out, Bool.eq_iff_iff]
    simp
    try omega
end

/- How many bytes at the beginning of a text are such: contracts. -/
section
open Go.RowKit
set_option maxRecDepth 100000

set_option maxHeartbeats 400000 in
theorem run_lod_same (s : ByteArray) (w : World) (hs : s.size ≤ 1000000) : Calls Tryz.prog 62 #[.string s, .func (.func 63) #[] #[]] w fun e w' => e = .returned (.int .i64 (runF lodF s.data.toList : Int)) ∧ w' = w := by
  have hall : ∀ k, k ≤ s.size → (∀ j (h : j < s.data.toList.length), j < k → lodF s.data.toList[j] = true) → runF lodF s.data.toList = k + runF lodF (s.data.toList.drop k) := fun k hk h => runF_drop _ _ k h (by rw [text_len]; exact hk)
  generalize hR : runF lodF s.data.toList = R at *
  have HA := Lib.hid hall
  clear hall hR
  go_enter Tryz.func62, Tryz.ntmps62
  go_wp2
  go_loopw [5] (fun n wr => ∃ k : Nat, k ≤ s.size ∧ n = .int .i64 k ∧ Hid (∀ j (h : j < s.data.toList.length), j < k → lodF s.data.toList[j] = true) ∧ wr = w) (fun n _ => s.size - (intOf n).toNat)
  case atStart => exact ⟨0, Nat.zero_le _, rfl, Lib.hid (fun j _ h => by omega), rfl⟩
  case round =>
    obtain ⟨k, hk, rfl, hin, rfl⟩ := hrel
    by_cases hlt : k < s.size
    · have hb := text_at s k hlt
      have hd : s.data.toList.drop k = s.data.toList[k]'(by rw [text_len]; exact hlt) :: s.data.toList.drop (k + 1) := List.drop_eq_getElem_cons _
      generalize hc : s.data.toList[k]'(by rw [text_len]; exact hlt) = c at hb hd
      have hp := isLetterOrDigit_ok c
      have HD := Lib.hid hd
      have HC := Lib.hid hc
      clear hd hc
      cases hpc : lodF c
      · rw [hpc] at hp
        have HP := Lib.hid hp
        clear hp
        have hR : R = k := by rw [HA.out k hk hin.out, HD.out, runF_none hpc]; rfl
        subst hR
        clear hpc
        go_wp2_with fail
        refine (HP.out _).mono ?_
        rintro e w' ⟨rfl, rfl⟩
        go_wp2_with fail
        go_ret
        exact ⟨rfl, rfl⟩
      · rw [hpc] at hp
        have HP := Lib.hid hp
        have hin2 : Hid (∀ j (h : j < s.data.toList.length), j < k + 1 → lodF s.data.toList[j] = true) := Lib.hid (fun j h hj => by
          rcases Nat.lt_or_ge j k with h1 | h1
          · exact hin.out j h h1
          · obtain rfl : j = k := by omega
            rw [HC.out]; exact hpc)
        clear hp hpc
        go_wp2_with fail
        refine (HP.out _).mono ?_
        rintro e w' ⟨rfl, rfl⟩
        go_wp2_with fail
        go_roundw
        case rel => exact ⟨k + 1, by omega, by go_num, hin2, trivial⟩
        case measure => simp [intOf]; omega
    · have hk' : k = s.size := by omega
      have hR : R = k := by rw [HA.out k hk hin.out, List.drop_eq_nil_of_le (by rw [text_len]; omega)]; rfl
      subst hR
      go_wp2_with fail
      go_ret
      exact ⟨rfl, rfl⟩

set_option maxHeartbeats 400000 in
theorem run_digit_same (s : ByteArray) (w : World) (hs : s.size ≤ 1000000) : Calls Tryz.prog 62 #[.string s, .func (.func 65) #[] #[]] w fun e w' => e = .returned (.int .i64 (runF digitF s.data.toList : Int)) ∧ w' = w := by
  have hall : ∀ k, k ≤ s.size → (∀ j (h : j < s.data.toList.length), j < k → digitF s.data.toList[j] = true) → runF digitF s.data.toList = k + runF digitF (s.data.toList.drop k) := fun k hk h => runF_drop _ _ k h (by rw [text_len]; exact hk)
  generalize hR : runF digitF s.data.toList = R at *
  have HA := Lib.hid hall
  clear hall hR
  go_enter Tryz.func62, Tryz.ntmps62
  go_wp2
  go_loopw [5] (fun n wr => ∃ k : Nat, k ≤ s.size ∧ n = .int .i64 k ∧ Hid (∀ j (h : j < s.data.toList.length), j < k → digitF s.data.toList[j] = true) ∧ wr = w) (fun n _ => s.size - (intOf n).toNat)
  case atStart => exact ⟨0, Nat.zero_le _, rfl, Lib.hid (fun j _ h => by omega), rfl⟩
  case round =>
    obtain ⟨k, hk, rfl, hin, rfl⟩ := hrel
    by_cases hlt : k < s.size
    · have hb := text_at s k hlt
      have hd : s.data.toList.drop k = s.data.toList[k]'(by rw [text_len]; exact hlt) :: s.data.toList.drop (k + 1) := List.drop_eq_getElem_cons _
      generalize hc : s.data.toList[k]'(by rw [text_len]; exact hlt) = c at hb hd
      have hp := isDigit_ok c
      have HD := Lib.hid hd
      have HC := Lib.hid hc
      clear hd hc
      cases hpc : digitF c
      · rw [hpc] at hp
        have HP := Lib.hid hp
        clear hp
        have hR : R = k := by rw [HA.out k hk hin.out, HD.out, runF_none hpc]; rfl
        subst hR
        clear hpc
        go_wp2_with fail
        refine (HP.out _).mono ?_
        rintro e w' ⟨rfl, rfl⟩
        go_wp2_with fail
        go_ret
        exact ⟨rfl, rfl⟩
      · rw [hpc] at hp
        have HP := Lib.hid hp
        have hin2 : Hid (∀ j (h : j < s.data.toList.length), j < k + 1 → digitF s.data.toList[j] = true) := Lib.hid (fun j h hj => by
          rcases Nat.lt_or_ge j k with h1 | h1
          · exact hin.out j h h1
          · obtain rfl : j = k := by omega
            rw [HC.out]; exact hpc)
        clear hp hpc
        go_wp2_with fail
        refine (HP.out _).mono ?_
        rintro e w' ⟨rfl, rfl⟩
        go_wp2_with fail
        go_roundw
        case rel => exact ⟨k + 1, by omega, by go_num, hin2, trivial⟩
        case measure => simp [intOf]; omega
    · have hk' : k = s.size := by omega
      have hR : R = k := by rw [HA.out k hk hin.out, List.drop_eq_nil_of_le (by rw [text_len]; omega)]; rfl
      subst hR
      go_wp2_with fail
      go_ret
      exact ⟨rfl, rfl⟩

theorem run_lod (s : ByteArray) (w : World) (hs : s.size ≤ 1000000) : Calls Tryz.prog 62 #[.string s, .func (.func 63) #[] #[]] w fun e w' => e = .returned (.int .i64 (runF lodF s.data.toList : Int)) ∧ Below w.heap.size w w' :=
  (run_lod_same s w hs).mono fun _ _ ⟨he, hw⟩ => ⟨he, hw ▸ Below.refl _ _⟩
theorem run_digit (s : ByteArray) (w : World) (hs : s.size ≤ 1000000) : Calls Tryz.prog 62 #[.string s, .func (.func 65) #[] #[]] w fun e w' => e = .returned (.int .i64 (runF digitF s.data.toList : Int)) ∧ Below w.heap.size w w' :=
  (run_digit_same s w hs).mono fun _ _ ⟨he, hw⟩ => ⟨he, hw ▸ Below.refl _ _⟩
end

/- A word with great letters; where a remark, or a hint, ends; what begins a remark: contracts. -/
section
open Go.RowKit
set_option maxRecDepth 100000

theorem up_byte (c : UInt8) (h1 : 97 ≤ c.toNat) (h2 : c.toNat ≤ 122) : ((upF c).toNat : Int) = (c.toNat : Int) + -32 := by
  have : ((c - 32).toNat : Int) = (c.toNat : Int) + -32 := by
    have h3 : (32 : UInt8) ≤ c := by rw [UInt8.le_iff_toNat_le]; simp; omega
    rw [UInt8.toNat_sub_of_le _ _ h3]
    simp
    omega
  unfold upF
  rw [if_pos ⟨h1, h2⟩]
  exact this
theorem up_same (c : UInt8) (h : ¬ (97 ≤ c.toNat ∧ c.toNat ≤ 122)) : upF c = c := by unfold upF; rw [if_neg h]
theorem up_lt (c : UInt8) (h : c.toNat < 128) : (upF c).toNat < 128 := by
  by_cases h1 : 97 ≤ c.toNat ∧ c.toNat ≤ 122
  · have := up_byte c h1.1 h1.2
    omega
  · rw [up_same c h1]; exact h
theorem drop_take_map (f : UInt8 → UInt8) (l : List UInt8) (k : Nat) (h : k < l.length) : (l.take (k + 1)).map f = (l.take k).map f ++ [f l[k]] := by
  rw [List.take_succ_eq_append_getElem h, List.map_append]
  rfl

set_option maxHeartbeats 1000000 in
theorem great_ok (s : ByteArray) (w : World) (hs : s.size ≤ 1000000) (ha : ∀ c ∈ s.data.toList, c.toNat < 128) : Calls Tryz.prog 64 #[.string s] w fun e w' => ∃ r : ByteArray, e = .returned (.string r) ∧ r.data.toList = greatF s.data.toList ∧ Below w.heap.size w w' := by
  have HA := Lib.hid ha
  clear ha
  have hlen := Lib.hid (text_len s)
  go_enter Tryz.func64, Tryz.ntmps64
  go_wp2
  go_loopw [] (fun wr => ∃ (pos : Nat), pos ≤ s.size ∧ Bd w.heap.size w.heap.size ((s.data.toList.take pos).map upF) wr ∧ wr.heap[w.heap.size + 1]? = some (.stringIter s pos) ∧ Below w.heap.size w wr) (fun wr => s.size - wr.iterPos (w.heap.size + 1))
  case atStart =>
    refine ⟨0, Nat.zero_le _, (Bd.new w w.heap.size (Nat.le_refl _)).alloc _, ?_, ((Below.refl _ w).alloc (Nat.le_refl _) _).alloc (by simp) _⟩
    have := World.iter_heap (w.alloc (.cells #[.pointer none, .slice none 0 0] 122)) s 0
    simpa using this
  case round =>
    obtain ⟨pos, hle, hI, hit, hbw⟩ := hrel
    have hsz : w.heap.size + 1 < wr.heap.size := (Array.getElem?_eq_some_iff.1 hit).1
    by_cases hp : pos < s.size
    · have hpl : pos < s.data.toList.length := by rw [hlen.out]; exact hp
      have hb := text_at s pos hp
      have hmem := HA.out (s.data.toList[pos]) (List.getElem_mem _)
      have hnext := Lib.hid (drop_take_map upF s.data.toList pos hpl)
      have hll : ((s.data.toList.take pos).map upF).length ≤ 1000000 := by rw [List.length_map, List.length_take]; omega
      generalize hc : s.data.toList[pos] = c at hb hmem hnext
      have hnx0 := fun ty => Lib.run_next_ascii_at (P := Tryz.prog) wr (w.heap.size + 1) s pos ty hit hp (by rw [hb]; exact hmem)
      rw [hb] at hnx0
      have hI2 := hI.iterAt hit (pos + 1)
      have hit2 := Lib.iterAt_heap wr (w.heap.size + 1) s pos (pos + 1) hit
      have hbw2 := Lib.below_iterAt hbw (k := w.heap.size + 1) (by omega) s (pos + 1)
      have hsz2 : w.heap.size ≤ (wr.iterAt (w.heap.size + 1) s (pos + 1)).heap.size := by rw [Lib.iterAt_size]; omega
      have hW := fun d (hd : d.toNat < 128) => writeRune_s w.heap.size w.heap.size _ d _ hI2 (by omega) hd hsz2
      have HW := Lib.hid hW
      clear hW hI hI2 hc hb
      by_cases hlow : 97 ≤ c.toNat ∧ c.toNat ≤ 122
      · obtain ⟨h1, h2⟩ := hlow
        have hu := up_byte c h1 h2
        have hlt := up_lt c hmem
        have HU := Lib.hid hu
        clear hu
        have HL := Lib.hid (And.intro h1 h2)
        have hW1 := HW.out (upF c) hlt
        rw [HU.out] at hW1
        have HW1 := Lib.hid hW1
        clear hW1
        go_wp2_with fail
        refine HW1.out.mono ?_
        rintro e W1 ⟨rfl, h1, b1, k1⟩
        go_wp2_with fail
        go_roundw
        case rel =>
          exact ⟨pos + 1, by omega, by rw [hnext.out]; exact h1, k1.iter hit2 (by omega), hbw2.trans b1⟩
        case measure =>
          simp only [World.iterPos, k1.iter hit2 (by omega), hit]
          omega
      · have hW1 := HW.out c hmem
        rw [up_same c hlow] at hnext
        have HW1 := Lib.hid hW1
        clear hW1
        go_wp2_with fail
        all_goals
          refine HW1.out.mono ?_
          rintro e W1 ⟨rfl, h1, b1, k1⟩
          go_wp2_with fail
          go_roundw
          case rel =>
            exact ⟨pos + 1, by omega, by rw [hnext.out]; exact h1, k1.iter hit2 (by omega), hbw2.trans b1⟩
          case measure =>
            simp only [World.iterPos, k1.iter hit2 (by omega), hit]
            omega
    · have hnx : ∀ ty, (Instr.next (.pointer (some ⟨w.heap.size + 1, 0, none⟩)) true ty).run Tryz.prog wr = _ := fun ty => Lib.run_next_end_at wr (w.heap.size + 1) s pos ty hit hp
      obtain rfl : pos = s.size := by omega
      have hS := string_s w.heap.size w.heap.size _ wr hI (by omega)
      rw [List.take_of_length_le (by rw [hlen.out]; exact Nat.le_refl _)] at hS
      have HS := Lib.hid hS
      clear hS
      go_wp2_with fail
      refine HS.out.mono ?_
      rintro e W1 ⟨r, rfl, hr, b1⟩
      go_wp2_with fail
      go_ret
      exact ⟨r, rfl, hr, hbw.trans b1⟩

set_option maxHeartbeats 400000 in
theorem closedSize_ok (s : ByteArray) (o : Nat) (w : World) (hs : s.size ≤ 1000000) (ho : o ≤ s.size) (hL : Lw w) : Calls Tryz.prog 32 #[.string s, .int .i64 (o : Int)] w fun e w' => e = .returned (.int .i64 (closedF s.data.toList o : Int)) ∧ w = w' := by
  have hi := index_s (s.extract o s.size) ⟨#[42, 47]⟩ w hL (by rw [ByteArray.size_extract]; omega)
  rw [text_rest] at hi
  have hr : 0 ≤ Lib.index (s.data.toList.drop o) ends2 → (Lib.index (s.data.toList.drop o) ends2).toNat + 2 ≤ s.size - o := fun h => by
    have := index_room h (by decide)
    rw [List.length_drop, text_len] at this
    exact this
  have hF : closedF s.data.toList o = if Lib.index (s.data.toList.drop o) ends2 < 0 then 0 else o + (Lib.index (s.data.toList.drop o) ends2).toNat + 2 := rfl
  have hge := Lib.index_ge (s.data.toList.drop o) ends2
  rw [show (⟨#[42, 47]⟩ : ByteArray).data.toList = ends2 from rfl] at hi
  generalize Lib.index (s.data.toList.drop o) ends2 = x at hi hr hF hge
  have HI := Lib.hid hi
  have HR := Lib.hid hr
  have HF := Lib.hid hF
  clear hi hr hF
  by_cases h0 : x < 0
  · have hx : x = -1 := by omega
    rw [if_pos h0] at HF
    go_enter Tryz.func32, Tryz.ntmps32
    go_wp2_with (go_at_call 60; refine HI.out.mono ?_; rintro e w' ⟨rfl, rfl⟩)
    go_ret
    exact ⟨by rw [HF.out]; rfl, rfl⟩
  · have hr2 := HR.out (by omega)
    obtain ⟨k, rfl⟩ : ∃ k : Nat, x = k := ⟨x.toNat, by omega⟩
    rw [if_neg h0, Int.toNat_natCast] at HF
    rw [Int.toNat_natCast] at hr2
    go_enter Tryz.func32, Tryz.ntmps32
    go_wp2_with (go_at_call 60; refine HI.out.mono ?_; rintro e w' ⟨rfl, rfl⟩)
    go_ret
    exact ⟨by rw [HF.out]; simp, rfl⟩

set_option maxHeartbeats 400000 in
theorem beginsLine_ok (s : ByteArray) (w : World) (hs : 0 < s.size) : Calls Tryz.prog 29 #[.string s] w fun e w' => e = .returned (.bool (isLineF s.data.toList)) ∧ w = w' := by
  have hl : 0 < s.data.toList.length := by rw [text_len]; exact hs
  have hb := text_at s 0 hs
  have hh := hasPrefix_s s ⟨#[45, 45]⟩ w
  have hF : isLineF s.data.toList = (decide ((s.data.toList[0]).toNat = 35) || begF [45, 45] s.data.toList) := by
    generalize s.data.toList = l at hl
    cases l with
    | nil => simp at hl
    | cons c r => rfl
  rw [show (⟨#[45, 45]⟩ : ByteArray).data.toList = [45, 45] from rfl] at hh
  generalize begF [45, 45] s.data.toList = y at hh hF
  generalize s.data.toList[0] = c at hb hF
  have HH := Lib.hid hh
  have HF := Lib.hid hF
  clear hh hF hl
  cases y <;> by_cases hc : c.toNat = 35
  all_goals
    go_enter Tryz.func29, Tryz.ntmps29
    go_wp2_with (go_at_call 58; refine HH.out.mono ?_; rintro e w' ⟨rfl, rfl⟩)
    go_ret
    exact ⟨ret_bool (by rw [HF.out]; first | (simp [hc]; done) | (simp [hc]; omega)), rfl⟩

set_option maxHeartbeats 400000 in
theorem beginsRemark_ok (s : ByteArray) (w : World) : Calls Tryz.prog 31 #[.string s] w fun e w' => e = .returned (.bool (isRemarkF s.data.toList)) ∧ w = w' := by
  have h1 := hasPrefix_s s ⟨#[47, 42]⟩ w
  have h2 := hasPrefix_s s ⟨#[47, 42, 43]⟩ w
  have hF : isRemarkF s.data.toList = (begF [47, 42] s.data.toList && !begF [47, 42, 43] s.data.toList) := rfl
  rw [show (⟨#[47, 42]⟩ : ByteArray).data.toList = [47, 42] from rfl] at h1
  rw [show (⟨#[47, 42, 43]⟩ : ByteArray).data.toList = [47, 42, 43] from rfl] at h2
  generalize begF [47, 42] s.data.toList = x at h1 hF
  generalize begF [47, 42, 43] s.data.toList = y at h2 hF
  have H1 := Lib.hid h1
  have H2 := Lib.hid h2
  have HF := Lib.hid hF
  clear h1 h2 hF
  cases x <;> cases y
  all_goals
    go_enter Tryz.func31, Tryz.ntmps31
    go_wp2_with fail
    refine H1.out.mono ?_
    rintro e w' ⟨rfl, rfl⟩
    go_wp2_with fail
    first
      | (refine H2.out.mono ?_
         rintro e w' ⟨rfl, rfl⟩
         go_wp2_with fail
         go_ret
         exact ⟨ret_bool (by rw [HF.out]; rfl), rfl⟩)
      | (go_ret
         exact ⟨ret_bool (by rw [HF.out]; rfl), rfl⟩)
end

/- A name or a string between its quotes: contract. -/
section
open Go.RowKit
set_option maxRecDepth 100000

theorem cells2 {w : World} {b : Nat} {x y : Value} {t : TypeId} (h : w.heap[b]? = some (.cells #[x, y] t (0, 0))) :
    w.cell? ⟨b, 0, none⟩ = some x ∧ w.cell? ⟨b, 1, none⟩ = some y ∧ w.frozen? ⟨b, 0, none⟩ = false ∧ w.frozen? ⟨b, 1, none⟩ = false := by
  refine ⟨?_, ?_, ?_, ?_⟩
  · rw [cell_of_row _ _ 0 #[x, y] t (0, 0) h]; rfl
  · rw [cell_of_row _ _ 1 #[x, y] t (0, 0) h]; rfl
  · simp [World.frozen?, h]
  · simp [World.frozen?, h]
theorem alloc_pair (w : World) (o o' : Obj) : ((w.alloc o).alloc o').heap[w.heap.size]? = some o ∧ ((w.alloc o).alloc o').heap[w.heap.size + 1]? = some o' := by
  constructor
  · rw [(kp_new (w.alloc o) o').block _ (by simp)]
    exact heap_alloc_new w o
  · have := heap_alloc_new (w.alloc o) o'
    simpa using this

theorem byte_ne {a b : UInt8} (h : ¬ a = b) : ((a.toNat : Int) != (b.toNat : Int)) = true := by
  simp only [bne_iff_ne, ne_eq]
  exact fun e => h (UInt8.toNat_inj.1 (by omega))
theorem byte_eq_no {a b : UInt8} (h : ¬ a = b) : ((a.toNat : Int) == (b.toNat : Int)) = false := by
  simp only [beq_eq_false_iff_ne, ne_eq]
  exact fun e => h (UInt8.toNat_inj.1 (by omega))

/-- a token, and how many bytes it takes, as a call answers it: a zero token and 0 where there is none -/
def Ans1 (x : Option (Int × List UInt8 × Nat)) (k : Int) (r : ByteArray) (n : Nat) : Prop :=
  match x with
  | none => k = 0 ∧ r = ⟨#[]⟩ ∧ n = 0
  | some (k', t, m) => k = k' ∧ r.data.toList = t ∧ n = m

def tokV (k : Int) (r : ByteArray) : Value := .agg #[.int .i64 k, .string r]

set_option maxHeartbeats 1000000 in
theorem quoted_ok (kind : Int) (s : ByteArray) (c : UInt8) (rest : List UInt8) (w : World) (hs : s.size ≤ 1000000) (hl : s.data.toList = c :: rest) :
    Calls Tryz.prog 66 #[.int .i64 kind, .string s] w fun e w' => ∃ k r n, e = .returned (.tuple #[tokV k r, .int .i64 (n : Nat)]) ∧ Ans1 ((quotedF c rest).map fun x => (kind, x.1, x.2 + 1)) k r n ∧ Below w.heap.size w w' := by
  unfold tokV
  have hn : 0 < s.size := by rw [← text_len, hl]; simp
  have hc0 : s[0] = c := by rw [text_at s 0 hn]; simp [hl]
  have hx : quotedF c rest = quotedF c (s.data.toList.drop 1) := by rw [hl]; rfl
  rw [hx]
  generalize hR0 : quotedF c (s.data.toList.drop 1) = R
  have HR := Lib.hid hR0
  have hlen := Lib.hid (text_len s)
  clear hR0 hx hl
  go_enter Tryz.func66, Tryz.ntmps66
  go_wp2
  go_loopw [8] (fun at_ wr => ∃ (k : Nat) (done : List UInt8), at_ = .int .i64 k ∧ 1 ≤ k ∧ k ≤ s.size ∧ done.length ≤ k ∧ Bd (w.heap.size + 1) (w.heap.size + 1) done wr ∧ w.heap.size + 1 < wr.heap.size ∧ wr.heap[w.heap.size]? = some (.cells #[.int .i64 0, .string ⟨#[]⟩] 89 (0, 0)) ∧ Hid (R = (quotedF c (s.data.toList.drop k)).map fun x => (done ++ x.1, x.2 + k - 1)) ∧ Below w.heap.size w wr) (fun at_ _ => s.size - (intOf at_).toNat)
  case atStart =>
    refine ⟨1, [], rfl, Nat.le_refl _, by omega, by simp, ?_, by simp, (alloc_pair w _ _).1, Lib.hid ?_, kp_alloc (kp_new _ _) _⟩
    · have := Bd.new (w.alloc (.cells #[.int .i64 0, .string ⟨#[]⟩] 89)) (w.heap.size + 1) (by simp)
      simpa using this
    · rw [HR.out]
      cases R <;> simp
  case round =>
    obtain ⟨k, done, rfl, hk1, hks, hdl, hI, hsz, hres, hx, kw⟩ := hrel
    have HRES := Lib.hid hres
    clear hres HR
    by_cases hlt : k < s.size
    · have hkl : k < s.data.toList.length := by rw [hlen.out]; exact hlt
      have hb := text_at s k hlt
      have hd : s.data.toList.drop k = s.data.toList[k] :: s.data.toList.drop (k + 1) := List.drop_eq_getElem_cons hkl
      rw [hd] at hx
      generalize s.data.toList[k] = b at hb hd hx
      clear hd
      by_cases hbc : b = c
      · subst hbc
        by_cases h1 : k + 1 < s.size
        · have hb1 := text_at s (k + 1) h1
          have hd1 : s.data.toList.drop (k + 1) = s.data.toList[k + 1]'(by rw [hlen.out]; exact h1) :: s.data.toList.drop (k + 1 + 1) := List.drop_eq_getElem_cons _
          rw [hd1] at hx
          generalize s.data.toList[k + 1]'(by rw [hlen.out]; exact h1) = d at hb1 hd1 hx
          clear hd1
          by_cases hdb : d = b
          · subst hdb
            rw [quotedF_twice] at hx
            have hx2 : Hid (R = (quotedF d (s.data.toList.drop (k + 1 + 1))).map fun x => (done ++ [d] ++ x.1, x.2 + (k + 1 + 1) - 1)) := Lib.hid (by
              rw [hx.out]
              cases quotedF d (s.data.toList.drop (k + 1 + 1)) <;> simp
              omega)
            have hW := Lib.hid (writeByte_s (w.heap.size + 1) (w.heap.size + 1) done d wr hI (by omega) (by omega))
            clear hx hI
            go_wp2_with fail
            refine hW.out.mono ?_
            rintro e W1 ⟨rfl, hI1, b1, _⟩
            go_wp2_with fail
            go_roundw
            case rel => exact ⟨k + 1 + 1, done ++ [d], by go_num, by omega, by omega, by simp; omega, hI1, by have := b1.size; omega, (b1.block _ (Nat.lt_succ_self _)).trans HRES.out, hx2, kw.trans (b1.mono (Nat.le_succ _))⟩
            case measure => simp [intOf]; omega
          · have hR : R = some (done, k) := by rw [hx.out, quotedF_ends (by simpa using hdb)]; simp
            subst hR
            have hdb2 : ((d.toNat : Int) != (b.toNat : Int)) = true := byte_ne hdb
            have hS := Lib.hid (string_s (w.heap.size + 1) (w.heap.size + 1) done wr hI (by omega))
            clear hx hI
            go_wp2_with fail
            refine hS.out.mono ?_
            rintro e W1 ⟨r, rfl, hr, b1⟩
            obtain ⟨x0, x1, f0, f1⟩ := cells2 ((b1.block _ (Nat.lt_succ_self _)).trans HRES.out)
            go_wp2_with fail
            refine bodyPost_ret (v := .tuple #[.agg #[.int .i64 kind, .string r], .int .i64 ((k + 1 : Nat) : Int)]) ?_ rfl ⟨kind, r, k + 1, rfl, ⟨rfl, hr, rfl⟩, ?_⟩
            · rw [results_cell_tmp rfl]
              go_simp
            · exact (((kw.trans (b1.mono (Nat.le_succ _))).setCell (Nat.le_refl _) _).setCell (Nat.le_refl _) _)
        · have h2 : ((k : Int) + 1 == (s.size : Int)) = true := by simp only [beq_iff_eq]; omega
          have hR : R = some (done, k) := by
            rw [hx.out, List.drop_eq_nil_of_le (by rw [hlen.out]; omega), quotedF_ends (by simp)]; simp
          subst hR
          have hS := Lib.hid (string_s (w.heap.size + 1) (w.heap.size + 1) done wr hI (by omega))
          clear hx hI
          go_wp2_with fail
          refine hS.out.mono ?_
          rintro e W1 ⟨r, rfl, hr, b1⟩
          obtain ⟨x0, x1, f0, f1⟩ := cells2 ((b1.block _ (Nat.lt_succ_self _)).trans HRES.out)
          go_wp2_with fail
          refine bodyPost_ret (v := .tuple #[.agg #[.int .i64 kind, .string r], .int .i64 ((k + 1 : Nat) : Int)]) ?_ rfl ⟨kind, r, k + 1, rfl, ⟨rfl, hr, rfl⟩, ?_⟩
          · rw [results_cell_tmp rfl]
            go_simp
          · exact (((kw.trans (b1.mono (Nat.le_succ _))).setCell (Nat.le_refl _) _).setCell (Nat.le_refl _) _)
      · rw [quotedF_other hbc] at hx
        have hx2 : Hid (R = (quotedF c (s.data.toList.drop (k + 1))).map fun x => (done ++ [b] ++ x.1, x.2 + (k + 1) - 1)) := Lib.hid (by
          rw [hx.out]
          cases quotedF c (s.data.toList.drop (k + 1)) <;> simp)
        have hbc2 := byte_eq_no hbc
        have hW := Lib.hid (writeByte_s (w.heap.size + 1) (w.heap.size + 1) done b wr hI (by omega) (by omega))
        clear hx hI
        go_wp2_with fail
        refine hW.out.mono ?_
        rintro e W1 ⟨rfl, hI1, b1, _⟩
        go_wp2_with fail
        go_roundw
        case rel => exact ⟨k + 1, done ++ [b], by go_num, by omega, by omega, by simp; omega, hI1, by have := b1.size; omega, (b1.block _ (Nat.lt_succ_self _)).trans HRES.out, hx2, kw.trans (b1.mono (Nat.le_succ _))⟩
        case measure => simp [intOf]; omega
    · have hR : R = none := by rw [hx.out, List.drop_eq_nil_of_le (by rw [hlen.out]; omega)]; rfl
      subst hR
      clear hx
      obtain ⟨x0, x1, f0, f1⟩ := cells2 HRES.out
      go_wp2_with fail
      refine bodyPost_ret (v := .tuple #[.agg #[.int .i64 0, .string ⟨#[]⟩], .int .i64 ((0 : Nat) : Int)]) ?_ rfl ⟨0, ⟨#[]⟩, 0, rfl, ⟨rfl, rfl, rfl⟩, ?_⟩
      · rw [results_cell_tmp rfl]
        go_simp
      · exact ((kw.setCell (Nat.le_refl _) _).setCell (Nat.le_refl _) _)
end

/- A hint, and the token that a text begins with: contracts. -/
section
open Go.RowKit
set_option maxRecDepth 100000

def hintF (l : List UInt8) : Option (List UInt8 × Nat) := if closedF l 3 = 0 then none else some (trimF ((l.take (closedF l 3 - 2)).drop 3), closedF l 3)

set_option maxHeartbeats 1000000 in
theorem hint_ok (s : ByteArray) (w : World) (hs : s.size ≤ 1000000) (h3 : 3 ≤ s.size) (hL : Lw w) :
    Calls Tryz.prog 67 #[.string s] w fun e w' => ∃ k r n, e = .returned (.tuple #[tokV k r, .int .i64 (n : Nat)]) ∧ Ans1 ((hintF s.data.toList).map fun x => (5, x.1, x.2)) k r n ∧ Below w.heap.size w w' := by
  unfold tokV
  have hcl := closedF_le s.data.toList 3 (by rw [text_len]; exact h3)
  rw [text_len] at hcl
  have hF : hintF s.data.toList = if closedF s.data.toList 3 = 0 then none else some (trimF ((s.data.toList.take (closedF s.data.toList 3 - 2)).drop 3), closedF s.data.toList 3) := rfl
  have b0 := heap_alloc_new w (.cells #[.int .i64 0, .string ⟨#[]⟩] 89)
  have kw := kp_new w (.cells #[.int .i64 0, .string ⟨#[]⟩] 89)
  have hz : w.heap.size < (w.alloc (.cells #[.int .i64 0, .string ⟨#[]⟩] 89)).heap.size := by simp
  have hC := closedSize_ok s 3 _ hs h3 (hL.next kw)
  generalize hint0 : hintF s.data.toList = R at hF ⊢
  clear hint0
  have HZ := Lib.hid hz
  have HB := Lib.hid b0
  clear b0 hz
  by_cases h0 : closedF s.data.toList 3 = 0
  · rw [if_pos h0] at hF
    rw [h0] at hC
    have HC := Lib.hid hC
    subst hF
    clear hC h0 hcl
    go_enter Tryz.func67, Tryz.ntmps67
    go_wp2_with fail
    refine HC.out.mono ?_
    rintro e w1 ⟨rfl, rfl⟩
    obtain ⟨x0, x1, f0, f1⟩ := cells2 HB.out
    go_wp2_with fail
    refine bodyPost_ret (v := .tuple #[.agg #[.int .i64 0, .string ⟨#[]⟩], .int .i64 ((0 : Nat) : Int)]) ?_ rfl ⟨0, ⟨#[]⟩, 0, rfl, ⟨rfl, rfl, rfl⟩, ?_⟩
    · rw [results_cell_tmp rfl]
      go_simp
    · exact kw
  · rw [if_neg h0] at hF
    have h5 := hcl.2 h0
    have hle := hcl.1
    have hT := trim_s (s.extract 3 (closedF s.data.toList 3 - 2)) (w.alloc (.cells #[.int .i64 0, .string ⟨#[]⟩] 89)) (by rw [ByteArray.size_extract]; omega)
    rw [text_cut, show (s.data.toList.drop 3).take (closedF s.data.toList 3 - 2 - 3) = (s.data.toList.take (closedF s.data.toList 3 - 2)).drop 3 from by rw [List.drop_take]] at hT
    generalize closedF s.data.toList 3 = n at hF hC hT h0 h5 hle
    have HF := Lib.hid hF
    have HC := Lib.hid hC
    have HT := Lib.hid hT
    have hsub : ((n : Int) + -2).toNat = n - 2 := by omega
    clear hF hC hT hcl
    go_enter Tryz.func67, Tryz.ntmps67
    go_wp2_with fail
    refine HC.out.mono ?_
    rintro e w1 ⟨rfl, rfl⟩
    go_wp2_with fail
    refine HT.out.mono ?_
    rintro e w1 ⟨r, rfl, hr, k1⟩
    obtain ⟨x0, x1, f0, f1⟩ := cells2 ((k1.block _ HZ.out).trans HB.out)
    go_wp2_with fail
    refine bodyPost_ret (v := .tuple #[.agg #[.int .i64 5, .string r], .int .i64 (n : Int)]) ?_ rfl ⟨5, r, n, rfl, ?_, ?_⟩
    · rw [results_cell_tmp rfl]
      go_simp
    · rw [HF.out]
      exact ⟨rfl, hr, rfl⟩
    · exact (((kp_trans kw k1).setCell (Nat.le_refl _) _).setCell (Nat.le_refl _) _)

theorem lod_ascii (c : UInt8) (h : lodF c = true) : c.toNat < 128 := by
  have := by_all (fun c => !lodF c || decide (c.toNat < 128)) (by decide +kernel) c
  simp only [h, Bool.not_true, Bool.false_or, decide_eq_true_eq] at this
  exact this

def firstI (l : List UInt8) : Option (Int × List UInt8 × Nat) := (firstF l).map fun x => ((x.1 : Int), x.2.1, x.2.2)

set_option maxHeartbeats 2000000 in
theorem first_ok (s : ByteArray) (c : UInt8) (rest : List UInt8) (w : World) (hs : s.size ≤ 1000000) (hl : s.data.toList = c :: rest) (hL : Lw w) :
    Calls Tryz.prog 33 #[.string s] w fun e w' => ∃ k r n, e = .returned (.tuple #[tokV k r, .int .i64 (n : Nat)]) ∧ Ans1 (firstI s.data.toList) k r n ∧ Below w.heap.size w w' := by
  unfold tokV
  have hn : 0 < s.size := by rw [← text_len, hl]; simp
  have hc0 : s[0] = c := by rw [text_at s 0 hn]; simp [hl]
  have b0 := heap_alloc_new w (.cells #[.int .i64 0, .string ⟨#[]⟩] 89)
  have kw := kp_new w (.cells #[.int .i64 0, .string ⟨#[]⟩] 89)
  have hz : w.heap.size < (w.alloc (.cells #[.int .i64 0, .string ⟨#[]⟩] 89)).heap.size := by simp
  have hL1 := hL.next kw
  have hF : firstI s.data.toList = firstI (c :: rest) := by rw [hl]
  have HZ := Lib.hid hz
  have HB := Lib.hid b0
  have HLen := Lib.hid (text_len s)
  have HL := Lib.hid hl
  generalize hR : firstI s.data.toList = R at hF ⊢
  clear b0 hz hR hl
  have H1 := fun u => isLetter_ok c u
  by_cases h1 : letterF c = true
  · have hFF : firstI (c :: rest) = some (1, greatF ((c :: rest).take (runF lodF (c :: rest))), runF lodF (c :: rest)) := by simp [firstI, firstF, h1]
    rw [hFF, ← HL.out] at hF
    have hr := fun u => run_lod s u hs
    have hle := runF_le lodF s.data.toList
    have hall := runF_all lodF s.data.toList
    rw [text_len] at hle
    generalize runF lodF s.data.toList = n at hF hr hle hall
    have hg := fun u => great_ok (s.extract 0 n) u (by rw [ByteArray.size_extract]; omega) (by
      rw [text_front]
      exact fun x hx => lod_ascii x (hall x hx))
    rw [text_front] at hg
    rw [h1] at H1
    have HF := Lib.hid hF
    have H1' := Lib.hid H1
    have HR := Lib.hid hr
    have HG := Lib.hid hg
    clear H1 hr hg hF hFF hall h1
    go_enter Tryz.func33, Tryz.ntmps33
    go_wp2_with fail
    refine (H1'.out _).mono ?_
    rintro e w1 ⟨rfl, rfl⟩
    go_wp2_with fail
    refine (HR.out _).mono ?_
    rintro e w2 ⟨rfl, k2⟩
    go_wp2_with fail
    refine (HG.out _).mono ?_
    rintro e w3 ⟨r, rfl, hr, k3⟩
    obtain ⟨x0, x1, f0, f1⟩ := cells2 (((kp_trans k2 k3).block _ HZ.out).trans HB.out)
    go_wp2_with fail
    refine bodyPost_ret (v := .tuple #[.agg #[.int .i64 1, .string r], .int .i64 (n : Int)]) ?_ rfl ⟨1, r, n, rfl, ?_, ?_⟩
    · rw [results_cell_tmp rfl]
      go_simp
    · rw [HF.out]
      exact ⟨rfl, hr, rfl⟩
    · exact (((kp_trans kw (kp_trans k2 k3)).setCell (Nat.le_refl _) _).setCell (Nat.le_refl _) _)
  have h1f : letterF c = false := by simpa using h1
  rw [h1f] at H1
  have H1' := Lib.hid H1
  clear H1
  have H2 := fun u => isDigit_ok c u
  by_cases h2 : digitF c = true
  · have hFF : firstI (c :: rest) = some (4, (c :: rest).take (runF digitF (c :: rest)), runF digitF (c :: rest)) := by simp [firstI, firstF, h1, h2]
    rw [hFF, ← HL.out] at hF
    have hr := fun u => run_digit s u hs
    have hle := runF_le digitF s.data.toList
    rw [text_len] at hle
    generalize runF digitF s.data.toList = n at hF hr hle
    have ht := text_front s n
    rw [h2] at H2
    have HF := Lib.hid hF
    have H2' := Lib.hid H2
    have HR := Lib.hid hr
    have HT := Lib.hid ht
    clear H2 hr hF hFF h1 h1f h2 ht
    go_enter Tryz.func33, Tryz.ntmps33
    go_wp2_with fail
    refine (H1'.out _).mono ?_
    rintro e w1 ⟨rfl, rfl⟩
    go_wp2_with fail
    refine (H2'.out _).mono ?_
    rintro e w1 ⟨rfl, rfl⟩
    go_wp2_with fail
    refine (HR.out _).mono ?_
    rintro e w2 ⟨rfl, k2⟩
    obtain ⟨x0, x1, f0, f1⟩ := cells2 ((k2.block _ HZ.out).trans HB.out)
    go_wp2_with fail
    refine bodyPost_ret (v := .tuple #[.agg #[.int .i64 4, .string (s.extract 0 n)], .int .i64 (n : Int)]) ?_ rfl ⟨4, s.extract 0 n, n, rfl, ?_, ?_⟩
    · rw [results_cell_tmp rfl]
      go_simp
    · rw [HF.out]
      exact ⟨rfl, HT.out, rfl⟩
    · exact (((kp_trans kw k2).setCell (Nat.le_refl _) _).setCell (Nat.le_refl _) _)
  have h2f : digitF c = false := by simpa using h2
  rw [h2f] at H2
  have H2' := Lib.hid H2
  clear H2
  by_cases h3 : c.toNat = 34 ∨ c.toNat = 96
  · have hFF : firstI (c :: rest) = (quotedF c rest).map fun x => ((2 : Int), x.1, x.2 + 1) := by
      simp only [firstI, firstF, h1f, h2f, if_pos h3, Bool.false_eq_true, if_false, Option.map_map]
      rfl
    rw [hFF] at hF
    have hQ := fun u => quoted_ok 2 s c rest u hs HL.out
    unfold tokV at hQ
    have HQ := Lib.hid hQ
    have HF := Lib.hid hF
    have h3b : (((c.toNat : Int) == 34) = true) ∨ (((c.toNat : Int) == 34) = false ∧ ((c.toNat : Int) == 96) = true) := by
      simp only [beq_iff_eq, beq_eq_false_iff_ne, ne_eq]
      omega
    clear hQ hF hFF h1 h1f h2 h2f h3
    rcases h3b with h3a | ⟨h3a, h3c⟩
    all_goals
      go_enter Tryz.func33, Tryz.ntmps33
      go_wp2_with fail
      refine (H1'.out _).mono ?_
      rintro e w1 ⟨rfl, rfl⟩
      go_wp2_with fail
      refine (H2'.out _).mono ?_
      rintro e w1 ⟨rfl, rfl⟩
      go_wp2_with fail
      refine (HQ.out _).mono ?_
      rintro e w2 ⟨k, r, n, rfl, hA, k2⟩
      obtain ⟨x0, x1, f0, f1⟩ := cells2 ((k2.block _ HZ.out).trans HB.out)
      go_wp2_with fail
      refine bodyPost_ret (v := .tuple #[.agg #[.int .i64 k, .string r], .int .i64 (n : Int)]) ?_ rfl ⟨k, r, n, rfl, ?_, ?_⟩
      · rw [results_cell_tmp rfl]
        go_simp
      · rw [HF.out]
        exact hA
      · exact (((kp_trans kw k2).setCell (Nat.le_refl _) _).setCell (Nat.le_refl _) _)
  have h3a : ((c.toNat : Int) == 34) = false := by simp only [beq_eq_false_iff_ne, ne_eq]; omega
  have h3c : ((c.toNat : Int) == 96) = false := by simp only [beq_eq_false_iff_ne, ne_eq]; omega
  by_cases h4 : c.toNat = 39
  · have hFF : firstI (c :: rest) = (quotedF c rest).map fun x => ((3 : Int), x.1, x.2 + 1) := by
      simp only [firstI, firstF, h1f, h2f, if_neg h3, if_pos h4, Bool.false_eq_true, if_false, Option.map_map]
      rfl
    rw [hFF] at hF
    have hQ := fun u => quoted_ok 3 s c rest u hs HL.out
    unfold tokV at hQ
    have HQ := Lib.hid hQ
    have HF := Lib.hid hF
    have h4i : ((c.toNat : Int) == 39) = true := by simp only [beq_iff_eq]; omega
    clear hQ hF hFF h1 h1f h2 h2f h3 h4
    go_enter Tryz.func33, Tryz.ntmps33
    go_wp2_with fail
    refine (H1'.out _).mono ?_
    rintro e w1 ⟨rfl, rfl⟩
    go_wp2_with fail
    refine (H2'.out _).mono ?_
    rintro e w1 ⟨rfl, rfl⟩
    go_wp2_with fail
    refine (HQ.out _).mono ?_
    rintro e w2 ⟨k, r, n, rfl, hA, k2⟩
    obtain ⟨x0, x1, f0, f1⟩ := cells2 ((k2.block _ HZ.out).trans HB.out)
    go_wp2_with fail
    refine bodyPost_ret (v := .tuple #[.agg #[.int .i64 k, .string r], .int .i64 (n : Int)]) ?_ rfl ⟨k, r, n, rfl, ?_, ?_⟩
    · rw [results_cell_tmp rfl]
      go_simp
    · rw [HF.out]
      exact hA
    · exact (((kp_trans kw k2).setCell (Nat.le_refl _) _).setCell (Nat.le_refl _) _)
  have h4a : ((c.toNat : Int) == 39) = false := by simp only [beq_eq_false_iff_ne, ne_eq]; omega
  have hP := fun u => hasPrefix_s s ⟨#[47, 42, 43]⟩ u
  rw [show (⟨#[47, 42, 43]⟩ : ByteArray).data.toList = [47, 42, 43] from rfl] at hP
  by_cases h5 : begF [47, 42, 43] s.data.toList = true
  · have hsz : 3 ≤ s.size := by
      rw [← text_len]
      have := (List.isPrefixOf_iff_prefix.1 h5).length_le
      simpa using this
    have hFF : firstI (c :: rest) = (hintF s.data.toList).map fun x => ((5 : Int), x.1, x.2) := by
      rw [HL.out] at h5 ⊢
      simp only [firstI, firstF, h1f, h2f, if_neg h3, if_neg h4, if_pos h5, Bool.false_eq_true, if_false, hintF]
      split <;> rfl
    rw [hFF] at hF
    have hQ := hint_ok s _ hs hsz hL1
    unfold tokV at hQ
    rw [h5] at hP
    have HP := Lib.hid hP
    have HQ := Lib.hid hQ
    have HF := Lib.hid hF
    clear hQ hF hFF h1 h1f h2 h2f h3 h4 hP h5
    go_enter Tryz.func33, Tryz.ntmps33
    go_wp2_with fail
    refine (H1'.out _).mono ?_
    rintro e w1 ⟨rfl, rfl⟩
    go_wp2_with fail
    refine (H2'.out _).mono ?_
    rintro e w1 ⟨rfl, rfl⟩
    go_wp2_with fail
    refine (HP.out _).mono ?_
    rintro e w1 ⟨rfl, rfl⟩
    go_wp2_with fail
    refine HQ.out.mono ?_
    rintro e w2 ⟨k, r, n, rfl, hA, k2⟩
    obtain ⟨x0, x1, f0, f1⟩ := cells2 ((k2.block _ HZ.out).trans HB.out)
    go_wp2_with fail
    refine bodyPost_ret (v := .tuple #[.agg #[.int .i64 k, .string r], .int .i64 (n : Int)]) ?_ rfl ⟨k, r, n, rfl, ?_, ?_⟩
    · rw [results_cell_tmp rfl]
      go_simp
    · rw [HF.out]
      exact hA
    · exact (((kp_trans kw k2).setCell (Nat.le_refl _) _).setCell (Nat.le_refl _) _)
  have h5f : begF [47, 42, 43] s.data.toList = false := by simpa using h5
  have h5c : begF [47, 42, 43] (c :: rest) = false := by rw [← HL.out]; exact h5f
  rw [h5f] at hP
  have HP := Lib.hid hP
  clear hP h5 h5f
  have H6 := fun u => isSign_ok c u
  by_cases h6 : signF c = true
  · have hFF : firstI (c :: rest) = some (6, [c], 1) := by
      simp only [firstI, firstF, h1f, h2f, if_neg h3, if_neg h4, h5c, if_pos h6, Bool.false_eq_true, if_false]
      rfl
    rw [hFF] at hF
    rw [h6] at H6
    have ht : (s.extract 0 1).data.toList = [c] := by rw [text_front, HL.out]; rfl
    have H6' := Lib.hid H6
    have HF := Lib.hid hF
    have HT := Lib.hid ht
    clear H6 hF hFF h1 h1f h2 h2f h3 h4 h5c ht h6
    go_enter Tryz.func33, Tryz.ntmps33
    go_wp2_with fail
    refine (H1'.out _).mono ?_
    rintro e w1 ⟨rfl, rfl⟩
    go_wp2_with fail
    refine (H2'.out _).mono ?_
    rintro e w1 ⟨rfl, rfl⟩
    go_wp2_with fail
    refine (HP.out _).mono ?_
    rintro e w1 ⟨rfl, rfl⟩
    go_wp2_with fail
    refine (H6'.out _).mono ?_
    rintro e w1 ⟨rfl, rfl⟩
    obtain ⟨x0, x1, f0, f1⟩ := cells2 HB.out
    go_wp2_with fail
    refine bodyPost_ret (v := .tuple #[.agg #[.int .i64 6, .string (s.extract 0 1)], .int .i64 ((1 : Nat) : Int)]) ?_ rfl ⟨6, s.extract 0 1, 1, rfl, ?_, ?_⟩
    · rw [results_cell_tmp rfl]
      go_simp
    · rw [HF.out]
      exact ⟨rfl, HT.out, rfl⟩
    · first | exact ((kw.setCell (Nat.le_refl _) _).setCell (Nat.le_refl _) _) | exact kp_new _ _
  · have h6f : signF c = false := by simpa using h6
    have hFF : firstI (c :: rest) = none := by
      simp only [firstI, firstF, h1f, h2f, if_neg h3, if_neg h4, h5c, h6f, Bool.false_eq_true, if_false]
      rfl
    rw [hFF] at hF
    rw [h6f] at H6
    have H6' := Lib.hid H6
    have HF := Lib.hid hF
    clear H6 hF hFF h1 h1f h2 h2f h3 h4 h5c h6 h6f
    go_enter Tryz.func33, Tryz.ntmps33
    go_wp2_with fail
    refine (H1'.out _).mono ?_
    rintro e w1 ⟨rfl, rfl⟩
    go_wp2_with fail
    refine (H2'.out _).mono ?_
    rintro e w1 ⟨rfl, rfl⟩
    go_wp2_with fail
    refine (HP.out _).mono ?_
    rintro e w1 ⟨rfl, rfl⟩
    go_wp2_with fail
    refine (H6'.out _).mono ?_
    rintro e w1 ⟨rfl, rfl⟩
    obtain ⟨x0, x1, f0, f1⟩ := cells2 HB.out
    go_wp2_with fail
    refine bodyPost_ret (v := .tuple #[.agg #[.int .i64 0, .string ⟨#[]⟩], .int .i64 ((0 : Nat) : Int)]) ?_ rfl ⟨0, ⟨#[]⟩, 0, rfl, ?_, ?_⟩
    · rw [results_cell_tmp rfl]
      go_simp
    · rw [HF.out]
      exact ⟨rfl, rfl, rfl⟩
    · first | exact ((kw.setCell (Nat.le_refl _) _).setCell (Nat.le_refl _) _) | exact kp_new _ _
end

/- Append onto a row of the call's own whose elements are of several cells; a block's two cells. -/
section
open Go.RowKit
set_option maxRecDepth 100000

section
variable {P : Program} {w : World}
theorem run_append_nothings (base : Nat) (t ty e : TypeId) (i : TypeInfo) (size : Nat) (ht : P.underlying t = some (.slice e)) (hi : P.info? e = some i)
    (v : Value) (n c : Nat) (xs : List Value) (hown : w.ownsRow base e size v n xs) : (Builtin.append_ #[t, t] ty #[v, .slice none 0 c]).run P w = .ok v w := by
  rcases hown.2 with ⟨rfl, rfl⟩ | ⟨g, cap, cur, rfl, _, _, hnc, _⟩
  · simp [Builtin.append_, run_underlying ht, sizeOf, typeInfo, hi, Builtin.lenOf, Builtin.firstCells]
  · simp [Builtin.append_, run_underlying ht, sizeOf, typeInfo, hi, Builtin.lenOf, Builtin.firstCells, hnc, storeCells]

theorem run_append_rds (base : Nat) (t ty e : TypeId) (i : TypeInfo) (z : Value) (size bytes : Nat) (ht : P.underlying t = some (.slice e)) (hi : P.info? e = some i) (hz : i.zero = some z)
    (hsize : i.size = size) (hby : i.bytes = bytes) (hzs : z.cells.size = size) (hsz : 0 < size)
    (v : Value) (n : Nat) (xs : List Value) (hown : w.ownsRow base e size v n xs)
    (B : Nat) (A : Option Addr) (m c : Nat) (news : List Value) (hm : news.length = m * size) (hr : Rd w B A news) (h1 : ∀ u ∈ news, u.oneCell' = true)
    (h63 : n + m ≤ maxLen) (hbytes : (n + m) * bytes ≤ 140737488355328) (hbase : base ≤ w.heap.size) :
    ∃ v' w', (Builtin.append_ #[t, t] ty #[v, .slice A m c]).run P w = .ok v' w' ∧ w'.ownsRow base e size v' (n + m) (xs ++ news) ∧ w.grownBy w' v.ownBlock := by
  cases A with
  | none =>
    have hn : news = [] := by
      rcases hr with h | ⟨_, h, _⟩
      · exact h
      · cases h
    subst hn
    obtain rfl : m = 0 := by
      rcases Nat.eq_zero_or_pos m with h | h
      · exact h
      · have := Nat.mul_pos h hsz
        simp at hm
        omega
    exact ⟨v, w, run_append_nothings base t ty e i size ht hi v n c xs hown, by simpa using hown, World.grownBy.refl w _⟩
  | some ad =>
    have hc : ∀ j u, news[j]? = some u → w.cell? (ad.add j) = some u := by
      intro j u hu
      rcases hr with h | ⟨ad', h, _, hc⟩
      · subst h; simp at hu
      · injection h with h; subst h; exact hc j u hu
    obtain ⟨v', w', hrun, h2, h3, _⟩ := run_append_own (P := P) w base t ty e i z size bytes ht hi hz hsize hby hzs hsz v n xs hown ad m c news hm hc h1 h63 hbytes hbase
    exact ⟨v', w', hrun, h2, h3⟩

theorem wp_append_rds {o : Oper} {a : Act} {K : Act → World → Prop} {Q : Exit → Act → World → Prop} (s x : Operand) (t : TypeId)
    (ho : o.op = .call { callee := .builtin .append, args := #[s, x], argTypes := #[t, t] })
    (base : Nat) (e : TypeId) (i : TypeInfo) (z : Value) (size bytes : Nat) (ht : P.underlying t = some (.slice e)) (hi : P.info? e = some i) (hz : i.zero = some z)
    (hsize : i.size = size) (hby : i.bytes = bytes) (hzs : z.cells.size = size) (hsz : 0 < size)
    (v : Value) (n : Nat) (xs : List Value) (hs : a.eval s = v) (hown : w.ownsRow base e size v n xs)
    (B : Nat) (A : Option Addr) (m c : Nat) (news : List Value) (hx : a.eval x = .slice A m c) (hm : news.length = m * size) (hr : Rd w B A news) (h1 : ∀ u ∈ news, u.oneCell' = true)
    (h63 : n + m ≤ maxLen) (hbytes : (n + m) * bytes ≤ 140737488355328) (hbase : base ≤ w.heap.size)
    (h : ∀ v' w', w'.ownsRow base e size v' (n + m) (xs ++ news) → w.grownBy w' v.ownBlock → K (a.put o.dst v') w') : o.wp P a w K Q := by
  obtain ⟨v', w', hrun, h2, h3⟩ := run_append_rds (P := P) base t o.type e i z size bytes ht hi hz hsize hby hzs hsz v n xs hown B A m c news hm hr h1 h63 hbytes hbase
  unfold Oper.wp execOp
  simp only [ho, resolve, invoke, builtin, Sem.run_bind, Sem.run_pure, Result.andThen_ok, List.map_toArray, List.map_cons, List.map_nil, hs, hx, hrun]
  exact h v' w' h2 h3

theorem wpList_append_rds {ops : Array Oper} {rest : List Oper} {o : Oper} {a : Act} {Q : Exit → Act → World → Prop} (hw : Region.wanted o (yielded ops a.tmps) = true) (s x : Operand) (t : TypeId)
    (ho : o.op = .call { callee := .builtin .append, args := #[s, x], argTypes := #[t, t] })
    (base : Nat) (e : TypeId) (i : TypeInfo) (z : Value) (size bytes : Nat) (ht : P.underlying t = some (.slice e)) (hi : P.info? e = some i) (hz : i.zero = some z)
    (hsize : i.size = size) (hby : i.bytes = bytes) (hzs : z.cells.size = size) (hsz : 0 < size)
    (v : Value) (n : Nat) (xs : List Value) (hs : a.eval s = v) (hown : w.ownsRow base e size v n xs)
    (B : Nat) (A : Option Addr) (m c : Nat) (news : List Value) (hx : a.eval x = .slice A m c) (hm : news.length = m * size) (hr : Rd w B A news) (h1 : ∀ u ∈ news, u.oneCell' = true)
    (h63 : n + m ≤ maxLen) (hbytes : (n + m) * bytes ≤ 140737488355328) (hbase : base ≤ w.heap.size)
    (h : ∀ v' w', w'.ownsRow base e size v' (n + m) (xs ++ news) → w.grownBy w' v.ownBlock → wpList P ops Q rest (a.put o.dst v') w') : wpList P ops Q (o :: rest) a w :=
  wpList_step fun _ hK => by
    rw [if_pos hw]
    exact wp_append_rds s x t ho base e i z size bytes ht hi hz hsize hby hzs hsz v n xs hs hown B A m c news hx hm hr h1 h63 hbytes hbase fun v' w' h2 h3 => hK _ _ (h v' w' h2 h3)
end

/-- a row of wide elements: its form, and what keeps it -/
theorem own_form_s {w : World} {base n size : Nat} {e : TypeId} {v : Value} {xs : List Value} (h : w.ownsRow base e size v n xs) : ∃ A c, v = .slice A n c ∧ n ≤ c ∧ c ≤ maxLen := by
  rcases h.2 with ⟨rfl, rfl⟩ | ⟨g, cap, cur, rfl, _, _, h1, h2, _⟩
  · exact ⟨_, _, rfl, Nat.le_refl _, by simp [maxLen]⟩
  · exact ⟨_, _, rfl, h1, h2⟩
theorem own_below_s {w w' : World} {base n B size : Nat} {e : TypeId} {v : Value} {xs : List Value} (h : w.ownsRow base e size v n xs) (hb : Below B w w') (hB : w.heap.size ≤ B) : w'.ownsRow base e size v n xs := by
  refine ⟨h.1, ?_⟩
  rcases h.2 with h2 | ⟨g, cap, cur, hv, hg, hh, r⟩
  · exact .inl h2
  · have hlt := (Array.getElem?_eq_some_iff.1 hh).1
    exact .inr ⟨g, cap, cur, hv, hg, (hb.block g (by omega)).trans hh, r⟩
theorem own_base_s {w : World} {base base' n size : Nat} {e : TypeId} {v : Value} {xs : List Value} (h : w.ownsRow base e size v n xs) (hB : base' ≤ base) : w.ownsRow base' e size v n xs := by
  refine ⟨h.1, ?_⟩
  rcases h.2 with h2 | ⟨g, cap, cur, hv, hg, r⟩
  · exact .inl h2
  · exact .inr ⟨g, cap, cur, hv, by omega, r⟩
theorem below_own_s {w w' : World} {base n size : Nat} {e : TypeId} {v : Value} {xs : List Value} (h : w.ownsRow base e size v n xs) (hg : w.grownBy w' v.ownBlock) (hb : base ≤ w.heap.size) : Below base w w' :=
  (Below.refl _ _).grown hg hb (fun k hk => (h.lt k hk).1)
/-- rows of other types lie in other blocks -/
theorem own_apart {w w' : World} {base base' n n' size size' : Nat} {e e' : TypeId} {v v' : Value} {xs xs' : List Value} (h : w.ownsRow base e size v n xs) (h' : w.ownsRow base' e' size' v' n' xs') (he : e ≠ e') (hg : w.grownBy w' v'.ownBlock) : w'.ownsRow base e size v n xs := by
  refine h.kept hg ?_
  rcases h.2 with ⟨rfl, _⟩ | ⟨g, cap, cur, rfl, _, hh, _⟩
  · exact .inl rfl
  · refine .inr ?_
    rcases h'.2 with ⟨rfl, _⟩ | ⟨g', cap', cur', rfl, _, hh', _⟩
    · simp [Value.ownBlock]
    · simp only [Value.ownBlock, ne_eq, Option.some.injEq]
      rintro rfl
      rw [hh] at hh'
      simp only [Option.some.injEq, Obj.cells.injEq] at hh'
      exact he hh'.2.1
theorem own_setCell_s {w : World} {base : Nat} {e : TypeId} {size : Nat} {v : Value} {n : Nat} {xs : List Value} (h : w.ownsRow base e size v n xs) {a : Addr} (ha : a.block < base) (u : Value) : (w.setCell a u).ownsRow base e size v n xs := ownsRow_setCell_below h ha u
/-- a new row of wide elements -/
theorem own_new_s (w : World) (base size : Nat) (e : TypeId) (n : Nat) (xs : List Value) (hx : xs.length = n * size) (hb : base ≤ w.heap.size) (hn : n ≤ maxLen) : (w.alloc (.cells xs.toArray e)).ownsRow base e size (.slice (some ⟨w.heap.size, 0, none⟩) n n) n xs :=
  ⟨hx, .inr ⟨w.heap.size, n, _, rfl, hb, heap_alloc_new w _, Nat.le_refl _, hn, by simpa using hx, List.take_of_length_le (by simp [hx])⟩⟩
end

/- Rows of tokens as they lie in memory: of whatever package's token type. -/
section
open Go.RowKit
set_option maxRecDepth 100000

/-- a token: its Kind, its Text -/
structure Tk where
  k : Int
  t : ByteArray
deriving DecidableEq
instance : Inhabited Tk := ⟨⟨0, ⟨#[]⟩⟩⟩
def Tk.cells (t : Tk) : List Value := [.int .i64 t.k, .string t.t]
def tkC (ts : List Tk) : List Value := ts.flatMap Tk.cells
def Tk.says (t : Tk) : Int × List UInt8 := (t.k, t.t.data.toList)
def saysT (ts : List Tk) : List (Int × List UInt8) := ts.map Tk.says
theorem Tk.says_inj {a b : Tk} (h : a.says = b.says) : a = b := by
  cases a; cases b
  simp only [Tk.says, Prod.mk.injEq] at h
  rw [h.1, text_ext h.2]
theorem saysT_inj : ∀ {a b : List Tk}, saysT a = saysT b → a = b
  | [], [], _ => rfl
  | [], _ :: _, h => by simp [saysT] at h
  | _ :: _, [], h => by simp [saysT] at h
  | x :: a, y :: b, h => by
    simp only [saysT, List.map_cons, List.cons.injEq] at h
    rw [Tk.says_inj h.1, saysT_inj h.2]
theorem saysT_append (a b : List Tk) : saysT (a ++ b) = saysT a ++ saysT b := by simp [saysT]
theorem saysT_length (a : List Tk) : (saysT a).length = a.length := by simp [saysT]
theorem tkC_length : ∀ ts : List Tk, (tkC ts).length = ts.length * 2
  | [] => rfl
  | r :: rs => by
    have := tkC_length rs
    simp only [tkC, List.flatMap_cons, List.length_append, List.length_cons, Tk.cells, List.length_nil] at this ⊢
    omega
theorem tkC_append (a b : List Tk) : tkC (a ++ b) = tkC a ++ tkC b := by simp [tkC]
theorem tkC_at : ∀ (rs : List Tk) (j : Nat) (h : j < rs.length), (tkC rs)[j * 2]? = some (.int .i64 rs[j].k) ∧ (tkC rs)[j * 2 + 1]? = some (.string rs[j].t)
  | [], _, h => by simp at h
  | r :: rs, 0, _ => by simp [tkC, Tk.cells]
  | r :: rs, j + 1, h => by
    have := tkC_at rs j (by simpa using h)
    have e1 : (j + 1) * 2 = j * 2 + 2 := by omega
    simp only [tkC, List.flatMap_cons] at this ⊢
    rw [e1]
    simpa [Tk.cells] using this
theorem tkC_next (rs : List Tk) (k : Nat) (h : k < rs.length) : tkC (rs.take (k + 1)) = tkC (rs.take k) ++ [.int .i64 rs[k].k, .string rs[k].t] := by
  rw [List.take_succ_eq_append_getElem h, tkC_append]
  simp [tkC, Tk.cells]
theorem tkC_one (rs : List Tk) : ∀ u ∈ tkC rs, u.oneCell' = true := by
  intro u hu
  simp only [tkC, List.mem_flatMap] at hu
  obtain ⟨r, _, h⟩ := hu
  simp only [Tk.cells, List.mem_cons, List.not_mem_nil, or_false] at h
  rcases h with rfl | rfl <;> rfl
theorem Rd.of_ownT {w : World} {A : Option Addr} {xs : List Value} {base n c : Nat} {e : TypeId} (h : w.ownsRow base e 2 (.slice A n c) n xs) : Rd w w.heap.size A xs := by
  rcases h.2 with ⟨_, hn⟩ | ⟨g, cap, cur, hv, _, hg, _⟩
  · exact .inl (List.eq_nil_of_length_eq_zero (by have := h.1; omega))
  · have hA : A = some ⟨g, 0, none⟩ := by injection hv
    subst hA
    exact .inr ⟨_, rfl, (Array.getElem?_eq_some_iff.1 hg).1, h.cells (g := g) rfl⟩

/-- a row of tokens that is read -/
structure TR (w : World) (A : Option Addr) (n : Nat) (ts : List Tk) : Prop where
  len : ts.length = n
  rd : Rd w w.heap.size A (tkC ts)
theorem TR.next {w w' : World} {A : Option Addr} {n : Nat} {ts : List Tk} (h : TR w A n ts) (hb : Below w.heap.size w w') : TR w' A n ts := ⟨h.len, (h.rd.below hb (Nat.le_refl _)).more hb.size⟩
theorem TR.nil (w : World) : TR w none 0 [] := ⟨rfl, .inl rfl⟩
/-- its cells at a place -/
theorem TR.at_ {w : World} {A : Option Addr} {n : Nat} {ts : List Tk} (h : TR w A n ts) {j : Nat} (hj : j < ts.length) : ∃ ad, A = some ad ∧ ad.block < w.heap.size ∧ ∀ w', Below w.heap.size w w' → w'.cell? (ad.add (j * 2)) = some (.int .i64 ts[j].k) ∧ w'.cell? ⟨(ad.add (j * 2)).block, (ad.add (j * 2)).off + 1, none⟩ = some (.string ts[j].t) := by
  obtain ⟨ad, hA, hb, hc⟩ := h.rd.addr (by rw [tkC_length]; omega)
  refine ⟨ad, hA, hb, fun w' hw => ⟨?_, ?_⟩⟩
  · rw [hw.cell (by rw [add_block]; exact hb)]; exact hc _ _ (tkC_at ts j hj).1
  · have e1 : (⟨(ad.add (j * 2)).block, (ad.add (j * 2)).off + 1, none⟩ : Addr) = ad.add (j * 2 + 1) := by rw [← add_add]; rfl
    rw [e1, hw.cell (by rw [add_block]; exact hb)]; exact hc _ _ (tkC_at ts j hj).2

/-- a row of tokens of the call's own -/
structure OT (e : TypeId) (w : World) (base : Nat) (A : Option Addr) (n c : Nat) (ts : List Tk) : Prop where
  own : w.ownsRow base e 2 (.slice A n c) n (tkC ts)
  cap : n ≤ c
section
variable {e : TypeId} {w : World} {base : Nat} {A : Option Addr} {n c : Nat} {ts : List Tk}
theorem OT.len (h : OT e w base A n c ts) : ts.length = n := by
  have := h.own.1
  rw [tkC_length] at this
  omega
theorem OT.tr (h : OT e w base A n c ts) : TR w A n ts := ⟨h.len, Rd.of_ownT h.own⟩
theorem OT.next {w' : World} (h : OT e w base A n c ts) (hb : Below w.heap.size w w') : OT e w' base A n c ts := ⟨own_below_s h.own hb (Nat.le_refl _), h.cap⟩
theorem OT.nil (e : TypeId) (w : World) (base : Nat) : OT e w base none 0 0 [] := ⟨World.ownsRow_nil _ _ _ _, Nat.le_refl _⟩
theorem OT.push {v : Value} {k : Int} {r : ByteArray} (h : w.ownsRow base e 2 v (n + 1) (tkC ts ++ [.int .i64 k, .string r])) : ∃ A c, v = .slice A (n + 1) c ∧ OT e w base A (n + 1) c (ts ++ [⟨k, r⟩]) := by
  obtain ⟨A, c, rfl, h1, _⟩ := own_form_s h
  exact ⟨A, c, rfl, by rw [tkC_append]; exact h, h1⟩
end
theorem tkinfo : (Tryz.prog.info? 89).map (fun i => (i.zero, i.size, i.bytes)) = some (some (.agg #[.int .i64 0, .string ⟨#[]⟩]), 2, 24) := by kernel_rfl
theorem tkinfoR : (Tryz.prog.info? 58).map (fun i => (i.zero, i.size, i.bytes)) = some (some (.agg #[.int .i64 0, .string ⟨#[]⟩]), 2, 24) := by kernel_rfl
end

/- The document's layer 4: bytes, and where a text stands in another one: contracts. -/
section
open Go.RowKit
set_option maxRecDepth 100000

theorem rblank_ok (c : UInt8) (w : World) : Calls Tryz.prog 77 #[.int .u8 (c.toNat : Int)] w fun e w' => e = .returned (.bool (blankF c)) ∧ w = w' := by
  have hF : blankF c = (decide (c.toNat = 32) || decide (c.toNat = 9) || decide (c.toNat = 10) || decide (c.toNat = 13)) := by
    have := by_all (fun c => blankF c == (decide (c.toNat = 32) || decide (c.toNat = 9) || decide (c.toNat = 10) || decide (c.toNat = 13))) (by decide +kernel) c
    simpa using this
  have HF := Lib.hid hF
  clear hF
  go_enter Tryz.func77, Tryz.ntmps77
  go_wp2
  all_goals
    go_ret
    refine ⟨ret_bool ?_, rfl⟩
    rw [HF.out, Bool.eq_iff_iff]
    simp
    try omega

theorem rdigit_ok (c : UInt8) (w : World) : Calls Tryz.prog 82 #[.int .u8 (c.toNat : Int)] w fun e w' => e = .returned (.bool (digitF c)) ∧ w = w' := by
  have hF : digitF c = (decide (48 ≤ c.toNat) && decide (c.toNat ≤ 57)) := rfl
  have HF := Lib.hid hF
  clear hF
  go_enter Tryz.func82, Tryz.ntmps82
  go_wp2
  all_goals
    go_ret
    refine ⟨ret_bool ?_, rfl⟩
    rw [HF.out, Bool.eq_iff_iff]
    simp
    try omega

theorem rletter_ok (c : UInt8) (w : World) : Calls Tryz.prog 81 #[.int .u8 (c.toNat : Int)] w fun e w' => e = .returned (.bool (letterF c)) ∧ w = w' := by
  have hF : letterF c = (decide (65 ≤ c.toNat) && decide (c.toNat ≤ 90) || decide (97 ≤ c.toNat) && decide (c.toNat ≤ 122) || decide (c.toNat = 95)) := rfl
  have HF := Lib.hid hF
  clear hF
  go_enter Tryz.func81, Tryz.ntmps81
  go_wp2
  all_goals
    go_ret
    refine ⟨ret_bool ?_, rfl⟩
    rw [HF.out, Bool.eq_iff_iff]
    simp
    try omega

theorem occ_cut (s t : ByteArray) (i : Nat) (h : i + t.size ≤ s.size) : ((s.extract i (i + t.size)).toList == t.toList) = Lib.occAt s.data.toList t.data.toList i := by
  rw [toList_dataR, toList_dataR, text_cut, Lib.occAt_iff_take _ _ _ (by rw [text_len, text_len]; exact h), text_len, Nat.add_sub_cancel_left]
where
  toList_dataR (s : ByteArray) : s.toList = s.data.toList := ByteArray.toList_eq s
theorem occ_none {l t : List UInt8} {i : Nat} (h : l.length < i + t.length) (ht : t ≠ []) : Lib.occAt l t i = false := by
  cases hb : Lib.occAt l t i with
  | false => rfl
  | true =>
    rcases Lib.occAt_room hb with h2 | h2
    · omega
    · exact absurd h2 ht

set_option maxHeartbeats 400000 in
theorem rat_ok (s t : ByteArray) (i : Nat) (w : World) (hi : i ≤ s.size) (hs : s.size ≤ 140737488351232) (ht : 0 < t.size) (ht2 : t.size ≤ 1000) :
    Calls Tryz.prog 78 #[.string s, .string t, .int .i64 (i : Int)] w fun e w' => e = .returned (.bool (begF t.data.toList (s.data.toList.drop i))) ∧ w = w' := by
  have hF : begF t.data.toList (s.data.toList.drop i) = Lib.occAt s.data.toList t.data.toList i := rfl
  rw [hF]
  by_cases h : i + t.size ≤ s.size
  · have he := occ_cut s t i h
    generalize Lib.occAt s.data.toList t.data.toList i = b at he
    have h2 : ((i : Int) + (t.size : Int)).toNat = i + t.size := by omega
    have HE := Lib.hid he
    clear he hF
    go_enter Tryz.func78, Tryz.ntmps78
    go_wp2_with fail
    go_ret
    exact ⟨ret_bool (by rw [← HE.out]), rfl⟩
  · have hn := occ_none (l := s.data.toList) (t := t.data.toList) (i := i) (by rw [text_len, text_len]; omega) (by intro e; have := congrArg List.length e; rw [text_len, List.length_nil] at this; omega)
    rw [hn]
    have hg : ¬ ((i : Int) + (t.size : Int) ≤ (s.size : Int)) := by omega
    clear hF hn h
    go_enter Tryz.func78, Tryz.ntmps78
    go_wp2_with fail
    go_ret
    exact ⟨rfl, rfl⟩

/-- where a text stands in another one, from a place on; below 0: nowhere -/
def findF (l t : List UInt8) (i : Nat) : Int := if Lib.index (l.drop i) t < 0 then -1 else (i : Int) + Lib.index (l.drop i) t

set_option maxHeartbeats 1000000 in
theorem rfind_ok (s t : ByteArray) (i : Nat) (w : World) (hi : i ≤ s.size) (hs : s.size ≤ 140737488351232) (ht : 0 < t.size) (ht2 : t.size ≤ 1000) :
    Calls Tryz.prog 79 #[.string s, .string t, .int .i64 (i : Int)] w fun e w' => e = .returned (.int .i64 (findF s.data.toList t.data.toList i)) ∧ w = w' := by
  have hne : t.data.toList ≠ [] := by intro e; have := congrArg List.length e; rw [text_len, List.length_nil] at this; omega
  have hocc : ∀ j, Lib.occAt (s.data.toList.drop i) t.data.toList j = Lib.occAt s.data.toList t.data.toList (i + j) := fun j => by unfold Lib.occAt; rw [List.drop_drop]
  have hhit : ∀ k, i ≤ k → k ≤ s.size → Lib.occAt s.data.toList t.data.toList k = true → (∀ j, i ≤ j → j < k → Lib.occAt s.data.toList t.data.toList j = false) → findF s.data.toList t.data.toList i = (k : Int) := fun k hk hks h1 h2 => by
    have := Lib.index_first (s := s.data.toList.drop i) (sub := t.data.toList) (i := k - i) (by rw [List.length_drop, text_len]; omega) (by rw [hocc, show i + (k - i) = k by omega]; exact h1) (fun j hj => by rw [hocc]; exact h2 _ (by omega) (by omega))
    unfold findF
    rw [this, if_neg (by omega)]
    omega
  have hmiss : (∀ j, i ≤ j → j + t.size ≤ s.size → Lib.occAt s.data.toList t.data.toList j = false) → findF s.data.toList t.data.toList i = -1 := fun h => by
    have := Lib.index_none (s := s.data.toList.drop i) (sub := t.data.toList) (fun j _ => by
      rw [hocc]
      rcases Nat.lt_or_ge s.size (i + j + t.size) with h1 | h1
      · exact occ_none (by rw [text_len, text_len]; omega) hne
      · exact h _ (by omega) h1)
    unfold findF
    rw [this, if_pos (by omega)]
  have hcut := fun k (h : k + t.size ≤ s.size) => occ_cut s t k h
  generalize findF s.data.toList t.data.toList i = R at hhit hmiss
  generalize Lib.occAt s.data.toList t.data.toList = oc at *
  have HH := Lib.hid hhit
  have HM := Lib.hid hmiss
  have HC := Lib.hid hcut
  clear hhit hmiss hcut hocc hne
  go_enter Tryz.func79, Tryz.ntmps79
  go_wp2
  go_loop [7] (fun v => ∃ k : Nat, v = .int .i64 k ∧ i ≤ k ∧ k ≤ s.size + 1 ∧ Hid (∀ j, i ≤ j → j < k → oc j = false)) (fun v => s.size + 1 - (intOf v).toNat)
  case atStart => exact ⟨i, rfl, Nat.le_refl _, by omega, Lib.hid (fun j h1 h2 => by omega)⟩
  case round =>
    obtain ⟨k, rfl, hk, hks, hno⟩ := hrel
    by_cases h : k + t.size ≤ s.size
    · have hc := HC.out k h
      have h2 : ((k : Int) + (t.size : Int)).toNat = k + t.size := by omega
      cases hb : oc k
      · rw [hb] at hc
        have hno2 : Hid (∀ j, i ≤ j → j < k + 1 → oc j = false) := Lib.hid (fun j h1 h3 => by
          rcases Nat.lt_or_ge j k with h4 | h4
          · exact hno.out j h1 h4
          · obtain rfl : j = k := by omega
            exact hb)
        clear hb
        go_wp2_with fail
        go_round
        case rel => exact ⟨k + 1, by go_num, by omega, by omega, hno2⟩
        case measure => simp [intOf]; omega
      · rw [hb] at hc
        have hR := HH.out k hk (by omega) hb hno.out
        subst hR
        clear hb
        go_wp2_with fail
        go_ret
        exact ⟨rfl, rfl⟩
    · have hR := HM.out (fun j h1 h3 => hno.out j h1 (by omega))
      subst hR
      have hg : ¬ ((k : Int) + (t.size : Int) ≤ (s.size : Int)) := by omega
      clear h
      go_wp2_with fail
      go_ret
      exact ⟨rfl, rfl⟩
end

/- The document's layer 4: blanks cut off, what stands between quotes, words: contracts. -/
section
open Go.RowKit
set_option maxRecDepth 100000

/-- blanks at the ends are cut off, the first ones first -/
def trimR (l : List UInt8) : List UInt8 := ((l.dropWhile blankF).reverse.dropWhile blankF).reverse

theorem dropWhile_append_all {p : UInt8 → Bool} : ∀ (a b : List UInt8), (∀ x ∈ a, p x = true) → (a ++ b).dropWhile p = b.dropWhile p
  | [], _, _ => rfl
  | x :: a, b, h => by
    have := dropWhile_append_all a b (fun y hy => h y (List.mem_cons_of_mem _ hy))
    rw [List.cons_append, List.dropWhile_cons_of_pos (h x (by simp)), this]
theorem dropWhile_append_some {p : UInt8 → Bool} : ∀ (a b : List UInt8), (∃ x ∈ a, p x = false) → (a ++ b).dropWhile p = a.dropWhile p ++ b
  | [], _, ⟨x, h, _⟩ => by simp at h
  | x :: a, b, h => by
    by_cases hx : p x = true
    · rw [List.cons_append, List.dropWhile_cons_of_pos hx, List.dropWhile_cons_of_pos hx]
      refine dropWhile_append_some a b ?_
      obtain ⟨y, hy, hp⟩ := h
      rcases List.mem_cons.1 hy with rfl | hy
      · rw [hx] at hp; cases hp
      · exact ⟨y, hy, hp⟩
    · rw [List.cons_append, List.dropWhile_cons_of_neg hx, List.dropWhile_cons_of_neg hx]
      rfl

/-- the end cut off by one -/
def rtrim (p : UInt8 → Bool) (l : List UInt8) : List UInt8 := (l.reverse.dropWhile p).reverse
theorem rtrim_cons {p : UInt8 → Bool} (x : UInt8) (l : List UInt8) : rtrim p (x :: l) = if (∃ y ∈ l, p y = false) then x :: rtrim p l else (if p x = true then [] else [x]) := by
  unfold rtrim
  rw [List.reverse_cons]
  by_cases h : ∃ y ∈ l, p y = false
  · rw [if_pos h, dropWhile_append_some _ _ (by obtain ⟨y, hy, hp⟩ := h; exact ⟨y, List.mem_reverse.2 hy, hp⟩)]
    simp
  · rw [if_neg h, dropWhile_append_all _ _ (fun y hy => by
      rcases hb : p y with _ | _
      · exact absurd ⟨y, List.mem_reverse.1 hy, hb⟩ h
      · rfl)]
    by_cases hx : p x = true
    · rw [List.dropWhile_cons_of_pos hx, if_pos hx]; rfl
    · rw [List.dropWhile_cons_of_neg hx, if_neg hx]; rfl
theorem rtrim_all {p : UInt8 → Bool} {l : List UInt8} (h : ∀ x ∈ l, p x = true) : rtrim p l = [] := by
  unfold rtrim
  have := dropWhile_append_all (p := p) l.reverse [] (fun x hx => h x (List.mem_reverse.1 hx))
  rw [List.append_nil] at this
  rw [this]
  rfl
theorem trim_sides {p : UInt8 → Bool} : ∀ l : List UInt8, (rtrim p l).dropWhile p = rtrim p (l.dropWhile p)
  | [] => rfl
  | x :: l => by
    by_cases hx : p x = true
    · rw [List.dropWhile_cons_of_pos hx, ← trim_sides l, rtrim_cons]
      by_cases h : ∃ y ∈ l, p y = false
      · rw [if_pos h, List.dropWhile_cons_of_pos hx]
      · rw [if_neg h, if_pos hx, rtrim_all (fun y hy => by
          rcases hb : p y with _ | _
          · exact absurd ⟨y, hy, hb⟩ h
          · rfl)]
    · rw [List.dropWhile_cons_of_neg hx, rtrim_cons]
      by_cases h : ∃ y ∈ l, p y = false
      · rw [if_pos h, List.dropWhile_cons_of_neg hx]
      · rw [if_neg h, if_neg hx, List.dropWhile_cons_of_neg hx]
theorem blanks_contains (c : UInt8) : blanks4.contains c = blankF c := by
  have := by_all (fun c => blanks4.contains c == blankF c) (by decide +kernel) c
  simpa using this
theorem trimF_R (l : List UInt8) : trimF l = trimR l := by
  have hp : (blanks4.contains ·) = blankF := funext blanks_contains
  unfold trimF Lib.trimS Lib.trimLeftS Lib.trimRightS trimR
  rw [hp]
  exact trim_sides l

theorem dropWhile_front {p : UInt8 → Bool} {c : UInt8} {r : List UInt8} (h : p c = true) : (c :: r).dropWhile p = r.dropWhile p := List.dropWhile_cons_of_pos h
theorem dropWhile_stays {p : UInt8 → Bool} {c : UInt8} {r : List UInt8} (h : p c = false) : (c :: r).dropWhile p = c :: r := List.dropWhile_cons_of_neg (by simp [h])
theorem rtrim_front {p : UInt8 → Bool} {c : UInt8} {r : List UInt8} (h : p c = true) : rtrim p (r ++ [c]) = rtrim p r := by
  unfold rtrim
  rw [List.reverse_append]
  exact congrArg List.reverse (dropWhile_front h)
theorem rtrim_stays {p : UInt8 → Bool} {c : UInt8} {r : List UInt8} (h : p c = false) : rtrim p (r ++ [c]) = r ++ [c] := by
  unfold rtrim
  rw [List.reverse_append]
  show ((c :: r.reverse).dropWhile p).reverse = _
  rw [dropWhile_stays h]
  simp

def strOf : Value → ByteArray
  | .string s => s
  | _ => ⟨#[]⟩

set_option maxHeartbeats 1000000 in
theorem rtrim_ok (s : ByteArray) (w : World) (hs : s.size ≤ 140737488351232) : Calls Tryz.prog 80 #[.string s] w fun e w' => ∃ r : ByteArray, e = .returned (.string r) ∧ r.data.toList = trimF s.data.toList ∧ w = w' := by
  rw [trimF_R]
  have hT : trimR s.data.toList = rtrim blankF (s.data.toList.dropWhile blankF) := rfl
  rw [hT]
  generalize hd : s.data.toList.dropWhile blankF = dl
  have HD := Lib.hid hd
  clear hd hT
  go_enter Tryz.func80, Tryz.ntmps80
  go_wp2
  go_loop [0] (fun v => ∃ q : ByteArray, v = .string q ∧ q.size ≤ s.size ∧ Hid (q.data.toList.dropWhile blankF = dl)) (fun v => (strOf v).size)
  case atStart => exact ⟨s, rfl, Nat.le_refl _, HD⟩
  case round =>
    obtain ⟨q, rfl, hq, hx⟩ := hrel
    clear HD
    by_cases h0 : q.size = 0
    · have hn : q.data.toList = [] := List.eq_nil_of_length_eq_zero (by rw [text_len]; exact h0)
      have hdl : dl = [] := by rw [← hx.out, hn]; rfl
      subst hdl
      clear hx
      have HQ : Hid (rtrim blankF q.data.toList = rtrim blankF []) := Lib.hid (by rw [hn])
      clear hn
      go_wp2
      go_loop [0] (fun v => ∃ q2 : ByteArray, v = .string q2 ∧ q2.size ≤ s.size ∧ Hid (rtrim blankF q2.data.toList = rtrim blankF ([] : List UInt8))) (fun v => (strOf v).size)
      case atStart => exact ⟨q, rfl, hq, HQ⟩
      case round =>
        obtain ⟨q2, rfl, hq2, hx2⟩ := hrel
        clear HQ
        by_cases h02 : q2.size = 0
        · have hn2 : q2.data.toList = [] := List.eq_nil_of_length_eq_zero (by rw [text_len]; exact h02)
          have hr2 : Hid (q2.data.toList = rtrim blankF ([] : List UInt8)) := Lib.hid (by rw [← hx2.out, hn2]; rfl)
          clear hx2 hn2
          go_wp2_with fail
          go_ret
          exact ⟨q2, rfl, hr2.out, rfl⟩
        · have hp2 : 0 < q2.size := by omega
          have hlast : q2.data.toList = q2.data.toList.take (q2.size - 1) ++ [q2.data.toList[q2.size - 1]'(by rw [text_len]; omega)] := by
            rw [← List.take_succ_eq_append_getElem, List.take_of_length_le (by rw [text_len]; omega)]
          have hb2 := text_at q2 (q2.size - 1) (by omega)
          generalize q2.data.toList[q2.size - 1]'(by rw [text_len]; omega) = c at hlast hb2
          have hfront := text_front q2 (q2.size - 1)
          have hidx : ((q2.size : Int) + -1).toNat = q2.size - 1 := by omega
          have hin : (0 : Int) ≤ (q2.size : Int) + -1 := by omega
          have hB := fun u => rblank_ok c u
          have hsz2 : (q2.extract 0 (q2.size - 1)).size = q2.size - 1 := by rw [ByteArray.size_extract]; omega
          cases hc : blankF c
          · rw [hc] at hB
            have hr2 : Hid (q2.data.toList = rtrim blankF ([] : List UInt8)) := Lib.hid (by rw [← hx2.out, hlast, rtrim_stays hc])
            have HB := Lib.hid hB
            clear hB hx2 hlast hc hfront hsz2
            go_wp2_with fail
            refine (HB.out _).mono ?_
            rintro e w1 ⟨rfl, rfl⟩
            go_wp2_with fail
            go_ret
            exact ⟨q2, rfl, hr2.out, rfl⟩
          · rw [hc] at hB
            have hr2 : Hid (rtrim blankF (q2.extract 0 (q2.size - 1)).data.toList = rtrim blankF ([] : List UInt8)) := Lib.hid (by rw [hfront, ← hx2.out]; conv => rhs; rw [hlast, rtrim_front hc])
            have HB := Lib.hid hB
            have HS2 := Lib.hid hsz2
            clear hB hx2 hlast hc hfront hsz2
            go_wp2_with fail
            refine (HB.out _).mono ?_
            rintro e w1 ⟨rfl, rfl⟩
            go_wp2_with fail
            go_round
            case rel => exact ⟨q2.extract 0 (q2.size - 1), rfl, by rw [HS2.out]; omega, hr2⟩
            case measure => simp only [strOf]; rw [HS2.out]; omega
    · have hp : 0 < q.size := by omega
      obtain ⟨c, r, hl⟩ : ∃ c r, q.data.toList = c :: r := by
        cases h : q.data.toList with
        | nil => have := text_len q; rw [h] at this; simp at this; omega
        | cons c r => exact ⟨c, r, rfl⟩
      have hb := text_at q 0 hp
      have hb0 : q[0] = c := by rw [hb]; simp [hl]
      clear hb
      have hrest := text_rest q 1
      have hsz : (q.extract 1 q.size).size = q.size - 1 := by rw [ByteArray.size_extract]; omega
      have hB := fun u => rblank_ok c u
      cases hc : blankF c
      · rw [hc] at hB
        have hql : q.data.toList = dl := by rw [← hx.out, hl, dropWhile_stays hc]
        have HQ : Hid (rtrim blankF q.data.toList = rtrim blankF dl) := Lib.hid (by rw [hql])
        have HB := Lib.hid hB
        clear hB hx hc hrest hsz hl hql
        go_wp2_with fail
        refine (HB.out _).mono ?_
        rintro e w1 ⟨rfl, rfl⟩
        go_wp2
        go_loop [0] (fun v => ∃ q2 : ByteArray, v = .string q2 ∧ q2.size ≤ s.size ∧ Hid (rtrim blankF q2.data.toList = rtrim blankF dl)) (fun v => (strOf v).size)
        case atStart => exact ⟨q, rfl, hq, HQ⟩
        case round =>
          obtain ⟨q2, rfl, hq2, hx2⟩ := hrel
          clear HQ
          by_cases h02 : q2.size = 0
          · have hn2 : q2.data.toList = [] := List.eq_nil_of_length_eq_zero (by rw [text_len]; exact h02)
            have hr2 : Hid (q2.data.toList = rtrim blankF dl) := Lib.hid (by rw [← hx2.out, hn2]; rfl)
            clear hx2 hn2
            go_wp2_with fail
            go_ret
            exact ⟨q2, rfl, hr2.out, rfl⟩
          · have hp2 : 0 < q2.size := by omega
            have hlast : q2.data.toList = q2.data.toList.take (q2.size - 1) ++ [q2.data.toList[q2.size - 1]'(by rw [text_len]; omega)] := by
              rw [← List.take_succ_eq_append_getElem, List.take_of_length_le (by rw [text_len]; omega)]
            have hb2 := text_at q2 (q2.size - 1) (by omega)
            generalize q2.data.toList[q2.size - 1]'(by rw [text_len]; omega) = c at hlast hb2
            have hfront := text_front q2 (q2.size - 1)
            have hidx : ((q2.size : Int) + -1).toNat = q2.size - 1 := by omega
            have hin : (0 : Int) ≤ (q2.size : Int) + -1 := by omega
            have hB := fun u => rblank_ok c u
            have hsz2 : (q2.extract 0 (q2.size - 1)).size = q2.size - 1 := by rw [ByteArray.size_extract]; omega
            cases hc : blankF c
            · rw [hc] at hB
              have hr2 : Hid (q2.data.toList = rtrim blankF dl) := Lib.hid (by rw [← hx2.out, hlast, rtrim_stays hc])
              have HB := Lib.hid hB
              clear hB hx2 hlast hc hfront hsz2
              go_wp2_with fail
              refine (HB.out _).mono ?_
              rintro e w1 ⟨rfl, rfl⟩
              go_wp2_with fail
              go_ret
              exact ⟨q2, rfl, hr2.out, rfl⟩
            · rw [hc] at hB
              have hr2 : Hid (rtrim blankF (q2.extract 0 (q2.size - 1)).data.toList = rtrim blankF dl) := Lib.hid (by rw [hfront, ← hx2.out]; conv => rhs; rw [hlast, rtrim_front hc])
              have HB := Lib.hid hB
              have HS2 := Lib.hid hsz2
              clear hB hx2 hlast hc hfront hsz2
              go_wp2_with fail
              refine (HB.out _).mono ?_
              rintro e w1 ⟨rfl, rfl⟩
              go_wp2_with fail
              go_round
              case rel => exact ⟨q2.extract 0 (q2.size - 1), rfl, by rw [HS2.out]; omega, hr2⟩
              case measure => simp only [strOf]; rw [HS2.out]; omega
      · rw [hc] at hB
        have hr2 : Hid ((q.extract 1 q.size).data.toList.dropWhile blankF = dl) := Lib.hid (by rw [hrest, ← hx.out, hl, dropWhile_front hc]; rfl)
        have HB := Lib.hid hB
        have HS := Lib.hid hsz
        clear hB hx hc hrest hsz hl
        go_wp2_with fail
        refine (HB.out _).mono ?_
        rintro e w1 ⟨rfl, rfl⟩
        go_wp2_with fail
        go_round
        case rel => exact ⟨q.extract 1 q.size, rfl, by rw [HS.out]; omega, hr2⟩
        case measure => simp only [strOf]; rw [HS.out]; omega
end

/- A statement's tokens, by package lex: contract. -/
section
open Go.RowKit
set_option maxRecDepth 100000

/-- what a statement has: tokens, or an error -/
def lexA (l : List UInt8) : List (Int × List UInt8) × Int := if 200 < l.length then ([], 4) else match lexF l with | none => ([], 2) | some x => (x, 0)

/-- an answer: a row of tokens of the call's own, and an error -/
def LexTo (f : FuncId) (e : TypeId) (s : ByteArray) (w : World) : Prop :=
  Calls Tryz.prog f #[.string s] w fun x w' => ∃ A n c er ts, x = .returned (.tuple #[.slice A n c, .int .i64 er]) ∧ OT e w' w.heap.size A n c ts ∧ (saysT ts, er) = lexA s.data.toList ∧ Below w.heap.size w w'

theorem firstF_size {l : List UInt8} (k : Nat) (t : List UInt8) (n : Nat) (h : firstF l = some (k, t, n)) : 1 ≤ n ∧ n ≤ l.length := by
  cases l with
  | nil => simp [firstF] at h
  | cons c r =>
    simp only [firstF] at h
    split at h
    · rename_i hc
      simp only [Option.some.injEq, Prod.mk.injEq] at h
      obtain ⟨_, _, rfl⟩ := h
      have hl : lodF c = true := by simp [lodF, hc]
      have := runF_le lodF (c :: r)
      rw [runF_some hl] at this ⊢
      omega
    split at h
    · rename_i hc
      simp only [Option.some.injEq, Prod.mk.injEq] at h
      obtain ⟨_, _, rfl⟩ := h
      have := runF_le digitF (c :: r)
      rw [runF_some hc] at this ⊢
      omega
    split at h
    · obtain ⟨x, hx, h⟩ := Option.map_eq_some_iff.1 h
      have := quotedF_le hx
      simp only [Prod.mk.injEq] at h
      simp
      omega
    split at h
    · obtain ⟨x, hx, h⟩ := Option.map_eq_some_iff.1 h
      have := quotedF_le hx
      simp only [Prod.mk.injEq] at h
      simp
      omega
    split at h
    · rename_i hb
      have h3 := (List.isPrefixOf_iff_prefix.1 hb).length_le
      have := closedF_le (c :: r) 3 (by simpa using h3)
      split at h
      · cases h
      · simp only [Option.some.injEq, Prod.mk.injEq] at h
        obtain ⟨_, _, rfl⟩ := h
        omega
    split at h
    · simp only [Option.some.injEq, Prod.mk.injEq] at h
      simp
      omega
    · cases h

set_option maxHeartbeats 2000000 in
theorem lex_ok (s : ByteArray) (w : World) (hm : s.size ≤ maxLen) (hL : Lw w) : LexTo 14 89 s w := by
  unfold LexTo
  unfold maxLen at hm
  by_cases hlong : 200 < s.size
  · have hA : lexA s.data.toList = ([], 4) := by unfold lexA; rw [text_len, if_pos hlong]
    have HA := Lib.hid hA
    clear hA
    go_enter Tryz.func14, Tryz.ntmps14
    go_wp2_with fail
    go_step3
    go_wp2_with fail
    rw [Exit.noGoto_ret]
    go_ret2
    exact ⟨none, 0, 0, 4, [], rfl, OT.nil _ _ _, by rw [HA.out]; rfl, Below.refl _ _⟩
  have hA : ∀ R, lexF s.data.toList = R → lexA s.data.toList = (match R with | none => ([], 2) | some x => (x, 0)) := fun R h => by unfold lexA; rw [text_len, if_neg hlong, h]
  generalize hR0 : lexF s.data.toList = R at hA
  have hA1 := hA R rfl
  have HA := Lib.hid hA1
  have HR := Lib.hid hR0
  have hlen := Lib.hid (text_len s)
  clear hA hA1 hR0
  obtain ⟨i0, hi, hz0, hz1, hz2⟩ := info_parts tkinfo
  go_enter Tryz.func14, Tryz.ntmps14
  go_wp2_with fail
  go_step3
  go_wp2_with fail
  go_step3
  go_wp2_with fail
  go_loopw [4, 5] (fun l4 at_ wr => ∃ (k : Nat) (A : Option Addr) (n c : Nat) (ts : List Tk), at_ = .int .i64 k ∧ k ≤ s.size ∧ l4 = .slice A n c ∧ OT 89 wr w.heap.size A n c ts ∧ n ≤ k ∧ Hid (R = (lexF (s.data.toList.drop k)).map (saysT ts ++ ·)) ∧ Below w.heap.size w wr) (fun _ at_ _ => s.size - (intOf at_).toNat)
  case atStart => exact ⟨0, none, 0, 0, [], rfl, Nat.zero_le _, rfl, OT.nil _ _ _, Nat.le_refl _, Lib.hid (by rw [← HR.out]; simp [saysT]), Below.refl _ _⟩
  case round =>
    obtain ⟨k, A, n, c, ts, rfl, hks, rfl, ho, hnk, hx, kw⟩ := hrel
    clear HR
    by_cases hlt : k < s.size
    · have hL1 := hL.next kw
      have hkl : k < s.data.toList.length := by rw [hlen.out]; exact hlt
      have hrest := text_rest s k
      have hcons : s.data.toList.drop k = s.data.toList[k] :: s.data.toList.drop (k + 1) := List.drop_eq_getElem_cons hkl
      have hne : s.data.toList.drop k ≠ [] := by rw [hcons]; simp
      have hdl : (s.data.toList.drop k).length = s.size - k := by rw [List.length_drop, hlen.out]
      have hsz : (s.extract k s.size).size = s.size - k := by rw [ByteArray.size_extract]; omega
      have hdd : ∀ j, (s.data.toList.drop k).drop j = s.data.toList.drop (k + j) := fun j => by rw [List.drop_drop]
      generalize s.data.toList[k] = b at hcons
      generalize s.data.toList.drop (k + 1) = r' at hcons
      generalize hD : s.data.toList.drop k = l at hrest hcons hne hdl hdd hx
      have hb0 : ∀ h, (s.extract k s.size)[0]'h = b := fun h => by
        have e0 : (s.extract k s.size).data.toList[0]? = some b := by rw [hrest, hcons]; rfl
        rw [text_at _ 0 h]
        exact (List.getElem?_eq_some_iff.1 e0).2
      generalize hE : s.extract k s.size = q at hrest hsz hb0
      have hq0 : 0 < q.size := by omega
      have hqs : q.size ≤ 200 := by omega
      have HS := Lib.hid hsz
      have HD := Lib.hid hdd
      have HRest := Lib.hid hrest
      have HC := Lib.hid hcons
      have hdl2 : l.length = q.size := by omega
      have HDL := Lib.hid hdl2
      have HNE := Lib.hid hne
      have hskip : ∀ j, j ≠ 0 → stepF l = .skip j → Hid (R = (lexF (s.data.toList.drop (k + j))).map (saysT ts ++ ·)) := fun j hj hs => Lib.hid (by rw [hx.out, lexF_skip hne hs hj, hdd])
      have htok : ∀ (j kd : Nat) (t : List UInt8), j ≠ 0 → stepF l = .tok kd t j → Hid (R = ((lexF (s.data.toList.drop (k + j))).map (((kd : Int), t) :: ·)).map (saysT ts ++ ·)) := fun j kd t hj hs => Lib.hid (by rw [hx.out, lexF_tok hne hs hj, hdd])
      have hbad : stepF l = .bad → R = none := fun hs => by rw [hx.out, lexF_bad hne hs]; rfl
      have HSkip := Lib.hid hskip
      have HTok := Lib.hid htok
      have HBad := Lib.hid hbad
      clear hskip htok hbad hsz hdd hrest hcons hdl hdl2 hne hD
      have H1 := fun u => isBlank_ok b u
      by_cases h1 : blankF b = true
      · rw [h1] at H1
        have H1' := Lib.hid H1
        have hx2 := HSkip.out 1 (by omega) (by rw [HC.out, stepF, if_pos h1])
        clear H1 h1 hx
        go_wp2_with fail
        refine (H1'.out _).mono ?_
        rintro e w1 ⟨rfl, rfl⟩
        go_wp2_with fail
        go_roundw
        case rel => exact ⟨k + 1, A, n, c, ts, by go_num, by omega, rfl, ho, by omega, hx2, kw⟩
        case measure => simp [intOf]; omega
      have h1f : blankF b = false := by simpa using h1
      rw [h1f] at H1
      have H1' := Lib.hid H1
      have H2 := fun u => beginsLine_ok q u hq0
      rw [HRest.out] at H2
      clear H1
      by_cases h2 : isLineF l = true
      · rw [h2] at H2
        have H2' := Lib.hid H2
        have hi10 := fun u => indexByte_s q 10 u
        rw [HRest.out] at hi10
        have hst : stepF l = .skip (lineF l) := by
          rw [HC.out] at h2 ⊢
          rw [stepF, if_neg h1, if_pos h2]
        have hlf : lineF l = if Lib.indexByte l 10 < 0 then l.length else (Lib.indexByte l 10).toNat := rfl
        have hlt10 := fun h => indexByte_lt (l := l) (c := 10) h
        have h35 : 0 ≤ Lib.indexByte l 10 → (Lib.indexByte l 10).toNat ≠ 0 := fun h => by
          have h10 : b ≠ 10 := by
            intro e
            subst e
            revert h1
            decide
          rw [HC.out, Lib.indexByte]
          rw [HC.out, Lib.indexByte] at h
          have hb10 : (b == 10) = false := by simpa using h10
          rw [hb10] at h ⊢
          simp only [Bool.false_eq_true, if_false] at h ⊢
          split at h
          · omega
          · have := indexByte_lt.indexByte_ge1 r' 10
            rename_i hne
            rw [if_neg hne]
            have hne2 : Lib.indexByte r' 10 ≠ -1 := by simpa using hne
            omega
        have e10 : ((10 : UInt8).toNat : Int) = 10 := rfl
        rw [e10] at hi10
        generalize Lib.indexByte l 10 = x at hi10 hlf hlt10 h35
        have HI := Lib.hid hi10
        by_cases hx0 : x < 0
        · rw [if_pos hx0, HDL.out] at hlf
          rw [hlf] at hst
          have hx2 := HSkip.out q.size (by omega) hst
          rw [List.drop_eq_nil_of_le (by rw [hlen.out]; have := HS.out; omega), lexF_nil] at hx2
          have hR : R = some (saysT ts) := by rw [hx2.out]; simp
          subst hR
          clear H2 h2 h1 hi10 hx hst hlf hlt10 h35 hx2
          go_wp2_with fail
          refine (H1'.out _).mono ?_
          rintro e w1 ⟨rfl, rfl⟩
          go_wp2_with fail
          refine (H2'.out _).mono ?_
          rintro e w1 ⟨rfl, rfl⟩
          go_wp2_with fail
          refine (HI.out _).mono ?_
          rintro e w1 ⟨rfl, rfl⟩
          go_wp2_with fail
          try rw [Exit.noGoto_ret]
          go_ret2
          exact ⟨A, n, c, 0, ts, rfl, ho, by rw [HA.out], kw⟩
        · obtain ⟨m, rfl⟩ : ∃ m : Nat, x = m := ⟨x.toNat, by omega⟩
          rw [if_neg hx0, Int.toNat_natCast] at hlf
          rw [hlf] at hst
          have hm0 := h35 (by omega)
          have hml := hlt10 (by omega)
          rw [Int.toNat_natCast] at hm0 hml
          rw [HDL.out, HS.out] at hml
          have hx2 := HSkip.out m hm0 hst
          clear H2 h2 h1 hi10 hx hst hlf hlt10 h35
          go_wp2_with fail
          refine (H1'.out _).mono ?_
          rintro e w1 ⟨rfl, rfl⟩
          go_wp2_with fail
          refine (H2'.out _).mono ?_
          rintro e w1 ⟨rfl, rfl⟩
          go_wp2_with fail
          refine (HI.out _).mono ?_
          rintro e w1 ⟨rfl, rfl⟩
          go_wp2_with fail
          go_roundw
          case rel => exact ⟨k + m, A, n, c, ts, by go_num, by omega, rfl, ho, by omega, hx2, kw⟩
          case measure => simp [intOf]; omega
      have h2f : isLineF l = false := by simpa using h2
      rw [h2f] at H2
      have H2' := Lib.hid H2
      clear H2
      have H3 := fun u => beginsRemark_ok q u
      rw [HRest.out] at H3
      by_cases h3 : isRemarkF l = true
      · rw [h3] at H3
        have H3' := Lib.hid H3
        have h2q : 2 ≤ q.size := by
          rw [← HDL.out]
          have h4 : begF [47, 42] l = true := by
            unfold isRemarkF at h3
            simp at h3
            exact h3.1
          have := (List.isPrefixOf_iff_prefix.1 h4).length_le
          simpa using this
        have hC := closedSize_ok q 2 wr (by omega) h2q hL1
        rw [HRest.out] at hC
        have hst : stepF l = if closedF l 2 = 0 then .bad else .skip (closedF l 2) := by
          rw [HC.out] at h2 h3 ⊢
          rw [stepF, if_neg h1, if_neg h2, if_pos h3]
        have hle := closedF_le l 2 (by rw [HDL.out]; exact h2q)
        rw [HDL.out] at hle
        generalize closedF l 2 = m at hC hst hle
        have HCl := Lib.hid hC
        by_cases hm0 : m = 0
        · subst hm0
          rw [if_pos rfl] at hst
          have hR := HBad.out hst
          subst hR
          clear H3 h3 h2 h2f h1 h1f hC hst hx hle
          go_wp2_with fail
          refine (H1'.out _).mono ?_
          rintro e w1 ⟨rfl, rfl⟩
          go_wp2_with fail
          refine (H2'.out _).mono ?_
          rintro e w1 ⟨rfl, rfl⟩
          go_wp2_with fail
          refine (H3'.out _).mono ?_
          rintro e w1 ⟨rfl, rfl⟩
          go_wp2_with fail
          refine HCl.out.mono ?_
          rintro e w1 ⟨rfl, rfl⟩
          go_wp2_with fail
          try rw [Exit.noGoto_ret]
          go_ret2
          exact ⟨none, 0, 0, 2, [], rfl, OT.nil _ _ _, by rw [HA.out]; rfl, kw⟩
        · rw [if_neg hm0] at hst
          have hx2 := HSkip.out m hm0 hst
          have hml := hle.1
          rw [HS.out] at hml
          clear H3 h3 h2 h2f h1 h1f hC hst hx hle
          go_wp2_with fail
          refine (H1'.out _).mono ?_
          rintro e w1 ⟨rfl, rfl⟩
          go_wp2_with fail
          refine (H2'.out _).mono ?_
          rintro e w1 ⟨rfl, rfl⟩
          go_wp2_with fail
          refine (H3'.out _).mono ?_
          rintro e w1 ⟨rfl, rfl⟩
          go_wp2_with fail
          refine HCl.out.mono ?_
          rintro e w1 ⟨rfl, rfl⟩
          go_wp2_with fail
          go_roundw
          case rel => exact ⟨k + m, A, n, c, ts, by go_num, by omega, rfl, ho, by omega, hx2, kw⟩
          case measure => simp [intOf]; omega
      have h3f : isRemarkF l = false := by simpa using h3
      rw [h3f] at H3
      have H3' := Lib.hid H3
      clear H3
      have hFi := first_ok q b r' wr (by omega) (by rw [HRest.out]; exact HC.out) hL1
      unfold tokV at hFi
      rw [HRest.out] at hFi
      have HFi := Lib.hid hFi
      have hst : stepF l = match firstF l with | none => .bad | some (kd, t, m) => .tok kd t m := by
        rw [HC.out] at h2 h3 ⊢
        rw [stepF, if_neg h1, if_neg h2, if_neg h3]
        all_goals (cases firstF (b :: r') <;> rfl)
      have hfi : firstI l = (firstF l).map fun x => ((x.1 : Int), x.2.1, x.2.2) := rfl
      have hsizes := firstF_size (l := l)
      rw [hfi] at HFi
      rw [HDL.out, HS.out] at hsizes
      cases hff : firstF l with
      | none =>
        rw [hff] at hst HFi
        have hR := HBad.out hst
        subst hR
        clear h3 h3f h2 h2f h1 h1f hst hx hFi hfi hsizes
        go_wp2_with fail
        refine (H1'.out _).mono ?_
        rintro e w1 ⟨rfl, rfl⟩
        go_wp2_with fail
        refine (H2'.out _).mono ?_
        rintro e w1 ⟨rfl, rfl⟩
        go_wp2_with fail
        refine (H3'.out _).mono ?_
        rintro e w1 ⟨rfl, rfl⟩
        go_wp2_with fail
        refine HFi.out.mono ?_
        rintro e w1 ⟨k1, r1, n1, rfl, ⟨rfl, rfl, rfl⟩, b1⟩
        go_wp2_with fail
        try rw [Exit.noGoto_ret]
        go_ret2
        exact ⟨none, 0, 0, 2, [], rfl, OT.nil _ _ _, by rw [HA.out]; rfl, kp_alloc (kp_trans kw b1) _⟩
      | some x =>
        obtain ⟨kd, t, m⟩ := x
        rw [hff] at hst HFi
        obtain ⟨hm0, hml⟩ := hsizes kd t m hff
        have hx2 := HTok.out m kd t (by omega) hst
        have hmn : ¬ (m : Int) = 0 := by omega
        have hmb : ((m : Int) == 0) = false := by simp only [beq_eq_false_iff_ne, ne_eq]; exact hmn
        clear h3 h3f h2 h2f h1 h1f hst hx hFi hfi hsizes hff hmn
        go_wp2_with fail
        refine (H1'.out _).mono ?_
        rintro e w1 ⟨rfl, rfl⟩
        go_wp2_with fail
        refine (H2'.out _).mono ?_
        rintro e w1 ⟨rfl, rfl⟩
        go_wp2_with fail
        refine (H3'.out _).mono ?_
        rintro e w1 ⟨rfl, rfl⟩
        go_wp2_with fail
        refine HFi.out.mono ?_
        rintro e w1 ⟨k1, r1, n1, rfl, ⟨rfl, hr1, rfl⟩, b1⟩
        have ho1 := ho.next b1
        have kw1 := kp_trans kw b1
        have hsrc : ∀ X, Rd ((w1.alloc X).alloc (.cells #[.int .i64 (kd : Int), .string r1] 89)) (w1.heap.size + 1 + 1) (some ⟨w1.heap.size + 1, 0, none⟩) [.int .i64 (kd : Int), .string r1] := fun X => by
          have := Rd.new (w1.alloc X) 89 [.int .i64 (kd : Int), .string r1]
          simpa using this
        have HSRC := Lib.hid hsrc
        have hsw := kw1.size
        clear hsrc
        go_wp2_with (at_builtin; refine wpList_append_rds rfl _ _ _ rfl w.heap.size 89 i0 _ 2 24 Tryz.underlying43 hi hz0 hz1 hz2 rfl (by omega) _ n _ rfl ((ho1.own.alloc _).alloc _) _ _ _ _ [.int .i64 (kd : Int), .string r1] rfl rfl (HSRC.out _) (by simp [Value.oneCell']) (by unfold maxLen; omega) (by omega) (by simp; omega) ?_; intro v3 w3 hown3 hg3; obtain ⟨A3, c3, rfl, ho3⟩ := OT.push hown3)
        go_roundw
        case rel => exact ⟨k + n1, A3, n + 1, c3, ts ++ [⟨kd, r1⟩], by go_num, by omega, rfl, ho3, by omega, Lib.hid (by rw [hx2.out, saysT_append]; cases lexF (s.data.toList.drop (k + n1)) <;> simp [saysT, Tk.says, hr1]), (kp_alloc (kp_alloc kw1 _) _).trans (below_own_s ((ho1.own.alloc _).alloc _) hg3 (by simp; omega))⟩
        case measure => simp [intOf]; omega
    · obtain rfl : k = s.size := by omega
      have hR : R = some (saysT ts) := by rw [hx.out, List.drop_eq_nil_of_le (by rw [hlen.out]; exact Nat.le_refl _), lexF_nil]; simp
      subst hR
      clear hx
      go_wp2_with fail
      try rw [Exit.noGoto_ret]
      go_ret2
      exact ⟨A, n, c, 0, ts, rfl, ho, by rw [HA.out], kw⟩
end

/- Which tokens may be, by package lex: contracts. -/
section
open Go.RowKit
set_option maxRecDepth 100000

def rightWordF : List UInt8 → Bool
  | [] => false
  | c :: r => letterF c && (decide (runF lodF (c :: r) = (c :: r).length) && decide (greatF (c :: r) = c :: r))

theorem toList_data (s : ByteArray) : s.toList = s.data.toList := ByteArray.toList_eq s
theorem run_all_ascii {l : List UInt8} (h : runF lodF l = l.length) : ∀ c ∈ l, c.toNat < 128 := fun c hc => lod_ascii c (runF_all lodF l c (by rw [h, List.take_length]; exact hc))

def rightF (k : Int) (l : List UInt8) : Bool :=
  if k = 1 then rightWordF l
  else if k = 2 ∨ k = 3 then true
  else if k = 4 then decide (l ≠ []) && decide (runF digitF l = l.length)
  else if k = 5 then !Lib.contains l ends2 && decide (trimF l = l)
  else if k = 6 then (match l with | [c] => signF c | _ => false)
  else false

/-- one answer of Right -/
def RightTo (f : FuncId) (k : Int) (s : ByteArray) (w : World) : Prop := Calls Tryz.prog f #[.agg #[.int .i64 k, .string s]] w fun e w' => e = .returned (.bool (rightF k s.data.toList)) ∧ Below w.heap.size w w'

theorem eq_empty (s : ByteArray) : (s.toList == ([] : List UInt8)) = decide (s.size = 0) := by
  rw [toList_data, Bool.eq_iff_iff]
  simp only [beq_iff_eq, decide_eq_true_eq]
  rw [← text_len]
  exact List.length_eq_zero_iff.symm
end
end Go.Proofs.YtaimmdhjfccnkaaGreatDoor
