/-
  Contracts and plain functions that the law stands on, part 1 of 5.
-/
import Derived.Test.YtkbaljdpnopbmaaRows
import Derived.WalkKit
import Derived.WalkSpells
import Derived.Lib.Hide
import Derived.Lib.AppendStr
import Derived.Lib.BufferRead
import Derived.Lib.ConvBytes
import Derived.Laws.IdiomStrings
import Derived.Laws.CopyOwn
import Derived.Deep.Draws
import Derived.OrdersHeld
import Derived.Deep.RegionHeld
import Derived.OneCell
import Derived.Laws.LoneSync
import Derived.Laws.Pointers
import Derived.RegionCalls
import Derived.RegionTactic
import Derived.Tactics
import Derived.Tactics2
namespace Go.Proofs.Ytkbaljdpnopbmaa
/- Words for lists of bytes and what memory holds of them; no function of the program is named here. -/
section
open Go.RowKit

/-- a byte as a cell -/
def bv (b : UInt8) : Value := .int .u8 (b.toNat : Int)
def bvs (l : List UInt8) : List Value := l.map bv

theorem bvs_length (l : List UInt8) : (bvs l).length = l.length := by simp [bvs]
theorem bvs_append (l r : List UInt8) : bvs (l ++ r) = bvs l ++ bvs r := by simp [bvs]
theorem bvs_drop (l : List UInt8) (k : Nat) : (bvs l).drop k = bvs (l.drop k) := by simp [bvs, List.map_drop]
theorem bvs_take (l : List UInt8) (k : Nat) : (bvs l).take k = bvs (l.take k) := by simp [bvs, List.map_take]
theorem bvs_one (l : List UInt8) : ∀ u ∈ bvs l, u.oneCell' = true := by
  intro u hu
  obtain ⟨b, _, rfl⟩ := List.mem_map.1 hu
  rfl
theorem bvs_get (l : List UInt8) (k : Nat) (h : k < l.length) : (bvs l)[k]? = some (bv l[k]) := by simp [bvs, h]
theorem bv_inj {a b : UInt8} (e : bv a = bv b) : a = b := by
  simp only [bv, Value.int.injEq, true_and] at e
  exact UInt8.toNat_inj.1 (by omega)
theorem bvs_inj : ∀ {l r : List UInt8}, bvs l = bvs r → l = r
  | [], [], _ => rfl
  | [], _ :: _, h => by simp [bvs] at h
  | _ :: _, [], h => by simp [bvs] at h
  | a :: l, b :: r, h => by
    simp only [bvs, List.map_cons, List.cons.injEq] at h
    rw [bv_inj h.1, bvs_inj (l := l) (r := r) h.2]

/-- what a slice's address reads: nothing is asked of an empty one -/
def Rd (w : World) (B : Nat) (A : Option Addr) (xs : List Value) : Prop :=
  xs = [] ∨ ∃ ad, A = some ad ∧ ad.block < B ∧ ∀ j u, xs[j]? = some u → w.cell? (ad.add j) = some u

theorem add_block (a : Addr) (n : Nat) : (a.add n).block = a.block := by unfold Addr.add; split <;> rfl
theorem add_add (a : Addr) (i j : Nat) : (a.add i).add j = a.add (i + j) := by
  unfold Addr.add
  by_cases hi : i = 0 <;> by_cases hj : j = 0 <;> simp [hi, hj, Nat.add_assoc]

section
variable {w w' : World} {B : Nat} {A : Option Addr} {xs : List Value}
theorem Rd.nil (w : World) (B : Nat) (A : Option Addr) : Rd w B A [] := .inl rfl
theorem Rd.keep (h : Rd w B A xs) (hk : ∀ p : Addr, p.block < B → w'.cell? p = w.cell? p) : Rd w' B A xs := by
  rcases h with h | ⟨ad, e, hb, hc⟩
  · exact .inl h
  · exact .inr ⟨ad, e, hb, fun j u hu => (hk _ (by rw [add_block]; exact hb)).trans (hc j u hu)⟩
theorem Rd.more {B' : Nat} (h : Rd w B A xs) (hB : B ≤ B') : Rd w B' A xs := by
  rcases h with h | ⟨ad, e, hb, hc⟩
  · exact .inl h
  · exact .inr ⟨ad, e, by omega, hc⟩
theorem Rd.below {B' : Nat} (h : Rd w B A xs) (hb : Below B' w w') (hB : B ≤ B') : Rd w' B A xs := h.keep fun _ hp => hb.cell (by omega)
theorem Rd.at_ (h : Rd w B A xs) {k : Nat} (hk : k < xs.length) : ∃ ad, A = some ad ∧ ad.block < B ∧ w.cell? (ad.add k) = some xs[k] := by
  rcases h with rfl | ⟨ad, e, hb, hc⟩
  · simp at hk
  · exact ⟨ad, e, hb, hc k _ (List.getElem?_eq_getElem hk)⟩
theorem Rd.addr (h : Rd w B A xs) (hk : 0 < xs.length) : ∃ ad, A = some ad ∧ ad.block < B ∧ ∀ j u, xs[j]? = some u → w.cell? (ad.add j) = some u := by
  rcases h with rfl | h
  · simp at hk
  · exact h
/-- a cut off the front: the address as the model spells it -/
theorem Rd.cut {k cap : Nat} (h : Rd w B A xs) (hc : xs.length ≤ cap) : Rd w B (if cap = k then A else A.map (·.add k)) (xs.drop k) := by
  rcases Nat.lt_or_ge k xs.length with hlt | hge
  · obtain ⟨ad, rfl, hb, hcell⟩ := h.addr (by omega)
    rw [if_neg (by omega)]
    refine .inr ⟨ad.add k, rfl, by rw [add_block]; exact hb, fun j u hu => ?_⟩
    rw [add_add]
    exact hcell _ u (by rw [← hu, List.getElem?_drop])
  · rw [List.drop_eq_nil_of_le hge]
    exact .inl rfl
theorem Rd.front (h : Rd w B A xs) (k : Nat) : Rd w B A (xs.take k) := by
  rcases h with rfl | ⟨ad, e, hb, hc⟩
  · exact .inl (by simp)
  · refine .inr ⟨ad, e, hb, fun j u hu => hc j u ?_⟩
    rw [List.getElem?_take] at hu
    split at hu
    · exact hu
    · cases hu
theorem Rd.of_own {base n c : Nat} {e : TypeId} (h : w.ownsRow base e 1 (.slice A n c) n xs) : Rd w w.heap.size A xs := by
  rcases h.2 with ⟨_, hn⟩ | ⟨g, cap, cur, hv, _, hg, _⟩
  · exact .inl (List.eq_nil_of_length_eq_zero (by have := h.1; omega))
  · have hA : A = some ⟨g, 0, none⟩ := by injection hv
    subst hA
    exact .inr ⟨_, rfl, (Array.getElem?_eq_some_iff.1 hg).1, h.cells (g := g) rfl⟩
end

theorem own_len {w : World} {base e n : Nat} {v : Value} {xs : List Value} (h : w.ownsRow base e 1 v n xs) : n = xs.length := by have := h.1; omega

/-- a row that a call owns is a slice, at its head or nil -/
theorem own_form {w : World} {base n : Nat} {e : TypeId} {v : Value} {xs : List Value} (h : w.ownsRow base e 1 v n xs) : ∃ A c, v = .slice A n c ∧ n ≤ c ∧ c ≤ maxLen := by
  rcases h.2 with ⟨rfl, rfl⟩ | ⟨g, cap, cur, rfl, _, _, h1, h2, _⟩
  · exact ⟨_, _, rfl, Nat.le_refl _, by simp [maxLen]⟩
  · exact ⟨_, _, rfl, h1, h2⟩

/-- a row that was owned stays so, below what a later call turned -/
theorem own_below {w w' : World} {base n B : Nat} {e : TypeId} {v : Value} {xs : List Value} (h : w.ownsRow base e 1 v n xs) (hb : Below B w w') (hB : w.heap.size ≤ B) : w'.ownsRow base e 1 v n xs := by
  refine ⟨h.1, ?_⟩
  rcases h.2 with h2 | ⟨g, cap, cur, hv, hg, hh, r⟩
  · exact .inl h2
  · have hlt := (Array.getElem?_eq_some_iff.1 hh).1
    exact .inr ⟨g, cap, cur, hv, hg, (hb.block g (by omega)).trans hh, r⟩
theorem own_base {w : World} {base base' n : Nat} {e : TypeId} {v : Value} {xs : List Value} (h : w.ownsRow base e 1 v n xs) (hB : base' ≤ base) : w.ownsRow base' e 1 v n xs := by
  refine ⟨h.1, ?_⟩
  rcases h.2 with h2 | ⟨g, cap, cur, hv, hg, r⟩
  · exact .inl h2
  · exact .inr ⟨g, cap, cur, hv, by omega, r⟩
/-- a frame behind an append onto a row of the call's own -/
theorem below_own {w w' : World} {base n : Nat} {e : TypeId} {v : Value} {xs : List Value} (h : w.ownsRow base e 1 v n xs) (hg : w.grownBy w' v.ownBlock) (hb : base ≤ w.heap.size) : Below base w w' :=
  (Below.refl _ _).grown hg hb (fun k hk => (h.lt k hk).1)

theorem below_drewN {B : Nat} {a w : World} (h : Below B a w) (n : Nat) : Below B a (w.drewN n) := ⟨h.os, h.tape, h.output, h.size, h.block⟩

/-- a slice of bytes, as an argument and as an answer: what it reads, how long it is -/
structure Sl (w : World) (B : Nat) (A : Option Addr) (l c : Nat) (bs : List UInt8) : Prop where
  rd : Rd w B A (bvs bs)
  len : bs.length = l
  cap : l ≤ c
theorem Sl.below {w w' : World} {B B' : Nat} {A : Option Addr} {l c : Nat} {bs : List UInt8} (h : Sl w B A l c bs) (hb : Below B' w w') (hB : B ≤ B') : Sl w' B A l c bs := ⟨h.rd.below hb hB, h.len, h.cap⟩
theorem Sl.more {w : World} {B B' : Nat} {A : Option Addr} {l c : Nat} {bs : List UInt8} (h : Sl w B A l c bs) (hB : B ≤ B') : Sl w B' A l c bs := ⟨h.rd.more hB, h.len, h.cap⟩
/-- what was read stays read, behind a call that leaves what was there -/
theorem Sl.next {w w' : World} {A : Option Addr} {l c : Nat} {bs : List UInt8} (h : Sl w w.heap.size A l c bs) (hb : Below w.heap.size w w') : Sl w' w'.heap.size A l c bs := (h.below hb (Nat.le_refl _)).more hb.size
theorem Sl.nil (w : World) (B : Nat) : Sl w B none 0 0 [] := ⟨.inl rfl, rfl, Nat.le_refl _⟩

/-- a row of bytes that the call made, with room that nobody else has -/
structure Ow (w : World) (base : Nat) (A : Option Addr) (l c : Nat) (bs : List UInt8) : Prop where
  own : w.ownsRow base 5 1 (.slice A l c) l (bvs bs)
  len : bs.length = l
  cap : l ≤ c
  most : c ≤ 9223372036854775807
theorem Ow.mk' {w : World} {base : Nat} {v : Value} {l : Nat} {bs : List UInt8} (h : w.ownsRow base 5 1 v l (bvs bs)) : ∃ A c, v = .slice A l c ∧ Ow w base A l c bs := by
  obtain ⟨A, c, rfl, h1, h2⟩ := own_form h
  have := h.1
  rw [bvs_length] at this
  exact ⟨A, c, rfl, h, by omega, h1, by unfold maxLen at h2; omega⟩
theorem Ow.sl {w : World} {base : Nat} {A : Option Addr} {l c : Nat} {bs : List UInt8} (h : Ow w base A l c bs) : Sl w w.heap.size A l c bs := ⟨Rd.of_own h.own, h.len, h.cap⟩
theorem Ow.next {w w' : World} {base : Nat} {A : Option Addr} {l c : Nat} {bs : List UInt8} (h : Ow w base A l c bs) (hb : Below w.heap.size w w') : Ow w' base A l c bs := ⟨own_below h.own hb (Nat.le_refl _), h.len, h.cap, h.most⟩
theorem Ow.base {w : World} {base base' : Nat} {A : Option Addr} {l c : Nat} {bs : List UInt8} (h : Ow w base A l c bs) (hb : base' ≤ base) : Ow w base' A l c bs := ⟨own_base h.own hb, h.len, h.cap, h.most⟩
theorem Ow.nil (w : World) (base : Nat) : Ow w base none 0 0 [] := ⟨World.ownsRow_nil _ _ _ _, rfl, Nat.le_refl _, by omega⟩

/-- a new block is read -/
theorem Rd.new (w : World) (t : TypeId) (xs : List Value) : Rd (w.alloc (.cells xs.toArray t)) (w.heap.size + 1) (some ⟨w.heap.size, 0, none⟩) xs := by
  refine .inr ⟨_, rfl, by simp, fun j u hu => ?_⟩
  have hadd : (⟨w.heap.size, 0, none⟩ : Addr).add j = ⟨w.heap.size, j, none⟩ := by unfold Addr.add; split <;> simp_all
  rw [hadd, cell_of_row _ _ j xs.toArray t (0, 0) (heap_alloc_new w _)]
  simpa using hu

theorem Ow.new (w : World) (base : Nat) (hb : base ≤ w.heap.size) (bs : List UInt8) (hl : bs.length ≤ 1000000) : Ow (w.alloc (.cells (bvs bs).toArray 5)) base (some ⟨w.heap.size, 0, none⟩) bs.length bs.length bs :=
  ⟨⟨by rw [bvs_length]; omega, .inr ⟨w.heap.size, bs.length, _, rfl, hb, heap_alloc_new w _, Nat.le_refl _, by unfold maxLen; omega, by simp [bvs], List.take_of_length_le (by simp [bvs])⟩⟩, rfl, Nat.le_refl _, by omega⟩

theorem Ow.new1 (w : World) (base : Nat) (hb : base ≤ w.heap.size) (x : Value) (b : UInt8) (hx : x = bv b) : Ow (w.alloc (.cells #[x] 5)) base (some ⟨w.heap.size, 0, none⟩) 1 1 [b] := by
  subst hx
  exact Ow.new w base hb [b] (by simp)

theorem Sl.new (w : World) (t : TypeId) (bs : List UInt8) : Sl (w.alloc (.cells (bvs bs).toArray t)) (w.alloc (.cells (bvs bs).toArray t)).heap.size (some ⟨w.heap.size, 0, none⟩) bs.length bs.length bs :=
  ⟨by have := Rd.new w t (bvs bs); simpa using this, rfl, Nat.le_refl _⟩
/-- what stands behind two calls, one after the other -/
theorem kp_trans {a b c : World} (h : Below a.heap.size a b) (k : Below b.heap.size b c) : Below a.heap.size a c := h.trans (k.mono h.size)
theorem kp_alloc {a b : World} (h : Below a.heap.size a b) (o : Obj) : Below a.heap.size a (b.alloc o) := h.alloc h.size o
theorem kp_new (a : World) (o : Obj) : Below a.heap.size a (a.alloc o) := kp_alloc (Below.refl _ _) o
theorem kp_drewN (a : World) (n : Nat) : Below a.heap.size a (a.drewN n) := below_drewN (Below.refl _ _) n
theorem kp_own {w w' : World} {B base : Nat} {A : Option Addr} {l c : Nat} {bs : List UInt8} (h : Ow w base A l c bs) (hg : w.grownBy w' (Value.slice A l c).ownBlock) (hb : B ≤ base) (hw : base ≤ w.heap.size) : Below B w w' :=
  (below_own h.own hg hw).mono hb

/-- bytes as a text -/
theorem run_text {P : Program} {w : World} {B : Nat} {A : Option Addr} {l c : Nat} {bs : List UInt8} (h : Sl w B A l c bs) (src dst e : TypeId) (hs : P.underlying src = some (.slice e)) (he : P.underlying e = some (.int .u8)) (hd : P.underlying dst = some .string) :
    (convert src dst (.slice A l c)).run P w = .ok (.string ⟨bs.toArray⟩) w := by
  obtain ⟨hr, hl, _⟩ := h
  subst hl
  cases A with
  | none =>
    have hn : bs = [] := by
      rcases hr with h | ⟨_, h, _⟩
      · have := congrArg List.length h; rw [bvs_length] at this; exact List.eq_nil_of_length_eq_zero this
      · cases h
    subst hn
    exact Lib.run_convert_nil_bytes w src dst e c hs he hd
  | some ad =>
    refine run_convert_bytes_back w src dst e ad c bs hs he hd fun j hj => ?_
    rcases hr with h | ⟨ad', h, _, hc⟩
    · have := congrArg List.length h; rw [bvs_length] at this; simp at this; subst this; simp at hj
    · injection h with h; subst h
      exact hc j _ (bvs_get bs j hj)

/-- what a row of the call's own says of its address -/
def Fresh (n : Nat) (A : Option Addr) : Prop := ∀ ad, A = some ad → n ≤ ad.block
theorem Fresh.none (n : Nat) : Fresh n none := fun _ h => by cases h
theorem Fresh.less {n m : Nat} {A : Option Addr} (h : Fresh n A) (hm : m ≤ n) : Fresh m A := fun ad e => Nat.le_trans hm (h ad e)
theorem own_fresh {w : World} {base n c s : Nat} {A : Option Addr} {e : TypeId} {xs : List Value} (h : w.ownsRow base e s (.slice A n c) n xs) : Fresh base A := by
  intro ad hA
  rcases h.2 with ⟨h1, _⟩ | ⟨g, cap, cur, h1, h2, _⟩
  · injection h1 with h1; rw [h1] at hA; cases hA
  · injection h1 with h1; rw [h1] at hA; injection hA with hA; subst hA; exact h2
/-- what is read in another block stays read -/
theorem Rd.grown {w w' : World} {B : Nat} {A : Option Addr} {xs : List Value} {k : Option Nat} (h : Rd w B A xs) (hB : B ≤ w.heap.size) (hg : w.grownBy w' k) (hn : ∀ ad, A = some ad → some ad.block ≠ k) : Rd w' B A xs := by
  rcases h with h | ⟨ad, e, hb, hc⟩
  · exact .inl h
  · exact .inr ⟨ad, e, hb, fun j u hu => (World.cell?_of_block (hg.block _ (by rw [add_block]; omega) (by rw [add_block]; exact hn ad e))).trans (hc j u hu)⟩
theorem Sl.grown {w w' : World} {B : Nat} {A : Option Addr} {l c : Nat} {bs : List UInt8} {k : Option Nat} (h : Sl w B A l c bs) (hB : B ≤ w.heap.size) (hg : w.grownBy w' k) (hn : ∀ ad, A = some ad → some ad.block ≠ k) : Sl w' B A l c bs := ⟨h.rd.grown hB hg hn, h.len, h.cap⟩
theorem Rd.setCell {w : World} {B : Nat} {A : Option Addr} {xs : List Value} (h : Rd w B A xs) (p : Addr) (u : Value) (hn : ∀ ad, A = some ad → ad.block ≠ p.block) : Rd (w.setCell p u) B A xs := by
  rcases h with h | ⟨ad, e, hb, hc⟩
  · exact .inl h
  · refine .inr ⟨ad, e, hb, fun j v hv => ?_⟩
    rw [World.cell?_of_block (Below.heap_setCell _ _ _ _ (by rw [add_block]; exact hn ad e))]
    exact hc j v hv
theorem Sl.setCell {w : World} {B : Nat} {A : Option Addr} {l c : Nat} {bs : List UInt8} (h : Sl w B A l c bs) (p : Addr) (u : Value) (hn : ∀ ad, A = some ad → ad.block ≠ p.block) : Sl (w.setCell p u) B A l c bs := ⟨h.rd.setCell p u hn, h.len, h.cap⟩
theorem Sl.drew {w : World} {B : Nat} {A : Option Addr} {l c : Nat} {bs : List UInt8} (h : Sl w B A l c bs) : Sl w.drew B A l c bs := ⟨h.rd, h.len, h.cap⟩
/-- a slice of a slice, its address as the model spells it -/
theorem Sl.sub {w : World} {B : Nat} {A : Option Addr} {l c : Nat} {bs : List UInt8} (h : Sl w B A l c bs) {i j : Nat} (hi : i ≤ j) (hj : j ≤ l) :
    Sl w B (if c = i then A else A.map (·.add i)) (j - i) (c - i) ((bs.take j).drop i) := by
  have hl := h.len
  have hc := h.cap
  have h1 := (h.rd.front j).cut (k := i) (cap := c) (by rw [List.length_take, bvs_length]; omega)
  rw [bvs_take, bvs_drop] at h1
  exact ⟨h1, by rw [List.length_drop, List.length_take]; omega, by omega⟩

/-- cuts of a slice of bytes: the cut's address under one name, its run in every world -/
theorem Sl.cut2 {w : World} {B : Nat} {A : Option Addr} {l c : Nat} {bs : List UInt8} (h : Sl w B A l c bs) (P : Program) (t : TypeId) (ht : P.underlying t = some (.slice (P.elem t))) (hz : (P.info? (P.elem t)).map (·.size) = some 1)
    {i j : Nat} (x y : Int) (hx : x = i) (hy : y = j) (hi : i ≤ j) (hj : j ≤ l) :
    ∃ A', (∀ u, (Instr.slice t (.slice A l c) (some (.int .i64 x)) (some (.int .i64 y)) none).run P u = .ok (.slice A' (j - i) (c - i)) u) ∧ Sl w B A' (j - i) (c - i) ((bs.take j).drop i) := by
  have hc := h.cap
  obtain ⟨ti, hti, hsz⟩ := Option.map_eq_some_iff.1 hz
  refine ⟨_, fun u => ?_, h.sub hi hj⟩
  subst hx hy
  rw [run_slice_lh u t A l c ht .i64 .i64 i j (by omega) (by omega) (by omega)]
  simp [sizeOf, typeInfo, hti, hsz, sliced, Result.andThen]
theorem Sl.cut1 {w : World} {B : Nat} {A : Option Addr} {l c : Nat} {bs : List UInt8} (h : Sl w B A l c bs) (P : Program) (t : TypeId) (ht : P.underlying t = some (.slice (P.elem t))) (hz : (P.info? (P.elem t)).map (·.size) = some 1)
    {i : Nat} (x : Int) (hx : x = i) (hi : i ≤ l) :
    ∃ A', (∀ u, (Instr.slice t (.slice A l c) (some (.int .i64 x)) none none).run P u = .ok (.slice A' (l - i) (c - i)) u) ∧ Sl w B A' (l - i) (c - i) (bs.drop i) := by
  have hc := h.cap
  have hl := h.len
  obtain ⟨ti, hti, hsz⟩ := Option.map_eq_some_iff.1 hz
  have hs := h.sub hi (Nat.le_refl l)
  rw [List.take_of_length_le (by omega)] at hs
  refine ⟨_, fun u => ?_, hs⟩
  subst hx
  rw [run_slice_l u t A l c ht .i64 i (by omega) (by omega)]
  simp [sizeOf, typeInfo, hti, hsz, sliced, Result.andThen]
theorem Sl.cut0 {w : World} {B : Nat} {A : Option Addr} {l c : Nat} {bs : List UInt8} (h : Sl w B A l c bs) (P : Program) (t : TypeId) (ht : P.underlying t = some (.slice (P.elem t))) (hz : (P.info? (P.elem t)).map (·.size) = some 1)
    {j : Nat} (y : Int) (hy : y = j) (hj : j ≤ l) :
    ∃ A', (∀ u, (Instr.slice t (.slice A l c) none (some (.int .i64 y)) none).run P u = .ok (.slice A' j c) u) ∧ Sl w B A' j c (bs.take j) := by
  have hc := h.cap
  obtain ⟨ti, hti, hsz⟩ := Option.map_eq_some_iff.1 hz
  have hs := h.sub (Nat.zero_le j) hj
  simp only [Nat.sub_zero, List.drop_zero] at hs
  refine ⟨_, fun u => ?_, hs⟩
  subst hy
  rw [run_slice_h u t A l c ht .i64 j (by omega) (by omega)]
  simp [sizeOf, typeInfo, hti, hsz, sliced, Result.andThen]

section
variable {P : Program} {w : World}
/-- append where the source has no address: nothing is laid -/
theorem run_append_nothing (base : Nat) (t ty e : TypeId) (i : TypeInfo) (ht : P.underlying t = some (.slice e)) (hi : P.info? e = some i)
    (v : Value) (n c : Nat) (xs : List Value) (hown : w.ownsRow base e 1 v n xs) : (Builtin.append_ #[t, t] ty #[v, .slice none 0 c]).run P w = .ok v w := by
  rcases hown.2 with ⟨rfl, rfl⟩ | ⟨g, cap, cur, rfl, _, _, hnc, _⟩
  · simp [Builtin.append_, run_underlying ht, sizeOf, typeInfo, hi, Builtin.lenOf, Builtin.firstCells]
  · simp [Builtin.append_, run_underlying ht, sizeOf, typeInfo, hi, Builtin.lenOf, Builtin.firstCells, hnc, storeCells]

/-- append onto a row of the call's own, whatever the source: nil, empty or not -/
theorem run_append_rd (base : Nat) (t ty e : TypeId) (i : TypeInfo) (z : Value) (bytes : Nat) (ht : P.underlying t = some (.slice e)) (hi : P.info? e = some i) (hz : i.zero = some z)
    (hsize : i.size = 1) (hby : i.bytes = bytes) (hzs : z.cells.size = 1)
    (v : Value) (n : Nat) (xs : List Value) (hown : w.ownsRow base e 1 v n xs)
    (B : Nat) (A : Option Addr) (m c : Nat) (news : List Value) (hm : news.length = m) (hr : Rd w B A news) (h1 : ∀ u ∈ news, u.oneCell' = true)
    (h63 : n + m ≤ maxLen) (hbytes : (n + m) * bytes ≤ 140737488355328) (hbase : base ≤ w.heap.size) :
    ∃ v' w', (Builtin.append_ #[t, t] ty #[v, .slice A m c]).run P w = .ok v' w' ∧ w'.ownsRow base e 1 v' (n + m) (xs ++ news) ∧ w.grownBy w' v.ownBlock := by
  cases A with
  | none =>
    have hn : news = [] := by
      rcases hr with h | ⟨_, h, _⟩
      · exact h
      · cases h
    subst hn
    obtain rfl : m = 0 := by simpa using hm.symm
    exact ⟨v, w, run_append_nothing base t ty e i ht hi v n c xs hown, by simpa using hown, World.grownBy.refl w _⟩
  | some ad =>
    have hc : ∀ j u, news[j]? = some u → w.cell? (ad.add j) = some u := by
      intro j u hu
      rcases hr with h | ⟨ad', h, _, hc⟩
      · subst h; simp at hu
      · injection h with h; subst h; exact hc j u hu
    obtain ⟨v', w', hrun, h2, h3, _⟩ := run_append_own (P := P) w base t ty e i z 1 bytes ht hi hz hsize hby hzs (by decide) v n xs hown ad m c news (by omega) hc h1 h63 hbytes hbase
    exact ⟨v', w', hrun, h2, h3⟩

theorem wp_append_rd {o : Oper} {a : Act} {K : Act → World → Prop} {Q : Exit → Act → World → Prop} (s x : Operand) (t : TypeId)
    (ho : o.op = .call { callee := .builtin .append, args := #[s, x], argTypes := #[t, t] })
    (base : Nat) (e : TypeId) (i : TypeInfo) (z : Value) (bytes : Nat) (ht : P.underlying t = some (.slice e)) (hi : P.info? e = some i) (hz : i.zero = some z)
    (hsize : i.size = 1) (hby : i.bytes = bytes) (hzs : z.cells.size = 1)
    (v : Value) (n : Nat) (xs : List Value) (hs : a.eval s = v) (hown : w.ownsRow base e 1 v n xs)
    (B : Nat) (A : Option Addr) (m c : Nat) (news : List Value) (hx : a.eval x = .slice A m c) (hm : news.length = m) (hr : Rd w B A news) (h1 : ∀ u ∈ news, u.oneCell' = true)
    (h63 : n + m ≤ maxLen) (hbytes : (n + m) * bytes ≤ 140737488355328) (hbase : base ≤ w.heap.size)
    (h : ∀ v' w', w'.ownsRow base e 1 v' (n + m) (xs ++ news) → w.grownBy w' v.ownBlock → K (a.put o.dst v') w') : o.wp P a w K Q := by
  obtain ⟨v', w', hrun, h2, h3⟩ := run_append_rd (P := P) base t o.type e i z bytes ht hi hz hsize hby hzs v n xs hown B A m c news hm hr h1 h63 hbytes hbase
  unfold Oper.wp execOp
  simp only [ho, resolve, invoke, builtin, Sem.run_bind, Sem.run_pure, Result.andThen_ok, List.map_toArray, List.map_cons, List.map_nil, hs, hx, hrun]
  exact h v' w' h2 h3

theorem wpList_append_rd {ops : Array Oper} {rest : List Oper} {o : Oper} {a : Act} {Q : Exit → Act → World → Prop} (hw : Region.wanted o (yielded ops a.tmps) = true) (s x : Operand) (t : TypeId)
    (ho : o.op = .call { callee := .builtin .append, args := #[s, x], argTypes := #[t, t] })
    (base : Nat) (e : TypeId) (i : TypeInfo) (z : Value) (bytes : Nat) (ht : P.underlying t = some (.slice e)) (hi : P.info? e = some i) (hz : i.zero = some z)
    (hsize : i.size = 1) (hby : i.bytes = bytes) (hzs : z.cells.size = 1)
    (v : Value) (n : Nat) (xs : List Value) (hs : a.eval s = v) (hown : w.ownsRow base e 1 v n xs)
    (B : Nat) (A : Option Addr) (m c : Nat) (news : List Value) (hx : a.eval x = .slice A m c) (hm : news.length = m) (hr : Rd w B A news) (h1 : ∀ u ∈ news, u.oneCell' = true)
    (h63 : n + m ≤ maxLen) (hbytes : (n + m) * bytes ≤ 140737488355328) (hbase : base ≤ w.heap.size)
    (h : ∀ v' w', w'.ownsRow base e 1 v' (n + m) (xs ++ news) → w.grownBy w' v.ownBlock → wpList P ops Q rest (a.put o.dst v') w') : wpList P ops Q (o :: rest) a w :=
  wpList_step fun _ hK => by
    rw [if_pos hw]
    exact wp_append_rd s x t ho base e i z bytes ht hi hz hsize hby hzs v n xs hs hown B A m c news hx hm hr h1 h63 hbytes hbase fun v' w' h2 h3 => hK _ _ (h v' w' h2 h3)

theorem step_append_rd {ops : Array Oper} {o : Oper} {a : Act} {K : Act → World → Prop} {Q : Exit → Act → World → Prop} {E : Prop} (hw : Region.wanted o (yielded ops a.tmps) = true) (s x : Operand) (t : TypeId)
    (ho : o.op = .call { callee := .builtin .append, args := #[s, x], argTypes := #[t, t] })
    (base : Nat) (e : TypeId) (i : TypeInfo) (z : Value) (bytes : Nat) (ht : P.underlying t = some (.slice e)) (hi : P.info? e = some i) (hz : i.zero = some z)
    (hsize : i.size = 1) (hby : i.bytes = bytes) (hzs : z.cells.size = 1)
    (v : Value) (n : Nat) (xs : List Value) (hs : a.eval s = v) (hown : w.ownsRow base e 1 v n xs)
    (B : Nat) (A : Option Addr) (m c : Nat) (news : List Value) (hx : a.eval x = .slice A m c) (hm : news.length = m) (hr : Rd w B A news) (h1 : ∀ u ∈ news, u.oneCell' = true)
    (h63 : n + m ≤ maxLen) (hbytes : (n + m) * bytes ≤ 140737488355328) (hbase : base ≤ w.heap.size)
    (h : ∀ v' w', w'.ownsRow base e 1 v' (n + m) (xs ++ news) → w.grownBy w' v.ownBlock → K (a.put o.dst v') w') :
    if Region.wanted o (yielded ops a.tmps) = true then Oper.wp P o a w K Q else E := by
  rw [if_pos hw]
  exact wp_append_rd s x t ho base e i z bytes ht hi hz hsize hby hzs v n xs hs hown B A m c news hx hm hr h1 h63 hbytes hbase h

/-- a text as bytes -/
theorem run_bytes (w : World) (src dst e : TypeId) (s : ByteArray) (hs : P.underlying src = some .string) (hd : P.underlying dst = some (.slice e)) (he : P.underlying e = some (.int .u8)) :
    ∃ c w1, (convert src dst (.string s)).run P w = .ok (.slice (some ⟨w.heap.size, 0, none⟩) s.size c) w1 ∧ Sl w1 w1.heap.size (some ⟨w.heap.size, 0, none⟩) s.size c s.data.toList ∧ Below w.heap.size w w1 := by
  have hl : s.data.toList.length = s.size := by rw [Array.length_toList]; rfl
  refine ⟨_, _, Lib.run_convert_string_bytes w src dst e s hs hd he, ⟨.inr ⟨_, rfl, ?_, fun j u hu => ?_⟩, hl, grownCap_ge _ _ _ _⟩, ⟨?_, ?_, ?_, ?_, fun k hk => Lib.bytesWorld_at_old w e s k hk⟩⟩
  · rw [Lib.bytesWorld_size]; exact Nat.lt_succ_self _
  · have hj : j < s.size := by
      have := (List.getElem?_eq_some_iff.1 hu).1
      rw [bvs_length, hl] at this
      exact this
    have hadd : (⟨w.heap.size, 0, none⟩ : Addr).add j = ⟨w.heap.size, j, none⟩ := by unfold Addr.add; split <;> simp_all
    rw [hadd, Lib.bytesWorld_cell w e s j hj]
    rw [bvs_get _ j (by omega)] at hu
    rw [← hu, bv]
    simp [List.getD, List.getElem?_eq_getElem (show j < s.data.toList.length by omega)]
  · rfl
  · rfl
  · rfl
  · rw [Lib.bytesWorld_size]; omega
end
end

/- A region that draws its order, gone through once an operation, not once an order: each operation leaves a fact that no later call breaks. -/
section
open Go.RowKit

/-- a fact of a value, kept by whatever leaves alone what was there -/
structure Stb where
  p : Value → World → Prop
  st : ∀ v u u', p v u → Below u.heap.size u u' → p v u'
def Stb.any : Stb := ⟨fun _ _ => True, fun _ _ _ _ _ => trivial⟩
/-- the value is known -/
def Stb.eq (c : Value) : Stb := ⟨fun v _ => v = c, fun _ _ _ h _ => h⟩
def Stb.find : List (Nat × Stb) → Nat → Stb
  | [], _ => Stb.any
  | (t, s) :: r, u => bif Nat.beq t u then s else Stb.find r u

def dstOf (ops : Array Oper) (j : Nat) : Option Tmp := (ops[j]?).bind (·.dst)
/-- the slots of what an operation waits for -/
def waitsFor (ops : Array Oper) (o : Oper) : List Nat := (o.after.toList.filter (Region.binds .any)).filterMap fun e => dstOf ops e.on
def dstsOf (ops : Array Oper) : List Nat := ops.toList.filterMap (·.dst)

/-- what a region leaves of a frame -/
structure Stand (ops : Array Oper) (a0 a : Act) : Prop where
  size : a.tmps.size = a0.tmps.size
  defers : a.defers = a0.defers
  out : ∀ t, (dstsOf ops).contains t = false → a.tmps.getD t undef = a0.tmps.getD t undef

theorem gd {a : Act} {t : Nat} {v : Value} (h : a.tmps.getD t undef = v) : a.tmps[t]?.getD undef = v := by rw [← Array.getD_eq_getD_getElem?]; exact h

def Wants (ops : Array Oper) (a : Act) (o : Oper) : Prop :=
  match o.guard with
  | none => True
  | some (j, b) => ∃ t, dstOf ops j = some t ∧ a.tmps.getD t undef = .bool b

theorem wants {ops : Array Oper} {a : Act} {o : Oper} (h : Wants ops a o) : Region.wanted o (yielded ops a.tmps) = true := by
  unfold Wants at h
  unfold Region.wanted
  split at h
  · rename_i hg; rw [hg]
  · rename_i j b hg
    obtain ⟨t, ht, hv⟩ := h
    rw [hg]
    have hlt : t < a.tmps.size := by
      rcases Nat.lt_or_ge t a.tmps.size with h | h
      · exact h
      · rw [Array.getD_eq_getD_getElem?, Array.getElem?_eq_none h] at hv
        simp [undef] at hv
    rw [Array.getD_eq_getD_getElem?, Array.getElem?_eq_getElem hlt] at hv
    simp only [Option.getD_some] at hv
    unfold dstOf at ht
    simp [yielded, ht, Array.getElem?_eq_getElem hlt, hv]

/-- each operation of a list, with its number -/
def EachOp (C : Nat → Oper → Prop) : Nat → List Oper → Prop
  | _, [] => True
  | k, o :: r => C k o ∧ EachOp C (k + 1) r
theorem EachOp.cons {C : Nat → Oper → Prop} {k : Nat} {o : Oper} {r : List Oper} (h : C k o) (t : EachOp C (k + 1) r) : EachOp C k (o :: r) := ⟨h, t⟩
theorem EachOp.nil {C : Nat → Oper → Prop} {k : Nat} : EachOp C k [] := trivial
theorem EachOp.at_ {C : Nat → Oper → Prop} : ∀ {l : List Oper} {k : Nat}, EachOp C k l → ∀ (i : Nat) (o : Oper), l[i]? = some o → C (k + i) o
  | [], _, _, i, o, h => by simp at h
  | x :: r, k, hh, 0, o, h => by simp at h; subst h; exact hh.1
  | x :: r, k, hh, i + 1, o, h => by
    have := EachOp.at_ hh.2 i o (by simpa using h)
    rwa [show k + 1 + i = k + (i + 1) by omega] at this

theorem filter_lt {l : List Nat} {p q : Nat → Bool} (h : ∀ x, q x = true → p x = true) {i : Nat} (hi : i ∈ l) (hp : p i = true) (hq : q i = false) : (l.filter q).length < (l.filter p).length := by
  induction l with
  | nil => simp at hi
  | cons x r ih =>
    have hle : (r.filter q).length ≤ (r.filter p).length := by
      clear ih hi
      induction r with
      | nil => simp
      | cons y r ih =>
        rw [List.filter_cons, List.filter_cons]
        by_cases hy : q y = true
        · rw [if_pos hy, if_pos (h y hy)]; simp; exact ih
        · rw [if_neg hy]
          split
          · simp; omega
          · exact ih
    rcases List.mem_cons.1 hi with rfl | hi
    · rw [List.filter_cons, List.filter_cons, if_pos hp, if_neg (by simp [hq])]
      simp; omega
    · have := ih hi
      rw [List.filter_cons, List.filter_cons]
      by_cases hx : q x = true
      · rw [if_pos hx, if_pos (h x hx)]; simp; exact this
      · rw [if_neg hx]
        split
        · simp; omega
        · exact this

/-- the checks that a region's table must pass -/
def regOk (ops : Array Oper) (n : Nat) : Bool :=
  ops.toList.all (fun o => match o.dst with | some d => decide (d < n) | none => false) &&
  decide ((dstsOf ops).length = ops.size) && decide (dstsOf ops).Nodup &&
  ops.toList.zipIdx.all (fun (o, i) => o.after.all fun e => !Region.binds .any e || decide (e.on < i))

theorem dsts_getElem {ops : Array Oper} (h : ∀ o ∈ ops.toList, ∃ d, o.dst = some d) : ∀ i : Nat, (dstsOf ops)[i]? = dstOf ops i := by
  unfold dstsOf dstOf
  obtain ⟨l⟩ := ops
  simp only [List.getElem?_toArray] at *
  induction l with
  | nil => intro i; simp
  | cons o r ih =>
    intro i
    obtain ⟨d, hd⟩ := h o (by simp)
    have ih' := ih (fun x hx => h x (by simp at hx ⊢; exact .inr hx))
    cases i with
    | zero => simp [hd]
    | succ i => simpa [hd] using ih' i

section
variable {P : Program} {ops : Array Oper} {Q : Exit → Act → World → Prop}

/-- what one operation leaves -/
def Goes (S : World → Prop) (Sp : Nat → Stb) (a : Act) (d : Option Tmp) (w : World) (a' : Act) (w' : World) : Prop :=
  ∃ v, a' = a.put d v ∧ S w' ∧ Below w.heap.size w w' ∧ ∀ t, d = some t → (Sp t).p v w'
theorem Goes.same {S : World → Prop} {Sp : Nat → Stb} {a : Act} {t : Nat} {w : World} {v : Value} (hS : S w) (h : (Sp t).p v w) : Goes S Sp a (some t) w { tmps := a.tmps.setIfInBounds t v, defers := a.defers } w :=
  ⟨v, rfl, hS, Below.refl _ _, fun _ e => by injection e with e; subst e; exact h⟩
theorem Goes.next {S : World → Prop} {Sp : Nat → Stb} {a : Act} {t : Nat} {w w' : World} {v : Value} (hS : S w') (hb : Below w.heap.size w w') (h : (Sp t).p v w') : Goes S Sp a (some t) w { tmps := a.tmps.setIfInBounds t v, defers := a.defers } w' :=
  ⟨v, rfl, hS, hb, fun _ e => by injection e with e; subst e; exact h⟩

/-- the slots of what must come behind an operation -/
def laterOf (ops : Array Oper) (i : Nat) : List Nat := (ops.toList.filter fun o => o.after.any fun e => Region.binds .any e && e.on == i).filterMap (·.dst)
/-- what an operation meets: beside what the region leaves, what is written behind it alone is as it was -/
structure StandI (ops : Array Oper) (i : Nat) (a0 a : Act) : Prop extends Stand ops a0 a where
  old : ∀ t, (laterOf ops i).contains t = true → a.tmps.getD t undef = a0.tmps.getD t undef
/-- what is asked of one operation -/
def OkOp (P : Program) (ops : Array Oper) (Q : Exit → Act → World → Prop) (S : World → Prop) (Sp : Nat → Stb) (a0 : Act) (i : Nat) (o : Oper) : Prop :=
  ∀ a w, StandI ops i a0 a → S w → (∀ t, (waitsFor ops o).contains t = true → (Sp t).p (a.tmps.getD t undef) w) →
    Wants ops a o ∧ o.wp P a w (Goes S Sp a o.dst w) Q

theorem wpAny_specs (S : World → Prop) (Sp : Nat → Stb) (a0 : Act) (hok : regOk ops a0.tmps.size = true)
    (each : EachOp (OkOp P ops Q S Sp a0) 0 ops.toList)
    (fin : ∀ a w, Stand ops a0 a → S w → (∀ t, (dstsOf ops).contains t = true → (Sp t).p (a.tmps.getD t undef) w) → Q .normal a w) :
    ∀ (fuel : Nat) (listed : Array Bool) (a : Act) (w : World), listed.size = ops.size → ((List.range ops.size).filter fun i => !listed.getD i true).length ≤ fuel →
      Stand ops a0 a → S w → (∀ i d, listed.getD i false = true → dstOf ops i = some d → (Sp d).p (a.tmps.getD d undef) w) →
      (∀ j d, j < ops.size → listed.getD j false = false → dstOf ops j = some d → a.tmps.getD d undef = a0.tmps.getD d undef) →
      (∀ j o, listed.getD j false = true → ops[j]? = some o → ∀ e ∈ o.after, Region.binds .any e = true → listed.getD e.on false = true) → wpAny P .any ops Q fuel listed a w := by
  simp only [regOk, Bool.and_eq_true, List.all_eq_true, decide_eq_true_eq] at hok
  obtain ⟨⟨⟨hdst, hlen⟩, hnd⟩, hlow⟩ := hok
  have hdst' : ∀ o ∈ ops.toList, ∃ d, o.dst = some d ∧ d < a0.tmps.size := fun o ho => by
    have := hdst o ho
    split at this
    · rename_i d hd; exact ⟨d, hd, by simpa using this⟩
    · cases this
  have hget := dsts_getElem (ops := ops) (fun o ho => (hdst' o ho).imp fun d h => h.1)
  have hinj : ∀ i j d, dstOf ops i = some d → dstOf ops j = some d → i = j := fun i j d hi hj => by
    rw [← hget] at hi hj
    obtain ⟨hi1, hi2⟩ := List.getElem?_eq_some_iff.1 hi
    obtain ⟨hj1, hj2⟩ := List.getElem?_eq_some_iff.1 hj
    have hp := List.pairwise_iff_getElem.1 hnd
    rcases Nat.lt_trichotomy i j with h | h | h
    · exact absurd (hi2.trans hj2.symm) (hp i j hi1 hj1 h)
    · exact h
    · exact absurd (hj2.trans hi2.symm) (hp j i hj1 hi1 h)
  have hready0 : ∀ listed : Array Bool, listed.size = ops.size → Region.ready .any ops listed = [] → ∀ i, i < ops.size → listed.getD i false = true := by
    intro listed hsz hr i
    induction i using Nat.strongRecOn with
    | _ i ih =>
      intro hi
      cases hl : listed.getD i false with
      | true => rfl
      | false =>
        exfalso
        have hl2 : listed.getD i true = false := by
          rw [Array.getD_eq_getD_getElem?, Array.getElem?_eq_getElem (by omega)] at hl ⊢; simpa using hl
        have hm : i ∈ Region.ready .any ops listed := by
          unfold Region.ready
          rw [List.mem_filter]
          refine ⟨List.mem_range.2 hi, ?_⟩
          rw [hl2, Array.getElem?_eq_getElem hi]
          simp only [Bool.not_false, Bool.true_and, Option.map_some, Option.getD_some, Array.all_eq_true_iff_forall_mem]
          intro e he
          have h1 := hlow (ops[i], i) (by rw [List.mem_zipIdx_iff_getElem?]; simp [hi])
          simp only [Array.all_eq_true_iff_forall_mem] at h1
          have h2 := h1 e he
          cases hb : Region.binds .any e with
          | false => simp
          | true =>
            rw [hb] at h2
            have h3 : e.on < i := by simpa using h2
            simp [ih e.on h3 (by omega)]
        rw [hr] at hm
        cases hm
  have hfin : ∀ listed a w, listed.size = ops.size → Stand ops a0 a → S w → (∀ i d, listed.getD i false = true → dstOf ops i = some d → (Sp d).p (a.tmps.getD d undef) w) → Region.ready .any ops listed = [] → Q .normal a w := by
    intro listed a w hsz hst hS hsp hr
    refine fin a w hst hS fun t ht => ?_
    obtain ⟨i, hi, he⟩ := List.mem_iff_getElem.1 (List.contains_iff_mem.1 ht)
    have hd : dstOf ops i = some t := by rw [← hget, List.getElem?_eq_getElem hi, he]
    exact hsp i t (hready0 listed hsz hr i (by omega)) hd
  intro fuel
  induction fuel with
  | zero =>
    intro listed a w hsz hc hst hS hsp _ _
    have hr : Region.ready .any ops listed = [] := by
      have h0 : ((List.range ops.size).filter fun i => !listed.getD i true) = [] := List.eq_nil_of_length_eq_zero (by omega)
      unfold Region.ready
      rw [List.filter_eq_nil_iff] at h0 ⊢
      intro i hi
      have := h0 i hi
      simp only [Bool.not_eq_true] at this ⊢
      rw [this, Bool.false_and]
    exact ⟨hr, hfin listed a w hsz hst hS hsp hr⟩
  | succ fuel ih =>
    intro listed a w hsz hc hst hS hsp hun0 hcl
    refine ⟨hfin listed a w hsz hst hS hsp, fun i hi => ?_⟩
    unfold Region.ready at hi
    rw [List.mem_filter, List.mem_range] at hi
    obtain ⟨hilt, hi2⟩ := hi
    rw [Array.getElem?_eq_getElem hilt] at hi2
    simp only [Bool.and_eq_true, Option.map_some, Option.getD_some, Array.all_eq_true_iff_forall_mem] at hi2
    obtain ⟨hun, hdeps⟩ := hi2
    obtain ⟨d, hd, hdl⟩ := hdst' ops[i] (by simp)
    have hdi : dstOf ops i = some d := by unfold dstOf; rw [Array.getElem?_eq_getElem hilt]; exact hd
    have hthis := each.at_ i ops[i] (by simp [hilt])
    rw [Nat.zero_add] at hthis
    have hni : listed.getD i false = false := by
      have hl : listed.getD i true = false := by simpa using hun
      rw [Array.getD_eq_getD_getElem?, Array.getElem?_eq_getElem (by omega)] at hl ⊢
      simpa using hl
    have hold : ∀ t, (laterOf ops i).contains t = true → a.tmps.getD t undef = a0.tmps.getD t undef := fun t ht => by
      unfold laterOf at ht
      obtain ⟨o, ho, hot⟩ := List.mem_filterMap.1 (List.contains_iff_mem.1 ht)
      rw [List.mem_filter] at ho
      obtain ⟨j, hj, hje⟩ := List.mem_iff_getElem.1 ho.1
      have hj' : j < ops.size := by simpa using hj
      have hjo : ops[j]? = some o := by rw [Array.getElem?_eq_getElem hj', ← hje]; simp
      have hdj : dstOf ops j = some t := by unfold dstOf; rw [hjo]; exact hot
      refine hun0 j t hj' ?_ hdj
      rw [Bool.eq_false_iff]
      intro hlj
      obtain ⟨e, he, h2⟩ := Array.any_eq_true'.1 ho.2
      simp only [Bool.and_eq_true, beq_iff_eq] at h2
      have := hcl j o hlj hjo e he h2.1
      rw [h2.2, hni] at this
      cases this
    obtain ⟨hw, hwp⟩ := hthis a w ⟨hst, hold⟩ hS (fun t ht => by
      unfold waitsFor at ht
      obtain ⟨e, he, het⟩ := List.mem_filterMap.1 (List.contains_iff_mem.1 ht)
      rw [List.mem_filter] at he
      have := hdeps e (by simpa using he.1)
      rw [he.2] at this
      exact hsp e.on t (by simpa using this) het)
    unfold wpOp
    simp only [Array.getElem?_eq_getElem hilt, wants hw, if_true]
    refine .inl (Oper.wp_mono ?_ hwp)
    rintro a' w' ⟨v, rfl, hS', hb, hsp'⟩
    have hval : ((a.put (ops[i]).dst v).tmps.getD d undef) = v := by
      rw [hd]
      simp only [Act.put]
      rw [Array.getD_eq_getD_getElem?, Array.getElem?_setIfInBounds_self_of_lt (by rw [hst.size]; exact hdl)]
      rfl
    have hoth : ∀ t, t ≠ d → (a.put (ops[i]).dst v).tmps.getD t undef = a.tmps.getD t undef := fun t ht => by
      rw [hd]
      simp only [Act.put]
      rw [Array.getD_eq_getD_getElem?, Array.getD_eq_getD_getElem?, Array.getElem?_setIfInBounds_ne (fun h => ht h.symm)]
    have hset : ∀ j, j ≠ i → (listed.setIfInBounds i true).getD j false = listed.getD j false := fun j hji => by
      rw [Array.getD_eq_getD_getElem?, Array.getElem?_setIfInBounds_ne (fun h => hji h.symm), ← Array.getD_eq_getD_getElem?]
    have hseti : (listed.setIfInBounds i true).getD i false = true := by
      rw [Array.getD_eq_getD_getElem?, Array.getElem?_setIfInBounds_self_of_lt (by omega)]; rfl
    refine ih _ _ _ (by simp [hsz]) ?_ ⟨by rw [hd]; simp [Act.put, hst.size], by rw [hd]; simp [Act.put, hst.defers], fun t ht => ?_⟩ hS' (fun j dj hj hdj => ?_) (fun j dj hj hlj hdj => ?_) (fun j o hlj hjo e he hb2 => ?_)
    · have hl : listed.getD i true = false := by simpa using hun
      have := filter_lt (l := List.range ops.size) (p := fun j => !listed.getD j true) (q := fun j => !(listed.setIfInBounds i true).getD j true) (fun x hx => by
        by_cases hxi : i = x
        · subst hxi
          rw [Array.getD_eq_getD_getElem?, Array.getElem?_setIfInBounds_self_of_lt (by omega)] at hx
          simp at hx
        · rw [Array.getD_eq_getD_getElem?, Array.getElem?_setIfInBounds_ne hxi, ← Array.getD_eq_getD_getElem?] at hx
          exact hx) (i := i) (List.mem_range.2 hilt) (by simp [hl]) (by
          rw [Array.getD_eq_getD_getElem?, Array.getElem?_setIfInBounds_self_of_lt (by omega)]; simp)
      omega
    · rw [hoth t, hst.out t ht]
      rintro rfl
      have : (dstsOf ops).contains t = true := List.contains_iff_mem.2 (List.mem_of_getElem? (by rw [hget, hdi]))
      rw [this] at ht
      cases ht
    · by_cases hji : j = i
      · subst hji
        rw [hdi] at hdj
        injection hdj with hdj
        subst hdj
        rw [hval]
        exact hsp' d hd
      · have hne : dj ≠ d := fun e => hji (hinj j i d (e ▸ hdj) hdi)
        rw [hoth dj hne]
        refine (Sp dj).st _ _ _ (hsp j dj ?_ hdj) hb
        rw [Array.getD_eq_getD_getElem?, Array.getElem?_setIfInBounds_ne (fun h => hji h.symm), ← Array.getD_eq_getD_getElem?] at hj
        exact hj
    · have hji : j ≠ i := fun h => by rw [h, hseti] at hlj; cases hlj
      rw [hset j hji] at hlj
      rw [hoth dj (fun e => hji (hinj j i d (e ▸ hdj) hdi))]
      exact hun0 j dj hj hlj hdj
    · have hon : listed.getD e.on false = true := by
        by_cases hji : j = i
        · subst hji
          rw [Array.getElem?_eq_getElem hilt] at hjo
          injection hjo with hjo
          subst hjo
          have := hdeps e he
          rw [hb2] at this
          simpa using this
        · rw [hset j hji] at hlj
          exact hcl j o hlj hjo e he hb2
      by_cases hei : e.on = i
      · rw [hei]; exact hseti
      · rw [hset _ hei]; exact hon

theorem wp_region_specs {id : Nat} {a0 : Act} {w0 : World} (S : World → Prop) (Sp : List (Nat × Stb)) (hm : P.follows .mixedOrders = true) (hok : regOk ops a0.tmps.size = true) (hS : S w0.drew)
    (each : EachOp (OkOp P ops Q S (Stb.find Sp) a0) 0 ops.toList)
    (fin : ∀ a w, Stand ops a0 a → S w → (∀ t, (dstsOf ops).contains t = true → (Stb.find Sp t).p (a.tmps.getD t undef) w) → Q .normal a w) :
    (Code.region id ops true).wp P Q a0 w0 :=
  wp_region_any hm (wpAny_specs S (Stb.find Sp) a0 hok each fin _ _ _ _ (by simp) (by
    refine Nat.le_trans (List.length_filter_le _ _) (by simp)) ⟨rfl, rfl, fun _ _ => rfl⟩ hS (fun i d h => by
    exfalso
    rw [Array.getD_eq_getD_getElem?, Array.getElem?_replicate] at h
    split at h <;> simp at h) (fun _ _ _ _ _ => rfl) (fun j o h => by
    exfalso
    rw [Array.getD_eq_getD_getElem?, Array.getElem?_replicate] at h
    split at h <;> simp at h))
end

/-- what slots hold -/
def AllV (a : Act) : List (Nat × Value) → Prop
  | [] => True
  | (t, v) :: r => a.tmps.getD t undef = v ∧ AllV a r
theorem setAll_eq {b : Array Value} : ∀ (vals : List (Nat × Value)) (ts : Array Value), ts.size = b.size → (∀ p ∈ vals, b.getD p.1 undef = p.2) → (∀ t, (∀ p ∈ vals, p.1 ≠ t) → ts.getD t undef = b.getD t undef) →
    vals.foldl (fun ts p => ts.setIfInBounds p.1 p.2) ts = b
  | [], ts, hs, _, h => by
    apply Array.ext hs
    intro i h1 h2
    have := h i (by simp)
    rw [Array.getD_eq_getD_getElem?, Array.getD_eq_getD_getElem?, Array.getElem?_eq_getElem h1, Array.getElem?_eq_getElem h2] at this
    simpa using this
  | p :: r, ts, hs, hv, h => by
    rw [List.foldl_cons]
    refine setAll_eq r (ts.setIfInBounds p.1 p.2) (by simpa using hs) (fun q hq => hv q (List.mem_cons_of_mem _ hq)) fun t ht => ?_
    by_cases hpt : p.1 = t
    · subst hpt
      rw [hv p (by simp)]
      by_cases hlt : p.1 < ts.size
      · simp [Array.getD_eq_getD_getElem?, hlt]
      · have h1 := hv p (by simp)
        have e : b.getD p.1 undef = undef := by simp [Array.getD_eq_getD_getElem?, show b.size ≤ p.1 by omega]
        rw [e] at h1
        simp [Array.getD_eq_getD_getElem?, hlt, ← h1]
    · rw [← h t (fun q hq => by
        rcases List.mem_cons.1 hq with rfl | hq
        · exact hpt
        · exact ht q hq)]
      simp [Array.getD_eq_getD_getElem?, Array.getElem?_setIfInBounds_ne hpt]
theorem AllV.mem {a : Act} : ∀ {vals : List (Nat × Value)}, AllV a vals → ∀ p ∈ vals, a.tmps.getD p.1 undef = p.2
  | [], _, p, hp => by simp at hp
  | (t, v) :: r, h, p, hp => by
    rcases List.mem_cons.1 hp with rfl | hp
    · exact h.1
    · exact AllV.mem h.2 p hp
/-- the frame behind a region, written out -/
theorem Stand.frame {ops : Array Oper} {a0 a : Act} (h : Stand ops a0 a) (vals : List (Nat × Value)) (hd : ((dstsOf ops).all fun t => (vals.map Prod.fst).contains t) = true) (hv : AllV a vals) :
    a = { tmps := vals.foldl (fun ts p => ts.setIfInBounds p.1 p.2) a0.tmps, defers := a0.defers } := by
  have e := setAll_eq (b := a.tmps) vals a0.tmps h.size.symm hv.mem fun t ht => by
    refine (h.out t ?_).symm
    rw [Bool.eq_false_iff]
    intro hc
    have h1 := List.all_eq_true.1 hd t (by simpa using hc)
    obtain ⟨p, hp, rfl⟩ := List.mem_map.1 (show t ∈ vals.map Prod.fst by simpa using h1)
    exact ht p hp rfl
  cases a
  simp only [Act.mk.injEq]
  exact ⟨e.symm, h.defers⟩
end

/- All but one block is as it was: a frame for calls that write one block of the caller's. -/
section
open Go.RowKit
set_option maxRecDepth 100000

/-- all but one block is as it was -/
structure Bel (b : Nat) (w w' : World) : Prop where
  os : w'.os = w.os
  tape : w'.tape = w.tape
  output : w'.output = w.output
  size : w.heap.size ≤ w'.heap.size
  block : ∀ k, k < w.heap.size → k ≠ b → w'.heap[k]? = w.heap[k]?
theorem Bel.of {w w' : World} (b : Nat) (h : Below w.heap.size w w') : Bel b w w' := ⟨h.os, h.tape, h.output, h.size, fun k hk _ => h.block k hk⟩
theorem Bel.trans {b : Nat} {a c d : World} (h : Bel b a c) (k : Bel b c d) : Bel b a d :=
  ⟨k.os.trans h.os, k.tape.trans h.tape, k.output.trans h.output, Nat.le_trans h.size k.size, fun i hi hn => (k.block i (Nat.lt_of_lt_of_le hi h.size) hn).trans (h.block i hi hn)⟩
theorem Bel.below {b B : Nat} {w w' : World} (h : Bel b w w') (hB : B ≤ b) (hw : B ≤ w.heap.size) : Below B w w' := ⟨h.os, h.tape, h.output, h.size, fun k hk => h.block k (by omega) (by omega)⟩
theorem Bel.setCell {b : Nat} {w w' : World} (h : Bel b w w') (p : Addr) (hp : p.block = b) (u : Value) : Bel b w (w'.setCell p u) :=
  ⟨h.os, h.tape, h.output, by have := h.size; simp only [World.setCell, Array.size_modify]; exact this, fun k hk hn => by rw [Below.heap_setCell _ _ _ _ (by omega)]; exact h.block k hk hn⟩
theorem Bel.drew {b : Nat} {w w' : World} (h : Bel b w w') : Bel b w w'.drew := ⟨h.os, h.tape, h.output, h.size, h.block⟩
theorem Bel.ofDrew {b : Nat} {w w' : World} (h : Below w.drew.heap.size w.drew w') : Bel b w w' := ⟨h.os, h.tape, h.output, h.size, fun k hk _ => h.block k hk⟩
theorem own_bel {w w' : World} {base n size b : Nat} {e : TypeId} {v : Value} {xs : List Value} (h : w.ownsRow base e size v n xs) (hb : Bel b w w') (hB : b < base) : w'.ownsRow base e size v n xs := by
  refine ⟨h.1, ?_⟩
  rcases h.2 with h2 | ⟨g, cap, cur, hv, hg, hh, r⟩
  · exact .inl h2
  · have hlt := (Array.getElem?_eq_some_iff.1 hh).1
    exact .inr ⟨g, cap, cur, hv, hg, (hb.block g hlt (by omega)).trans hh, r⟩
theorem Ow.bel {w w' : World} {base b : Nat} {A : Option Addr} {l c : Nat} {bs : List UInt8} (h : Ow w base A l c bs) (hb : Bel b w w') (hB : b < base) : Ow w' base A l c bs := ⟨own_bel h.own hb hB, h.len, h.cap, h.most⟩
end

/- All but some blocks are as they were: a frame for calls that write blocks of their own things. -/
section
open Go.RowKit
set_option maxRecDepth 100000

/-- all blocks but these are as they were -/
structure Off (S : Nat → Prop) (w w' : World) : Prop where
  os : w'.os = w.os
  tape : w'.tape = w.tape
  output : w'.output = w.output
  size : w.heap.size ≤ w'.heap.size
  block : ∀ k, k < w.heap.size → ¬ S k → w'.heap[k]? = w.heap[k]?
section
variable {S T : Nat → Prop} {w w' w'' : World}
theorem Off.refl (S : Nat → Prop) (w : World) : Off S w w := ⟨rfl, rfl, rfl, Nat.le_refl _, fun _ _ _ => rfl⟩
theorem Off.of (S : Nat → Prop) (h : Below w.heap.size w w') : Off S w w' := ⟨h.os, h.tape, h.output, h.size, fun k hk _ => h.block k hk⟩
theorem Off.bel {b : Nat} (hS : S b) (h : Bel b w w') : Off S w w' := ⟨h.os, h.tape, h.output, h.size, fun k hk hn => h.block k hk fun e => hn (e ▸ hS)⟩
theorem Off.trans (h : Off S w w') (k : Off T w' w'') (hT : ∀ i, T i → S i ∨ w.heap.size ≤ i) : Off S w w'' :=
  ⟨k.os.trans h.os, k.tape.trans h.tape, k.output.trans h.output, Nat.le_trans h.size k.size, fun i hi hn => (k.block i (Nat.lt_of_lt_of_le hi h.size) fun e => (hT i e).elim hn fun e => by omega).trans (h.block i hi hn)⟩
theorem Off.below {B : Nat} (h : Off S w w') (hS : ∀ k, S k → B ≤ k) (hB : B ≤ w.heap.size) : Below B w w' := ⟨h.os, h.tape, h.output, h.size, fun k hk => h.block k (by omega) fun e => by have := hS k e; omega⟩
theorem Off.setCell (h : Off S w w') {p : Addr} (hp : S p.block ∨ w.heap.size ≤ p.block) (u : Value) : Off S w (w'.setCell p u) :=
  ⟨h.os, h.tape, h.output, by have := h.size; simp only [World.setCell, Array.size_modify]; exact this, fun k hk hn => by
    rw [Below.heap_setCell _ _ _ _ (fun e => by subst e; exact hp.elim hn fun e => by omega)]
    exact h.block k hk hn⟩
theorem Off.drew (h : Off S w w') : Off S w w'.drew := ⟨h.os, h.tape, h.output, h.size, h.block⟩
theorem Off.wide (h : Off S w w') (hS : ∀ k, S k → T k) : Off T w w' := ⟨h.os, h.tape, h.output, h.size, fun k hk hn => h.block k hk fun e => hn (hS k e)⟩
end
theorem own_keep {w w' : World} {base n size : Nat} {e : TypeId} {v : Value} {xs : List Value} (h : w.ownsRow base e size v n xs) (hk : ∀ g, v.ownBlock = some g → w'.heap[g]? = w.heap[g]?) : w'.ownsRow base e size v n xs := by
  refine ⟨h.1, ?_⟩
  rcases h.2 with h2 | ⟨g, cap, cur, hv, hg, hh, r⟩
  · exact .inl h2
  · exact .inr ⟨g, cap, cur, hv, hg, (hk g (by rw [hv]; rfl)).trans hh, r⟩
/-- a row's block lies under a bound -/
def UnderT (hi : Nat) (v : Value) : Prop := ∀ g, v.ownBlock = some g → g < hi
end

/- A region that draws its order, gone through once an operation: the world's state may turn as operations are done, and blocks of some things may be written. -/
section
open Go.RowKit

/-- a fact of a value, kept by whatever leaves alone all but some blocks -/
structure Sta (Bad : Nat → Prop) where
  p : Value → World → Prop
  st : ∀ v u u', p v u → Off Bad u u' → p v u'
def Sta.any (Bad : Nat → Prop) : Sta Bad := ⟨fun _ _ => True, fun _ _ _ _ _ => trivial⟩
/-- the value is known -/
def Sta.eq {Bad : Nat → Prop} (c : Value) : Sta Bad := ⟨fun v _ => v = c, fun _ _ _ h _ => h⟩
def Sta.find {Bad : Nat → Prop} : List (Nat × Sta Bad) → Nat → Sta Bad
  | [], _ => Sta.any Bad
  | (t, s) :: r, u => bif Nat.beq t u then s else Sta.find r u
/-- one operation more is done -/
def doneB (L : Nat → Bool) (i : Nat) : Nat → Bool := fun j => bif Nat.beq j i then true else L j
theorem doneB_ext {L : Nat → Bool} {i : Nat} {M : Nat → Bool} (h : M i = true) (h2 : ∀ j, j ≠ i → M j = L j) : M = doneB L i := by
  funext j
  unfold doneB
  by_cases hj : j = i
  · subst hj
    rw [h, show Nat.beq j j = true from Nat.beq_refl j]
    rfl
  · rw [h2 j hj, show Nat.beq j i = false from by
      cases hb : Nat.beq j i with
      | false => rfl
      | true => exact absurd (Nat.eq_of_beq_eq_true hb) hj]
    rfl

section
variable {P : Program} {ops : Array Oper} {Q : Exit → Act → World → Prop}

/-- what one operation leaves -/
def Went (S : (Nat → Bool) → World → Prop) {Bad : Nat → Prop} (Sp : Nat → Sta Bad) (L : Nat → Bool) (i : Nat) (a : Act) (d : Option Tmp) (w : World) (a' : Act) (w' : World) : Prop :=
  ∃ v, a' = a.put d v ∧ S (doneB L i) w' ∧ Off Bad w w' ∧ ∀ t, d = some t → (Sp t).p v w'
theorem Went.same {S : (Nat → Bool) → World → Prop} {Bad : Nat → Prop} {Sp : Nat → Sta Bad} {L : Nat → Bool} {i : Nat} {a : Act} {t : Nat} {w : World} {v : Value} (hS : S (doneB L i) w) (h : (Sp t).p v w) : Went S Sp L i a (some t) w { tmps := a.tmps.setIfInBounds t v, defers := a.defers } w :=
  ⟨v, rfl, hS, Off.refl _ _, fun _ e => by injection e with e; subst e; exact h⟩
theorem Went.next {S : (Nat → Bool) → World → Prop} {Bad : Nat → Prop} {Sp : Nat → Sta Bad} {L : Nat → Bool} {i : Nat} {a : Act} {t : Nat} {w w' : World} {v : Value} (hS : S (doneB L i) w') (hb : Off Bad w w') (h : (Sp t).p v w') : Went S Sp L i a (some t) w { tmps := a.tmps.setIfInBounds t v, defers := a.defers } w' :=
  ⟨v, rfl, hS, hb, fun _ e => by injection e with e; subst e; exact h⟩

/-- what is asked of one operation -/
def OkOp3 (P : Program) (ops : Array Oper) (Q : Exit → Act → World → Prop) (S : (Nat → Bool) → World → Prop) {Bad : Nat → Prop} (Sp : Nat → Sta Bad) (a0 : Act) (i : Nat) (o : Oper) : Prop :=
  ∀ L a w, L i = false → StandI ops i a0 a → S L w → (∀ t, (waitsFor ops o).contains t = true → (Sp t).p (a.tmps.getD t undef) w) →
    Wants ops a o ∧ o.wp P a w (Went S Sp L i a o.dst w) Q

theorem wpAny_specs3 (S : (Nat → Bool) → World → Prop) {Bad : Nat → Prop} (Sp : Nat → Sta Bad) (a0 : Act) (hok : regOk ops a0.tmps.size = true)
    (each : EachOp (OkOp3 P ops Q S Sp a0) 0 ops.toList)
    (fin : ∀ L a w, (∀ j, j < ops.size → L j = true) → Stand ops a0 a → S L w → (∀ t, (dstsOf ops).contains t = true → (Sp t).p (a.tmps.getD t undef) w) → Q .normal a w) :
    ∀ (fuel : Nat) (listed : Array Bool) (a : Act) (w : World), listed.size = ops.size → ((List.range ops.size).filter fun i => !listed.getD i true).length ≤ fuel →
      Stand ops a0 a → S (fun j => listed.getD j false) w → (∀ i d, listed.getD i false = true → dstOf ops i = some d → (Sp d).p (a.tmps.getD d undef) w) →
      (∀ j d, j < ops.size → listed.getD j false = false → dstOf ops j = some d → a.tmps.getD d undef = a0.tmps.getD d undef) →
      (∀ j o, listed.getD j false = true → ops[j]? = some o → ∀ e ∈ o.after, Region.binds .any e = true → listed.getD e.on false = true) → wpAny P .any ops Q fuel listed a w := by
  simp only [regOk, Bool.and_eq_true, List.all_eq_true, decide_eq_true_eq] at hok
  obtain ⟨⟨⟨hdst, hlen⟩, hnd⟩, hlow⟩ := hok
  have hdst' : ∀ o ∈ ops.toList, ∃ d, o.dst = some d ∧ d < a0.tmps.size := fun o ho => by
    have := hdst o ho
    split at this
    · rename_i d hd; exact ⟨d, hd, by simpa using this⟩
    · cases this
  have hget := dsts_getElem (ops := ops) (fun o ho => (hdst' o ho).imp fun d h => h.1)
  have hinj : ∀ i j d, dstOf ops i = some d → dstOf ops j = some d → i = j := fun i j d hi hj => by
    rw [← hget] at hi hj
    obtain ⟨hi1, hi2⟩ := List.getElem?_eq_some_iff.1 hi
    obtain ⟨hj1, hj2⟩ := List.getElem?_eq_some_iff.1 hj
    have hp := List.pairwise_iff_getElem.1 hnd
    rcases Nat.lt_trichotomy i j with h | h | h
    · exact absurd (hi2.trans hj2.symm) (hp i j hi1 hj1 h)
    · exact h
    · exact absurd (hj2.trans hi2.symm) (hp j i hj1 hi1 h)
  have hready0 : ∀ listed : Array Bool, listed.size = ops.size → Region.ready .any ops listed = [] → ∀ i, i < ops.size → listed.getD i false = true := by
    intro listed hsz hr i
    induction i using Nat.strongRecOn with
    | _ i ih =>
      intro hi
      cases hl : listed.getD i false with
      | true => rfl
      | false =>
        exfalso
        have hl2 : listed.getD i true = false := by
          rw [Array.getD_eq_getD_getElem?, Array.getElem?_eq_getElem (by omega)] at hl ⊢; simpa using hl
        have hm : i ∈ Region.ready .any ops listed := by
          unfold Region.ready
          rw [List.mem_filter]
          refine ⟨List.mem_range.2 hi, ?_⟩
          rw [hl2, Array.getElem?_eq_getElem hi]
          simp only [Bool.not_false, Bool.true_and, Option.map_some, Option.getD_some, Array.all_eq_true_iff_forall_mem]
          intro e he
          have h1 := hlow (ops[i], i) (by rw [List.mem_zipIdx_iff_getElem?]; simp [hi])
          simp only [Array.all_eq_true_iff_forall_mem] at h1
          have h2 := h1 e he
          cases hb : Region.binds .any e with
          | false => simp
          | true =>
            rw [hb] at h2
            have h3 : e.on < i := by simpa using h2
            simp [ih e.on h3 (by omega)]
        rw [hr] at hm
        cases hm
  have hfin : ∀ listed a w, listed.size = ops.size → Stand ops a0 a → S (fun j => listed.getD j false) w → (∀ i d, listed.getD i false = true → dstOf ops i = some d → (Sp d).p (a.tmps.getD d undef) w) → Region.ready .any ops listed = [] → Q .normal a w := by
    intro listed a w hsz hst hS hsp hr
    refine fin _ a w (hready0 listed hsz hr) hst hS fun t ht => ?_
    obtain ⟨i, hi, he⟩ := List.mem_iff_getElem.1 (List.contains_iff_mem.1 ht)
    have hd : dstOf ops i = some t := by rw [← hget, List.getElem?_eq_getElem hi, he]
    exact hsp i t (hready0 listed hsz hr i (by omega)) hd
  intro fuel
  induction fuel with
  | zero =>
    intro listed a w hsz hc hst hS hsp _ _
    have hr : Region.ready .any ops listed = [] := by
      have h0 : ((List.range ops.size).filter fun i => !listed.getD i true) = [] := List.eq_nil_of_length_eq_zero (by omega)
      unfold Region.ready
      rw [List.filter_eq_nil_iff] at h0 ⊢
      intro i hi
      have := h0 i hi
      simp only [Bool.not_eq_true] at this ⊢
      rw [this, Bool.false_and]
    exact ⟨hr, hfin listed a w hsz hst hS hsp hr⟩
  | succ fuel ih =>
    intro listed a w hsz hc hst hS hsp hun0 hcl
    refine ⟨hfin listed a w hsz hst hS hsp, fun i hi => ?_⟩
    unfold Region.ready at hi
    rw [List.mem_filter, List.mem_range] at hi
    obtain ⟨hilt, hi2⟩ := hi
    rw [Array.getElem?_eq_getElem hilt] at hi2
    simp only [Bool.and_eq_true, Option.map_some, Option.getD_some, Array.all_eq_true_iff_forall_mem] at hi2
    obtain ⟨hun, hdeps⟩ := hi2
    obtain ⟨d, hd, hdl⟩ := hdst' ops[i] (by simp)
    have hdi : dstOf ops i = some d := by unfold dstOf; rw [Array.getElem?_eq_getElem hilt]; exact hd
    have hthis := each.at_ i ops[i] (by simp [hilt])
    rw [Nat.zero_add] at hthis
    have hni : listed.getD i false = false := by
      have hl : listed.getD i true = false := by simpa using hun
      rw [Array.getD_eq_getD_getElem?, Array.getElem?_eq_getElem (by omega)] at hl ⊢
      simpa using hl
    have hold : ∀ t, (laterOf ops i).contains t = true → a.tmps.getD t undef = a0.tmps.getD t undef := fun t ht => by
      unfold laterOf at ht
      obtain ⟨o, ho, hot⟩ := List.mem_filterMap.1 (List.contains_iff_mem.1 ht)
      rw [List.mem_filter] at ho
      obtain ⟨j, hj, hje⟩ := List.mem_iff_getElem.1 ho.1
      have hj' : j < ops.size := by simpa using hj
      have hjo : ops[j]? = some o := by rw [Array.getElem?_eq_getElem hj', ← hje]; simp
      have hdj : dstOf ops j = some t := by unfold dstOf; rw [hjo]; exact hot
      refine hun0 j t hj' ?_ hdj
      rw [Bool.eq_false_iff]
      intro hlj
      obtain ⟨e, he, h2⟩ := Array.any_eq_true'.1 ho.2
      simp only [Bool.and_eq_true, beq_iff_eq] at h2
      have := hcl j o hlj hjo e he h2.1
      rw [h2.2, hni] at this
      cases this
    obtain ⟨hw, hwp⟩ := hthis _ a w hni ⟨hst, hold⟩ hS (fun t ht => by
      unfold waitsFor at ht
      obtain ⟨e, he, het⟩ := List.mem_filterMap.1 (List.contains_iff_mem.1 ht)
      rw [List.mem_filter] at he
      have := hdeps e (by simpa using he.1)
      rw [he.2] at this
      exact hsp e.on t (by simpa using this) het)
    unfold wpOp
    simp only [Array.getElem?_eq_getElem hilt, wants hw, if_true]
    refine .inl (Oper.wp_mono ?_ hwp)
    rintro a' w' ⟨v, rfl, hS', hb, hsp'⟩
    have hval : ((a.put (ops[i]).dst v).tmps.getD d undef) = v := by
      rw [hd]
      simp only [Act.put]
      rw [Array.getD_eq_getD_getElem?, Array.getElem?_setIfInBounds_self_of_lt (by rw [hst.size]; exact hdl)]
      rfl
    have hoth : ∀ t, t ≠ d → (a.put (ops[i]).dst v).tmps.getD t undef = a.tmps.getD t undef := fun t ht => by
      rw [hd]
      simp only [Act.put]
      rw [Array.getD_eq_getD_getElem?, Array.getD_eq_getD_getElem?, Array.getElem?_setIfInBounds_ne (fun h => ht h.symm)]
    have hset : ∀ j, j ≠ i → (listed.setIfInBounds i true).getD j false = listed.getD j false := fun j hji => by
      rw [Array.getD_eq_getD_getElem?, Array.getElem?_setIfInBounds_ne (fun h => hji h.symm), ← Array.getD_eq_getD_getElem?]
    have hseti : (listed.setIfInBounds i true).getD i false = true := by
      rw [Array.getD_eq_getD_getElem?, Array.getElem?_setIfInBounds_self_of_lt (by omega)]; rfl
    refine ih _ _ _ (by simp [hsz]) ?_ ⟨by rw [hd]; simp [Act.put, hst.size], by rw [hd]; simp [Act.put, hst.defers], fun t ht => ?_⟩ (by rw [doneB_ext (L := fun j => listed.getD j false) (i := i) (M := fun j => (listed.setIfInBounds i true).getD j false) hseti hset]; exact hS') (fun j dj hj hdj => ?_) (fun j dj hj hlj hdj => ?_) (fun j o hlj hjo e he hb2 => ?_)
    · have hl : listed.getD i true = false := by simpa using hun
      have := filter_lt (l := List.range ops.size) (p := fun j => !listed.getD j true) (q := fun j => !(listed.setIfInBounds i true).getD j true) (fun x hx => by
        by_cases hxi : i = x
        · subst hxi
          rw [Array.getD_eq_getD_getElem?, Array.getElem?_setIfInBounds_self_of_lt (by omega)] at hx
          simp at hx
        · rw [Array.getD_eq_getD_getElem?, Array.getElem?_setIfInBounds_ne hxi, ← Array.getD_eq_getD_getElem?] at hx
          exact hx) (i := i) (List.mem_range.2 hilt) (by simp [hl]) (by
          rw [Array.getD_eq_getD_getElem?, Array.getElem?_setIfInBounds_self_of_lt (by omega)]; simp)
      omega
    · rw [hoth t, hst.out t ht]
      rintro rfl
      have : (dstsOf ops).contains t = true := List.contains_iff_mem.2 (List.mem_of_getElem? (by rw [hget, hdi]))
      rw [this] at ht
      cases ht
    · by_cases hji : j = i
      · subst hji
        rw [hdi] at hdj
        injection hdj with hdj
        subst hdj
        rw [hval]
        exact hsp' d hd
      · have hne : dj ≠ d := fun e => hji (hinj j i d (e ▸ hdj) hdi)
        rw [hoth dj hne]
        refine (Sp dj).st _ _ _ (hsp j dj ?_ hdj) hb
        rw [Array.getD_eq_getD_getElem?, Array.getElem?_setIfInBounds_ne (fun h => hji h.symm), ← Array.getD_eq_getD_getElem?] at hj
        exact hj
    · have hji : j ≠ i := fun h => by rw [h, hseti] at hlj; cases hlj
      rw [hset j hji] at hlj
      rw [hoth dj (fun e => hji (hinj j i d (e ▸ hdj) hdi))]
      exact hun0 j dj hj hlj hdj
    · have hon : listed.getD e.on false = true := by
        by_cases hji : j = i
        · subst hji
          rw [Array.getElem?_eq_getElem hilt] at hjo
          injection hjo with hjo
          subst hjo
          have := hdeps e he
          rw [hb2] at this
          simpa using this
        · rw [hset j hji] at hlj
          exact hcl j o hlj hjo e he hb2
      by_cases hei : e.on = i
      · rw [hei]; exact hseti
      · rw [hset _ hei]; exact hon

theorem wp_region_specs3 {id : Nat} {a0 : Act} {w0 : World} (S : (Nat → Bool) → World → Prop) {Bad : Nat → Prop} (Sp : List (Nat × Sta Bad)) (hm : P.follows .mixedOrders = true) (hok : regOk ops a0.tmps.size = true) (hS : S (fun _ => false) w0.drew)
    (each : EachOp (OkOp3 P ops Q S (Sta.find Sp) a0) 0 ops.toList)
    (fin : ∀ L a w, (∀ j, Nat.blt j ops.size = true → L j = true) → Stand ops a0 a → S L w → (∀ t, (dstsOf ops).contains t = true → (Sta.find Sp t).p (a.tmps.getD t undef) w) → Q .normal a w) :
    (Code.region id ops true).wp P Q a0 w0 :=
  wp_region_any hm (wpAny_specs3 S (Sta.find Sp) a0 hok each (fun L a w hL => fin L a w fun j hj => hL j (Nat.le_of_ble_eq_true hj)) _ _ _ _ (by simp) (by
    refine Nat.le_trans (List.length_filter_le _ _) (by simp)) ⟨rfl, rfl, fun _ _ => rfl⟩ (by rw [show (fun j => (Array.replicate ops.size false).getD j false) = fun _ => false from by funext j; rw [Array.getD_eq_getD_getElem?, Array.getElem?_replicate]; split <;> rfl]; exact hS) (fun i d h => by
    exfalso
    rw [Array.getD_eq_getD_getElem?, Array.getElem?_replicate] at h
    split at h <;> simp at h) (fun _ _ _ _ _ => rfl) (fun j o h => by
    exfalso
    rw [Array.getD_eq_getD_getElem?, Array.getElem?_replicate] at h
    split at h <;> simp at h))
end
end

/- Things that lie in blocks of their own, one or two of them, and what calls on them leave (no function of the program is named here). -/
section
open Go.RowKit
set_option maxRecDepth 100000

/-- a thing: what it asks of a world, by its blocks -/
structure Thing where
  p : (Nat → Prop) → World → Prop
  keep : ∀ {S : Nat → Prop} {w w' : World}, p S w → (∀ k, S k → w'.heap[k]? = w.heap[k]?) → w.heap.size ≤ w'.heap.size → p S w'
  lt : ∀ {S : Nat → Prop} {w : World}, p S w → ∀ k, S k → k < w.heap.size
/-- what is left by a call on a thing whose blocks are S: it is Y then -/
structure Turn (Y : Thing) (S : Nat → Prop) (w w' : World) : Prop where
  at_ : ∃ S', Y.p S' w' ∧ ∀ k, S' k → S k ∨ w.heap.size ≤ k
  off : Off S w w'
section
variable {X Y Z : Thing} {S T : Nat → Prop} {w w' w'' : World}
theorem Thing.off (h : X.p S w) (ho : Off T w w') (hT : ∀ k, S k → ¬ T k) : X.p S w' := X.keep h (fun k hk => ho.block k (X.lt h k hk) (hT k hk)) ho.size
theorem Thing.next (h : X.p S w) (hb : Below w.heap.size w w') : X.p S w' := X.keep h (fun k hk => hb.block k (X.lt h k hk)) hb.size
theorem Thing.drew (h : X.p S w) : X.p S w.drew := X.keep h (fun _ _ => rfl) (Nat.le_refl _)
theorem Turn.same (h : X.p S w) (hb : Below w.heap.size w w') : Turn X S w w' := ⟨⟨S, Thing.next h hb, fun _ h => .inl h⟩, Off.of S hb⟩
theorem Turn.here (h : X.p S w) : Turn X S w w := ⟨⟨S, h, fun _ h => .inl h⟩, Off.refl _ _⟩
theorem Turn.then (h : Turn Y S w w') (k : ∀ S', Y.p S' w' → Turn Z S' w' w'') : Turn Z S w w'' := by
  obtain ⟨⟨S', h1, h2⟩, h3⟩ := h
  obtain ⟨⟨S'', k1, k2⟩, k3⟩ := k S' h1
  have hz := h3.size
  exact ⟨⟨S'', k1, fun i hi => (k2 i hi).elim (fun e => h2 i e) (fun e => .inr (by omega))⟩, h3.trans k3 h2⟩
theorem Turn.below (h : Turn Y S w w') (hb : Below w'.heap.size w' w'') : Turn Y S w w'' := h.then fun _ h => .same h hb
end

/-- one thing that a call made itself; the blocks N are none of it -/
structure Solo (w0 : World) (X : Thing) (N : Nat → Prop) (w : World) : Prop where
  at_ : ∃ S, X.p S w ∧ ∀ k, S k → w0.heap.size ≤ k ∧ ¬ N k
  low : Below w0.heap.size w0 w
  nlt : ∀ k, N k → k < w.heap.size
/-- two -/
structure Duo (w0 : World) (X Y : Thing) (N : Nat → Prop) (w : World) : Prop where
  at_ : ∃ S T, X.p S w ∧ Y.p T w ∧ (∀ k, S k → ¬ T k) ∧ ∀ k, S k ∨ T k → w0.heap.size ≤ k ∧ ¬ N k
  low : Below w0.heap.size w0 w
  nlt : ∀ k, N k → k < w.heap.size
def noneB : Nat → Prop := fun _ => False
section
variable {P : Program} {w0 w w' : World} {X X' Y Y' : Thing} {N N' S T : Nat → Prop}
theorem Solo.next (h : Solo w0 X N w) (hb : Below w.heap.size w w') : Solo w0 X N w' := by
  obtain ⟨⟨S, h1, h2⟩, h3, h4⟩ := h
  exact ⟨⟨S, Thing.next h1 hb, h2⟩, h3.trans (hb.mono h3.size), fun k hk => Nat.lt_of_lt_of_le (h4 k hk) hb.size⟩
theorem Solo.less (h : Solo w0 X N w) (hN : ∀ k, N' k → N k) : Solo w0 X N' w := by
  obtain ⟨⟨S, h1, h2⟩, h3, h4⟩ := h
  exact ⟨⟨S, h1, fun k hk => ⟨(h2 k hk).1, fun e => (h2 k hk).2 (hN k e)⟩⟩, h3, fun k hk => h4 k (hN k hk)⟩
theorem Solo.mark (h : Solo w0 X N w) (o : Obj) : Solo w0 X (fun k => k = w.heap.size ∨ N k) (w.alloc o) := by
  have hb : Below w.heap.size w (w.alloc o) := (Below.refl _ _).alloc (Nat.le_refl _) o
  obtain ⟨⟨S, h1, h2⟩, h3, h4⟩ := h.next hb
  obtain ⟨⟨S0, g1, g2⟩, _, g4⟩ := h
  refine ⟨⟨S0, Thing.next g1 hb, fun k hk => ⟨(g2 k hk).1, fun e => e.elim (fun e => by have := X.lt g1 k hk; omega) (g2 k hk).2⟩⟩, h3, fun k hk => ?_⟩
  rcases hk with rfl | hk
  · simp
  · exact h4 k hk
theorem Solo.turn (hl : Below w0.heap.size w0 w) (hn : ∀ k, N k → k < w.heap.size) (h2 : ∀ k, S k → w0.heap.size ≤ k ∧ ¬ N k) (ht : Turn Y S w w') : Solo w0 Y N w' ∧ ∀ k, N k → w'.heap[k]? = w.heap[k]? := by
  obtain ⟨⟨S', g1, g2⟩, g3⟩ := ht
  have hz := hl.size
  exact ⟨⟨⟨S', g1, fun k hk => (g2 k hk).elim (h2 k) (fun e => ⟨by omega, fun hN => by have := hn k hN; omega⟩)⟩, hl.trans (g3.below (fun k hk => (h2 k hk).1) hz), fun k hk => Nat.lt_of_lt_of_le (hn k hk) g3.size⟩,
    fun k hk => g3.block k (hn k hk) fun e => (h2 k e).2 hk⟩
theorem Solo.op {f : FuncId} {args : Array Value} {Q : Ending → World → Prop} (h : Solo w0 X N w) (hop : ∀ S, X.p S w → Calls P f args w fun e w' => Q e w' ∧ Turn Y S w w') :
    Calls P f args w fun e w' => Q e w' ∧ Solo w0 Y N w' ∧ ∀ k, N k → w'.heap[k]? = w.heap[k]? := by
  obtain ⟨⟨S, h1, h2⟩, h3, h4⟩ := h
  exact (hop S h1).mono fun e w' ⟨hq, ht⟩ => ⟨hq, Solo.turn h3 h4 h2 ht⟩
/-- a thing that is asked alone -/
theorem Solo.ask {f : FuncId} {args : Array Value} {Q : Ending → World → Prop} (h : Solo w0 X N w) (hop : ∀ S, X.p S w → Calls P f args w fun e w' => Q e w' ∧ Below w.heap.size w w') : Calls P f args w fun e w' => Q e w' ∧ Solo w0 X N w' := by
  obtain ⟨S, h1, _⟩ := h.at_
  exact (hop S h1).mono fun e w' ⟨hq, hb⟩ => ⟨hq, h.next hb⟩
theorem Solo.make (hl : Below w0.heap.size w0 w) (hx : X.p S w') (hS : ∀ k, S k → w.heap.size ≤ k) (hb : Below w.heap.size w w') : Solo w0 X noneB w' := by
  have hz := hl.size
  exact ⟨⟨S, hx, fun k hk => ⟨by have := hS k hk; omega, fun h => h⟩⟩, hl.trans (hb.mono hz), fun k h => h.elim⟩

theorem Duo.swap (h : Duo w0 X Y N w) : Duo w0 Y X N w := by
  obtain ⟨⟨S, T, h1, h2, h3, h4⟩, h5, h6⟩ := h
  exact ⟨⟨T, S, h2, h1, fun k hk hk2 => h3 k hk2 hk, fun k hk => h4 k hk.symm⟩, h5, h6⟩
theorem Duo.next (h : Duo w0 X Y N w) (hb : Below w.heap.size w w') : Duo w0 X Y N w' := by
  obtain ⟨⟨S, T, h1, h2, h3, h4⟩, h5, h6⟩ := h
  exact ⟨⟨S, T, Thing.next h1 hb, Thing.next h2 hb, h3, h4⟩, h5.trans (hb.mono h5.size), fun k hk => Nat.lt_of_lt_of_le (h6 k hk) hb.size⟩
theorem Duo.less (h : Duo w0 X Y N w) (hN : ∀ k, N' k → N k) : Duo w0 X Y N' w := by
  obtain ⟨⟨S, T, h1, h2, h3, h4⟩, h5, h6⟩ := h
  exact ⟨⟨S, T, h1, h2, h3, fun k hk => ⟨(h4 k hk).1, fun e => (h4 k hk).2 (hN k e)⟩⟩, h5, fun k hk => h6 k (hN k hk)⟩
theorem Duo.mark (h : Duo w0 X Y N w) (o : Obj) : Duo w0 X Y (fun k => k = w.heap.size ∨ N k) (w.alloc o) := by
  have hb : Below w.heap.size w (w.alloc o) := (Below.refl _ _).alloc (Nat.le_refl _) o
  obtain ⟨⟨S, T, h1, h2, h3, h4⟩, h5, h6⟩ := h
  refine ⟨⟨S, T, Thing.next h1 hb, Thing.next h2 hb, h3, fun k hk => ⟨(h4 k hk).1, fun e => e.elim (fun e => ?_) (h4 k hk).2⟩⟩, h5.trans (hb.mono h5.size), fun k hk => ?_⟩
  · have := hk.elim (X.lt h1 k) (Y.lt h2 k)
    omega
  · rcases hk with rfl | hk
    · simp
    · have := h6 k hk
      simp
      omega
theorem Duo.left {f : FuncId} {args : Array Value} {Q : Ending → World → Prop} (h : Duo w0 X Y N w) (hop : ∀ S, X.p S w → Calls P f args w fun e w' => Q e w' ∧ Turn X' S w w') :
    Calls P f args w fun e w' => Q e w' ∧ Duo w0 X' Y N w' ∧ ∀ k, N k → w'.heap[k]? = w.heap[k]? := by
  obtain ⟨⟨S, T, h1, h2, h3, h4⟩, h5, h6⟩ := h
  refine (hop S h1).mono fun e w' ⟨hq, ⟨S', g1, g2⟩, g3⟩ => ⟨hq, ⟨⟨S', T, g1, Thing.off h2 g3 (fun k hk hk2 => h3 k hk2 hk), fun k hk hk2 => ?_, fun k hk => ?_⟩, h5.trans (g3.below (fun k hk => (h4 k (.inl hk)).1) h5.size), fun k hk => Nat.lt_of_lt_of_le (h6 k hk) g3.size⟩, fun k hk => g3.block k (h6 k hk) fun e => (h4 k (.inl e)).2 hk⟩
  · rcases g2 k hk with e | e
    · exact h3 k e hk2
    · have := Y.lt h2 k hk2; omega
  · rcases hk with hk | hk
    · rcases g2 k hk with e | e
      · exact h4 k (.inl e)
      · have := h5.size
        exact ⟨by omega, fun hN => by have := h6 k hN; omega⟩
    · exact h4 k (.inr hk)
theorem Duo.right {f : FuncId} {args : Array Value} {Q : Ending → World → Prop} (h : Duo w0 X Y N w) (hop : ∀ T, Y.p T w → Calls P f args w fun e w' => Q e w' ∧ Turn Y' T w w') :
    Calls P f args w fun e w' => Q e w' ∧ Duo w0 X Y' N w' ∧ ∀ k, N k → w'.heap[k]? = w.heap[k]? :=
  (h.swap.left hop).mono fun _ _ ⟨hq, hd, hc⟩ => ⟨hq, hd.swap, hc⟩
theorem Duo.askl {f : FuncId} {args : Array Value} {Q : Ending → World → Prop} (h : Duo w0 X Y N w) (hop : ∀ S, X.p S w → Calls P f args w fun e w' => Q e w' ∧ Below w.heap.size w w') : Calls P f args w fun e w' => Q e w' ∧ Duo w0 X Y N w' := by
  obtain ⟨S, T, h1, _⟩ := h.at_
  exact (hop S h1).mono fun e w' ⟨hq, hb⟩ => ⟨hq, h.next hb⟩
theorem Duo.askr {f : FuncId} {args : Array Value} {Q : Ending → World → Prop} (h : Duo w0 X Y N w) (hop : ∀ S, Y.p S w → Calls P f args w fun e w' => Q e w' ∧ Below w.heap.size w w') : Calls P f args w fun e w' => Q e w' ∧ Duo w0 X Y N w' := by
  obtain ⟨S, T, _, h1, _⟩ := h.at_
  exact (hop T h1).mono fun e w' ⟨hq, hb⟩ => ⟨hq, h.next hb⟩
theorem Solo.duo (h : Solo w0 X noneB w) (hy : Y.p T w') (hT : ∀ k, T k → w.heap.size ≤ k) (hb : Below w.heap.size w w') : Duo w0 X Y noneB w' := by
  obtain ⟨⟨S, h1, h2⟩, h3, _⟩ := h
  have hz := h3.size
  exact ⟨⟨S, T, Thing.next h1 hb, hy, fun k hk hk2 => by have := X.lt h1 k hk; have := hT k hk2; omega, fun k hk => hk.elim (h2 k) fun hk => ⟨by have := hT k hk; omega, fun h => h⟩⟩, h3.trans (hb.mono hz), fun k h => h.elim⟩
end

/-- midway through an act: the left one has done it (f), the right one has (g) -/
structure MidA (S T : Nat → Prop) (Z : Nat) (X0 X1 Y0 Y1 : Thing) (ws : World) (f g : Bool) (u : World) : Prop where
  off : Off (fun k => S k ∨ T k) ws u
  big : Z ≤ u.heap.size
  at_ : ∃ S' T', (f = false → S' = S) ∧ (g = false → T' = T) ∧ (bif f then X1 else X0).p S' u ∧ (bif g then Y1 else Y0).p T' u ∧ (∀ k, S' k → S k ∨ Z ≤ k) ∧ (∀ k, T' k → T k ∨ Z ≤ k) ∧ ∀ k, S' k → ¬ T' k
section
variable {S T N : Nat → Prop} {Z : Nat} {X0 X1 Y0 Y1 : Thing} {w0 ws u u' : World} {f g : Bool}
theorem MidA.getl (h : MidA S T Z X0 X1 Y0 Y1 ws false g u) : X0.p S u := by
  obtain ⟨_, _, S', T', h1, _, h3, _⟩ := h
  rw [h1 rfl] at h3
  exact h3
theorem MidA.getr (h : MidA S T Z X0 X1 Y0 Y1 ws f false u) : Y0.p T u := by
  obtain ⟨_, _, S', T', _, h2, _, h4, _⟩ := h
  rw [h2 rfl] at h4
  exact h4
theorem MidA.flip (h : MidA S T Z X0 X1 Y0 Y1 ws f g u) : MidA T S Z Y0 Y1 X0 X1 ws g f u := by
  obtain ⟨h1, h2, S', T', a, b, c, d, e, f, g⟩ := h
  exact ⟨h1.wide fun k hk => hk.symm, h2, T', S', b, a, d, c, f, e, fun k hk hk2 => g k hk2 hk⟩
theorem MidA.left (h : MidA S T Z X0 X1 Y0 Y1 ws false g u) (ht : Turn X1 S u u') : MidA S T Z X0 X1 Y0 Y1 ws true g u' ∧ Off (fun k => S k ∨ T k) u u' := by
  obtain ⟨h1, h2, S', T', a, b, _, d, _, f', g'⟩ := h
  obtain ⟨⟨S1, e1, e2⟩, e3⟩ := ht
  have hS' := a rfl
  subst hS'
  have ho : Off (fun k => S' k ∨ T k) u u' := e3.wide fun k hk => .inl hk
  refine ⟨⟨h1.trans ho (fun k hk => .inl hk), Nat.le_trans h2 e3.size, S1, T', (fun h => by cases h), b, e1, Thing.off d e3 (fun k hk hk2 => g' k hk2 hk), fun k hk => (e2 k hk).elim .inl (fun e => .inr (by omega)), f', fun k hk hk2 => ?_⟩, ho⟩
  rcases e2 k hk with e | e
  · exact g' k e hk2
  · have := (bif g then Y1 else Y0).lt d k hk2
    omega
theorem MidA.right (h : MidA S T Z X0 X1 Y0 Y1 ws f false u) (ht : Turn Y1 T u u') : MidA S T Z X0 X1 Y0 Y1 ws f true u' ∧ Off (fun k => S k ∨ T k) u u' := by
  obtain ⟨h1, h2⟩ := h.flip.left ht
  exact ⟨h1.flip, h2.wide fun k hk => hk.symm⟩
theorem MidA.start (h1 : X0.p S ws) (h2 : Y0.p T ws) (h3 : ∀ k, S k → ¬ T k) (hZ : Z ≤ ws.heap.size) : MidA S T Z X0 X1 Y0 Y1 ws false false ws := ⟨Off.refl _ _, hZ, S, T, fun _ => rfl, fun _ => rfl, h1, h2, fun _ h => .inl h, fun _ h => .inl h, h3⟩
theorem MidA.next (h : MidA S T Z X0 X1 Y0 Y1 ws f g u) (hb : Below u.heap.size u u') : MidA S T Z X0 X1 Y0 Y1 ws f g u' := by
  obtain ⟨h1, h2, S', T', a, b, c, d, e, f', g'⟩ := h
  exact ⟨h1.trans (Off.of (fun _ => False) hb) (fun _ h => h.elim), Nat.le_trans h2 hb.size, S', T', a, b, Thing.next c hb, Thing.next d hb, e, f', g'⟩
theorem MidA.done (h : MidA S T Z X0 X1 Y0 Y1 ws true true u) (hS : ∀ k, S k ∨ T k → w0.heap.size ≤ k ∧ ¬ N k) (hN : ∀ k, N k → k < Z) (hZ : w0.heap.size ≤ Z) (hl : Below w0.heap.size w0 ws) : Duo w0 X1 Y1 N u := by
  obtain ⟨h1, h2, S', T', _, _, c, d, e, f', g'⟩ := h
  refine ⟨⟨S', T', c, d, g', fun k hk => ?_⟩, hl.trans (h1.below (fun k hk => (hS k hk).1) hl.size), fun k hk => by have := hN k hk; omega⟩
  have key : S k ∨ T k ∨ Z ≤ k := by
    rcases hk with hk | hk
    · rcases e k hk with h | h
      · exact .inl h
      · exact .inr (.inr h)
    · rcases f' k hk with h | h
      · exact .inr (.inl h)
      · exact .inr (.inr h)
  rcases key with h | h | h
  · exact hS k (.inl h)
  · exact hS k (.inr h)
  · exact ⟨by omega, fun hn => by have := hN k hn; omega⟩
/-- a cell of a block that is none of theirs -/
theorem MidA.cell (h : MidA S T Z X0 X1 Y0 Y1 ws f g u) {X : Nat} (hX : X < ws.heap.size) (hn : ¬ (S X ∨ T X)) (o : Nat) : u.cell? ⟨X, o, none⟩ = ws.cell? ⟨X, o, none⟩ := World.cell?_of_block (h.off.block X hX hn)
end
end

/- Connections: a connection as plain data, and what calls make of it (no function of the program is named here). -/
section
open Go.RowKit
set_option maxRecDepth 100000

/-- a connection: dirty?, how much was sent; who has it, what is in flight -/
inductive Cn where
  | idle (d : Bool) (n : Int)
  | lent (o f : Int) (d : Bool) (n : Int)
  | drains (o f : Int) (d : Bool) (n : Int)
  | closed (d : Bool) (n : Int)
/-- an act: what, a session, a request -/
structure Act3 where
  d : Int
  x : Int
  y : Int
instance : Inhabited Act3 := ⟨⟨0, 0, 0⟩⟩
/-- what an act answers -/
structure Told3 where
  i : Bool
  e : Int
  n : Int
namespace Cn
def s : Cn → Int
  | idle _ _ => 1
  | lent _ _ _ _ => 2
  | drains _ _ _ _ => 3
  | closed _ _ => 4
def o : Cn → Int
  | idle _ _ => 0
  | lent o _ _ _ => o
  | drains o _ _ _ => o
  | closed _ _ => 0
def f : Cn → Int
  | idle _ _ => 0
  | lent _ f _ _ => f
  | drains _ f _ _ => f
  | closed _ _ => 0
def d : Cn → Bool
  | idle d _ => d
  | lent _ _ d _ => d
  | drains _ _ d _ => d
  | closed d _ => d
def n : Cn → Int
  | idle _ n => n
  | lent _ _ _ n => n
  | drains _ _ _ n => n
  | closed _ n => n
def ok : Cn → Prop
  | idle _ _ => True
  | lent o _ _ _ => 1 ≤ o
  | drains o f _ _ => 1 ≤ o ∧ f ≠ 0
  | closed _ _ => True
def lendA (x : Int) : Cn → Bool
  | idle _ _ => decide (1 ≤ x)
  | _ => false
def lendC (x : Int) : Cn → Cn
  | idle d n => if 1 ≤ x then lent x 0 d n else idle d n
  | c => c
def sendA (y : Int) : Cn → Int
  | lent _ f _ _ => if y = 0 then 1 else if f = 0 then 0 else 7
  | _ => if y = 0 then 1 else 7
def sendC (y : Int) : Cn → Cn
  | lent o f d n => if y = 0 then lent o f d n else if f = 0 then lent o y d (IntKind.i64.wrap (n + 1)) else lent o f d n
  | c => c
def replyA (y : Int) (c : Cn) : Bool := decide (y ≠ 0 ∧ c.f = y)
def replyC (y : Int) : Cn → Cn
  | lent o f d n => if y ≠ 0 ∧ f = y then lent o 0 d n else lent o f d n
  | drains o f d n => if y ≠ 0 ∧ f = y then closed d n else drains o f d n
  | c => c
def soilA : Cn → Bool
  | lent _ _ _ _ => true
  | _ => false
def soilC : Cn → Cn
  | lent o f _ n => lent o f true n
  | c => c
def releaseA : Cn → Bool
  | lent _ f _ _ => decide (f = 0)
  | _ => false
def releaseC : Cn → Cn
  | lent o f d n => if f = 0 then (if d then closed d n else idle d n) else lent o f d n
  | c => c
def drainC : Cn → Cn
  | idle d n => closed d n
  | lent o f d n => if f = 0 then closed d n else drains o f d n
  | c => c
def breakC (c : Cn) : Cn := closed c.d c.n
/-- an act -/
def doC (t : Act3) (c : Cn) : Cn :=
  if t.d = 0 then lendC t.x c else if t.d = 1 then sendC t.y c else if t.d = 2 then replyC t.y c else if t.d = 3 then soilC c else if t.d = 4 then releaseC c else if t.d = 5 then drainC c else if t.d = 6 then breakC c else c
def doA (t : Act3) (c : Cn) : Told3 :=
  if t.d = 0 then ⟨lendA t.x c, 0, 0⟩ else if t.d = 1 then ⟨false, sendA t.y c, 0⟩ else if t.d = 2 then ⟨replyA t.y c, 0, 0⟩ else if t.d = 3 then ⟨soilA c, 0, 0⟩ else if t.d = 4 then ⟨releaseA c, 0, 0⟩ else if t.d = 5 then ⟨false, 0, 0⟩ else if t.d = 6 then ⟨false, 0, c.f⟩ else ⟨false, 0, 0⟩
/-- who has it, as the code keeps it -/
def w : Cn → Int
  | idle _ _ => 0
  | lent o _ _ _ => o
  | drains o _ _ _ => o
  | closed _ _ => -1
/-- whether it drains, as the code keeps it -/
def g (z : Bool) : Cn → Bool
  | idle _ _ => false
  | lent _ _ _ _ => false
  | drains _ _ _ _ => true
  | closed _ _ => z
end Cn
def bit (b : Bool) : Int := cond b 1 0
end

/- Append onto a row of the call's own whose elements are of several cells; a block's two cells. -/
section
open Go.RowKit
set_option maxRecDepth 100000

section
variable {P : Program} {w : World}
theorem run_append_nothings (base : Nat) (t ty e : TypeId) (i : TypeInfo) (size : Nat) (ht : P.underlying t = some (.slice e)) (hi : P.info? e = some i)
    (v : Value) (n c : Nat) (xs : List Value) (hown : w.ownsRow base e size v n xs) : (Builtin.append_ #[t, t] ty #[v, .slice none 0 c]).run P w = .ok v w := by
  rcases hown.2 with ⟨rfl, rfl⟩ | ⟨g, cap, cur, rfl, _, _, hnc, _⟩
  · simp [Builtin.append_, run_underlying ht, sizeOf, typeInfo, hi, Builtin.lenOf, Builtin.firstCells]
  · simp [Builtin.append_, run_underlying ht, sizeOf, typeInfo, hi, Builtin.lenOf, Builtin.firstCells, hnc, storeCells]

theorem run_append_rds (base : Nat) (t ty e : TypeId) (i : TypeInfo) (z : Value) (size bytes : Nat) (ht : P.underlying t = some (.slice e)) (hi : P.info? e = some i) (hz : i.zero = some z)
    (hsize : i.size = size) (hby : i.bytes = bytes) (hzs : z.cells.size = size) (hsz : 0 < size)
    (v : Value) (n : Nat) (xs : List Value) (hown : w.ownsRow base e size v n xs)
    (B : Nat) (A : Option Addr) (m c : Nat) (news : List Value) (hm : news.length = m * size) (hr : Rd w B A news) (h1 : ∀ u ∈ news, u.oneCell' = true)
    (h63 : n + m ≤ maxLen) (hbytes : (n + m) * bytes ≤ 140737488355328) (hbase : base ≤ w.heap.size) :
    ∃ v' w', (Builtin.append_ #[t, t] ty #[v, .slice A m c]).run P w = .ok v' w' ∧ w'.ownsRow base e size v' (n + m) (xs ++ news) ∧ w.grownBy w' v.ownBlock := by
  cases A with
  | none =>
    have hn : news = [] := by
      rcases hr with h | ⟨_, h, _⟩
      · exact h
      · cases h
    subst hn
    obtain rfl : m = 0 := by
      rcases Nat.eq_zero_or_pos m with h | h
      · exact h
      · have := Nat.mul_pos h hsz
        simp at hm
        omega
    exact ⟨v, w, run_append_nothings base t ty e i size ht hi v n c xs hown, by simpa using hown, World.grownBy.refl w _⟩
  | some ad =>
    have hc : ∀ j u, news[j]? = some u → w.cell? (ad.add j) = some u := by
      intro j u hu
      rcases hr with h | ⟨ad', h, _, hc⟩
      · subst h; simp at hu
      · injection h with h; subst h; exact hc j u hu
    obtain ⟨v', w', hrun, h2, h3, _⟩ := run_append_own (P := P) w base t ty e i z size bytes ht hi hz hsize hby hzs hsz v n xs hown ad m c news hm hc h1 h63 hbytes hbase
    exact ⟨v', w', hrun, h2, h3⟩

theorem wp_append_rds {o : Oper} {a : Act} {K : Act → World → Prop} {Q : Exit → Act → World → Prop} (s x : Operand) (t : TypeId)
    (ho : o.op = .call { callee := .builtin .append, args := #[s, x], argTypes := #[t, t] })
    (base : Nat) (e : TypeId) (i : TypeInfo) (z : Value) (size bytes : Nat) (ht : P.underlying t = some (.slice e)) (hi : P.info? e = some i) (hz : i.zero = some z)
    (hsize : i.size = size) (hby : i.bytes = bytes) (hzs : z.cells.size = size) (hsz : 0 < size)
    (v : Value) (n : Nat) (xs : List Value) (hs : a.eval s = v) (hown : w.ownsRow base e size v n xs)
    (B : Nat) (A : Option Addr) (m c : Nat) (news : List Value) (hx : a.eval x = .slice A m c) (hm : news.length = m * size) (hr : Rd w B A news) (h1 : ∀ u ∈ news, u.oneCell' = true)
    (h63 : n + m ≤ maxLen) (hbytes : (n + m) * bytes ≤ 140737488355328) (hbase : base ≤ w.heap.size)
    (h : ∀ v' w', w'.ownsRow base e size v' (n + m) (xs ++ news) → w.grownBy w' v.ownBlock → K (a.put o.dst v') w') : o.wp P a w K Q := by
  obtain ⟨v', w', hrun, h2, h3⟩ := run_append_rds (P := P) base t o.type e i z size bytes ht hi hz hsize hby hzs hsz v n xs hown B A m c news hm hr h1 h63 hbytes hbase
  unfold Oper.wp execOp
  simp only [ho, resolve, invoke, builtin, Sem.run_bind, Sem.run_pure, Result.andThen_ok, List.map_toArray, List.map_cons, List.map_nil, hs, hx, hrun]
  exact h v' w' h2 h3

theorem wpList_append_rds {ops : Array Oper} {rest : List Oper} {o : Oper} {a : Act} {Q : Exit → Act → World → Prop} (hw : Region.wanted o (yielded ops a.tmps) = true) (s x : Operand) (t : TypeId)
    (ho : o.op = .call { callee := .builtin .append, args := #[s, x], argTypes := #[t, t] })
    (base : Nat) (e : TypeId) (i : TypeInfo) (z : Value) (size bytes : Nat) (ht : P.underlying t = some (.slice e)) (hi : P.info? e = some i) (hz : i.zero = some z)
    (hsize : i.size = size) (hby : i.bytes = bytes) (hzs : z.cells.size = size) (hsz : 0 < size)
    (v : Value) (n : Nat) (xs : List Value) (hs : a.eval s = v) (hown : w.ownsRow base e size v n xs)
    (B : Nat) (A : Option Addr) (m c : Nat) (news : List Value) (hx : a.eval x = .slice A m c) (hm : news.length = m * size) (hr : Rd w B A news) (h1 : ∀ u ∈ news, u.oneCell' = true)
    (h63 : n + m ≤ maxLen) (hbytes : (n + m) * bytes ≤ 140737488355328) (hbase : base ≤ w.heap.size)
    (h : ∀ v' w', w'.ownsRow base e size v' (n + m) (xs ++ news) → w.grownBy w' v.ownBlock → wpList P ops Q rest (a.put o.dst v') w') : wpList P ops Q (o :: rest) a w :=
  wpList_step fun _ hK => by
    rw [if_pos hw]
    exact wp_append_rds s x t ho base e i z size bytes ht hi hz hsize hby hzs hsz v n xs hs hown B A m c news hx hm hr h1 h63 hbytes hbase fun v' w' h2 h3 => hK _ _ (h v' w' h2 h3)
end

/-- a row of wide elements: its form, and what keeps it -/
theorem own_form_s {w : World} {base n size : Nat} {e : TypeId} {v : Value} {xs : List Value} (h : w.ownsRow base e size v n xs) : ∃ A c, v = .slice A n c ∧ n ≤ c ∧ c ≤ maxLen := by
  rcases h.2 with ⟨rfl, rfl⟩ | ⟨g, cap, cur, rfl, _, _, h1, h2, _⟩
  · exact ⟨_, _, rfl, Nat.le_refl _, by simp [maxLen]⟩
  · exact ⟨_, _, rfl, h1, h2⟩
theorem own_below_s {w w' : World} {base n B size : Nat} {e : TypeId} {v : Value} {xs : List Value} (h : w.ownsRow base e size v n xs) (hb : Below B w w') (hB : w.heap.size ≤ B) : w'.ownsRow base e size v n xs := by
  refine ⟨h.1, ?_⟩
  rcases h.2 with h2 | ⟨g, cap, cur, hv, hg, hh, r⟩
  · exact .inl h2
  · have hlt := (Array.getElem?_eq_some_iff.1 hh).1
    exact .inr ⟨g, cap, cur, hv, hg, (hb.block g (by omega)).trans hh, r⟩
theorem own_base_s {w : World} {base base' n size : Nat} {e : TypeId} {v : Value} {xs : List Value} (h : w.ownsRow base e size v n xs) (hB : base' ≤ base) : w.ownsRow base' e size v n xs := by
  refine ⟨h.1, ?_⟩
  rcases h.2 with h2 | ⟨g, cap, cur, hv, hg, r⟩
  · exact .inl h2
  · exact .inr ⟨g, cap, cur, hv, by omega, r⟩
theorem below_own_s {w w' : World} {base n size : Nat} {e : TypeId} {v : Value} {xs : List Value} (h : w.ownsRow base e size v n xs) (hg : w.grownBy w' v.ownBlock) (hb : base ≤ w.heap.size) : Below base w w' :=
  (Below.refl _ _).grown hg hb (fun k hk => (h.lt k hk).1)
/-- rows of other types lie in other blocks -/
theorem own_apart {w w' : World} {base base' n n' size size' : Nat} {e e' : TypeId} {v v' : Value} {xs xs' : List Value} (h : w.ownsRow base e size v n xs) (h' : w.ownsRow base' e' size' v' n' xs') (he : e ≠ e') (hg : w.grownBy w' v'.ownBlock) : w'.ownsRow base e size v n xs := by
  refine h.kept hg ?_
  rcases h.2 with ⟨rfl, _⟩ | ⟨g, cap, cur, rfl, _, hh, _⟩
  · exact .inl rfl
  · refine .inr ?_
    rcases h'.2 with ⟨rfl, _⟩ | ⟨g', cap', cur', rfl, _, hh', _⟩
    · simp [Value.ownBlock]
    · simp only [Value.ownBlock, ne_eq, Option.some.injEq]
      rintro rfl
      rw [hh] at hh'
      simp only [Option.some.injEq, Obj.cells.injEq] at hh'
      exact he hh'.2.1
theorem own_setCell_s {w : World} {base : Nat} {e : TypeId} {size : Nat} {v : Value} {n : Nat} {xs : List Value} (h : w.ownsRow base e size v n xs) {a : Addr} (ha : a.block < base) (u : Value) : (w.setCell a u).ownsRow base e size v n xs := ownsRow_setCell_below h ha u
/-- a new row of wide elements -/
theorem own_new_s (w : World) (base size : Nat) (e : TypeId) (n : Nat) (xs : List Value) (hx : xs.length = n * size) (hb : base ≤ w.heap.size) (hn : n ≤ maxLen) : (w.alloc (.cells xs.toArray e)).ownsRow base e size (.slice (some ⟨w.heap.size, 0, none⟩) n n) n xs :=
  ⟨hx, .inr ⟨w.heap.size, n, _, rfl, hb, heap_alloc_new w _, Nat.le_refl _, hn, by simpa using hx, List.take_of_length_le (by simp [hx])⟩⟩
end

/- Rows of numbers and of truths, as they lie in memory (no function of the program is named here). -/
section
open Go.RowKit
set_option maxRecDepth 100000

/-- numbers as cells -/
def ivs (l : List Int) : List Value := l.map (Value.int .i64)
theorem ivs_length (l : List Int) : (ivs l).length = l.length := by simp [ivs]
theorem ivs_append (a b : List Int) : ivs (a ++ b) = ivs a ++ ivs b := by simp [ivs]
theorem ivs_set (l : List Int) (i : Nat) (n : Int) : ivs (l.set i n) = (ivs l).set i (.int .i64 n) := by simp [ivs, List.map_set]
theorem ivs_one (l : List Int) : ∀ u ∈ ivs l, u.oneCell' = true := by
  intro u hu
  obtain ⟨b, _, rfl⟩ := List.mem_map.1 hu
  rfl
theorem cells2t {w : World} {b : Nat} {x y : Value} {t : TypeId} (h : w.heap[b]? = some (.cells #[x, y] t (0, 0))) :
    w.cell? ⟨b, 0, none⟩ = some x ∧ w.cell? ⟨b, 1, none⟩ = some y ∧ w.frozen? ⟨b, 0, none⟩ = false ∧ w.frozen? ⟨b, 1, none⟩ = false := by
  refine ⟨?_, ?_, ?_, ?_⟩
  · rw [cell_of_row _ _ 0 #[x, y] t (0, 0) h]; rfl
  · rw [cell_of_row _ _ 1 #[x, y] t (0, 0) h]; rfl
  · simp [World.frozen?, h]
  · simp [World.frozen?, h]
/-- a cell of a row of the call's own is written -/
theorem own_set {w : World} {base n c : Nat} {e : TypeId} {g : Nat} {xs : List Value} (h : w.ownsRow base e 1 (.slice (some ⟨g, 0, none⟩) n c) n xs) (i : Nat) (v : Value) : (w.setCell ⟨g, i, none⟩ v).ownsRow base e 1 (.slice (some ⟨g, 0, none⟩) n c) n (xs.set i v) := by
  refine ⟨by rw [List.length_set]; exact h.1, ?_⟩
  rcases h.2 with ⟨h1, _⟩ | ⟨g', cap, cur, h1, hb, hg, hc, hm, hs, ht⟩
  · cases h1
  · injection h1 with h1 h2 h3
    injection h1 with h1
    injection h1 with h1 h4 h5
    subst h1 h3
    refine .inr ⟨g, c, cur.set! i v, rfl, hb, heap_setCell_same w g i cur e v hg, hc, hm, by simpa using hs, ?_⟩
    rw [← ht]
    simp [Array.set!_eq_setIfInBounds, List.take_set]
theorem ivs_cell {w : World} {B : Option Addr} {m cb : Nat} {e : TypeId} {base : Nat} {cs : List Int} (h : w.ownsRow base e 1 (.slice B m cb) m (ivs cs)) {i : Nat} (hi : i < cs.length) : ∃ g, B = some ⟨g, 0, none⟩ ∧ w.cell? ⟨g, i, none⟩ = some (.int .i64 cs[i]) ∧ w.frozen? ⟨g, i, none⟩ = false ∧ g < w.heap.size ∧ ∃ cur, w.heap[g]? = some (.cells cur e (0, 0)) := by
  have hm := h.1
  rw [ivs_length] at hm
  have hh := h
  rcases h.2 with ⟨h1, h2⟩ | ⟨g, cap, cur, h1, _, hg, _⟩
  · omega
  · injection h1 with h1 _ _
    subst h1
    refine ⟨g, rfl, ?_, ?_, (Array.getElem?_eq_some_iff.1 hg).1, cur, hg⟩
    · have := hh.cells (g := g) rfl i (.int .i64 cs[i]) (by simp [ivs, hi])
      have ha : (⟨g, 0, none⟩ : Addr).add i = ⟨g, i, none⟩ := by unfold Addr.add; split <;> simp_all
      rw [ha] at this
      exact this
    · simp [World.frozen?, hg]

theorem own_type_ne {w : World} {base n size : Nat} {e t : TypeId} {v : Value} {xs : List Value} (h : w.ownsRow base e size v n xs) {b : Nat} {cs : Array Value} {fz : Nat × Nat} (hb : w.heap[b]? = some (.cells cs t fz)) (ht : t ≠ e) : v.ownBlock ≠ some b := by
  rcases h.2 with ⟨rfl, _⟩ | ⟨g, cap, cur, rfl, _, hg, _⟩
  · simp [Value.ownBlock]
  · simp only [Value.ownBlock, ne_eq, Option.some.injEq]
    rintro rfl
    rw [hg] at hb
    simp only [Option.some.injEq, Obj.cells.injEq] at hb
    exact ht hb.2.1.symm
/-- a row of truths that is read -/
structure BR (w : World) (A : Option Addr) (n : Nat) (bs : List Bool) : Prop where
  len : bs.length = n
  rd : Rd w w.heap.size A (bs.map Value.bool)
theorem BR.at_ {w : World} {A : Option Addr} {n : Nat} {bs : List Bool} (h : BR w A n bs) {j : Nat} (hj : j < bs.length) : ∃ ad, A = some ad ∧ ad.block < w.heap.size ∧ ∀ w', Below w.heap.size w w' → w'.cell? (ad.add j) = some (.bool bs[j]) := by
  obtain ⟨ad, hA, hb, hc⟩ := h.rd.at_ (k := j) (by rw [List.length_map]; exact hj)
  refine ⟨ad, hA, hb, fun w' hw => ?_⟩
  rw [hw.cell (by rw [add_block]; exact hb), hc]
  simp
/-- a row of numbers that is read -/
structure NR (w : World) (A : Option Addr) (n : Nat) (zs : List Int) : Prop where
  len : zs.length = n
  rd : Rd w w.heap.size A (zs.map (Value.int .i64))
theorem NR.at_ {w : World} {A : Option Addr} {n : Nat} {zs : List Int} (h : NR w A n zs) {j : Nat} (hj : j < zs.length) : ∃ ad, A = some ad ∧ ad.block < w.heap.size ∧ ∀ w', Below w.heap.size w w' → w'.cell? (ad.add j) = some (.int .i64 zs[j]) := by
  obtain ⟨ad, hA, hb, hc⟩ := h.rd.at_ (k := j) (by rw [List.length_map]; exact hj)
  refine ⟨ad, hA, hb, fun w' hw => ?_⟩
  rw [hw.cell (by rw [add_block]; exact hb), hc]
  simp

theorem Rd.offR {w w' : World} {A : Option Addr} {xs : List Value} (h : Rd w w.heap.size A xs) (hz : w.heap.size ≤ w'.heap.size) (hk : ∀ ad, A = some ad → w'.heap[ad.block]? = w.heap[ad.block]?) : Rd w' w'.heap.size A xs := by
  rcases h with h | ⟨ad, e, hlt, hc⟩
  · exact .inl h
  · exact .inr ⟨ad, e, Nat.lt_of_lt_of_le hlt hz, fun j u hu => (World.cell?_of_block (by rw [add_block]; exact hk ad e)).trans (hc j u hu)⟩
theorem NR.off {w w' : World} {A : Option Addr} {n : Nat} {zs : List Int} (h : NR w A n zs) (hz : w.heap.size ≤ w'.heap.size) (hk : ∀ ad, A = some ad → w'.heap[ad.block]? = w.heap[ad.block]?) : NR w' A n zs := ⟨h.len, h.rd.offR hz hk⟩
theorem NR.next {w w' : World} {A : Option Addr} {n : Nat} {zs : List Int} (h : NR w A n zs) (hb : Below w.heap.size w w') : NR w' A n zs := ⟨h.len, (h.rd.below hb (Nat.le_refl _)).more hb.size⟩
theorem NR.nil (w : World) : NR w none 0 [] := ⟨rfl, .inl rfl⟩
theorem NR.of_own {w : World} {base n c : Nat} {e : TypeId} {A : Option Addr} {zs : List Int} (h : w.ownsRow base e 1 (.slice A n c) n (ivs zs)) : NR w A n zs := ⟨by have := h.1; rw [ivs_length] at this; omega, Rd.of_own h⟩
theorem NR.new (w : World) (t : TypeId) (zs : List Int) : NR (w.alloc (.cells (ivs zs).toArray t)) (some ⟨w.heap.size, 0, none⟩) zs.length zs := ⟨rfl, (Rd.new w t (ivs zs)).more (by simp)⟩

/-- a slice of numbers that is read, with its room -/
structure NS (w : World) (A : Option Addr) (n c : Nat) (zs : List Int) : Prop where
  nr : NR w A n zs
  cap : n ≤ c
theorem NS.of_own {w : World} {base n c : Nat} {e : TypeId} {A : Option Addr} {zs : List Int} (h : w.ownsRow base e 1 (.slice A n c) n (ivs zs)) : NS w A n c zs := by
  obtain ⟨A', c', h1, h2, _⟩ := own_form h
  injection h1 with _ _ h3
  exact ⟨NR.of_own h, by omega⟩
theorem NS.off {w w' : World} {A : Option Addr} {n c : Nat} {zs : List Int} (h : NS w A n c zs) (hz : w.heap.size ≤ w'.heap.size) (hk : ∀ ad, A = some ad → w'.heap[ad.block]? = w.heap[ad.block]?) : NS w' A n c zs := ⟨h.nr.off hz hk, h.cap⟩
theorem NS.next {w w' : World} {A : Option Addr} {n c : Nat} {zs : List Int} (h : NS w A n c zs) (hb : Below w.heap.size w w') : NS w' A n c zs := ⟨h.nr.next hb, h.cap⟩
theorem NS.nil (w : World) : NS w none 0 0 [] := ⟨NR.nil w, Nat.le_refl _⟩
/-- a slice of it, its address as the model spells it -/
theorem NS.sub {w : World} {A : Option Addr} {n c : Nat} {zs : List Int} (h : NS w A n c zs) {i j : Nat} (hi : i ≤ j) (hj : j ≤ n) :
    NS w (if c = i then A else A.map (·.add i)) (j - i) (c - i) ((zs.take j).drop i) := by
  have hl := h.nr.len
  have hc := h.cap
  have h1 := (h.nr.rd.front j).cut (k := i) (cap := c) (by rw [List.length_take, List.length_map]; omega)
  rw [← List.map_take, ← List.map_drop] at h1
  exact ⟨⟨by rw [List.length_drop, List.length_take]; omega, h1⟩, by omega⟩
theorem NS.cut1 {w : World} {A : Option Addr} {n c : Nat} {zs : List Int} (h : NS w A n c zs) (P : Program) (t : TypeId) (ht : P.underlying t = some (.slice (P.elem t))) (hz : (P.info? (P.elem t)).map (·.size) = some 1)
    {i : Nat} (x : Int) (hx : x = i) (hi : i ≤ n) :
    ∃ A', (∀ u, (Instr.slice t (.slice A n c) (some (.int .i64 x)) none none).run P u = .ok (.slice A' (n - i) (c - i)) u) ∧ NS w A' (n - i) (c - i) (zs.drop i) := by
  have hc := h.cap
  have hl := h.nr.len
  obtain ⟨ti, hti, hsz⟩ := Option.map_eq_some_iff.1 hz
  have hs := h.sub hi (Nat.le_refl n)
  rw [List.take_of_length_le (by omega)] at hs
  refine ⟨_, fun u => ?_, hs⟩
  subst hx
  rw [run_slice_l u t A n c ht .i64 i (by omega) (by omega)]
  simp [sizeOf, typeInfo, hti, hsz, sliced, Result.andThen]
theorem NS.cut0 {w : World} {A : Option Addr} {n c : Nat} {zs : List Int} (h : NS w A n c zs) (P : Program) (t : TypeId) (ht : P.underlying t = some (.slice (P.elem t))) (hz : (P.info? (P.elem t)).map (·.size) = some 1)
    {j : Nat} (y : Int) (hy : y = j) (hj : j ≤ n) :
    ∃ A', (∀ u, (Instr.slice t (.slice A n c) none (some (.int .i64 y)) none).run P u = .ok (.slice A' j c) u) ∧ NS w A' j c (zs.take j) := by
  have hc := h.cap
  obtain ⟨ti, hti, hsz⟩ := Option.map_eq_some_iff.1 hz
  have hs := h.sub (Nat.zero_le j) hj
  simp only [Nat.sub_zero, List.drop_zero] at hs
  refine ⟨_, fun u => ?_, hs⟩
  subst hy
  rw [run_slice_h u t A n c ht .i64 j (by omega) (by omega)]
  simp [sizeOf, typeInfo, hti, hsz, sliced, Result.andThen]
end

/- Who waits: plain mathematics of rows of numbers. -/
section
open Go.RowKit

/-- where one stands in a row; -1: nowhere -/
def atW (x : Int) (l : List Int) : Int := if x ∈ l then (l.idxOf x : Nat) else -1
theorem atW_at {l : List Int} {x : Int} {k : Nat} (hk : k < l.length) (hne : ∀ j (hj : j < l.length), j < k → l[j] ≠ x) (he : l[k] = x) : atW x l = k := by
  have hm : x ∈ l := he ▸ List.getElem_mem hk
  have hi := List.idxOf_lt_length_of_mem hm
  have hg : l[l.idxOf x] = x := List.getElem_idxOf hi
  unfold atW
  rw [if_pos hm]
  rcases Nat.lt_trichotomy (l.idxOf x) k with h | h | h
  · exact absurd hg (hne _ hi h)
  · rw [h]
  · have := List.not_of_lt_findIdx (p := (· == x)) (xs := l) h
    simp [he] at this
theorem atW_none {l : List Int} {x : Int} (h : ∀ y ∈ l, y ≠ x) : atW x l = -1 := by
  unfold atW
  rw [if_neg fun hm => h x hm rfl]
theorem atW_mem {l : List Int} {x : Int} : 0 ≤ atW x l ↔ x ∈ l := by
  unfold atW
  split
  · simp_all
  · simp_all
theorem atW_not {l : List Int} {x : Int} (h : x ∉ l) : atW x l = -1 := if_neg h
theorem atW_ge (x : Int) (l : List Int) : -1 ≤ atW x l := by
  unfold atW
  split <;> omega
theorem atW_is {l : List Int} {x : Int} {i : Nat} (h : atW x l = i) : ∃ h : i < l.length, l[i] = x := by
  unfold atW at h
  split at h
  · rename_i hm
    obtain rfl : l.idxOf x = i := by omega
    exact ⟨List.idxOf_lt_length_of_mem hm, List.getElem_idxOf _⟩
  · omega
theorem atW_self {l : List Int} (h : l.Nodup) {i : Nat} (hi : i < l.length) : atW l[i] l = i :=
  atW_at hi (fun j hj hji e => by have := (List.getElem_inj h).1 e; omega) rfl

/-- one comes: what is answered, and the row behind it -/
def putW (m : Int) (x : Int) (l : List Int) : Int × List Int := if 0 ≤ atW x l then (7, l) else if m ≤ l.length then (5, l) else (0, l ++ [x])
/-- the first one goes -/
def takeW (l : List Int) : Value := .tuple #[.int .i64 (l.headD 0), .bool (decide (l ≠ []))]
/-- one goes -/
def dropW (x : Int) (l : List Int) : List Int := l.erase x
theorem dropW_at {l : List Int} {x : Int} {i : Nat} (h : atW x l = i) : dropW x l = l.take i ++ l.drop (i + 1) := by
  have hm : x ∈ l := atW_mem.1 (by omega)
  unfold atW at h
  rw [if_pos hm] at h
  obtain rfl : l.idxOf x = i := by omega
  unfold dropW
  rw [List.erase_eq_eraseIdx_of_idxOf rfl, List.eraseIdx_eq_take_drop_succ]
theorem dropW_not {l : List Int} {x : Int} (h : atW x l = -1) : dropW x l = l := List.erase_of_not_mem fun hm => by have := atW_mem.2 hm; omega
theorem putW_len {m x : Int} {l : List Int} (h : (l.length : Int) ≤ m) : ((putW m x l).2.length : Int) ≤ m := by
  unfold putW
  split
  · exact h
  split
  · exact h
  · simp; omega
theorem dropW_len (x : Int) (l : List Int) : (dropW x l).length ≤ l.length := (List.erase_sublist).length_le
theorem tail_len (l : List Int) : l.tail.length ≤ l.length := by simp

theorem putW_nodup {m x : Int} {l : List Int} (h : l.Nodup) : (putW m x l).2.Nodup := by
  unfold putW
  split
  · exact h
  split
  · exact h
  · rename_i h1 _
    refine List.nodup_append.2 ⟨h, by simp, fun a ha b hb => ?_⟩
    obtain rfl : b = x := by simpa using hb
    rintro rfl
    exact h1 (atW_mem.2 ha)
theorem dropW_nodup {x : Int} {l : List Int} (h : l.Nodup) : (dropW x l).Nodup := h.erase x
theorem tail_nodup {l : List Int} (h : l.Nodup) : l.tail.Nodup := h.sublist (List.tail_sublist l)
theorem dropW_kept {x : Int} {l : List Int} (h : l.Nodup) : dropW x l = l.filter (fun y => !(y == x)) := by
  unfold dropW
  rw [h.erase_eq_filter]
  rfl
theorem dropW_gone {x : Int} {l : List Int} (h : l.Nodup) : x ∉ dropW x l := h.not_mem_erase

/-- who all come, one behind the other, with room for so many -/
def allW (m : Int) (l : List Int) : List Int := l.foldl (fun a x => (putW m x a).2) []
theorem allW_next (m : Int) (l : List Int) (k : Nat) (hk : k < l.length) : allW m (l.take (k + 1)) = (putW m l[k] (allW m (l.take k))).2 := by
  unfold allW
  rw [List.take_succ_eq_append_getElem hk, List.foldl_append]
  rfl
theorem allW_nodup (m : Int) (l : List Int) : (allW m l).Nodup := by
  unfold allW
  suffices h : ∀ a : List Int, a.Nodup → (l.foldl (fun a x => (putW m x a).2) a).Nodup from h [] List.nodup_nil
  induction l with
  | nil => intro a ha; exact ha
  | cons x l ih => intro a ha; exact ih _ (putW_nodup ha)
theorem putW_len1 (m x : Int) (l : List Int) : (putW m x l).2.length ≤ l.length + 1 := by
  unfold putW
  split
  · exact Nat.le_succ _
  split
  · exact Nat.le_succ _
  · simp
theorem allW_len (m : Int) (l : List Int) : (allW m l).length ≤ l.length := by
  unfold allW
  suffices h : ∀ a : List Int, (l.foldl (fun a x => (putW m x a).2) a).length ≤ a.length + l.length from by simpa using h []
  induction l with
  | nil => intro a; simp
  | cons x l ih =>
    intro a
    have h1 := ih (putW m x a).2
    have h2 := putW_len1 m x a
    simp only [List.foldl_cons, List.length_cons]
    omega
/-- one that comes, and others that don't wait by the same number -/
theorem putW_dropped {m x y : Int} {a : List Int} (hm : (a.length : Int) < m) : dropW y (putW m x a).2 = if x = y then dropW y a else (putW m x (dropW y a)).2 := by
  have hle := dropW_len y a
  by_cases hxy : x = y
  · subst hxy
    rw [if_pos rfl]
    unfold putW
    split
    · rfl
    · rename_i h1
      rw [if_neg (by omega)]
      have hn : x ∉ a := fun h => h1 (atW_mem.2 h)
      show (a ++ [x]).erase x = a.erase x
      rw [List.erase_append_right _ hn, List.erase_of_not_mem hn]
      simp
  · rw [if_neg hxy]
    have hiff : x ∈ dropW y a ↔ x ∈ a := List.mem_erase_of_ne hxy
    unfold putW
    by_cases h1 : x ∈ a
    · rw [if_pos (atW_mem.2 h1), if_pos (atW_mem.2 (hiff.2 h1))]
    · rw [if_neg (fun h => h1 (atW_mem.1 h)), if_neg (fun h => h1 (hiff.1 (atW_mem.1 h))), if_neg (by omega), if_neg (by omega)]
      show (a ++ [x]).erase y = a.erase y ++ [x]
      by_cases hy : y ∈ a
      · exact List.erase_append_left _ hy
      · rw [List.erase_append_right _ hy, List.erase_of_not_mem hy, List.erase_of_not_mem (by simpa using fun e => hxy e.symm)]
end

/- Pools: held connections and who waits, as plain data, and what calls make of them (no function of the program is named here). -/
section
open Go.RowKit
set_option maxRecDepth 100000

/-- a connection that a pool holds: its id, its epoch, how it is, since when -/
structure Hd where
  id : Int
  ep : Int
  c : Cn
  t : Int
instance : Inhabited Hd := ⟨⟨0, 0, .idle false 0, 0⟩⟩
/-- the place of the first one that is so; below 0: there is none -/
def firstH {α : Type} (p : α → Bool) : List α → Int
  | [] => -1
  | x :: r => if p x then 0 else if firstH p r < 0 then -1 else firstH p r + 1
section
variable {α : Type} {p : α → Bool}
theorem firstH_ge : ∀ l : List α, -1 ≤ firstH p l
  | [] => by simp [firstH]
  | x :: r => by
    have := firstH_ge r
    unfold firstH
    split
    · omega
    split <;> omega
theorem firstH_at : ∀ {l : List α} {i : Nat} (h : i < l.length), (∀ j (hj : j < l.length), j < i → p l[j] = false) → p l[i] = true → firstH p l = i
  | [], i, h, _, _ => by simp at h
  | x :: r, 0, _, _, e => by
    have e' : p x = true := e
    simp [firstH, e']
  | x :: r, i + 1, h, hne, e => by
    have h0 : p x = false := hne 0 (by simp) (by omega)
    have ih := firstH_at (l := r) (i := i) (by simpa using h) (fun j hj hji => by have := hne (j + 1) (by simpa using hj) (by omega); exact this) e
    unfold firstH
    rw [h0, if_neg (by simp), if_neg (by omega), ih]
    omega
theorem firstH_none : ∀ {l : List α}, (∀ x ∈ l, p x = false) → firstH p l = -1
  | [], _ => rfl
  | x :: r, h => by
    unfold firstH
    rw [h x (by simp), if_neg (by simp), if_pos (by rw [firstH_none fun y hy => h y (List.mem_cons_of_mem _ hy)]; omega)]
theorem firstH_is : ∀ {l : List α} {i : Nat}, firstH p l = i → ∃ h : i < l.length, p l[i] = true
  | [], i, h => by simp [firstH] at h
  | x :: r, i, h => by
    unfold firstH at h
    split at h
    · rename_i e
      obtain rfl : i = 0 := by omega
      exact ⟨by simp, e⟩
    split at h
    · omega
    · cases i with
      | zero => rename_i h1 h2; omega
      | succ i =>
        obtain ⟨h1, h2⟩ := firstH_is (l := r) (i := i) (by omega)
        exact ⟨by simpa using h1, by simpa using h2⟩
theorem firstH_all {l : List α} (h : firstH p l < 0) : ∀ x ∈ l, p x = false := by
  intro x hx
  induction l with
  | nil => cases hx
  | cons y r ih =>
    unfold firstH at h
    split at h
    · omega
    rename_i hy
    split at h
    · rename_i hr
      rcases List.mem_cons.1 hx with rfl | hx
      · simpa using hy
      · exact ih hr hx
    · rename_i hr
      have := firstH_ge (p := p) r
      omega
theorem firstH_map {β : Type} (f : β → α) : ∀ l : List β, firstH p (l.map f) = firstH (fun x => p (f x)) l
  | [] => rfl
  | x :: r => by
    simp only [List.map_cons, firstH, firstH_map f r]
end
def Hd.idle (h : Hd) : Bool := h.c.s == 1
def Hd.live (h : Hd) : Bool := h.c.s != 4
def Hd.set (h : Hd) (c : Cn) : Hd := { h with c := c }
def sweepH (l : List Hd) : List Hd := l.filter Hd.live
def findH (id : Int) (l : List Hd) : Int := firstH (fun h => h.id == id) l
/-- idle ones of another epoch are drained -/
def cut1 (ep : Int) (h : Hd) : Hd := if h.c.s = 1 ∧ h.ep ≠ ep then h.set h.c.drainC else h
def drain1 (ep : Int) (h : Hd) : Hd := if h.ep ≠ ep then h.set h.c.drainC else h
def isOld (idle now : Int) (h : Hd) : Bool := h.c.s == 1 && decide (h.t ≤ now) && decide (idle ≤ IntKind.u64.wrap (now - h.t))
def reap1 (idle now : Int) (h : Hd) : Hd := if isOld idle now h then h.set h.c.drainC else h
/-- the one at a place turns -/
def turnH (l : List Hd) (i : Int) (f : Hd → Hd) : List Hd := l.modify i.toNat f
structure Pl where
  l : List Hd
  row : List Int
  last : Int
/-- one for a session: its id, whether there is one; what there is then -/
def giveI (mo ep : Int) (p : Pl) : Int × Bool :=
  let l1 := sweepH (p.l.map (cut1 ep))
  if 0 ≤ firstH Hd.idle l1 then (((l1.getD (firstH Hd.idle l1).toNat default).id), true)
  else if mo ≤ l1.length then (0, false) else (IntKind.i64.wrap (p.last + 1), true)
def giveP (mo ss ep now : Int) (p : Pl) : Pl :=
  let l1 := sweepH (p.l.map (cut1 ep))
  if 0 ≤ firstH Hd.idle l1 then { p with l := turnH l1 (firstH Hd.idle l1) fun h => h.set (h.c.lendC ss) }
  else if mo ≤ l1.length then { p with l := l1 }
  else { p with l := l1 ++ [⟨IntKind.i64.wrap (p.last + 1), ep, (Cn.idle false 0).lendC ss, now⟩], last := IntKind.i64.wrap (p.last + 1) }
/-- what an act answers -/
structure Told6 where
  a : Int
  b : Int
  n : Int
  i : Bool
  e : Int
/-- an act -/
structure Act6 where
  d : Int
  ss : Int
  id : Int
  ep : Int
  now : Int
  n : Int
instance : Inhabited Act6 := ⟨⟨0, 0, 0, 0, 0, 0⟩⟩
/-- it waits, if it may -/
def queueP (m ss : Int) (p : Pl) : Pl × Int := ({ p with row := (putW m ss p.row).2 }, if (putW m ss p.row).1 = 0 then 13 else (putW m ss p.row).1)
def hasH (ss : Int) (l : List Hd) : Bool := decide (0 ≤ firstH (fun h => h.c.o == ss) l)
def acqP (mo m ss ep now : Int) (p : Pl) : Pl × Int × Int :=
  if ss < 1 then (p, 0, 1) else if hasH ss p.l then (p, 0, 7) else if 0 ≤ atW ss p.row then (p, 0, 7)
  else if p.row = [] then (if (giveI mo ep p).2 then (giveP mo ss ep now p, (giveI mo ep p).1, 0) else ((queueP m ss (giveP mo ss ep now p)).1, 0, (queueP m ss (giveP mo ss ep now p)).2))
  else ((queueP m ss p).1, 0, (queueP m ss p).2)
def serveP (mo ep now : Int) (p : Pl) : Pl × Int × Int × Bool :=
  match p.row with
  | [] => (p, 0, 0, false)
  | ss :: r => if (giveI mo ep p).2 then ({ giveP mo ss ep now p with row := r }, ss, (giveI mo ep p).1, true) else (giveP mo ss ep now p, 0, 0, false)
/-- one that a pool has -/
def theH (id : Int) (p : Pl) : Hd := p.l.getD (findH id p.l).toNat default
def onH (id : Int) (f : Hd → Hd) (p : Pl) : Pl := { p with l := turnH p.l (findH id p.l) f }
def sweepP (p : Pl) : Pl := { p with l := sweepH p.l }
def sendP (id n : Int) (p : Pl) : Pl × Int := if findH id p.l < 0 then (p, 6) else (onH id (fun h => h.set (h.c.sendC n)) p, (theH id p).c.sendA n)
def replyP (id n : Int) (p : Pl) : Pl × Bool := if findH id p.l < 0 then (p, false) else (sweepP (onH id (fun h => h.set (h.c.replyC n)) p), (theH id p).c.replyA n)
def soilP (id : Int) (p : Pl) : Pl × Bool := if findH id p.l < 0 then (p, false) else (onH id (fun h => h.set h.c.soilC) p, (theH id p).c.soilA)
def releaseP (id now : Int) (p : Pl) : Pl × Bool :=
  if findH id p.l < 0 then (p, false) else if (theH id p).c.releaseA then (sweepP (onH id (fun h => { h with c := h.c.releaseC, t := now }) p), true) else (p, false)
def breakP (id : Int) (p : Pl) : Pl × Int × Int × Bool :=
  if findH id p.l < 0 then (p, 0, 0, false) else (sweepP (onH id (fun h => h.set h.c.breakC) p), (theH id p).c.f, (theH id p).c.o, true)
def drainP (ep : Int) (p : Pl) : Pl := { p with l := sweepH (p.l.map (drain1 ep)) }
def reapP (idle now : Int) (p : Pl) : Pl × Int := ({ p with l := sweepH (p.l.map (reap1 idle now)) }, ((p.l.filter (isOld idle now)).length : Int))
def doP (mo idle m : Int) (t : Act6) (p : Pl) : Pl :=
  if t.d = 0 then (acqP mo m t.ss t.ep t.now p).1 else if t.d = 1 then (serveP mo t.ep t.now p).1 else if t.d = 2 then { p with row := dropW t.ss p.row }
  else if t.d = 3 then (sendP t.id t.n p).1 else if t.d = 4 then (replyP t.id t.n p).1 else if t.d = 5 then (soilP t.id p).1 else if t.d = 6 then (releaseP t.id t.now p).1
  else if t.d = 7 then (breakP t.id p).1 else if t.d = 8 then drainP t.ep p else if t.d = 9 then (reapP idle t.now p).1 else p
def doT (mo idle m : Int) (t : Act6) (p : Pl) : Told6 :=
  if t.d = 0 then ⟨(acqP mo m t.ss t.ep t.now p).2.1, 0, 0, false, (acqP mo m t.ss t.ep t.now p).2.2⟩ else if t.d = 1 then ⟨(serveP mo t.ep t.now p).2.1, (serveP mo t.ep t.now p).2.2.1, 0, (serveP mo t.ep t.now p).2.2.2, 0⟩
  else if t.d = 2 then ⟨0, 0, 0, decide (0 ≤ atW t.ss p.row), 0⟩ else if t.d = 3 then ⟨0, 0, 0, false, (sendP t.id t.n p).2⟩ else if t.d = 4 then ⟨0, 0, 0, (replyP t.id t.n p).2, 0⟩
  else if t.d = 5 then ⟨0, 0, 0, (soilP t.id p).2, 0⟩ else if t.d = 6 then ⟨0, 0, 0, (releaseP t.id t.now p).2, 0⟩
  else if t.d = 7 then ⟨(breakP t.id p).2.2.1, 0, (breakP t.id p).2.1, (breakP t.id p).2.2.2, 0⟩ else if t.d = 8 then ⟨0, 0, 0, false, 0⟩ else if t.d = 9 then ⟨(reapP idle t.now p).2, 0, 0, false, 0⟩ else ⟨0, 0, 0, false, 0⟩
end

/- Connections: what follows of acts, as plain mathematics (no function of the program is named here). -/
section
open Go.RowKit
set_option maxRecDepth 100000

namespace Cn
theorem ok_free : ∀ {c : Cn}, c.ok → c.o = 0 → c.f = 0
  | idle _ _, _, _ => rfl
  | lent o _ _ _, h, e => by have h1 : 1 ≤ o := h; have h2 : o = 0 := e; omega
  | drains o _ _ _, h, e => by have h1 : 1 ≤ o := h.1; have h2 : o = 0 := e; omega
  | closed _ _, _, _ => rfl
theorem ok_do (t : Act3) {c : Cn} (h : c.ok) : (c.doC t).ok := by
  obtain ⟨d, x, y⟩ := t
  unfold doC
  dsimp only
  split
  · cases c <;> simp only [lendC] <;> first | exact h | (split <;> first | assumption | exact h)
  split
  · cases c <;> simp only [sendC] <;> first | exact h | (split <;> first | exact h | (split <;> exact h))
  split
  · cases c <;> simp only [replyC] <;> first | exact h | (split <;> first | exact h | trivial)
  split
  · cases c <;> exact h
  split
  · cases c <;> simp only [releaseC] <;> first | exact h | (split <;> first | exact h | (split <;> trivial))
  split
  · cases c <;> simp only [drainC] <;> first | exact h | trivial | (split <;> first | trivial | exact ⟨h, by assumption⟩)
  split
  · trivial
  · exact h
/-- an act on one that somebody has, or nobody -/
structure OneF (d x y co cf cs cn n2 f2 c2n ve : Int) (vi : Bool) : Prop where
  q1 : co ≠ 0 → n2 ≠ 0 → n2 = co
  q2 : co = 0 → n2 ≠ 0 → d = 0 ∧ n2 = x ∧ cs = 1 ∧ f2 = 0
  q2v : co = 0 → n2 ≠ 0 → vi = true
  q3 : d = 1 → ve = 0 → co ≠ 0 ∧ n2 = co ∧ cf = 0 ∧ f2 = y ∧ y ≠ 0
  q3n : d = 1 → ve = 0 → IntKind.i64.wrap (cn + 1) = c2n
  q4 : ¬ (d = 1 ∧ ve = 0) → c2n = cn
  q5 : d = 2 → vi = decide (y ≠ 0 ∧ cf = y)
  q6 : f2 ≠ 0 → n2 ≠ 0
theorem ok_busy {c : Cn} (h : c.ok) (e : c.f ≠ 0) : c.o ≠ 0 := fun h0 => e (ok_free h h0)
theorem oneF (t : Act3) {c : Cn} (h : c.ok) : OneF t.d t.x t.y c.o c.f c.s c.n (c.doC t).o (c.doC t).f (c.doC t).n (c.doA t).e (c.doA t).i := by
  have hok := ok_do t h
  refine ⟨?_, ?_, ?_, ?_, ?_, ?_, ?_, ok_busy hok⟩
  all_goals
    clear hok
    obtain ⟨d, x, y⟩ := t
    try dsimp only
  · intro h1
    cases c with
    | idle e n | closed e n => exact absurd rfl h1
    | lent o f e n | drains o f e n =>
      clear h h1
      unfold doC
      dsimp only
      (repeat' split) <;> simp only [lendC, sendC, replyC, soilC, releaseC, drainC, breakC] <;> (repeat' split) <;> first | (intro _; rfl) | (intro _; trivial) | (intro h; exact absurd rfl h)
  · unfold doC
    dsimp only
    cases c with
    | lent o f e n => intro h1; have h2 : 1 ≤ o := h; have h3 : o = 0 := h1; omega
    | drains o f e n => intro h1; have h2 : 1 ≤ o := h.1; have h3 : o = 0 := h1; omega
    | closed e n =>
      intro _ h2
      exfalso
      revert h2
      (repeat' split) <;> simp [lendC, sendC, replyC, soilC, releaseC, drainC, breakC, Cn.o]
    | idle e n =>
      split
      · simp only [lendC]
        split
        · intro _ _
          exact ⟨by assumption, rfl, rfl, rfl⟩
        · intro _ h2
          exact absurd rfl h2
      · intro _ h2
        exfalso
        revert h2
        (repeat' split) <;> simp [sendC, replyC, soilC, releaseC, drainC, breakC, Cn.o]
  · unfold doC doA
    dsimp only
    cases c with
    | lent o f e n => intro h1; have h2 : 1 ≤ o := h; have h3 : o = 0 := h1; omega
    | drains o f e n => intro h1; have h2 : 1 ≤ o := h.1; have h3 : o = 0 := h1; omega
    | closed e n =>
      intro _ h2
      exfalso
      revert h2
      (repeat' split) <;> simp [lendC, sendC, replyC, soilC, releaseC, drainC, breakC, Cn.o]
    | idle e n =>
      split
      · simp only [lendC, lendA]
        split
        · intro _ _
          exact decide_eq_true (by assumption)
        · intro _ h2
          exact absurd rfl h2
      · intro _ h2
        exfalso
        revert h2
        (repeat' split) <;> simp [sendC, replyC, soilC, releaseC, drainC, breakC, Cn.o]
  · intro h1
    subst h1
    have e1 : Cn.doC ⟨1, x, y⟩ c = c.sendC y := rfl
    have e2 : Cn.doA ⟨1, x, y⟩ c = ⟨false, c.sendA y, 0⟩ := rfl
    rw [e1, e2]
    dsimp only
    by_cases hy : y = 0
    · intro h2
      exfalso
      revert h2
      cases c <;> simp [sendA, hy]
    cases c with
    | lent o f e n =>
      have h2 : 1 ≤ o := h
      by_cases hf : f = 0
      · intro _
        simp only [sendC, if_neg hy, if_pos hf]
        exact ⟨by show o ≠ 0; omega, rfl, hf, rfl, hy⟩
      · intro h3
        exfalso
        revert h3
        simp [sendA, hy, hf]
    | idle e n | drains o f e n | closed e n =>
      intro h3
      exfalso
      revert h3
      simp [sendA, hy]
  · intro h1
    subst h1
    have e1 : Cn.doC ⟨1, x, y⟩ c = c.sendC y := rfl
    have e2 : Cn.doA ⟨1, x, y⟩ c = ⟨false, c.sendA y, 0⟩ := rfl
    rw [e1, e2]
    dsimp only
    by_cases hy : y = 0
    · intro h2
      exfalso
      revert h2
      cases c <;> simp [sendA, hy]
    cases c with
    | lent o f e n =>
      by_cases hf : f = 0
      · intro _
        simp only [sendC, if_neg hy, if_pos hf]
        rfl
      · intro h3
        exfalso
        revert h3
        simp [sendA, hy, hf]
    | idle e n | drains o f e n | closed e n =>
      intro h3
      exfalso
      revert h3
      simp [sendA, hy]
  · by_cases h1 : d = 1
    · subst h1
      have e1 : Cn.doC ⟨1, x, y⟩ c = c.sendC y := rfl
      have e2 : Cn.doA ⟨1, x, y⟩ c = ⟨false, c.sendA y, 0⟩ := rfl
      rw [e1, e2]
      dsimp only
      intro h3
      have h4 : c.sendA y ≠ 0 := fun e => h3 ⟨rfl, e⟩
      revert h4
      cases c with
      | lent o f e n =>
        simp only [sendA, sendC]
        (repeat' split) <;> first | (intro _; rfl) | (intro h; exact absurd rfl h)
      | idle e n | drains o f e n | closed e n => intro _; rfl
    · intro _
      unfold doC
      dsimp only
      rw [if_neg h1]
      cases c <;> (repeat' split) <;> simp only [lendC, replyC, soilC, releaseC, drainC, breakC] <;> (repeat' split) <;> rfl
  · intro h1
    subst h1
    rfl
end Cn
end

/- Pools: what stays true act by act, as plain mathematics (no function of the program is named here). -/
section
open Go.RowKit
set_option maxRecDepth 100000

/-- what a call makes of one that is held, but for Lend: it keeps its id, its epoch, and who has it, or nobody has it any more -/
structure Eased (h h' : Hd) : Prop where
  id : h'.id = h.id
  ep : h'.ep = h.ep
  ok : h.c.ok → h'.c.ok
  o : h.c.ok → h'.c.o = h.c.o ∨ h'.c.o = 0
theorem Eased.refl (h : Hd) : Eased h h := ⟨rfl, rfl, fun h => h, fun _ => .inl rfl⟩
theorem eased_do (t : Act3) (ht : t.d ≠ 0) (h : Hd) : Eased h (h.set (h.c.doC t)) :=
  ⟨rfl, rfl, fun e => Cn.ok_do t e, fun e => by
    have hf := Cn.oneF t e
    by_cases h1 : (h.c.doC t).o = 0
    · exact .inr h1
    · by_cases h2 : h.c.o = 0
      · exact absurd (hf.q2 h2 h1).1 ht
      · exact .inl (hf.q1 h2 h1)⟩
theorem eased_send (n : Int) (h : Hd) : Eased h (h.set (h.c.sendC n)) := eased_do ⟨1, 0, n⟩ (show (1 : Int) ≠ 0 by decide) h
theorem eased_reply (n : Int) (h : Hd) : Eased h (h.set (h.c.replyC n)) := eased_do ⟨2, 0, n⟩ (show (2 : Int) ≠ 0 by decide) h
theorem eased_soil (h : Hd) : Eased h (h.set h.c.soilC) := eased_do ⟨3, 0, 0⟩ (show (3 : Int) ≠ 0 by decide) h
theorem eased_release (now : Int) (h : Hd) : Eased h { h with c := h.c.releaseC, t := now } := ⟨rfl, rfl, (eased_do ⟨4, 0, 0⟩ (show (4 : Int) ≠ 0 by decide) h).ok, (eased_do ⟨4, 0, 0⟩ (show (4 : Int) ≠ 0 by decide) h).o⟩
theorem eased_drain (h : Hd) : Eased h (h.set h.c.drainC) := eased_do ⟨5, 0, 0⟩ (show (5 : Int) ≠ 0 by decide) h
theorem eased_break (h : Hd) : Eased h (h.set h.c.breakC) := eased_do ⟨6, 0, 0⟩ (show (6 : Int) ≠ 0 by decide) h
theorem eased_cut1 (ep : Int) (h : Hd) : Eased h (cut1 ep h) := by
  unfold cut1
  split
  · exact eased_drain h
  · exact Eased.refl h
theorem eased_drain1 (ep : Int) (h : Hd) : Eased h (drain1 ep h) := by
  unfold drain1
  split
  · exact eased_drain h
  · exact Eased.refl h
theorem eased_reap1 (idl now : Int) (h : Hd) : Eased h (reap1 idl now h) := by
  unfold reap1
  split
  · exact eased_drain h
  · exact Eased.refl h
/-- two rows, one by one -/
inductive Each2 (R : Hd → Hd → Prop) : List Hd → List Hd → Prop where
  | nil : Each2 R [] []
  | cons {a b : Hd} {l l' : List Hd} : R a b → Each2 R l l' → Each2 R (a :: l) (b :: l')
section
variable {R : Hd → Hd → Prop} {l l' : List Hd}
theorem Each2.map {f : Hd → Hd} (h : ∀ x, R x (f x)) : ∀ l, Each2 R l (l.map f)
  | [] => .nil
  | x :: r => .cons (h x) (Each2.map h r)
theorem Each2.refl (h : ∀ x, R x x) : ∀ l, Each2 R l l
  | [] => .nil
  | x :: r => .cons (h x) (Each2.refl h r)
theorem Each2.modify (hr : ∀ x, R x x) {f : Hd → Hd} (h : ∀ x, R x (f x)) : ∀ (i : Nat) (l : List Hd), Each2 R l (l.modify i f)
  | _, [] => by rw [List.modify_nil]; exact .nil
  | 0, x :: r => .cons (h x) (Each2.refl hr r)
  | i + 1, x :: r => .cons (hr x) (Each2.modify hr h i r)
theorem Each2.len (h : Each2 R l l') : l'.length = l.length := by
  induction h with
  | nil => rfl
  | cons _ _ ih => simp [ih]
theorem Each2.mem (h : Each2 R l l') : ∀ y ∈ l', ∃ x ∈ l, R x y := by
  induction h with
  | nil => intro y hy; cases hy
  | cons hab _ ih =>
    intro y hy
    rcases List.mem_cons.1 hy with rfl | hy
    · exact ⟨_, List.mem_cons_self, hab⟩
    · obtain ⟨x, hx, hr⟩ := ih y hy
      exact ⟨x, List.mem_cons_of_mem _ hx, hr⟩
theorem Each2.pair {P Q : Hd → Hd → Prop} (h : Each2 R l l') (hp : l.Pairwise P) (hq : ∀ a ∈ l, ∀ b ∈ l, ∀ a' b', R a a' → R b b' → P a b → Q a' b') : l'.Pairwise Q := by
  induction h with
  | nil => exact List.Pairwise.nil
  | cons hab hrest ih =>
    obtain ⟨h1, h2⟩ := List.pairwise_cons.1 hp
    refine List.pairwise_cons.2 ⟨fun y hy => ?_, ih h2 fun a ha b hb => hq a (List.mem_cons_of_mem _ ha) b (List.mem_cons_of_mem _ hb)⟩
    obtain ⟨x, hx, hr⟩ := hrest.mem y hy
    exact hq _ List.mem_cons_self x (List.mem_cons_of_mem _ hx) _ _ hab hr (h1 x hx)
end
/-- what stays true of a pool -/
structure PInv (mo m : Int) (p : Pl) : Prop where
  live : ∀ h ∈ p.l, h.live = true
  ok : ∀ h ∈ p.l, h.c.ok
  own : p.l.Pairwise fun a b => a.c.o ≠ 0 → a.c.o ≠ b.c.o
  wait : ∀ h ∈ p.l, h.c.o ≠ 0 → h.c.o ∉ p.row
  few : (p.l.length : Int) ≤ mo
  room : (p.row.length : Int) ≤ m
  nd : p.row.Nodup
  pos : ∀ x ∈ p.row, 1 ≤ x
section
variable {mo m : Int} {p : Pl}
theorem PInv.new (hmo : 0 ≤ mo) (hm : 0 ≤ m) : PInv mo m ⟨[], [], 0⟩ := ⟨(by simp), (by simp), List.Pairwise.nil, (by simp), (by simpa using hmo), (by simpa using hm), List.nodup_nil, (by simp)⟩
theorem PInv.eased (h : PInv mo m p) {l' : List Hd} (he : Each2 Eased p.l l') : PInv mo m { p with l := sweepH l' } := by
  have hsub : (sweepH l').Sublist l' := List.filter_sublist
  refine ⟨fun x hx => (List.mem_filter.1 hx).2, fun x hx => ?_, ?_, fun x hx h0 => ?_, ?_, h.room, h.nd, h.pos⟩
  · obtain ⟨y, hy, hr⟩ := he.mem x (hsub.subset hx)
    exact hr.ok (h.ok y hy)
  · refine List.Pairwise.sublist hsub (he.pair h.own fun a ha b hb a' b' ra rb hp h0 => ?_)
    rcases ra.o (h.ok a ha) with e | e
    · rcases rb.o (h.ok b hb) with e2 | e2
      · rw [e, e2]
        exact hp (e ▸ h0)
      · rw [e2]
        exact h0
    · exact absurd e h0
  · obtain ⟨y, hy, hr⟩ := he.mem x (hsub.subset hx)
    rcases hr.o (h.ok y hy) with e | e
    · rw [e]
      exact h.wait y hy (e ▸ h0)
    · exact absurd e h0
  · have h1 := hsub.length_le
    rw [he.len] at h1
    have := h.few
    show ((sweepH l').length : Int) ≤ mo
    omega
theorem sweep_live {l : List Hd} (h : ∀ x ∈ l, x.live = true) : sweepH l = l := List.filter_eq_self.2 h

/-- one given: who has it had none, and waits no more -/
structure PGive (mo m ss : Int) (p p' : Pl) (is : Bool) : Prop where
  live : ∀ h ∈ p'.l, h.live = true
  ok : ∀ h ∈ p'.l, h.c.ok
  own : p'.l.Pairwise fun a b => a.c.o ≠ 0 → a.c.o ≠ b.c.o
  wait : ∀ h ∈ p'.l, h.c.o ≠ 0 → (is = true ∧ h.c.o = ss) ∨ h.c.o ∉ p.row
  few : (p'.l.length : Int) ≤ mo
  row : p'.row = p.row
  who : is = false → ∀ h ∈ p'.l, h.c.o ≠ ss
theorem lend_idle {ss : Int} (hs : 1 ≤ ss) {c : Cn} (hc : c.s = 1) : (c.lendC ss).ok ∧ (c.lendC ss).o = ss ∧ (c.lendC ss).s = 2 := by
  cases c with
  | idle d n =>
    simp only [Cn.lendC, if_pos hs]
    exact ⟨hs, rfl, rfl⟩
  | lent o f d n | drains o f d n | closed d n => exact absurd hc (by simp [Cn.s])
theorem idle_free {c : Cn} (hc : c.s = 1) : c.o = 0 := by
  cases c with
  | idle d n => rfl
  | lent o f d n | drains o f d n | closed d n => exact absurd hc (by simp [Cn.s])
theorem pairwise_set {P : Hd → Hd → Prop} : ∀ {l : List Hd} {i : Nat} {x : Hd} (_ : i < l.length), l.Pairwise P → (∀ y ∈ l, P x y ∧ P y x) → (l.set i x).Pairwise P
  | [], _, _, h, _, _ => by simp at h
  | a :: r, 0, x, _, hp, hx => by
    obtain ⟨_, h2⟩ := List.pairwise_cons.1 hp
    exact List.pairwise_cons.2 ⟨fun y hy => (hx y (List.mem_cons_of_mem _ hy)).1, h2⟩
  | a :: r, i + 1, x, h, hp, hx => by
    obtain ⟨h1, h2⟩ := List.pairwise_cons.1 hp
    refine List.pairwise_cons.2 ⟨fun y hy => ?_, pairwise_set (by simpa using h) h2 fun y hy => hx y (List.mem_cons_of_mem _ hy)⟩
    rcases List.mem_or_eq_of_mem_set hy with hy | rfl
    · exact h1 y hy
    · exact (hx a List.mem_cons_self).2
theorem PInv.give (h : PInv mo m p) {ss ep now : Int} (hs : 1 ≤ ss) (hno : ∀ x ∈ p.l, x.c.o ≠ ss) : PGive mo m ss p (giveP mo ss ep now p) (giveI mo ep p).2 := by
  have h1 := h.eased (Each2.map (eased_cut1 ep) p.l)
  have hne : ∀ x ∈ sweepH (p.l.map (cut1 ep)), x.c.o ≠ ss := fun x hx e => by
    obtain ⟨y, hy, hr⟩ := (Each2.map (eased_cut1 ep) p.l).mem x ((List.mem_filter.1 hx).1)
    rcases hr.o (h.ok y hy) with e2 | e2
    · exact hno y hy (by rw [← e2]; exact e)
    · omega
  unfold giveP giveI
  dsimp only
  have hl1 := h1.live
  have ho1 := h1.ok
  have hp1 := h1.own
  have hw1 := h1.wait
  have hf1 := h1.few
  dsimp only at hl1 ho1 hp1 hw1 hf1
  generalize sweepH (p.l.map (cut1 ep)) = l1 at *
  by_cases hi : 0 ≤ firstH Hd.idle l1
  · obtain ⟨i, hii⟩ : ∃ i : Nat, firstH Hd.idle l1 = i := ⟨(firstH Hd.idle l1).toNat, by omega⟩
    obtain ⟨hil, hid⟩ := firstH_is hii
    have hid' : l1[i].c.s = 1 := by simpa [Hd.idle] using hid
    obtain ⟨k1, k2, k3⟩ := lend_idle hs hid'
    rw [if_pos hi, if_pos hi, hii]
    have ht : turnH l1 (i : Int) (fun h => h.set (h.c.lendC ss)) = l1.set i (l1[i].set (l1[i].c.lendC ss)) := by
      unfold turnH
      rw [Int.toNat_natCast]
      refine List.ext_getElem (by simp) fun j h1 h2 => ?_
      rw [List.getElem_modify, List.getElem_set]
      split
      · rename_i e; subst e; rfl
      · rfl
    dsimp only
    rw [ht]
    refine ⟨fun x hx => ?_, fun x hx => ?_, pairwise_set hil hp1 fun y hy => ⟨fun _ => ?_, fun _ => ?_⟩, fun x hx h0 => ?_, by simpa using hf1, rfl, fun e => by cases e⟩
    · rcases List.mem_or_eq_of_mem_set hx with hx | rfl
      · exact hl1 x hx
      · simp [Hd.live, Hd.set, k3]
    · rcases List.mem_or_eq_of_mem_set hx with hx | rfl
      · exact ho1 x hx
      · exact k1
    · show (l1[i].c.lendC ss).o ≠ y.c.o
      rw [k2]
      exact (hne y hy).symm
    · show y.c.o ≠ (l1[i].c.lendC ss).o
      rw [k2]
      exact hne y hy
    · rcases List.mem_or_eq_of_mem_set hx with hx | rfl
      · exact .inr (hw1 x hx h0)
      · exact .inl ⟨rfl, k2⟩
  · rw [if_neg hi, if_neg hi]
    by_cases hf : mo ≤ (l1.length : Int)
    · rw [if_pos hf, if_pos hf]
      exact ⟨hl1, ho1, hp1, fun x hx h0 => .inr (hw1 x hx h0), hf1, rfl, fun _ => hne⟩
    · rw [if_neg hf, if_neg hf]
      obtain ⟨k1, k2, k3⟩ := lend_idle (c := .idle false 0) hs rfl
      refine ⟨fun x hx => ?_, fun x hx => ?_, ?_, fun x hx h0 => ?_, ?_, rfl, fun e => by cases e⟩
      · rcases List.mem_append.1 hx with hx | hx
        · exact hl1 x hx
        · obtain rfl := List.mem_singleton.1 hx
          simp [Hd.live, k3]
      · rcases List.mem_append.1 hx with hx | hx
        · exact ho1 x hx
        · obtain rfl := List.mem_singleton.1 hx
          exact k1
      · rw [List.pairwise_append]
        refine ⟨hp1, List.pairwise_singleton _ _, fun x hx y hy _ => ?_⟩
        obtain rfl := List.mem_singleton.1 hy
        show x.c.o ≠ ((Cn.idle false 0).lendC ss).o
        rw [k2]
        exact hne x hx
      · rcases List.mem_append.1 hx with hx | hx
        · exact .inr (hw1 x hx h0)
        · obtain rfl := List.mem_singleton.1 hx
          exact .inl ⟨rfl, k2⟩
      · simp only [List.length_append, List.length_singleton]
        omega

theorem put_mem {m x : Int} {l : List Int} : ∀ y ∈ (putW m x l).2, y ∈ l ∨ y = x := by
  unfold putW
  intro y hy
  split at hy
  · exact .inl hy
  split at hy
  · exact .inl hy
  · simpa using hy
theorem PInv.queue {p : Pl} (h : PInv mo m p) {ss : Int} (hs : 1 ≤ ss) (hno : ∀ x ∈ p.l, x.c.o ≠ ss) : PInv mo m (queueP m ss p).1 :=
  ⟨h.live, h.ok, h.own, fun x hx h0 hm => (put_mem _ hm).elim (h.wait x hx h0) (hno x hx), h.few, putW_len h.room, putW_nodup h.nd, fun y hy => (put_mem y hy).elim (h.pos y) fun e => e ▸ hs⟩
theorem has_none {ss : Int} {l : List Hd} (h : hasH ss l = false) : ∀ x ∈ l, x.c.o ≠ ss := fun x hx => by
  have h1 := of_decide_eq_false h
  have := firstH_all (p := fun h : Hd => h.c.o == ss) (l := l) (by omega) x hx
  simpa using this
theorem PInv.gave {p p' : Pl} {ss : Int} {is : Bool} (h : PInv mo m p) (hg : PGive mo m ss p p' is) (hr : is = true → ss ∉ p.row) : PInv mo m p' := by
  refine ⟨hg.live, hg.ok, hg.own, fun x hx h0 => ?_, hg.few, by rw [hg.row]; exact h.room, by rw [hg.row]; exact h.nd, by rw [hg.row]; exact h.pos⟩
  rw [hg.row]
  rcases hg.wait x hx h0 with ⟨h1, h2⟩ | h1
  · rw [h2]; exact hr h1
  · exact h1
theorem PInv.acq (h : PInv mo m p) (ss ep now : Int) : PInv mo m (acqP mo m ss ep now p).1 := by
  unfold acqP
  by_cases hs : ss < 1
  · rw [if_pos hs]; exact h
  rw [if_neg hs]
  have hs1 : 1 ≤ ss := by omega
  cases hh : hasH ss p.l with
  | true => rw [if_pos rfl]; exact h
  | false =>
    rw [if_neg (by simp)]
    have hno := has_none hh
    by_cases hat : 0 ≤ atW ss p.row
    · rw [if_pos hat]; exact h
    rw [if_neg hat]
    have hnr : ss ∉ p.row := fun e => hat (atW_mem.2 e)
    by_cases hrow : p.row = []
    · rw [if_pos hrow]
      have hg := h.give (ss := ss) (ep := ep) (now := now) hs1 hno
      have hp := h.gave hg fun _ => hnr
      cases his : (giveI mo ep p).2 with
      | true => rw [if_pos rfl]; exact hp
      | false =>
        rw [if_neg (by simp)]
        exact hp.queue hs1 (hg.who his)
    · rw [if_neg hrow]
      exact h.queue hs1 hno
theorem PInv.serve (h : PInv mo m p) (ep now : Int) : PInv mo m (serveP mo ep now p).1 := by
  unfold serveP
  cases hrow : p.row with
  | nil => exact h
  | cons ss r =>
    dsimp only
    have hm : ss ∈ p.row := by rw [hrow]; exact List.mem_cons_self
    have hs1 := h.pos ss hm
    have hno : ∀ x ∈ p.l, x.c.o ≠ ss := fun x hx e => h.wait x hx (by omega) (e ▸ hm)
    have hg := h.give (ss := ss) (ep := ep) (now := now) hs1 hno
    have hnd := h.nd
    rw [hrow] at hnd
    obtain ⟨hn1, hn2⟩ := List.nodup_cons.1 hnd
    cases his : (giveI mo ep p).2 with
    | true =>
      rw [if_pos rfl]
      refine ⟨hg.live, hg.ok, hg.own, fun x hx h0 hmem => ?_, hg.few, ?_, hn2, fun y hy => h.pos y (by rw [hrow]; exact List.mem_cons_of_mem _ hy)⟩
      · rcases hg.wait x hx h0 with ⟨_, h2⟩ | h1
        · exact hn1 (h2 ▸ hmem)
        · exact h1 (by rw [hrow]; exact List.mem_cons_of_mem _ hmem)
      · have := h.room
        rw [hrow] at this
        simp only [List.length_cons] at this
        show (r.length : Int) ≤ m
        omega
    | false =>
      rw [if_neg (by simp)]
      exact h.gave hg fun e => by rw [his] at e; cases e
theorem live_of {c : Cn} (h : c.s ≠ 4) : ∀ n, (c.sendC n).s ≠ 4 ∧ c.soilC.s ≠ 4 := fun n => by
  cases c with
  | idle d k => exact ⟨h, h⟩
  | lent o f d k =>
    refine ⟨?_, by simp [Cn.soilC, Cn.s]⟩
    simp only [Cn.sendC]
    (repeat' split) <;> simp [Cn.s]
  | drains o f d k => exact ⟨h, h⟩
  | closed d k => exact absurd rfl h
theorem PInv.on (h : PInv mo m p) {f : Hd → Hd} (hf : ∀ x, Eased x (f x)) (id : Int) : PInv mo m (sweepP (onH id f p)) := h.eased (Each2.modify Eased.refl hf _ _)
theorem on_live {p : Pl} {f : Hd → Hd} (hl : ∀ x ∈ p.l, x.live = true) (hf : ∀ x : Hd, x.live = true → (f x).live = true) (id : Int) : sweepP (onH id f p) = onH id f p := by
  unfold sweepP
  rw [sweep_live]
  intro x hx
  obtain ⟨y, hy, hr⟩ := (Each2.modify (R := fun a b => a.live = true → b.live = true) (fun _ h => h) (fun x => hf x) _ _ : Each2 _ p.l (turnH p.l (findH id p.l) f)).mem x hx
  exact hr (hl y hy)
theorem PInv.do (h : PInv mo m p) (idl : Int) (t : Act6) : PInv mo m (doP mo idl m t p) := by
  unfold doP
  split
  · exact h.acq _ _ _
  split
  · exact h.serve _ _
  split
  · exact ⟨h.live, h.ok, h.own, fun x hx h0 e => h.wait x hx h0 ((List.erase_sublist).subset e), h.few, by have := dropW_len t.ss p.row; have := h.room; show ((dropW t.ss p.row).length : Int) ≤ m; omega, dropW_nodup h.nd, fun y hy => h.pos y ((List.erase_sublist).subset hy)⟩
  split
  · unfold sendP
    split
    · exact h
    · rw [← on_live h.live (fun x hx => by
        have h1 : x.c.s ≠ 4 := by simpa [Hd.live] using hx
        simpa [Hd.live, Hd.set] using (live_of h1 t.n).1) t.id]
      exact h.on (eased_send _) _
  split
  · unfold replyP
    split
    · exact h
    · exact h.on (eased_reply _) _
  split
  · unfold soilP
    split
    · exact h
    · rw [← on_live h.live (fun x hx => by
        have h1 : x.c.s ≠ 4 := by simpa [Hd.live] using hx
        simpa [Hd.live, Hd.set] using (live_of h1 0).2) t.id]
      exact h.on eased_soil _
  split
  · unfold releaseP
    split
    · exact h
    split
    · exact h.on (eased_release _) _
    · exact h
  split
  · unfold breakP
    split
    · exact h
    · exact h.on eased_break _
  split
  · exact h.eased (Each2.map (eased_drain1 _) _)
  split
  · exact h.eased (Each2.map (eased_reap1 _ _) _)
  · exact h
end
end

/- Pools: ids, as plain mathematics (no function of the program is named here). -/
section
open Go.RowKit
set_option maxRecDepth 100000

/-- ids rise, and none is above the last one; of k acts -/
structure IInv (k : Nat) (p : Pl) : Prop where
  low : 0 ≤ p.last
  high : p.last ≤ k
  ids : ∀ h ∈ p.l, h.id ≤ p.last
  up : p.l.Pairwise fun a b => a.id < b.id
/-- what an act leaves: those that there were, and at most one that is new -/
structure IStep (k : Nat) (p p' : Pl) : Prop where
  inv : IInv (k + 1) p'
  old : ∀ h ∈ p'.l, (∃ x ∈ p.l, x.id = h.id ∧ x.ep = h.ep) ∨ p.last < h.id
section
variable {k : Nat} {p : Pl}
theorem IInv.new : IInv 0 ⟨[], [], 0⟩ := ⟨Int.le_refl _, Int.le_refl _, (by simp), List.Pairwise.nil⟩
theorem IStep.same (h : IInv k p) (row : List Int) : IStep k p { p with row := row } := ⟨⟨h.low, by have := h.high; show p.last ≤ ((k + 1 : Nat) : Int); omega, h.ids, h.up⟩, fun x hx => .inl ⟨x, hx, rfl, rfl⟩⟩
theorem IStep.eased (h : IInv k p) {l' : List Hd} (he : Each2 Eased p.l l') (f : Hd → Bool) : IStep k p { p with l := l'.filter f } := by
  refine ⟨⟨h.low, by have := h.high; show p.last ≤ ((k + 1 : Nat) : Int); omega, fun x hx => ?_, ?_⟩, fun x hx => ?_⟩
  · obtain ⟨y, hy, hr⟩ := he.mem x (List.mem_filter.1 hx).1
    rw [hr.id]
    exact h.ids y hy
  · refine List.Pairwise.sublist List.filter_sublist (he.pair h.up fun a _ b _ a' b' ra rb hp => ?_)
    rw [ra.id, rb.id]
    exact hp
  · obtain ⟨y, hy, hr⟩ := he.mem x (List.mem_filter.1 hx).1
    exact .inl ⟨y, hy, hr.id.symm, hr.ep.symm⟩
theorem IStep.each (h : IInv k p) {l' : List Hd} (he : Each2 Eased p.l l') : IStep k p { p with l := l' } := by
  have := IStep.eased h he fun _ => true
  rwa [List.filter_eq_self.2 (fun _ _ => rfl)] at this
theorem IStep.row {p' : Pl} (h : IStep k p p') (row : List Int) : IStep k p { p' with row := row } := ⟨⟨h.inv.low, h.inv.high, h.inv.ids, h.inv.up⟩, h.old⟩
theorem IStep.give (h : IInv k p) (hk : k ≤ 1000) (mo ss ep now : Int) : IStep k p (giveP mo ss ep now p) := by
  have h1 := IStep.eased h (Each2.map (eased_cut1 ep) p.l) Hd.live
  have hw : IntKind.i64.wrap (p.last + 1) = p.last + 1 := by
    have := h.low
    have := h.high
    rw [IntKind.wrap_i64]
    omega
  unfold giveP
  dsimp only
  change IStep k p { p with l := sweepH (p.l.map (cut1 ep)) } at h1
  generalize sweepH (p.l.map (cut1 ep)) = l1 at *
  split
  · have h2 : Each2 (fun a b => b.id = a.id ∧ b.ep = a.ep) l1 (turnH l1 (firstH Hd.idle l1) fun h => h.set (h.c.lendC ss)) := Each2.modify (fun _ => ⟨rfl, rfl⟩) (fun _ => ⟨rfl, rfl⟩) _ _
    refine ⟨⟨h1.inv.low, h1.inv.high, fun x hx => ?_, h2.pair h1.inv.up fun a _ b _ a' b' ra rb hp => by rw [ra.1, rb.1]; exact hp⟩, fun x hx => ?_⟩
    · obtain ⟨y, hy, hr⟩ := h2.mem x hx
      rw [hr.1]
      exact h1.inv.ids y hy
    · obtain ⟨y, hy, hr⟩ := h2.mem x hx
      rcases h1.old y hy with ⟨z, hz, e1, e2⟩ | e
      · exact .inl ⟨z, hz, e1.trans hr.1.symm, e2.trans hr.2.symm⟩
      · exact .inr (by rw [hr.1]; exact e)
  split
  · exact h1
  · rw [hw]
    refine ⟨⟨by have := h.low; show 0 ≤ p.last + 1; omega, by have := h.high; show p.last + 1 ≤ ((k + 1 : Nat) : Int); omega, fun x hx => ?_, ?_⟩, fun x hx => ?_⟩
    · show x.id ≤ p.last + 1
      rcases List.mem_append.1 hx with hx | hx
      · have h3 : x.id ≤ p.last := h1.inv.ids x hx
        omega
      · obtain rfl := List.mem_singleton.1 hx
        exact Int.le_refl _
    · rw [List.pairwise_append]
      refine ⟨h1.inv.up, List.pairwise_singleton _ _, fun x hx y hy => ?_⟩
      obtain rfl := List.mem_singleton.1 hy
      have h3 : x.id ≤ p.last := h1.inv.ids x hx
      show x.id < p.last + 1
      omega
    · rcases List.mem_append.1 hx with hx | hx
      · exact h1.old x hx
      · obtain rfl := List.mem_singleton.1 hx
        exact .inr (by show p.last < p.last + 1; omega)
theorem IStep.do (h : IInv k p) (hk : k ≤ 1000) (mo idl m : Int) (t : Act6) : IStep k p (doP mo idl m t p) := by
  have h0 : IStep k p p := IStep.same h p.row
  have hon : ∀ (f : Hd → Hd) (id : Int), (∀ x, Eased x (f x)) → IStep k p (sweepP (onH id f p)) := fun f id hf => IStep.eased h (Each2.modify Eased.refl hf _ _) Hd.live
  have hon2 : ∀ (f : Hd → Hd) (id : Int), (∀ x, Eased x (f x)) → IStep k p (onH id f p) := fun f id hf => IStep.each h (Each2.modify Eased.refl hf _ _)
  unfold doP
  split
  · unfold acqP
    split
    · exact h0
    split
    · exact h0
    split
    · exact h0
    split
    · split
      · exact IStep.give h hk _ _ _ _
      · exact (IStep.give h hk _ _ _ _).row _
    · exact h0.row _
  split
  · unfold serveP
    split
    · exact h0
    · split
      · exact (IStep.give h hk _ _ _ _).row _
      · exact IStep.give h hk _ _ _ _
  split
  · exact h0.row _
  split
  · unfold sendP
    split
    · exact h0
    · exact hon2 _ _ (eased_send _)
  split
  · unfold replyP
    split
    · exact h0
    · exact hon _ _ (eased_reply _)
  split
  · unfold soilP
    split
    · exact h0
    · exact hon2 _ _ eased_soil
  split
  · unfold releaseP
    split
    · exact h0
    split
    · exact hon _ _ (eased_release _)
    · exact h0
  split
  · unfold breakP
    split
    · exact h0
    · exact hon _ _ eased_break
  split
  · exact IStep.eased h (Each2.map (eased_drain1 _) _) Hd.live
  split
  · exact IStep.eased h (Each2.map (eased_reap1 _ _) _) Hd.live
  · exact h0
end
end

/- sync/atomic's numbers and marks, one goroutine: contracts. -/
section
open Go.RowKit
set_option maxRecDepth 100000

/-- sync/atomic.SwapT: what the cell held is handed back, the number is stored -/
theorem run_call_swap {P : Program} {f : FuncId} {fn : Func} (hf : P.funcs[f]? = some fn) (hname : (fn.name == "runtime.NumGoroutine") = false) (hb : fn.body.isNone = true) (hn : Extern.findNext fn = none) (k : IntKind)
    (he : Extern.find fn = some (Extern.Atomic.swapT (.int k))) {a : Addr} {x y : Int} {w : World} (hc : w.cell? a = some (.int k x)) (hz : w.frozen? a = false) :
    (callFunc f #[.pointer (some a), .int k y]).run P w = .ok (.value (.int k x)) (w.setCell a (.int k y)) := by
  rw [run_callFunc_extern hf hname hb hn he]
  change (Sem.run P (do
    let b ← asAddr (.pointer (some a))
    let o ← Extern.Atomic.read (.int k) b
    store b (.int k y) .atomic
    pure o) w).andThen _ = _
  simp [Extern.Atomic.read, asAddr, hc, hz, run_store P w a (.int k y) .atomic rfl, Result.andThen]
theorem iLoad_ok (a : Addr) (v : Int) (w : World) (h : w.cell? a = some (.int .i64 v)) : Calls Try.prog 79 #[.pointer (some a)] w fun e w' => e = .returned (.int .i64 v) ∧ w = w' := by
  have hl := run_call_load (P := Try.prog) Try.func91 (by kernel_rfl) (by kernel_rfl) (by kernel_rfl) .i64 (by kernel_rfl) h
  go_enter Try.func79, Try.ntmps79
  go_wp2
  go_ret
  exact ⟨rfl, rfl⟩
theorem uLoad_ok (a : Addr) (v : Int) (w : World) (h : w.cell? a = some (.int .u64 v)) : Calls Try.prog 59 #[.pointer (some a)] w fun e w' => e = .returned (.int .u64 v) ∧ w = w' := by
  have hl := run_call_load (P := Try.prog) Try.func82 (by kernel_rfl) (by kernel_rfl) (by kernel_rfl) .u64 (by kernel_rfl) h
  go_enter Try.func59, Try.ntmps59
  go_wp2
  go_ret
  exact ⟨rfl, rfl⟩
theorem bLoad_ok (a : Addr) (b : Bool) (w : World) (h : w.cell? a = some (.int .u32 (bit b))) : Calls Try.prog 80 #[.pointer (some a)] w fun e w' => e = .returned (.bool b) ∧ w = w' := by
  have hl := run_call_load (P := Try.prog) Try.func92 (by kernel_rfl) (by kernel_rfl) (by kernel_rfl) .u32 (by kernel_rfl) h
  go_enter Try.func80, Try.ntmps80
  cases b
  · go_wp2
    go_ret
    exact ⟨rfl, rfl⟩
  · go_wp2
    go_ret
    exact ⟨rfl, rfl⟩
theorem iAdd_ok (a : Addr) (v x : Int) (w : World) (h : w.cell? a = some (.int .i64 v)) (hz : w.frozen? a = false) : Calls Try.prog 72 #[.pointer (some a), .int .i64 x] w fun e w' => e = .returned (.int .i64 (IntKind.i64.wrap (v + x))) ∧ w' = w.setCell a (.int .i64 (IntKind.i64.wrap (v + x))) := by
  obtain ⟨t, ht⟩ : ∃ t, IntKind.i64.wrap (v + x) = t := ⟨_, rfl⟩
  have hs : (Op.intArith .add .i64 v x).run Try.prog w = .ok (.int .i64 t) w := by
    rw [← ht]
    simp [go_sem]
  have hadd := run_call_add (P := Try.prog) Try.func89 (by kernel_rfl) (by kernel_rfl) (by kernel_rfl) .i64 (by kernel_rfl) (y := x) (s := t) h hz hs
  rw [ht]
  clear hs ht
  go_enter Try.func72, Try.ntmps72
  go_wp2
  go_ret
  exact ⟨rfl, rfl⟩
theorem iStore_ok (a : Addr) (v : Value) (x : Int) (w : World) (h : w.cell? a = some v) (hz : w.frozen? a = false) : Calls Try.prog 61 #[.pointer (some a), .int .i64 x] w fun e w' => e = .returned (.tuple #[]) ∧ w' = w.setCell a (.int .i64 x) := by
  have hst := run_call_store (P := Try.prog) Try.func85 (by kernel_rfl) (by kernel_rfl) (by kernel_rfl) (by kernel_rfl) (k := .i64) (y := x) h hz
  go_enter Try.func61, Try.ntmps61
  go_wp2
  go_end0
  exact ⟨rfl, rfl⟩
theorem bStore_ok (a : Addr) (v : Value) (w : World) (h : w.cell? a = some v) (hz : w.frozen? a = false) : Calls Try.prog 60 #[.pointer (some a), .bool true] w fun e w' => e = .returned (.tuple #[]) ∧ w' = w.drew.setCell a (.int .u32 (bit true)) := by
  have hc' : w.drew.cell? a = some v := by go_simp
  have hz' : w.drew.frozen? a = false := by go_simp
  have hst := run_call_store (P := Try.prog) Try.func83 (by kernel_rfl) (by kernel_rfl) (by kernel_rfl) (by kernel_rfl) (k := .u32) (y := 1) hc' hz'
  go_enter Try.func60, Try.ntmps60
  go_wp2
  go_region_calls
  all_goals (go_end0; exact ⟨rfl, rfl⟩)
theorem iSwap_hit (a : Addr) (v x : Int) (w : World) (h : w.cell? a = some (.int .i64 v)) (hz : w.frozen? a = false) : Calls Try.prog 87 #[.pointer (some a), .int .i64 v, .int .i64 x] w fun e w' => e = .returned (.bool true) ∧ w' = w.setCell a (.int .i64 x) := by
  have hcas := run_call_cas_hit (P := Try.prog) Try.func93 (by kernel_rfl) (by kernel_rfl) (by kernel_rfl) .i64 (by kernel_rfl) (y := x) h hz
  go_enter Try.func87, Try.ntmps87
  go_wp2
  go_ret
  exact ⟨rfl, rfl⟩
theorem iSwap_miss (a : Addr) (v o x : Int) (w : World) (h : w.cell? a = some (.int .i64 v)) (hz : w.frozen? a = false) (hne : ¬ v = o) : Calls Try.prog 87 #[.pointer (some a), .int .i64 o, .int .i64 x] w fun e w' => e = .returned (.bool false) ∧ w = w' := by
  have hcas := run_call_cas_miss (P := Try.prog) Try.func93 (by kernel_rfl) (by kernel_rfl) (by kernel_rfl) .i64 (by kernel_rfl) (y := x) h hz hne
  go_enter Try.func87, Try.ntmps87
  go_wp2
  go_ret
  exact ⟨rfl, rfl⟩
theorem uSwap_hit (a : Addr) (v x : Int) (w : World) (h : w.cell? a = some (.int .u64 v)) (hz : w.frozen? a = false) : Calls Try.prog 65 #[.pointer (some a), .int .u64 v, .int .u64 x] w fun e w' => e = .returned (.bool true) ∧ w' = w.setCell a (.int .u64 x) := by
  have hcas := run_call_cas_hit (P := Try.prog) Try.func86 (by kernel_rfl) (by kernel_rfl) (by kernel_rfl) .u64 (by kernel_rfl) (y := x) h hz
  go_enter Try.func65, Try.ntmps65
  go_wp2
  go_ret
  exact ⟨rfl, rfl⟩
theorem uSwap_miss (a : Addr) (v o x : Int) (w : World) (h : w.cell? a = some (.int .u64 v)) (hz : w.frozen? a = false) (hne : ¬ v = o) : Calls Try.prog 65 #[.pointer (some a), .int .u64 o, .int .u64 x] w fun e w' => e = .returned (.bool false) ∧ w = w' := by
  have hcas := run_call_cas_miss (P := Try.prog) Try.func86 (by kernel_rfl) (by kernel_rfl) (by kernel_rfl) .u64 (by kernel_rfl) (y := x) h hz hne
  go_enter Try.func65, Try.ntmps65
  go_wp2
  go_ret
  exact ⟨rfl, rfl⟩
theorem uChange_ok (a : Addr) (v x : Int) (w : World) (h : w.cell? a = some (.int .u64 v)) (hz : w.frozen? a = false) : Calls Try.prog 78 #[.pointer (some a), .int .u64 x] w fun e w' => e = .returned (.int .u64 v) ∧ w' = w.setCell a (.int .u64 x) := by
  have hsw := run_call_swap (P := Try.prog) Try.func90 (by kernel_rfl) (by kernel_rfl) (by kernel_rfl) .u64 (by kernel_rfl) (y := x) h hz
  go_enter Try.func78, Try.ntmps78
  go_wp2
  go_ret
  exact ⟨rfl, rfl⟩
end
end Go.Proofs.Ytkbaljdpnopbmaa
