/-
  Words for lists of bytes and what memory holds of them; no function of the program is named here.
-/
import Derived.Test.YtpmkaceeomnijaaRows
import Derived.WalkKit
import Derived.WalkSpells
import Derived.Lib.Hide
import Derived.Lib.AppendStr
import Derived.Lib.BufferRead
import Derived.Lib.ConvBytes
import Derived.Laws.IdiomStrings
import Derived.Laws.CopyOwn
import Derived.Deep.Draws
namespace Go.Proofs.Ytpmkaceeomnijaa
open Go.RowKit

/-- a byte as a cell -/
def bv (b : UInt8) : Value := .int .u8 (b.toNat : Int)
def bvs (l : List UInt8) : List Value := l.map bv

theorem bvs_length (l : List UInt8) : (bvs l).length = l.length := by simp [bvs]
theorem bvs_append (l r : List UInt8) : bvs (l ++ r) = bvs l ++ bvs r := by simp [bvs]
theorem bvs_drop (l : List UInt8) (k : Nat) : (bvs l).drop k = bvs (l.drop k) := by simp [bvs, List.map_drop]
theorem bvs_take (l : List UInt8) (k : Nat) : (bvs l).take k = bvs (l.take k) := by simp [bvs, List.map_take]
theorem bvs_one (l : List UInt8) : ∀ u ∈ bvs l, u.oneCell' = true := by
  intro u hu
  obtain ⟨b, _, rfl⟩ := List.mem_map.1 hu
  rfl
theorem bvs_get (l : List UInt8) (k : Nat) (h : k < l.length) : (bvs l)[k]? = some (bv l[k]) := by simp [bvs, h]
theorem bv_inj {a b : UInt8} (e : bv a = bv b) : a = b := by
  simp only [bv, Value.int.injEq, true_and] at e
  exact UInt8.toNat_inj.1 (by omega)
theorem bvs_inj : ∀ {l r : List UInt8}, bvs l = bvs r → l = r
  | [], [], _ => rfl
  | [], _ :: _, h => by simp [bvs] at h
  | _ :: _, [], h => by simp [bvs] at h
  | a :: l, b :: r, h => by
    simp only [bvs, List.map_cons, List.cons.injEq] at h
    rw [bv_inj h.1, bvs_inj (l := l) (r := r) h.2]

/-- what a slice's address reads: nothing is asked of an empty one -/
def Rd (w : World) (B : Nat) (A : Option Addr) (xs : List Value) : Prop :=
  xs = [] ∨ ∃ ad, A = some ad ∧ ad.block < B ∧ ∀ j u, xs[j]? = some u → w.cell? (ad.add j) = some u

theorem add_block (a : Addr) (n : Nat) : (a.add n).block = a.block := by unfold Addr.add; split <;> rfl
theorem add_add (a : Addr) (i j : Nat) : (a.add i).add j = a.add (i + j) := by
  unfold Addr.add
  by_cases hi : i = 0 <;> by_cases hj : j = 0 <;> simp [hi, hj, Nat.add_assoc]

section
variable {w w' : World} {B : Nat} {A : Option Addr} {xs : List Value}
theorem Rd.nil (w : World) (B : Nat) (A : Option Addr) : Rd w B A [] := .inl rfl
theorem Rd.keep (h : Rd w B A xs) (hk : ∀ p : Addr, p.block < B → w'.cell? p = w.cell? p) : Rd w' B A xs := by
  rcases h with h | ⟨ad, e, hb, hc⟩
  · exact .inl h
  · exact .inr ⟨ad, e, hb, fun j u hu => (hk _ (by rw [add_block]; exact hb)).trans (hc j u hu)⟩
theorem Rd.more {B' : Nat} (h : Rd w B A xs) (hB : B ≤ B') : Rd w B' A xs := by
  rcases h with h | ⟨ad, e, hb, hc⟩
  · exact .inl h
  · exact .inr ⟨ad, e, by omega, hc⟩
theorem Rd.below {B' : Nat} (h : Rd w B A xs) (hb : Below B' w w') (hB : B ≤ B') : Rd w' B A xs := h.keep fun _ hp => hb.cell (by omega)
theorem Rd.at_ (h : Rd w B A xs) {k : Nat} (hk : k < xs.length) : ∃ ad, A = some ad ∧ ad.block < B ∧ w.cell? (ad.add k) = some xs[k] := by
  rcases h with rfl | ⟨ad, e, hb, hc⟩
  · simp at hk
  · exact ⟨ad, e, hb, hc k _ (List.getElem?_eq_getElem hk)⟩
theorem Rd.addr (h : Rd w B A xs) (hk : 0 < xs.length) : ∃ ad, A = some ad ∧ ad.block < B ∧ ∀ j u, xs[j]? = some u → w.cell? (ad.add j) = some u := by
  rcases h with rfl | h
  · simp at hk
  · exact h
/-- a cut off the front: the address as the model spells it -/
theorem Rd.cut {k cap : Nat} (h : Rd w B A xs) (hc : xs.length ≤ cap) : Rd w B (if cap = k then A else A.map (·.add k)) (xs.drop k) := by
  rcases Nat.lt_or_ge k xs.length with hlt | hge
  · obtain ⟨ad, rfl, hb, hcell⟩ := h.addr (by omega)
    rw [if_neg (by omega)]
    refine .inr ⟨ad.add k, rfl, by rw [add_block]; exact hb, fun j u hu => ?_⟩
    rw [add_add]
    exact hcell _ u (by rw [← hu, List.getElem?_drop])
  · rw [List.drop_eq_nil_of_le hge]
    exact .inl rfl
theorem Rd.front (h : Rd w B A xs) (k : Nat) : Rd w B A (xs.take k) := by
  rcases h with rfl | ⟨ad, e, hb, hc⟩
  · exact .inl (by simp)
  · refine .inr ⟨ad, e, hb, fun j u hu => hc j u ?_⟩
    rw [List.getElem?_take] at hu
    split at hu
    · exact hu
    · cases hu
theorem Rd.of_own {base n c : Nat} {e : TypeId} (h : w.ownsRow base e 1 (.slice A n c) n xs) : Rd w w.heap.size A xs := by
  rcases h.2 with ⟨_, hn⟩ | ⟨g, cap, cur, hv, _, hg, _⟩
  · exact .inl (List.eq_nil_of_length_eq_zero (by have := h.1; omega))
  · have hA : A = some ⟨g, 0, none⟩ := by injection hv
    subst hA
    exact .inr ⟨_, rfl, (Array.getElem?_eq_some_iff.1 hg).1, h.cells (g := g) rfl⟩
end

theorem own_len {w : World} {base e n : Nat} {v : Value} {xs : List Value} (h : w.ownsRow base e 1 v n xs) : n = xs.length := by have := h.1; omega

/-- a row that a call owns is a slice, at its head or nil -/
theorem own_form {w : World} {base n : Nat} {e : TypeId} {v : Value} {xs : List Value} (h : w.ownsRow base e 1 v n xs) : ∃ A c, v = .slice A n c ∧ n ≤ c ∧ c ≤ maxLen := by
  rcases h.2 with ⟨rfl, rfl⟩ | ⟨g, cap, cur, rfl, _, _, h1, h2, _⟩
  · exact ⟨_, _, rfl, Nat.le_refl _, by simp [maxLen]⟩
  · exact ⟨_, _, rfl, h1, h2⟩

/-- a row that was owned stays so, below what a later call turned -/
theorem own_below {w w' : World} {base n B : Nat} {e : TypeId} {v : Value} {xs : List Value} (h : w.ownsRow base e 1 v n xs) (hb : Below B w w') (hB : w.heap.size ≤ B) : w'.ownsRow base e 1 v n xs := by
  refine ⟨h.1, ?_⟩
  rcases h.2 with h2 | ⟨g, cap, cur, hv, hg, hh, r⟩
  · exact .inl h2
  · have hlt := (Array.getElem?_eq_some_iff.1 hh).1
    exact .inr ⟨g, cap, cur, hv, hg, (hb.block g (by omega)).trans hh, r⟩
theorem own_base {w : World} {base base' n : Nat} {e : TypeId} {v : Value} {xs : List Value} (h : w.ownsRow base e 1 v n xs) (hB : base' ≤ base) : w.ownsRow base' e 1 v n xs := by
  refine ⟨h.1, ?_⟩
  rcases h.2 with h2 | ⟨g, cap, cur, hv, hg, r⟩
  · exact .inl h2
  · exact .inr ⟨g, cap, cur, hv, by omega, r⟩
/-- a frame behind an append onto a row of the call's own -/
theorem below_own {w w' : World} {base n : Nat} {e : TypeId} {v : Value} {xs : List Value} (h : w.ownsRow base e 1 v n xs) (hg : w.grownBy w' v.ownBlock) (hb : base ≤ w.heap.size) : Below base w w' :=
  (Below.refl _ _).grown hg hb (fun k hk => (h.lt k hk).1)

theorem below_drewN {B : Nat} {a w : World} (h : Below B a w) (n : Nat) : Below B a (w.drewN n) := ⟨h.os, h.tape, h.output, h.size, h.block⟩

/-- a slice of bytes, as an argument and as an answer: what it reads, how long it is -/
structure Sl (w : World) (B : Nat) (A : Option Addr) (l c : Nat) (bs : List UInt8) : Prop where
  rd : Rd w B A (bvs bs)
  len : bs.length = l
  cap : l ≤ c
theorem Sl.below {w w' : World} {B B' : Nat} {A : Option Addr} {l c : Nat} {bs : List UInt8} (h : Sl w B A l c bs) (hb : Below B' w w') (hB : B ≤ B') : Sl w' B A l c bs := ⟨h.rd.below hb hB, h.len, h.cap⟩
theorem Sl.more {w : World} {B B' : Nat} {A : Option Addr} {l c : Nat} {bs : List UInt8} (h : Sl w B A l c bs) (hB : B ≤ B') : Sl w B' A l c bs := ⟨h.rd.more hB, h.len, h.cap⟩
/-- what was read stays read, behind a call that leaves what was there -/
theorem Sl.next {w w' : World} {A : Option Addr} {l c : Nat} {bs : List UInt8} (h : Sl w w.heap.size A l c bs) (hb : Below w.heap.size w w') : Sl w' w'.heap.size A l c bs := (h.below hb (Nat.le_refl _)).more hb.size
theorem Sl.nil (w : World) (B : Nat) : Sl w B none 0 0 [] := ⟨.inl rfl, rfl, Nat.le_refl _⟩

/-- a row of bytes that the call made, with room that nobody else has -/
structure Ow (w : World) (base : Nat) (A : Option Addr) (l c : Nat) (bs : List UInt8) : Prop where
  own : w.ownsRow base 5 1 (.slice A l c) l (bvs bs)
  len : bs.length = l
  cap : l ≤ c
  most : c ≤ 9223372036854775807
theorem Ow.mk' {w : World} {base : Nat} {v : Value} {l : Nat} {bs : List UInt8} (h : w.ownsRow base 5 1 v l (bvs bs)) : ∃ A c, v = .slice A l c ∧ Ow w base A l c bs := by
  obtain ⟨A, c, rfl, h1, h2⟩ := own_form h
  have := h.1
  rw [bvs_length] at this
  exact ⟨A, c, rfl, h, by omega, h1, by unfold maxLen at h2; omega⟩
theorem Ow.sl {w : World} {base : Nat} {A : Option Addr} {l c : Nat} {bs : List UInt8} (h : Ow w base A l c bs) : Sl w w.heap.size A l c bs := ⟨Rd.of_own h.own, h.len, h.cap⟩
theorem Ow.next {w w' : World} {base : Nat} {A : Option Addr} {l c : Nat} {bs : List UInt8} (h : Ow w base A l c bs) (hb : Below w.heap.size w w') : Ow w' base A l c bs := ⟨own_below h.own hb (Nat.le_refl _), h.len, h.cap, h.most⟩
theorem Ow.base {w : World} {base base' : Nat} {A : Option Addr} {l c : Nat} {bs : List UInt8} (h : Ow w base A l c bs) (hb : base' ≤ base) : Ow w base' A l c bs := ⟨own_base h.own hb, h.len, h.cap, h.most⟩
theorem Ow.nil (w : World) (base : Nat) : Ow w base none 0 0 [] := ⟨World.ownsRow_nil _ _ _ _, rfl, Nat.le_refl _, by omega⟩

/-- a new block is read -/
theorem Rd.new (w : World) (t : TypeId) (xs : List Value) : Rd (w.alloc (.cells xs.toArray t)) (w.heap.size + 1) (some ⟨w.heap.size, 0, none⟩) xs := by
  refine .inr ⟨_, rfl, by simp, fun j u hu => ?_⟩
  have hadd : (⟨w.heap.size, 0, none⟩ : Addr).add j = ⟨w.heap.size, j, none⟩ := by unfold Addr.add; split <;> simp_all
  rw [hadd, cell_of_row _ _ j xs.toArray t (0, 0) (heap_alloc_new w _)]
  simpa using hu

theorem Ow.new (w : World) (base : Nat) (hb : base ≤ w.heap.size) (bs : List UInt8) (hl : bs.length ≤ 1000000) : Ow (w.alloc (.cells (bvs bs).toArray 5)) base (some ⟨w.heap.size, 0, none⟩) bs.length bs.length bs :=
  ⟨⟨by rw [bvs_length]; omega, .inr ⟨w.heap.size, bs.length, _, rfl, hb, heap_alloc_new w _, Nat.le_refl _, by unfold maxLen; omega, by simp [bvs], List.take_of_length_le (by simp [bvs])⟩⟩, rfl, Nat.le_refl _, by omega⟩

theorem Ow.new1 (w : World) (base : Nat) (hb : base ≤ w.heap.size) (x : Value) (b : UInt8) (hx : x = bv b) : Ow (w.alloc (.cells #[x] 5)) base (some ⟨w.heap.size, 0, none⟩) 1 1 [b] := by
  subst hx
  exact Ow.new w base hb [b] (by simp)

theorem Sl.new (w : World) (t : TypeId) (bs : List UInt8) : Sl (w.alloc (.cells (bvs bs).toArray t)) (w.alloc (.cells (bvs bs).toArray t)).heap.size (some ⟨w.heap.size, 0, none⟩) bs.length bs.length bs :=
  ⟨by have := Rd.new w t (bvs bs); simpa using this, rfl, Nat.le_refl _⟩
/-- what stands behind two calls, one after the other -/
theorem kp_trans {a b c : World} (h : Below a.heap.size a b) (k : Below b.heap.size b c) : Below a.heap.size a c := h.trans (k.mono h.size)
theorem kp_alloc {a b : World} (h : Below a.heap.size a b) (o : Obj) : Below a.heap.size a (b.alloc o) := h.alloc h.size o
theorem kp_new (a : World) (o : Obj) : Below a.heap.size a (a.alloc o) := kp_alloc (Below.refl _ _) o
theorem kp_drewN (a : World) (n : Nat) : Below a.heap.size a (a.drewN n) := below_drewN (Below.refl _ _) n
theorem kp_own {w w' : World} {B base : Nat} {A : Option Addr} {l c : Nat} {bs : List UInt8} (h : Ow w base A l c bs) (hg : w.grownBy w' (Value.slice A l c).ownBlock) (hb : B ≤ base) (hw : base ≤ w.heap.size) : Below B w w' :=
  (below_own h.own hg hw).mono hb

/-- bytes as a text -/
theorem run_text {P : Program} {w : World} {B : Nat} {A : Option Addr} {l c : Nat} {bs : List UInt8} (h : Sl w B A l c bs) (src dst e : TypeId) (hs : P.underlying src = some (.slice e)) (he : P.underlying e = some (.int .u8)) (hd : P.underlying dst = some .string) :
    (convert src dst (.slice A l c)).run P w = .ok (.string ⟨bs.toArray⟩) w := by
  obtain ⟨hr, hl, _⟩ := h
  subst hl
  cases A with
  | none =>
    have hn : bs = [] := by
      rcases hr with h | ⟨_, h, _⟩
      · have := congrArg List.length h; rw [bvs_length] at this; exact List.eq_nil_of_length_eq_zero this
      · cases h
    subst hn
    exact Lib.run_convert_nil_bytes w src dst e c hs he hd
  | some ad =>
    refine run_convert_bytes_back w src dst e ad c bs hs he hd fun j hj => ?_
    rcases hr with h | ⟨ad', h, _, hc⟩
    · have := congrArg List.length h; rw [bvs_length] at this; simp at this; subst this; simp at hj
    · injection h with h; subst h
      exact hc j _ (bvs_get bs j hj)

/-- what a row of the call's own says of its address -/
def Fresh (n : Nat) (A : Option Addr) : Prop := ∀ ad, A = some ad → n ≤ ad.block
theorem Fresh.none (n : Nat) : Fresh n none := fun _ h => by cases h
theorem Fresh.less {n m : Nat} {A : Option Addr} (h : Fresh n A) (hm : m ≤ n) : Fresh m A := fun ad e => Nat.le_trans hm (h ad e)
theorem own_fresh {w : World} {base n c s : Nat} {A : Option Addr} {e : TypeId} {xs : List Value} (h : w.ownsRow base e s (.slice A n c) n xs) : Fresh base A := by
  intro ad hA
  rcases h.2 with ⟨h1, _⟩ | ⟨g, cap, cur, h1, h2, _⟩
  · injection h1 with h1; rw [h1] at hA; cases hA
  · injection h1 with h1; rw [h1] at hA; injection hA with hA; subst hA; exact h2
/-- what is read in another block stays read -/
theorem Rd.grown {w w' : World} {B : Nat} {A : Option Addr} {xs : List Value} {k : Option Nat} (h : Rd w B A xs) (hB : B ≤ w.heap.size) (hg : w.grownBy w' k) (hn : ∀ ad, A = some ad → some ad.block ≠ k) : Rd w' B A xs := by
  rcases h with h | ⟨ad, e, hb, hc⟩
  · exact .inl h
  · exact .inr ⟨ad, e, hb, fun j u hu => (World.cell?_of_block (hg.block _ (by rw [add_block]; omega) (by rw [add_block]; exact hn ad e))).trans (hc j u hu)⟩
theorem Sl.grown {w w' : World} {B : Nat} {A : Option Addr} {l c : Nat} {bs : List UInt8} {k : Option Nat} (h : Sl w B A l c bs) (hB : B ≤ w.heap.size) (hg : w.grownBy w' k) (hn : ∀ ad, A = some ad → some ad.block ≠ k) : Sl w' B A l c bs := ⟨h.rd.grown hB hg hn, h.len, h.cap⟩
theorem Rd.setCell {w : World} {B : Nat} {A : Option Addr} {xs : List Value} (h : Rd w B A xs) (p : Addr) (u : Value) (hn : ∀ ad, A = some ad → ad.block ≠ p.block) : Rd (w.setCell p u) B A xs := by
  rcases h with h | ⟨ad, e, hb, hc⟩
  · exact .inl h
  · refine .inr ⟨ad, e, hb, fun j v hv => ?_⟩
    rw [World.cell?_of_block (Below.heap_setCell _ _ _ _ (by rw [add_block]; exact hn ad e))]
    exact hc j v hv
theorem Sl.setCell {w : World} {B : Nat} {A : Option Addr} {l c : Nat} {bs : List UInt8} (h : Sl w B A l c bs) (p : Addr) (u : Value) (hn : ∀ ad, A = some ad → ad.block ≠ p.block) : Sl (w.setCell p u) B A l c bs := ⟨h.rd.setCell p u hn, h.len, h.cap⟩
theorem Sl.drew {w : World} {B : Nat} {A : Option Addr} {l c : Nat} {bs : List UInt8} (h : Sl w B A l c bs) : Sl w.drew B A l c bs := ⟨h.rd, h.len, h.cap⟩
/-- a slice of a slice, its address as the model spells it -/
theorem Sl.sub {w : World} {B : Nat} {A : Option Addr} {l c : Nat} {bs : List UInt8} (h : Sl w B A l c bs) {i j : Nat} (hi : i ≤ j) (hj : j ≤ l) :
    Sl w B (if c = i then A else A.map (·.add i)) (j - i) (c - i) ((bs.take j).drop i) := by
  have hl := h.len
  have hc := h.cap
  have h1 := (h.rd.front j).cut (k := i) (cap := c) (by rw [List.length_take, bvs_length]; omega)
  rw [bvs_take, bvs_drop] at h1
  exact ⟨h1, by rw [List.length_drop, List.length_take]; omega, by omega⟩

/-- cuts of a slice of bytes: the cut's address under one name, its run in every world -/
theorem Sl.cut2 {w : World} {B : Nat} {A : Option Addr} {l c : Nat} {bs : List UInt8} (h : Sl w B A l c bs) (P : Program) (t : TypeId) (ht : P.underlying t = some (.slice (P.elem t))) (hz : (P.info? (P.elem t)).map (·.size) = some 1)
    {i j : Nat} (x y : Int) (hx : x = i) (hy : y = j) (hi : i ≤ j) (hj : j ≤ l) :
    ∃ A', (∀ u, (Instr.slice t (.slice A l c) (some (.int .i64 x)) (some (.int .i64 y)) none).run P u = .ok (.slice A' (j - i) (c - i)) u) ∧ Sl w B A' (j - i) (c - i) ((bs.take j).drop i) := by
  have hc := h.cap
  obtain ⟨ti, hti, hsz⟩ := Option.map_eq_some_iff.1 hz
  refine ⟨_, fun u => ?_, h.sub hi hj⟩
  subst hx hy
  rw [run_slice_lh u t A l c ht .i64 .i64 i j (by omega) (by omega) (by omega)]
  simp [sizeOf, typeInfo, hti, hsz, sliced, Result.andThen]
theorem Sl.cut1 {w : World} {B : Nat} {A : Option Addr} {l c : Nat} {bs : List UInt8} (h : Sl w B A l c bs) (P : Program) (t : TypeId) (ht : P.underlying t = some (.slice (P.elem t))) (hz : (P.info? (P.elem t)).map (·.size) = some 1)
    {i : Nat} (x : Int) (hx : x = i) (hi : i ≤ l) :
    ∃ A', (∀ u, (Instr.slice t (.slice A l c) (some (.int .i64 x)) none none).run P u = .ok (.slice A' (l - i) (c - i)) u) ∧ Sl w B A' (l - i) (c - i) (bs.drop i) := by
  have hc := h.cap
  have hl := h.len
  obtain ⟨ti, hti, hsz⟩ := Option.map_eq_some_iff.1 hz
  have hs := h.sub hi (Nat.le_refl l)
  rw [List.take_of_length_le (by omega)] at hs
  refine ⟨_, fun u => ?_, hs⟩
  subst hx
  rw [run_slice_l u t A l c ht .i64 i (by omega) (by omega)]
  simp [sizeOf, typeInfo, hti, hsz, sliced, Result.andThen]
theorem Sl.cut0 {w : World} {B : Nat} {A : Option Addr} {l c : Nat} {bs : List UInt8} (h : Sl w B A l c bs) (P : Program) (t : TypeId) (ht : P.underlying t = some (.slice (P.elem t))) (hz : (P.info? (P.elem t)).map (·.size) = some 1)
    {j : Nat} (y : Int) (hy : y = j) (hj : j ≤ l) :
    ∃ A', (∀ u, (Instr.slice t (.slice A l c) none (some (.int .i64 y)) none).run P u = .ok (.slice A' j c) u) ∧ Sl w B A' j c (bs.take j) := by
  have hc := h.cap
  obtain ⟨ti, hti, hsz⟩ := Option.map_eq_some_iff.1 hz
  have hs := h.sub (Nat.zero_le j) hj
  simp only [Nat.sub_zero, List.drop_zero] at hs
  refine ⟨_, fun u => ?_, hs⟩
  subst hy
  rw [run_slice_h u t A l c ht .i64 j (by omega) (by omega)]
  simp [sizeOf, typeInfo, hti, hsz, sliced, Result.andThen]

section
variable {P : Program} {w : World}
/-- append where the source has no address: nothing is laid -/
theorem run_append_nothing (base : Nat) (t ty e : TypeId) (i : TypeInfo) (ht : P.underlying t = some (.slice e)) (hi : P.info? e = some i)
    (v : Value) (n c : Nat) (xs : List Value) (hown : w.ownsRow base e 1 v n xs) : (Builtin.append_ #[t, t] ty #[v, .slice none 0 c]).run P w = .ok v w := by
  rcases hown.2 with ⟨rfl, rfl⟩ | ⟨g, cap, cur, rfl, _, _, hnc, _⟩
  · simp [Builtin.append_, run_underlying ht, sizeOf, typeInfo, hi, Builtin.lenOf, Builtin.firstCells]
  · simp [Builtin.append_, run_underlying ht, sizeOf, typeInfo, hi, Builtin.lenOf, Builtin.firstCells, hnc, storeCells]

/-- append onto a row of the call's own, whatever the source: nil, empty or not -/
theorem run_append_rd (base : Nat) (t ty e : TypeId) (i : TypeInfo) (z : Value) (bytes : Nat) (ht : P.underlying t = some (.slice e)) (hi : P.info? e = some i) (hz : i.zero = some z)
    (hsize : i.size = 1) (hby : i.bytes = bytes) (hzs : z.cells.size = 1)
    (v : Value) (n : Nat) (xs : List Value) (hown : w.ownsRow base e 1 v n xs)
    (B : Nat) (A : Option Addr) (m c : Nat) (news : List Value) (hm : news.length = m) (hr : Rd w B A news) (h1 : ∀ u ∈ news, u.oneCell' = true)
    (h63 : n + m ≤ maxLen) (hbytes : (n + m) * bytes ≤ 140737488355328) (hbase : base ≤ w.heap.size) :
    ∃ v' w', (Builtin.append_ #[t, t] ty #[v, .slice A m c]).run P w = .ok v' w' ∧ w'.ownsRow base e 1 v' (n + m) (xs ++ news) ∧ w.grownBy w' v.ownBlock := by
  cases A with
  | none =>
    have hn : news = [] := by
      rcases hr with h | ⟨_, h, _⟩
      · exact h
      · cases h
    subst hn
    obtain rfl : m = 0 := by simpa using hm.symm
    exact ⟨v, w, run_append_nothing base t ty e i ht hi v n c xs hown, by simpa using hown, World.grownBy.refl w _⟩
  | some ad =>
    have hc : ∀ j u, news[j]? = some u → w.cell? (ad.add j) = some u := by
      intro j u hu
      rcases hr with h | ⟨ad', h, _, hc⟩
      · subst h; simp at hu
      · injection h with h; subst h; exact hc j u hu
    obtain ⟨v', w', hrun, h2, h3, _⟩ := run_append_own (P := P) w base t ty e i z 1 bytes ht hi hz hsize hby hzs (by decide) v n xs hown ad m c news (by omega) hc h1 h63 hbytes hbase
    exact ⟨v', w', hrun, h2, h3⟩

theorem wp_append_rd {o : Oper} {a : Act} {K : Act → World → Prop} {Q : Exit → Act → World → Prop} (s x : Operand) (t : TypeId)
    (ho : o.op = .call { callee := .builtin .append, args := #[s, x], argTypes := #[t, t] })
    (base : Nat) (e : TypeId) (i : TypeInfo) (z : Value) (bytes : Nat) (ht : P.underlying t = some (.slice e)) (hi : P.info? e = some i) (hz : i.zero = some z)
    (hsize : i.size = 1) (hby : i.bytes = bytes) (hzs : z.cells.size = 1)
    (v : Value) (n : Nat) (xs : List Value) (hs : a.eval s = v) (hown : w.ownsRow base e 1 v n xs)
    (B : Nat) (A : Option Addr) (m c : Nat) (news : List Value) (hx : a.eval x = .slice A m c) (hm : news.length = m) (hr : Rd w B A news) (h1 : ∀ u ∈ news, u.oneCell' = true)
    (h63 : n + m ≤ maxLen) (hbytes : (n + m) * bytes ≤ 140737488355328) (hbase : base ≤ w.heap.size)
    (h : ∀ v' w', w'.ownsRow base e 1 v' (n + m) (xs ++ news) → w.grownBy w' v.ownBlock → K (a.put o.dst v') w') : o.wp P a w K Q := by
  obtain ⟨v', w', hrun, h2, h3⟩ := run_append_rd (P := P) base t o.type e i z bytes ht hi hz hsize hby hzs v n xs hown B A m c news hm hr h1 h63 hbytes hbase
  unfold Oper.wp execOp
  simp only [ho, resolve, invoke, builtin, Sem.run_bind, Sem.run_pure, Result.andThen_ok, List.map_toArray, List.map_cons, List.map_nil, hs, hx, hrun]
  exact h v' w' h2 h3

theorem wpList_append_rd {ops : Array Oper} {rest : List Oper} {o : Oper} {a : Act} {Q : Exit → Act → World → Prop} (hw : Region.wanted o (yielded ops a.tmps) = true) (s x : Operand) (t : TypeId)
    (ho : o.op = .call { callee := .builtin .append, args := #[s, x], argTypes := #[t, t] })
    (base : Nat) (e : TypeId) (i : TypeInfo) (z : Value) (bytes : Nat) (ht : P.underlying t = some (.slice e)) (hi : P.info? e = some i) (hz : i.zero = some z)
    (hsize : i.size = 1) (hby : i.bytes = bytes) (hzs : z.cells.size = 1)
    (v : Value) (n : Nat) (xs : List Value) (hs : a.eval s = v) (hown : w.ownsRow base e 1 v n xs)
    (B : Nat) (A : Option Addr) (m c : Nat) (news : List Value) (hx : a.eval x = .slice A m c) (hm : news.length = m) (hr : Rd w B A news) (h1 : ∀ u ∈ news, u.oneCell' = true)
    (h63 : n + m ≤ maxLen) (hbytes : (n + m) * bytes ≤ 140737488355328) (hbase : base ≤ w.heap.size)
    (h : ∀ v' w', w'.ownsRow base e 1 v' (n + m) (xs ++ news) → w.grownBy w' v.ownBlock → wpList P ops Q rest (a.put o.dst v') w') : wpList P ops Q (o :: rest) a w :=
  wpList_step fun _ hK => by
    rw [if_pos hw]
    exact wp_append_rd s x t ho base e i z bytes ht hi hz hsize hby hzs v n xs hs hown B A m c news hx hm hr h1 h63 hbytes hbase fun v' w' h2 h3 => hK _ _ (h v' w' h2 h3)

theorem step_append_rd {ops : Array Oper} {o : Oper} {a : Act} {K : Act → World → Prop} {Q : Exit → Act → World → Prop} {E : Prop} (hw : Region.wanted o (yielded ops a.tmps) = true) (s x : Operand) (t : TypeId)
    (ho : o.op = .call { callee := .builtin .append, args := #[s, x], argTypes := #[t, t] })
    (base : Nat) (e : TypeId) (i : TypeInfo) (z : Value) (bytes : Nat) (ht : P.underlying t = some (.slice e)) (hi : P.info? e = some i) (hz : i.zero = some z)
    (hsize : i.size = 1) (hby : i.bytes = bytes) (hzs : z.cells.size = 1)
    (v : Value) (n : Nat) (xs : List Value) (hs : a.eval s = v) (hown : w.ownsRow base e 1 v n xs)
    (B : Nat) (A : Option Addr) (m c : Nat) (news : List Value) (hx : a.eval x = .slice A m c) (hm : news.length = m) (hr : Rd w B A news) (h1 : ∀ u ∈ news, u.oneCell' = true)
    (h63 : n + m ≤ maxLen) (hbytes : (n + m) * bytes ≤ 140737488355328) (hbase : base ≤ w.heap.size)
    (h : ∀ v' w', w'.ownsRow base e 1 v' (n + m) (xs ++ news) → w.grownBy w' v.ownBlock → K (a.put o.dst v') w') :
    if Region.wanted o (yielded ops a.tmps) = true then Oper.wp P o a w K Q else E := by
  rw [if_pos hw]
  exact wp_append_rd s x t ho base e i z bytes ht hi hz hsize hby hzs v n xs hs hown B A m c news hx hm hr h1 h63 hbytes hbase h

/-- a text as bytes -/
theorem run_bytes (w : World) (src dst e : TypeId) (s : ByteArray) (hs : P.underlying src = some .string) (hd : P.underlying dst = some (.slice e)) (he : P.underlying e = some (.int .u8)) :
    ∃ c w1, (convert src dst (.string s)).run P w = .ok (.slice (some ⟨w.heap.size, 0, none⟩) s.size c) w1 ∧ Sl w1 w1.heap.size (some ⟨w.heap.size, 0, none⟩) s.size c s.data.toList ∧ Below w.heap.size w w1 := by
  have hl : s.data.toList.length = s.size := by rw [Array.length_toList]; rfl
  refine ⟨_, _, Lib.run_convert_string_bytes w src dst e s hs hd he, ⟨.inr ⟨_, rfl, ?_, fun j u hu => ?_⟩, hl, grownCap_ge _ _ _ _⟩, ⟨?_, ?_, ?_, ?_, fun k hk => Lib.bytesWorld_at_old w e s k hk⟩⟩
  · rw [Lib.bytesWorld_size]; exact Nat.lt_succ_self _
  · have hj : j < s.size := by
      have := (List.getElem?_eq_some_iff.1 hu).1
      rw [bvs_length, hl] at this
      exact this
    have hadd : (⟨w.heap.size, 0, none⟩ : Addr).add j = ⟨w.heap.size, j, none⟩ := by unfold Addr.add; split <;> simp_all
    rw [hadd, Lib.bytesWorld_cell w e s j hj]
    rw [bvs_get _ j (by omega)] at hu
    rw [← hu, bv]
    simp [List.getD, List.getElem?_eq_getElem (show j < s.data.toList.length by omega)]
  · rfl
  · rfl
  · rfl
  · rw [Lib.bytesWorld_size]; omega
end
/-- a function whose one result lies in a block of its own -/
theorem results_cell1 {fn : Func} {p : Tmp} {ty : TypeId} (h : fn.results = #[.cell p ty]) (tmps : Array Value) (P : Program) (w : World) :
    (results fn tmps).run P w = ((asAddr (tmps.getD p undef)).run P w).andThen fun a w₁ => (loadVar ty a).run P w₁ := by
  simp only [results, h]
  simp [Sem.run_bind, Result.andThen]
end Go.Proofs.Ytpmkaceeomnijaa
