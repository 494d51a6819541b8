/-
  Rows of numbers and of truths, as they lie in memory (no function of the program is named here).
-/
import Derived.Test.YtpmkaceeomnijaaWide
import Derived.Test.YtpmkaceeomnijaaOff
import Derived.OneCell
namespace Go.Proofs.Ytpmkaceeomnijaa
open Go.RowKit
set_option maxRecDepth 100000

/-- numbers as cells -/
def ivs (l : List Int) : List Value := l.map (Value.int .i64)
theorem ivs_length (l : List Int) : (ivs l).length = l.length := by simp [ivs]
theorem ivs_append (a b : List Int) : ivs (a ++ b) = ivs a ++ ivs b := by simp [ivs]
theorem ivs_set (l : List Int) (i : Nat) (n : Int) : ivs (l.set i n) = (ivs l).set i (.int .i64 n) := by simp [ivs, List.map_set]
theorem ivs_one (l : List Int) : ∀ u ∈ ivs l, u.oneCell' = true := by
  intro u hu
  obtain ⟨b, _, rfl⟩ := List.mem_map.1 hu
  rfl
theorem cells2t {w : World} {b : Nat} {x y : Value} {t : TypeId} (h : w.heap[b]? = some (.cells #[x, y] t (0, 0))) :
    w.cell? ⟨b, 0, none⟩ = some x ∧ w.cell? ⟨b, 1, none⟩ = some y ∧ w.frozen? ⟨b, 0, none⟩ = false ∧ w.frozen? ⟨b, 1, none⟩ = false := by
  refine ⟨?_, ?_, ?_, ?_⟩
  · rw [cell_of_row _ _ 0 #[x, y] t (0, 0) h]; rfl
  · rw [cell_of_row _ _ 1 #[x, y] t (0, 0) h]; rfl
  · simp [World.frozen?, h]
  · simp [World.frozen?, h]
/-- a cell of a row of the call's own is written -/
theorem own_set {w : World} {base n c : Nat} {e : TypeId} {g : Nat} {xs : List Value} (h : w.ownsRow base e 1 (.slice (some ⟨g, 0, none⟩) n c) n xs) (i : Nat) (v : Value) : (w.setCell ⟨g, i, none⟩ v).ownsRow base e 1 (.slice (some ⟨g, 0, none⟩) n c) n (xs.set i v) := by
  refine ⟨by rw [List.length_set]; exact h.1, ?_⟩
  rcases h.2 with ⟨h1, _⟩ | ⟨g', cap, cur, h1, hb, hg, hc, hm, hs, ht⟩
  · cases h1
  · injection h1 with h1 h2 h3
    injection h1 with h1
    injection h1 with h1 h4 h5
    subst h1 h3
    refine .inr ⟨g, c, cur.set! i v, rfl, hb, heap_setCell_same w g i cur e v hg, hc, hm, by simpa using hs, ?_⟩
    rw [← ht]
    simp [Array.set!_eq_setIfInBounds, List.take_set]
theorem ivs_cell {w : World} {B : Option Addr} {m cb : Nat} {e : TypeId} {base : Nat} {cs : List Int} (h : w.ownsRow base e 1 (.slice B m cb) m (ivs cs)) {i : Nat} (hi : i < cs.length) : ∃ g, B = some ⟨g, 0, none⟩ ∧ w.cell? ⟨g, i, none⟩ = some (.int .i64 cs[i]) ∧ w.frozen? ⟨g, i, none⟩ = false ∧ g < w.heap.size ∧ ∃ cur, w.heap[g]? = some (.cells cur e (0, 0)) := by
  have hm := h.1
  rw [ivs_length] at hm
  have hh := h
  rcases h.2 with ⟨h1, h2⟩ | ⟨g, cap, cur, h1, _, hg, _⟩
  · omega
  · injection h1 with h1 _ _
    subst h1
    refine ⟨g, rfl, ?_, ?_, (Array.getElem?_eq_some_iff.1 hg).1, cur, hg⟩
    · have := hh.cells (g := g) rfl i (.int .i64 cs[i]) (by simp [ivs, hi])
      have ha : (⟨g, 0, none⟩ : Addr).add i = ⟨g, i, none⟩ := by unfold Addr.add; split <;> simp_all
      rw [ha] at this
      exact this
    · simp [World.frozen?, hg]

theorem own_type_ne {w : World} {base n size : Nat} {e t : TypeId} {v : Value} {xs : List Value} (h : w.ownsRow base e size v n xs) {b : Nat} {cs : Array Value} {fz : Nat × Nat} (hb : w.heap[b]? = some (.cells cs t fz)) (ht : t ≠ e) : v.ownBlock ≠ some b := by
  rcases h.2 with ⟨rfl, _⟩ | ⟨g, cap, cur, rfl, _, hg, _⟩
  · simp [Value.ownBlock]
  · simp only [Value.ownBlock, ne_eq, Option.some.injEq]
    rintro rfl
    rw [hg] at hb
    simp only [Option.some.injEq, Obj.cells.injEq] at hb
    exact ht hb.2.1.symm
/-- a row of truths that is read -/
structure BR (w : World) (A : Option Addr) (n : Nat) (bs : List Bool) : Prop where
  len : bs.length = n
  rd : Rd w w.heap.size A (bs.map Value.bool)
theorem BR.at_ {w : World} {A : Option Addr} {n : Nat} {bs : List Bool} (h : BR w A n bs) {j : Nat} (hj : j < bs.length) : ∃ ad, A = some ad ∧ ad.block < w.heap.size ∧ ∀ w', Below w.heap.size w w' → w'.cell? (ad.add j) = some (.bool bs[j]) := by
  obtain ⟨ad, hA, hb, hc⟩ := h.rd.at_ (k := j) (by rw [List.length_map]; exact hj)
  refine ⟨ad, hA, hb, fun w' hw => ?_⟩
  rw [hw.cell (by rw [add_block]; exact hb), hc]
  simp
/-- a row of numbers that is read -/
structure NR (w : World) (A : Option Addr) (n : Nat) (zs : List Int) : Prop where
  len : zs.length = n
  rd : Rd w w.heap.size A (zs.map (Value.int .i64))
theorem NR.at_ {w : World} {A : Option Addr} {n : Nat} {zs : List Int} (h : NR w A n zs) {j : Nat} (hj : j < zs.length) : ∃ ad, A = some ad ∧ ad.block < w.heap.size ∧ ∀ w', Below w.heap.size w w' → w'.cell? (ad.add j) = some (.int .i64 zs[j]) := by
  obtain ⟨ad, hA, hb, hc⟩ := h.rd.at_ (k := j) (by rw [List.length_map]; exact hj)
  refine ⟨ad, hA, hb, fun w' hw => ?_⟩
  rw [hw.cell (by rw [add_block]; exact hb), hc]
  simp

theorem Rd.offR {w w' : World} {A : Option Addr} {xs : List Value} (h : Rd w w.heap.size A xs) (hz : w.heap.size ≤ w'.heap.size) (hk : ∀ ad, A = some ad → w'.heap[ad.block]? = w.heap[ad.block]?) : Rd w' w'.heap.size A xs := by
  rcases h with h | ⟨ad, e, hlt, hc⟩
  · exact .inl h
  · exact .inr ⟨ad, e, Nat.lt_of_lt_of_le hlt hz, fun j u hu => (World.cell?_of_block (by rw [add_block]; exact hk ad e)).trans (hc j u hu)⟩
theorem NR.off {w w' : World} {A : Option Addr} {n : Nat} {zs : List Int} (h : NR w A n zs) (hz : w.heap.size ≤ w'.heap.size) (hk : ∀ ad, A = some ad → w'.heap[ad.block]? = w.heap[ad.block]?) : NR w' A n zs := ⟨h.len, h.rd.offR hz hk⟩
theorem NR.next {w w' : World} {A : Option Addr} {n : Nat} {zs : List Int} (h : NR w A n zs) (hb : Below w.heap.size w w') : NR w' A n zs := ⟨h.len, (h.rd.below hb (Nat.le_refl _)).more hb.size⟩
theorem NR.nil (w : World) : NR w none 0 [] := ⟨rfl, .inl rfl⟩
theorem NR.of_own {w : World} {base n c : Nat} {e : TypeId} {A : Option Addr} {zs : List Int} (h : w.ownsRow base e 1 (.slice A n c) n (ivs zs)) : NR w A n zs := ⟨by have := h.1; rw [ivs_length] at this; omega, Rd.of_own h⟩
theorem NR.new (w : World) (t : TypeId) (zs : List Int) : NR (w.alloc (.cells (ivs zs).toArray t)) (some ⟨w.heap.size, 0, none⟩) zs.length zs := ⟨rfl, (Rd.new w t (ivs zs)).more (by simp)⟩

/-- a slice of numbers that is read, with its room -/
structure NS (w : World) (A : Option Addr) (n c : Nat) (zs : List Int) : Prop where
  nr : NR w A n zs
  cap : n ≤ c
theorem NS.of_own {w : World} {base n c : Nat} {e : TypeId} {A : Option Addr} {zs : List Int} (h : w.ownsRow base e 1 (.slice A n c) n (ivs zs)) : NS w A n c zs := by
  obtain ⟨A', c', h1, h2, _⟩ := own_form h
  injection h1 with _ _ h3
  exact ⟨NR.of_own h, by omega⟩
theorem NS.off {w w' : World} {A : Option Addr} {n c : Nat} {zs : List Int} (h : NS w A n c zs) (hz : w.heap.size ≤ w'.heap.size) (hk : ∀ ad, A = some ad → w'.heap[ad.block]? = w.heap[ad.block]?) : NS w' A n c zs := ⟨h.nr.off hz hk, h.cap⟩
theorem NS.next {w w' : World} {A : Option Addr} {n c : Nat} {zs : List Int} (h : NS w A n c zs) (hb : Below w.heap.size w w') : NS w' A n c zs := ⟨h.nr.next hb, h.cap⟩
theorem NS.nil (w : World) : NS w none 0 0 [] := ⟨NR.nil w, Nat.le_refl _⟩
/-- a slice of it, its address as the model spells it -/
theorem NS.sub {w : World} {A : Option Addr} {n c : Nat} {zs : List Int} (h : NS w A n c zs) {i j : Nat} (hi : i ≤ j) (hj : j ≤ n) :
    NS w (if c = i then A else A.map (·.add i)) (j - i) (c - i) ((zs.take j).drop i) := by
  have hl := h.nr.len
  have hc := h.cap
  have h1 := (h.nr.rd.front j).cut (k := i) (cap := c) (by rw [List.length_take, List.length_map]; omega)
  rw [← List.map_take, ← List.map_drop] at h1
  exact ⟨⟨by rw [List.length_drop, List.length_take]; omega, h1⟩, by omega⟩
theorem NS.cut1 {w : World} {A : Option Addr} {n c : Nat} {zs : List Int} (h : NS w A n c zs) (P : Program) (t : TypeId) (ht : P.underlying t = some (.slice (P.elem t))) (hz : (P.info? (P.elem t)).map (·.size) = some 1)
    {i : Nat} (x : Int) (hx : x = i) (hi : i ≤ n) :
    ∃ A', (∀ u, (Instr.slice t (.slice A n c) (some (.int .i64 x)) none none).run P u = .ok (.slice A' (n - i) (c - i)) u) ∧ NS w A' (n - i) (c - i) (zs.drop i) := by
  have hc := h.cap
  have hl := h.nr.len
  obtain ⟨ti, hti, hsz⟩ := Option.map_eq_some_iff.1 hz
  have hs := h.sub hi (Nat.le_refl n)
  rw [List.take_of_length_le (by omega)] at hs
  refine ⟨_, fun u => ?_, hs⟩
  subst hx
  rw [run_slice_l u t A n c ht .i64 i (by omega) (by omega)]
  simp [sizeOf, typeInfo, hti, hsz, sliced, Result.andThen]
theorem NS.cut0 {w : World} {A : Option Addr} {n c : Nat} {zs : List Int} (h : NS w A n c zs) (P : Program) (t : TypeId) (ht : P.underlying t = some (.slice (P.elem t))) (hz : (P.info? (P.elem t)).map (·.size) = some 1)
    {j : Nat} (y : Int) (hy : y = j) (hj : j ≤ n) :
    ∃ A', (∀ u, (Instr.slice t (.slice A n c) none (some (.int .i64 y)) none).run P u = .ok (.slice A' j c) u) ∧ NS w A' j c (zs.take j) := by
  have hc := h.cap
  obtain ⟨ti, hti, hsz⟩ := Option.map_eq_some_iff.1 hz
  have hs := h.sub (Nat.zero_le j) hj
  simp only [Nat.sub_zero, List.drop_zero] at hs
  refine ⟨_, fun u => ?_, hs⟩
  subst hy
  rw [run_slice_h u t A n c ht .i64 j (by omega) (by omega)]
  simp [sizeOf, typeInfo, hti, hsz, sliced, Result.andThen]
end Go.Proofs.Ytpmkaceeomnijaa
