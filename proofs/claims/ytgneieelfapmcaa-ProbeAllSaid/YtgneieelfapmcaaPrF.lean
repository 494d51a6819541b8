/-
  The project's plan of probes as it lies in memory: one block; what tells of it: contracts.
-/
import Derived.Test.YtgneieelfapmcaaPrK
namespace Go.Proofs.Ytgneieelfapmcaa
open Go.RowKit
set_option maxRecDepth 100000

/-- the project's plan: a block of sixteen cells -/
structure PXx (b : Nat) (p : Pb) (S : Nat → Prop) (w : World) : Prop where
  blk : ∃ cur, w.heap[b]? = some (.cells cur 61 (0, 0))
  d : ∀ (j : Nat) (h : j < p.l.length), w.cell? ⟨b, j * 2, none⟩ = some (.int .u64 p.l[j].d)
  o : ∀ (j : Nat) (h : j < p.l.length), w.cell? ⟨b, j * 2 + 1, none⟩ = some (.int .u64 p.l[j].o)
  cn : w.cell? ⟨b, 12, none⟩ = some (.int .i64 p.l.length)
  ev : w.cell? ⟨b, 13, none⟩ = some (.int .u64 p.ev)
  la : w.cell? ⟨b, 14, none⟩ = some (.int .u64 p.la)
  last : w.cell? ⟨b, 15, none⟩ = some (.int .u64 p.last)
  len : p.l.length ≤ 6
  sb : S b
  lt : ∀ k, S k → k < w.heap.size
section
variable {b : Nat} {p : Pb} {S : Nat → Prop} {w w' : World}
theorem PXx.keep (h : PXx b p S w) (hk : ∀ k, S k → w'.heap[k]? = w.heap[k]?) (hz : w.heap.size ≤ w'.heap.size) : PXx b p S w' := by
  have hb := hk b h.sb
  have hc : ∀ i, w'.cell? ⟨b, i, none⟩ = w.cell? ⟨b, i, none⟩ := fun i => World.cell?_of_block hb
  exact ⟨by rw [hb]; exact h.blk, fun j hj => (hc _).trans (h.d j hj), fun j hj => (hc _).trans (h.o j hj), (hc _).trans h.cn, (hc _).trans h.ev, (hc _).trans h.la, (hc _).trans h.last, h.len, h.sb, fun k hk => Nat.lt_of_lt_of_le (h.lt k hk) hz⟩
theorem PXx.next (h : PXx b p S w) (hb : Below w.heap.size w w') : PXx b p S w' := h.keep (fun k hk => hb.block k (h.lt k hk)) hb.size
theorem PXx.off {T : Nat → Prop} (h : PXx b p S w) (ho : Off T w w') (hT : ∀ k, S k → ¬ T k) : PXx b p S w' := h.keep (fun k hk => ho.block k (h.lt k hk) (hT k hk)) ho.size
theorem PXx.fz (h : PXx b p S w) (i : Nat) : w.frozen? ⟨b, i, none⟩ = false := by
  obtain ⟨cur, hc⟩ := h.blk
  exact frozen_of_row w b i cur _ hc
theorem PXx.set (h : PXx b p S w) (i : Nat) (v : Value) : (∃ cur, (w.setCell ⟨b, i, none⟩ v).heap[b]? = some (.cells cur 61 (0, 0))) ∧ ∀ j, j ≠ i → (w.setCell ⟨b, i, none⟩ v).cell? ⟨b, j, none⟩ = w.cell? ⟨b, j, none⟩ := by
  obtain ⟨cur, hc⟩ := h.blk
  exact ⟨⟨_, heap_setCell_same w b i cur _ v hc⟩, fun j hj => World.cell?_setCell_other _ _ _ _ (fun e => by injection e with _ e _; exact hj e.symm)⟩
theorem PXx.setO (h : PXx b p S w) {j : Nat} (hj : j < p.l.length) (v : Int) : PXx b { p with l := p.l.set j { p.l[j] with o := v } } S (w.setCell ⟨b, j * 2 + 1, none⟩ (.int .u64 v)) := by
  obtain ⟨h1, h2⟩ := h.set (j * 2 + 1) (.int .u64 v)
  have hl := h.len
  refine ⟨h1, fun i hi => ?_, fun i hi => ?_, ?_, (h2 _ (by omega)).trans h.ev, (h2 _ (by omega)).trans h.la, (h2 _ (by omega)).trans h.last, by simpa using hl, h.sb, fun k hk => by rw [set_size]; exact h.lt k hk⟩
  · have hi' : i < p.l.length := by simpa using hi
    rw [h2 _ (by omega), h.d i hi']
    simp only [List.getElem_set]
    split
    · rename_i e; subst e; rfl
    · rfl
  · have hi' : i < p.l.length := by simpa using hi
    simp only [List.getElem_set]
    split
    · rename_i e; subst e; exact World.cell?_setCell_same _ _ _ (h.o _ hj)
    · rename_i e
      rw [h2 _ (by omega), h.o i hi']
  · rw [h2 _ (by omega), h.cn]; simp
theorem PXx.setD (h : PXx b p S w) {j : Nat} (hj : j < p.l.length) (v : Int) : PXx b { p with l := p.l.set j { p.l[j] with d := v } } S (w.setCell ⟨b, j * 2, none⟩ (.int .u64 v)) := by
  obtain ⟨h1, h2⟩ := h.set (j * 2) (.int .u64 v)
  have hl := h.len
  refine ⟨h1, fun i hi => ?_, fun i hi => ?_, ?_, (h2 _ (by omega)).trans h.ev, (h2 _ (by omega)).trans h.la, (h2 _ (by omega)).trans h.last, by simpa using hl, h.sb, fun k hk => by rw [set_size]; exact h.lt k hk⟩
  · have hi' : i < p.l.length := by simpa using hi
    simp only [List.getElem_set]
    split
    · rename_i e; subst e; exact World.cell?_setCell_same _ _ _ (h.d _ hj)
    · rename_i e
      rw [h2 _ (by omega), h.d i hi']
  · have hi' : i < p.l.length := by simpa using hi
    rw [h2 _ (by omega), h.o i hi']
    simp only [List.getElem_set]
    split
    · rename_i e; subst e; rfl
    · rfl
  · rw [h2 _ (by omega), h.cn]; simp
theorem PXx.setL (h : PXx b p S w) (v : Int) : PXx b { p with last := v } S (w.setCell ⟨b, 15, none⟩ (.int .u64 v)) := by
  obtain ⟨h1, h2⟩ := h.set 15 (.int .u64 v)
  have hl := h.len
  exact ⟨h1, fun i hi => (h2 _ (by have : i < p.l.length := hi; omega)).trans (h.d i hi), fun i hi => (h2 _ (by have : i < p.l.length := hi; omega)).trans (h.o i hi), (h2 _ (by omega)).trans h.cn, (h2 _ (by omega)).trans h.ev, (h2 _ (by omega)).trans h.la, World.cell?_setCell_same _ _ _ h.last, hl, h.sb, fun k hk => by rw [set_size]; exact h.lt k hk⟩
/-- when a node was asked isn't kept -/
theorem PXx.ghost (h : PXx b p S w) {l : List Nw} (hl : l.length = p.l.length) (hd : ∀ (j : Nat) (h1 : j < l.length) (h2 : j < p.l.length), l[j].d = p.l[j].d ∧ l[j].o = p.l[j].o) : PXx b { p with l := l } S w :=
  { h with
    d := fun j hj => by rw [(hd j hj (hl ▸ hj)).1]; exact h.d j (hl ▸ hj)
    o := fun j hj => by rw [(hd j hj (hl ▸ hj)).2]; exact h.o j (hl ▸ hj)
    cn := by have := h.cn; rw [← hl] at this; exact this
    len := by show l.length ≤ 6; rw [hl]; exact h.len }
end
/-- as a thing -/
def PX (b : Nat) (p : Pb) : Thing where
  p := PXx b p
  keep := fun h hk hz => h.keep hk hz
  lt := fun h => h.lt

section
variable {b : Nat} {p : Pb} {S : Nat → Prop} {w : World}
theorem mayTime_ok (n : Int) (w : World) (ok : Bool) (hk : Hid (decide (1 ≤ n ∧ n ≤ 1000) = ok)) : Calls Try.prog 19 #[.int .u64 n] w fun e w' => e = .returned (.bool ok) ∧ w = w' := by
  by_cases c1 : 1 ≤ n
  · by_cases c2 : n ≤ 1000
    · obtain rfl : true = ok := by rw [← hk.out]; simp [c1, c2]
      clear hk
      go_enter Try.func19, Try.ntmps19
      go_wp2_with fail
      go_ret
      exact ⟨rfl, rfl⟩
    · obtain rfl : false = ok := by rw [← hk.out]; simp [c2]
      clear hk
      go_enter Try.func19, Try.ntmps19
      go_wp2_with fail
      go_ret
      exact ⟨rfl, rfl⟩
  · obtain rfl : false = ok := by rw [← hk.out]; simp [c1]
    clear hk
    go_enter Try.func19, Try.ntmps19
    go_wp2_with fail
    go_ret
    exact ⟨rfl, rfl⟩
theorem pall_ok (h : PXx b p S w) : Calls Try.prog 20 #[.pointer (some ⟨b, 0, none⟩)] w fun e w' => e = .returned (.slice (some ⟨b, 0, none⟩) p.l.length 6) ∧ Below w.heap.size w w' := by
  have c1 := h.cn
  have hl := h.len
  clear h
  have hl0 : (0 : Int) ≤ (p.l.length : Int) := by omega
  have hl1 : (p.l.length : Int) ≤ 6 := by omega
  go_enter Try.func20, Try.ntmps20
  go_wp2_with fail
  go_quiet (fail)
  have kd := kp_drewN w nq
  go_wp2_with fail
  go_ret
  exact ⟨rfl, kd⟩
theorem isLate_ok (now : Int) (w : World) : Calls Try.prog 22 #[.pointer (some ⟨b, 0, none⟩), .int .u64 now] w fun e w' => e = .returned (.func (.func 25) #[] #[.pointer (some ⟨w.heap.size, 0, none⟩), .pointer (some ⟨w.heap.size + 1, 0, none⟩)]) ∧ w' = (w.alloc (.cells #[.pointer (some ⟨b, 0, none⟩)] 26)).alloc (.cells #[.int .u64 now] 22) := by
  go_enter Try.func22, Try.ntmps22
  go_wp2_with fail
  go_ret
  exact ⟨rfl, rfl⟩
end
end Go.Proofs.Ytgneieelfapmcaa
