/-
  What feeding in parts, and frames behind one another, want: plain mathematics, rows of frames behind an append, a decoder behind one.
-/
import Derived.Test.YtmklmakcampbbaaDoorFrameM
import Derived.Test.YtmklmakcampbbaaDoorFrameH
namespace Go.Proofs.YtmklmakcampbbaaDoor
open Go.RowKit
set_option maxRecDepth 100000

/-- what stands behind a part more is what all bytes up to it tell -/
theorem parts_step (bs : List UInt8) (p t : Nat) (hp : p ≤ t) (kept : List UInt8) (x : Int) (h : (allF (bs.take p)).2 = (kept, x)) :
    allF (bs.take t) = ((allF (bs.take p)).1 ++ (feedF kept x ((bs.take t).drop p)).1, (feedF kept x ((bs.take t).drop p)).2) := by
  have e : bs.take t = bs.take p ++ (bs.take t).drop p := by
    rw [show bs.take p = (bs.take t).take p by rw [List.take_take, Nat.min_eq_left hp], List.take_append_drop]
  have hk : (allF (bs.take p)).2.1 = kept := by rw [h]
  have hx : (allF (bs.take p)).2.2 = x := by rw [h]
  by_cases h0 : x = 0
  · rw [feedF, if_pos h0]
    conv => lhs; rw [e]
    rw [allF_append _ _ (by rw [hx, h0]), hk]
  · rw [feedF, if_neg h0]
    conv => lhs; rw [e]
    rw [allF_append_bad _ _ (by rw [hx]; exact h0)]
    simp only [List.append_nil]
    rw [← h]

theorem FO.append {w w' : World} {base n c m : Nat} {A : Option Addr} {rs rs' : List Rep} {v : Value} (h : FO w base A n c rs) (hb : ∀ r ∈ rs', Ow w base r.p.A r.p.l r.p.c r.p.bs) (ho : w'.ownsRow base 28 2 v (n + m) (repCells rs ++ repCells rs')) (hg : w.grownBy w' (Value.slice A n c).ownBlock) :
    ∃ A' c', v = .slice A' (n + m) c' ∧ FO w' base A' (n + m) c' (rs ++ rs') := by
  obtain ⟨A', c', rfl, _, _⟩ := own_form_s ho
  refine ⟨A', c', rfl, ⟨by rw [repCells_append]; exact ho, fun q hq => ?_⟩⟩
  have hq' : Ow w base q.p.A q.p.l q.p.c q.p.bs := by
    rcases List.mem_append.1 hq with h1 | h1
    · exact h.body q h1
    · exact hb q h1
  exact ⟨own_apart hq'.own h.own (by decide) hg, hq'.len, hq'.cap, hq'.most⟩

theorem Bel.then_below {b : Nat} {a c d : World} (h : Bel b a c) (k : Below a.heap.size c d) : Bel b a d :=
  ⟨k.os.trans h.os, k.tape.trans h.tape, k.output.trans h.output, Nat.le_trans h.size k.size, fun i hi hn => (k.block i hi).trans (h.block i hi hn)⟩
/-- a decoder, behind an append onto a row of another kind -/
theorem Dec.grown {w w' : World} {b base base' n size B : Nat} {kept : List UInt8} {x : Int} {e : TypeId} {v : Value} {xs : List Value} (h : Dec w b base kept x) (h' : w.ownsRow base' e size v n xs) (he : 5 ≠ e) (hg : w.grownBy w' v.ownBlock) (hb : Below B w w') (hB : b < B) : Dec w' b base kept x := by
  obtain ⟨A, l, c, h1, ho⟩ := h.at_
  exact ⟨A, l, c, (hb.block b hB).trans h1, ⟨own_apart ho.own h' he hg, ho.len, ho.cap, ho.most⟩⟩

theorem intinfo : (Tryd.prog.info? 3).map (fun i => (i.zero, i.size, i.bytes)) = some (some (.int .i64 0), 1, 8) := by kernel_rfl

/-- where a part ends -/
def cutTo (n : Int) (p l : Nat) : Nat := if n ≤ p then p else if n ≤ l then n.toNat else l
theorem cutTo_le (n : Int) (p l : Nat) (h : p ≤ l) : p ≤ cutTo n p l ∧ cutTo n p l ≤ l := by
  unfold cutTo
  split
  · omega
  · split <;> omega

theorem wires_next (rs : List Rep) (k : Nat) (h : k < rs.length) : wires (says (rs.take (k + 1))) = wires (says (rs.take k)) ++ (be 2 (rs[k].p.bs.length + 1) ++ (rs[k].k :: rs[k].p.bs)) := by
  rw [says_next rs k h]
  simp [wires, Rep.says]
theorem wires_len : ∀ (fs : List (UInt8 × List UInt8)), (∀ f ∈ fs, f.2.length ≤ 300) → (wires fs).length ≤ 303 * fs.length
  | [], _ => by simp [wires]
  | f :: r, h => by
    have h1 := wires_len r fun g hg => h g (by simp [hg])
    have h2 := h f (by simp)
    have e : wires (f :: r) = (be 2 (f.2.length + 1) ++ (f.1 :: f.2)) ++ wires r := by simp [wires]
    rw [e]
    simp only [List.length_append, be_length, List.length_cons]
    omega

/-- bytes of frames, cut off anywhere, tell no error -/
theorem wires_cut {fs : List (UInt8 × List UInt8)} (h : ∀ f ∈ fs, f.1 ≠ 0 ∧ f.2.length ≤ 300) (t : Nat) : (allF ((wires fs).take t)).2.2 = 0 := by
  apply Classical.byContradiction
  intro hne
  have h1 := allF_append_bad ((wires fs).take t) ((wires fs).drop t) hne
  rw [List.take_append_drop, allF_back fs h] at h1
  rw [← h1] at hne
  exact hne rfl
end Go.Proofs.YtmklmakcampbbaaDoor
