/-
  A row of the project's beside the caller's own row of who came.
-/
import Derived.Test.YtijemohcengmjaaWaU
import Derived.Test.YtijemohcengmjaaOwnAt
namespace Go.Proofs.Ytijemohcengmjaa
open Go.RowKit
set_option maxRecDepth 100000

theorem putW_or (m x : Int) (l : List Int) : (∃ e, (e == (0 : Int)) = false ∧ putW m x l = (e, l)) ∨ putW m x l = (0, l ++ [x]) := by
  unfold putW
  split
  · exact .inl ⟨7, rfl, rfl⟩
  split
  · exact .inl ⟨5, rfl, rfl⟩
  · exact .inr rfl
theorem CO.of_own {w : World} {base base2 b n c : Nat} {e : TypeId} {A : Option Addr} {zs : List Int} (h : w.ownsRow base2 e 1 (.slice A n c) n (ivs zs)) (h1 : base ≤ base2) (h2 : b < base2) : CO w base b A n c zs := by
  have hl := h.1
  rw [ivs_length] at hl
  have hh := h
  rcases h.2 with ⟨e1, e2⟩ | ⟨g, cap, cur, e1, hb, hg, hc, hm, hs, ht⟩
  · injection e1 with e1 e3 e4
    exact ⟨by omega, by omega, .inl e4⟩
  · injection e1 with e1 e3 e4
    subst e1 e4
    refine ⟨by omega, hc, .inr ⟨g, 0, rfl, by omega, (Array.getElem?_eq_some_iff.1 hg).1, by omega, fun j hj => ?_, fun j hj => ?_⟩⟩
    · have := hh.cells (g := g) rfl j (.int .i64 zs[j]) (by simp [ivs, hj])
      rw [Addr.add_lit] at this
      exact this
    · rw [Nat.zero_add]
      refine ⟨?_, by simp [World.frozen?, hg]⟩
      rw [cell_of_row _ _ j _ _ _ hg, Array.getElem?_eq_getElem (by omega)]
      rfl

/-- the project's row, by l; the caller's, by cs -/
structure RS (W : World) (b : Nat) (m : Int) (l : List Int) (A : Option Addr) (n c : Nat) (cs : List Int) (w : World) : Prop where
  pw : (PW b m l).p (fun k => k = b) w
  co : CO w W.heap.size b A n c cs
  low : Below W.heap.size W w
  hb : W.heap.size ≤ b
section
variable {W w w' : World} {b : Nat} {m : Int} {l l' cs cs' : List Int} {A A' : Option Addr} {n n' c c' : Nat}
theorem PW.thin {S : Nat → Prop} (h : (PW b m l).p S w) : (PW b m l).p (fun k => k = b) w := by
  obtain ⟨r, f, h1, h2, h3, h4, h5, h6⟩ := PW.at_ h
  exact ⟨r, f, h1, h2, rfl, fun k hk => by subst hk; exact h4 k h3, h5, h6⟩
theorem RS.lt (h : RS W b m l A n c cs w) : b < w.heap.size := (PW b m l).lt h.pw b rfl
theorem RS.room (h : RS W b m l A n c cs w) : (l.length : Int) ≤ m ∧ m ≤ 12 := by
  obtain ⟨_, _, _, _, _, _, h5, h6⟩ := PW.at_ h.pw
  exact ⟨h5, h6⟩
theorem RS.call (h : RS W b m l A n c cs w) (ht : Turn (PW b m l') (fun k => k = b) w w') : RS W b m l' A n c cs w' := by
  obtain ⟨⟨S', h1, _⟩, h3⟩ := ht
  exact ⟨PW.thin h1, h.co.off h3, h.low.trans (h3.below (fun k hk => by have := h.hb; omega) h.low.size), h.hb⟩
theorem RS.next (h : RS W b m l A n c cs w) (hb : Below w.heap.size w w') : RS W b m l A n c cs w' := ⟨Thing.next h.pw hb, h.co.next hb, h.low.trans (hb.mono h.low.size), h.hb⟩
theorem RS.came (h : RS W b m l A n c cs w) (hc : CO w' W.heap.size b A' n' c' cs') (ho : Off (Spare W.heap.size b) w w') : RS W b m l A' n' c' cs' w' :=
  ⟨Thing.off h.pw ho fun _ hk hs => hs.2 hk, hc, h.low.trans (ho.below (fun _ hk => hk.1) h.low.size), h.hb⟩
theorem RS.cut (h : RS W b m l A n c cs w) (hc : CO w W.heap.size b A' n' c' cs') : RS W b m l A' n' c' cs' w := ⟨h.pw, hc, h.low, h.hb⟩
/-- a cell of a block that is none of theirs, behind a call -/
theorem off_cell {X : Nat} (ho : Off (fun k => k = b) w w') (hX : X < w.heap.size) (hn : X ≠ b) (o : Nat) : w'.cell? ⟨X, o, none⟩ = w.cell? ⟨X, o, none⟩ := World.cell?_of_block (ho.block X hX hn)
end
end Go.Proofs.Ytijemohcengmjaa
