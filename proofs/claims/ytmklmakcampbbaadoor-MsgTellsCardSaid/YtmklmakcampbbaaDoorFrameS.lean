/-
  Facts of frames, and of rows, that stand behind any call that leaves alone what was there.
-/
import Derived.Test.YtmklmakcampbbaaDoorReg
import Derived.Test.YtmklmakcampbbaaDoorFrameH
namespace Go.Proofs.YtmklmakcampbbaaDoor
open Go.RowKit
set_option maxRecDepth 100000

/-- a new row is read, now and later -/
theorem rdn (W : World) (t : TypeId) (n : Nat) (hn : n = W.heap.size) (xs : List Value) : Rd (W.alloc (.cells xs.toArray t)) (W.alloc (.cells xs.toArray t)).heap.size (some ⟨n, 0, none⟩) xs := by
  subst hn
  have := Rd.new W t xs
  rw [World.size_alloc]
  exact this
theorem Rd.nx {w w' : World} {A : Option Addr} {xs : List Value} (h : Rd w w.heap.size A xs) (hb : Below w.heap.size w w') : Rd w' w'.heap.size A xs := (h.below hb (Nat.le_refl _)).more hb.size
theorem fr1 {w : World} {A' : Option Addr} (k : UInt8) (A : Option Addr) (l c : Nat) (bs : List UInt8) (h : Rd w w.heap.size A' [.int .u8 (k.toNat : Int), .slice A l c]) (hb : Sl w w.heap.size A l c bs) : FR w A' 1 [⟨k, ⟨A, l, c, bs⟩⟩] :=
  ⟨rfl, h, fun q hq => by simp at hq; subst hq; exact hb⟩

/-- a row that was made, of one element -/
def rowStb (xs : List Value) : Stb := ⟨fun v u => ∃ n, v = .slice (some ⟨n, 0, none⟩) 1 1 ∧ Rd u u.heap.size (some ⟨n, 0, none⟩) xs, fun _ _ _ ⟨n, h, r⟩ hb => ⟨n, h, r.nx hb⟩⟩
/-- a row of one frame -/
def frStb (r : Rep) : Stb := ⟨fun v u => ∃ A c, v = .slice A 1 c ∧ FR u A 1 [r], fun _ _ _ ⟨A, c, h, hf⟩ hb => ⟨A, c, h, hf.next hb⟩⟩
end Go.Proofs.YtmklmakcampbbaaDoor
