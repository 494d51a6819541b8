/-
  A tally's names are placed once: doSlow, Do, ready: contracts.
-/
import Derived.Test.YtkkmjoadhjnldaaDoorTaM
import Derived.Test.YtkkmjoadhjnldaaDoorOnce
namespace Go.Proofs.YtkkmjoadhjnldaaDoor
open Go.RowKit Go.Maps
set_option maxRecDepth 100000

set_option maxHeartbeats 1600000 in
theorem doSlow7_ok (b : Nat) (x : Value) (A : Option Addr) (n c : Nat) (l : List ByteArray) (w : World) (h : Tly w b (.int .u32 0) (.int .i32 0) x (.slice A n c) (.map none) (.slice none 0 0)) (hl : w.ownsRow 0 9 1 (.slice A n c) n (tvs l)) (hn : n ≤ 900) (hs : ∀ s ∈ l, s.size ≤ 1000) :
    Calls Tryd.prog 36 #[.pointer (some ⟨b, 0, none⟩), .func (.func 30) #[.pointer (some ⟨b, 0, none⟩)] #[]] w fun e w' => e = .returned (.tuple #[]) ∧ Placed w b (.int .u32 1) (.int .i32 0) x l w' := by
  have h1 := h.set1 (.int .i32 1)
  have hl1 := ownsRow_setCell_other (a := ⟨b, 1, none⟩) hl (h.off hl (by decide)) (.int .i32 1)
  have hz1 : (w.setCell ⟨b, 1, none⟩ (.int .i32 1)).heap.size = w.heap.size := by simp
  have H := Lib.hid h
  have H1 := Lib.hid h1
  have HL1 := Lib.hid hl1
  have HS := Lib.hid hs
  have HZ := Lib.hid hz1
  have hnot : ∀ (x : Bool) (w : World), (Op.unary .not (.bool x)).run Tryd.prog w = .ok (.bool (!x)) w := fun _ _ => rfl
  clear h h1 hl hl1 hs hz1
  go_enter_defers Tryd.func36, Tryd.ntmps36
  go_wp2_with (go_at_call 42; refine (take_free ⟨b, 1, none⟩ _ H.out.cells.2.1 (H.out.thaw 1)).mono ?_; rintro e w' ⟨rfl, rfl⟩)
  refine (asked ⟨b, 0, none⟩ 0 _ H1.out.cells.1).mono ?_
  rintro e w2 ⟨rfl, rfl⟩
  go_wp2_with (go_at_call 30; refine (place_ok7 b _ _ x _ _ A n c l _ H1.out HL1.out hn HS.out).mono ?_; rintro e w3 ⟨rfl, hp⟩)
  obtain ⟨⟨A', n', ca, bm, B, cb, g4, q1, q2, q3, q4⟩, k4⟩ := hp
  rw [HZ.out] at q1 q2 q4
  refine leaves_cons (f := 44) (args := #[.pointer (some ⟨b, 0, none⟩), .bool true]) (by simp) (by simp [go_sem]) ?_
  refine (mark_deferred ⟨b, 0, none⟩ (.int .u32 0) .returning _ g4.cells.1 (g4.thaw 0)).mono ?_
  rintro e u' w'' ⟨rfl, rfl, rfl⟩
  have g6 := Tly.set0 (w := w3.drew) g4 (.int .u32 1)
  refine leaves_cons (f := 43) (args := #[.pointer (some ⟨b, 1, none⟩)]) (by simp [settle]) (by simp [go_sem]) ?_
  refine (give_deferred ⟨b, 1, none⟩ _ _ g6.cells.2.1 (g6.thaw 1)).mono ?_
  rintro e u' w'' ⟨rfl, rfl, rfl⟩
  have hlt := H.out.lt
  have hfin : Placed w b (.int .u32 1) (.int .i32 0) x l ((w3.drew.setCell ⟨b, 0, none⟩ (.int .u32 1)).setCell ⟨b, 1, none⟩ (.int .i32 0)) := by
    refine ⟨⟨A', n', ca, bm, B, cb, g6.set1 _, ?_, ?_, ?_, q4⟩, ?_⟩
    · exact ownsRow_setCell_other (a := ⟨b, 1, none⟩) (ownsRow_setCell_other (a := ⟨b, 0, none⟩) q1.drew (fun e => by have := (q1.lt b e).1; omega) _) (fun e => by have := (q1.lt b e).1; omega) _
    · exact ownsRow_setCell_other (a := ⟨b, 1, none⟩) (ownsRow_setCell_other (a := ⟨b, 0, none⟩) q2.drew (fun e => by have := (q2.lt b e).1; omega) _) (fun e => by have := (q2.lt b e).1; omega) _
    · refine q3.keep ?_
      rw [Below.heap_setCell _ _ _ _ (by simp; omega)]
      exact Below.heap_setCell _ _ _ _ (by simp; omega)
    · have e1 : Bel b w (w.setCell ⟨b, 1, none⟩ (.int .i32 1)) := Bel.setCell (Bel.of b (Below.refl _ w)) _ rfl _
      exact Bel.setCell (Bel.setCell (e1.trans k4).drew ⟨b, 0, none⟩ rfl _) ⟨b, 1, none⟩ rfl _
  have HF := Lib.hid hfin
  clear hfin g6 g4 q1 q2 q3 k4
  simp [Leaves, settle, results, Tryd.results36]
  exact HF.out

/-- a tally that is ready -/
structure Ready (S : Nat → Prop) (w : World) (b : Nat) (l ns : List ByteArray) (cs : List Int) (w' : World) : Prop where
  at_ : ∃ S' A n ca bm B cb, PM w' b S' ns cs A n ca bm B cb ∧ PT S' w' b l ns cs ∧ (∀ k, S' k → S k ∨ w.heap.size ≤ k)
  off : Off S w w'

theorem Placed.ready {S : Nat → Prop} {w w' : World} {b : Nat} {l ns : List ByteArray} {cs : List Int} {x : Value} (hp : Placed w b (.int .u32 1) (.int .i32 0) x l w') (h : PT S w b l ns cs) (hc : cs = List.replicate ns.length 0) : Ready S w b l ns cs w' := by
  obtain ⟨⟨A, n, ca, bm, B, cb, g, q1, q2, q3, q4⟩, k⟩ := hp
  have hns := h.names
  rw [← hns] at q1 q2 q3
  rw [← hc] at q2
  have hpm : PM w' b (fun k => k = b ∨ (Value.slice A n ca).ownBlock = some k ∨ k = bm ∨ (Value.slice B n cb).ownBlock = some k) ns cs A n ca bm B cb :=
    ⟨⟨x, g⟩, own_base_s q1 (Nat.zero_le _), own_base_s q2 (Nat.zero_le _), q3, fun g e => .inr (.inl e), fun g e => .inr (.inr (.inr e)), .inr (.inr (.inl rfl))⟩
  refine ⟨⟨_, A, n, ca, bm, B, cb, hpm, ⟨hns, h.few, h.short, .inl rfl, ?_, .inr ⟨A, n, ca, bm, B, cb, hpm⟩⟩, ?_⟩, Off.bel h.inb k⟩
  · rintro k (rfl | e | rfl | e)
    · exact g.lt
    · exact (q1.lt k e).2
    · exact q3.lt
    · exact (q2.lt k e).2
  · rintro k (rfl | e | rfl | e)
    · exact .inl h.inb
    · exact .inr (by have := (q1.lt k e).1; omega)
    · exact .inr q4
    · exact .inr (by have := (q2.lt k e).1; omega)

theorem do7_ok (S : Nat → Prop) (b : Nat) (l ns : List ByteArray) (cs : List Int) (w : World) (h : PT S w b l ns cs) :
    Calls Tryd.prog 29 #[.pointer (some ⟨b, 0, none⟩), .func (.func 30) #[.pointer (some ⟨b, 0, none⟩)] #[]] w fun e w' => e = .returned (.tuple #[]) ∧ Ready S w b l ns cs w' := by
  have hnot : ∀ (x : Bool) (w : World), (Op.unary .not (.bool x)).run Tryd.prog w = .ok (.bool (!x)) w := fun _ _ => rfl
  have HH := Lib.hid h
  rcases h.is with ⟨⟨x, A, n, c, ht, ho, hS⟩, hcs⟩ | ⟨A, n, ca, bm, B, cb, hm⟩
  · have hn : n ≤ 900 := by
      have := ho.1
      rw [tvs_length] at this
      have := h.few
      omega
    have hA := Lib.hid (asked ⟨b, 0, none⟩ 0 w ht.cells.1)
    have hS := Lib.hid (doSlow7_ok b x A n c l w ht ho hn h.short)
    have HC := Lib.hid hcs
    clear h ht ho hcs
    go_enter Tryd.func29, Tryd.ntmps29
    go_wp2_with fail
    refine hA.out.mono ?_
    rintro e w2 ⟨rfl, rfl⟩
    go_wp2_with fail
    refine hS.out.mono ?_
    rintro e w3 ⟨rfl, hm⟩
    have HM := Lib.hid hm
    clear hm
    go_wp2_with fail
    go_end0
    exact ⟨rfl, HM.out.ready HH.out HC.out⟩
  · obtain ⟨x, ht⟩ := hm.cls
    have hA := Lib.hid (asked ⟨b, 0, none⟩ 1 w ht.cells.1)
    have HM := Lib.hid hm
    clear h ht hm
    go_enter Tryd.func29, Tryd.ntmps29
    go_wp2_with fail
    refine hA.out.mono ?_
    rintro e w2 ⟨rfl, rfl⟩
    go_wp2_with fail
    go_end0
    exact ⟨rfl, ⟨S, A, n, ca, bm, B, cb, HM.out, HH.out, fun k h => .inl h⟩, Off.refl _ _⟩

theorem ready7_ok (S : Nat → Prop) (b : Nat) (l ns : List ByteArray) (cs : List Int) (w : World) (h : PT S w b l ns cs) :
    Calls Tryd.prog 22 #[.pointer (some ⟨b, 0, none⟩)] w fun e w' => e = .returned (.tuple #[]) ∧ Ready S w b l ns cs w' := by
  have hmf : ∀ (fn : Fn) (first cap : Array Value) (w : World), (Instr.makeFunc fn first cap).run Tryd.prog w = .ok (.func fn first cap) w := fun _ _ _ _ => rfl
  have HD := Lib.hid (do7_ok S b l ns cs w h)
  have hc : ∃ v, w.cell? ⟨b, 0, none⟩ = some v := by
    rcases h.is with ⟨⟨x, A, n, c, ht, _⟩, _⟩ | ⟨A, n, ca, bm, B, cb, hm⟩
    · exact ⟨_, ht.cells.1⟩
    · obtain ⟨x, ht⟩ := hm.cls
      exact ⟨_, ht.cells.1⟩
  obtain ⟨v, hc⟩ := hc
  clear h
  go_enter Tryd.func22, Tryd.ntmps22
  go_wp2_with fail
  refine HD.out.mono ?_
  rintro e w1 ⟨rfl, hm⟩
  have HM := Lib.hid hm
  clear hm
  go_wp2_with fail
  go_end0
  exact ⟨rfl, HM.out⟩
end Go.Proofs.YtkkmjoadhjnldaaDoor
