/-
  What stands in a Body: numbers and texts taken off (takeTexts, takeApart and its closure, of package msg): contracts.
-/
import Derived.Test.YtmklmakcampbbaaDoorMsgC
namespace Go.Proofs.YtmklmakcampbbaaDoor
open Go.RowKit
set_option maxRecDepth 100000

/-- a row of one-cell values of the call's own -/
structure Og (e : TypeId) (w : World) (base : Nat) (A : Option Addr) (l c : Nat) (xs : List Value) : Prop where
  own : w.ownsRow base e 1 (.slice A l c) l xs
  cap : l ≤ c
theorem Og.len {e : TypeId} {w : World} {base : Nat} {A : Option Addr} {l c : Nat} {xs : List Value} (h : Og e w base A l c xs) : xs.length = l := by have := h.own.1; omega
theorem Og.mk' {e : TypeId} {w : World} {base : Nat} {v : Value} {l : Nat} {xs : List Value} (h : w.ownsRow base e 1 v l xs) : ∃ A c, v = .slice A l c ∧ Og e w base A l c xs := by
  obtain ⟨A, c, rfl, h1, _⟩ := own_form h
  exact ⟨A, c, rfl, h, h1⟩
theorem Og.sg {e : TypeId} {w : World} {base : Nat} {A : Option Addr} {l c : Nat} {xs : List Value} (h : Og e w base A l c xs) : Sg w w.heap.size A l c xs := ⟨Rd.of_own h.own, h.len, h.cap⟩
theorem Og.next {e : TypeId} {w w' : World} {base : Nat} {A : Option Addr} {l c : Nat} {xs : List Value} (h : Og e w base A l c xs) (hb : Below w.heap.size w w') : Og e w' base A l c xs := ⟨own_below h.own hb (Nat.le_refl _), h.cap⟩
theorem Og.base {e : TypeId} {w : World} {base base' : Nat} {A : Option Addr} {l c : Nat} {xs : List Value} (h : Og e w base A l c xs) (hb : base' ≤ base) : Og e w base' A l c xs := ⟨own_base h.own hb, h.cap⟩
theorem Og.nil (e : TypeId) (w : World) (base : Nat) : Og e w base none 0 0 [] := ⟨World.ownsRow_nil _ _ _ _, Nat.le_refl _⟩
theorem Og.setCell {e : TypeId} {w : World} {base : Nat} {A : Option Addr} {l c : Nat} {xs : List Value} (h : Og e w base A l c xs) {a : Addr} (ha : a.block < base) (u : Value) : Og e (w.setCell a u) base A l c xs := ⟨ownsRow_setCell_below h.own ha u, h.cap⟩
theorem u64info : (Tryd.prog.info? 63).map (fun i => (i.zero, i.size, i.bytes)) = some (some (.int .u64 0), 1, 8) := by kernel_rfl
theorem strinfo : (Tryd.prog.info? 9).map (fun i => (i.zero, i.size, i.bytes)) = some (some (.string ⟨#[]⟩), 1, 16) := by kernel_rfl

/-- the texts that bytes are, if they are texts to the end -/
def textsF (bs : List UInt8) : Option (List ByteArray) :=
  if _h : bs = [] then some []
  else if _h2 : bs.length < 2 then none
  else if _h3 : bs.length < 2 + val (bs.take 2) then none
  else (textsF (bs.drop (2 + val (bs.take 2)))).map ((⟨((bs.take (2 + val (bs.take 2))).drop 2).toArray⟩ : ByteArray) :: ·)
termination_by bs.length
decreasing_by rw [List.length_drop]; omega

theorem textsF_nil : textsF [] = some [] := by rw [textsF]; simp
theorem textsF_few {bs : List UInt8} (h : bs ≠ []) (h2 : bs.length < 2) : textsF bs = none := by rw [textsF, dif_neg h, dif_pos h2]
theorem textsF_short {bs : List UInt8} (h2 : 2 ≤ bs.length) (h3 : bs.length < 2 + val (bs.take 2)) : textsF bs = none := by
  rw [textsF, dif_neg (by intro h; rw [h] at h2; simp at h2), dif_neg (by omega), dif_pos h3]
theorem textsF_step {bs : List UInt8} (h2 : 2 ≤ bs.length) (h3 : 2 + val (bs.take 2) ≤ bs.length) : textsF bs = (textsF (bs.drop (2 + val (bs.take 2)))).map ((⟨((bs.take (2 + val (bs.take 2))).drop 2).toArray⟩ : ByteArray) :: ·) := by
  rw [textsF, dif_neg (by intro h; rw [h] at h2; simp at h2), dif_neg (by omega), dif_neg (by omega)]

def lenS : Value → Nat
  | .slice _ l _ => l
  | _ => 0

/-- one answer of takeTexts -/
def TextsTo (args : Array Value) (w : World) (r : Option (List ByteArray)) : Prop :=
  Calls Tryd.prog 48 args w fun e w' => ∃ A' n c', e = .returned (.tuple #[.slice A' n c', .bool r.isSome]) ∧ Og 9 w' w.heap.size A' n c' (svs (r.getD [])) ∧ Below w.heap.size w w'

set_option maxHeartbeats 1000000 in
theorem takeTexts_any (A : Option Addr) (bs : List UInt8) (l c : Nat) (w : World) (hr : Sl w w.heap.size A l c bs) (hl : l ≤ 100000) : TextsTo #[.slice A l c] w (textsF bs) := by
  unfold TextsTo
  generalize hR0 : textsF bs = R
  have hR := Lib.hid hR0
  clear hR0
  obtain ⟨i0, hi, hz0, hz1, hz2⟩ := info_parts strinfo
  go_enter Tryd.func48, Tryd.ntmps48
  go_wp2
  go_loopw [0, 4] (fun b t wr => ∃ (A1 : Option Addr) (l1 c1 : Nat) (rest : List UInt8) (A2 : Option Addr) (n c2 : Nat) (done : List ByteArray), b = .slice A1 l1 c1 ∧ t = .slice A2 n c2 ∧ n + l1 ≤ l ∧ Sl wr wr.heap.size A1 l1 c1 rest ∧ Og 9 wr w.heap.size A2 n c2 (svs done) ∧ Hid (R = (textsF rest).map (done ++ ·)) ∧ Below w.heap.size w wr) (fun b _ _ => lenS b)
  case atStart => exact ⟨A, l, c, bs, none, 0, 0, [], rfl, rfl, by omega, hr, Og.nil _ _ _, Lib.hid (by rw [← hR.out]; cases textsF bs <;> simp), Below.refl _ _⟩
  case round =>
    obtain ⟨A1, l1, c1, rest, A2, n, c2, done, rfl, rfl, hnl, hsl, ho, hx, kr⟩ := hrel
    have hlen := Lib.hid hsl.len
    clear hR
    by_cases h0 : l1 = 0
    · subst h0
      have hn : rest = [] := List.eq_nil_of_length_eq_zero hlen.out
      have hR : R = some done := by rw [hx.out, hn, textsF_nil]; simp
      subst hR
      clear hx hsl
      go_wp2_with fail
      go_ret2
      exact ⟨A2, n, c2, rfl, ho, kr⟩
    have hp : (0 : Int) < (l1 : Int) := by omega
    by_cases h2 : l1 < 2
    · have hR : R = none := by
        rw [hx.out, textsF_few (by intro h; rw [h] at hlen; have := hlen.out; simp at this; omega) (by rw [hlen.out]; exact h2)]
        rfl
      subst hR
      clear hx
      go_wp2_with fail
      refine (takeText_few A1 l1 c1 wr h2).mono ?_
      rintro e w' ⟨rfl, rfl⟩
      go_wp2_with fail
      go_ret2
      exact ⟨none, 0, 0, rfl, Og.nil _ _ _, kr⟩
    by_cases h3 : l1 < 2 + val (rest.take 2)
    · have hR : R = none := by
        rw [hx.out, textsF_short (by rw [hlen.out]; omega) (by rw [hlen.out]; exact h3)]
        rfl
      subst hR
      clear hx
      go_wp2_with fail
      refine (takeText_short A1 rest l1 c1 wr hsl (by omega) (by omega) h3).mono ?_
      rintro e w' ⟨rfl, rfl⟩
      go_wp2_with fail
      go_ret2
      exact ⟨none, 0, 0, rfl, Og.nil _ _ _, kr⟩
    · have hstep := textsF_step (bs := rest) (by rw [hlen.out]; omega) (by rw [hlen.out]; omega)
      rw [hstep] at hx
      have hT := takeText_new A1 rest l1 c1 wr hsl (by omega) (by omega) _ (Lib.hid rfl) _ (Lib.hid rfl) (by omega)
      have HT := Lib.hid hT
      clear hT hstep
      generalize hv : val (rest.take 2) = v at *
      generalize hs : (⟨((rest.take (2 + v)).drop 2).toArray⟩ : ByteArray) = s at *
      have hdl : (rest.drop (2 + v)).length = l1 - (2 + v) := by rw [List.length_drop, hlen.out]
      have HD := Lib.hid hdl
      clear hdl hv hs
      go_wp2_with fail
      refine HT.out.mono ?_
      rintro e w3 ⟨A3, l3, rfl, hsl3, hf3, k3⟩
      obtain rfl : l3 = l1 - (2 + v) := by rw [← HD.out]; exact hsl3.len.symm
      have ho3 := ho.next k3
      have kr3 := kp_trans kr k3
      have hz3 := kr3.size
      go_wp2_with (at_builtin; refine wpList_append_rd rfl _ _ _ rfl w.heap.size 9 i0 _ 16 Tryd.underlying23 hi hz0 hz1 hz2 rfl _ n _ rfl (ho3.next (kp_new _ _)).own (w3.heap.size + 1) _ _ _ [_] rfl rfl (Rd.new _ _ _) (by simp [Value.oneCell']) (by unfold maxLen; omega) (by omega) (by simp; omega) ?_; intro v5 w5 hown5 hg5; obtain ⟨A5, c5, rfl, ho5⟩ := Og.mk' hown5)
      have hb5 : Below w.heap.size w w5 := (kp_alloc kr3 _).trans (below_own (ho3.next (kp_new _ _)).own hg5 (by simp; omega))
      have hsl5 : Sl w5 w5.heap.size A3 (l1 - (2 + v)) (l1 - (2 + v)) (rest.drop (2 + v)) := ((hsl3.next (kp_new w3 _)).grown (Nat.le_refl _) hg5 (fun ad e h => by have h1 := hf3 ad e; have h2 := (ho.own.lt _ h.symm).2; omega)).more hg5.size
      go_roundw
      case rel => exact ⟨A3, _, _, _, A5, n + 1, c5, done ++ [s], rfl, rfl, by omega, hsl5, by simpa [svs] using ho5, Lib.hid (by rw [hx.out]; cases textsF (rest.drop (2 + v)) <;> simp), hb5⟩
      case measure => simp [lenS]; omega

/-- a block of one cell -/
theorem one_cell {w : World} {b : Nat} {x : Value} {t : TypeId} (h : w.heap[b]? = some (.cells #[x] t (0, 0))) : w.cell? ⟨b, 0, none⟩ = some x ∧ w.frozen? ⟨b, 0, none⟩ = false := by
  refine ⟨?_, ?_⟩
  · rw [cell_of_row _ _ 0 #[x] t (0, 0) h]; rfl
  · simp [World.frozen?, h]
theorem one_set {w : World} {b : Nat} {x : Value} {t : TypeId} (h : w.heap[b]? = some (.cells #[x] t (0, 0))) (u : Value) : (w.setCell ⟨b, 0, none⟩ u).heap[b]? = some (.cells #[u] t (0, 0)) := by
  simp [World.setCell, Array.getElem?_modify, h]
theorem three_set {w : World} {b : Nat} {x y z : Value} {t : TypeId} (h : w.heap[b]? = some (.cells #[x, y, z] t (0, 0))) (u : Value) :
    (w.setCell ⟨b, 0, none⟩ u).heap[b]? = some (.cells #[u, y, z] t (0, 0)) ∧ (w.setCell ⟨b, 1, none⟩ u).heap[b]? = some (.cells #[x, u, z] t (0, 0)) ∧ (w.setCell ⟨b, 2, none⟩ u).heap[b]? = some (.cells #[x, y, u] t (0, 0)) := by
  refine ⟨?_, ?_, ?_⟩ <;> simp [World.setCell, Array.getElem?_modify, h]

set_option maxHeartbeats 400000 in
theorem closure_short (w : World) (bm bR : Nat) (A : Option Addr) (l c size : Nat) (hR : w.heap[bR]? = some (.cells #[.slice A l c] 26 (0, 0))) (h1 : 1 ≤ size) (h8 : size ≤ 8) (hs : l < size) :
    Calls Tryd.prog 45 #[.int .i64 size, .pointer (some ⟨bR, 0, none⟩), .pointer (some ⟨bm, 0, none⟩)] w fun e w' => e = .returned (.bool false) ∧ w = w' := by
  obtain ⟨c0, f0⟩ := one_cell hR
  have hT := take_short A l c size w h1 h8 hs
  have HT := Lib.hid hT
  clear hR hT
  go_enter Tryd.func45, Tryd.ntmps45
  go_wp2_with fail
  refine HT.out.mono ?_
  rintro e w' ⟨rfl, rfl⟩
  go_wp2_with fail
  go_ret
  exact ⟨rfl, rfl⟩

set_option maxHeartbeats 1000000 in
theorem closure_ok (w : World) (bm bR base : Nat) (A : Option Addr) (l c size : Nat) (bs : List UInt8) (K T : Value) (A2 : Option Addr) (n c2 : Nat) (ns : List Nat)
    (hM : w.heap[bm]? = some (.cells #[K, .slice A2 n c2, T] 25 (0, 0))) (hR : w.heap[bR]? = some (.cells #[.slice A l c] 26 (0, 0))) (hne : bm ≠ bR) (hbm : bm < base) (hbR : bR < base) (hbw : base ≤ w.heap.size)
    (hr : Sl w w.heap.size A l c bs) (ho : Og 63 w base A2 n c2 (uvs ns)) (h1 : 1 ≤ size) (h8 : size ≤ 8) (hs : size ≤ l) (hl : l ≤ 100000) (hn : n ≤ 100000) (B : Nat) (hB : B ≤ bm) (hB' : B ≤ bR) :
    Calls Tryd.prog 45 #[.int .i64 size, .pointer (some ⟨bR, 0, none⟩), .pointer (some ⟨bm, 0, none⟩)] w fun e w' => e = .returned (.bool true) ∧ ∃ A3 A4 c4,
      w'.heap[bm]? = some (.cells #[K, .slice A4 (n + 1) c4, T] 25 (0, 0)) ∧ w'.heap[bR]? = some (.cells #[.slice A3 (l - size) (l - size)] 26 (0, 0)) ∧
      Sl w' w'.heap.size A3 (l - size) (l - size) (bs.drop size) ∧ Og 63 w' base A4 (n + 1) c4 (uvs (ns ++ [val (bs.take size)])) ∧ Below B w w' := by
  obtain ⟨i0, hi, hz0, hz1, hz2⟩ := info_parts u64info
  obtain ⟨c0, f0⟩ := one_cell hR
  have hT := take_new A bs l c size w hr (by omega) h1 h8 hs _ (Lib.hid rfl)
  have HT := Lib.hid hT
  have HM := Lib.hid hM
  have HR := Lib.hid hR
  have hdl : (bs.drop size).length = l - size := by rw [List.length_drop, hr.len]
  have HD := Lib.hid hdl
  have hmw : bm < w.heap.size := by omega
  have hRw : bR < w.heap.size := by omega
  clear hM hR hT hdl
  generalize val (bs.take size) = v at *
  go_enter Tryd.func45, Tryd.ntmps45
  go_wp2_with fail
  refine HT.out.mono ?_
  rintro e w3 ⟨A3, l3, rfl, hsl3, hf3, k3⟩
  obtain rfl : l3 = l - size := by rw [← HD.out]; exact hsl3.len.symm
  have hM3 := (k3.block bm hmw).trans HM.out
  have hR3 := (k3.block bR hRw).trans HR.out
  obtain ⟨x0, x1, x2, g0, g1, g2⟩ := three_cells hM3
  obtain ⟨y0, e0⟩ := one_cell hR3
  have ho3 := ho.next k3
  have hz3 := k3.size
  have HM3 := Lib.hid hM3
  have HR3 := Lib.hid hR3
  clear hM3 hR3 c0 f0
  have hbw3 : base ≤ w3.heap.size := by omega
  go_wp2_with (at_builtin; refine wpList_append_rd rfl _ _ _ rfl base 63 i0 _ 8 Tryd.underlying22 hi hz0 hz1 hz2 rfl _ n _ rfl (ho3.next (kp_new _ _)).own (w3.heap.size + 1) _ _ _ [_] rfl rfl (Rd.new _ _ _) (by simp [Value.oneCell']) (by unfold maxLen; omega) (by omega) (by simp; omega) ?_; intro v5 w5 hown5 hg5; obtain ⟨A5, c5, rfl, ho5⟩ := Og.mk' hown5; have hb5 : Below base w3 w5 := ((Below.refl _ _).alloc hbw3 _).trans (below_own (ho3.next (kp_new _ _)).own hg5 (by simp; omega)); obtain ⟨u0, u1, u2, q0, q1, q2⟩ := three_cells ((hb5.block bm hbm).trans HM3.out); obtain ⟨p0, s0⟩ := one_cell ((hb5.block bR hbR).trans HR3.out))
  go_ret
  have hM5 := (hb5.block bm hbm).trans HM3.out
  have hR5 := (hb5.block bR hbR).trans HR3.out
  have hsl5 : Sl w5 w5.heap.size A3 (l - size) (l - size) (bs.drop size) := ((hsl3.next (kp_new w3 _)).grown (Nat.le_refl _) hg5 (fun ad e h => by have h1 := hf3 ad e; have h2 := (ho.own.lt _ h.symm).2; omega)).more hg5.size
  have hf5 : Fresh base A3 := hf3.less hbw
  refine ⟨rfl, A3, A5, c5, ?_, ?_, ?_, ?_, ?_⟩
  · rw [Below.heap_setCell _ _ _ _ hne]
    exact (three_set hM5 _).2.1
  · exact one_set ((Below.heap_setCell _ _ _ _ (fun h => hne h.symm)).trans hR5) _
  · have h6 := (hsl5.setCell ⟨bm, 1, none⟩ (.slice A5 (n + 1) c5) (fun ad e => by have := hf5 ad e; simp only; omega)).setCell ⟨bR, 0, none⟩ (.slice A3 (l - size) (l - size)) (fun ad e => by have := hf5 ad e; simp only; omega)
    exact h6.more (by simp [World.setCell])
  · have := (ho5.setCell (a := ⟨bm, 1, none⟩) hbm (.slice A5 (n + 1) c5)).setCell (a := ⟨bR, 0, none⟩) hbR (.slice A3 (l - size) (l - size))
    simpa [uvs] using this
  · exact (((k3.mono (by omega)).trans (hb5.mono (by omega))).setCell hB _).setCell hB' _
end Go.Proofs.YtmklmakcampbbaaDoor
