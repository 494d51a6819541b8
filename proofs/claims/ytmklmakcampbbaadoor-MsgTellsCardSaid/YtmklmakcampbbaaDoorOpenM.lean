/-
  Arguments that are messages, and rows of messages, opened; the table of package msg, as the row's condition lays it.
-/
import Derived.Test.YtmklmakcampbbaaDoorOpenF
import Derived.Test.YtmklmakcampbbaaDoorMsgB
import Derived.LaidMore
import Derived.OpenShut
namespace Go.Proofs.YtmklmakcampbbaaDoor
open Go.RowKit Go.ChangeShapes Go.WideShapes Go.ChangeAt
set_option maxRecDepth 100000

instance : Inhabited Mg := ⟨⟨0, none, 0, 0, [], none, 0, 0, []⟩⟩

section
variable {H : Type} {enc : TypeId × Value → H} {P : Program} {W : World}
theorem flat_u64s : ∀ ns : List Nat, ns.flatMap (fun n : Nat => [Value.int .u64 (n : Int)]) = uvs ns
  | [] => rfl
  | n :: r => congrArg (Value.int .u64 (n : Int) :: ·) (flat_u64s r)
theorem flat_strs : ∀ ts : List ByteArray, ts.flatMap (fun t => [Value.string t]) = svs ts
  | [] => rfl
  | t :: r => congrArg (Value.string t :: ·) (flat_strs r)
theorem open_u64s_cells {fuel : Nat} {cs : List Value} {t e : TypeId} {x : DataW H × List MemPlace} (ht : P.underlying t = some (.slice e)) (he : P.underlying e = some (.int .u64)) (hc : P.cellsOf e = 1) (hby : P.bytesOf e = 8)
    (h : DataW.trod enc P W 0 (fun _ => true) true fuel t cs = some x) (hw : Light P t x.1) :
    ∃ A l c, ∃ ns : List Nat, cs = [.slice A l c] ∧ Sg W W.heap.size A l c (uvs ns) ∧ (∀ n ∈ ns, n < 18446744073709551616) ∧ c * 8 ≤ 140737488351232 := by
  obtain ⟨A, l, c, ns, rfl, hl, hr, hok, hlc, hm⟩ := open_rows (R := Nat) (cells := fun n : Nat => [Value.int .u64 (n : Int)]) (OK := fun n => n < 18446744073709551616) ht hc hby (by omega) (fun n cs' x' h' _ => by
    obtain ⟨n, rfl, _, hw⟩ := DataW.trod_int he h'
    obtain ⟨m, rfl, hm⟩ := wfu64 hw
    exact ⟨m, rfl, hm⟩) h hw
  rw [flat_u64s] at hr
  exact ⟨A, l, c, ns, rfl, ⟨hr, by rw [uvs_length]; exact hl, hlc⟩, hok, hm⟩
theorem open_strs_cells {fuel : Nat} {cs : List Value} {t e : TypeId} {x : DataW H × List MemPlace} (ht : P.underlying t = some (.slice e)) (he : P.underlying e = some .string) (hc : P.cellsOf e = 1) (hby : P.bytesOf e = 16)
    (h : DataW.trod enc P W 0 (fun _ => true) true fuel t cs = some x) (hw : Light P t x.1) :
    ∃ A l c, ∃ ts : List ByteArray, cs = [.slice A l c] ∧ Sg W W.heap.size A l c (svs ts) ∧ c * 16 ≤ 140737488351232 := by
  obtain ⟨A, l, c, ts, rfl, hl, hr, _, hlc, hm⟩ := open_rows (R := ByteArray) (cells := fun t => [Value.string t]) (OK := fun _ => True) ht hc hby (by omega) (fun n cs' x' h' _ => by
    obtain ⟨s, rfl, _, _⟩ := DataW.trod_string he h'
    exact ⟨s, rfl, trivial⟩) h hw
  rw [flat_strs] at hr
  exact ⟨A, l, c, ts, rfl, ⟨hr, by rw [svs_length]; exact hl, hlc⟩, hm⟩
end

def Mg.cells (m : Mg) : List Value := [.int .i64 m.k, .slice m.A m.l m.c, .slice m.A' m.l' m.c']
/-- a message's rows within reach -/
structure Mw (m : Mg) : Prop where
  c : m.c * 8 ≤ 140737488351232
  c' : m.c' * 16 ≤ 140737488351232
  k : -9223372036854775808 ≤ m.k ∧ m.k ≤ 9223372036854775807

section
variable {H : Type} {enc : TypeId × Value → H} {W : World}
theorem open_msg_cells {fuel : Nat} {cs : List Value} {x : DataW H × List MemPlace} (h : DataW.trod enc Tryd.prog W 0 (fun _ => true) true fuel 25 cs = some x) (hw : Light Tryd.prog 25 x.1) :
    ∃ m : Mg, cs = m.cells ∧ MR W m ∧ Mw m := by
  obtain ⟨xs, n, _, rfl, hl, hlen, hf⟩ := DataW.trod_struct Tryd.underlying25 h
  have h2 : Tryd.prog.cellsOf 25 = 3 := by kernel_rfl
  rw [h2] at hl
  match cs, hl with
  | [v0, v1, v2], _ =>
    simp only [Array.size] at hlen
    match xs, hlen with
    | [y0, y1, y2], _ =>
      have c1 : Tryd.prog.cellsOf 3 = 1 := by kernel_rfl
      have c2 : Tryd.prog.cellsOf 22 = 1 := by kernel_rfl
      have c3 : Tryd.prog.cellsOf 23 = 1 := by kernel_rfl
      have e0 : DataW.trod enc Tryd.prog W 0 (fun _ => true) true n 3 (([v0, v1, v2].drop 0).take (Tryd.prog.cellsOf 3)) = some y0 := hf 0 _ rfl
      have e1 : DataW.trod enc Tryd.prog W 0 (fun _ => true) true n 22 (([v0, v1, v2].drop 1).take (Tryd.prog.cellsOf 22)) = some y1 := hf 1 _ rfl
      have e2 : DataW.trod enc Tryd.prog W 0 (fun _ => true) true n 23 (([v0, v1, v2].drop 2).take (Tryd.prog.cellsOf 23)) = some y2 := hf 2 _ rfl
      have hw1 : Light Tryd.prog 22 y1.1 := hw.field (j := 1) Tryd.underlying25 rfl rfl
      have hw2 : Light Tryd.prog 23 y2.1 := hw.field (j := 2) Tryd.underlying25 rfl rfl
      rw [c1] at e0
      rw [c2] at e1
      rw [c3] at e2
      obtain ⟨k, hk, _, hwf⟩ := DataW.trod_int (k := .i64) Tryd.underlying3 (show DataW.trod enc Tryd.prog W 0 (fun _ => true) true n 3 [v0] = some y0 from e0)
      obtain ⟨A, l, c, ns, h1, s1, u1, b1⟩ := open_u64s_cells Tryd.underlying22 Tryd.underlying63 (by kernel_rfl) (by kernel_rfl) (show DataW.trod enc Tryd.prog W 0 (fun _ => true) true n 22 [v1] = some y1 from e1) hw1
      obtain ⟨A', l', c', ts, h2, s2, b2⟩ := open_strs_cells Tryd.underlying23 Tryd.underlying9 (by kernel_rfl) (by kernel_rfl) (show DataW.trod enc Tryd.prog W 0 (fun _ => true) true n 23 [v2] = some y2 from e2) hw2
      simp only [List.cons.injEq, and_true] at hk h1 h2
      subst hk h1 h2
      exact ⟨⟨k, A, l, c, ns, A', l', c', ts⟩, rfl, ⟨s1, s2, u1⟩, ⟨b1, b2, wf64 hwf⟩⟩

theorem open_msg {r : Reach} {b0 : Nat} {v : Value} {d : DataW H} {ps : List MemPlace} (hval : Value.okWide Tryd.prog W r b0 25 v) (h : DataW.Trod enc Tryd.prog W 0 (fun _ => true) true 25 v d ps) (hw : Light Tryd.prog 25 d) :
    ∃ m : Mg, v = m.v ∧ MR W m ∧ Mw m := by
  obtain ⟨cs, rfl, hsz⟩ := okWide_struct Tryd.underlying25 hval
  obtain ⟨fuel, hf⟩ := h
  obtain ⟨m, hm, h1, h2⟩ := open_msg_cells hf hw
  refine ⟨m, ?_, h1, h2⟩
  have : cs = m.cells.toArray := by
    have h2 : cs.toList = m.cells := hm
    rw [← h2]
  rw [this]
  rfl

/-- a row of messages -/
theorem open_msgs {r : Reach} {b0 : Nat} {v : Value} {d : DataW H} {ps : List MemPlace} (hval : Value.okWide Tryd.prog W r b0 54 v) (h : DataW.Trod enc Tryd.prog W 0 (fun _ => true) true 54 v d ps) (hw : Light Tryd.prog 54 d) :
    ∃ A l c, ∃ ms : List Mg, v = .slice A l c ∧ ms.length = l ∧ Rd W W.heap.size A (ms.flatMap Mg.cells) ∧ (∀ m ∈ ms, MR W m ∧ Mw m) ∧ l ≤ c ∧ c * 56 ≤ 140737488351232 := by
  obtain ⟨a, l, c, rfl⟩ := okWide_slice Tryd.underlying54 hval
  obtain ⟨fuel, hf⟩ := h
  obtain ⟨A, l', c', ms, hcs, hl, hr, hok, hlc, hm⟩ := open_rows (R := Mg) (cells := Mg.cells) (size := 3) (OK := fun m => MR W m ∧ Mw m) Tryd.underlying54 (by kernel_rfl) (by kernel_rfl) (by omega)
    (fun n cs' x' h' hw' => open_msg_cells h' hw') hf hw
  have hcs' : [Value.slice a l c] = [Value.slice A l' c'] := hcs
  simp only [List.cons.injEq, Value.slice.injEq, and_true] at hcs'
  obtain ⟨rfl, rfl, rfl⟩ := hcs'
  exact ⟨a, l, c, ms, rfl, hl, hr, hok, hlc, hm⟩
end

theorem gShapes : Tryd.prog.globalNamed "signalman/msg.shapes" = some 0 := by kernel_rfl
theorem tShapes : (Tryd.prog.globals[0]?).map (·.type) = some 87 := by kernel_rfl
def laidM : List (String × DataW Unit) := [("signalman/msg.shapes", Rows.laid_signalman_msg_shapes)]
theorem laid_at : ∀ k, k < 15 → ∃ L : List (DataW Unit), (Rows.laid_signalman_msg_shapes : DataW Unit) = .agg L ∧ L[k]? = some (.agg [.agg [.lit (.int .i64 (sz k 0)), .lit (.int .i64 (sz k 1)), .lit (.int .i64 (sz k 2))], .lit (.int .i64 (tx k))]) := by
  intro k hk
  refine ⟨_, rfl, ?_⟩
  rcases (by omega : k = 0 ∨ k = 1 ∨ k = 2 ∨ k = 3 ∨ k = 4 ∨ k = 5 ∨ k = 6 ∨ k = 7 ∨ k = 8 ∨ k = 9 ∨ k = 10 ∨ k = 11 ∨ k = 12 ∨ k = 13 ∨ k = 14) with rfl | rfl | rfl | rfl | rfl | rfl | rfl | rfl | rfl | rfl | rfl | rfl | rfl | rfl | rfl <;> rfl

theorem shape_cells {enc : TypeId × Value → Unit} {W : World} {sp : Nat → Bool} {held : Bool} {fuel : Nat} {cs : List Value} {x : DataW Unit × List MemPlace} {a b c d : Int} (h : DataW.trod enc Tryd.prog W 0 sp held fuel 86 cs = some x)
    (hx : x.1 = .agg [.agg [.lit (.int .i64 a), .lit (.int .i64 b), .lit (.int .i64 c)], .lit (.int .i64 d)]) : cs = [.int .i64 a, .int .i64 b, .int .i64 c, .int .i64 d] := by
  obtain ⟨xs, n, _, rfl, hl, hlen, hf⟩ := DataW.trod_struct Tryd.underlying86 h
  have h2 : Tryd.prog.cellsOf 86 = 4 := by kernel_rfl
  have c1 : Tryd.prog.cellsOf 3 = 1 := by kernel_rfl
  have c3 : Tryd.prog.cellsOf 84 = 3 := by kernel_rfl
  rw [h2] at hl
  match cs, hl with
  | [v0, v1, v2, v3], _ =>
    simp only [Array.size] at hlen
    match xs, hlen with
    | [y0, y1], _ =>
      have e0 : DataW.trod enc Tryd.prog W 0 sp held n 84 (([v0, v1, v2, v3].drop 0).take (Tryd.prog.cellsOf 84)) = some y0 := hf 0 _ rfl
      have e1 : DataW.trod enc Tryd.prog W 0 sp held n 3 (([v0, v1, v2, v3].drop 3).take (Tryd.prog.cellsOf 3)) = some y1 := hf 1 _ rfl
      rw [c3] at e0
      rw [c1] at e1
      obtain ⟨zs, m, _, rfl, _, hzl, hz⟩ := DataW.trod_array Tryd.underlying84 (show DataW.trod enc Tryd.prog W 0 sp held n 84 [v0, v1, v2] = some y0 from e0)
      match zs, hzl with
      | [z0, z1, z2], _ =>
        have g0 := hz 0 (by omega)
        have g1 := hz 1 (by omega)
        have g2 := hz 2 (by omega)
        rw [c1] at g0 g1 g2
        obtain ⟨n0, h0, r0, _⟩ := DataW.trod_int (k := .i64) Tryd.underlying3 (show DataW.trod enc Tryd.prog W 0 sp held m 3 [v0] = some z0 from g0)
        obtain ⟨n1, h1, r1, _⟩ := DataW.trod_int (k := .i64) Tryd.underlying3 (show DataW.trod enc Tryd.prog W 0 sp held m 3 [v1] = some z1 from g1)
        obtain ⟨n2, h2, r2, _⟩ := DataW.trod_int (k := .i64) Tryd.underlying3 (show DataW.trod enc Tryd.prog W 0 sp held m 3 [v2] = some z2 from g2)
        obtain ⟨n3, h3, r3, _⟩ := DataW.trod_int (k := .i64) Tryd.underlying3 (show DataW.trod enc Tryd.prog W 0 sp held n 3 [v3] = some y1 from e1)
        subst r0 r1 r2 r3
        simp only [List.map_cons, List.map_nil, DataW.agg.injEq, List.cons.injEq, DataW.lit.injEq, Lit.int.injEq, true_and, and_true] at hx h0 h1 h2 h3
        obtain ⟨⟨rfl, rfl, rfl⟩, rfl⟩ := hx
        rw [h0, h1, h2, h3]

theorem lay_of_laid {W : World} (h : laidMetH Tryd.prog laidM W) : Lay W := by
  rw [MakeChecks.laidMetH_plain _ _ _ (by kernel_rfl)] at h
  obtain ⟨ps, ⟨g0, t0, cs0, f0, p0, q0, hg0, ht0, hv0, hd0, _, _⟩, _, _⟩ := h
  obtain rfl := Option.some.inj (gShapes.symm.trans hg0)
  obtain rfl := Option.some.inj (tShapes.symm.trans ht0)
  obtain ⟨xs, m1, rfl, hx1, hlen, hn, hel⟩ := DataW.trod_array Tryd.underlying87 hd0
  have c4 : Tryd.prog.cellsOf 86 = 4 := by kernel_rfl
  have c60 : Tryd.prog.cellsOf 87 = 60 := by kernel_rfl
  rw [c60] at hlen
  have key : ∀ k, k < 15 → (cs0.toList.drop (k * 4)).take 4 = [.int .i64 (sz k 0), .int .i64 (sz k 1), .int .i64 (sz k 2), .int .i64 (tx k)] := by
    intro k hk
    have h1 := hel k hk
    rw [c4] at h1
    obtain ⟨x, hx⟩ : ∃ x, xs[k]? = some x := ⟨_, List.getElem?_eq_getElem (by omega)⟩
    rw [hx] at h1
    obtain ⟨L, hL, hLk⟩ := laid_at k hk
    refine shape_cells h1 ?_
    have h2 : DataW.agg (xs.map (·.1)) = .agg L := by
      rw [← hL]
      simp only [Prod.mk.injEq] at hx1
      exact hx1.1.symm
    injection h2 with h2
    have h3 : (xs.map (·.1))[k]? = L[k]? := by rw [h2]
    rw [List.getElem?_map, hx, hLk] at h3
    simpa using h3
  have cell : ∀ i, W.cell? ⟨0, i, none⟩ = cs0.toList[i]? := fun i => by
    rw [World.var?_cell hg0 hv0 i, Array.getElem?_toList]
  have at_ : ∀ k, k < 15 → ∀ j, j < 4 → cs0.toList[k * 4 + j]? = ([.int .i64 (sz k 0), .int .i64 (sz k 1), .int .i64 (sz k 2), .int .i64 (tx k)] : List Value)[j]? := fun k hk j hj => by
    rw [← key k hk, List.getElem?_take_of_lt hj, List.getElem?_drop]
  refine ⟨World.block_lt_of_cell? W ⟨0, 0, none⟩ (u := .int .i64 (sz 0 0)) (by rw [cell, show (0 : Nat) = 0 * 4 + 0 from rfl, at_ 0 (by omega) 0 (by omega)]; rfl), fun k hk => ⟨?_, ?_, ?_, ?_⟩⟩
  · rw [cell, show k * 4 = k * 4 + 0 from rfl, at_ k hk 0 (by omega)]; rfl
  · rw [cell, at_ k hk 1 (by omega)]; rfl
  · rw [cell, at_ k hk 2 (by omega)]; rfl
  · rw [cell, at_ k hk 3 (by omega)]; rfl

/-- the door's own heap meets the condition -/
theorem door_met (os : Os) (args : Array Value) : laidMetH Tryd.prog laidM ((World.doorLaid Tryd.prog 2000 os).forCall (fun _ _ => 0) ⟨#[], args, []⟩).memory :=
  laidMetH_of_parts3 (fuel := 8) (laidMet_of_run' 8 (by kernel_rfl) (by kernel_rfl)) (by kernel_rfl) (by kernel_rfl)
end Go.Proofs.YtmklmakcampbbaaDoor
