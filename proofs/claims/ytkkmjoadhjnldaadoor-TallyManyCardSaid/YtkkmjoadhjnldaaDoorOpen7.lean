/-
  Rows of truths, opened; the table of the powers of ten, out of the row's laid condition.
-/
import Derived.Test.YtkkmjoadhjnldaaDoorOpenA
import Derived.Test.YtkkmjoadhjnldaaDoorTaK
import Derived.Lib.LaidTab
namespace Go.Proofs.YtkkmjoadhjnldaaDoor
open Go.RowKit Go.ChangeShapes Go.WideShapes Go.ChangeAt
set_option maxRecDepth 100000

theorem tab_of_laid {W : World} (h : laidMetH Tryd.prog [("math/bits.deBruijn32tab", Rows.laid_math_bits_deBruijn32tab), ("math/bits.deBruijn64tab", Rows.laid_math_bits_deBruijn64tab), ("internal/strconv.uint64pow10", Rows.laid_internal_strconv_uint64pow10)] W) :
    Lib.TabIs Tryd.prog W tabName .u64 Lib.pow10Tab := by
  rw [MakeChecks.laidMetH_plain _ _ _ (by kernel_rfl)] at h
  obtain ⟨ps, ⟨_, _, _, _, _, q1, _, _, _, _, ⟨_, _, _, _, _, q2, _, _, _, _, ⟨g, t, cs, fuel, p, q, hg, ht, hv, hd, _, _⟩, _⟩, _⟩, _⟩ := h
  obtain rfl := Option.some.inj ((show Tryd.prog.globalNamed "internal/strconv.uint64pow10" = some 0 by kernel_rfl).symm.trans hg)
  obtain rfl := Option.some.inj ((show (Tryd.prog.globals[0]?).map (·.type) = some 92 by kernel_rfl).symm.trans ht)
  have hd' : DataW.trod (fun _ => ()) Tryd.prog W 0 (fun _ => true) false fuel 92 cs.toList = some (Lib.tabData .u64 Lib.pow10Tab, p) := hd
  have h2 := Lib.cells_of_tab Tryd.underlying92 Tryd.underlying81 (by kernel_rfl) (by kernel_rfl) hd'
  unfold Lib.TabIs tabName
  rw [hv, ← h2]

/-- a row of truths that is read -/
structure BR (w : World) (A : Option Addr) (n : Nat) (bs : List Bool) : Prop where
  len : bs.length = n
  rd : Rd w w.heap.size A (bs.map Value.bool)
theorem BR.at_ {w : World} {A : Option Addr} {n : Nat} {bs : List Bool} (h : BR w A n bs) {j : Nat} (hj : j < bs.length) : ∃ ad, A = some ad ∧ ad.block < w.heap.size ∧ ∀ w', Below w.heap.size w w' → w'.cell? (ad.add j) = some (.bool bs[j]) := by
  obtain ⟨ad, hA, hb, hc⟩ := h.rd.at_ (k := j) (by rw [List.length_map]; exact hj)
  refine ⟨ad, hA, hb, fun w' hw => ?_⟩
  rw [hw.cell (by rw [add_block]; exact hb), hc]
  simp
/-- a row of numbers that is read -/
structure NR (w : World) (A : Option Addr) (n : Nat) (zs : List Int) : Prop where
  len : zs.length = n
  rd : Rd w w.heap.size A (zs.map (Value.int .i64))
theorem NR.at_ {w : World} {A : Option Addr} {n : Nat} {zs : List Int} (h : NR w A n zs) {j : Nat} (hj : j < zs.length) : ∃ ad, A = some ad ∧ ad.block < w.heap.size ∧ ∀ w', Below w.heap.size w w' → w'.cell? (ad.add j) = some (.int .i64 zs[j]) := by
  obtain ⟨ad, hA, hb, hc⟩ := h.rd.at_ (k := j) (by rw [List.length_map]; exact hj)
  refine ⟨ad, hA, hb, fun w' hw => ?_⟩
  rw [hw.cell (by rw [add_block]; exact hb), hc]
  simp

section
variable {H : Type} {enc : TypeId × Value → H} {W : World}
theorem flat_bools : ∀ bs : List Bool, bs.flatMap (fun b => [Value.bool b]) = bs.map Value.bool
  | [] => rfl
  | b :: r => congrArg (Value.bool b :: ·) (flat_bools r)
theorem open_bools {r : Reach} {b0 : Nat} {v : Value} {d : DataW H} {ps : List MemPlace} (hval : Value.okWide Tryd.prog W r b0 41 v) (h : DataW.Trod enc Tryd.prog W 0 (fun _ => true) true 41 v d ps) (hw : Light Tryd.prog 41 d) :
    ∃ A l c bs, v = .slice A l c ∧ BR W A l bs := by
  obtain ⟨a, l, c, rfl⟩ := okWide_slice Tryd.underlying41 hval
  obtain ⟨fuel, hf⟩ := h
  obtain ⟨A, l', c', bs, hcs, hl, hr, _, _, _⟩ := open_rows (R := Bool) (cells := fun b => [Value.bool b]) (size := 1) (bytes := 1) (OK := fun _ => True) Tryd.underlying41 (by kernel_rfl) (by kernel_rfl) (by omega)
    (fun n cs' x' h' _ => by
      obtain ⟨b, hb, _⟩ := DataW.trod_bool Tryd.underlying4 h'
      exact ⟨b, hb, trivial⟩) hf hw
  have hcs' : [Value.slice a l c] = [Value.slice A l' c'] := hcs
  simp only [List.cons.injEq, Value.slice.injEq, and_true] at hcs'
  obtain ⟨rfl, rfl, rfl⟩ := hcs'
  rw [flat_bools] at hr
  exact ⟨a, l, c, bs, rfl, ⟨hl, hr⟩⟩
theorem open_i64s {r : Reach} {b0 : Nat} {v : Value} {d : DataW H} {ps : List MemPlace} (hval : Value.okWide Tryd.prog W r b0 32 v) (h : DataW.Trod enc Tryd.prog W 0 (fun _ => true) true 32 v d ps) (hw : Light Tryd.prog 32 d) :
    ∃ A l c zs, v = .slice A l c ∧ NR W A l zs ∧ ∀ z ∈ zs, -9223372036854775808 ≤ z ∧ z ≤ 9223372036854775807 := by
  obtain ⟨A, l, c, zs, hv, hl, hr, hb, _, _⟩ := open_ints_w Tryd.underlying32 Tryd.underlying2 (by kernel_rfl) (by kernel_rfl) hval h hw
  exact ⟨A, l, c, zs, hv, ⟨hl, hr⟩, hb⟩
end
end Go.Proofs.YtkkmjoadhjnldaaDoor
