/-
  Arguments that are slices of plain data, or structs of them, opened: rows of any elements.
-/
import Derived.Test.YtmohgfmknkfcaaaLaw
import Derived.Deep.Slices
import Derived.Lib.SmallJoins
namespace Go.Proofs.Ytmohgfmknkfcaaa
open Go.RowKit Go.ChangeShapes Go.WideShapes Go.ChangeAt

section
variable {H : Type} {enc : TypeId × Value → H} {P : Program} {W : World}

/-- cells behind cells are read -/
theorem reads_append {ad : Addr} {xs ys : List Value} (h1 : ∀ j u, xs[j]? = some u → W.cell? (ad.add j) = some u) (h2 : ∀ j u, ys[j]? = some u → W.cell? ((ad.add xs.length).add j) = some u) :
    ∀ j u, (xs ++ ys)[j]? = some u → W.cell? (ad.add j) = some u := by
  intro j u hu
  rcases Nat.lt_or_ge j xs.length with h | h
  · rw [List.getElem?_append_left h] at hu
    exact h1 j u hu
  · rw [List.getElem?_append_right h] at hu
    have := h2 _ u hu
    rwa [add_add, show xs.length + (j - xs.length) = j by omega] at this

/-- a row of elements of any kind, of 'size' cells each -/
theorem open_rows {R : Type} [Inhabited R] {t e : TypeId} {size fuel : Nat} {cs : List Value} {x : DataW H × List MemPlace} {cells : R → List Value} {OK : R → Prop}
    (ht : P.underlying t = some (.slice e)) (hsz : P.cellsOf e = size) (hpos : 0 < size)
    (he : ∀ n cs' x', DataW.trod enc P W 0 (fun _ => true) true n e cs' = some x' → ∃ r, cs' = cells r ∧ OK r)
    (h : DataW.trod enc P W 0 (fun _ => true) true fuel t cs = some x) :
    ∃ A l c, ∃ rs : List R, cs = [.slice A l c] ∧ rs.length = l ∧ Rd W W.heap.size A (rs.flatMap cells) ∧ (∀ r ∈ rs, OK r) ∧ l ≤ c ∧ c ≤ 9223372036854775807 := by
  rcases Go.Deep.open_slice ht h with ⟨rfl, _⟩ | ⟨a, len, cap, m, n, D, Pl, rfl, hb, hl, hm, hmm, rfl, hx⟩
  · exact ⟨none, 0, 0, [], rfl, rfl, .inl rfl, fun r hr => by simp at hr, Nat.le_refl _, by omega⟩
  simp only [if_true] at hmm
  subst hmm
  rw [hsz] at hx
  obtain ⟨r, hr⟩ := Go.Deep.choose_lt (α := R) (p := fun i r => W.cells? 0 (a.add (i * size)) size = some (cells r) ∧ OK r) (fun i hi => by
    obtain ⟨cs', h1, h2⟩ := hx i hi
    obtain ⟨r, rfl, hok⟩ := he _ _ _ h2
    exact ⟨r, h1, hok⟩)
  have key : ∀ k, k ≤ m → (((List.range k).map r).flatMap cells).length = k * size ∧ ∀ j u, (((List.range k).map r).flatMap cells)[j]? = some u → W.cell? (a.add j) = some u := by
    intro k
    induction k with
    | zero => intro _; exact ⟨by simp, fun j u hu => by simp at hu⟩
    | succ k ih =>
      intro hk
      obtain ⟨i1, i2⟩ := ih (by omega)
      obtain ⟨h1, _⟩ := hr k (by omega)
      obtain ⟨_, hlen, hcell⟩ := World.cells?_some h1
      rw [List.range_succ, List.map_append, List.flatMap_append]
      simp only [List.map_cons, List.map_nil, List.flatMap_cons, List.flatMap_nil, List.append_nil]
      refine ⟨by rw [List.length_append, i1, hlen]; rw [Nat.succ_mul], reads_append i2 fun j u hu => ?_⟩
      rw [i1]
      have hj : j < size := by rw [← hlen]; exact (List.getElem?_eq_some_iff.1 hu).1
      rw [hcell j hj]
      exact hu
  refine ⟨some a, len, m, (List.range len).map r, rfl, by simp, ?_, ?_, hl, by unfold maxLen at hm; omega⟩
  · rcases Nat.eq_zero_or_pos len with rfl | h0
    · exact .inl (by simp)
    · refine .inr ⟨a, rfl, ?_, (key len hl).2⟩
      have hne : 0 < (((List.range len).map r).flatMap cells).length := by rw [(key len hl).1]; exact Nat.mul_pos h0 hpos
      have := World.block_lt_of_cell? W _ ((key len hl).2 0 _ (List.getElem?_eq_getElem hne))
      rwa [add_block] at this
  · intro q hq
    obtain ⟨i, hi, rfl⟩ := List.mem_map.1 hq
    exact (hr i (by have := List.mem_range.1 hi; omega)).2

theorem flat_bytes : ∀ bs : List UInt8, bs.flatMap (fun b => [bv b]) = bvs bs
  | [] => rfl
  | b :: r => congrArg (bv b :: ·) (flat_bytes r)

/-- bytes, by their cells -/
theorem open_bytes_cells {fuel : Nat} {cs : List Value} {t e : TypeId} {x : DataW H × List MemPlace} (ht : P.underlying t = some (.slice e)) (he : P.underlying e = some (.int .u8)) (hc : P.cellsOf e = 1)
    (h : DataW.trod enc P W 0 (fun _ => true) true fuel t cs = some x) :
    ∃ A l c bs, cs = [.slice A l c] ∧ Sl W W.heap.size A l c bs ∧ c ≤ 9223372036854775807 := by
  obtain ⟨A, l, c, bs, rfl, hl, hr, _, hlc, hm⟩ := open_rows (R := UInt8) (cells := fun b => [bv b]) (OK := fun _ => True) ht hc (by omega) (fun n cs' x' h' => by
    obtain ⟨n, rfl, _, hw⟩ := DataW.trod_int he h'
    have hw2 : 0 ≤ n ∧ n ≤ 255 := by simpa [Lit.wf, IntKind.min, IntKind.max, IntKind.signed, IntKind.bits] using hw
    refine ⟨UInt8.ofNat n.toNat, ?_, trivial⟩
    simp only [bv, UInt8.toNat_ofNat']
    congr 2
    omega) h
  rw [flat_bytes] at hr
  exact ⟨A, l, c, bs, rfl, ⟨hr, hl, hlc⟩, hm⟩
end
end Go.Proofs.Ytmohgfmknkfcaaa
