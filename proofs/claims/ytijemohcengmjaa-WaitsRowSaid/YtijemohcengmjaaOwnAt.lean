/-
  A row of numbers that a call owns, from any place of its block on: appended to, its first one cut off (no function of the program is named here).
-/
import Derived.Test.YtijemohcengmjaaRowN
import Derived.Deep.AppendSrc
namespace Go.Proofs.Ytijemohcengmjaa
open Go.RowKit
set_option maxRecDepth 100000

/-- a row of the call's own: in no block under base, and not in block b -/
structure CO (w : World) (base b : Nat) (A : Option Addr) (n c : Nat) (zs : List Int) : Prop where
  len : zs.length = n
  le : n ≤ c
  at_ : c = 0 ∨ ∃ g off, A = some ⟨g, off, none⟩ ∧ base ≤ g ∧ g < w.heap.size ∧ g ≠ b ∧ (∀ j (hj : j < zs.length), w.cell? ⟨g, off + j, none⟩ = some (.int .i64 zs[j])) ∧
    ∀ j, j < c → (w.cell? ⟨g, off + j, none⟩).isSome = true ∧ w.frozen? ⟨g, off + j, none⟩ = false
/-- all but what the call owns of it is as it was -/
def Spare (base b : Nat) : Nat → Prop := fun k => base ≤ k ∧ k ≠ b

section
variable {w w' : World} {base b n c : Nat} {A : Option Addr} {zs : List Int}
theorem CO.nil (w : World) (base b : Nat) : CO w base b none 0 0 [] := ⟨rfl, Nat.le_refl _, .inl rfl⟩
theorem CO.off (h : CO w base b A n c zs) (ho : Off (fun k => k = b) w w') : CO w' base b A n c zs := by
  refine ⟨h.len, h.le, h.at_.imp id ?_⟩
  rintro ⟨g, off, hA, h1, h2, h3, h4, h5⟩
  have e := ho.block g h2 h3
  exact ⟨g, off, hA, h1, Nat.lt_of_lt_of_le h2 ho.size, h3, fun j hj => (World.cell?_of_block (a := ⟨g, off + j, none⟩) e).trans (h4 j hj),
    fun j hj => ⟨by rw [World.cell?_of_block (a := ⟨g, off + j, none⟩) e]; exact (h5 j hj).1, (World.frozen?_of_block (a := ⟨g, off + j, none⟩) e).trans (h5 j hj).2⟩⟩
theorem CO.next (h : CO w base b A n c zs) (hb : Below w.heap.size w w') : CO w' base b A n c zs := h.off (Off.of _ hb)
theorem CO.nr (h : CO w base b A n c zs) : NR w A n zs := by
  refine ⟨h.len, ?_⟩
  rcases h.at_ with h0 | ⟨g, off, rfl, h1, h2, h3, h4, h5⟩
  · have h1 := h.len
    have h2 := h.le
    have : zs = [] := List.eq_nil_of_length_eq_zero (by omega)
    subst this
    exact .inl rfl
  · refine .inr ⟨⟨g, off, none⟩, rfl, h2, fun j u hu => ?_⟩
    rw [Addr.add_lit]
    have hj : j < zs.length := by
      have := (List.getElem?_eq_some_iff.1 hu).1
      simpa using this
    rw [h4 j hj]
    simp [hj] at hu
    exact congrArg some hu
/-- the first one goes -/
theorem CO.tail {x : Int} (h : CO w base b A n c (x :: zs)) (P : Program) (t : TypeId) (ht : P.underlying t = some (.slice (P.elem t))) (hz : (P.info? (P.elem t)).map (·.size) = some 1) :
    ∃ A', (∀ u, (Instr.slice t (.slice A n c) (some (.int .i64 1)) none none).run P u = .ok (.slice A' (n - 1) (c - 1)) u) ∧ CO w base b A' (n - 1) (c - 1) zs := by
  have hl := h.len
  have hc := h.le
  rw [List.length_cons] at hl
  obtain ⟨ti, hti, hsz⟩ := Option.map_eq_some_iff.1 hz
  refine ⟨if c = 1 then A else A.map (·.add 1), fun u => ?_, by omega, by omega, ?_⟩
  · rw [run_slice_l u t A n c ht .i64 1 (by omega) (by omega)]
    simp [sizeOf, typeInfo, hti, hsz, sliced, Result.andThen]
  · by_cases h1 : c = 1
    · exact .inl (by omega)
    · refine .inr ?_
      rw [if_neg h1]
      rcases h.at_ with h0 | ⟨g, off, rfl, h1, h2, h3, h4, h5⟩
      · omega
      · refine ⟨g, off + 1, by rw [Option.map_some, Addr.add_lit], h1, h2, h3, fun j hj => ?_, fun j hj => ?_⟩
        · have := h4 (j + 1) (by simpa using hj)
          rw [show off + 1 + j = off + (j + 1) by omega, this]
          rfl
        · have := h5 (j + 1) (by omega)
          rwa [show off + 1 + j = off + (j + 1) by omega]
/-- one comes behind it -/
theorem CO.append (h : CO w base b A n c zs) (hb : b < w.heap.size) (hbase : base ≤ w.heap.size) {P : Program} (t ty e : TypeId) (i : TypeInfo) (z : Value) (bytes : Nat) (ht : P.underlying t = some (.slice e)) (hi : P.info? e = some i) (hz : i.zero = some z)
    (hsize : i.size = 1) (hby : i.bytes = bytes) (hzs : z.cells.size = 1) (ad : Addr) (c1 : Nat) (y : Int) (hy : w.cell? ad = some (.int .i64 y)) (hn : n + 1 ≤ 1000) (hbytes : bytes ≤ 1000) :
    ∃ A' c' w', (Builtin.append_ #[t, t] ty #[.slice A n c, .slice (some ad) 1 c1]).run P w = .ok (.slice A' (n + 1) c') w' ∧ CO w' base b A' (n + 1) c' (zs ++ [y]) ∧ Off (Spare base b) w w' := by
  subst hby
  have hl := h.len
  have hle := h.le
  have hs : Src P i.size t (.slice (some ad) 1 c1) 1 [.int .i64 y] w := Src.ofSlice w ht ad 1 c1 _ (by simp [hsize]) (fun j u hu => by
    match j, hu with
    | 0, hu =>
      rw [show ad.add 0 = ad from by unfold Addr.add; split <;> simp_all, hy]
      simpa using hu) (by simp [Value.oneCell'])
  by_cases hroom : n + 1 ≤ c
  · rcases h.at_ with h0 | ⟨g, off, rfl, h1, h2, h3, h4, h5⟩
    · omega
    have hr := run_append_room_src (P := P) w t t ty e i ht hi g off n c _ 1 [.int .i64 y] hs hroom (fun j hj => by
        obtain rfl : j = 0 := by simpa using hj
        rw [hsize, show off + n * 1 + 0 = off + n by omega]
        exact (h5 n (by omega)).1) (fun j hj => by
        obtain rfl : j = 0 := by simpa using hj
        rw [hsize, show off + n * 1 + 0 = off + n by omega]
        exact (h5 n (by omega)).2)
    rw [hsize, show off + n * 1 = off + n by omega] at hr
    refine ⟨_, _, _, hr, ⟨by simp [hl], hroom, .inr ⟨g, off, rfl, h1, ?_, h3, fun j hj => ?_, fun j hj => ⟨?_, ?_⟩⟩⟩, ?_⟩
    · show g < (w.setCell _ _).heap.size
      simpa [World.setCell] using h2
    · show (w.setCell ⟨g, off + n, none⟩ _).cell? _ = _
      rw [List.length_append, List.length_singleton] at hj
      by_cases hjn : j = n
      · subst hjn
        obtain ⟨u, hu⟩ := Option.isSome_iff_exists.1 (h5 j (by omega)).1
        rw [World.cell?_setCell_same _ _ _ hu]
        simp [← hl]
      · rw [World.cell?_setCell_other _ _ _ _ (fun e => hjn (by injection e with _ e _; omega)), h4 j (by omega), List.getElem_append_left (by omega)]
    · show ((w.setCell ⟨g, off + n, none⟩ _).cell? _).isSome = true
      by_cases hjn : j = n
      · subst hjn
        obtain ⟨u, hu⟩ := Option.isSome_iff_exists.1 (h5 j hj).1
        rw [World.cell?_setCell_same _ _ _ hu]
        rfl
      · rw [World.cell?_setCell_other _ _ _ _ (fun e => hjn (by injection e with _ e _; omega))]
        exact (h5 j hj).1
    · show (w.setCell ⟨g, off + n, none⟩ _).frozen? _ = false
      rw [World.frozen?_setCell]
      exact (h5 j hj).2
    · show Off (Spare base b) w (w.setCell ⟨g, off + n, none⟩ _)
      exact Off.setCell (Off.refl _ _) (.inl ⟨h1, h3⟩) _
  · have hg : c < n + 1 := by omega
    have hold : (Builtin.firstCells i.size n (.slice A n c)).run P w.drew = .ok (ivs zs).toArray w.drew := by
      rcases h.at_ with h0 | ⟨g, off, rfl, h1, h2, h3, h4, h5⟩
      · have hn0 : n = 0 := by omega
        have : zs = [] := List.eq_nil_of_length_eq_zero (by omega)
        subst this hn0
        cases A with
        | none => exact run_firstCells_none _ _ _ _ _
        | some a => exact run_firstCells_some _ _ _ _ _ _ [] (by simp) (fun j u hu => by simp at hu)
      · refine run_firstCells_some _ _ _ _ _ _ _ (by rw [ivs_length, hl, hsize]; omega) fun j u hu => ?_
        rw [Addr.add_lit]
        have hj : j < zs.length := by
          have := (List.getElem?_eq_some_iff.1 hu).1
          rwa [ivs_length] at this
        have e1 : w.drew.cell? ⟨g, off + j, none⟩ = some (.int .i64 zs[j]) := h4 j hj
        rw [e1]
        simp [ivs, hj] at hu
        exact congrArg some hu
    have hr := run_append_grow_src (P := P) w t t ty e i z ht hi hz A n c (ivs zs) hold _ 1 [.int .i64 y] hs hg (by omega) (growslice_fits hg (by
      have : (n + 1) * i.bytes ≤ 1000 * 1000 := Nat.mul_le_mul hn hbytes
      omega))
    have hge := grownCap_ge w (n + 1) c e
    generalize grownCap w (n + 1) c e = C at *
    have harr : ∀ j, j < (zs ++ [y]).length → ((ivs zs ++ [Value.int .i64 y]).toArray ++ Builtin.zeroCells z.cells (C - (n + 1)))[j]? = (ivs (zs ++ [y]))[j]? := fun j hj => by
      rw [Array.getElem?_append_left (by simp [ivs_length] at hj ⊢; omega), List.getElem?_toArray, ivs_append]
      rfl
    refine ⟨_, _, _, hr, ⟨by simp [hl], hge, .inr ⟨w.heap.size, 0, rfl, hbase, ?_, by omega, fun j hj => ?_, fun j hj => ⟨?_, ?_⟩⟩⟩, ?_⟩
    · show w.drew.heap.size < (w.drew.alloc _).heap.size
      simp
    · rw [Nat.zero_add]
      have := World.cell?_alloc_new w.drew ((ivs zs ++ [Value.int .i64 y]).toArray ++ Builtin.zeroCells z.cells (C - (n + 1))) e j
      rw [harr j hj] at this
      refine this.trans ?_
      unfold ivs
      rw [List.getElem?_map, List.getElem?_eq_getElem hj]
      rfl
    · rw [Nat.zero_add]
      have := World.cell?_alloc_new w.drew ((ivs zs ++ [Value.int .i64 y]).toArray ++ Builtin.zeroCells z.cells (C - (n + 1))) e j
      refine (congrArg Option.isSome this).trans ?_
      rw [Array.getElem?_eq_getElem (by simp [size_zeroCells, hzs, ivs_length]; omega)]
      rfl
    · rw [Nat.zero_add]
      exact World.frozen?_alloc_new w.drew _ e j
    · exact Off.of _ (kp_alloc (Below.refl w.heap.size w).drew _)
end

section
variable {P : Program} {w : World} {base b n c : Nat} {A : Option Addr} {zs : List Int}
/-- at the list of a plain region's operations -/
theorem wpList_append_co {ops : Array Oper} {rest : List Oper} {o : Oper} {a : Act} {Q : Exit → Act → World → Prop} (hw : Region.wanted o (yielded ops a.tmps) = true) (s x : Operand) (t : TypeId)
    (ho : o.op = .call { callee := .builtin .append, args := #[s, x], argTypes := #[t, t] })
    (e : TypeId) (i : TypeInfo) (z : Value) (bytes : Nat) (ht : P.underlying t = some (.slice e)) (hi : P.info? e = some i) (hz : i.zero = some z)
    (hsize : i.size = 1) (hby : i.bytes = bytes) (hzs : z.cells.size = 1) (hs : a.eval s = .slice A n c) (hco : CO w base b A n c zs) (hb : b < w.heap.size) (hbase : base ≤ w.heap.size)
    (ad : Addr) (c1 : Nat) (y : Int) (hx : a.eval x = .slice (some ad) 1 c1) (hy : w.cell? ad = some (.int .i64 y)) (hn : n + 1 ≤ 1000) (hbytes : bytes ≤ 1000)
    (h : ∀ A' c' w', CO w' base b A' (n + 1) c' (zs ++ [y]) → Off (Spare base b) w w' → wpList P ops Q rest (a.put o.dst (.slice A' (n + 1) c')) w') : wpList P ops Q (o :: rest) a w :=
  wpList_step fun _ hK => by
    rw [if_pos hw]
    obtain ⟨A', c', w', hrun, h2, h3⟩ := hco.append hb hbase (P := P) t o.type e i z bytes ht hi hz hsize hby hzs ad c1 y hy hn hbytes
    unfold Oper.wp execOp
    simp only [ho, resolve, invoke, builtin, Sem.run_bind, Sem.run_pure, Result.andThen_ok, List.map_toArray, List.map_cons, List.map_nil, hs, hx, hrun]
    exact hK _ _ (h A' c' w' h2 h3)
end
end Go.Proofs.Ytijemohcengmjaa
