/-
  Contracts and plain functions that the law stands on, part 24 of 24.
-/
import Derived.Test.YtdhnpmagapbmhaaGreatDoorQD23
import Derived.ProofKit
import Derived.OpenShut
import Derived.JoinedCond
import Derived.Deep.Slices
import Derived.Lib.SmallJoins
import Derived.SizedLaws
import Derived.Test.YtdhnpmagapbmhaaGreatDoorCards
import Derived.Test.YtdhnpmagapbmhaaGreatDoorTie
import Derived.Shelf.Vars
import Derived.SevenTiedAt
import Derived.Stop.Joined
import Derived.LaidMore
import Derived.Lay
import Derived.Handed
namespace Go.Proofs.YtdhnpmagapbmhaaGreatDoor
/- From a walk to a law's row: arguments opened, and shut behind a call that left alone what was there before it. -/
section
open Go.RowKit Go.ChangeShapes Go.WideShapes Go.ChangeAt
theorem own0 : ownKnob Tryz.prog.godebug = none := by kernel_rfl
theorem laid0 : laidOutB Tryz.prog = true := by kernel_rfl
section
variable {H : Type} {enc : TypeId × Value → H} {P : Program}
theorem trodAll_later {W W' : World} (hl : laidOutB P = true) (hb : Below W.heap.size W W') : ∀ (ts : List TypeId) (vs : List Value) (ds : List (DataW H)) (ps : List MemPlace),
 (∀ t ∈ ts, P.readableRec t = true ∧ t < P.types.size) → DataW.TrodAll enc P W 0 (fun _ => true) true ts vs ds ps → (∀ x ∈ ps, x.block < W.heap.size) →
 DataW.TrodAll enc P W' 0 (fun b => decide (b < W.heap.size)) true ts vs ds ps
 | [], vs, ds, ps, _, h, _ => by
   cases vs <;> cases ds <;> simp [DataW.TrodAll] at h ⊢
   exact h
 | t :: ts, vs, ds, ps, ht, h, hlt => by
   obtain ⟨v, vs', d, ds', p, q, rfl, rfl, rfl, h1, h2⟩ := trodAll_cons h; have h3 := Below.trod hl (ht t (by simp)).1 (ht t (by simp)).2 h1 hb (fun x hx => hlt x (by simp [hx])); have h4 := trodAll_later hl hb ts vs' ds' q (fun u hu => ht u (by simp [hu])) h2 (fun x hx => hlt x (by simp [hx])); exact trodAll_cons_mk h3 h4
theorem law_post {f : Func} {s : ChangeSpec} {tb : TypeId} {W W' : World} {args : Array Value} {ds gs : List (DataW H)} {before : List MemPlace}
 (hl : laidOutB P = true) (hts : ∀ t ∈ f.params.toList, P.readableRec t = true ∧ t < P.types.size) (hv : s.vars = []) (hrt : f.resultTypes = #[tb]) (htb : P.underlying tb = some .bool)
 (hW : DataW.Whole enc P f.params.toList s.vars false W args.toList ds gs before) (hfn : s.fn H (ds ++ gs) = { results := [.lit (.bool true)], args := ds })
 (hb : Below W.heap.size W W') : s.post enc P f false true false false W args (.bool true) W' := by
 have hlt : ∀ p ∈ before, p.block < W.heap.size := fun p hp => hW.lt p hp; have hW' := hW; obtain ⟨p, q, hA, hV, rfl, _, _⟩ := hW; rw [hv] at hV; obtain ⟨rfl, rfl⟩ := trodVars_none hV; refine ⟨ds, [], p ++ [], [], p, [], hW', ?_, ?_, ?_, World.keptBut_mono (fun x hx => ⟨hx, .inr (.inl (by simpa using hx))⟩) (hb.frame (· ∈ p ++ [])), fun h => by cases h⟩
 · rw [hfn, hrt]; exact trodAll_mk1 (shut_bool htb true)
 · rw [hfn]; exact trodAll_later hl hb _ _ _ _ hts hA (fun x hx => hlt x (by simp [hx]))
 · rw [hfn, hv]; simp [DataW.TrodVars]
end
theorem wf64 {a : Int} (h : (Lit.int .i64 a).wf = true) : -9223372036854775808 ≤ a ∧ a ≤ 9223372036854775807 := by
 simpa [Lit.wf, IntKind.min, IntKind.max, IntKind.signed, IntKind.bits] using h
theorem wfu64 {a : Int} (h : (Lit.int .u64 a).wf = true) : ∃ n : Nat, a = n ∧ n < 18446744073709551616 := by
 have h2 : 0 ≤ a ∧ a ≤ 18446744073709551615 := by simpa [Lit.wf, IntKind.min, IntKind.max, IntKind.signed, IntKind.bits] using h
 exact ⟨a.toNat, by omega, by omega⟩
end

/- Arguments that are slices of plain data, or structs of them, opened: rows of any elements, and how much they weigh. -/
section
open Go.RowKit Go.ChangeShapes Go.WideShapes Go.ChangeAt
set_option maxRecDepth 100000
section
variable {H : Type} {enc : TypeId × Value → H} {P : Program} {W : World}
def Light (P : Program) (t : TypeId) (d : DataW H) : Prop := ∀ n ∈ d.weights P t, n ≤ 140737488351232
theorem light_of {ts : List TypeId} {ds : List (DataW H)} (h : (DataW.weightsEach P ts ds).all (· ≤ reachBytes) = true) {j : Nat} {t : TypeId} {d : DataW H} (ht : ts[j]? = some t) (hd : ds[j]? = some d) : Light P t d := fun n hn => by
 have := List.all_eq_true.1 h _ (DataW.weights_mem_each ht hd n hn); have h2 : n ≤ reachBytes := by simpa using this
 exact h2
theorem weightsAll_mem {e : TypeId} {ds : List (DataW H)} {d : DataW H} (h : d ∈ ds) {n : Nat} (hn : n ∈ d.weights P e) : n ∈ DataW.weightsAll P e ds := by
 induction ds with
 | nil => simp at h
 | cons x r ih =>
   simp only [DataW.weightsAll, List.mem_append]; rcases List.mem_cons.1 h with rfl | h
   · exact .inl hn
   · exact .inr (ih h)
theorem Light.slice {t e : TypeId} {elems spare : List (DataW H)} (ht : P.underlying t = some (.slice e)) (h : Light P t (.slice elems spare)) : (elems.length + spare.length) * P.bytesOf e ≤ 140737488351232 ∧ (∀ d ∈ elems, Light P e d) ∧ ∀ d ∈ spare, Light P e d := by
 unfold Light at *; simp only [DataW.weights, ht] at h; refine ⟨h _ (by simp), fun d hd n hn => h n ?_, fun d hd n hn => h n ?_⟩
 · exact List.mem_cons_of_mem _ (List.mem_append_left _ (weightsAll_mem hd hn))
 · exact List.mem_cons_of_mem _ (List.mem_append_right _ (weightsAll_mem hd hn))
theorem reads_append {ad : Addr} {xs ys : List Value} (h1 : ∀ j u, xs[j]? = some u → W.cell? (ad.add j) = some u) (h2 : ∀ j u, ys[j]? = some u → W.cell? ((ad.add xs.length).add j) = some u) :
 ∀ j u, (xs ++ ys)[j]? = some u → W.cell? (ad.add j) = some u := by
 intro j u hu; rcases Nat.lt_or_ge j xs.length with h | h
 · rw [List.getElem?_append_left h] at hu; exact h1 j u hu
 · rw [List.getElem?_append_right h] at hu; have := h2 _ u hu; rwa [add_add, show xs.length + (j - xs.length) = j by omega] at this
theorem open_rows {R : Type} [Inhabited R] {t e : TypeId} {size bytes fuel : Nat} {cs : List Value} {x : DataW H × List MemPlace} {cells : R → List Value} {OK : R → Prop}
 (ht : P.underlying t = some (.slice e)) (hsz : P.cellsOf e = size) (hby : P.bytesOf e = bytes) (hpos : 0 < size)
 (he : ∀ n cs' x', DataW.trod enc P W 0 (fun _ => true) true n e cs' = some x' → Light P e x'.1 → ∃ r, cs' = cells r ∧ OK r)
 (h : DataW.trod enc P W 0 (fun _ => true) true fuel t cs = some x) (hw : Light P t x.1) :
 ∃ A l c, ∃ rs : List R, cs = [.slice A l c] ∧ rs.length = l ∧ Rd W W.heap.size A (rs.flatMap cells) ∧ (∀ r ∈ rs, OK r) ∧ l ≤ c ∧ c * bytes ≤ 140737488351232 := by
 rcases Go.Deep.open_slice ht h with ⟨rfl, _⟩ | ⟨a, len, cap, m, n, D, Pl, rfl, hb, hl, hm, hmm, rfl, hx⟩
 · exact ⟨none, 0, 0, [], rfl, rfl, .inl rfl, fun r hr => by simp at hr, Nat.le_refl _, by omega⟩
 simp only [if_true] at hmm; subst hmm; rw [hsz] at hx; obtain ⟨w1, w2, w3⟩ := Light.slice ht hw; simp only [List.length_map, List.length_range] at w1; rw [show len + (m - len) = m by omega, hby] at w1
 have hlight : ∀ i, i < m → Light P e (D i) := fun i hi => by
  rcases Nat.lt_or_ge i len with h | h
  · exact w2 _ (List.mem_map.2 ⟨i, List.mem_range.2 h, rfl⟩)
  · refine w3 _ (List.mem_map.2 ⟨i - len, List.mem_range.2 (by omega), ?_⟩); show D (len + (i - len)) = D i; rw [show len + (i - len) = i by omega]
 obtain ⟨r, hr⟩ := Go.Deep.choose_lt (α := R) (p := fun i r => W.cells? 0 (a.add (i * size)) size = some (cells r) ∧ OK r) (fun i hi => by
  obtain ⟨cs', h1, h2⟩ := hx i hi; obtain ⟨r, rfl, hok⟩ := he _ _ _ h2 (hlight i hi)
  exact ⟨r, h1, hok⟩)
 have key : ∀ k, k ≤ m → (((List.range k).map r).flatMap cells).length = k * size ∧ ∀ j u, (((List.range k).map r).flatMap cells)[j]? = some u → W.cell? (a.add j) = some u := by
  intro k
  induction k with
  | zero => intro _; exact ⟨by simp, fun j u hu => by simp at hu⟩
  | succ k ih =>
    intro hk; obtain ⟨i1, i2⟩ := ih (by omega); obtain ⟨h1, _⟩ := hr k (by omega); obtain ⟨_, hlen, hcell⟩ := World.cells?_some h1; rw [List.range_succ, List.map_append, List.flatMap_append]; simp only [List.map_cons, List.map_nil, List.flatMap_cons, List.flatMap_nil, List.append_nil]; refine ⟨by rw [List.length_append, i1, hlen]; rw [Nat.succ_mul], reads_append i2 fun j u hu => ?_⟩; rw [i1]; have hj : j < size := by rw [← hlen]; exact (List.getElem?_eq_some_iff.1 hu).1
    rw [hcell j hj]; exact hu
 refine ⟨some a, len, m, (List.range len).map r, rfl, by simp, ?_, ?_, hl, w1⟩
 · rcases Nat.eq_zero_or_pos len with rfl | h0
   · exact .inl (by simp)
   · refine .inr ⟨a, rfl, ?_, (key len hl).2⟩; have hne : 0 < (((List.range len).map r).flatMap cells).length := by rw [(key len hl).1]; exact Nat.mul_pos h0 hpos
     have := World.block_lt_of_cell? W _ ((key len hl).2 0 _ (List.getElem?_eq_getElem hne)); rwa [add_block] at this
 · intro q hq; obtain ⟨i, hi, rfl⟩ := List.mem_map.1 hq; exact (hr i (by have := List.mem_range.1 hi; omega)).2
end
end

/- The closing rule for rows that list variables and lean on the world's shape. -/
section
open Go.RowKit Go.ChangeShapes Go.WideShapes Go.ChangeAt
set_option maxRecDepth 100000
theorem returns_shaped_and {H : Type} {enc : TypeId × Value → H} {a : Assume} {C : Checked} {os : Os} {f : FuncId} {fn : Func} {s : ChangeSpec} {conds : List PathCond} {apart fresh handsOn again : Bool} {X : World → Array Value → Prop}
 (hX : ∀ (w w' : World) (args : Array Value), w.heap = w'.heap → X w args → X w' args)
 (own : ownKnob C.prog.godebug = none) (started : os.Started) (noInit : C.prog.inits.idxOf? f = none) (hfn : C.prog.funcs[f]? = some fn)
 (witness : ∃ (w : World) (tape : Tape) (i : Input), w.os = os ∧ (w.forCall tape i).Shaped C.prog ∧ i.vars = [] ∧ Input.okWide C.prog (w.forCall tape i) .any w.heap.size f i ∧
  ((s.pre enc C.prog fn conds apart (w.forCall tape i).memory i.args ∧ X (w.forCall tape i).memory i.args) ∧ sizedMet enc C.prog fn (OpenSpec.ofChange s) apart (w.forCall tape i).memory i.args) ∧ a.holds C.prog (lone (Frame.enter C.prog f i.args .normal) [] (w.forCall tape i)))
 (contract : ∀ (W : World) (base : Nat) (args : Array Value) (ds gs : List (DataW H)) (before : List MemPlace),
  (∀ (j : Nat) t v, fn.params[j]? = some t → args[j]? = some v → Value.okWide C.prog W .any base t v) →
  DataW.Whole enc C.prog fn.params.toList s.vars apart W args.toList ds gs before →
  (DataW.weightsEach C.prog (fn.params.toList ++ s.plain.varTypes C.prog) (ds ++ gs)).all (· ≤ reachBytes) = true → X W args → W.ShapedOpen C.prog →
  Calls C.prog f args W fun e W' => ∃ v, e = .returned v ∧ s.post enc C.prog fn apart fresh handsOn again W args v W') :
 ReturnsInHanded a C os f .any (fun w args => (s.pre enc C.prog fn conds apart w args ∧ X w args) ∧ sizedMet enc C.prog fn (OpenSpec.ofChange s) apart w args) (s.post enc C.prog fn apart fresh handsOn again) := by
 refine returnsInHanded_of_calls own started noInit witness ?_; intro w tape i _ hsh _ hok hpre _; obtain ⟨_, _, _, fn', hfn', _, _, _, _, hval⟩ := hok; have e : fn' = fn := Option.some.inj (hfn'.symm.trans hfn); subst e; obtain ⟨⟨⟨ds, gs, before, hw, _⟩, hx⟩, hz⟩ := hpre; have hw' := DataW.Whole.of_heap (w' := w.forCall tape i) (by rfl) hw; refine (contract (w.forCall tape i) w.heap.size i.args ds gs before hval hw' (hz.weights hw) (hX _ _ _ (by rfl) hx) hsh).mono fun e W' ⟨v, he, hp⟩ => ?_; subst he; exact ChangeSpec.post_blind hp
end

/- Arguments that are rows of texts, of acts, of truths, opened. -/
section
open Go.RowKit Go.ChangeShapes Go.WideShapes Go.ChangeAt
set_option maxRecDepth 100000
structure Act7 where
 d : Int
 s : ByteArray
 n : Int
 m : Int
instance : Inhabited Act7 := ⟨⟨0, ⟨#[]⟩, 0, 0⟩⟩
section
variable {H : Type} {enc : TypeId × Value → H} {W : World}
end
end

/- Layer 16's arguments that are rows of acts, opened. -/
section
open Go.RowKit Go.ChangeShapes Go.WideShapes Go.ChangeAt
set_option maxRecDepth 100000
theorem u64n_wf16 {a : Int} (h : (Lit.int .u64 a).wf = true) : U64n a := by
 obtain ⟨n, rfl, h2⟩ := wfu64 h; exact ⟨Int.natCast_nonneg n, by omega⟩
section
variable {H : Type} {enc : TypeId × Value → H} {W : World}
theorem open_act7_cells {fuel : Nat} {cs : List Value} {x : DataW H × List MemPlace} (h : DataW.trod enc Tryz.prog W 0 (fun _ => true) true fuel 34 cs = some x) :
 ∃ t : Ac7, cs = t.cells ∧ t.Fine := by
 obtain ⟨xs, n, _, rfl, hl, hlen, hf⟩ := DataW.trod_struct Tryz.underlying34 h; have h2 : Tryz.prog.cellsOf 34 = 7 := by kernel_rfl
 rw [h2] at hl
 match cs, hl with
 | [v0, v1, v2, v3, v4, v5, v6], _ =>
   simp only [Array.size] at hlen
   match xs, hlen with
   | [y0, y1, y2, y3, y4, y5, y6], _ =>
     have c1 : Tryz.prog.cellsOf 3 = 1 := by kernel_rfl
     have c2 : Tryz.prog.cellsOf 32 = 1 := by kernel_rfl
     have c3 : Tryz.prog.cellsOf 4 = 1 := by kernel_rfl
     have c4 : Tryz.prog.cellsOf 9 = 1 := by kernel_rfl
     have e0 : DataW.trod enc Tryz.prog W 0 (fun _ => true) true n 3 (([v0, v1, v2, v3, v4, v5, v6].drop 0).take (Tryz.prog.cellsOf 3)) = some y0 := hf 0 _ rfl; have e1 : DataW.trod enc Tryz.prog W 0 (fun _ => true) true n 3 (([v0, v1, v2, v3, v4, v5, v6].drop 1).take (Tryz.prog.cellsOf 3)) = some y1 := hf 1 _ rfl; have e2 : DataW.trod enc Tryz.prog W 0 (fun _ => true) true n 3 (([v0, v1, v2, v3, v4, v5, v6].drop 2).take (Tryz.prog.cellsOf 3)) = some y2 := hf 2 _ rfl; have e3 : DataW.trod enc Tryz.prog W 0 (fun _ => true) true n 3 (([v0, v1, v2, v3, v4, v5, v6].drop 3).take (Tryz.prog.cellsOf 3)) = some y3 := hf 3 _ rfl; have e4 : DataW.trod enc Tryz.prog W 0 (fun _ => true) true n 32 (([v0, v1, v2, v3, v4, v5, v6].drop 4).take (Tryz.prog.cellsOf 32)) = some y4 := hf 4 _ rfl; have e5 : DataW.trod enc Tryz.prog W 0 (fun _ => true) true n 4 (([v0, v1, v2, v3, v4, v5, v6].drop 5).take (Tryz.prog.cellsOf 4)) = some y5 := hf 5 _ rfl; have e6 : DataW.trod enc Tryz.prog W 0 (fun _ => true) true n 9 (([v0, v1, v2, v3, v4, v5, v6].drop 6).take (Tryz.prog.cellsOf 9)) = some y6 := hf 6 _ rfl; rw [c1] at e0 e1 e2 e3; rw [c2] at e4; rw [c3] at e5; rw [c4] at e6; obtain ⟨a0, h10, _, g0⟩ := DataW.trod_int (k := .i64) Tryz.underlying3 (show DataW.trod enc Tryz.prog W 0 (fun _ => true) true n 3 [v0] = some y0 from e0); obtain ⟨a1, h11, _, g1⟩ := DataW.trod_int (k := .i64) Tryz.underlying3 (show DataW.trod enc Tryz.prog W 0 (fun _ => true) true n 3 [v1] = some y1 from e1); obtain ⟨a2, h12, _, g2⟩ := DataW.trod_int (k := .i64) Tryz.underlying3 (show DataW.trod enc Tryz.prog W 0 (fun _ => true) true n 3 [v2] = some y2 from e2); obtain ⟨a3, h13, _, g3⟩ := DataW.trod_int (k := .i64) Tryz.underlying3 (show DataW.trod enc Tryz.prog W 0 (fun _ => true) true n 3 [v3] = some y3 from e3); obtain ⟨a4, h14, _, g4⟩ := DataW.trod_int (k := .u64) Tryz.underlying32 (show DataW.trod enc Tryz.prog W 0 (fun _ => true) true n 32 [v4] = some y4 from e4); obtain ⟨a5, h15, _⟩ := DataW.trod_bool Tryz.underlying4 (show DataW.trod enc Tryz.prog W 0 (fun _ => true) true n 4 [v5] = some y5 from e5); obtain ⟨a6, h16, _, _⟩ := DataW.trod_string Tryz.underlying9 (show DataW.trod enc Tryz.prog W 0 (fun _ => true) true n 9 [v6] = some y6 from e6); simp only [List.cons.injEq, and_true] at h10 h11 h12 h13 h14 h15 h16; subst h10 h11 h12 h13 h14 h15 h16; exact ⟨⟨a0, a1, a2, a3, a4, a5, a6⟩, rfl, ⟨wf64 g0, wf64 g1, wf64 g2, wf64 g3, u64n_wf16 g4⟩⟩
theorem open_act7s {r : Reach} {b0 : Nat} {v : Value} {d : DataW H} {ps : List MemPlace} (hval : Value.okWide Tryz.prog W r b0 22 v) (h : DataW.Trod enc Tryz.prog W 0 (fun _ => true) true 22 v d ps) (hw : Light Tryz.prog 22 d) :
 ∃ A l c ts, v = .slice A l c ∧ AG W A l ts ∧ ∀ t ∈ ts, t.Fine := by
 obtain ⟨a, l, c, rfl⟩ := okWide_slice Tryz.underlying22 hval; obtain ⟨fuel, hf⟩ := h
 obtain ⟨A, l', c', ts, hcs, hl, hr, hok, hlc, hm⟩ := open_rows (R := Ac7) (cells := Ac7.cells) (size := 7) (bytes := 64) (OK := Ac7.Fine) Tryz.underlying22 (by kernel_rfl) (by kernel_rfl) (by omega)
  (fun n cs' x' h' _ => open_act7_cells h') hf hw
 have hcs' : [Value.slice a l c] = [Value.slice A l' c'] := hcs; simp only [List.cons.injEq, Value.slice.injEq, and_true] at hcs'; obtain ⟨rfl, rfl, rfl⟩ := hcs'; exact ⟨a, l, c, ts, rfl, ⟨hl, hr⟩, hok⟩
end
end

/- Arguments that are tokens, and rows of tokens, opened; a row's world: what the library's variables hold; the closing rule for rows that list variables and lean on the world's shape. -/
section
open Go.RowKit Go.ChangeShapes Go.WideShapes Go.ChangeAt
set_option maxRecDepth 100000
section
variable {H : Type} {enc : TypeId × Value → H} {W : World}
end
theorem lw_of_shaped {W : World} (h : W.ShapedOpen Tryz.prog) : Lw W :=
 Go.Proofs.cell_of_shapedOpen_int (zero := #[.int .i64 0]) (t := 3) h (of_decide_eq_true (by kernel_rfl)) (by kernel_rfl) rfl (by kernel_rfl) (by kernel_rfl) Tryz.underlying3
end
end Go.Proofs.YtdhnpmagapbmhaaGreatDoor
