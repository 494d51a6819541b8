/-
  Contracts and plain functions that the law stands on, part 5 of 5.
-/
import Derived.Test.YtaimmdhjfccnkaaGreatDoorQ4
import Derived.Lib.SliceRun
import Derived.Maps.OwnOps
import Derived.StringKeys
import Derived.Maps.OwnSet
import Derived.Tactics
import Derived.Tactics2
import Derived.Defers
import Derived.Laws.Pointers
import Derived.Laws.LoneSync
import Derived.RegionTactic
import Derived.RegionCalls
import Derived.ChangeAlike
import Derived.Laws.NewBlocks
import Derived.Deep.RegionWith
import Derived.Deep.Cut
import Derived.ProofKit
import Derived.OpenShut
import Derived.JoinedCond
import Derived.Deep.Slices
import Derived.Lib.SmallJoins
import Derived.SizedLaws
import Derived.Test.YtaimmdhjfccnkaaGreatDoorCards
import Derived.Test.YtaimmdhjfccnkaaGreatDoorTie
import Derived.Shelf.Vars
import Derived.SevenTiedAt
import Derived.Stop.Joined
import Derived.LaidMore
import Derived.Lay
import Derived.Handed
namespace Go.Proofs.YtaimmdhjfccnkaaGreatDoor
/- slices.IndexFunc, slices.ContainsFunc at a token's predicate: contracts. -/
section
open Go.RowKit
set_option maxRecDepth 100000

/-- what a function of tokens answers, and leaves -/
def TokPred (g : FuncId) (p : Tok → Bool) : Prop := ∀ (t : Tk) (w : World), Calls Tryz.prog g #[.agg #[.int .i64 t.k, .string t.t]] w fun e w' => e = .returned (.bool (p t.says)) ∧ Below w.heap.size w w'

/-- the first place at which a predicate holds, or -1 -/
def firstAt (p : Tok → Bool) (l : List Tok) : Int := match l.findIdx? p with | some k => (k : Int) | none => -1
theorem firstAt_hit {p : Tok → Bool} {l : List Tok} {k : Nat} (hk : k < l.length) (h : p l[k] = true) (hno : ∀ x ∈ l.take k, p x = false) : firstAt p l = (k : Int) := by
  have : l.findIdx? p = some k := by
    rw [List.findIdx?_eq_some_iff_getElem]
    refine ⟨hk, h, fun j hj => ?_⟩
    rw [hno _ (List.mem_iff_getElem.2 ⟨j, by rw [List.length_take]; omega, by rw [List.getElem_take]⟩)]
    simp
  unfold firstAt
  rw [this]
theorem firstAt_miss {p : Tok → Bool} {l : List Tok} (hno : ∀ x ∈ l, p x = false) : firstAt p l = -1 := by
  have : l.findIdx? p = none := by
    rw [List.findIdx?_eq_none_iff]
    exact hno
  unfold firstAt
  rw [this]
theorem firstAt_any (p : Tok → Bool) (l : List Tok) : decide (0 ≤ firstAt p l) = l.any p := by
  unfold firstAt
  cases h : l.findIdx? p with
  | none =>
    rw [List.findIdx?_eq_none_iff] at h
    have : l.any p = false := by rw [List.any_eq_false]; intro x hx; rw [h x hx]; simp
    rw [this]
    rfl
  | some k =>
    rw [List.findIdx?_eq_some_iff_getElem] at h
    obtain ⟨hk, h1, _⟩ := h
    have : l.any p = true := by rw [List.any_eq_true]; exact ⟨_, List.getElem_mem hk, h1⟩
    rw [this]
    simp

theorem says_take (ts : List Tk) (k : Nat) : (saysT ts).take k = saysT (ts.take k) := by simp [saysT, List.map_take]
theorem says_at {ts : List Tk} {k : Nat} (h : k < ts.length) : (saysT ts)[k]'(by rw [saysT_length]; exact h) = ts[k].says := by simp [saysT]

set_option maxHeartbeats 400000 in
theorem indexFunc_ok (g : FuncId) (p : Tok → Bool) (hp : TokPred g p) (eg : ∀ args w, (callFunc g args).run Tryz.prog w = .ok (.enter g args) w) (A : Option Addr) (n c : Nat) (ts : List Tk) (w : World) (h : TR w A n ts) (hn : n ≤ 1000000) :
    Calls Tryz.prog 85 #[.slice A n c, .func (.func g) #[] #[]] w fun e w' => e = .returned (.int .i64 (firstAt p (saysT ts))) ∧ Below w.heap.size w w' := by
  have hlen := Lib.hid h.len
  have hP := Lib.hid hp
  clear hp
  go_enter Tryz.func85, Tryz.ntmps85
  go_wp2
  go_loopw [8] (fun i wr => ∃ k : Nat, k ≤ n ∧ i = .int .i64 k ∧ Hid (∀ x ∈ (saysT ts).take k, p x = false) ∧ Below w.heap.size w wr) (fun i _ => n - (intOf i).toNat)
  case atStart => exact ⟨0, Nat.zero_le _, rfl, Lib.hid (by simp), Below.refl _ _⟩
  case round =>
    obtain ⟨k, hk, rfl, hno, kw⟩ := hrel
    by_cases hlt : k < n
    · have hkl : k < ts.length := by rw [hlen.out]; exact hlt
      obtain ⟨ad, rfl, _, hcc⟩ := h.at_ hkl
      obtain ⟨c0, c1⟩ := hcc _ kw
      have hC := Lib.hid (hP.out ts[k] wr)
      have hks : k < (saysT ts).length := by rw [saysT_length]; exact hkl
      have hsa := says_at hkl
      clear hcc
      cases hs : p ts[k].says with
      | false =>
        have hno2 : Hid (∀ x ∈ (saysT ts).take (k + 1), p x = false) := Lib.hid (by
          rw [List.take_succ_eq_append_getElem hks]
          intro x hx
          rcases List.mem_append.1 hx with h1 | h1
          · exact hno.out x h1
          · rw [List.mem_singleton.1 h1, hsa]; exact hs)
        rw [hs] at hC
        clear hs hsa hno
        generalize ts[k].k = x at *
        generalize ts[k].t = s at *
        go_wp2_with fail
        refine hC.out.mono ?_
        rintro e w1 ⟨rfl, k1⟩
        go_wp2_with fail
        go_roundw
        case rel => exact ⟨k + 1, by omega, by go_num, hno2, kp_trans kw k1⟩
        case measure => simp [intOf]; omega
      | true =>
        have hF := firstAt_hit hks (by rw [hsa]; exact hs) hno.out
        have HF := Lib.hid hF
        rw [hs] at hC
        clear hs hsa hno hF
        generalize ts[k].k = x at *
        generalize ts[k].t = s at *
        go_wp2_with fail
        refine hC.out.mono ?_
        rintro e w1 ⟨rfl, k1⟩
        go_wp2_with fail
        go_ret
        exact ⟨by rw [HF.out]; rfl, kp_trans kw k1⟩
    · obtain rfl : k = n := by omega
      have h1 := hno.out
      rw [List.take_of_length_le (by rw [saysT_length, hlen.out]; exact Nat.le_refl _)] at h1
      have HF := Lib.hid (firstAt_miss h1)
      clear h1
      go_wp2_with fail
      go_ret
      exact ⟨by rw [HF.out]; rfl, kw⟩

theorem containsFunc_ok (g : FuncId) (p : Tok → Bool) (hp : TokPred g p) (eg : ∀ args w, (callFunc g args).run Tryz.prog w = .ok (.enter g args) w) (A : Option Addr) (n c : Nat) (ts : List Tk) (w : World) (h : TR w A n ts) (hn : n ≤ 1000000) :
    Calls Tryz.prog 43 #[.slice A n c, .func (.func g) #[] #[]] w fun e w' => e = .returned (.bool ((saysT ts).any p)) ∧ Below w.heap.size w w' := by
  have hI := Lib.hid (indexFunc_ok g p hp eg A n c ts w h hn)
  have HF := Lib.hid (firstAt_any p (saysT ts))
  generalize firstAt p (saysT ts) = r at *
  go_enter Tryz.func43, Tryz.ntmps43
  go_wp2_with fail
  refine hI.out.mono ?_
  rintro e w1 ⟨rfl, k1⟩
  go_wp2_with fail
  go_ret
  exact ⟨ret_bool (by rw [← HF.out]), k1⟩
end

/- All but one block is as it was: a frame for calls that write one block of the caller's. -/
section
open Go.RowKit
set_option maxRecDepth 100000

/-- all but one block is as it was -/
structure Bel (b : Nat) (w w' : World) : Prop where
  os : w'.os = w.os
  tape : w'.tape = w.tape
  output : w'.output = w.output
  size : w.heap.size ≤ w'.heap.size
  block : ∀ k, k < w.heap.size → k ≠ b → w'.heap[k]? = w.heap[k]?
theorem Bel.of {w w' : World} (b : Nat) (h : Below w.heap.size w w') : Bel b w w' := ⟨h.os, h.tape, h.output, h.size, fun k hk _ => h.block k hk⟩
theorem Bel.trans {b : Nat} {a c d : World} (h : Bel b a c) (k : Bel b c d) : Bel b a d :=
  ⟨k.os.trans h.os, k.tape.trans h.tape, k.output.trans h.output, Nat.le_trans h.size k.size, fun i hi hn => (k.block i (Nat.lt_of_lt_of_le hi h.size) hn).trans (h.block i hi hn)⟩
theorem Bel.below {b B : Nat} {w w' : World} (h : Bel b w w') (hB : B ≤ b) (hw : B ≤ w.heap.size) : Below B w w' := ⟨h.os, h.tape, h.output, h.size, fun k hk => h.block k (by omega) (by omega)⟩
theorem Bel.setCell {b : Nat} {w w' : World} (h : Bel b w w') (p : Addr) (hp : p.block = b) (u : Value) : Bel b w (w'.setCell p u) :=
  ⟨h.os, h.tape, h.output, by have := h.size; simp only [World.setCell, Array.size_modify]; exact this, fun k hk hn => by rw [Below.heap_setCell _ _ _ _ (by omega)]; exact h.block k hk hn⟩
theorem Bel.drew {b : Nat} {w w' : World} (h : Bel b w w') : Bel b w w'.drew := ⟨h.os, h.tape, h.output, h.size, h.block⟩
theorem Bel.ofDrew {b : Nat} {w w' : World} (h : Below w.drew.heap.size w.drew w') : Bel b w w' := ⟨h.os, h.tape, h.output, h.size, fun k hk _ => h.block k hk⟩
theorem own_bel {w w' : World} {base n size b : Nat} {e : TypeId} {v : Value} {xs : List Value} (h : w.ownsRow base e size v n xs) (hb : Bel b w w') (hB : b < base) : w'.ownsRow base e size v n xs := by
  refine ⟨h.1, ?_⟩
  rcases h.2 with h2 | ⟨g, cap, cur, hv, hg, hh, r⟩
  · exact .inl h2
  · have hlt := (Array.getElem?_eq_some_iff.1 hh).1
    exact .inr ⟨g, cap, cur, hv, hg, (hb.block g hlt (by omega)).trans hh, r⟩
theorem Ow.bel {w w' : World} {base b : Nat} {A : Option Addr} {l c : Nat} {bs : List UInt8} (h : Ow w base A l c bs) (hb : Bel b w w') (hB : b < base) : Ow w' base A l c bs := ⟨own_bel h.own hb hB, h.len, h.cap, h.most⟩
end

/- slices.DeleteFunc at tokens: contract. -/
section
open Go.RowKit
set_option maxRecDepth 100000

theorem add_at (g j : Nat) : (⟨g, 0, none⟩ : Addr).add j = ⟨g, j, none⟩ := by
  unfold Addr.add
  split
  · rename_i h; simp_all
  · simp
theorem pair_kept {w w2 : World} {x y : Value} {t : TypeId} (k : Below (w.alloc (.cells #[x, y] t)).heap.size (w.alloc (.cells #[x, y] t)) w2) : w2.cell? ⟨w.heap.size, 0, none⟩ = some x ∧ w2.cell? ⟨w.heap.size, 1, none⟩ = some y := by
  have hb : w2.heap[w.heap.size]? = some (.cells #[x, y] t (0, 0)) := (k.block _ (by simp)).trans (heap_alloc_new w _)
  constructor
  · rw [cell_of_row _ _ 0 #[x, y] t (0, 0) hb]; rfl
  · rw [cell_of_row _ _ 1 #[x, y] t (0, 0) hb]; rfl

/-- a block's tokens, from its head, none of them frozen -/
structure RowG (w : World) (g : Nat) (us : List Tk) : Prop where
  cell : ∀ j (h : j < us.length), (w.cell? ⟨g, j * 2, none⟩ = some (.int .i64 us[j].k) ∧ w.cell? ⟨g, j * 2 + 1, none⟩ = some (.string us[j].t)) ∧ w.frozen? ⟨g, j * 2, none⟩ = false ∧ w.frozen? ⟨g, j * 2 + 1, none⟩ = false
  lt : g < w.heap.size
theorem RowG.keep {w w' : World} {g : Nat} {us : List Tk} (h : RowG w g us) (hk : w'.heap[g]? = w.heap[g]?) (hs : w.heap.size ≤ w'.heap.size) : RowG w' g us := by
  refine ⟨fun j hj => ?_, Nat.lt_of_lt_of_le h.lt hs⟩
  have hc : ∀ p : Addr, p.block = g → w'.cell? p = w.cell? p := fun p hp => World.cell?_of_block (by rw [hp]; exact hk)
  have hf : ∀ p : Addr, p.block = g → w'.frozen? p = w.frozen? p := fun p hp => by unfold World.frozen?; rw [hp, hk]
  obtain ⟨⟨c0, c1⟩, f0, f1⟩ := h.cell j hj
  exact ⟨⟨(hc _ rfl).trans c0, (hc _ rfl).trans c1⟩, (hf _ rfl).trans f0, (hf _ rfl).trans f1⟩
theorem RowG.next {w w' : World} {g : Nat} {us : List Tk} (h : RowG w g us) (hb : Below w.heap.size w w') : RowG w' g us := h.keep (hb.block g h.lt) hb.size
/-- a token is stored -/
theorem RowG.set {w : World} {g : Nat} {us : List Tk} (h : RowG w g us) (k : Nat) (t : Tk) : RowG ((w.setCell ⟨g, k * 2, none⟩ (.int .i64 t.k)).setCell ⟨g, k * 2 + 1, none⟩ (.string t.t)) g (us.set k t) := by
  refine ⟨fun j hj => ?_, by simpa [World.setCell] using h.lt⟩
  rw [List.length_set] at hj
  obtain ⟨⟨c0, c1⟩, f0, f1⟩ := h.cell j hj
  refine ⟨?_, by simpa using f0, by simpa using f1⟩
  by_cases e : k = j
  · subst e
    simp only [List.getElem_set_self]
    refine ⟨?_, ?_⟩
    · rw [World.cell?_setCell_other _ _ _ _ (by simp)]
      exact World.cell?_setCell_same _ _ _ c0
    · refine World.cell?_setCell_same _ _ _ (u := .string us[k].t) ?_
      rw [World.cell?_setCell_other _ _ _ _ (by simp)]
      exact c1
  · rw [List.getElem_set_ne e]
    refine ⟨?_, ?_⟩
    · rw [World.cell?_setCell_other _ _ _ _ (by simp; try omega), World.cell?_setCell_other _ _ _ _ (by simp; try omega)]
      exact c0
    · rw [World.cell?_setCell_other _ _ _ _ (by simp; try omega), World.cell?_setCell_other _ _ _ _ (by simp; try omega)]
      exact c1
theorem RowG.tr {w : World} {g : Nat} {us : List Tk} (h : RowG w g us) : TR w (some ⟨g, 0, none⟩) us.length us := by
  refine ⟨rfl, .inr ⟨_, rfl, h.lt, fun j u hu => ?_⟩⟩
  rw [add_at]
  have hj : j < (tkC us).length := (List.getElem?_eq_some_iff.1 hu).1
  rw [tkC_length] at hj
  have hq : j / 2 < us.length := by omega
  obtain ⟨⟨c0, c1⟩, _, _⟩ := h.cell (j / 2) hq
  obtain ⟨t0, t1⟩ := tkC_at us (j / 2) hq
  rcases Nat.mod_two_eq_zero_or_one j with e | e
  · have e2 : j / 2 * 2 = j := by omega
    rw [e2] at c0 t0
    rw [c0, ← t0, hu]
  · have e2 : j / 2 * 2 + 1 = j := by omega
    rw [e2] at c1 t1
    rw [c1, ← t1, hu]
theorem OT.rowG {e : TypeId} {w : World} {base : Nat} {A : Option Addr} {n c : Nat} {ts : List Tk} (h : OT e w base A n c ts) (hn : 0 < n) : ∃ g, A = some ⟨g, 0, none⟩ ∧ base ≤ g ∧ RowG w g ts := by
  rcases h.own.2 with ⟨_, h0⟩ | ⟨g, cap, cur, hv, hg, hh, _, _, hs, hx⟩
  · omega
  · injection hv with hA
    refine ⟨g, hA, hg, fun j hj => ?_, (Array.getElem?_eq_some_iff.1 hh).1⟩
    obtain ⟨t0, t1⟩ := tkC_at ts j hj
    rw [← hx] at t0 t1
    have hlen := h.len
    rw [List.getElem?_take_of_lt (by omega), Array.getElem?_toList] at t0 t1
    refine ⟨⟨?_, ?_⟩, ?_, ?_⟩
    · rw [cell_of_row _ _ _ cur e (0, 0) hh]; exact t0
    · rw [cell_of_row _ _ _ cur e (0, 0) hh]; exact t1
    · unfold World.frozen?
      simp [hh]
    · unfold World.frozen?
      simp [hh]

theorem below_cells {base g : Nat} {w : World} : ∀ (vs : List Value) {w1 : World} (o : Nat), Below base w w1 → base ≤ g → Below base w (w1.setCells g o vs)
  | [], _, _, h, _ => h
  | v :: r, _, o, h, hg => by
    rw [World.setCells]
    exact below_cells r (o + 1) (h.setCell hg v) hg
theorem TR.cleared {w : World} {g k : Nat} {us : List Tk} (h : TR w (some ⟨g, 0, none⟩) k us) (vs : List Value) : TR (w.setCells g (k * 2) vs) (some ⟨g, 0, none⟩) k us := by
  refine ⟨h.len, ?_⟩
  have hs := (below_cells (base := 0) vs (k * 2) (Below.refl 0 w) (Nat.zero_le g)).size
  rcases h.rd with h0 | ⟨ad, hA, hb, hc⟩
  · exact .inl h0
  · injection hA with hA
    subst hA
    refine .inr ⟨_, rfl, Nat.lt_of_lt_of_le hb hs, fun j u hu => ?_⟩
    have hj : j < (tkC us).length := (List.getElem?_eq_some_iff.1 hu).1
    rw [tkC_length, h.len] at hj
    rw [← hc j u hu, add_at]
    exact World.cell?_setCells_out g vs (k * 2) w ⟨g, j, none⟩ fun _ _ => .inl hj

/-- 'clear' at tokens -/
theorem run_clear_toks (w : World) (ty : TypeId) (b o n c : Nat) (hn : 0 < n) (hc : ∀ j, j < n * 2 → (w.cell? ⟨b, o + j, none⟩).isSome = true) (hf : ∀ j, j < n * 2 → w.frozen? ⟨b, o + j, none⟩ = false) :
    ∃ vs : List Value, vs.length = n * 2 ∧ (Builtin.clear_ #[43] ty #[.slice (some ⟨b, o, none⟩) n c]).run Tryz.prog w = .ok (.tuple #[]) (w.setCells b o vs) := by
  have hv : ∀ w, (zeroValue 89).run Tryz.prog w = .ok (.agg #[.int .i64 0, .string ⟨#[]⟩]) w := fun _ => by kernel_rfl
  have hz : (Value.agg #[.int .i64 0, .string ⟨#[]⟩]).cells = #[.int .i64 0, .string ⟨#[]⟩] := rfl
  have hl : (Builtin.zeroCells (Value.agg #[.int .i64 0, .string ⟨#[]⟩]).cells n).toList.length = n * 2 := by
    rw [hz]
    simp [Builtin.zeroCells]
  have h1 : ∀ v ∈ (Builtin.zeroCells (Value.agg #[.int .i64 0, .string ⟨#[]⟩]).cells n).toList, v.oneCell' = true := by
    intro v hv'
    rw [hz] at hv'
    simp only [Builtin.zeroCells, Array.toList_map, List.mem_map] at hv'
    obtain ⟨i, _, rfl⟩ := hv'
    have : i % 2 = 0 ∨ i % 2 = 1 := by omega
    rcases this with e | e <;> simp [e, Value.oneCell']
  generalize (Value.agg #[.int .i64 0, .string ⟨#[]⟩]) = z at hv hl h1
  refine ⟨_, hl, ?_⟩
  have hst := run_storeCells_cells (P := Tryz.prog) b o (Builtin.zeroCells z.cells n).toList 0 w (by rw [hl]; simpa using hc) (by rw [hl]; simpa using hf) h1
  simp only [Nat.add_zero] at hst
  clear hl h1
  obtain ⟨m, rfl⟩ : ∃ m, n = m + 1 := ⟨n - 1, by omega⟩
  simp [Builtin.clear_, run_underlying Tryz.underlying43, hv, hst]

theorem firstAt_cases (p : Tok → Bool) (l : List Tok) : (firstAt p l = -1 ∧ l.filter (fun t => !p t) = l) ∨ ∃ k : Nat, firstAt p l = (k : Int) ∧ k < l.length ∧ (l.take (k + 1)).filter (fun t => !p t) = l.take k := by
  unfold firstAt
  cases h : l.findIdx? p with
  | none =>
    rw [List.findIdx?_eq_none_iff] at h
    exact .inl ⟨rfl, List.filter_eq_self.2 fun x hx => by rw [h x hx]; rfl⟩
  | some k =>
    rw [List.findIdx?_eq_some_iff_getElem] at h
    obtain ⟨hk, h1, h2⟩ := h
    refine .inr ⟨k, rfl, hk, ?_⟩
    rw [List.take_succ_eq_append_getElem hk, List.filter_append]
    have e1 : [l[k]].filter (fun t => !p t) = [] := by simp [h1]
    rw [e1, List.append_nil]
    refine List.filter_eq_self.2 fun x hx => ?_
    obtain ⟨j, hj, rfl⟩ := List.mem_iff_getElem.1 hx
    rw [List.length_take] at hj
    rw [List.getElem_take]
    have := h2 j (by omega)
    simpa using this

set_option maxHeartbeats 1000000 in
theorem deleteFunc_ok (g : FuncId) (p : Tok → Bool) (hp : TokPred g p) (eg : ∀ args w, (callFunc g args).run Tryz.prog w = .ok (.enter g args) w) (A : Option Addr) (n c : Nat) (ts : List Tk) (w : World) (base : Nat) (h : OT 89 w base A n c ts) (hbase : base ≤ w.heap.size) (hn : n ≤ 1000000) :
    Calls Tryz.prog 52 #[.slice A n c, .func (.func g) #[] #[]] w fun e w' => ∃ (us : List Tk) (k : Nat), e = .returned (.slice A k c) ∧ TR w' A k us ∧ k ≤ n ∧ Hid (saysT us = (saysT ts).filter fun t => !p t) ∧ Below base w w' := by
  have hlen := Lib.hid h.len
  have hcap := h.cap
  have hI := Lib.hid (indexFunc_ok g p hp eg A n c ts w h.tr hn)
  have hP := Lib.hid hp
  clear hp
  rcases firstAt_cases p (saysT ts) with ⟨hF, hall⟩ | ⟨i0, hF, hi0, hpre⟩
  · rw [hF] at hI
    have HA := Lib.hid hall.symm
    clear hF hall
    have HT := Lib.hid h
    clear h
    go_enter Tryz.func52, Tryz.ntmps52
    go_wp2_with fail
    refine hI.out.mono ?_
    rintro e w1 ⟨rfl, k1⟩
    go_wp2_with fail
    go_ret
    exact ⟨ts, n, rfl, HT.out.tr.next k1, Nat.le_refl _, HA, k1.mono hbase⟩
  · rw [hF] at hI
    rw [saysT_length] at hi0
    have hin : i0 < n := by rw [← hlen.out]; exact hi0
    obtain ⟨gb, rfl, hgb, hrow⟩ := h.rowG (by omega)
    have hst : Hid (saysT (ts.take i0) = (saysT (ts.take (i0 + 1))).filter fun t => !p t) := Lib.hid (by rw [← says_take, ← says_take, hpre])
    have hne : ((i0 : Int) == -1) = false := beq_eq_false_iff_ne.2 (by omega)
    have HR := Lib.hid hrow
    clear hF hpre h hrow
    go_enter Tryz.func52, Tryz.ntmps52
    go_wp2_with fail
    refine hI.out.mono ?_
    rintro e w1 ⟨rfl, k1⟩
    go_wp2_with fail
    go_loopw [5, 6] (fun i j wr => ∃ (k m : Nat) (us : List Tk), i = .int .i64 k ∧ j = .int .i64 m ∧ k < m ∧ m ≤ n ∧ us.length = n ∧ RowG wr gb us ∧ Hid (saysT (us.take k) = (saysT (ts.take m)).filter fun t => !p t) ∧ Hid (us.drop m = ts.drop m) ∧ Below base w wr) (fun _ j _ => n - (intOf j).toNat)
    case atStart => exact ⟨i0, i0 + 1, ts, rfl, by go_num, by omega, by omega, hlen.out, HR.out.next k1, hst, Lib.hid rfl, k1.mono hbase⟩
    case round =>
      obtain ⟨k, m, us, rfl, rfl, hkm, hm, hul, hr, hx, hd, kw⟩ := hrel
      clear hst HR
      by_cases hlt : m < n
      · have hml : m < us.length := by omega
        have hmt : m < ts.length := by rw [hlen.out]; exact hlt
        have he : us[m] = ts[m] := by
          have e1 := congrArg (fun l => l[0]?) hd.out
          simp only [List.getElem?_drop, Nat.add_zero, List.getElem?_eq_getElem hml, List.getElem?_eq_getElem hmt, Option.some.injEq] at e1
          exact e1
        obtain ⟨⟨c0, c1⟩, _, _⟩ := hr.cell m hml
        have hC := Lib.hid (hP.out us[m])
        have hd2 : Hid (us.drop (m + 1) = ts.drop (m + 1)) := Lib.hid (by
          have e1 := congrArg (fun l => l.drop 1) hd.out
          simpa only [List.drop_drop] using e1)
        have htk : (saysT (ts.take (m + 1))).filter (fun t => !p t) = (saysT (ts.take m)).filter (fun t => !p t) ++ (if p us[m].says then [] else [us[m].says]) := by
          rw [List.take_succ_eq_append_getElem hmt, saysT_append, List.filter_append, ← he]
          cases hq : p us[m].says <;> simp [saysT, hq]
        cases hq : p us[m].says with
        | true =>
          have hx2 : Hid (saysT (us.take k) = (saysT (ts.take (m + 1))).filter fun t => !p t) := Lib.hid (by rw [htk, hq, hx.out]; simp)
          rw [hq] at hC
          have HRR := Lib.hid hr
          clear hx htk hq he hd hr
          generalize us[m].k = x at *
          generalize us[m].t = s at *
          go_wp2_with fail
          refine (hC.out _).mono ?_
          rintro e w2 ⟨rfl, k2⟩
          go_wp2_with fail
          go_roundw
          case rel => exact ⟨k, m + 1, us, rfl, by go_num, by omega, by omega, hul, (HRR.out.next (kp_new _ _)).next k2, hx2, hd2, kw.trans ((kp_trans (kp_new wr (.cells #[.int .i64 x, .string s] 89)) k2).mono (Nat.le_trans hbase kw.size))⟩
          case measure => simp [intOf]; omega
        | false =>
          have hkl : k < us.length := by omega
          have hx2 : Hid (saysT ((us.set k us[m]).take (k + 1)) = (saysT (ts.take (m + 1))).filter fun t => !p t) := Lib.hid (by
            rw [htk, hq, ← hx.out, List.take_succ_eq_append_getElem (by rw [List.length_set]; exact hkl), List.getElem_set_self, saysT_append, List.take_set_of_le (Nat.le_refl _)]
            rfl)
          have hd3 : Hid ((us.set k us[m]).drop (m + 1) = ts.drop (m + 1)) := Lib.hid (by rw [List.drop_set_of_lt (by omega)]; exact hd2.out)
          have hul3 : (us.set k us[m]).length = n := by rw [List.length_set]; exact hul
          have hset : ∀ W, RowG W gb us → RowG ((W.setCell ⟨gb, k * 2, none⟩ (.int .i64 us[m].k)).setCell ⟨gb, k * 2 + 1, none⟩ (.string us[m].t)) gb (us.set k us[m]) := fun W hW => hW.set k us[m]
          rw [hq] at hC
          have HRR := Lib.hid hr
          have HST := Lib.hid hset
          clear hx htk hq he hd hr hd2 hset
          generalize us.set k us[m] = us3 at *
          generalize us[m].k = x at *
          generalize us[m].t = s at *
          go_wp2_with fail
          refine (hC.out _).mono ?_
          rintro e w2 ⟨rfl, k2⟩
          obtain ⟨d0, d1⟩ := pair_kept k2
          have hr2 := (HRR.out.next (kp_new _ _)).next k2
          obtain ⟨⟨e0, e1⟩, z0, z1⟩ := hr2.cell k hkl
          have HR2 := Lib.hid hr2
          have kw2 := kw.trans ((kp_trans (kp_new wr (.cells #[.int .i64 x, .string s] 89)) k2).mono (Nat.le_trans hbase kw.size))
          clear hr2
          go_wp2_with fail
          go_roundw
          case rel => exact ⟨k + 1, m + 1, us3, by go_num, by go_num, by omega, by omega, hul3, HST.out _ HR2.out, hx2, hd3, (kw2.setCell hgb _).setCell hgb _⟩
          case measure => simp [intOf]; omega
      · obtain rfl : m = n := by omega
        have hck : ¬ c = k := by omega
        have hcl := hr
        obtain ⟨vs, hvl, hrun⟩ := run_clear_toks wr 0 gb (k * 2) (m - k) (c - k) (by omega) (fun j hj => by
          have hq : (k * 2 + j) / 2 < us.length := by omega
          obtain ⟨⟨q0, q1⟩, _, _⟩ := hr.cell _ hq
          rcases Nat.mod_two_eq_zero_or_one j with e | e
          · rw [show (k * 2 + j) / 2 * 2 = k * 2 + j by omega] at q0
            rw [q0]; rfl
          · rw [show (k * 2 + j) / 2 * 2 + 1 = k * 2 + j by omega] at q1
            rw [q1]; rfl) (fun j hj => by
          have hq : (k * 2 + j) / 2 < us.length := by omega
          obtain ⟨_, q0, q1⟩ := hr.cell _ hq
          rcases Nat.mod_two_eq_zero_or_one j with e | e
          · rw [show (k * 2 + j) / 2 * 2 = k * 2 + j by omega] at q0
            exact q0
          · rw [show (k * 2 + j) / 2 * 2 + 1 = k * 2 + j by omega] at q1
            exact q1)
        have htr : TR (wr.setCells gb (k * 2) vs) (some ⟨gb, 0, none⟩) k (us.take k) := (hr.tr.front (by omega)).cleared vs
        have hkb : Below base w (wr.setCells gb (k * 2) vs) := below_cells vs _ kw hgb
        have hfin : Hid (saysT (us.take k) = (saysT ts).filter fun t => !p t) := Lib.hid (by rw [hx.out, List.take_of_length_le (by rw [hlen.out]; exact Nat.le_refl _)])
        have HTR := Lib.hid htr
        have HKB := Lib.hid hkb
        clear hx hd hr hcl htr hkb
        go_wp2_with fail
        go_ret
        exact ⟨us.take k, k, rfl, HTR.out, by omega, hfin, HKB.out⟩
end

/- The map of the words that begin statements (firstWords of package class): contract. -/
section
open Go.RowKit Go.Maps Go.WideMaps
set_option maxRecDepth 100000

theorem sKey : Keyed Tryz.prog 9 := string_keyed Tryz.underlying9
theorem sZero (w : World) : (zeroValue 3).run Tryz.prog w = .ok (.int .i64 0) w := by kernel_rfl

/-- a map as it reads, of rows of a text and a number -/
def datM (L : List (List UInt8 × Int)) : DataW Unit := L.foldl (fun D p => D.put (.string p.1) (.lit (.int .i64 p.2))) (.map [])
theorem datM_push (L : List (List UInt8 × Int)) (x : List UInt8) (c : Int) : datM (L ++ [(x, c)]) = (datM L).put (.string x) (.lit (.int .i64 c)) := by simp [datM, List.foldl_append]
theorem datM_isMap (L : List (List UInt8 × Int)) : IsMap (datM L) := by
  unfold datM
  suffices h : ∀ (L : List (List UInt8 × Int)) (D : DataW Unit), IsMap D → IsMap (L.foldl (fun D p => D.put (.string p.1) (.lit (.int .i64 p.2))) D) from h L _ isMap_empty
  intro L
  induction L with
  | nil => exact fun D h => h
  | cons p r ih => exact fun D h => ih _ (h.put _ _)

def MapAt (w : World) (b : Nat) (L : List (List UInt8 × Int)) : Prop := w.ownsMap Tryz.prog 9 (plainElem Tryz.prog 3) b L.length (datM L)
theorem MapAt.keep {w w' : World} {b : Nat} {L : List (List UInt8 × Int)} (h : MapAt w b L) (hk : w'.heap[b]? = w.heap[b]?) : MapAt w' b L := by
  obtain ⟨es, clock, hb, r⟩ := h
  exact ⟨es, clock, hk.trans hb, r⟩
theorem MapAt.lt {w : World} {b : Nat} {L : List (List UInt8 × Int)} (h : MapAt w b L) : b < w.heap.size := World.ownsMap.lt h

/-- what is done so far: the map as it reads, all else as it was -/
structure Laid (w0 : World) (b : Nat) (L : List (List UInt8 × Int)) (w : World) : Prop where
  map : MapAt w b L
  low : Below w0.heap.size w0 w
  new : w0.heap.size ≤ b

theorem wpList_insert {w0 : World} {b : Nat} {L : List (List UInt8 × Int)} {w : World} (hl : Laid w0 b L w) (hn : L.length < 1000) {ops : Array Oper} {rest : List Oper} {o : Oper} {a : Act} {Q : Exit → Act → World → Prop}
    (hg : o.guard = none) (m x v : Operand) (hop : o.op = Op.insert 74 m x v) (s : ByteArray) (c : Int) (hm : a.eval m = .map (some b)) (hx : a.eval x = .string s) (hv : a.eval v = .int .i64 c) (hs : s.size ≤ maxLen) (hc : (Lit.int .i64 c).wf = true)
    (hK : ∀ w', Laid w0 b (L ++ [(s.data.toList, c)]) w' → wpList Tryz.prog ops Q rest (a.put o.dst undef) w') :
    wpList Tryz.prog ops Q (o :: rest) a w := by
  refine wpList_plain hg fun K' hK' => ?_
  obtain ⟨w', hrun, r1, r2⟩ := World.ownsMap.update hl.map sKey Tryz.underlying74 (by unfold maxLen; omega) (keyOf_string_mk Tryz.underlying9 hs) (plainElem_int Tryz.underlying3 hc)
  unfold Oper.wp
  simp [execOp, hop, hm, hx, hv, hrun, Result.andThen]
  refine hK' _ _ (hK w' ⟨?_, ?_, hl.new⟩)
  · unfold MapAt
    rw [datM_push, List.length_append]
    exact r1
  · exact hl.low.grown r2 hl.low.size (fun k hk => by cases hk; exact hl.new)

set_option maxHeartbeats 2000000 in
theorem firstWords_ok (w : World) : Calls Tryz.prog 88 #[] w fun e w' => ∃ b, e = .returned (.map (some b)) ∧ Laid w b famL w' := by
  have hmm := @run_makeMap Tryz.prog
  have hl : Laid w w.heap.size [] (w.alloc (.map #[] 0)) := ⟨World.ownsMap_made _ _ _ _, kp_new _ _, Nat.le_refl _⟩
  go_enter Tryz.func88, Tryz.ntmps88
  go_wp2_with (refine wpList_insert hl (by simp) rfl _ _ _ rfl _ _ rfl rfl rfl (by decide) (by decide) ?_; clear hl; intro w1 hl)
  go_ret
  exact ⟨_, rfl, hl⟩
end

/- sync.Once, one goroutine: the lock and the mark, as the library lays them: contracts. -/
section
open Go.RowKit
set_option maxRecDepth 100000

theorem raceOff (w : World) : (callFunc 132 #[]).run Tryz.prog w = .ok (.value (.tuple #[])) w := run_call_mark0 Tryz.func132 (by kernel_rfl) (by kernel_rfl) (by kernel_rfl) .disable (by kernel_rfl) w
theorem raceOn (w : World) : (callFunc 134 #[]).run Tryz.prog w = .ok (.value (.tuple #[])) w := run_call_mark0 Tryz.func134 (by kernel_rfl) (by kernel_rfl) (by kernel_rfl) .enable (by kernel_rfl) w
theorem raceGot (a : Addr) (w : World) : (callFunc 135 #[.pointer (some a)]).run Tryz.prog w = .ok (.value (.tuple #[])) w := run_call_marked Tryz.func135 (by kernel_rfl) (by kernel_rfl) (by kernel_rfl) .acquire (by kernel_rfl) a w
theorem raceGave (a : Addr) (w : World) : (callFunc 137 #[.pointer (some a)]).run Tryz.prog w = .ok (.value (.tuple #[])) w := run_call_marked Tryz.func137 (by kernel_rfl) (by kernel_rfl) (by kernel_rfl) .releaseMerge (by kernel_rfl) a w

/-- the mark is set, as a deferred call -/
theorem mark_deferred (a : Addr) (x : Value) (u : FrameMode) (w : World) (hc : w.cell? a = some x) (hz : w.frozen? a = false) :
    CallsD Tryz.prog 119 #[.pointer (some a), .bool true] u w fun e u' w' => u' = u ∧ (e = .returned (.tuple #[]) ∧ w' = w.drew.setCell a (.int .u32 1)) := by
  have hc' : w.drew.cell? a = some x := by go_simp
  have hz' : w.drew.frozen? a = false := by go_simp
  have hst := run_call_store (P := Tryz.prog) Tryz.func128 (by kernel_rfl) (by kernel_rfl) (by kernel_rfl) (by kernel_rfl) (k := .u32) (y := 1) hc' hz'
  go_enter_d Tryz.func119, Tryz.ntmps119
  go_wp2
  go_region_calls
  all_goals (go_end0; exact ⟨rfl, rfl⟩)

/-- a lock that is held is given back, as a deferred call -/
theorem give_deferred (a : Addr) (u : FrameMode) (w : World) (hc : w.cell? a = some (.int .i32 1)) (hz : w.frozen? a = false) :
    CallsD Tryz.prog 118 #[.pointer (some a)] u w fun e u' w' => u' = u ∧ (e = .returned (.tuple #[]) ∧ w' = w.setCell a (.int .i32 0)) := by
  have hd := raceOff
  have he := raceOn
  have hr := raceGave
  have hadd := run_call_add (P := Tryz.prog) Tryz.func138 (by kernel_rfl) (by kernel_rfl) (by kernel_rfl) .i32 (by kernel_rfl) (y := -1) (s := 0) hc hz (by simp [go_sem]; rfl)
  have hcv := run_convert_to_unsafe (P := Tryz.prog) (src := 168) (dst := 148) Tryz.underlying168 Tryz.underlying148 (by kernel_rfl) hc
  go_enter_d Tryz.func118, Tryz.ntmps118
  go_wp2
  go_end0
  go_wp2
  go_end0
  exact ⟨rfl, rfl⟩

/-- a lock that is free is taken -/
theorem take_free (a : Addr) (w : World) (hc : w.cell? a = some (.int .i32 0)) (hz : w.frozen? a = false) :
    Calls Tryz.prog 117 #[.pointer (some a)] w fun e w' => e = .returned (.tuple #[]) ∧ w' = w.setCell a (.int .i32 1) := by
  have hd := raceOff
  have he := raceOn
  have ha := raceGot
  have hcas := run_call_cas_hit (P := Tryz.prog) Tryz.func133 (by kernel_rfl) (by kernel_rfl) (by kernel_rfl) .i32 (by kernel_rfl) (y := 1) hc hz
  have hc' : (w.setCell a (.int .i32 1)).cell? a = some (.int .i32 1) := World.cell?_setCell_same w a _ hc
  have hcv := run_convert_to_unsafe (P := Tryz.prog) (src := 168) (dst := 148) Tryz.underlying168 Tryz.underlying148 (by kernel_rfl) hc'
  go_enter Tryz.func117, Tryz.ntmps117
  go_wp2
  first | go_end0 | (simp only [Exit.inBlock, Exit.then]; refine bodyPost_ret (results_none rfl _ _ _) rfl ?_) | refine bodyPost_ret (results_none rfl _ _ _) rfl ?_
  go_wp2
  go_end0
  exact ⟨rfl, rfl⟩

/-- the mark is asked -/
theorem asked (a : Addr) (d : Int) (w : World) (h : w.cell? a = some (.int .u32 d)) : Calls Tryz.prog 101 #[.pointer (some a)] w fun e w' => e = .returned (.bool (d != 0)) ∧ w = w' := by
  have hl := run_call_load (P := Tryz.prog) Tryz.func116 (by kernel_rfl) (by kernel_rfl) (by kernel_rfl) .u32 (by kernel_rfl) h
  go_enter Tryz.func101, Tryz.ntmps101
  go_wp2
  go_ret
  exact ⟨rfl, rfl⟩
end

/- A Classer in memory; its words, made once: contracts. -/
section
open Go.RowKit
set_option maxRecDepth 100000

/-- a Classer's cells: the mark, the lock, the lock's own, the words -/
def Cls (w : World) (b : Nat) (c0 c1 c2 c3 : Value) : Prop := w.heap[b]? = some (.cells #[c0, c1, c2, c3] 76 (0, 0))
section
variable {w : World} {b : Nat} {c0 c1 c2 c3 : Value}
theorem Cls.lt (h : Cls w b c0 c1 c2 c3) : b < w.heap.size := (Array.getElem?_eq_some_iff.1 h).1
theorem Cls.keep {w' : World} (h : Cls w b c0 c1 c2 c3) (hk : w'.heap[b]? = w.heap[b]?) : Cls w' b c0 c1 c2 c3 := hk.trans h
theorem Cls.next {w' : World} (h : Cls w b c0 c1 c2 c3) (hb : Below w.heap.size w w') : Cls w' b c0 c1 c2 c3 := h.keep (hb.block b h.lt)
theorem Cls.cells (h : Cls w b c0 c1 c2 c3) : w.cell? ⟨b, 0, none⟩ = some c0 ∧ w.cell? ⟨b, 1, none⟩ = some c1 ∧ w.cell? ⟨b, 2, none⟩ = some c2 ∧ w.cell? ⟨b, 3, none⟩ = some c3 := by
  refine ⟨?_, ?_, ?_, ?_⟩
  · rw [cell_of_row _ _ 0 _ _ (0, 0) h]; rfl
  · rw [cell_of_row _ _ 1 _ _ (0, 0) h]; rfl
  · rw [cell_of_row _ _ 2 _ _ (0, 0) h]; rfl
  · rw [cell_of_row _ _ 3 _ _ (0, 0) h]; rfl
theorem Cls.thaw (h : Cls w b c0 c1 c2 c3) (k : Nat) : w.frozen? ⟨b, k, none⟩ = false := by
  unfold Cls at h
  unfold World.frozen?
  simp [h]
theorem Cls.set0 (h : Cls w b c0 c1 c2 c3) (u : Value) : Cls (w.setCell ⟨b, 0, none⟩ u) b u c1 c2 c3 := by unfold Cls at *; simp [World.setCell, Array.getElem?_modify, h]
theorem Cls.set1 (h : Cls w b c0 c1 c2 c3) (u : Value) : Cls (w.setCell ⟨b, 1, none⟩ u) b c0 u c2 c3 := by unfold Cls at *; simp [World.setCell, Array.getElem?_modify, h]
theorem Cls.set3 (h : Cls w b c0 c1 c2 c3) (u : Value) : Cls (w.setCell ⟨b, 3, none⟩ u) b c0 c1 c2 u := by unfold Cls at *; simp [World.setCell, Array.getElem?_modify, h]
end

set_option maxHeartbeats 1000000 in
theorem closure_ok (b : Nat) (pl : Addr) (c0 c1 c2 c3 : Value) (w : World) (h : Cls w b c0 c1 c2 c3) (hp : w.cell? pl = some (.pointer (some ⟨b, 0, none⟩))) (hpl : pl.block < w.heap.size) :
    Calls Tryz.prog 87 #[.pointer (some pl)] w fun e w' => e = .returned (.tuple #[]) ∧ ∃ bm w1, Laid w.drew bm famL w1 ∧ w' = w1.setCell ⟨b, 3, none⟩ (.map (some bm)) := by
  have hc := h.cells.2.2.2
  have hz := h.thaw 3
  have hp' : w.drew.cell? pl = some (.pointer (some ⟨b, 0, none⟩)) := by go_simp
  have hc' : w.drew.cell? ⟨b, 3, none⟩ = some c3 := by go_simp
  have hz' : w.drew.frozen? ⟨b, 3, none⟩ = false := by go_simp
  have HC := Lib.hid h
  have HPL := Lib.hid hpl
  clear hpl h
  go_enter Tryz.func87, Tryz.ntmps87
  go_wp2
  go_region_with (go_at_call 88; refine (firstWords_ok _).mono ?_; rintro e w1 ⟨bm, rfl, hl⟩; have p1 := (hl.low.cell HPL.out).trans hp'; have q1 := (HC.out.keep (hl.low.block b HC.out.lt)).cells.2.2.2; have z1 := (HC.out.keep (hl.low.block b HC.out.lt)).thaw 3; have HL := Lib.hid hl; clear hl)
  all_goals
    go_wp2
    go_end0
    exact ⟨rfl, _, _, HL.out, rfl⟩

/-- what is left by making the words -/
structure Made (w : World) (b bm : Nat) (x : Value) (w' : World) : Prop where
  cls : Cls w' b (.int .u32 1) (.int .i32 0) x (.map (some bm))
  map : MapAt w' bm famL
  ne : bm ≠ b
  bel : Bel b w w'

set_option maxHeartbeats 1600000 in
theorem doSlow_ok (b : Nat) (pl : Addr) (x c3 : Value) (w : World) (hpb : ¬ b = pl.block) (h : Cls w b (.int .u32 0) (.int .i32 0) x c3) (hp : w.cell? pl = some (.pointer (some ⟨b, 0, none⟩))) (hpl : pl.block < w.heap.size) :
    Calls Tryz.prog 102 #[.pointer (some ⟨b, 0, none⟩), .func (.func 87) #[] #[.pointer (some pl)]] w fun e w' => e = .returned (.tuple #[]) ∧ ∃ bm, Made w b bm x w' := by
  have h1 := h.set1 (.int .i32 1)
  have hp1 : (w.setCell ⟨b, 1, none⟩ (.int .i32 1)).cell? pl = some (.pointer (some ⟨b, 0, none⟩)) := (World.cell?_setCell_other _ ⟨b, 1, none⟩ pl _ (fun e => hpb (by rw [← e]))).trans hp
  have hpl1 : pl.block < (w.setCell ⟨b, 1, none⟩ (.int .i32 1)).heap.size := by simpa [World.setCell] using hpl
  have H := Lib.hid h
  have H1 := Lib.hid h1
  have HP := Lib.hid hp1
  have HPL := Lib.hid hpl1
  have hnot : ∀ (x : Bool) (w : World), (Op.unary .not (.bool x)).run Tryz.prog w = .ok (.bool (!x)) w := fun _ _ => rfl
  clear h h1 hp hp1 hpl hpl1
  go_enter_defers Tryz.func102, Tryz.ntmps102
  go_wp2_with (go_at_call 117; refine (take_free ⟨b, 1, none⟩ _ H.out.cells.2.1 (H.out.thaw 1)).mono ?_; rintro e w' ⟨rfl, rfl⟩)
  refine (asked ⟨b, 0, none⟩ 0 _ H1.out.cells.1).mono ?_
  rintro e w2 ⟨rfl, rfl⟩
  go_wp2_with (go_at_call 87; refine (closure_ok b pl _ _ x c3 _ H1.out HP.out HPL.out).mono ?_; rintro e w3 ⟨rfl, bm, w4, hl, rfl⟩)
  have hk := hl.low.block b H1.out.lt
  have g4 := H1.out.keep hk
  have g5 := g4.set3 (.map (some bm))
  refine leaves_cons (f := 119) (args := #[.pointer (some ⟨b, 0, none⟩), .bool true]) (by simp) (by simp [go_sem]) ?_
  refine (mark_deferred ⟨b, 0, none⟩ (.int .u32 0) .returning _ g5.cells.1 (g5.thaw 0)).mono ?_
  rintro e u' w'' ⟨rfl, rfl, rfl⟩
  have g6 : Cls ((w4.setCell ⟨b, 3, none⟩ (.map (some bm))).drew.setCell ⟨b, 0, none⟩ (.int .u32 1)) b (.int .u32 1) (.int .i32 1) x (.map (some bm)) := Cls.set0 (w := (w4.setCell ⟨b, 3, none⟩ (.map (some bm))).drew) g5 _
  refine leaves_cons (f := 118) (args := #[.pointer (some ⟨b, 1, none⟩)]) (by simp [settle]) (by simp [go_sem]) ?_
  refine (give_deferred ⟨b, 1, none⟩ _ _ g6.cells.2.1 (g6.thaw 1)).mono ?_
  rintro e u' w'' ⟨rfl, rfl, rfl⟩
  have hbm : bm ≠ b := by
    have h3 := hl.new
    have h4 := H1.out.lt
    have h5 : (w.setCell ⟨b, 1, none⟩ (.int .i32 1)).drew.heap.size = (w.setCell ⟨b, 1, none⟩ (.int .i32 1)).heap.size := rfl
    omega
  have hm : MapAt ((((w4.setCell ⟨b, 3, none⟩ (.map (some bm))).drew.setCell ⟨b, 0, none⟩ (.int .u32 1))).setCell ⟨b, 1, none⟩ (.int .i32 0)) bm famL := by
    refine hl.map.keep ?_
    rw [Below.heap_setCell _ _ _ _ hbm, Below.heap_setCell _ _ _ _ hbm]
    exact Below.heap_setCell _ _ _ _ hbm
  have hbel : Bel b w ((((w4.setCell ⟨b, 3, none⟩ (.map (some bm))).drew.setCell ⟨b, 0, none⟩ (.int .u32 1))).setCell ⟨b, 1, none⟩ (.int .i32 0)) := by
    have e1 : Bel b w (w.setCell ⟨b, 1, none⟩ (.int .i32 1)) := Bel.setCell (Bel.of b (Below.refl _ w)) _ rfl _
    have e2 : Bel b (w.setCell ⟨b, 1, none⟩ (.int .i32 1)) w4 := Bel.ofDrew hl.low
    have e3 := (e1.trans e2).setCell ⟨b, 3, none⟩ rfl (.map (some bm))
    exact Bel.setCell (Bel.setCell e3.drew ⟨b, 0, none⟩ rfl _) ⟨b, 1, none⟩ rfl _
  have hfin : Made w b bm x ((((w4.setCell ⟨b, 3, none⟩ (.map (some bm))).drew.setCell ⟨b, 0, none⟩ (.int .u32 1))).setCell ⟨b, 1, none⟩ (.int .i32 0)) := ⟨g6.set1 _, hm, hbm, hbel⟩
  have HF := Lib.hid hfin
  clear hfin hm hbel g6 g5 g4 hk hl
  simp [Leaves, settle, results, Tryz.results102]
  exact ⟨bm, HF.out⟩
end

/- A Classer asked for its words: Do, families, New, Known: contracts. -/
section
open Go.RowKit Go.Maps
set_option maxRecDepth 100000

theorem MapAt.next {w w' : World} {b : Nat} {L : List (List UInt8 × Int)} (h : MapAt w b L) (hb : Below w.heap.size w w') : MapAt w' b L := h.keep (hb.block b h.lt)
theorem MapAt.bel {w w' : World} {b bm : Nat} {L : List (List UInt8 × Int)} (h : MapAt w bm L) (hb : Bel b w w') (hne : bm ≠ b) : MapAt w' bm L := h.keep (hb.block bm h.lt hne)

/-- a Classer: its words not made yet, or made -/
def CL (w : World) (b : Nat) : Prop := ∃ x, Cls w b (.int .u32 0) (.int .i32 0) x (.map none) ∨ ∃ bm, Cls w b (.int .u32 1) (.int .i32 0) x (.map (some bm)) ∧ MapAt w bm famL ∧ bm ≠ b
theorem CL.lt {w : World} {b : Nat} (h : CL w b) : b < w.heap.size := by
  obtain ⟨x, h | ⟨bm, h, _⟩⟩ := h
  · exact h.lt
  · exact h.lt
theorem CL.next {w w' : World} {b : Nat} (h : CL w b) (hb : Below w.heap.size w w') : CL w' b := by
  obtain ⟨x, h | ⟨bm, h, hm, hne⟩⟩ := h
  · exact ⟨x, .inl (h.next hb)⟩
  · exact ⟨x, .inr ⟨bm, h.next hb, hm.next hb, hne⟩⟩
theorem Made.cl {w w' : World} {b bm : Nat} {x : Value} (h : Made w b bm x w') : CL w' b := ⟨x, .inr ⟨bm, h.cls, h.map, h.ne⟩⟩

theorem newClasser_ok (w : World) : Calls Tryz.prog 7 #[] w fun e w' => e = .returned (.pointer (some ⟨w.heap.size, 0, none⟩)) ∧ CL w' w.heap.size ∧ Below w.heap.size w w' := by
  go_enter Tryz.func7, Tryz.ntmps7
  go_wp2
  go_ret
  exact ⟨rfl, ⟨_, .inl (heap_alloc_new w _)⟩, kp_new _ _⟩

theorem do_ok (b : Nat) (pl : Addr) (w : World) (hpb : ¬ b = pl.block) (h : CL w b) (hp : w.cell? pl = some (.pointer (some ⟨b, 0, none⟩))) (hpl : pl.block < w.heap.size) :
    Calls Tryz.prog 86 #[.pointer (some ⟨b, 0, none⟩), .func (.func 87) #[] #[.pointer (some pl)]] w fun e w' => e = .returned (.tuple #[]) ∧ ∃ bm x, Made w b bm x w' := by
  have hnot : ∀ (x : Bool) (w : World), (Op.unary .not (.bool x)).run Tryz.prog w = .ok (.bool (!x)) w := fun _ _ => rfl
  obtain ⟨x, h | ⟨bm, h, hm, hne⟩⟩ := h
  · have hA := Lib.hid (asked ⟨b, 0, none⟩ 0 w h.cells.1)
    have hS := Lib.hid (doSlow_ok b pl x _ w hpb h hp hpl)
    clear h hp
    go_enter Tryz.func86, Tryz.ntmps86
    go_wp2_with fail
    refine hA.out.mono ?_
    rintro e w2 ⟨rfl, rfl⟩
    go_wp2_with fail
    refine hS.out.mono ?_
    rintro e w3 ⟨rfl, bm, hm⟩
    have HM := Lib.hid hm
    clear hm
    go_wp2_with fail
    go_end0
    exact ⟨rfl, bm, x, HM.out⟩
  · have hA := Lib.hid (asked ⟨b, 0, none⟩ 1 w h.cells.1)
    have hM : Made w b bm x w := ⟨h, hm, hne, Bel.of b (Below.refl _ _)⟩
    have HM := Lib.hid hM
    clear h hp hm hM
    go_enter Tryz.func86, Tryz.ntmps86
    go_wp2_with fail
    refine hA.out.mono ?_
    rintro e w2 ⟨rfl, rfl⟩
    go_wp2_with fail
    go_end0
    exact ⟨rfl, bm, x, HM.out⟩

theorem families_ok (b : Nat) (w : World) (h : CL w b) :
    Calls Tryz.prog 45 #[.pointer (some ⟨b, 0, none⟩)] w fun e w' => ∃ bm, e = .returned (.map (some bm)) ∧ MapAt w' bm famL ∧ bm ≠ b ∧ CL w' b ∧ Bel b w w' := by
  have hmf : ∀ (fn : Fn) (first cap : Array Value) (w : World), (Instr.makeFunc fn first cap).run Tryz.prog w = .ok (.func fn first cap) w := fun _ _ _ _ => rfl
  have hlt := h.lt
  have kw := kp_new w (.cells #[.pointer (some ⟨b, 0, none⟩)] 28)
  have p0 : (w.alloc (.cells #[.pointer (some ⟨b, 0, none⟩)] 28)).cell? ⟨w.heap.size, 0, none⟩ = some (.pointer (some ⟨b, 0, none⟩)) := by simp
  have hD := Lib.hid (do_ok b ⟨w.heap.size, 0, none⟩ _ (by simp; omega) (h.next kw) p0 (by simp))
  have hblk : (w.alloc (.cells #[.pointer (some ⟨b, 0, none⟩)] 28)).heap[w.heap.size]? = some (.cells #[.pointer (some ⟨b, 0, none⟩)] 28 (0, 0)) := heap_alloc_new w _
  have HB := Lib.hid hblk
  have HLT := Lib.hid hlt
  have HH := Lib.hid h
  clear hblk hlt h p0
  go_enter Tryz.func45, Tryz.ntmps45
  go_wp2_with fail
  refine hD.out.mono ?_
  rintro e w1 ⟨rfl, bm, x, hm⟩
  have q0 : w1.cell? ⟨w.heap.size, 0, none⟩ = some (.pointer (some ⟨b, 0, none⟩)) := by
    rw [cell_of_row _ _ 0 _ _ (0, 0) ((hm.bel.block w.heap.size (by simp) (by have := HLT.out; omega)).trans HB.out)]
    rfl
  have q3 := hm.cls.cells.2.2.2
  have HM := Lib.hid hm
  clear hm
  go_wp2_with fail
  go_ret
  exact ⟨bm, rfl, HM.out.map, HM.out.ne, HM.out.cl, (Bel.of b kw).trans HM.out.bel⟩

theorem famL_size : Maps.size (datM famL) = 25 := by kernel_rfl

/-- a look-up in the words -/
theorem datM_at (L : List (List UInt8 × Int)) (x : List UInt8) (z : DataW Unit) : (datM L).atKey (.string x) z = ((L.reverse.find? fun p => decide (p.1 = x)).map fun p => (.lit (.int .i64 p.2) : DataW Unit)).getD z := by
  induction h : L.reverse generalizing L with
  | nil =>
    obtain rfl : L = [] := by simpa using h
    rfl
  | cons p r ih =>
    obtain rfl : L = r.reverse ++ [p] := by rw [← List.reverse_reverse L, h]; simp
    obtain ⟨k, v⟩ := p
    rw [datM_push, List.find?_cons]
    by_cases hk : k = x
    · subst hk
      rw [atKey_put_same (datM_isMap _) (by simp [WideAt.IsKeyLit]), decide_eq_true rfl]
      rfl
    · rw [atKey_put_other (by simpa using fun e => hk e.symm), decide_eq_false hk]
      exact ih _ (by simp)
end

/- classOf, explained of package class: contracts. -/
section
open Go.RowKit Go.Maps
set_option maxRecDepth 100000

theorem Rd.bel {w w' : World} {b : Nat} {A : Option Addr} {xs : List Value} (h : Rd w w.heap.size A xs) (hb : Bel b w w') (hne : ∀ ad, A = some ad → ad.block ≠ b) : Rd w' w'.heap.size A xs := by
  rcases h with h | ⟨ad, e, hlt, hc⟩
  · exact .inl h
  · exact .inr ⟨ad, e, Nat.lt_of_lt_of_le hlt hb.size, fun j u hu => (World.cell?_of_block (hb.block _ (by rw [add_block]; exact hlt) (by rw [add_block]; exact hne ad e))).trans (hc j u hu)⟩

/-- a row of tokens that is read, of another block than a Classer's -/
structure TQ (b : Nat) (w : World) (A : Option Addr) (n c : Nat) (ts : List Tk) : Prop where
  tr : TR w A n ts
  off : ∀ ad, A = some ad → ad.block ≠ b
  cap : n ≤ c
  few : n ≤ 1000000
  short : ∀ t ∈ ts, t.t.size ≤ 1000000
section
variable {b : Nat} {w w' : World} {A : Option Addr} {n c : Nat} {ts : List Tk}
theorem TQ.bel (h : TQ b w A n c ts) (hb : Bel b w w') : TQ b w' A n c ts := ⟨⟨h.tr.len, h.tr.rd.bel hb h.off⟩, h.off, h.cap, h.few, h.short⟩
theorem TQ.next (h : TQ b w A n c ts) (hb : Below w.heap.size w w') : TQ b w' A n c ts := h.bel (Bel.of b hb)
end

/-- what is behind the first one -/
theorem TQ.rest {b : Nat} {w : World} {ad : Addr} {n c : Nat} {t : Tk} {r : List Tk} (h : TQ b w (some ad) n c (t :: r)) : TQ b w (if c = 1 then some ad else some ⟨ad.block, ad.off + 2, none⟩) (n - 1) (c - 1) r := by
  have hn : r.length + 1 = n := by have := h.tr.len; simpa using this
  have hc := h.cap
  have hf := h.few
  refine ⟨⟨by omega, ?_⟩, fun ad' e => ?_, by omega, by omega, fun t ht => h.short t (List.mem_cons_of_mem _ ht)⟩
  · rcases h.tr.rd with h0 | ⟨ad', e, hb, hcc⟩
    · have := congrArg List.length h0
      rw [tkC_length] at this
      simp at this
    · injection e with e
      subst e
      by_cases h1 : c = 1
      · obtain rfl : r = [] := List.eq_nil_of_length_eq_zero (by omega)
        exact .inl rfl
      · rw [if_neg h1]
        refine .inr ⟨_, rfl, hb, fun j u hu => ?_⟩
        have e1 : (⟨ad.block, ad.off + 2, none⟩ : Addr).add j = ad.add (2 + j) := by
          rw [← add_add]
          congr 1
        rw [e1]
        refine hcc _ u ?_
        have e2 : tkC (t :: r) = t.cells ++ tkC r := by simp [tkC]
        rw [e2, List.getElem?_append_right (by simp [Tk.cells])]
        simpa [Tk.cells] using hu
  · by_cases h1 : c = 1
    · rw [if_pos h1] at e
      exact h.off ad' e
    · rw [if_neg h1] at e
      injection e with e
      subst e
      exact h.off ad rfl

/-- a look-up gives a word's family -/
theorem fam_of {x : List UInt8} {c : Int} (h : (datM famL).atKey (.string x) (.lit (.int .i64 0)) = .lit (.int .i64 c)) : c = famF x := by
  rw [datM_at] at h
  unfold famF
  cases hf : famL.reverse.find? fun p => decide (p.1 = x) with
  | none => rw [hf] at h; simp at h; simp [h]
  | some p => rw [hf] at h; simp at h; simp [h]

theorem stopPred : TokPred 44 stopF := fun t w => isStop_ok t w
theorem hintPred : TokPred 53 isHintF := fun t w => isHint_ok t w

/-- the words, and a look-up in them -/
theorem families_word (b : Nat) (ad : Addr) (s : ByteArray) (v : Int) (w : World) (h : CL w b) (hc : w.cell? ⟨ad.block, ad.off + 1, none⟩ = some (.string s)) (hlt : ad.block < w.heap.size) (hne : ad.block ≠ b) (hs : s.size ≤ 1000000) (hv : famF s.data.toList = v) :
    Calls Tryz.prog 45 #[.pointer (some ⟨b, 0, none⟩)] w fun e w' => ∃ bm, e = .returned (.map (some bm)) ∧ w'.cell? ⟨ad.block, ad.off + 1, none⟩ = some (.string s) ∧
      (Instr.lookup 74 (.map (some bm)) (.string s) false).run Tryz.prog w' = .ok (.int .i64 v) w' ∧ Hid (CL w' b ∧ Bel b w w') := by
  refine (families_ok b w h).mono ?_
  rintro e w' ⟨bm, rfl, hm, _, hc', hb'⟩
  obtain ⟨cc, hrun, hat, _⟩ := World.ownsMap.lookup_int hm sKey Tryz.underlying74 Tryz.underlying3 (sZero _) (Go.WideMaps.keyOf_string_mk Tryz.underlying9 (s := s) (by unfold maxLen; omega))
  obtain rfl : cc = v := (fam_of hat).trans hv
  have e : w'.cell? ⟨ad.block, ad.off + 1, none⟩ = w.cell? ⟨ad.block, ad.off + 1, none⟩ := World.cell?_of_block (hb'.block ad.block hlt hne)
  exact ⟨bm, rfl, e.trans hc, hrun, Lib.hid ⟨hc', hb'⟩⟩

/-- what 'explained' answers, if what it asks is answered -/
def ExplTo (b : Nat) (r : List Tk) : Prop := ∀ (A : Option Addr) (n c : Nat) (w : World), TQ b w A n c r → CL w b →
  Calls Tryz.prog 46 #[.pointer (some ⟨b, 0, none⟩), .slice A n c] w fun e w' => e = .returned (.int .i64 (exF (saysT r) (classF ((saysT r).drop 1)))) ∧ CL w' b ∧ Bel b w w'

set_option maxHeartbeats 8000000 in
theorem classOf_word (b : Nat) (A : Option Addr) (n c : Nat) (t : Tk) (r : List Tk) (w : World) (hq : TQ b w A n c (t :: r)) (hc : CL w b) (h1 : t.k = 1) (hs : (saysT (t :: r)).any stopF = false) (hx : ExplTo b r) :
    Calls Tryz.prog 20 #[.pointer (some ⟨b, 0, none⟩), .slice A n c] w fun e w' => e = .returned (.int .i64 (classF (saysT (t :: r)))) ∧ CL w' b ∧ Bel b w w' := by
  have hF := classF_word (t := t.says) (r := saysT r) h1 hs
  have hF : classF (saysT (t :: r)) = famB (famF t.t.data.toList) (saysT r) (exF (saysT r) (classF ((saysT r).drop 1))) := hF
  rw [hF]
  clear hF
  have hcap := hq.cap
  have HN : Hid (n = r.length + 1) := Lib.hid (by have := hq.tr.len; simpa using this.symm)
  have hn0 : 0 < n := by have := HN.out; omega
  have hnz : ((n : Int) == 0) = false := by simp; omega
  have hC := Lib.hid (containsFunc_ok _ _ stopPred (fun _ _ => rfl) A n c (t :: r) w hq.tr hq.few)
  rw [hs] at hC
  clear hs
  have HS := Lib.hid (hq.short t (by simp))
  obtain ⟨ad, rfl, hlt, hcc⟩ := hq.tr.head
  obtain ⟨c0, c1⟩ := hcc _ (Below.refl _ _)
  have hof := hq.off ad rfl
  have HR := Lib.hid hq.rest
  obtain ⟨k, s⟩ := t
  simp only at h1 c0 c1 HS
  subst h1
  have HC1 := Lib.hid c1
  have HOF := Lib.hid hof
  have HLT := Lib.hid hlt
  have HCL := Lib.hid hc
  clear hcc hq hc hof hlt
  obtain ⟨v, hv⟩ : ∃ v, famF s.data.toList = v := ⟨_, rfl⟩
  rw [hv]
  obtain ⟨R, hRR⟩ : ∃ R, R = famB v (saysT r) (exF (saysT r) (classF ((saysT r).drop 1))) := ⟨_, rfl⟩
  rw [← hRR]
  have HRR := Lib.hid hRR
  have HV := Lib.hid hv
  clear hv hRR
  go_enter Tryz.func20, Tryz.ntmps20
  go_wp2_with fail
  refine hC.out.mono ?_
  rintro e w1 ⟨rfl, k1⟩
  go_upto_region 4 with fail
  generalize (if c = 1 then some ad else some (⟨ad.block, ad.off + 2, none⟩ : Addr)) = A1 at *
  have kd : Below w1.heap.size w1 w1.drew := kp_drewN w1 1
  have HCD := Lib.hid ((HCL.out.next k1).next kd)
  have d1 : w1.cell? ⟨ad.block, ad.off + 1, none⟩ = some (.string s) := (k1.cell (p := ⟨ad.block, ad.off + 1, none⟩) HLT.out).trans HC1.out
  have d1' : w1.drew.cell? ⟨ad.block, ad.off + 1, none⟩ = some (.string s) := d1
  go_cut [28] from 22 (fun s28 wx => s28 = .int .i64 v ∧ CL wx b ∧ Bel b w wx)
  case first =>
    go_region_with (go_at_call 45; refine (families_word b ad s v _ HCD.out d1' (Nat.lt_of_lt_of_le HLT.out k1.size) HOF.out HS.out HV.out).mono ?_; rintro e w' ⟨bm, rfl, d2, hrun, HC'⟩)
    all_goals (go_wp2_with fail; go_meet; exact ⟨rfl, HC'.out.1, (Bel.of b k1).trans ((Bel.of b kd).trans HC'.out.2)⟩)
  case rest =>
  obtain ⟨rfl, hcl, hbl⟩ := hcut
  have hR := HR.out.bel hbl
  clear hC HS HC1 HCL HCD d1 d1' c0 c1
  by_cases h1 : v = 1
  · subst h1
    have HG : Hid (R = 1) := Lib.hid HRR.out
    go_wp2_with fail
    go_ret
    exact ⟨by rw [HG.out]; rfl, hcl, hbl⟩
  by_cases h2 : v = 2
  · subst h2
    have hX := Lib.hid (hx A1 (n - 1) (c - 1) wc hR hcl)
    have HG : Hid (R = exF (saysT r) (classF ((saysT r).drop 1))) := Lib.hid HRR.out
    generalize exF (saysT r) (classF ((saysT r).drop 1)) = x at *
    go_wp2_with fail
    refine hX.out.mono ?_
    rintro e w2 ⟨rfl, hc2, hb2⟩
    go_wp2_with fail
    go_ret
    exact ⟨by rw [HG.out]; rfl, hc2, hbl.trans hb2⟩
  by_cases h3 : v = 3
  · subst h3
    have HG : Hid (R = 2) := Lib.hid HRR.out
    go_wp2_with fail
    go_ret
    exact ⟨by rw [HG.out]; rfl, hcl, hbl⟩
  by_cases h4 : v = 4
  · subst h4
    have hX := Lib.hid (selected_ok A1 (n - 1) (c - 1) r true wc hR.tr hR.few)
    have HG : Hid (R = selF (saysT r) true) := Lib.hid HRR.out
    generalize selF (saysT r) true = x at *
    go_wp2_with fail
    refine hX.out.mono ?_
    rintro e w2 ⟨rfl, k2⟩
    go_wp2_with fail
    go_ret
    exact ⟨by rw [HG.out]; rfl, hcl.next k2, hbl.trans (Bel.of b k2)⟩
  by_cases h5 : v = 5
  · subst h5
    have kb := kp_new wc (.cells #[.string ⟨#[83, 69, 76, 69, 67, 84]⟩] 9)
    have hS := SR.new wc 9 [⟨#[83, 69, 76, 69, 67, 84]⟩]
    have hB := Lib.hid (hasWord_ok A1 (n - 1) (c - 1) r _ 1 1 _ _ (hR.tr.next kb) hS hR.few (by decide))
    have hE : txs [⟨#[83, 69, 76, 69, 67, 84]⟩] = [wSELECT] := rfl
    rw [hE] at hB
    have HG : Hid (R = selF (saysT r) (hasF (saysT r) [wSELECT])) := Lib.hid HRR.out
    clear hE hS
    generalize hasF (saysT r) [wSELECT] = x at *
    go_wp2_with fail
    refine hB.out.mono ?_
    rintro e w2 ⟨rfl, k2⟩
    have k3 := kp_trans kb k2
    have hX := Lib.hid (selected_ok A1 (n - 1) (c - 1) r x w2 (hR.tr.next k3) hR.few)
    clear hB
    go_wp2_with fail
    refine hX.out.mono ?_
    rintro e w3 ⟨rfl, k4⟩
    go_wp2_with fail
    go_ret
    exact ⟨by rw [HG.out]; rfl, hcl.next (kp_trans k3 k4), hbl.trans (Bel.of b (kp_trans k3 k4))⟩
  by_cases h6 : v = 6
  · subst h6
    have kb := kp_new wc (.cells #[.string ⟨#[87, 79, 82, 75]⟩, .string ⟨#[84, 82, 65, 78, 83, 65, 67, 84, 73, 79, 78]⟩] 9)
    have hS := SR.new wc 9 [⟨#[87, 79, 82, 75]⟩, ⟨#[84, 82, 65, 78, 83, 65, 67, 84, 73, 79, 78]⟩]
    have hB := Lib.hid (isBare_ok A1 (n - 1) (c - 1) r _ 2 2 _ _ (hR.tr.next kb) hS (by decide) hR.few)
    have hE : txs [⟨#[87, 79, 82, 75]⟩, ⟨#[84, 82, 65, 78, 83, 65, 67, 84, 73, 79, 78]⟩] = [wWORK, wTRANSACTION] := rfl
    rw [hE] at hB
    have HG : Hid (R = ifF 3 (bareF (saysT r) [wWORK, wTRANSACTION])) := Lib.hid HRR.out
    clear hE hS
    generalize bareF (saysT r) [wWORK, wTRANSACTION] = x at *
    go_wp2_with fail
    refine hB.out.mono ?_
    rintro e w2 ⟨rfl, k2⟩
    have k3 := kp_trans kb k2
    clear hB
    go_wp2_with fail
    refine (classIf_ok 3 (x) w2).mono ?_
    rintro e w3 ⟨rfl, rfl⟩
    go_wp2_with fail
    go_ret
    exact ⟨by rw [HG.out]; rfl, hcl.next k3, hbl.trans (Bel.of b k3)⟩
  by_cases h7 : v = 7
  · subst h7
    have kb := kp_new wc (.cells #[.string ⟨#[84, 82, 65, 78, 83, 65, 67, 84, 73, 79, 78]⟩] 9)
    have hS := SR.new wc 9 [⟨#[84, 82, 65, 78, 83, 65, 67, 84, 73, 79, 78]⟩]
    have hB := Lib.hid (beginsWith_ok A1 (n - 1) (c - 1) r _ 1 1 _ _ (hR.tr.next kb) hS (by decide))
    have hE : txs [⟨#[84, 82, 65, 78, 83, 65, 67, 84, 73, 79, 78]⟩] = [wTRANSACTION] := rfl
    rw [hE] at hB
    have HG : Hid (R = ifF 3 (headF (saysT r) [wTRANSACTION])) := Lib.hid HRR.out
    clear hE hS
    generalize headF (saysT r) [wTRANSACTION] = x at *
    go_wp2_with fail
    refine hB.out.mono ?_
    rintro e w2 ⟨rfl, k2⟩
    have k3 := kp_trans kb k2
    clear hB
    go_wp2_with fail
    refine (classIf_ok 3 (x) w2).mono ?_
    rintro e w3 ⟨rfl, rfl⟩
    go_wp2_with fail
    go_ret
    exact ⟨by rw [HG.out]; rfl, hcl.next k3, hbl.trans (Bel.of b k3)⟩
  by_cases h8 : v = 8
  · subst h8
    have kb := kp_new wc (.cells #[.string ⟨#[87, 79, 82, 75]⟩] 9)
    have hS := SR.new wc 9 [⟨#[87, 79, 82, 75]⟩]
    have hB := Lib.hid (isBare_ok A1 (n - 1) (c - 1) r _ 1 1 _ _ (hR.tr.next kb) hS (by decide) hR.few)
    have hE : txs [⟨#[87, 79, 82, 75]⟩] = [wWORK] := rfl
    rw [hE] at hB
    have HG : Hid (R = ifF 4 (bareF (saysT r) [wWORK])) := Lib.hid HRR.out
    clear hE hS
    generalize bareF (saysT r) [wWORK] = x at *
    go_wp2_with fail
    refine hB.out.mono ?_
    rintro e w2 ⟨rfl, k2⟩
    have k3 := kp_trans kb k2
    clear hB
    go_wp2_with fail
    refine (classIf_ok 4 (x) w2).mono ?_
    rintro e w3 ⟨rfl, rfl⟩
    go_wp2_with fail
    go_ret
    exact ⟨by rw [HG.out]; rfl, hcl.next k3, hbl.trans (Bel.of b k3)⟩
  by_cases h9 : v = 9
  · subst h9
    have kb := kp_new wc (.cells #[.string ⟨#[87, 79, 82, 75]⟩] 9)
    have hS := SR.new wc 9 [⟨#[87, 79, 82, 75]⟩]
    have hB := Lib.hid (isBare_ok A1 (n - 1) (c - 1) r _ 1 1 _ _ (hR.tr.next kb) hS (by decide) hR.few)
    have hE : txs [⟨#[87, 79, 82, 75]⟩] = [wWORK] := rfl
    rw [hE] at hB
    have HG : Hid (R = ifF 5 (bareF (saysT r) [wWORK])) := Lib.hid HRR.out
    clear hE hS
    generalize bareF (saysT r) [wWORK] = x at *
    go_wp2_with fail
    refine hB.out.mono ?_
    rintro e w2 ⟨rfl, k2⟩
    have k3 := kp_trans kb k2
    clear hB
    go_wp2_with fail
    refine (classIf_ok 5 (x) w2).mono ?_
    rintro e w3 ⟨rfl, rfl⟩
    go_wp2_with fail
    go_ret
    exact ⟨by rw [HG.out]; rfl, hcl.next k3, hbl.trans (Bel.of b k3)⟩
  by_cases h10 : v = 10
  · subst h10
    have kb := kp_new wc (.cells #[.string ⟨#[65, 85, 84, 79, 67, 79, 77, 77, 73, 84]⟩, .string ⟨#[71, 76, 79, 66, 65, 76]⟩, .string ⟨#[80, 69, 82, 83, 73, 83, 84]⟩] 9)
    have hS := SR.new wc 9 [⟨#[65, 85, 84, 79, 67, 79, 77, 77, 73, 84]⟩, ⟨#[71, 76, 79, 66, 65, 76]⟩, ⟨#[80, 69, 82, 83, 73, 83, 84]⟩]
    have hB := Lib.hid (beginsWith_ok A1 (n - 1) (c - 1) r _ 3 3 _ _ (hR.tr.next kb) hS (by decide))
    have hE : txs [⟨#[65, 85, 84, 79, 67, 79, 77, 77, 73, 84]⟩, ⟨#[71, 76, 79, 66, 65, 76]⟩, ⟨#[80, 69, 82, 83, 73, 83, 84]⟩] = [wAUTOCOMMIT, wGLOBAL, wPERSIST] := rfl
    rw [hE] at hB
    have HG : Hid (R = ifF 6 (!headF (saysT r) [wAUTOCOMMIT, wGLOBAL, wPERSIST])) := Lib.hid HRR.out
    clear hE hS
    generalize headF (saysT r) [wAUTOCOMMIT, wGLOBAL, wPERSIST] = x at *
    have hnot : ∀ (x : Bool) (w : World), (Op.unary .not (.bool x)).run Tryz.prog w = .ok (.bool (!x)) w := fun _ _ => rfl
    go_wp2_with fail
    refine hB.out.mono ?_
    rintro e w2 ⟨rfl, k2⟩
    have k3 := kp_trans kb k2
    clear hB
    go_wp2_with fail
    refine (classIf_ok 6 (!x) w2).mono ?_
    rintro e w3 ⟨rfl, rfl⟩
    go_wp2_with fail
    go_ret
    exact ⟨by rw [HG.out]; rfl, hcl.next k3, hbl.trans (Bel.of b k3)⟩
  have HG : Hid (R = 7) := Lib.hid (by
    rw [HRR.out]
    unfold famB
    rw [if_neg h1, if_neg h2, if_neg h3, if_neg h4, if_neg h5, if_neg h6, if_neg h7, if_neg h8, if_neg h9, if_neg h10])
  go_wp2_with fail
  go_ret
  exact ⟨by rw [HG.out]; rfl, hcl, hbl⟩
end

/- classOf, explained, withoutHints of package class, at every row of tokens: contracts. -/
section
open Go.RowKit Go.Maps
set_option maxRecDepth 100000

def ClassTo (b : Nat) (r : List Tk) : Prop := ∀ (A : Option Addr) (n c : Nat) (w : World), TQ b w A n c r → CL w b →
  Calls Tryz.prog 20 #[.pointer (some ⟨b, 0, none⟩), .slice A n c] w fun e w' => e = .returned (.int .i64 (classF (saysT r))) ∧ CL w' b ∧ Bel b w w'

set_option maxHeartbeats 1000000 in
theorem explained_ok (b : Nat) (r : List Tk) (hx : ∀ u r', r = u :: r' → ClassTo b r') : ExplTo b r := by
  intro A n c w hq hc
  have kb := kp_new w (.cells #[.string ⟨#[65, 78, 65, 76, 89, 90, 69]⟩, .string ⟨#[65, 78, 65, 76, 89, 83, 69]⟩] 9)
  have hS := SR.new w 9 [⟨#[65, 78, 65, 76, 89, 90, 69]⟩, ⟨#[65, 78, 65, 76, 89, 83, 69]⟩]
  have hB := Lib.hid (beginsWith_ok A n c r _ 2 2 _ _ (hq.tr.next kb) hS (by decide))
  have hE : txs [⟨#[65, 78, 65, 76, 89, 90, 69]⟩, ⟨#[65, 78, 65, 76, 89, 83, 69]⟩] = [wANALYZE, wANALYSE] := rfl
  have hnot : ∀ (x : Bool) (w : World), (Op.unary .not (.bool x)).run Tryz.prog w = .ok (.bool (!x)) w := fun _ _ => rfl
  rw [hE] at hB
  clear hS hE
  cases hh : headF (saysT r) [wANALYZE, wANALYSE] with
  | false =>
    have HF : Hid (exF (saysT r) (classF ((saysT r).drop 1)) = 1) := Lib.hid (by unfold exF; rw [hh]; rfl)
    rw [hh] at hB
    clear hh
    go_enter Tryz.func46, Tryz.ntmps46
    go_wp2_with fail
    refine hB.out.mono ?_
    rintro e w1 ⟨rfl, k1⟩
    go_wp2_with fail
    go_ret
    exact ⟨by rw [HF.out]; rfl, hc.next (kp_trans kb k1), Bel.of b (kp_trans kb k1)⟩
  | true =>
    cases r with
    | nil => cases hh
    | cons u r' =>
      have hcap := hq.cap
      have hn : 0 < n := by have := hq.tr.len; simp at this; omega
      obtain ⟨ad, rfl, _, _⟩ := hq.tr.head
      have hC := hx u r' rfl
      have HR := Lib.hid hq.rest
      have HF : Hid (exF (saysT (u :: r')) (classF ((saysT (u :: r')).drop 1)) = if classF (saysT r') = 2 then 2 else if classF (saysT r') = 7 then 7 else 1) := Lib.hid (by unfold exF; rw [hh]; rfl)
      generalize exF (saysT (u :: r')) (classF ((saysT (u :: r')).drop 1)) = R at *
      rw [hh] at hB
      unfold ClassTo at hC
      generalize classF (saysT r') = x at *
      have HC := Lib.hid hC
      have HCL := Lib.hid hc
      clear hh hq hx hc hC
      by_cases hc1 : c = 1
      · subst hc1
        obtain rfl : n = 1 := by omega
        have HR2 : Hid (TQ b w (some ad) 0 0 r') := Lib.hid (by have := HR.out; rwa [if_pos rfl] at this)
        clear HR
        go_enter Tryz.func46, Tryz.ntmps46
        go_wp2_with fail
        refine hB.out.mono ?_
        rintro e w1 ⟨rfl, k1⟩
        go_wp2_with fail
        have k2 := kp_trans kb k1
        have hq1 := HR2.out.next k2
        have hc1 := HCL.out.next k2
        have hCC := HC.out _ _ _ w1 hq1 hc1
        clear hq1 hc1 HC HR2 HCL hB
        refine Calls.mono hCC ?_
        rintro e w2 ⟨rfl, hc2, hb2⟩
        have hb3 := (Bel.of b k2).trans hb2
        by_cases h2 : x = 2
        · subst h2
          have HG : Hid (R = 2) := Lib.hid HF.out
          go_wp2_with fail
          go_ret
          exact ⟨by rw [HG.out]; rfl, hc2, hb3⟩
        by_cases h7 : x = 7
        · subst h7
          have HG : Hid (R = 7) := Lib.hid HF.out
          go_wp2_with fail
          go_ret
          exact ⟨by rw [HG.out]; rfl, hc2, hb3⟩
        have HG : Hid (R = 1) := Lib.hid (by rw [HF.out, if_neg h2, if_neg h7])
        go_wp2_with fail
        go_ret
        exact ⟨by rw [HG.out]; rfl, hc2, hb3⟩
      · have HR2 : Hid (TQ b w (some ⟨ad.block, ad.off + 2, none⟩) (n - 1) (c - 1) r') := Lib.hid (by have := HR.out; rwa [if_neg hc1] at this)
        clear HR
        go_enter Tryz.func46, Tryz.ntmps46
        go_wp2_with fail
        refine hB.out.mono ?_
        rintro e w1 ⟨rfl, k1⟩
        go_wp2_with fail
        have k2 := kp_trans kb k1
        have hq1 := HR2.out.next k2
        have hc1 := HCL.out.next k2
        have hCC := HC.out _ _ _ w1 hq1 hc1
        clear hq1 hc1 HC HR2 HCL hB
        refine Calls.mono hCC ?_
        rintro e w2 ⟨rfl, hc2, hb2⟩
        have hb3 := (Bel.of b k2).trans hb2
        by_cases h2 : x = 2
        · subst h2
          have HG : Hid (R = 2) := Lib.hid HF.out
          go_wp2_with fail
          go_ret
          exact ⟨by rw [HG.out]; rfl, hc2, hb3⟩
        by_cases h7 : x = 7
        · subst h7
          have HG : Hid (R = 7) := Lib.hid HF.out
          go_wp2_with fail
          go_ret
          exact ⟨by rw [HG.out]; rfl, hc2, hb3⟩
        have HG : Hid (R = 1) := Lib.hid (by rw [HF.out, if_neg h2, if_neg h7])
        go_wp2_with fail
        go_ret
        exact ⟨by rw [HG.out]; rfl, hc2, hb3⟩

theorem classOf_nil (b : Nat) : ClassTo b [] := by
  intro A n c w hq hc
  obtain rfl : 0 = n := hq.tr.len
  have HF : Hid (classF (saysT []) = 7) := Lib.hid classF_nil
  go_enter Tryz.func20, Tryz.ntmps20
  go_wp2_with fail
  go_ret
  exact ⟨by rw [HF.out]; rfl, hc, Bel.of b (Below.refl _ _)⟩

set_option maxHeartbeats 1000000 in
theorem classOf_no (b : Nat) (t : Tk) (r : List Tk) (h : t.k ≠ 1) : ClassTo b (t :: r) := by
  intro A n c w hq hc
  have HF : Hid (classF (saysT (t :: r)) = 7) := Lib.hid (classF_no (t := t.says) (r := saysT r) (.inl h))
  have hn : 0 < n := by have := hq.tr.len; simp at this; omega
  have hnz : ((n : Int) == 0) = false := by simp; omega
  obtain ⟨ad, rfl, _, hcc⟩ := hq.tr.head
  obtain ⟨c0, c1⟩ := hcc _ (Below.refl _ _)
  have h1 : (t.k != 1) = true := by simpa using h
  clear hcc
  go_enter Tryz.func20, Tryz.ntmps20
  go_wp2_with fail
  go_ret
  exact ⟨by rw [HF.out]; rfl, hc, Bel.of b (Below.refl _ _)⟩

set_option maxHeartbeats 1000000 in
theorem classOf_stop (b : Nat) (t : Tk) (r : List Tk) (h : t.k = 1) (hs : (saysT (t :: r)).any stopF = true) : ClassTo b (t :: r) := by
  intro A n c w hq hc
  have HF : Hid (classF (saysT (t :: r)) = 7) := Lib.hid (classF_no (t := t.says) (r := saysT r) (.inr hs))
  have hn : 0 < n := by have := hq.tr.len; simp at this; omega
  have hnz : ((n : Int) == 0) = false := by simp; omega
  have hC := Lib.hid (containsFunc_ok _ _ stopPred (fun _ _ => rfl) A n c (t :: r) w hq.tr hq.few)
  rw [hs] at hC
  clear hs
  obtain ⟨ad, rfl, _, hcc⟩ := hq.tr.head
  obtain ⟨c0, c1⟩ := hcc _ (Below.refl _ _)
  obtain ⟨k, s⟩ := t
  simp only at h c0 c1
  subst h
  clear hcc
  go_enter Tryz.func20, Tryz.ntmps20
  go_wp2_with fail
  refine hC.out.mono ?_
  rintro e w1 ⟨rfl, k1⟩
  go_wp2_with fail
  go_ret
  exact ⟨by rw [HF.out]; rfl, hc.next k1, Bel.of b k1⟩

theorem classOf_ok (b : Nat) : ∀ (N : Nat) (ts : List Tk), ts.length ≤ N → ClassTo b ts := by
  intro N
  induction N with
  | zero =>
    intro ts hl
    obtain rfl : ts = [] := List.eq_nil_of_length_eq_zero (by omega)
    exact classOf_nil b
  | succ N ih =>
    intro ts hl
    cases ts with
    | nil => exact classOf_nil b
    | cons t r =>
      by_cases h : t.k = 1
      · cases hs : (saysT (t :: r)).any stopF with
        | true => exact classOf_stop b t r h hs
        | false =>
          intro A n c w hq hc
          exact classOf_word b A n c t r w hq hc h hs (explained_ok b r fun u r' e => ih r' (by subst e; simp at hl; omega))
      · exact classOf_no b t r h

theorem withoutHints_ok (A : Option Addr) (n c : Nat) (ts : List Tk) (w : World) (base : Nat) (h : OT 89 w base A n c ts) (hbase : base ≤ w.heap.size) (hn : n ≤ 1000000) :
    Calls Tryz.prog 22 #[.slice A n c] w fun e w' => ∃ (us : List Tk) (k : Nat), e = .returned (.slice A k c) ∧ TR w' A k us ∧ k ≤ n ∧ Hid (saysT us = (saysT ts).filter fun t => !isHintF t) ∧ Below base w w' := by
  have hD := Lib.hid (deleteFunc_ok _ _ hintPred (fun _ _ => rfl) A n c ts w base h hbase hn)
  clear h
  go_enter Tryz.func22, Tryz.ntmps22
  go_wp2_with fail
  refine hD.out.mono ?_
  rintro e w1 ⟨us, k, rfl, hr, hk, hs, kb⟩
  go_wp2_with fail
  go_ret
  exact ⟨us, k, rfl, hr, hk, hs, kb⟩
end

/- Class, Asks of package class: contracts. -/
section
open Go.RowKit Go.Maps
set_option maxRecDepth 100000

theorem Lw.bel {w w' : World} {b : Nat} (h : Lw w) (hc : CL w b) (hb : Bel b w w') : Lw w' := by
  obtain ⟨m, hm⟩ := h
  refine ⟨m, (World.cell?_of_block (hb.block _ (World.block_lt_of_cell? _ _ hm) fun e => ?_)).trans hm⟩
  have e : 0 = b := e
  subst e
  obtain ⟨x, h | ⟨bm, h, _⟩⟩ := hc
  · rw [h.cells.1] at hm; cases hm
  · rw [h.cells.1] at hm; cases hm

theorem saysT_short {ts : List Tk} {m : Nat} (h : ∀ t ∈ saysT ts, t.2.length ≤ m) : ∀ t ∈ ts, t.t.size ≤ m := fun t ht => by
  have := h t.says (List.mem_map.2 ⟨t, ht, rfl⟩)
  simpa [Tk.says, text_len] using this

theorem OT.fresh {e : TypeId} {w : World} {base : Nat} {A : Option Addr} {n c : Nat} {ts : List Tk} (h : OT e w base A n c ts) : Fresh base A := own_fresh h.own

set_option maxHeartbeats 2000000 in
theorem class_ok (s : ByteArray) (b : Nat) (w : World) (hs : s.size ≤ maxLen) (hL : Lw w) (hc : CL w b) :
    Calls Tryz.prog 8 #[.pointer (some ⟨b, 0, none⟩), .string s] w fun e w' => e = .returned (.int .i64 (classA s.data.toList)) ∧ CL w' b ∧ Bel b w w' := by
  have hlex := lex_ok s w hs hL
  unfold LexTo at hlex
  have hlen := lexA_len s.data.toList
  have hok := lexA_ok s.data.toList
  have HX := Lib.hid hlex
  have hA : classA s.data.toList = if (lexA s.data.toList).2 = 0 then classF (bodyF (lexA s.data.toList).1) else 0 := rfl
  generalize lexA s.data.toList = LA at *
  have HA := Lib.hid hA
  have HLen := Lib.hid hlen
  have HOk := Lib.hid hok
  have HCL := Lib.hid hc
  clear hlex hA hlen hok hc
  go_enter Tryz.func8, Tryz.ntmps8
  go_wp2_with fail
  refine HX.out.mono ?_
  rintro e w1 ⟨A, n, c, er, ts, rfl, ho, rfl, k1⟩
  clear HX
  by_cases he : er = 0
  · subst he
    have HG : Hid (classA s.data.toList = classF (bodyF (saysT ts))) := Lib.hid HA.out
    have hn : n ≤ 200 := by rw [← ho.len, ← saysT_length]; exact HLen.out
    have hcap := ho.cap
    have hW := Lib.hid (withoutHints_ok A n c ts w1 w.heap.size ho k1.size (by omega))
    have HO := Lib.hid ho
    have HLT := Lib.hid HCL.out.lt
    have HFr := Lib.hid ho.fresh
    have HS := Lib.hid HOk.out
    have HC1 := Lib.hid (HCL.out.next k1)
    clear HA HLen HOk ho
    go_wp2_with fail
    refine hW.out.mono ?_
    rintro e w2 ⟨us, k, rfl, hr, hk, hus, k2⟩
    have hE := Lib.hid (withoutEnd_ok A k c us w2 hr (by omega) (by omega))
    clear hW
    go_wp2_with fail
    refine hE.out.mono ?_
    rintro e w3 ⟨j, rfl, hj, hend, k3⟩
    have kk : Below w.heap.size w w3 := (k1.trans k2).trans (k3.mono (k1.trans k2).size)
    have hq : TQ b w3 A j c (us.take j) := by
      refine ⟨(hr.next k3).front hj, fun ad e => ?_, by omega, by omega, ?_⟩
      · have h1 := HFr.out ad e
        have h2 := HLT.out
        omega
      · have hsub : ∀ t ∈ saysT us, t.2.length ≤ 200 := fun t ht => by
          rw [hus.out] at ht
          exact (HS.out t (List.mem_filter.1 ht).1).1
        intro t ht
        have := saysT_short hsub t (List.mem_of_mem_take ht)
        omega
    have hcl3 : CL w3 b := HCL.out.next kk
    have hbody : classF (bodyF (saysT ts)) = classF (saysT (us.take j)) := by
      unfold bodyF
      rw [← hus.out, hend]
    have HB := Lib.hid hbody
    have HCc := Lib.hid (classOf_ok b _ (us.take j) (Nat.le_refl _) A j c w3 hq hcl3)
    clear hE hq hcl3 hbody hend
    go_wp2_with fail
    refine HCc.out.mono ?_
    rintro e w4 ⟨rfl, hc4, hb4⟩
    go_wp2_with fail
    go_ret
    exact ⟨by rw [HG.out, HB.out]; rfl, hc4, (Bel.of b kk).trans hb4⟩
  · have HG : Hid (classA s.data.toList = 0) := Lib.hid (by rw [HA.out, if_neg he])
    clear HA
    go_wp2_with fail
    go_ret
    exact ⟨by rw [HG.out]; rfl, HCL.out.next k1, Bel.of b k1⟩
end

/- PlanTells: what any statement does is as the document says, and is classed so: the walk. -/
section
open Go.RowKit Go.Maps
set_option maxRecDepth 100000

theorem neq_rplans (T : TypeId) (hT : T = 26) (d : Int) (k v : ByteArray) (w : World) : (binOp .neq T (.agg #[.int .i64 d, .string k, .string v]) (.agg #[.int .i64 d, .string k, .string v])).run Tryz.prog w = .ok (.bool false) w := by
  subst hT
  have hf : (Tryz.prog.fieldsOf 26) = (match Tryz.prog.underlying 26 with | some (.struct fs) => fs | _ => #[]) := rfl
  have hu := Tryz.underlying26
  rw [hu] at hf
  rw [run_neq_struct, run_equalIn_agg (P := Tryz.prog) w 9999 _ _ _ (by rw [hf]; exact hu) (by kernel_rfl), hf]
  have h3 := Tryz.underlying3
  have hz3 := Tryz.sizeOf3
  have ha3 := Tryz.isAgg3
  have h9 := Tryz.underlying9
  have hz9 := Tryz.sizeOf9
  have ha9 := Tryz.isAgg9
  have p0 : ∀ (x : Int) (u t : ByteArray) (w : World), (part 3 #[.int .i64 x, .string u, .string t] 0).run Tryz.prog w = .ok (.int .i64 x) w := fun x u t w => by simp [part, hz3, ha3]
  have p1 : ∀ (x : Int) (u t : ByteArray) (w : World), (part 9 #[.int .i64 x, .string u, .string t] 1).run Tryz.prog w = .ok (.string u) w := fun x u t w => by simp [part, hz9, ha9]
  have p2 : ∀ (x : Int) (u t : ByteArray) (w : World), (part 9 #[.int .i64 x, .string u, .string t] 2).run Tryz.prog w = .ok (.string t) w := fun x u t w => by simp [part, hz9, ha9]
  have e1 : ∀ (x y : Int) (w : World), (Op.equalIn 9999 3 (.int .i64 x) (.int .i64 y)).run Tryz.prog w = .ok (x == y) w := fun x y w => run_equalIn_int w 9998 3 .i64 .i64 x y h3
  have e2 : ∀ (x y : ByteArray) (w : World), (Op.equalIn 9999 9 (.string x) (.string y)).run Tryz.prog w = .ok (x.toList == y.toList) w := fun x y w => run_equalIn_string w 9998 9 x y h9
  simp [Op.eqFields, p0, p1, p2, e1, e2]

set_option maxHeartbeats 8000000 in
theorem planTells_walk (s : ByteArray) (w : World) (hs : s.size ≤ maxLen) (hL : Lw w) :
    Calls Tryz.prog 3 #[.string s] w fun e w' => e = .returned (.bool true) ∧ Below w.heap.size w w' := by
  have HA0 := Lib.hid (awake6 w hL)
  have HCC := Lib.hid (plan_class (l := s.data.toList))
  go_enter Tryz.func3, Tryz.ntmps3
  go_wp2_with fail
  refine HA0.out.mono ?_
  rintro e w1 ⟨rfl, k1⟩
  clear HA0
  by_cases hb : (1000 : Int) < (s.size : Int)
  · go_wp2_with fail
    go_ret
    exact ⟨rfl, k1⟩
  have HOF := Lib.hid (of_ok s w1 hs (hL.next k1))
  unfold OfTo at HOF
  go_wp2_with fail
  refine HOF.out.mono ?_
  rintro e w2 ⟨d, k, v, rfl, hd, k2⟩
  have HD := Lib.hid hd
  have hd1 : d = (planA s.data.toList).1 := congrArg Prod.fst hd
  have HC1 : Hid (d = 1 ∨ d = 2 → classA s.data.toList = 1) := Lib.hid (by rw [hd1]; exact HCC.out.1)
  have HC2 : Hid (d = 3 ∨ d = 4 ∨ d = 5 → classA s.data.toList = 2) := Lib.hid (by rw [hd1]; exact HCC.out.2)
  have K2 := kp_trans k1 k2
  have hbx : ∀ u, Below (w2.alloc (.cells #[.int .i64 d, .string k, .string v] 24)).heap.size (w2.alloc (.cells #[.int .i64 d, .string k, .string v] 24)) u → _ := fun u hu => box3 hu
  have HBX := Lib.hid hbx
  have HNE := Lib.hid (fun u => neq_rplans 26 rfl d k v u)
  have kb := kp_new w2 (.cells #[.int .i64 d, .string k, .string v] 24)
  clear HCC HOF hd hd1 hbx hb
  unfold planV
  go_wp2_with fail
  have K3 := kp_trans K2 kb
  have HB := HBX
  clear HBX kb k2
  generalize w2.heap.size = bx at *
  generalize w2.alloc (.cells #[.int .i64 d, .string k, .string v] 24) = w3 at *
  refine wp_region_specs (S := fun u => Below w3.heap.size w3 u) (Sp := [(11, Stb.eq (.agg #[.int .i64 d, .string k, .string v])), (12, Stb.eq (.string s)), (13, Stb.eq (.agg #[.int .i64 d, .string k, .string v])), (14, Stb.eq (.bool false))]) (by kernel_rfl) (by kernel_rfl) (kp_drewN _ 1) ?_ ?_
  · refine EachOp.cons ?_ ?_
    · intro a u hst hS hdep
      have h3 : a.tmps.getD 3 undef = .pointer (some ⟨bx, 0, none⟩) := hst.out 3 (by kernel_rfl)
      refine ⟨trivial, ?_⟩
      have g3 := gd h3
      obtain ⟨x0, x1, x2⟩ := HB.out u hS
      go_simp
      exact Goes.same hS rfl
    refine EachOp.cons ?_ ?_
    · intro a u hst hS hdep
      have h0 : a.tmps.getD 0 undef = .string s := hst.out 0 (by kernel_rfl)
      refine ⟨trivial, ?_⟩
      have g0 := gd h0
      go_simp
      exact Goes.same hS rfl
    refine EachOp.cons ?_ ?_
    · intro a u hst hS hdep
      have h12 : a.tmps.getD 12 undef = .string s := hdep 12 (by kernel_rfl)
      refine ⟨trivial, ?_⟩
      have g12 := gd h12
      go_simp
      refine (rof_ok s u hs).mono ?_
      rintro e u' ⟨d', k', v', rfl, hd, hb'⟩
      obtain ⟨rfl, rfl, rfl⟩ := doing_inj (hd.trans HD.out.symm)
      exact Goes.next (kp_trans hS hb') hb' rfl
    refine EachOp.cons ?_ ?_
    · intro a u hst hS hdep
      have h11 : a.tmps.getD 11 undef = .agg #[.int .i64 d, .string k, .string v] := hdep 11 (by kernel_rfl)
      have h13 : a.tmps.getD 13 undef = .agg #[.int .i64 d, .string k, .string v] := hdep 13 (by kernel_rfl)
      refine ⟨trivial, ?_⟩
      have g11 := gd h11
      have g13 := gd h13
      have hE := HNE.out u
      go_simp
      exact Goes.same hS rfl
    exact EachOp.nil
  · intro a u hst hS hdep
    have h11 : a.tmps.getD 11 undef = .agg #[.int .i64 d, .string k, .string v] := hdep 11 (by kernel_rfl)
    have h12 : a.tmps.getD 12 undef = .string s := hdep 12 (by kernel_rfl)
    have h13 : a.tmps.getD 13 undef = .agg #[.int .i64 d, .string k, .string v] := hdep 13 (by kernel_rfl)
    have h14 : a.tmps.getD 14 undef = .bool false := hdep 14 (by kernel_rfl)
    have hfr := hst.frame [(11, .agg #[.int .i64 d, .string k, .string v]), (12, .string s), (13, .agg #[.int .i64 d, .string k, .string v]), (14, .bool false)] (by kernel_rfl) ⟨h11, h12, h13, h14, trivial⟩
    clear hst hdep h11 h12 h13 h14
    subst hfr
    simp only [List.foldl_cons, List.foldl_nil, List.setIfInBounds_toArray, List.set_cons_zero, List.set_cons_succ]
    obtain ⟨w4, hw4⟩ : ∃ x, x = u := ⟨u, rfl⟩
    subst hw4
    have K4 := kp_trans K3 hS
    obtain ⟨y0, y1, y2⟩ := HB.out w4 hS
    clear hS
    by_cases h12 : d = 1 ∨ d = 2
    · have HCL := Lib.hid (HC1.out h12)
      rcases h12 with rfl | rfl
      all_goals
        have H0 := Lib.hid (newClasser_ok w4)
        go_wp2_with fail
        refine H0.out.mono ?_
        rintro e w5 ⟨rfl, c5, k5⟩
        clear H0
        have K5 := kp_trans K4 k5
        go_wp2_with fail
        refine (class_ok s _ _ hs (hL.next K5) c5).mono ?_
        rintro e w6 ⟨rfl, c6, b6⟩
        rw [HCL.out]
        go_wp2_with fail
        go_ret
        exact ⟨rfl, K5.trans (b6.below K4.size K5.size)⟩
    have n1 : (d == 1) = false := by simp only [beq_eq_false_iff_ne, ne_eq]; omega
    have n2 : (d == 2) = false := by simp only [beq_eq_false_iff_ne, ne_eq]; omega
    clear h12
    by_cases h345 : d = 3 ∨ d = 4 ∨ d = 5
    · have HCL := Lib.hid (HC2.out h345)
      rcases h345 with rfl | rfl | rfl
      all_goals
        have H0 := Lib.hid (newClasser_ok w4)
        go_wp2_with fail
        refine H0.out.mono ?_
        rintro e w5 ⟨rfl, c5, k5⟩
        clear H0
        have K5 := kp_trans K4 k5
        go_wp2_with fail
        refine (class_ok s _ _ hs (hL.next K5) c5).mono ?_
        rintro e w6 ⟨rfl, c6, b6⟩
        rw [HCL.out]
        go_wp2_with fail
        go_ret
        exact ⟨rfl, K5.trans (b6.below K4.size K5.size)⟩
    have n3 : (d == 3) = false := by simp only [beq_eq_false_iff_ne, ne_eq]; omega
    have n4 : (d == 4) = false := by simp only [beq_eq_false_iff_ne, ne_eq]; omega
    have n5 : (d == 5) = false := by simp only [beq_eq_false_iff_ne, ne_eq]; omega
    clear h345
    go_wp2_with fail
    go_ret
    exact ⟨rfl, K4⟩
end

/- From a walk to a law's row: arguments opened, and shut behind a call that left alone what was there before it. -/
section
open Go.RowKit Go.ChangeShapes Go.WideShapes Go.ChangeAt

theorem own0 : ownKnob Tryz.prog.godebug = none := by kernel_rfl
theorem laid0 : laidOutB Tryz.prog = true := by kernel_rfl

section
variable {H : Type} {enc : TypeId × Value → H} {P : Program}
theorem trodAll_later {W W' : World} (hl : laidOutB P = true) (hb : Below W.heap.size W W') : ∀ (ts : List TypeId) (vs : List Value) (ds : List (DataW H)) (ps : List MemPlace),
    (∀ t ∈ ts, P.readableRec t = true ∧ t < P.types.size) → DataW.TrodAll enc P W 0 (fun _ => true) true ts vs ds ps → (∀ x ∈ ps, x.block < W.heap.size) →
    DataW.TrodAll enc P W' 0 (fun b => decide (b < W.heap.size)) true ts vs ds ps
  | [], vs, ds, ps, _, h, _ => by
    cases vs <;> cases ds <;> simp [DataW.TrodAll] at h ⊢
    exact h
  | t :: ts, vs, ds, ps, ht, h, hlt => by
    obtain ⟨v, vs', d, ds', p, q, rfl, rfl, rfl, h1, h2⟩ := trodAll_cons h
    have h3 := Below.trod hl (ht t (by simp)).1 (ht t (by simp)).2 h1 hb (fun x hx => hlt x (by simp [hx]))
    have h4 := trodAll_later hl hb ts vs' ds' q (fun u hu => ht u (by simp [hu])) h2 (fun x hx => hlt x (by simp [hx]))
    exact trodAll_cons_mk h3 h4

/-- a law that answers true, and leaves alone what was there -/
theorem law_post {f : Func} {s : ChangeSpec} {tb : TypeId} {W W' : World} {args : Array Value} {ds gs : List (DataW H)} {before : List MemPlace}
    (hl : laidOutB P = true) (hts : ∀ t ∈ f.params.toList, P.readableRec t = true ∧ t < P.types.size) (hv : s.vars = []) (hrt : f.resultTypes = #[tb]) (htb : P.underlying tb = some .bool)
    (hW : DataW.Whole enc P f.params.toList s.vars false W args.toList ds gs before) (hfn : s.fn H (ds ++ gs) = { results := [.lit (.bool true)], args := ds })
    (hb : Below W.heap.size W W') : s.post enc P f false true false false W args (.bool true) W' := by
  have hlt : ∀ p ∈ before, p.block < W.heap.size := fun p hp => hW.lt p hp
  have hW' := hW
  obtain ⟨p, q, hA, hV, rfl, _, _⟩ := hW
  rw [hv] at hV
  obtain ⟨rfl, rfl⟩ := trodVars_none hV
  refine ⟨ds, [], p ++ [], [], p, [], hW', ?_, ?_, ?_, World.keptBut_mono (fun x hx => ⟨hx, .inr (.inl (by simpa using hx))⟩) (hb.frame (· ∈ p ++ [])), fun h => by cases h⟩
  · rw [hfn, hrt]
    exact trodAll_mk1 (shut_bool htb true)
  · rw [hfn]
    exact trodAll_later hl hb _ _ _ _ hts hA (fun x hx => hlt x (by simp [hx]))
  · rw [hfn, hv]
    simp [DataW.TrodVars]

theorem mapM_getD (zs : List Int) (h : ∀ n ∈ zs, (Lit.int .u8 n).wf = true) : (zs.map fun n => bv (UInt8.ofNat n.toNat)) = zs.map (Value.int .u8) := by
  apply List.map_congr_left
  intro n hn
  have hw := h n hn
  simp [Lit.wf, IntKind.min, IntKind.max, IntKind.signed, IntKind.bits] at hw
  simp only [bv, UInt8.toNat_ofNat']
  congr 1
  omega

/-- an argument that is a slice of bytes -/
theorem open_bytes {r : Reach} {b0 : Nat} {W : World} {t e : TypeId} {v : Value} {d : DataW H} {ps : List MemPlace} (ht : P.underlying t = some (.slice e)) (he : P.underlying e = some (.int .u8)) (hc : P.cellsOf e = 1)
    (hval : Value.okWide P W r b0 t v) (h : DataW.Trod enc P W 0 (fun _ => true) true t v d ps) :
    ∃ A l c bs, v = .slice A l c ∧ Sl W W.heap.size A l c bs ∧ c ≤ 9223372036854775807 := by
  obtain ⟨a, l, c, rfl⟩ := okWide_slice ht hval
  obtain ⟨fuel, hf⟩ := h
  rcases open_ints ht he hc hf with ⟨hcs, _⟩ | ⟨ad, len, cap, zs, hcs, _, hle, hmax, hzl, _, hcell, hwf⟩
  · simp [Value.cells] at hcs
    obtain ⟨rfl, rfl, rfl⟩ := hcs
    exact ⟨none, 0, 0, [], rfl, Sl.nil _ _, by omega⟩
  · simp [Value.cells] at hcs
    obtain ⟨rfl, rfl, rfl⟩ := hcs
    simp only [if_true] at hzl
    refine ⟨some ad, l, c, (zs.take l).map fun n => UInt8.ofNat n.toNat, rfl, ⟨?_, by simp; omega, hle⟩, by unfold maxLen at hmax; omega⟩
    have e1 : bvs ((zs.take l).map fun n => UInt8.ofNat n.toNat) = (zs.take l).map (Value.int .u8) := by
      rw [bvs, List.map_map]
      exact mapM_getD (zs.take l) (fun n hn => hwf n (List.mem_of_mem_take hn))
    rw [e1]
    rcases Nat.eq_zero_or_pos l with rfl | hpos
    · exact .inl (by simp)
    · have hc0 : ∀ i, i < zs.length → W.cell? (ad.add i) = some (.int .u8 (zs.getD i 0)) := hcell
      refine .inr ⟨ad, rfl, ?_, fun j u hu => ?_⟩
      · have := World.block_lt_of_cell? W _ (hc0 0 (by omega))
        rwa [add_block] at this
      · have hj : j < l := by
          have := (List.getElem?_eq_some_iff.1 hu).1
          simp at this
          omega
        rw [hc0 j (by omega)]
        rw [List.getElem?_map, List.getElem?_take_of_lt hj, List.getElem?_eq_getElem (by omega)] at hu
        simp at hu
        rw [← hu]
        simp [List.getD, List.getElem?_eq_getElem (show j < zs.length by omega)]
end
theorem wf64 {a : Int} (h : (Lit.int .i64 a).wf = true) : -9223372036854775808 ≤ a ∧ a ≤ 9223372036854775807 := by
  simpa [Lit.wf, IntKind.min, IntKind.max, IntKind.signed, IntKind.bits] using h
theorem wfu64 {a : Int} (h : (Lit.int .u64 a).wf = true) : ∃ n : Nat, a = n ∧ n < 18446744073709551616 := by
  have h2 : 0 ≤ a ∧ a ≤ 18446744073709551615 := by simpa [Lit.wf, IntKind.min, IntKind.max, IntKind.signed, IntKind.bits] using h
  exact ⟨a.toNat, by omega, by omega⟩
end

/- Arguments that are slices of plain data, or structs of them, opened: rows of any elements, and how much they weigh. -/
section
open Go.RowKit Go.ChangeShapes Go.WideShapes Go.ChangeAt
set_option maxRecDepth 100000

section
variable {H : Type} {enc : TypeId × Value → H} {P : Program} {W : World}

/-- what a datum weighs is within reach -/
def Light (P : Program) (t : TypeId) (d : DataW H) : Prop := ∀ n ∈ d.weights P t, n ≤ 140737488351232
theorem light_of {ts : List TypeId} {ds : List (DataW H)} (h : (DataW.weightsEach P ts ds).all (· ≤ reachBytes) = true) {j : Nat} {t : TypeId} {d : DataW H} (ht : ts[j]? = some t) (hd : ds[j]? = some d) : Light P t d := fun n hn => by
  have := List.all_eq_true.1 h _ (DataW.weights_mem_each ht hd n hn)
  have h2 : n ≤ reachBytes := by simpa using this
  exact h2
theorem weightsAll_mem {e : TypeId} {ds : List (DataW H)} {d : DataW H} (h : d ∈ ds) {n : Nat} (hn : n ∈ d.weights P e) : n ∈ DataW.weightsAll P e ds := by
  induction ds with
  | nil => simp at h
  | cons x r ih =>
    simp only [DataW.weightsAll, List.mem_append]
    rcases List.mem_cons.1 h with rfl | h
    · exact .inl hn
    · exact .inr (ih h)
theorem Light.slice {t e : TypeId} {elems spare : List (DataW H)} (ht : P.underlying t = some (.slice e)) (h : Light P t (.slice elems spare)) : (elems.length + spare.length) * P.bytesOf e ≤ 140737488351232 ∧ (∀ d ∈ elems, Light P e d) ∧ ∀ d ∈ spare, Light P e d := by
  unfold Light at *
  simp only [DataW.weights, ht] at h
  refine ⟨h _ (by simp), fun d hd n hn => h n ?_, fun d hd n hn => h n ?_⟩
  · exact List.mem_cons_of_mem _ (List.mem_append_left _ (weightsAll_mem hd hn))
  · exact List.mem_cons_of_mem _ (List.mem_append_right _ (weightsAll_mem hd hn))
theorem Light.field {t : TypeId} {fs : Array Field} {parts : List (DataW H)} (ht : P.underlying t = some (.struct fs)) (h : Light P t (.agg parts)) {j : Nat} {f : Field} {d : DataW H} (hf : fs[j]? = some f) (hd : parts[j]? = some d) : Light P f.type d := by
  unfold Light at *
  simp only [DataW.weights, ht] at h
  exact fun n hn => h n (DataW.weights_mem_each (t := f.type) (by simp [hf]) hd n hn)
theorem Light.string {t : TypeId} {s : List UInt8} (h : Light P t (.lit (.string s) : DataW H)) : s.length ≤ 140737488351232 := h _ (by simp [DataW.weights])

/-- cells behind cells are read -/
theorem reads_append {ad : Addr} {xs ys : List Value} (h1 : ∀ j u, xs[j]? = some u → W.cell? (ad.add j) = some u) (h2 : ∀ j u, ys[j]? = some u → W.cell? ((ad.add xs.length).add j) = some u) :
    ∀ j u, (xs ++ ys)[j]? = some u → W.cell? (ad.add j) = some u := by
  intro j u hu
  rcases Nat.lt_or_ge j xs.length with h | h
  · rw [List.getElem?_append_left h] at hu
    exact h1 j u hu
  · rw [List.getElem?_append_right h] at hu
    have := h2 _ u hu
    rwa [add_add, show xs.length + (j - xs.length) = j by omega] at this

/-- a row of elements of any kind, of 'size' cells each -/
theorem open_rows {R : Type} [Inhabited R] {t e : TypeId} {size bytes fuel : Nat} {cs : List Value} {x : DataW H × List MemPlace} {cells : R → List Value} {OK : R → Prop}
    (ht : P.underlying t = some (.slice e)) (hsz : P.cellsOf e = size) (hby : P.bytesOf e = bytes) (hpos : 0 < size)
    (he : ∀ n cs' x', DataW.trod enc P W 0 (fun _ => true) true n e cs' = some x' → Light P e x'.1 → ∃ r, cs' = cells r ∧ OK r)
    (h : DataW.trod enc P W 0 (fun _ => true) true fuel t cs = some x) (hw : Light P t x.1) :
    ∃ A l c, ∃ rs : List R, cs = [.slice A l c] ∧ rs.length = l ∧ Rd W W.heap.size A (rs.flatMap cells) ∧ (∀ r ∈ rs, OK r) ∧ l ≤ c ∧ c * bytes ≤ 140737488351232 := by
  rcases Go.Deep.open_slice ht h with ⟨rfl, _⟩ | ⟨a, len, cap, m, n, D, Pl, rfl, hb, hl, hm, hmm, rfl, hx⟩
  · exact ⟨none, 0, 0, [], rfl, rfl, .inl rfl, fun r hr => by simp at hr, Nat.le_refl _, by omega⟩
  simp only [if_true] at hmm
  subst hmm
  rw [hsz] at hx
  obtain ⟨w1, w2, w3⟩ := Light.slice ht hw
  simp only [List.length_map, List.length_range] at w1
  rw [show len + (m - len) = m by omega, hby] at w1
  have hlight : ∀ i, i < m → Light P e (D i) := fun i hi => by
    rcases Nat.lt_or_ge i len with h | h
    · exact w2 _ (List.mem_map.2 ⟨i, List.mem_range.2 h, rfl⟩)
    · refine w3 _ (List.mem_map.2 ⟨i - len, List.mem_range.2 (by omega), ?_⟩)
      show D (len + (i - len)) = D i
      rw [show len + (i - len) = i by omega]
  obtain ⟨r, hr⟩ := Go.Deep.choose_lt (α := R) (p := fun i r => W.cells? 0 (a.add (i * size)) size = some (cells r) ∧ OK r) (fun i hi => by
    obtain ⟨cs', h1, h2⟩ := hx i hi
    obtain ⟨r, rfl, hok⟩ := he _ _ _ h2 (hlight i hi)
    exact ⟨r, h1, hok⟩)
  have key : ∀ k, k ≤ m → (((List.range k).map r).flatMap cells).length = k * size ∧ ∀ j u, (((List.range k).map r).flatMap cells)[j]? = some u → W.cell? (a.add j) = some u := by
    intro k
    induction k with
    | zero => intro _; exact ⟨by simp, fun j u hu => by simp at hu⟩
    | succ k ih =>
      intro hk
      obtain ⟨i1, i2⟩ := ih (by omega)
      obtain ⟨h1, _⟩ := hr k (by omega)
      obtain ⟨_, hlen, hcell⟩ := World.cells?_some h1
      rw [List.range_succ, List.map_append, List.flatMap_append]
      simp only [List.map_cons, List.map_nil, List.flatMap_cons, List.flatMap_nil, List.append_nil]
      refine ⟨by rw [List.length_append, i1, hlen]; rw [Nat.succ_mul], reads_append i2 fun j u hu => ?_⟩
      rw [i1]
      have hj : j < size := by rw [← hlen]; exact (List.getElem?_eq_some_iff.1 hu).1
      rw [hcell j hj]
      exact hu
  refine ⟨some a, len, m, (List.range len).map r, rfl, by simp, ?_, ?_, hl, w1⟩
  · rcases Nat.eq_zero_or_pos len with rfl | h0
    · exact .inl (by simp)
    · refine .inr ⟨a, rfl, ?_, (key len hl).2⟩
      have hne : 0 < (((List.range len).map r).flatMap cells).length := by rw [(key len hl).1]; exact Nat.mul_pos h0 hpos
      have := World.block_lt_of_cell? W _ ((key len hl).2 0 _ (List.getElem?_eq_getElem hne))
      rwa [add_block] at this
  · intro q hq
    obtain ⟨i, hi, rfl⟩ := List.mem_map.1 hq
    exact (hr i (by have := List.mem_range.1 hi; omega)).2

theorem flat_bytes : ∀ bs : List UInt8, bs.flatMap (fun b => [bv b]) = bvs bs
  | [] => rfl
  | b :: r => congrArg (bv b :: ·) (flat_bytes r)

/-- bytes, by their cells -/
theorem open_bytes_cells {fuel : Nat} {cs : List Value} {t e : TypeId} {x : DataW H × List MemPlace} (ht : P.underlying t = some (.slice e)) (he : P.underlying e = some (.int .u8)) (hc : P.cellsOf e = 1) (hby : P.bytesOf e = 1)
    (h : DataW.trod enc P W 0 (fun _ => true) true fuel t cs = some x) (hw : Light P t x.1) :
    ∃ A l c bs, cs = [.slice A l c] ∧ Sl W W.heap.size A l c bs ∧ c ≤ 140737488351232 := by
  obtain ⟨A, l, c, bs, rfl, hl, hr, _, hlc, hm⟩ := open_rows (R := UInt8) (cells := fun b => [bv b]) (OK := fun _ => True) ht hc hby (by omega) (fun n cs' x' h' _ => by
    obtain ⟨n, rfl, _, hw⟩ := DataW.trod_int he h'
    have hw2 : 0 ≤ n ∧ n ≤ 255 := by simpa [Lit.wf, IntKind.min, IntKind.max, IntKind.signed, IntKind.bits] using hw
    refine ⟨UInt8.ofNat n.toNat, ?_, trivial⟩
    simp only [bv, UInt8.toNat_ofNat']
    congr 2
    omega) h hw
  rw [flat_bytes] at hr
  exact ⟨A, l, c, bs, rfl, ⟨hr, hl, hlc⟩, by omega⟩

/-- an argument that is a slice of bytes -/
theorem open_bytes_w {r : Reach} {b0 : Nat} {t e : TypeId} {v : Value} {d : DataW H} {ps : List MemPlace} (ht : P.underlying t = some (.slice e)) (he : P.underlying e = some (.int .u8)) (hc : P.cellsOf e = 1) (hby : P.bytesOf e = 1)
    (hval : Value.okWide P W r b0 t v) (h : DataW.Trod enc P W 0 (fun _ => true) true t v d ps) (hw : Light P t d) :
    ∃ A l c bs, v = .slice A l c ∧ Sl W W.heap.size A l c bs ∧ c ≤ 140737488351232 := by
  obtain ⟨a, l, c, rfl⟩ := okWide_slice ht hval
  obtain ⟨fuel, hf⟩ := h
  obtain ⟨A, l', c', bs, hcs, hs, hm⟩ := open_bytes_cells ht he hc hby hf hw
  have hcs' : [Value.slice a l c] = [Value.slice A l' c'] := hcs
  simp only [List.cons.injEq, and_true] at hcs'
  exact ⟨A, l', c', bs, hcs', hs, hm⟩

/-- an argument that is a slice of whole numbers -/
theorem flat_ints : ∀ zs : List Int, zs.flatMap (fun z => [Value.int .i64 z]) = zs.map (Value.int .i64)
  | [] => rfl
  | z :: r => congrArg (Value.int .i64 z :: ·) (flat_ints r)
theorem open_ints_w {r : Reach} {b0 : Nat} {t e : TypeId} {v : Value} {d : DataW H} {ps : List MemPlace} (ht : P.underlying t = some (.slice e)) (he : P.underlying e = some (.int .i64)) (hc : P.cellsOf e = 1) (hby : P.bytesOf e = 8)
    (hval : Value.okWide P W r b0 t v) (h : DataW.Trod enc P W 0 (fun _ => true) true t v d ps) (hw : Light P t d) :
    ∃ A l c, ∃ zs : List Int, v = .slice A l c ∧ zs.length = l ∧ Rd W W.heap.size A (zs.map (Value.int .i64)) ∧ (∀ z ∈ zs, -9223372036854775808 ≤ z ∧ z ≤ 9223372036854775807) ∧ l ≤ c ∧ c * 8 ≤ 140737488351232 := by
  obtain ⟨a, l, c, rfl⟩ := okWide_slice ht hval
  obtain ⟨fuel, hf⟩ := h
  obtain ⟨A, l', c', zs, hcs, hl, hr, hok, hlc, hm⟩ := open_rows (R := Int) (cells := fun z => [Value.int .i64 z]) (OK := fun z => -9223372036854775808 ≤ z ∧ z ≤ 9223372036854775807) ht hc hby (by omega) (fun n cs' x' h' _ => by
    obtain ⟨n, rfl, _, hw⟩ := DataW.trod_int he h'
    exact ⟨n, rfl, wf64 hw⟩) hf hw
  have hcs' : [Value.slice a l c] = [Value.slice A l' c'] := hcs
  simp only [List.cons.injEq, and_true] at hcs'
  rw [flat_ints] at hr
  exact ⟨A, l', c', zs, hcs', hl, hr, hok, hlc, hm⟩
end
end

/- Arguments that are tokens, and rows of tokens, opened; a row's world: what the library's variables hold; the closing rule for rows that list variables and lean on the world's shape. -/
section
open Go.RowKit Go.ChangeShapes Go.WideShapes Go.ChangeAt
set_option maxRecDepth 100000

section
variable {H : Type} {enc : TypeId × Value → H} {W : World}
theorem open_tok_cells {fuel : Nat} {cs : List Value} {x : DataW H × List MemPlace} (h : DataW.trod enc Tryz.prog W 0 (fun _ => true) true fuel 89 cs = some x) (hw : Light Tryz.prog 89 x.1) :
    ∃ t : Tk, cs = t.cells ∧ t.t.size ≤ 140737488351232 := by
  obtain ⟨xs, n, _, rfl, hl, hlen, hf⟩ := DataW.trod_struct Tryz.underlying89 h
  have h2 : Tryz.prog.cellsOf 89 = 2 := by kernel_rfl
  rw [h2] at hl
  match cs, hl with
  | [v0, v1], _ =>
    simp only [Array.size] at hlen
    match xs, hlen with
    | [y0, y1], _ =>
      have c1 : Tryz.prog.cellsOf 3 = 1 := by kernel_rfl
      have c2 : Tryz.prog.cellsOf 9 = 1 := by kernel_rfl
      have e0 : DataW.trod enc Tryz.prog W 0 (fun _ => true) true n 3 (([v0, v1].drop 0).take (Tryz.prog.cellsOf 3)) = some y0 := hf 0 _ rfl
      have e1 : DataW.trod enc Tryz.prog W 0 (fun _ => true) true n 9 (([v0, v1].drop 1).take (Tryz.prog.cellsOf 9)) = some y1 := hf 1 _ rfl
      have hw1 : Light Tryz.prog 9 y1.1 := hw.field (j := 1) Tryz.underlying89 rfl rfl
      rw [c1] at e0
      rw [c2] at e1
      obtain ⟨k, hk, _, _⟩ := DataW.trod_int (k := .i64) Tryz.underlying3 (show DataW.trod enc Tryz.prog W 0 (fun _ => true) true n 3 [v0] = some y0 from e0)
      obtain ⟨s, hs, hy, _⟩ := DataW.trod_string Tryz.underlying9 (show DataW.trod enc Tryz.prog W 0 (fun _ => true) true n 9 [v1] = some y1 from e1)
      subst hy
      have hb := hw1.string
      simp only [List.cons.injEq, and_true] at hk hs
      subst hk hs
      exact ⟨⟨k, s⟩, rfl, by rw [text_len] at hb; exact hb⟩

theorem open_tok {r : Reach} {b0 : Nat} {v : Value} {d : DataW H} {ps : List MemPlace} (hval : Value.okWide Tryz.prog W r b0 89 v) (h : DataW.Trod enc Tryz.prog W 0 (fun _ => true) true 89 v d ps) (hw : Light Tryz.prog 89 d) :
    ∃ t : Tk, v = tokV t.k t.t ∧ t.t.size ≤ 140737488351232 := by
  obtain ⟨cs, rfl, hsz⟩ := okWide_struct Tryz.underlying89 hval
  obtain ⟨fuel, hf⟩ := h
  obtain ⟨t, hq, hs⟩ := open_tok_cells hf hw
  refine ⟨t, ?_, hs⟩
  have : cs = t.cells.toArray := by
    have h2 : cs.toList = t.cells := hq
    rw [← h2]
  rw [this]
  rfl

theorem open_toks {r : Reach} {b0 : Nat} {v : Value} {d : DataW H} {ps : List MemPlace} (hval : Value.okWide Tryz.prog W r b0 43 v) (h : DataW.Trod enc Tryz.prog W 0 (fun _ => true) true 43 v d ps) (hw : Light Tryz.prog 43 d) :
    ∃ A l c ts, v = .slice A l c ∧ TR W A l ts ∧ (∀ t ∈ ts, t.t.size ≤ 140737488351232) ∧ l ≤ c ∧ c * 24 ≤ 140737488351232 := by
  obtain ⟨a, l, c, rfl⟩ := okWide_slice Tryz.underlying43 hval
  obtain ⟨fuel, hf⟩ := h
  obtain ⟨A, l', c', ts, hcs, hl, hr, hok, hlc, hm⟩ := open_rows (R := Tk) (cells := Tk.cells) (size := 2) (OK := fun t => t.t.size ≤ 140737488351232) Tryz.underlying43 (by kernel_rfl) (by kernel_rfl) (by omega)
    (fun n cs' x' h' hw' => open_tok_cells h' hw') hf hw
  have hcs' : [Value.slice a l c] = [Value.slice A l' c'] := hcs
  simp only [List.cons.injEq, Value.slice.injEq, and_true] at hcs'
  obtain ⟨rfl, rfl, rfl⟩ := hcs'
  exact ⟨a, l, c, ts, rfl, ⟨hl, hr⟩, hok, hlc, hm⟩
end

theorem lw_of_shaped {W : World} (h : W.ShapedOpen Tryz.prog) : Lw W :=
  Go.Proofs.cell_of_shapedOpen_int (zero := #[.int .i64 0]) (t := 3) h (of_decide_eq_true (by kernel_rfl)) (by kernel_rfl) rfl (by kernel_rfl) (by kernel_rfl) Tryz.underlying3

/-- as the library's closing rule for rows with a condition on the world, the world's shape handed on -/
theorem returns_shaped_and {H : Type} {enc : TypeId × Value → H} {a : Assume} {C : Checked} {os : Os} {f : FuncId} {fn : Func} {s : ChangeSpec} {conds : List PathCond} {apart fresh handsOn again : Bool} {X : World → Array Value → Prop}
    (hX : ∀ (w w' : World) (args : Array Value), w.heap = w'.heap → X w args → X w' args)
    (own : ownKnob C.prog.godebug = none) (started : os.Started) (noInit : C.prog.inits.idxOf? f = none) (hfn : C.prog.funcs[f]? = some fn)
    (witness : ∃ (w : World) (tape : Tape) (i : Input), w.os = os ∧ (w.forCall tape i).Shaped C.prog ∧ i.vars = [] ∧ Input.okWide C.prog (w.forCall tape i) .any w.heap.size f i ∧
      ((s.pre enc C.prog fn conds apart (w.forCall tape i).memory i.args ∧ X (w.forCall tape i).memory i.args) ∧ sizedMet enc C.prog fn (OpenSpec.ofChange s) apart (w.forCall tape i).memory i.args) ∧ a.holds C.prog (lone (Frame.enter C.prog f i.args .normal) [] (w.forCall tape i)))
    (contract : ∀ (W : World) (base : Nat) (args : Array Value) (ds gs : List (DataW H)) (before : List MemPlace),
      (∀ (j : Nat) t v, fn.params[j]? = some t → args[j]? = some v → Value.okWide C.prog W .any base t v) →
      DataW.Whole enc C.prog fn.params.toList s.vars apart W args.toList ds gs before →
      (DataW.weightsEach C.prog (fn.params.toList ++ s.plain.varTypes C.prog) (ds ++ gs)).all (· ≤ reachBytes) = true → X W args → W.ShapedOpen C.prog →
      Calls C.prog f args W fun e W' => ∃ v, e = .returned v ∧ s.post enc C.prog fn apart fresh handsOn again W args v W') :
    ReturnsInHanded a C os f .any (fun w args => (s.pre enc C.prog fn conds apart w args ∧ X w args) ∧ sizedMet enc C.prog fn (OpenSpec.ofChange s) apart w args) (s.post enc C.prog fn apart fresh handsOn again) := by
  refine returnsInHanded_of_calls own started noInit witness ?_
  intro w tape i _ hsh _ hok hpre _
  obtain ⟨_, _, _, fn', hfn', _, _, _, _, hval⟩ := hok
  have e : fn' = fn := Option.some.inj (hfn'.symm.trans hfn)
  subst e
  obtain ⟨⟨⟨ds, gs, before, hw, _⟩, hx⟩, hz⟩ := hpre
  have hw' := DataW.Whole.of_heap (w' := w.forCall tape i) (by rfl) hw
  refine (contract (w.forCall tape i) w.heap.size i.args ds gs before hval hw' (hz.weights hw) (hX _ _ _ (by rfl) hx) hsh).mono fun e W' ⟨v, he, hp⟩ => ?_
  subst he
  exact ChangeSpec.post_blind hp
end

/- Arguments that are plans, rows of plans and tables, opened. -/
section
open Go.RowKit Go.ChangeShapes Go.WideShapes Go.ChangeAt
set_option maxRecDepth 100000

/-- a plan: what is done, a key, a value -/
structure Pl where
  d : Int
  k : ByteArray
  v : ByteArray
deriving DecidableEq
instance : Inhabited Pl := ⟨⟨0, ⟨#[]⟩, ⟨#[]⟩⟩⟩
def Pl.cells (t : Pl) : List Value := [.int .i64 t.d, .string t.k, .string t.v]
def plC (ts : List Pl) : List Value := ts.flatMap Pl.cells
theorem plC_length : ∀ ts : List Pl, (plC ts).length = ts.length * 3
  | [] => rfl
  | r :: rs => by
    have := plC_length rs
    simp only [plC, List.flatMap_cons, List.length_append, List.length_cons, Pl.cells, List.length_nil] at this ⊢
    omega
theorem plC_at : ∀ (rs : List Pl) (j : Nat) (h : j < rs.length), (plC rs)[j * 3]? = some (.int .i64 rs[j].d) ∧ (plC rs)[j * 3 + 1]? = some (.string rs[j].k) ∧ (plC rs)[j * 3 + 2]? = some (.string rs[j].v)
  | [], _, h => by simp at h
  | r :: rs, 0, _ => by simp [plC, Pl.cells]
  | r :: rs, j + 1, h => by
    have := plC_at rs j (by simpa using h)
    have e1 : (j + 1) * 3 = j * 3 + 3 := by omega
    simp only [plC, List.flatMap_cons] at this ⊢
    rw [e1]
    simpa [Pl.cells] using this
/-- a row of plans that is read -/
structure PR (w : World) (A : Option Addr) (n : Nat) (ts : List Pl) : Prop where
  len : ts.length = n
  rd : Rd w w.heap.size A (plC ts)
theorem PR.at_ {w : World} {A : Option Addr} {n : Nat} {ts : List Pl} (h : PR w A n ts) {j : Nat} (hj : j < ts.length) : ∃ ad, A = some ad ∧ ad.block < w.heap.size ∧ ∀ w', Below w.heap.size w w' → w'.cell? (ad.add (j * 3)) = some (.int .i64 ts[j].d) ∧ w'.cell? ⟨(ad.add (j * 3)).block, (ad.add (j * 3)).off + 1, none⟩ = some (.string ts[j].k) ∧ w'.cell? ⟨(ad.add (j * 3)).block, (ad.add (j * 3)).off + 2, none⟩ = some (.string ts[j].v) := by
  obtain ⟨ad, hA, hb, hc⟩ := h.rd.addr (by rw [plC_length]; omega)
  refine ⟨ad, hA, hb, fun w' hw => ⟨?_, ?_, ?_⟩⟩
  · rw [hw.cell (by rw [add_block]; exact hb)]; exact hc _ _ (plC_at ts j hj).1
  · have e1 : (⟨(ad.add (j * 3)).block, (ad.add (j * 3)).off + 1, none⟩ : Addr) = ad.add (j * 3 + 1) := by rw [← add_add]; rfl
    rw [e1, hw.cell (by rw [add_block]; exact hb)]; exact hc _ _ (plC_at ts j hj).2.1
  · have e1 : (⟨(ad.add (j * 3)).block, (ad.add (j * 3)).off + 2, none⟩ : Addr) = ad.add (j * 3 + 2) := by rw [← add_add]; rfl
    rw [e1, hw.cell (by rw [add_block]; exact hb)]; exact hc _ _ (plC_at ts j hj).2.2

section
variable {H : Type} {enc : TypeId × Value → H} {W : World}
theorem open_pair_cells {fuel : Nat} {cs : List Value} {x : DataW H × List MemPlace} (h : DataW.trod enc Tryz.prog W 0 (fun _ => true) true fuel 81 cs = some x) (hw : Light Tryz.prog 81 x.1) :
    ∃ t : Kv, cs = t.cells ∧ t.k.size ≤ 140737488351232 ∧ t.v.size ≤ 140737488351232 := by
  obtain ⟨xs, n, _, rfl, hl, hlen, hf⟩ := DataW.trod_struct Tryz.underlying81 h
  have h2 : Tryz.prog.cellsOf 81 = 2 := by kernel_rfl
  rw [h2] at hl
  match cs, hl with
  | [v0, v1], _ =>
    simp only [Array.size] at hlen
    match xs, hlen with
    | [y0, y1], _ =>
      have c2 : Tryz.prog.cellsOf 9 = 1 := by kernel_rfl
      have e0 : DataW.trod enc Tryz.prog W 0 (fun _ => true) true n 9 (([v0, v1].drop 0).take (Tryz.prog.cellsOf 9)) = some y0 := hf 0 _ rfl
      have e1 : DataW.trod enc Tryz.prog W 0 (fun _ => true) true n 9 (([v0, v1].drop 1).take (Tryz.prog.cellsOf 9)) = some y1 := hf 1 _ rfl
      have hw0 : Light Tryz.prog 9 y0.1 := hw.field (j := 0) Tryz.underlying81 rfl rfl
      have hw1 : Light Tryz.prog 9 y1.1 := hw.field (j := 1) Tryz.underlying81 rfl rfl
      rw [c2] at e0 e1
      obtain ⟨k, hk, hz, _⟩ := DataW.trod_string Tryz.underlying9 (show DataW.trod enc Tryz.prog W 0 (fun _ => true) true n 9 [v0] = some y0 from e0)
      obtain ⟨s, hs, hy, _⟩ := DataW.trod_string Tryz.underlying9 (show DataW.trod enc Tryz.prog W 0 (fun _ => true) true n 9 [v1] = some y1 from e1)
      subst hy hz
      have hb := hw0.string
      have hc := hw1.string
      simp only [List.cons.injEq, and_true] at hk hs
      subst hk hs
      exact ⟨⟨k, s⟩, rfl, by rw [text_len] at hb; exact hb, by rw [text_len] at hc; exact hc⟩

theorem open_pairs {r : Reach} {b0 : Nat} {v : Value} {d : DataW H} {ps : List MemPlace} (hval : Value.okWide Tryz.prog W r b0 32 v) (h : DataW.Trod enc Tryz.prog W 0 (fun _ => true) true 32 v d ps) (hw : Light Tryz.prog 32 d) :
    ∃ A l c ts, v = .slice A l c ∧ KR W A l ts ∧ (∀ t ∈ ts, t.k.size ≤ 140737488351232 ∧ t.v.size ≤ 140737488351232) ∧ l ≤ c ∧ c * 32 ≤ 140737488351232 := by
  obtain ⟨a, l, c, rfl⟩ := okWide_slice Tryz.underlying32 hval
  obtain ⟨fuel, hf⟩ := h
  obtain ⟨A, l', c', ts, hcs, hl, hr, hok, hlc, hm⟩ := open_rows (R := Kv) (cells := Kv.cells) (size := 2) (OK := fun t => t.k.size ≤ 140737488351232 ∧ t.v.size ≤ 140737488351232) Tryz.underlying32 (by kernel_rfl) (by kernel_rfl) (by omega)
    (fun n cs' x' h' hw' => open_pair_cells h' hw') hf hw
  have hcs' : [Value.slice a l c] = [Value.slice A l' c'] := hcs
  simp only [List.cons.injEq, Value.slice.injEq, and_true] at hcs'
  obtain ⟨rfl, rfl, rfl⟩ := hcs'
  exact ⟨a, l, c, ts, rfl, ⟨hl, hr⟩, hok, hlc, hm⟩

theorem open_plan_cells {fuel : Nat} {cs : List Value} {x : DataW H × List MemPlace} (h : DataW.trod enc Tryz.prog W 0 (fun _ => true) true fuel 24 cs = some x) (hw : Light Tryz.prog 24 x.1) :
    ∃ t : Pl, cs = t.cells ∧ t.k.size ≤ 140737488351232 ∧ t.v.size ≤ 140737488351232 := by
  obtain ⟨xs, n, _, rfl, hl, hlen, hf⟩ := DataW.trod_struct Tryz.underlying24 h
  have h3 : Tryz.prog.cellsOf 24 = 3 := by kernel_rfl
  rw [h3] at hl
  match cs, hl with
  | [v0, v1, v2], _ =>
    simp only [Array.size] at hlen
    match xs, hlen with
    | [y0, y1, y2], _ =>
      have c1 : Tryz.prog.cellsOf 3 = 1 := by kernel_rfl
      have c2 : Tryz.prog.cellsOf 9 = 1 := by kernel_rfl
      have e0 : DataW.trod enc Tryz.prog W 0 (fun _ => true) true n 3 (([v0, v1, v2].drop 0).take (Tryz.prog.cellsOf 3)) = some y0 := hf 0 _ rfl
      have e1 : DataW.trod enc Tryz.prog W 0 (fun _ => true) true n 9 (([v0, v1, v2].drop 1).take (Tryz.prog.cellsOf 9)) = some y1 := hf 1 _ rfl
      have e2 : DataW.trod enc Tryz.prog W 0 (fun _ => true) true n 9 (([v0, v1, v2].drop 2).take (Tryz.prog.cellsOf 9)) = some y2 := hf 2 _ rfl
      have hw1 : Light Tryz.prog 9 y1.1 := hw.field (j := 1) Tryz.underlying24 rfl rfl
      have hw2 : Light Tryz.prog 9 y2.1 := hw.field (j := 2) Tryz.underlying24 rfl rfl
      rw [c1] at e0
      rw [c2] at e1 e2
      obtain ⟨q, hq, _, _⟩ := DataW.trod_int (k := .i64) Tryz.underlying3 (show DataW.trod enc Tryz.prog W 0 (fun _ => true) true n 3 [v0] = some y0 from e0)
      obtain ⟨k, hk, hz, _⟩ := DataW.trod_string Tryz.underlying9 (show DataW.trod enc Tryz.prog W 0 (fun _ => true) true n 9 [v1] = some y1 from e1)
      obtain ⟨s, hs, hy, _⟩ := DataW.trod_string Tryz.underlying9 (show DataW.trod enc Tryz.prog W 0 (fun _ => true) true n 9 [v2] = some y2 from e2)
      subst hy hz
      have hb := hw1.string
      have hc := hw2.string
      simp only [List.cons.injEq, and_true] at hq hk hs
      subst hq hk hs
      exact ⟨⟨q, k, s⟩, rfl, by rw [text_len] at hb; exact hb, by rw [text_len] at hc; exact hc⟩

theorem open_plan {r : Reach} {b0 : Nat} {v : Value} {d : DataW H} {ps : List MemPlace} (hval : Value.okWide Tryz.prog W r b0 24 v) (h : DataW.Trod enc Tryz.prog W 0 (fun _ => true) true 24 v d ps) (hw : Light Tryz.prog 24 d) :
    ∃ t : Pl, v = .agg #[.int .i64 t.d, .string t.k, .string t.v] ∧ t.k.size ≤ 140737488351232 ∧ t.v.size ≤ 140737488351232 := by
  obtain ⟨cs, rfl, hsz⟩ := okWide_struct Tryz.underlying24 hval
  obtain ⟨fuel, hf⟩ := h
  obtain ⟨t, hq, hs⟩ := open_plan_cells hf hw
  refine ⟨t, ?_, hs⟩
  have : cs = t.cells.toArray := by
    have h2 : cs.toList = t.cells := hq
    rw [← h2]
  rw [this]
  rfl

end
end
end Go.Proofs.YtaimmdhjfccnkaaGreatDoor
