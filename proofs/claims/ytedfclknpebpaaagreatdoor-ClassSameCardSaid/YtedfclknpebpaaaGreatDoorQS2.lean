/-
  Contracts and plain functions that the law stands on, part 2 of 4.
-/
import Derived.Test.YtedfclknpebpaaaGreatDoorQS1
import Derived.Maps.OwnOps
import Derived.StringKeys
import Derived.Maps.OwnSet
import Derived.Tactics
import Derived.Tactics2
import Derived.Defers
import Derived.Laws.Pointers
import Derived.Laws.LoneSync
import Derived.RegionTactic
import Derived.RegionCalls
import Derived.ChangeAlike
import Derived.Laws.NewBlocks
import Derived.Deep.RegionWith
import Derived.Deep.Cut
import Derived.WalkMore
import Derived.OrdersHeld
import Derived.Deep.RegionHeld
import Derived.BigQuiet
import Derived.Shelf.Strings.Replace
namespace Go.Proofs.YtedfclknpebpaaaGreatDoor
/- The map of the words that begin statements (firstWords of package class): contract. -/
section
open Go.RowKit Go.Maps Go.WideMaps
set_option maxRecDepth 100000

theorem sKey : Keyed Tryz.prog 9 := string_keyed Tryz.underlying9
theorem sZero (w : World) : (zeroValue 3).run Tryz.prog w = .ok (.int .i64 0) w := by kernel_rfl

/-- a map as it reads, of rows of a text and a number -/
def datM (L : List (List UInt8 × Int)) : DataW Unit := L.foldl (fun D p => D.put (.string p.1) (.lit (.int .i64 p.2))) (.map [])
theorem datM_push (L : List (List UInt8 × Int)) (x : List UInt8) (c : Int) : datM (L ++ [(x, c)]) = (datM L).put (.string x) (.lit (.int .i64 c)) := by simp [datM, List.foldl_append]
theorem datM_isMap (L : List (List UInt8 × Int)) : IsMap (datM L) := by
  unfold datM
  suffices h : ∀ (L : List (List UInt8 × Int)) (D : DataW Unit), IsMap D → IsMap (L.foldl (fun D p => D.put (.string p.1) (.lit (.int .i64 p.2))) D) from h L _ isMap_empty
  intro L
  induction L with
  | nil => exact fun D h => h
  | cons p r ih => exact fun D h => ih _ (h.put _ _)

def MapAt (w : World) (b : Nat) (L : List (List UInt8 × Int)) : Prop := w.ownsMap Tryz.prog 9 (plainElem Tryz.prog 3) b L.length (datM L)
theorem MapAt.keep {w w' : World} {b : Nat} {L : List (List UInt8 × Int)} (h : MapAt w b L) (hk : w'.heap[b]? = w.heap[b]?) : MapAt w' b L := by
  obtain ⟨es, clock, hb, r⟩ := h
  exact ⟨es, clock, hk.trans hb, r⟩
theorem MapAt.lt {w : World} {b : Nat} {L : List (List UInt8 × Int)} (h : MapAt w b L) : b < w.heap.size := World.ownsMap.lt h

/-- what is done so far: the map as it reads, all else as it was -/
structure Laid (w0 : World) (b : Nat) (L : List (List UInt8 × Int)) (w : World) : Prop where
  map : MapAt w b L
  low : Below w0.heap.size w0 w
  new : w0.heap.size ≤ b

theorem wpList_insert {w0 : World} {b : Nat} {L : List (List UInt8 × Int)} {w : World} (hl : Laid w0 b L w) (hn : L.length < 1000) {ops : Array Oper} {rest : List Oper} {o : Oper} {a : Act} {Q : Exit → Act → World → Prop}
    (hg : o.guard = none) (m x v : Operand) (hop : o.op = Op.insert 63 m x v) (s : ByteArray) (c : Int) (hm : a.eval m = .map (some b)) (hx : a.eval x = .string s) (hv : a.eval v = .int .i64 c) (hs : s.size ≤ maxLen) (hc : (Lit.int .i64 c).wf = true)
    (hK : ∀ w', Laid w0 b (L ++ [(s.data.toList, c)]) w' → wpList Tryz.prog ops Q rest (a.put o.dst undef) w') :
    wpList Tryz.prog ops Q (o :: rest) a w := by
  refine wpList_plain hg fun K' hK' => ?_
  obtain ⟨w', hrun, r1, r2⟩ := World.ownsMap.update hl.map sKey Tryz.underlying63 (by unfold maxLen; omega) (keyOf_string_mk Tryz.underlying9 hs) (plainElem_int Tryz.underlying3 hc)
  unfold Oper.wp
  simp [execOp, hop, hm, hx, hv, hrun, Result.andThen]
  refine hK' _ _ (hK w' ⟨?_, ?_, hl.new⟩)
  · unfold MapAt
    rw [datM_push, List.length_append]
    exact r1
  · exact hl.low.grown r2 hl.low.size (fun k hk => by cases hk; exact hl.new)

set_option maxHeartbeats 2000000 in
theorem firstWords_ok (w : World) : Calls Tryz.prog 61 #[] w fun e w' => ∃ b, e = .returned (.map (some b)) ∧ Laid w b famL w' := by
  have hmm := @run_makeMap Tryz.prog
  have hl : Laid w w.heap.size [] (w.alloc (.map #[] 0)) := ⟨World.ownsMap_made _ _ _ _, kp_new _ _, Nat.le_refl _⟩
  go_enter Tryz.func61, Tryz.ntmps61
  go_wp2_with (refine wpList_insert hl (by simp) rfl _ _ _ rfl _ _ rfl rfl rfl (by decide) (by decide) ?_; clear hl; intro w1 hl)
  go_ret
  exact ⟨_, rfl, hl⟩
end

/- sync.Once, one goroutine: the lock and the mark, as the library lays them: contracts. -/
section
open Go.RowKit
set_option maxRecDepth 100000

theorem raceOff (w : World) : (callFunc 125 #[]).run Tryz.prog w = .ok (.value (.tuple #[])) w := run_call_mark0 Tryz.func125 (by kernel_rfl) (by kernel_rfl) (by kernel_rfl) .disable (by kernel_rfl) w
theorem raceOn (w : World) : (callFunc 127 #[]).run Tryz.prog w = .ok (.value (.tuple #[])) w := run_call_mark0 Tryz.func127 (by kernel_rfl) (by kernel_rfl) (by kernel_rfl) .enable (by kernel_rfl) w
theorem raceGot (a : Addr) (w : World) : (callFunc 128 #[.pointer (some a)]).run Tryz.prog w = .ok (.value (.tuple #[])) w := run_call_marked Tryz.func128 (by kernel_rfl) (by kernel_rfl) (by kernel_rfl) .acquire (by kernel_rfl) a w
theorem raceGave (a : Addr) (w : World) : (callFunc 130 #[.pointer (some a)]).run Tryz.prog w = .ok (.value (.tuple #[])) w := run_call_marked Tryz.func130 (by kernel_rfl) (by kernel_rfl) (by kernel_rfl) .releaseMerge (by kernel_rfl) a w

/-- the mark is set, as a deferred call -/
theorem mark_deferred (a : Addr) (x : Value) (u : FrameMode) (w : World) (hc : w.cell? a = some x) (hz : w.frozen? a = false) :
    CallsD Tryz.prog 102 #[.pointer (some a), .bool true] u w fun e u' w' => u' = u ∧ (e = .returned (.tuple #[]) ∧ w' = w.drew.setCell a (.int .u32 1)) := by
  have hc' : w.drew.cell? a = some x := by go_simp
  have hz' : w.drew.frozen? a = false := by go_simp
  have hst := run_call_store (P := Tryz.prog) Tryz.func119 (by kernel_rfl) (by kernel_rfl) (by kernel_rfl) (by kernel_rfl) (k := .u32) (y := 1) hc' hz'
  go_enter_d Tryz.func102, Tryz.ntmps102
  go_wp2
  go_region_calls
  all_goals (go_end0; exact ⟨rfl, rfl⟩)

/-- a lock that is held is given back, as a deferred call -/
theorem give_deferred (a : Addr) (u : FrameMode) (w : World) (hc : w.cell? a = some (.int .i32 1)) (hz : w.frozen? a = false) :
    CallsD Tryz.prog 101 #[.pointer (some a)] u w fun e u' w' => u' = u ∧ (e = .returned (.tuple #[]) ∧ w' = w.setCell a (.int .i32 0)) := by
  have hd := raceOff
  have he := raceOn
  have hr := raceGave
  have hadd := run_call_add (P := Tryz.prog) Tryz.func131 (by kernel_rfl) (by kernel_rfl) (by kernel_rfl) .i32 (by kernel_rfl) (y := -1) (s := 0) hc hz (by simp [go_sem]; rfl)
  have hcv := run_convert_to_unsafe (P := Tryz.prog) (src := 149) (dst := 98) Tryz.underlying149 Tryz.underlying98 (by kernel_rfl) hc
  go_enter_d Tryz.func101, Tryz.ntmps101
  go_wp2
  go_end0
  go_wp2
  go_end0
  exact ⟨rfl, rfl⟩

/-- a lock that is free is taken -/
theorem take_free (a : Addr) (w : World) (hc : w.cell? a = some (.int .i32 0)) (hz : w.frozen? a = false) :
    Calls Tryz.prog 100 #[.pointer (some a)] w fun e w' => e = .returned (.tuple #[]) ∧ w' = w.setCell a (.int .i32 1) := by
  have hd := raceOff
  have he := raceOn
  have ha := raceGot
  have hcas := run_call_cas_hit (P := Tryz.prog) Tryz.func126 (by kernel_rfl) (by kernel_rfl) (by kernel_rfl) .i32 (by kernel_rfl) (y := 1) hc hz
  have hc' : (w.setCell a (.int .i32 1)).cell? a = some (.int .i32 1) := World.cell?_setCell_same w a _ hc
  have hcv := run_convert_to_unsafe (P := Tryz.prog) (src := 149) (dst := 98) Tryz.underlying149 Tryz.underlying98 (by kernel_rfl) hc'
  go_enter Tryz.func100, Tryz.ntmps100
  go_wp2
  first | go_end0 | (simp only [Exit.inBlock, Exit.then]; refine bodyPost_ret (results_none rfl _ _ _) rfl ?_) | refine bodyPost_ret (results_none rfl _ _ _) rfl ?_
  go_wp2
  go_end0
  exact ⟨rfl, rfl⟩

/-- the mark is asked -/
theorem asked (a : Addr) (d : Int) (w : World) (h : w.cell? a = some (.int .u32 d)) : Calls Tryz.prog 88 #[.pointer (some a)] w fun e w' => e = .returned (.bool (d != 0)) ∧ w = w' := by
  have hl := run_call_load (P := Tryz.prog) Tryz.func99 (by kernel_rfl) (by kernel_rfl) (by kernel_rfl) .u32 (by kernel_rfl) h
  go_enter Tryz.func88, Tryz.ntmps88
  go_wp2
  go_ret
  exact ⟨rfl, rfl⟩
end

/- A Classer in memory; its words, made once: contracts. -/
section
open Go.RowKit
set_option maxRecDepth 100000

/-- a Classer's cells: the mark, the lock, the lock's own, the words -/
def Cls (w : World) (b : Nat) (c0 c1 c2 c3 : Value) : Prop := w.heap[b]? = some (.cells #[c0, c1, c2, c3] 65 (0, 0))
section
variable {w : World} {b : Nat} {c0 c1 c2 c3 : Value}
theorem Cls.lt (h : Cls w b c0 c1 c2 c3) : b < w.heap.size := (Array.getElem?_eq_some_iff.1 h).1
theorem Cls.keep {w' : World} (h : Cls w b c0 c1 c2 c3) (hk : w'.heap[b]? = w.heap[b]?) : Cls w' b c0 c1 c2 c3 := hk.trans h
theorem Cls.next {w' : World} (h : Cls w b c0 c1 c2 c3) (hb : Below w.heap.size w w') : Cls w' b c0 c1 c2 c3 := h.keep (hb.block b h.lt)
theorem Cls.cells (h : Cls w b c0 c1 c2 c3) : w.cell? ⟨b, 0, none⟩ = some c0 ∧ w.cell? ⟨b, 1, none⟩ = some c1 ∧ w.cell? ⟨b, 2, none⟩ = some c2 ∧ w.cell? ⟨b, 3, none⟩ = some c3 := by
  refine ⟨?_, ?_, ?_, ?_⟩
  · rw [cell_of_row _ _ 0 _ _ (0, 0) h]; rfl
  · rw [cell_of_row _ _ 1 _ _ (0, 0) h]; rfl
  · rw [cell_of_row _ _ 2 _ _ (0, 0) h]; rfl
  · rw [cell_of_row _ _ 3 _ _ (0, 0) h]; rfl
theorem Cls.thaw (h : Cls w b c0 c1 c2 c3) (k : Nat) : w.frozen? ⟨b, k, none⟩ = false := by
  unfold Cls at h
  unfold World.frozen?
  simp [h]
theorem Cls.set0 (h : Cls w b c0 c1 c2 c3) (u : Value) : Cls (w.setCell ⟨b, 0, none⟩ u) b u c1 c2 c3 := by unfold Cls at *; simp [World.setCell, Array.getElem?_modify, h]
theorem Cls.set1 (h : Cls w b c0 c1 c2 c3) (u : Value) : Cls (w.setCell ⟨b, 1, none⟩ u) b c0 u c2 c3 := by unfold Cls at *; simp [World.setCell, Array.getElem?_modify, h]
theorem Cls.set3 (h : Cls w b c0 c1 c2 c3) (u : Value) : Cls (w.setCell ⟨b, 3, none⟩ u) b c0 c1 c2 u := by unfold Cls at *; simp [World.setCell, Array.getElem?_modify, h]
end

set_option maxHeartbeats 1000000 in
theorem closure_ok (b : Nat) (pl : Addr) (c0 c1 c2 c3 : Value) (w : World) (h : Cls w b c0 c1 c2 c3) (hp : w.cell? pl = some (.pointer (some ⟨b, 0, none⟩))) (hpl : pl.block < w.heap.size) :
    Calls Tryz.prog 60 #[.pointer (some pl)] w fun e w' => e = .returned (.tuple #[]) ∧ ∃ bm w1, Laid w.drew bm famL w1 ∧ w' = w1.setCell ⟨b, 3, none⟩ (.map (some bm)) := by
  have hc := h.cells.2.2.2
  have hz := h.thaw 3
  have hp' : w.drew.cell? pl = some (.pointer (some ⟨b, 0, none⟩)) := by go_simp
  have hc' : w.drew.cell? ⟨b, 3, none⟩ = some c3 := by go_simp
  have hz' : w.drew.frozen? ⟨b, 3, none⟩ = false := by go_simp
  have HC := Lib.hid h
  have HPL := Lib.hid hpl
  clear hpl h
  go_enter Tryz.func60, Tryz.ntmps60
  go_wp2
  go_region_with (go_at_call 61; refine (firstWords_ok _).mono ?_; rintro e w1 ⟨bm, rfl, hl⟩; have p1 := (hl.low.cell HPL.out).trans hp'; have q1 := (HC.out.keep (hl.low.block b HC.out.lt)).cells.2.2.2; have z1 := (HC.out.keep (hl.low.block b HC.out.lt)).thaw 3; have HL := Lib.hid hl; clear hl)
  all_goals
    go_wp2
    go_end0
    exact ⟨rfl, _, _, HL.out, rfl⟩

/-- what is left by making the words -/
structure Made (w : World) (b bm : Nat) (x : Value) (w' : World) : Prop where
  cls : Cls w' b (.int .u32 1) (.int .i32 0) x (.map (some bm))
  map : MapAt w' bm famL
  ne : bm ≠ b
  bel : Bel b w w'

set_option maxHeartbeats 1600000 in
theorem doSlow_ok (b : Nat) (pl : Addr) (x c3 : Value) (w : World) (hpb : ¬ b = pl.block) (h : Cls w b (.int .u32 0) (.int .i32 0) x c3) (hp : w.cell? pl = some (.pointer (some ⟨b, 0, none⟩))) (hpl : pl.block < w.heap.size) :
    Calls Tryz.prog 89 #[.pointer (some ⟨b, 0, none⟩), .func (.func 60) #[] #[.pointer (some pl)]] w fun e w' => e = .returned (.tuple #[]) ∧ ∃ bm, Made w b bm x w' := by
  have h1 := h.set1 (.int .i32 1)
  have hp1 : (w.setCell ⟨b, 1, none⟩ (.int .i32 1)).cell? pl = some (.pointer (some ⟨b, 0, none⟩)) := (World.cell?_setCell_other _ ⟨b, 1, none⟩ pl _ (fun e => hpb (by rw [← e]))).trans hp
  have hpl1 : pl.block < (w.setCell ⟨b, 1, none⟩ (.int .i32 1)).heap.size := by simpa [World.setCell] using hpl
  have H := Lib.hid h
  have H1 := Lib.hid h1
  have HP := Lib.hid hp1
  have HPL := Lib.hid hpl1
  have hnot : ∀ (x : Bool) (w : World), (Op.unary .not (.bool x)).run Tryz.prog w = .ok (.bool (!x)) w := fun _ _ => rfl
  clear h h1 hp hp1 hpl hpl1
  go_enter_defers Tryz.func89, Tryz.ntmps89
  go_wp2_with (go_at_call 100; refine (take_free ⟨b, 1, none⟩ _ H.out.cells.2.1 (H.out.thaw 1)).mono ?_; rintro e w' ⟨rfl, rfl⟩)
  refine (asked ⟨b, 0, none⟩ 0 _ H1.out.cells.1).mono ?_
  rintro e w2 ⟨rfl, rfl⟩
  go_wp2_with (go_at_call 60; refine (closure_ok b pl _ _ x c3 _ H1.out HP.out HPL.out).mono ?_; rintro e w3 ⟨rfl, bm, w4, hl, rfl⟩)
  have hk := hl.low.block b H1.out.lt
  have g4 := H1.out.keep hk
  have g5 := g4.set3 (.map (some bm))
  refine leaves_cons (f := 102) (args := #[.pointer (some ⟨b, 0, none⟩), .bool true]) (by simp) (by simp [go_sem]) ?_
  refine (mark_deferred ⟨b, 0, none⟩ (.int .u32 0) .returning _ g5.cells.1 (g5.thaw 0)).mono ?_
  rintro e u' w'' ⟨rfl, rfl, rfl⟩
  have g6 : Cls ((w4.setCell ⟨b, 3, none⟩ (.map (some bm))).drew.setCell ⟨b, 0, none⟩ (.int .u32 1)) b (.int .u32 1) (.int .i32 1) x (.map (some bm)) := Cls.set0 (w := (w4.setCell ⟨b, 3, none⟩ (.map (some bm))).drew) g5 _
  refine leaves_cons (f := 101) (args := #[.pointer (some ⟨b, 1, none⟩)]) (by simp [settle]) (by simp [go_sem]) ?_
  refine (give_deferred ⟨b, 1, none⟩ _ _ g6.cells.2.1 (g6.thaw 1)).mono ?_
  rintro e u' w'' ⟨rfl, rfl, rfl⟩
  have hbm : bm ≠ b := by
    have h3 := hl.new
    have h4 := H1.out.lt
    have h5 : (w.setCell ⟨b, 1, none⟩ (.int .i32 1)).drew.heap.size = (w.setCell ⟨b, 1, none⟩ (.int .i32 1)).heap.size := rfl
    omega
  have hm : MapAt ((((w4.setCell ⟨b, 3, none⟩ (.map (some bm))).drew.setCell ⟨b, 0, none⟩ (.int .u32 1))).setCell ⟨b, 1, none⟩ (.int .i32 0)) bm famL := by
    refine hl.map.keep ?_
    rw [Below.heap_setCell _ _ _ _ hbm, Below.heap_setCell _ _ _ _ hbm]
    exact Below.heap_setCell _ _ _ _ hbm
  have hbel : Bel b w ((((w4.setCell ⟨b, 3, none⟩ (.map (some bm))).drew.setCell ⟨b, 0, none⟩ (.int .u32 1))).setCell ⟨b, 1, none⟩ (.int .i32 0)) := by
    have e1 : Bel b w (w.setCell ⟨b, 1, none⟩ (.int .i32 1)) := Bel.setCell (Bel.of b (Below.refl _ w)) _ rfl _
    have e2 : Bel b (w.setCell ⟨b, 1, none⟩ (.int .i32 1)) w4 := Bel.ofDrew hl.low
    have e3 := (e1.trans e2).setCell ⟨b, 3, none⟩ rfl (.map (some bm))
    exact Bel.setCell (Bel.setCell e3.drew ⟨b, 0, none⟩ rfl _) ⟨b, 1, none⟩ rfl _
  have hfin : Made w b bm x ((((w4.setCell ⟨b, 3, none⟩ (.map (some bm))).drew.setCell ⟨b, 0, none⟩ (.int .u32 1))).setCell ⟨b, 1, none⟩ (.int .i32 0)) := ⟨g6.set1 _, hm, hbm, hbel⟩
  have HF := Lib.hid hfin
  clear hfin hm hbel g6 g5 g4 hk hl
  simp [Leaves, settle, results, Tryz.results89]
  exact ⟨bm, HF.out⟩
end

/- A Classer asked for its words: Do, families, New, Known: contracts. -/
section
open Go.RowKit Go.Maps
set_option maxRecDepth 100000

theorem MapAt.next {w w' : World} {b : Nat} {L : List (List UInt8 × Int)} (h : MapAt w b L) (hb : Below w.heap.size w w') : MapAt w' b L := h.keep (hb.block b h.lt)
theorem MapAt.bel {w w' : World} {b bm : Nat} {L : List (List UInt8 × Int)} (h : MapAt w bm L) (hb : Bel b w w') (hne : bm ≠ b) : MapAt w' bm L := h.keep (hb.block bm h.lt hne)

/-- a Classer: its words not made yet, or made -/
def CL (w : World) (b : Nat) : Prop := ∃ x, Cls w b (.int .u32 0) (.int .i32 0) x (.map none) ∨ ∃ bm, Cls w b (.int .u32 1) (.int .i32 0) x (.map (some bm)) ∧ MapAt w bm famL ∧ bm ≠ b
theorem CL.lt {w : World} {b : Nat} (h : CL w b) : b < w.heap.size := by
  obtain ⟨x, h | ⟨bm, h, _⟩⟩ := h
  · exact h.lt
  · exact h.lt
theorem CL.next {w w' : World} {b : Nat} (h : CL w b) (hb : Below w.heap.size w w') : CL w' b := by
  obtain ⟨x, h | ⟨bm, h, hm, hne⟩⟩ := h
  · exact ⟨x, .inl (h.next hb)⟩
  · exact ⟨x, .inr ⟨bm, h.next hb, hm.next hb, hne⟩⟩
theorem Made.cl {w w' : World} {b bm : Nat} {x : Value} (h : Made w b bm x w') : CL w' b := ⟨x, .inr ⟨bm, h.cls, h.map, h.ne⟩⟩

theorem newClasser_ok (w : World) : Calls Tryz.prog 8 #[] w fun e w' => e = .returned (.pointer (some ⟨w.heap.size, 0, none⟩)) ∧ CL w' w.heap.size ∧ Below w.heap.size w w' := by
  go_enter Tryz.func8, Tryz.ntmps8
  go_wp2
  go_ret
  exact ⟨rfl, ⟨_, .inl (heap_alloc_new w _)⟩, kp_new _ _⟩

theorem do_ok (b : Nat) (pl : Addr) (w : World) (hpb : ¬ b = pl.block) (h : CL w b) (hp : w.cell? pl = some (.pointer (some ⟨b, 0, none⟩))) (hpl : pl.block < w.heap.size) :
    Calls Tryz.prog 59 #[.pointer (some ⟨b, 0, none⟩), .func (.func 60) #[] #[.pointer (some pl)]] w fun e w' => e = .returned (.tuple #[]) ∧ ∃ bm x, Made w b bm x w' := by
  have hnot : ∀ (x : Bool) (w : World), (Op.unary .not (.bool x)).run Tryz.prog w = .ok (.bool (!x)) w := fun _ _ => rfl
  obtain ⟨x, h | ⟨bm, h, hm, hne⟩⟩ := h
  · have hA := Lib.hid (asked ⟨b, 0, none⟩ 0 w h.cells.1)
    have hS := Lib.hid (doSlow_ok b pl x _ w hpb h hp hpl)
    clear h hp
    go_enter Tryz.func59, Tryz.ntmps59
    go_wp2_with fail
    refine hA.out.mono ?_
    rintro e w2 ⟨rfl, rfl⟩
    go_wp2_with fail
    refine hS.out.mono ?_
    rintro e w3 ⟨rfl, bm, hm⟩
    have HM := Lib.hid hm
    clear hm
    go_wp2_with fail
    go_end0
    exact ⟨rfl, bm, x, HM.out⟩
  · have hA := Lib.hid (asked ⟨b, 0, none⟩ 1 w h.cells.1)
    have hM : Made w b bm x w := ⟨h, hm, hne, Bel.of b (Below.refl _ _)⟩
    have HM := Lib.hid hM
    clear h hp hm hM
    go_enter Tryz.func59, Tryz.ntmps59
    go_wp2_with fail
    refine hA.out.mono ?_
    rintro e w2 ⟨rfl, rfl⟩
    go_wp2_with fail
    go_end0
    exact ⟨rfl, bm, x, HM.out⟩

theorem families_ok (b : Nat) (w : World) (h : CL w b) :
    Calls Tryz.prog 29 #[.pointer (some ⟨b, 0, none⟩)] w fun e w' => ∃ bm, e = .returned (.map (some bm)) ∧ MapAt w' bm famL ∧ bm ≠ b ∧ CL w' b ∧ Bel b w w' := by
  have hmf : ∀ (fn : Fn) (first cap : Array Value) (w : World), (Instr.makeFunc fn first cap).run Tryz.prog w = .ok (.func fn first cap) w := fun _ _ _ _ => rfl
  have hlt := h.lt
  have kw := kp_new w (.cells #[.pointer (some ⟨b, 0, none⟩)] 23)
  have p0 : (w.alloc (.cells #[.pointer (some ⟨b, 0, none⟩)] 23)).cell? ⟨w.heap.size, 0, none⟩ = some (.pointer (some ⟨b, 0, none⟩)) := by simp
  have hD := Lib.hid (do_ok b ⟨w.heap.size, 0, none⟩ _ (by simp; omega) (h.next kw) p0 (by simp))
  have hblk : (w.alloc (.cells #[.pointer (some ⟨b, 0, none⟩)] 23)).heap[w.heap.size]? = some (.cells #[.pointer (some ⟨b, 0, none⟩)] 23 (0, 0)) := heap_alloc_new w _
  have HB := Lib.hid hblk
  have HLT := Lib.hid hlt
  have HH := Lib.hid h
  clear hblk hlt h p0
  go_enter Tryz.func29, Tryz.ntmps29
  go_wp2_with fail
  refine hD.out.mono ?_
  rintro e w1 ⟨rfl, bm, x, hm⟩
  have q0 : w1.cell? ⟨w.heap.size, 0, none⟩ = some (.pointer (some ⟨b, 0, none⟩)) := by
    rw [cell_of_row _ _ 0 _ _ (0, 0) ((hm.bel.block w.heap.size (by simp) (by have := HLT.out; omega)).trans HB.out)]
    rfl
  have q3 := hm.cls.cells.2.2.2
  have HM := Lib.hid hm
  clear hm
  go_wp2_with fail
  go_ret
  exact ⟨bm, rfl, HM.out.map, HM.out.ne, HM.out.cl, (Bel.of b kw).trans HM.out.bel⟩

theorem famL_size : Maps.size (datM famL) = 25 := by kernel_rfl

theorem known_ok (b : Nat) (w : World) (h : CL w b) :
    Calls Tryz.prog 13 #[.pointer (some ⟨b, 0, none⟩)] w fun e w' => e = .returned (.int .i64 25) ∧ CL w' b ∧ Bel b w w' := by
  have hF := Lib.hid (families_ok b w h)
  go_enter Tryz.func13, Tryz.ntmps13
  go_wp2_with fail
  refine hF.out.mono ?_
  rintro e w1 ⟨bm, rfl, hm, hne, hc, hb⟩
  have hlen := World.ownsMap.len hm Tryz.underlying63
  rw [famL_size] at hlen
  have HC := Lib.hid hc
  have HB := Lib.hid hb
  clear hm hc hb
  go_wp2_with fail
  go_ret
  exact ⟨rfl, HC.out, HB.out⟩

/-- a look-up in the words -/
theorem datM_at (L : List (List UInt8 × Int)) (x : List UInt8) (z : DataW Unit) : (datM L).atKey (.string x) z = ((L.reverse.find? fun p => decide (p.1 = x)).map fun p => (.lit (.int .i64 p.2) : DataW Unit)).getD z := by
  induction h : L.reverse generalizing L with
  | nil =>
    obtain rfl : L = [] := by simpa using h
    rfl
  | cons p r ih =>
    obtain rfl : L = r.reverse ++ [p] := by rw [← List.reverse_reverse L, h]; simp
    obtain ⟨k, v⟩ := p
    rw [datM_push, List.find?_cons]
    by_cases hk : k = x
    · subst hk
      rw [atKey_put_same (datM_isMap _) (by simp [WideAt.IsKeyLit]), decide_eq_true rfl]
      rfl
    · rw [atKey_put_other (by simpa using fun e => hk e.symm), decide_eq_false hk]
      exact ih _ (by simp)
end

/- classOf, explained of package class: contracts. -/
section
open Go.RowKit Go.Maps
set_option maxRecDepth 100000

theorem Rd.bel {w w' : World} {b : Nat} {A : Option Addr} {xs : List Value} (h : Rd w w.heap.size A xs) (hb : Bel b w w') (hne : ∀ ad, A = some ad → ad.block ≠ b) : Rd w' w'.heap.size A xs := by
  rcases h with h | ⟨ad, e, hlt, hc⟩
  · exact .inl h
  · exact .inr ⟨ad, e, Nat.lt_of_lt_of_le hlt hb.size, fun j u hu => (World.cell?_of_block (hb.block _ (by rw [add_block]; exact hlt) (by rw [add_block]; exact hne ad e))).trans (hc j u hu)⟩

/-- a row of tokens that is read, of another block than a Classer's -/
structure TQ (b : Nat) (w : World) (A : Option Addr) (n c : Nat) (ts : List Tk) : Prop where
  tr : TR w A n ts
  off : ∀ ad, A = some ad → ad.block ≠ b
  cap : n ≤ c
  few : n ≤ 1000000
  short : ∀ t ∈ ts, t.t.size ≤ 1000000
section
variable {b : Nat} {w w' : World} {A : Option Addr} {n c : Nat} {ts : List Tk}
theorem TQ.bel (h : TQ b w A n c ts) (hb : Bel b w w') : TQ b w' A n c ts := ⟨⟨h.tr.len, h.tr.rd.bel hb h.off⟩, h.off, h.cap, h.few, h.short⟩
theorem TQ.next (h : TQ b w A n c ts) (hb : Below w.heap.size w w') : TQ b w' A n c ts := h.bel (Bel.of b hb)
end

/-- what is behind the first one -/
theorem TQ.rest {b : Nat} {w : World} {ad : Addr} {n c : Nat} {t : Tk} {r : List Tk} (h : TQ b w (some ad) n c (t :: r)) : TQ b w (if c = 1 then some ad else some ⟨ad.block, ad.off + 2, none⟩) (n - 1) (c - 1) r := by
  have hn : r.length + 1 = n := by have := h.tr.len; simpa using this
  have hc := h.cap
  have hf := h.few
  refine ⟨⟨by omega, ?_⟩, fun ad' e => ?_, by omega, by omega, fun t ht => h.short t (List.mem_cons_of_mem _ ht)⟩
  · rcases h.tr.rd with h0 | ⟨ad', e, hb, hcc⟩
    · have := congrArg List.length h0
      rw [tkC_length] at this
      simp at this
    · injection e with e
      subst e
      by_cases h1 : c = 1
      · obtain rfl : r = [] := List.eq_nil_of_length_eq_zero (by omega)
        exact .inl rfl
      · rw [if_neg h1]
        refine .inr ⟨_, rfl, hb, fun j u hu => ?_⟩
        have e1 : (⟨ad.block, ad.off + 2, none⟩ : Addr).add j = ad.add (2 + j) := by
          rw [← add_add]
          congr 1
        rw [e1]
        refine hcc _ u ?_
        have e2 : tkC (t :: r) = t.cells ++ tkC r := by simp [tkC]
        rw [e2, List.getElem?_append_right (by simp [Tk.cells])]
        simpa [Tk.cells] using hu
  · by_cases h1 : c = 1
    · rw [if_pos h1] at e
      exact h.off ad' e
    · rw [if_neg h1] at e
      injection e with e
      subst e
      exact h.off ad rfl

/-- a look-up gives a word's family -/
theorem fam_of {x : List UInt8} {c : Int} (h : (datM famL).atKey (.string x) (.lit (.int .i64 0)) = .lit (.int .i64 c)) : c = famF x := by
  rw [datM_at] at h
  unfold famF
  cases hf : famL.reverse.find? fun p => decide (p.1 = x) with
  | none => rw [hf] at h; simp at h; simp [h]
  | some p => rw [hf] at h; simp at h; simp [h]

theorem stopPred : TokPred 47 stopF := fun t w => isStop_ok t w
theorem hintPred : TokPred 55 isHintF := fun t w => isHint_ok t w

/-- the words, and a look-up in them -/
theorem families_word (b : Nat) (ad : Addr) (s : ByteArray) (v : Int) (w : World) (h : CL w b) (hc : w.cell? ⟨ad.block, ad.off + 1, none⟩ = some (.string s)) (hlt : ad.block < w.heap.size) (hne : ad.block ≠ b) (hs : s.size ≤ 1000000) (hv : famF s.data.toList = v) :
    Calls Tryz.prog 29 #[.pointer (some ⟨b, 0, none⟩)] w fun e w' => ∃ bm, e = .returned (.map (some bm)) ∧ w'.cell? ⟨ad.block, ad.off + 1, none⟩ = some (.string s) ∧
      (Instr.lookup 63 (.map (some bm)) (.string s) false).run Tryz.prog w' = .ok (.int .i64 v) w' ∧ Hid (CL w' b ∧ Bel b w w') := by
  refine (families_ok b w h).mono ?_
  rintro e w' ⟨bm, rfl, hm, _, hc', hb'⟩
  obtain ⟨cc, hrun, hat, _⟩ := World.ownsMap.lookup_int hm sKey Tryz.underlying63 Tryz.underlying3 (sZero _) (Go.WideMaps.keyOf_string_mk Tryz.underlying9 (s := s) (by unfold maxLen; omega))
  obtain rfl : cc = v := (fam_of hat).trans hv
  have e : w'.cell? ⟨ad.block, ad.off + 1, none⟩ = w.cell? ⟨ad.block, ad.off + 1, none⟩ := World.cell?_of_block (hb'.block ad.block hlt hne)
  exact ⟨bm, rfl, e.trans hc, hrun, Lib.hid ⟨hc', hb'⟩⟩

/-- what 'explained' answers, if what it asks is answered -/
def ExplTo (b : Nat) (r : List Tk) : Prop := ∀ (A : Option Addr) (n c : Nat) (w : World), TQ b w A n c r → CL w b →
  Calls Tryz.prog 48 #[.pointer (some ⟨b, 0, none⟩), .slice A n c] w fun e w' => e = .returned (.int .i64 (exF (saysT r) (classF ((saysT r).drop 1)))) ∧ CL w' b ∧ Bel b w w'

set_option maxHeartbeats 8000000 in
theorem classOf_word (b : Nat) (A : Option Addr) (n c : Nat) (t : Tk) (r : List Tk) (w : World) (hq : TQ b w A n c (t :: r)) (hc : CL w b) (h1 : t.k = 1) (hs : (saysT (t :: r)).any stopF = false) (hx : ExplTo b r) :
    Calls Tryz.prog 24 #[.pointer (some ⟨b, 0, none⟩), .slice A n c] w fun e w' => e = .returned (.int .i64 (classF (saysT (t :: r)))) ∧ CL w' b ∧ Bel b w w' := by
  have hF := classF_word (t := t.says) (r := saysT r) h1 hs
  have hF : classF (saysT (t :: r)) = famB (famF t.t.data.toList) (saysT r) (exF (saysT r) (classF ((saysT r).drop 1))) := hF
  rw [hF]
  clear hF
  have hcap := hq.cap
  have HN : Hid (n = r.length + 1) := Lib.hid (by have := hq.tr.len; simpa using this.symm)
  have hn0 : 0 < n := by have := HN.out; omega
  have hnz : ((n : Int) == 0) = false := by simp; omega
  have hC := Lib.hid (containsFunc_ok _ _ stopPred (fun _ _ => rfl) A n c (t :: r) w hq.tr hq.few)
  rw [hs] at hC
  clear hs
  have HS := Lib.hid (hq.short t (by simp))
  obtain ⟨ad, rfl, hlt, hcc⟩ := hq.tr.head
  obtain ⟨c0, c1⟩ := hcc _ (Below.refl _ _)
  have hof := hq.off ad rfl
  have HR := Lib.hid hq.rest
  obtain ⟨k, s⟩ := t
  simp only at h1 c0 c1 HS
  subst h1
  have HC1 := Lib.hid c1
  have HOF := Lib.hid hof
  have HLT := Lib.hid hlt
  have HCL := Lib.hid hc
  clear hcc hq hc hof hlt
  obtain ⟨v, hv⟩ : ∃ v, famF s.data.toList = v := ⟨_, rfl⟩
  rw [hv]
  obtain ⟨R, hRR⟩ : ∃ R, R = famB v (saysT r) (exF (saysT r) (classF ((saysT r).drop 1))) := ⟨_, rfl⟩
  rw [← hRR]
  have HRR := Lib.hid hRR
  have HV := Lib.hid hv
  clear hv hRR
  go_enter Tryz.func24, Tryz.ntmps24
  go_wp2_with fail
  refine hC.out.mono ?_
  rintro e w1 ⟨rfl, k1⟩
  go_upto_region 4 with fail
  generalize (if c = 1 then some ad else some (⟨ad.block, ad.off + 2, none⟩ : Addr)) = A1 at *
  have kd : Below w1.heap.size w1 w1.drew := kp_drewN w1 1
  have HCD := Lib.hid ((HCL.out.next k1).next kd)
  have d1 : w1.cell? ⟨ad.block, ad.off + 1, none⟩ = some (.string s) := (k1.cell (p := ⟨ad.block, ad.off + 1, none⟩) HLT.out).trans HC1.out
  have d1' : w1.drew.cell? ⟨ad.block, ad.off + 1, none⟩ = some (.string s) := d1
  go_cut [28] from 22 (fun s28 wx => s28 = .int .i64 v ∧ CL wx b ∧ Bel b w wx)
  case first =>
    go_region_with (go_at_call 29; refine (families_word b ad s v _ HCD.out d1' (Nat.lt_of_lt_of_le HLT.out k1.size) HOF.out HS.out HV.out).mono ?_; rintro e w' ⟨bm, rfl, d2, hrun, HC'⟩)
    all_goals (go_wp2_with fail; go_meet; exact ⟨rfl, HC'.out.1, (Bel.of b k1).trans ((Bel.of b kd).trans HC'.out.2)⟩)
  case rest =>
  obtain ⟨rfl, hcl, hbl⟩ := hcut
  have hR := HR.out.bel hbl
  clear hC HS HC1 HCL HCD d1 d1' c0 c1
  by_cases h1 : v = 1
  · subst h1
    have HG : Hid (R = 1) := Lib.hid HRR.out
    go_wp2_with fail
    go_ret
    exact ⟨by rw [HG.out]; rfl, hcl, hbl⟩
  by_cases h2 : v = 2
  · subst h2
    have hX := Lib.hid (hx A1 (n - 1) (c - 1) wc hR hcl)
    have HG : Hid (R = exF (saysT r) (classF ((saysT r).drop 1))) := Lib.hid HRR.out
    generalize exF (saysT r) (classF ((saysT r).drop 1)) = x at *
    go_wp2_with fail
    refine hX.out.mono ?_
    rintro e w2 ⟨rfl, hc2, hb2⟩
    go_wp2_with fail
    go_ret
    exact ⟨by rw [HG.out]; rfl, hc2, hbl.trans hb2⟩
  by_cases h3 : v = 3
  · subst h3
    have HG : Hid (R = 2) := Lib.hid HRR.out
    go_wp2_with fail
    go_ret
    exact ⟨by rw [HG.out]; rfl, hcl, hbl⟩
  by_cases h4 : v = 4
  · subst h4
    have hX := Lib.hid (selected_ok A1 (n - 1) (c - 1) r true wc hR.tr hR.few)
    have HG : Hid (R = selF (saysT r) true) := Lib.hid HRR.out
    generalize selF (saysT r) true = x at *
    go_wp2_with fail
    refine hX.out.mono ?_
    rintro e w2 ⟨rfl, k2⟩
    go_wp2_with fail
    go_ret
    exact ⟨by rw [HG.out]; rfl, hcl.next k2, hbl.trans (Bel.of b k2)⟩
  by_cases h5 : v = 5
  · subst h5
    have kb := kp_new wc (.cells #[.string ⟨#[83, 69, 76, 69, 67, 84]⟩] 9)
    have hS := SR.new wc 9 [⟨#[83, 69, 76, 69, 67, 84]⟩]
    have hB := Lib.hid (hasWord_ok A1 (n - 1) (c - 1) r _ 1 1 _ _ (hR.tr.next kb) hS hR.few (by decide))
    have hE : txs [⟨#[83, 69, 76, 69, 67, 84]⟩] = [wSELECT] := rfl
    rw [hE] at hB
    have HG : Hid (R = selF (saysT r) (hasF (saysT r) [wSELECT])) := Lib.hid HRR.out
    clear hE hS
    generalize hasF (saysT r) [wSELECT] = x at *
    go_wp2_with fail
    refine hB.out.mono ?_
    rintro e w2 ⟨rfl, k2⟩
    have k3 := kp_trans kb k2
    have hX := Lib.hid (selected_ok A1 (n - 1) (c - 1) r x w2 (hR.tr.next k3) hR.few)
    clear hB
    go_wp2_with fail
    refine hX.out.mono ?_
    rintro e w3 ⟨rfl, k4⟩
    go_wp2_with fail
    go_ret
    exact ⟨by rw [HG.out]; rfl, hcl.next (kp_trans k3 k4), hbl.trans (Bel.of b (kp_trans k3 k4))⟩
  by_cases h6 : v = 6
  · subst h6
    have kb := kp_new wc (.cells #[.string ⟨#[87, 79, 82, 75]⟩, .string ⟨#[84, 82, 65, 78, 83, 65, 67, 84, 73, 79, 78]⟩] 9)
    have hS := SR.new wc 9 [⟨#[87, 79, 82, 75]⟩, ⟨#[84, 82, 65, 78, 83, 65, 67, 84, 73, 79, 78]⟩]
    have hB := Lib.hid (isBare_ok A1 (n - 1) (c - 1) r _ 2 2 _ _ (hR.tr.next kb) hS (by decide) hR.few)
    have hE : txs [⟨#[87, 79, 82, 75]⟩, ⟨#[84, 82, 65, 78, 83, 65, 67, 84, 73, 79, 78]⟩] = [wWORK, wTRANSACTION] := rfl
    rw [hE] at hB
    have HG : Hid (R = ifF 3 (bareF (saysT r) [wWORK, wTRANSACTION])) := Lib.hid HRR.out
    clear hE hS
    generalize bareF (saysT r) [wWORK, wTRANSACTION] = x at *
    go_wp2_with fail
    refine hB.out.mono ?_
    rintro e w2 ⟨rfl, k2⟩
    have k3 := kp_trans kb k2
    clear hB
    go_wp2_with fail
    refine (classIf_ok 3 (x) w2).mono ?_
    rintro e w3 ⟨rfl, rfl⟩
    go_wp2_with fail
    go_ret
    exact ⟨by rw [HG.out]; rfl, hcl.next k3, hbl.trans (Bel.of b k3)⟩
  by_cases h7 : v = 7
  · subst h7
    have kb := kp_new wc (.cells #[.string ⟨#[84, 82, 65, 78, 83, 65, 67, 84, 73, 79, 78]⟩] 9)
    have hS := SR.new wc 9 [⟨#[84, 82, 65, 78, 83, 65, 67, 84, 73, 79, 78]⟩]
    have hB := Lib.hid (beginsWith_ok A1 (n - 1) (c - 1) r _ 1 1 _ _ (hR.tr.next kb) hS (by decide))
    have hE : txs [⟨#[84, 82, 65, 78, 83, 65, 67, 84, 73, 79, 78]⟩] = [wTRANSACTION] := rfl
    rw [hE] at hB
    have HG : Hid (R = ifF 3 (headF (saysT r) [wTRANSACTION])) := Lib.hid HRR.out
    clear hE hS
    generalize headF (saysT r) [wTRANSACTION] = x at *
    go_wp2_with fail
    refine hB.out.mono ?_
    rintro e w2 ⟨rfl, k2⟩
    have k3 := kp_trans kb k2
    clear hB
    go_wp2_with fail
    refine (classIf_ok 3 (x) w2).mono ?_
    rintro e w3 ⟨rfl, rfl⟩
    go_wp2_with fail
    go_ret
    exact ⟨by rw [HG.out]; rfl, hcl.next k3, hbl.trans (Bel.of b k3)⟩
  by_cases h8 : v = 8
  · subst h8
    have kb := kp_new wc (.cells #[.string ⟨#[87, 79, 82, 75]⟩] 9)
    have hS := SR.new wc 9 [⟨#[87, 79, 82, 75]⟩]
    have hB := Lib.hid (isBare_ok A1 (n - 1) (c - 1) r _ 1 1 _ _ (hR.tr.next kb) hS (by decide) hR.few)
    have hE : txs [⟨#[87, 79, 82, 75]⟩] = [wWORK] := rfl
    rw [hE] at hB
    have HG : Hid (R = ifF 4 (bareF (saysT r) [wWORK])) := Lib.hid HRR.out
    clear hE hS
    generalize bareF (saysT r) [wWORK] = x at *
    go_wp2_with fail
    refine hB.out.mono ?_
    rintro e w2 ⟨rfl, k2⟩
    have k3 := kp_trans kb k2
    clear hB
    go_wp2_with fail
    refine (classIf_ok 4 (x) w2).mono ?_
    rintro e w3 ⟨rfl, rfl⟩
    go_wp2_with fail
    go_ret
    exact ⟨by rw [HG.out]; rfl, hcl.next k3, hbl.trans (Bel.of b k3)⟩
  by_cases h9 : v = 9
  · subst h9
    have kb := kp_new wc (.cells #[.string ⟨#[87, 79, 82, 75]⟩] 9)
    have hS := SR.new wc 9 [⟨#[87, 79, 82, 75]⟩]
    have hB := Lib.hid (isBare_ok A1 (n - 1) (c - 1) r _ 1 1 _ _ (hR.tr.next kb) hS (by decide) hR.few)
    have hE : txs [⟨#[87, 79, 82, 75]⟩] = [wWORK] := rfl
    rw [hE] at hB
    have HG : Hid (R = ifF 5 (bareF (saysT r) [wWORK])) := Lib.hid HRR.out
    clear hE hS
    generalize bareF (saysT r) [wWORK] = x at *
    go_wp2_with fail
    refine hB.out.mono ?_
    rintro e w2 ⟨rfl, k2⟩
    have k3 := kp_trans kb k2
    clear hB
    go_wp2_with fail
    refine (classIf_ok 5 (x) w2).mono ?_
    rintro e w3 ⟨rfl, rfl⟩
    go_wp2_with fail
    go_ret
    exact ⟨by rw [HG.out]; rfl, hcl.next k3, hbl.trans (Bel.of b k3)⟩
  by_cases h10 : v = 10
  · subst h10
    have kb := kp_new wc (.cells #[.string ⟨#[65, 85, 84, 79, 67, 79, 77, 77, 73, 84]⟩, .string ⟨#[71, 76, 79, 66, 65, 76]⟩, .string ⟨#[80, 69, 82, 83, 73, 83, 84]⟩] 9)
    have hS := SR.new wc 9 [⟨#[65, 85, 84, 79, 67, 79, 77, 77, 73, 84]⟩, ⟨#[71, 76, 79, 66, 65, 76]⟩, ⟨#[80, 69, 82, 83, 73, 83, 84]⟩]
    have hB := Lib.hid (beginsWith_ok A1 (n - 1) (c - 1) r _ 3 3 _ _ (hR.tr.next kb) hS (by decide))
    have hE : txs [⟨#[65, 85, 84, 79, 67, 79, 77, 77, 73, 84]⟩, ⟨#[71, 76, 79, 66, 65, 76]⟩, ⟨#[80, 69, 82, 83, 73, 83, 84]⟩] = [wAUTOCOMMIT, wGLOBAL, wPERSIST] := rfl
    rw [hE] at hB
    have HG : Hid (R = ifF 6 (!headF (saysT r) [wAUTOCOMMIT, wGLOBAL, wPERSIST])) := Lib.hid HRR.out
    clear hE hS
    generalize headF (saysT r) [wAUTOCOMMIT, wGLOBAL, wPERSIST] = x at *
    have hnot : ∀ (x : Bool) (w : World), (Op.unary .not (.bool x)).run Tryz.prog w = .ok (.bool (!x)) w := fun _ _ => rfl
    go_wp2_with fail
    refine hB.out.mono ?_
    rintro e w2 ⟨rfl, k2⟩
    have k3 := kp_trans kb k2
    clear hB
    go_wp2_with fail
    refine (classIf_ok 6 (!x) w2).mono ?_
    rintro e w3 ⟨rfl, rfl⟩
    go_wp2_with fail
    go_ret
    exact ⟨by rw [HG.out]; rfl, hcl.next k3, hbl.trans (Bel.of b k3)⟩
  have HG : Hid (R = 7) := Lib.hid (by
    rw [HRR.out]
    unfold famB
    rw [if_neg h1, if_neg h2, if_neg h3, if_neg h4, if_neg h5, if_neg h6, if_neg h7, if_neg h8, if_neg h9, if_neg h10])
  go_wp2_with fail
  go_ret
  exact ⟨by rw [HG.out]; rfl, hcl, hbl⟩
end

/- classOf, explained, withoutHints of package class, at every row of tokens: contracts. -/
section
open Go.RowKit Go.Maps
set_option maxRecDepth 100000

def ClassTo (b : Nat) (r : List Tk) : Prop := ∀ (A : Option Addr) (n c : Nat) (w : World), TQ b w A n c r → CL w b →
  Calls Tryz.prog 24 #[.pointer (some ⟨b, 0, none⟩), .slice A n c] w fun e w' => e = .returned (.int .i64 (classF (saysT r))) ∧ CL w' b ∧ Bel b w w'

set_option maxHeartbeats 1000000 in
theorem explained_ok (b : Nat) (r : List Tk) (hx : ∀ u r', r = u :: r' → ClassTo b r') : ExplTo b r := by
  intro A n c w hq hc
  have kb := kp_new w (.cells #[.string ⟨#[65, 78, 65, 76, 89, 90, 69]⟩, .string ⟨#[65, 78, 65, 76, 89, 83, 69]⟩] 9)
  have hS := SR.new w 9 [⟨#[65, 78, 65, 76, 89, 90, 69]⟩, ⟨#[65, 78, 65, 76, 89, 83, 69]⟩]
  have hB := Lib.hid (beginsWith_ok A n c r _ 2 2 _ _ (hq.tr.next kb) hS (by decide))
  have hE : txs [⟨#[65, 78, 65, 76, 89, 90, 69]⟩, ⟨#[65, 78, 65, 76, 89, 83, 69]⟩] = [wANALYZE, wANALYSE] := rfl
  have hnot : ∀ (x : Bool) (w : World), (Op.unary .not (.bool x)).run Tryz.prog w = .ok (.bool (!x)) w := fun _ _ => rfl
  rw [hE] at hB
  clear hS hE
  cases hh : headF (saysT r) [wANALYZE, wANALYSE] with
  | false =>
    have HF : Hid (exF (saysT r) (classF ((saysT r).drop 1)) = 1) := Lib.hid (by unfold exF; rw [hh]; rfl)
    rw [hh] at hB
    clear hh
    go_enter Tryz.func48, Tryz.ntmps48
    go_wp2_with fail
    refine hB.out.mono ?_
    rintro e w1 ⟨rfl, k1⟩
    go_wp2_with fail
    go_ret
    exact ⟨by rw [HF.out]; rfl, hc.next (kp_trans kb k1), Bel.of b (kp_trans kb k1)⟩
  | true =>
    cases r with
    | nil => cases hh
    | cons u r' =>
      have hcap := hq.cap
      have hn : 0 < n := by have := hq.tr.len; simp at this; omega
      obtain ⟨ad, rfl, _, _⟩ := hq.tr.head
      have hC := hx u r' rfl
      have HR := Lib.hid hq.rest
      have HF : Hid (exF (saysT (u :: r')) (classF ((saysT (u :: r')).drop 1)) = if classF (saysT r') = 2 then 2 else if classF (saysT r') = 7 then 7 else 1) := Lib.hid (by unfold exF; rw [hh]; rfl)
      generalize exF (saysT (u :: r')) (classF ((saysT (u :: r')).drop 1)) = R at *
      rw [hh] at hB
      unfold ClassTo at hC
      generalize classF (saysT r') = x at *
      have HC := Lib.hid hC
      have HCL := Lib.hid hc
      clear hh hq hx hc hC
      by_cases hc1 : c = 1
      · subst hc1
        obtain rfl : n = 1 := by omega
        have HR2 : Hid (TQ b w (some ad) 0 0 r') := Lib.hid (by have := HR.out; rwa [if_pos rfl] at this)
        clear HR
        go_enter Tryz.func48, Tryz.ntmps48
        go_wp2_with fail
        refine hB.out.mono ?_
        rintro e w1 ⟨rfl, k1⟩
        go_wp2_with fail
        have k2 := kp_trans kb k1
        have hq1 := HR2.out.next k2
        have hc1 := HCL.out.next k2
        have hCC := HC.out _ _ _ w1 hq1 hc1
        clear hq1 hc1 HC HR2 HCL hB
        refine Calls.mono hCC ?_
        rintro e w2 ⟨rfl, hc2, hb2⟩
        have hb3 := (Bel.of b k2).trans hb2
        by_cases h2 : x = 2
        · subst h2
          have HG : Hid (R = 2) := Lib.hid HF.out
          go_wp2_with fail
          go_ret
          exact ⟨by rw [HG.out]; rfl, hc2, hb3⟩
        by_cases h7 : x = 7
        · subst h7
          have HG : Hid (R = 7) := Lib.hid HF.out
          go_wp2_with fail
          go_ret
          exact ⟨by rw [HG.out]; rfl, hc2, hb3⟩
        have HG : Hid (R = 1) := Lib.hid (by rw [HF.out, if_neg h2, if_neg h7])
        go_wp2_with fail
        go_ret
        exact ⟨by rw [HG.out]; rfl, hc2, hb3⟩
      · have HR2 : Hid (TQ b w (some ⟨ad.block, ad.off + 2, none⟩) (n - 1) (c - 1) r') := Lib.hid (by have := HR.out; rwa [if_neg hc1] at this)
        clear HR
        go_enter Tryz.func48, Tryz.ntmps48
        go_wp2_with fail
        refine hB.out.mono ?_
        rintro e w1 ⟨rfl, k1⟩
        go_wp2_with fail
        have k2 := kp_trans kb k1
        have hq1 := HR2.out.next k2
        have hc1 := HCL.out.next k2
        have hCC := HC.out _ _ _ w1 hq1 hc1
        clear hq1 hc1 HC HR2 HCL hB
        refine Calls.mono hCC ?_
        rintro e w2 ⟨rfl, hc2, hb2⟩
        have hb3 := (Bel.of b k2).trans hb2
        by_cases h2 : x = 2
        · subst h2
          have HG : Hid (R = 2) := Lib.hid HF.out
          go_wp2_with fail
          go_ret
          exact ⟨by rw [HG.out]; rfl, hc2, hb3⟩
        by_cases h7 : x = 7
        · subst h7
          have HG : Hid (R = 7) := Lib.hid HF.out
          go_wp2_with fail
          go_ret
          exact ⟨by rw [HG.out]; rfl, hc2, hb3⟩
        have HG : Hid (R = 1) := Lib.hid (by rw [HF.out, if_neg h2, if_neg h7])
        go_wp2_with fail
        go_ret
        exact ⟨by rw [HG.out]; rfl, hc2, hb3⟩

theorem classOf_nil (b : Nat) : ClassTo b [] := by
  intro A n c w hq hc
  obtain rfl : 0 = n := hq.tr.len
  have HF : Hid (classF (saysT []) = 7) := Lib.hid classF_nil
  go_enter Tryz.func24, Tryz.ntmps24
  go_wp2_with fail
  go_ret
  exact ⟨by rw [HF.out]; rfl, hc, Bel.of b (Below.refl _ _)⟩

set_option maxHeartbeats 1000000 in
theorem classOf_no (b : Nat) (t : Tk) (r : List Tk) (h : t.k ≠ 1) : ClassTo b (t :: r) := by
  intro A n c w hq hc
  have HF : Hid (classF (saysT (t :: r)) = 7) := Lib.hid (classF_no (t := t.says) (r := saysT r) (.inl h))
  have hn : 0 < n := by have := hq.tr.len; simp at this; omega
  have hnz : ((n : Int) == 0) = false := by simp; omega
  obtain ⟨ad, rfl, _, hcc⟩ := hq.tr.head
  obtain ⟨c0, c1⟩ := hcc _ (Below.refl _ _)
  have h1 : (t.k != 1) = true := by simpa using h
  clear hcc
  go_enter Tryz.func24, Tryz.ntmps24
  go_wp2_with fail
  go_ret
  exact ⟨by rw [HF.out]; rfl, hc, Bel.of b (Below.refl _ _)⟩

set_option maxHeartbeats 1000000 in
theorem classOf_stop (b : Nat) (t : Tk) (r : List Tk) (h : t.k = 1) (hs : (saysT (t :: r)).any stopF = true) : ClassTo b (t :: r) := by
  intro A n c w hq hc
  have HF : Hid (classF (saysT (t :: r)) = 7) := Lib.hid (classF_no (t := t.says) (r := saysT r) (.inr hs))
  have hn : 0 < n := by have := hq.tr.len; simp at this; omega
  have hnz : ((n : Int) == 0) = false := by simp; omega
  have hC := Lib.hid (containsFunc_ok _ _ stopPred (fun _ _ => rfl) A n c (t :: r) w hq.tr hq.few)
  rw [hs] at hC
  clear hs
  obtain ⟨ad, rfl, _, hcc⟩ := hq.tr.head
  obtain ⟨c0, c1⟩ := hcc _ (Below.refl _ _)
  obtain ⟨k, s⟩ := t
  simp only at h c0 c1
  subst h
  clear hcc
  go_enter Tryz.func24, Tryz.ntmps24
  go_wp2_with fail
  refine hC.out.mono ?_
  rintro e w1 ⟨rfl, k1⟩
  go_wp2_with fail
  go_ret
  exact ⟨by rw [HF.out]; rfl, hc.next k1, Bel.of b k1⟩

theorem classOf_ok (b : Nat) : ∀ (N : Nat) (ts : List Tk), ts.length ≤ N → ClassTo b ts := by
  intro N
  induction N with
  | zero =>
    intro ts hl
    obtain rfl : ts = [] := List.eq_nil_of_length_eq_zero (by omega)
    exact classOf_nil b
  | succ N ih =>
    intro ts hl
    cases ts with
    | nil => exact classOf_nil b
    | cons t r =>
      by_cases h : t.k = 1
      · cases hs : (saysT (t :: r)).any stopF with
        | true => exact classOf_stop b t r h hs
        | false =>
          intro A n c w hq hc
          exact classOf_word b A n c t r w hq hc h hs (explained_ok b r fun u r' e => ih r' (by subst e; simp at hl; omega))
      · exact classOf_no b t r h

theorem withoutHints_ok (A : Option Addr) (n c : Nat) (ts : List Tk) (w : World) (base : Nat) (h : OT 35 w base A n c ts) (hbase : base ≤ w.heap.size) (hn : n ≤ 1000000) :
    Calls Tryz.prog 26 #[.slice A n c] w fun e w' => ∃ (us : List Tk) (k : Nat), e = .returned (.slice A k c) ∧ TR w' A k us ∧ k ≤ n ∧ Hid (saysT us = (saysT ts).filter fun t => !isHintF t) ∧ Below base w w' := by
  have hD := Lib.hid (deleteFunc_ok _ _ hintPred (fun _ _ => rfl) A n c ts w base h hbase hn)
  clear h
  go_enter Tryz.func26, Tryz.ntmps26
  go_wp2_with fail
  refine hD.out.mono ?_
  rintro e w1 ⟨us, k, rfl, hr, hk, hs, kb⟩
  go_wp2_with fail
  go_ret
  exact ⟨us, k, rfl, hr, hk, hs, kb⟩
end

/- The document's layer 4: bytes, and where a text stands in another one: contracts. -/
section
open Go.RowKit
set_option maxRecDepth 100000

theorem rblank_ok (c : UInt8) (w : World) : Calls Tryz.prog 62 #[.int .u8 (c.toNat : Int)] w fun e w' => e = .returned (.bool (blankF c)) ∧ w = w' := by
  have hF : blankF c = (decide (c.toNat = 32) || decide (c.toNat = 9) || decide (c.toNat = 10) || decide (c.toNat = 13)) := by
    have := by_all (fun c => blankF c == (decide (c.toNat = 32) || decide (c.toNat = 9) || decide (c.toNat = 10) || decide (c.toNat = 13))) (by decide +kernel) c
    simpa using this
  have HF := Lib.hid hF
  clear hF
  go_enter Tryz.func62, Tryz.ntmps62
  go_wp2
  all_goals
    go_ret
    refine ⟨ret_bool ?_, rfl⟩
    rw [HF.out, Bool.eq_iff_iff]
    simp
    try omega

theorem rdigit_ok (c : UInt8) (w : World) : Calls Tryz.prog 65 #[.int .u8 (c.toNat : Int)] w fun e w' => e = .returned (.bool (digitF c)) ∧ w = w' := by
  have hF : digitF c = (decide (48 ≤ c.toNat) && decide (c.toNat ≤ 57)) := rfl
  have HF := Lib.hid hF
  clear hF
  go_enter Tryz.func65, Tryz.ntmps65
  go_wp2
  all_goals
    go_ret
    refine ⟨ret_bool ?_, rfl⟩
    rw [HF.out, Bool.eq_iff_iff]
    simp
    try omega

theorem rletter_ok (c : UInt8) (w : World) : Calls Tryz.prog 64 #[.int .u8 (c.toNat : Int)] w fun e w' => e = .returned (.bool (letterF c)) ∧ w = w' := by
  have hF : letterF c = (decide (65 ≤ c.toNat) && decide (c.toNat ≤ 90) || decide (97 ≤ c.toNat) && decide (c.toNat ≤ 122) || decide (c.toNat = 95)) := rfl
  have HF := Lib.hid hF
  clear hF
  go_enter Tryz.func64, Tryz.ntmps64
  go_wp2
  all_goals
    go_ret
    refine ⟨ret_bool ?_, rfl⟩
    rw [HF.out, Bool.eq_iff_iff]
    simp
    try omega

theorem occ_cut (s t : ByteArray) (i : Nat) (h : i + t.size ≤ s.size) : ((s.extract i (i + t.size)).toList == t.toList) = Lib.occAt s.data.toList t.data.toList i := by
  rw [toList_dataR, toList_dataR, text_cut, Lib.occAt_iff_take _ _ _ (by rw [text_len, text_len]; exact h), text_len, Nat.add_sub_cancel_left]
where
  toList_dataR (s : ByteArray) : s.toList = s.data.toList := ByteArray.toList_eq s
theorem occ_none {l t : List UInt8} {i : Nat} (h : l.length < i + t.length) (ht : t ≠ []) : Lib.occAt l t i = false := by
  cases hb : Lib.occAt l t i with
  | false => rfl
  | true =>
    rcases Lib.occAt_room hb with h2 | h2
    · omega
    · exact absurd h2 ht

set_option maxHeartbeats 400000 in
theorem rat_ok (s t : ByteArray) (i : Nat) (w : World) (hi : i ≤ s.size) (hs : s.size ≤ 140737488351232) (ht : 0 < t.size) (ht2 : t.size ≤ 1000) :
    Calls Tryz.prog 63 #[.string s, .string t, .int .i64 (i : Int)] w fun e w' => e = .returned (.bool (begF t.data.toList (s.data.toList.drop i))) ∧ w = w' := by
  have hF : begF t.data.toList (s.data.toList.drop i) = Lib.occAt s.data.toList t.data.toList i := rfl
  rw [hF]
  by_cases h : i + t.size ≤ s.size
  · have he := occ_cut s t i h
    generalize Lib.occAt s.data.toList t.data.toList i = b at he
    have h2 : ((i : Int) + (t.size : Int)).toNat = i + t.size := by omega
    have HE := Lib.hid he
    clear he hF
    go_enter Tryz.func63, Tryz.ntmps63
    go_wp2_with fail
    go_ret
    exact ⟨ret_bool (by rw [← HE.out]), rfl⟩
  · have hn := occ_none (l := s.data.toList) (t := t.data.toList) (i := i) (by rw [text_len, text_len]; omega) (by intro e; have := congrArg List.length e; rw [text_len, List.length_nil] at this; omega)
    rw [hn]
    have hg : ¬ ((i : Int) + (t.size : Int) ≤ (s.size : Int)) := by omega
    clear hF hn h
    go_enter Tryz.func63, Tryz.ntmps63
    go_wp2_with fail
    go_ret
    exact ⟨rfl, rfl⟩

/-- where a text stands in another one, from a place on; below 0: nowhere -/
def findF (l t : List UInt8) (i : Nat) : Int := if Lib.index (l.drop i) t < 0 then -1 else (i : Int) + Lib.index (l.drop i) t

set_option maxHeartbeats 1000000 in
theorem rfind_ok (s t : ByteArray) (i : Nat) (w : World) (hi : i ≤ s.size) (hs : s.size ≤ 140737488351232) (ht : 0 < t.size) (ht2 : t.size ≤ 1000) :
    Calls Tryz.prog 32 #[.string s, .string t, .int .i64 (i : Int)] w fun e w' => e = .returned (.int .i64 (findF s.data.toList t.data.toList i)) ∧ w = w' := by
  have hne : t.data.toList ≠ [] := by intro e; have := congrArg List.length e; rw [text_len, List.length_nil] at this; omega
  have hocc : ∀ j, Lib.occAt (s.data.toList.drop i) t.data.toList j = Lib.occAt s.data.toList t.data.toList (i + j) := fun j => by unfold Lib.occAt; rw [List.drop_drop]
  have hhit : ∀ k, i ≤ k → k ≤ s.size → Lib.occAt s.data.toList t.data.toList k = true → (∀ j, i ≤ j → j < k → Lib.occAt s.data.toList t.data.toList j = false) → findF s.data.toList t.data.toList i = (k : Int) := fun k hk hks h1 h2 => by
    have := Lib.index_first (s := s.data.toList.drop i) (sub := t.data.toList) (i := k - i) (by rw [List.length_drop, text_len]; omega) (by rw [hocc, show i + (k - i) = k by omega]; exact h1) (fun j hj => by rw [hocc]; exact h2 _ (by omega) (by omega))
    unfold findF
    rw [this, if_neg (by omega)]
    omega
  have hmiss : (∀ j, i ≤ j → j + t.size ≤ s.size → Lib.occAt s.data.toList t.data.toList j = false) → findF s.data.toList t.data.toList i = -1 := fun h => by
    have := Lib.index_none (s := s.data.toList.drop i) (sub := t.data.toList) (fun j _ => by
      rw [hocc]
      rcases Nat.lt_or_ge s.size (i + j + t.size) with h1 | h1
      · exact occ_none (by rw [text_len, text_len]; omega) hne
      · exact h _ (by omega) h1)
    unfold findF
    rw [this, if_pos (by omega)]
  have hcut := fun k (h : k + t.size ≤ s.size) => occ_cut s t k h
  generalize findF s.data.toList t.data.toList i = R at hhit hmiss
  generalize Lib.occAt s.data.toList t.data.toList = oc at *
  have HH := Lib.hid hhit
  have HM := Lib.hid hmiss
  have HC := Lib.hid hcut
  clear hhit hmiss hcut hocc hne
  go_enter Tryz.func32, Tryz.ntmps32
  go_wp2
  go_loop [7] (fun v => ∃ k : Nat, v = .int .i64 k ∧ i ≤ k ∧ k ≤ s.size + 1 ∧ Hid (∀ j, i ≤ j → j < k → oc j = false)) (fun v => s.size + 1 - (intOf v).toNat)
  case atStart => exact ⟨i, rfl, Nat.le_refl _, by omega, Lib.hid (fun j h1 h2 => by omega)⟩
  case round =>
    obtain ⟨k, rfl, hk, hks, hno⟩ := hrel
    by_cases h : k + t.size ≤ s.size
    · have hc := HC.out k h
      have h2 : ((k : Int) + (t.size : Int)).toNat = k + t.size := by omega
      cases hb : oc k
      · rw [hb] at hc
        have hno2 : Hid (∀ j, i ≤ j → j < k + 1 → oc j = false) := Lib.hid (fun j h1 h3 => by
          rcases Nat.lt_or_ge j k with h4 | h4
          · exact hno.out j h1 h4
          · obtain rfl : j = k := by omega
            exact hb)
        clear hb
        go_wp2_with fail
        go_round
        case rel => exact ⟨k + 1, by go_num, by omega, by omega, hno2⟩
        case measure => simp [intOf]; omega
      · rw [hb] at hc
        have hR := HH.out k hk (by omega) hb hno.out
        subst hR
        clear hb
        go_wp2_with fail
        go_ret
        exact ⟨rfl, rfl⟩
    · have hR := HM.out (fun j h1 h3 => hno.out j h1 (by omega))
      subst hR
      have hg : ¬ ((k : Int) + (t.size : Int) ≤ (s.size : Int)) := by omega
      clear h
      go_wp2_with fail
      go_ret
      exact ⟨rfl, rfl⟩
end

/- The document's layer 4: blanks cut off, what stands between quotes, words: contracts. -/
section
open Go.RowKit
set_option maxRecDepth 100000

/-- blanks at the ends are cut off, the first ones first -/
def trimR (l : List UInt8) : List UInt8 := ((l.dropWhile blankF).reverse.dropWhile blankF).reverse

theorem dropWhile_append_all {p : UInt8 → Bool} : ∀ (a b : List UInt8), (∀ x ∈ a, p x = true) → (a ++ b).dropWhile p = b.dropWhile p
  | [], _, _ => rfl
  | x :: a, b, h => by
    have := dropWhile_append_all a b (fun y hy => h y (List.mem_cons_of_mem _ hy))
    rw [List.cons_append, List.dropWhile_cons_of_pos (h x (by simp)), this]
theorem dropWhile_append_some {p : UInt8 → Bool} : ∀ (a b : List UInt8), (∃ x ∈ a, p x = false) → (a ++ b).dropWhile p = a.dropWhile p ++ b
  | [], _, ⟨x, h, _⟩ => by simp at h
  | x :: a, b, h => by
    by_cases hx : p x = true
    · rw [List.cons_append, List.dropWhile_cons_of_pos hx, List.dropWhile_cons_of_pos hx]
      refine dropWhile_append_some a b ?_
      obtain ⟨y, hy, hp⟩ := h
      rcases List.mem_cons.1 hy with rfl | hy
      · rw [hx] at hp; cases hp
      · exact ⟨y, hy, hp⟩
    · rw [List.cons_append, List.dropWhile_cons_of_neg hx, List.dropWhile_cons_of_neg hx]
      rfl

/-- the end cut off by one -/
def rtrim (p : UInt8 → Bool) (l : List UInt8) : List UInt8 := (l.reverse.dropWhile p).reverse
theorem rtrim_cons {p : UInt8 → Bool} (x : UInt8) (l : List UInt8) : rtrim p (x :: l) = if (∃ y ∈ l, p y = false) then x :: rtrim p l else (if p x = true then [] else [x]) := by
  unfold rtrim
  rw [List.reverse_cons]
  by_cases h : ∃ y ∈ l, p y = false
  · rw [if_pos h, dropWhile_append_some _ _ (by obtain ⟨y, hy, hp⟩ := h; exact ⟨y, List.mem_reverse.2 hy, hp⟩)]
    simp
  · rw [if_neg h, dropWhile_append_all _ _ (fun y hy => by
      rcases hb : p y with _ | _
      · exact absurd ⟨y, List.mem_reverse.1 hy, hb⟩ h
      · rfl)]
    by_cases hx : p x = true
    · rw [List.dropWhile_cons_of_pos hx, if_pos hx]; rfl
    · rw [List.dropWhile_cons_of_neg hx, if_neg hx]; rfl
theorem rtrim_all {p : UInt8 → Bool} {l : List UInt8} (h : ∀ x ∈ l, p x = true) : rtrim p l = [] := by
  unfold rtrim
  have := dropWhile_append_all (p := p) l.reverse [] (fun x hx => h x (List.mem_reverse.1 hx))
  rw [List.append_nil] at this
  rw [this]
  rfl
theorem trim_sides {p : UInt8 → Bool} : ∀ l : List UInt8, (rtrim p l).dropWhile p = rtrim p (l.dropWhile p)
  | [] => rfl
  | x :: l => by
    by_cases hx : p x = true
    · rw [List.dropWhile_cons_of_pos hx, ← trim_sides l, rtrim_cons]
      by_cases h : ∃ y ∈ l, p y = false
      · rw [if_pos h, List.dropWhile_cons_of_pos hx]
      · rw [if_neg h, if_pos hx, rtrim_all (fun y hy => by
          rcases hb : p y with _ | _
          · exact absurd ⟨y, hy, hb⟩ h
          · rfl)]
    · rw [List.dropWhile_cons_of_neg hx, rtrim_cons]
      by_cases h : ∃ y ∈ l, p y = false
      · rw [if_pos h, List.dropWhile_cons_of_neg hx]
      · rw [if_neg h, if_neg hx, List.dropWhile_cons_of_neg hx]
theorem blanks_contains (c : UInt8) : blanks4.contains c = blankF c := by
  have := by_all (fun c => blanks4.contains c == blankF c) (by decide +kernel) c
  simpa using this
theorem trimF_R (l : List UInt8) : trimF l = trimR l := by
  have hp : (blanks4.contains ·) = blankF := funext blanks_contains
  unfold trimF Lib.trimS Lib.trimLeftS Lib.trimRightS trimR
  rw [hp]
  exact trim_sides l

theorem dropWhile_front {p : UInt8 → Bool} {c : UInt8} {r : List UInt8} (h : p c = true) : (c :: r).dropWhile p = r.dropWhile p := List.dropWhile_cons_of_pos h
theorem dropWhile_stays {p : UInt8 → Bool} {c : UInt8} {r : List UInt8} (h : p c = false) : (c :: r).dropWhile p = c :: r := List.dropWhile_cons_of_neg (by simp [h])
theorem rtrim_front {p : UInt8 → Bool} {c : UInt8} {r : List UInt8} (h : p c = true) : rtrim p (r ++ [c]) = rtrim p r := by
  unfold rtrim
  rw [List.reverse_append]
  exact congrArg List.reverse (dropWhile_front h)
theorem rtrim_stays {p : UInt8 → Bool} {c : UInt8} {r : List UInt8} (h : p c = false) : rtrim p (r ++ [c]) = r ++ [c] := by
  unfold rtrim
  rw [List.reverse_append]
  show ((c :: r.reverse).dropWhile p).reverse = _
  rw [dropWhile_stays h]
  simp

def strOf : Value → ByteArray
  | .string s => s
  | _ => ⟨#[]⟩

set_option maxHeartbeats 1000000 in
theorem rtrim_ok (s : ByteArray) (w : World) (hs : s.size ≤ 140737488351232) : Calls Tryz.prog 33 #[.string s] w fun e w' => ∃ r : ByteArray, e = .returned (.string r) ∧ r.data.toList = trimF s.data.toList ∧ w = w' := by
  rw [trimF_R]
  have hT : trimR s.data.toList = rtrim blankF (s.data.toList.dropWhile blankF) := rfl
  rw [hT]
  generalize hd : s.data.toList.dropWhile blankF = dl
  have HD := Lib.hid hd
  clear hd hT
  go_enter Tryz.func33, Tryz.ntmps33
  go_wp2
  go_loop [0] (fun v => ∃ q : ByteArray, v = .string q ∧ q.size ≤ s.size ∧ Hid (q.data.toList.dropWhile blankF = dl)) (fun v => (strOf v).size)
  case atStart => exact ⟨s, rfl, Nat.le_refl _, HD⟩
  case round =>
    obtain ⟨q, rfl, hq, hx⟩ := hrel
    clear HD
    by_cases h0 : q.size = 0
    · have hn : q.data.toList = [] := List.eq_nil_of_length_eq_zero (by rw [text_len]; exact h0)
      have hdl : dl = [] := by rw [← hx.out, hn]; rfl
      subst hdl
      clear hx
      have HQ : Hid (rtrim blankF q.data.toList = rtrim blankF []) := Lib.hid (by rw [hn])
      clear hn
      go_wp2
      go_loop [0] (fun v => ∃ q2 : ByteArray, v = .string q2 ∧ q2.size ≤ s.size ∧ Hid (rtrim blankF q2.data.toList = rtrim blankF ([] : List UInt8))) (fun v => (strOf v).size)
      case atStart => exact ⟨q, rfl, hq, HQ⟩
      case round =>
        obtain ⟨q2, rfl, hq2, hx2⟩ := hrel
        clear HQ
        by_cases h02 : q2.size = 0
        · have hn2 : q2.data.toList = [] := List.eq_nil_of_length_eq_zero (by rw [text_len]; exact h02)
          have hr2 : Hid (q2.data.toList = rtrim blankF ([] : List UInt8)) := Lib.hid (by rw [← hx2.out, hn2]; rfl)
          clear hx2 hn2
          go_wp2_with fail
          go_ret
          exact ⟨q2, rfl, hr2.out, rfl⟩
        · have hp2 : 0 < q2.size := by omega
          have hlast : q2.data.toList = q2.data.toList.take (q2.size - 1) ++ [q2.data.toList[q2.size - 1]'(by rw [text_len]; omega)] := by
            rw [← List.take_succ_eq_append_getElem, List.take_of_length_le (by rw [text_len]; omega)]
          have hb2 := text_at q2 (q2.size - 1) (by omega)
          generalize q2.data.toList[q2.size - 1]'(by rw [text_len]; omega) = c at hlast hb2
          have hfront := text_front q2 (q2.size - 1)
          have hidx : ((q2.size : Int) + -1).toNat = q2.size - 1 := by omega
          have hin : (0 : Int) ≤ (q2.size : Int) + -1 := by omega
          have hB := fun u => rblank_ok c u
          have hsz2 : (q2.extract 0 (q2.size - 1)).size = q2.size - 1 := by rw [ByteArray.size_extract]; omega
          cases hc : blankF c
          · rw [hc] at hB
            have hr2 : Hid (q2.data.toList = rtrim blankF ([] : List UInt8)) := Lib.hid (by rw [← hx2.out, hlast, rtrim_stays hc])
            have HB := Lib.hid hB
            clear hB hx2 hlast hc hfront hsz2
            go_wp2_with fail
            refine (HB.out _).mono ?_
            rintro e w1 ⟨rfl, rfl⟩
            go_wp2_with fail
            go_ret
            exact ⟨q2, rfl, hr2.out, rfl⟩
          · rw [hc] at hB
            have hr2 : Hid (rtrim blankF (q2.extract 0 (q2.size - 1)).data.toList = rtrim blankF ([] : List UInt8)) := Lib.hid (by rw [hfront, ← hx2.out]; conv => rhs; rw [hlast, rtrim_front hc])
            have HB := Lib.hid hB
            have HS2 := Lib.hid hsz2
            clear hB hx2 hlast hc hfront hsz2
            go_wp2_with fail
            refine (HB.out _).mono ?_
            rintro e w1 ⟨rfl, rfl⟩
            go_wp2_with fail
            go_round
            case rel => exact ⟨q2.extract 0 (q2.size - 1), rfl, by rw [HS2.out]; omega, hr2⟩
            case measure => simp only [strOf]; rw [HS2.out]; omega
    · have hp : 0 < q.size := by omega
      obtain ⟨c, r, hl⟩ : ∃ c r, q.data.toList = c :: r := by
        cases h : q.data.toList with
        | nil => have := text_len q; rw [h] at this; simp at this; omega
        | cons c r => exact ⟨c, r, rfl⟩
      have hb := text_at q 0 hp
      have hb0 : q[0] = c := by rw [hb]; simp [hl]
      clear hb
      have hrest := text_rest q 1
      have hsz : (q.extract 1 q.size).size = q.size - 1 := by rw [ByteArray.size_extract]; omega
      have hB := fun u => rblank_ok c u
      cases hc : blankF c
      · rw [hc] at hB
        have hql : q.data.toList = dl := by rw [← hx.out, hl, dropWhile_stays hc]
        have HQ : Hid (rtrim blankF q.data.toList = rtrim blankF dl) := Lib.hid (by rw [hql])
        have HB := Lib.hid hB
        clear hB hx hc hrest hsz hl hql
        go_wp2_with fail
        refine (HB.out _).mono ?_
        rintro e w1 ⟨rfl, rfl⟩
        go_wp2
        go_loop [0] (fun v => ∃ q2 : ByteArray, v = .string q2 ∧ q2.size ≤ s.size ∧ Hid (rtrim blankF q2.data.toList = rtrim blankF dl)) (fun v => (strOf v).size)
        case atStart => exact ⟨q, rfl, hq, HQ⟩
        case round =>
          obtain ⟨q2, rfl, hq2, hx2⟩ := hrel
          clear HQ
          by_cases h02 : q2.size = 0
          · have hn2 : q2.data.toList = [] := List.eq_nil_of_length_eq_zero (by rw [text_len]; exact h02)
            have hr2 : Hid (q2.data.toList = rtrim blankF dl) := Lib.hid (by rw [← hx2.out, hn2]; rfl)
            clear hx2 hn2
            go_wp2_with fail
            go_ret
            exact ⟨q2, rfl, hr2.out, rfl⟩
          · have hp2 : 0 < q2.size := by omega
            have hlast : q2.data.toList = q2.data.toList.take (q2.size - 1) ++ [q2.data.toList[q2.size - 1]'(by rw [text_len]; omega)] := by
              rw [← List.take_succ_eq_append_getElem, List.take_of_length_le (by rw [text_len]; omega)]
            have hb2 := text_at q2 (q2.size - 1) (by omega)
            generalize q2.data.toList[q2.size - 1]'(by rw [text_len]; omega) = c at hlast hb2
            have hfront := text_front q2 (q2.size - 1)
            have hidx : ((q2.size : Int) + -1).toNat = q2.size - 1 := by omega
            have hin : (0 : Int) ≤ (q2.size : Int) + -1 := by omega
            have hB := fun u => rblank_ok c u
            have hsz2 : (q2.extract 0 (q2.size - 1)).size = q2.size - 1 := by rw [ByteArray.size_extract]; omega
            cases hc : blankF c
            · rw [hc] at hB
              have hr2 : Hid (q2.data.toList = rtrim blankF dl) := Lib.hid (by rw [← hx2.out, hlast, rtrim_stays hc])
              have HB := Lib.hid hB
              clear hB hx2 hlast hc hfront hsz2
              go_wp2_with fail
              refine (HB.out _).mono ?_
              rintro e w1 ⟨rfl, rfl⟩
              go_wp2_with fail
              go_ret
              exact ⟨q2, rfl, hr2.out, rfl⟩
            · rw [hc] at hB
              have hr2 : Hid (rtrim blankF (q2.extract 0 (q2.size - 1)).data.toList = rtrim blankF dl) := Lib.hid (by rw [hfront, ← hx2.out]; conv => rhs; rw [hlast, rtrim_front hc])
              have HB := Lib.hid hB
              have HS2 := Lib.hid hsz2
              clear hB hx2 hlast hc hfront hsz2
              go_wp2_with fail
              refine (HB.out _).mono ?_
              rintro e w1 ⟨rfl, rfl⟩
              go_wp2_with fail
              go_round
              case rel => exact ⟨q2.extract 0 (q2.size - 1), rfl, by rw [HS2.out]; omega, hr2⟩
              case measure => simp only [strOf]; rw [HS2.out]; omega
      · rw [hc] at hB
        have hr2 : Hid ((q.extract 1 q.size).data.toList.dropWhile blankF = dl) := Lib.hid (by rw [hrest, ← hx.out, hl, dropWhile_front hc]; rfl)
        have HB := Lib.hid hB
        have HS := Lib.hid hsz
        clear hB hx hc hrest hsz hl
        go_wp2_with fail
        refine (HB.out _).mono ?_
        rintro e w1 ⟨rfl, rfl⟩
        go_wp2_with fail
        go_round
        case rel => exact ⟨q.extract 1 q.size, rfl, by rw [HS.out]; omega, hr2⟩
        case measure => simp only [strOf]; rw [HS.out]; omega
end

/- A statement's tokens, by package lex: contract. -/
section
open Go.RowKit
set_option maxRecDepth 100000

/-- what a statement has: tokens, or an error -/
def lexA (l : List UInt8) : List (Int × List UInt8) × Int := if 200 < l.length then ([], 4) else match lexF l with | none => ([], 2) | some x => (x, 0)

/-- an answer: a row of tokens of the call's own, and an error -/
def LexTo (f : FuncId) (e : TypeId) (s : ByteArray) (w : World) : Prop :=
  Calls Tryz.prog f #[.string s] w fun x w' => ∃ A n c er ts, x = .returned (.tuple #[.slice A n c, .int .i64 er]) ∧ OT e w' w.heap.size A n c ts ∧ (saysT ts, er) = lexA s.data.toList ∧ Below w.heap.size w w'

theorem firstF_size {l : List UInt8} (k : Nat) (t : List UInt8) (n : Nat) (h : firstF l = some (k, t, n)) : 1 ≤ n ∧ n ≤ l.length := by
  cases l with
  | nil => simp [firstF] at h
  | cons c r =>
    simp only [firstF] at h
    split at h
    · rename_i hc
      simp only [Option.some.injEq, Prod.mk.injEq] at h
      obtain ⟨_, _, rfl⟩ := h
      have hl : lodF c = true := by simp [lodF, hc]
      have := runF_le lodF (c :: r)
      rw [runF_some hl] at this ⊢
      omega
    split at h
    · rename_i hc
      simp only [Option.some.injEq, Prod.mk.injEq] at h
      obtain ⟨_, _, rfl⟩ := h
      have := runF_le digitF (c :: r)
      rw [runF_some hc] at this ⊢
      omega
    split at h
    · obtain ⟨x, hx, h⟩ := Option.map_eq_some_iff.1 h
      have := quotedF_le hx
      simp only [Prod.mk.injEq] at h
      simp
      omega
    split at h
    · obtain ⟨x, hx, h⟩ := Option.map_eq_some_iff.1 h
      have := quotedF_le hx
      simp only [Prod.mk.injEq] at h
      simp
      omega
    split at h
    · rename_i hb
      have h3 := (List.isPrefixOf_iff_prefix.1 hb).length_le
      have := closedF_le (c :: r) 3 (by simpa using h3)
      split at h
      · cases h
      · simp only [Option.some.injEq, Prod.mk.injEq] at h
        obtain ⟨_, _, rfl⟩ := h
        omega
    split at h
    · simp only [Option.some.injEq, Prod.mk.injEq] at h
      simp
      omega
    · cases h

set_option maxHeartbeats 2000000 in
theorem lex_ok (s : ByteArray) (w : World) (hm : s.size ≤ maxLen) (hL : Lw w) : LexTo 23 35 s w := by
  unfold LexTo
  unfold maxLen at hm
  by_cases hlong : 200 < s.size
  · have hA : lexA s.data.toList = ([], 4) := by unfold lexA; rw [text_len, if_pos hlong]
    have HA := Lib.hid hA
    clear hA
    go_enter Tryz.func23, Tryz.ntmps23
    go_wp2_with fail
    go_step3
    go_wp2_with fail
    rw [Exit.noGoto_ret]
    go_ret2
    exact ⟨none, 0, 0, 4, [], rfl, OT.nil _ _ _, by rw [HA.out]; rfl, Below.refl _ _⟩
  have hA : ∀ R, lexF s.data.toList = R → lexA s.data.toList = (match R with | none => ([], 2) | some x => (x, 0)) := fun R h => by unfold lexA; rw [text_len, if_neg hlong, h]
  generalize hR0 : lexF s.data.toList = R at hA
  have hA1 := hA R rfl
  have HA := Lib.hid hA1
  have HR := Lib.hid hR0
  have hlen := Lib.hid (text_len s)
  clear hA hA1 hR0
  obtain ⟨i0, hi, hz0, hz1, hz2⟩ := info_parts tkinfo
  go_enter Tryz.func23, Tryz.ntmps23
  go_wp2_with fail
  go_step3
  go_wp2_with fail
  go_step3
  go_wp2_with fail
  go_loopw [4, 5] (fun l4 at_ wr => ∃ (k : Nat) (A : Option Addr) (n c : Nat) (ts : List Tk), at_ = .int .i64 k ∧ k ≤ s.size ∧ l4 = .slice A n c ∧ OT 35 wr w.heap.size A n c ts ∧ n ≤ k ∧ Hid (R = (lexF (s.data.toList.drop k)).map (saysT ts ++ ·)) ∧ Below w.heap.size w wr) (fun _ at_ _ => s.size - (intOf at_).toNat)
  case atStart => exact ⟨0, none, 0, 0, [], rfl, Nat.zero_le _, rfl, OT.nil _ _ _, Nat.le_refl _, Lib.hid (by rw [← HR.out]; simp [saysT]), Below.refl _ _⟩
  case round =>
    obtain ⟨k, A, n, c, ts, rfl, hks, rfl, ho, hnk, hx, kw⟩ := hrel
    clear HR
    by_cases hlt : k < s.size
    · have hL1 := hL.next kw
      have hkl : k < s.data.toList.length := by rw [hlen.out]; exact hlt
      have hrest := text_rest s k
      have hcons : s.data.toList.drop k = s.data.toList[k] :: s.data.toList.drop (k + 1) := List.drop_eq_getElem_cons hkl
      have hne : s.data.toList.drop k ≠ [] := by rw [hcons]; simp
      have hdl : (s.data.toList.drop k).length = s.size - k := by rw [List.length_drop, hlen.out]
      have hsz : (s.extract k s.size).size = s.size - k := by rw [ByteArray.size_extract]; omega
      have hdd : ∀ j, (s.data.toList.drop k).drop j = s.data.toList.drop (k + j) := fun j => by rw [List.drop_drop]
      generalize s.data.toList[k] = b at hcons
      generalize s.data.toList.drop (k + 1) = r' at hcons
      generalize hD : s.data.toList.drop k = l at hrest hcons hne hdl hdd hx
      have hb0 : ∀ h, (s.extract k s.size)[0]'h = b := fun h => by
        have e0 : (s.extract k s.size).data.toList[0]? = some b := by rw [hrest, hcons]; rfl
        rw [text_at _ 0 h]
        exact (List.getElem?_eq_some_iff.1 e0).2
      generalize hE : s.extract k s.size = q at hrest hsz hb0
      have hq0 : 0 < q.size := by omega
      have hqs : q.size ≤ 200 := by omega
      have HS := Lib.hid hsz
      have HD := Lib.hid hdd
      have HRest := Lib.hid hrest
      have HC := Lib.hid hcons
      have hdl2 : l.length = q.size := by omega
      have HDL := Lib.hid hdl2
      have HNE := Lib.hid hne
      have hskip : ∀ j, j ≠ 0 → stepF l = .skip j → Hid (R = (lexF (s.data.toList.drop (k + j))).map (saysT ts ++ ·)) := fun j hj hs => Lib.hid (by rw [hx.out, lexF_skip hne hs hj, hdd])
      have htok : ∀ (j kd : Nat) (t : List UInt8), j ≠ 0 → stepF l = .tok kd t j → Hid (R = ((lexF (s.data.toList.drop (k + j))).map (((kd : Int), t) :: ·)).map (saysT ts ++ ·)) := fun j kd t hj hs => Lib.hid (by rw [hx.out, lexF_tok hne hs hj, hdd])
      have hbad : stepF l = .bad → R = none := fun hs => by rw [hx.out, lexF_bad hne hs]; rfl
      have HSkip := Lib.hid hskip
      have HTok := Lib.hid htok
      have HBad := Lib.hid hbad
      clear hskip htok hbad hsz hdd hrest hcons hdl hdl2 hne hD
      have H1 := fun u => isBlank_ok b u
      by_cases h1 : blankF b = true
      · rw [h1] at H1
        have H1' := Lib.hid H1
        have hx2 := HSkip.out 1 (by omega) (by rw [HC.out, stepF, if_pos h1])
        clear H1 h1 hx
        go_wp2_with fail
        refine (H1'.out _).mono ?_
        rintro e w1 ⟨rfl, rfl⟩
        go_wp2_with fail
        go_roundw
        case rel => exact ⟨k + 1, A, n, c, ts, by go_num, by omega, rfl, ho, by omega, hx2, kw⟩
        case measure => simp [intOf]; omega
      have h1f : blankF b = false := by simpa using h1
      rw [h1f] at H1
      have H1' := Lib.hid H1
      have H2 := fun u => beginsLine_ok q u hq0
      rw [HRest.out] at H2
      clear H1
      by_cases h2 : isLineF l = true
      · rw [h2] at H2
        have H2' := Lib.hid H2
        have hi10 := fun u => indexByte_s q 10 u
        rw [HRest.out] at hi10
        have hst : stepF l = .skip (lineF l) := by
          rw [HC.out] at h2 ⊢
          rw [stepF, if_neg h1, if_pos h2]
        have hlf : lineF l = if Lib.indexByte l 10 < 0 then l.length else (Lib.indexByte l 10).toNat := rfl
        have hlt10 := fun h => indexByte_lt (l := l) (c := 10) h
        have h35 : 0 ≤ Lib.indexByte l 10 → (Lib.indexByte l 10).toNat ≠ 0 := fun h => by
          have h10 : b ≠ 10 := by
            intro e
            subst e
            revert h1
            decide
          rw [HC.out, Lib.indexByte]
          rw [HC.out, Lib.indexByte] at h
          have hb10 : (b == 10) = false := by simpa using h10
          rw [hb10] at h ⊢
          simp only [Bool.false_eq_true, if_false] at h ⊢
          split at h
          · omega
          · have := indexByte_lt.indexByte_ge1 r' 10
            rename_i hne
            rw [if_neg hne]
            have hne2 : Lib.indexByte r' 10 ≠ -1 := by simpa using hne
            omega
        have e10 : ((10 : UInt8).toNat : Int) = 10 := rfl
        rw [e10] at hi10
        generalize Lib.indexByte l 10 = x at hi10 hlf hlt10 h35
        have HI := Lib.hid hi10
        by_cases hx0 : x < 0
        · rw [if_pos hx0, HDL.out] at hlf
          rw [hlf] at hst
          have hx2 := HSkip.out q.size (by omega) hst
          rw [List.drop_eq_nil_of_le (by rw [hlen.out]; have := HS.out; omega), lexF_nil] at hx2
          have hR : R = some (saysT ts) := by rw [hx2.out]; simp
          subst hR
          clear H2 h2 h1 hi10 hx hst hlf hlt10 h35 hx2
          go_wp2_with fail
          refine (H1'.out _).mono ?_
          rintro e w1 ⟨rfl, rfl⟩
          go_wp2_with fail
          refine (H2'.out _).mono ?_
          rintro e w1 ⟨rfl, rfl⟩
          go_wp2_with fail
          refine (HI.out _).mono ?_
          rintro e w1 ⟨rfl, rfl⟩
          go_wp2_with fail
          try rw [Exit.noGoto_ret]
          go_ret2
          exact ⟨A, n, c, 0, ts, rfl, ho, by rw [HA.out], kw⟩
        · obtain ⟨m, rfl⟩ : ∃ m : Nat, x = m := ⟨x.toNat, by omega⟩
          rw [if_neg hx0, Int.toNat_natCast] at hlf
          rw [hlf] at hst
          have hm0 := h35 (by omega)
          have hml := hlt10 (by omega)
          rw [Int.toNat_natCast] at hm0 hml
          rw [HDL.out, HS.out] at hml
          have hx2 := HSkip.out m hm0 hst
          clear H2 h2 h1 hi10 hx hst hlf hlt10 h35
          go_wp2_with fail
          refine (H1'.out _).mono ?_
          rintro e w1 ⟨rfl, rfl⟩
          go_wp2_with fail
          refine (H2'.out _).mono ?_
          rintro e w1 ⟨rfl, rfl⟩
          go_wp2_with fail
          refine (HI.out _).mono ?_
          rintro e w1 ⟨rfl, rfl⟩
          go_wp2_with fail
          go_roundw
          case rel => exact ⟨k + m, A, n, c, ts, by go_num, by omega, rfl, ho, by omega, hx2, kw⟩
          case measure => simp [intOf]; omega
      have h2f : isLineF l = false := by simpa using h2
      rw [h2f] at H2
      have H2' := Lib.hid H2
      clear H2
      have H3 := fun u => beginsRemark_ok q u
      rw [HRest.out] at H3
      by_cases h3 : isRemarkF l = true
      · rw [h3] at H3
        have H3' := Lib.hid H3
        have h2q : 2 ≤ q.size := by
          rw [← HDL.out]
          have h4 : begF [47, 42] l = true := by
            unfold isRemarkF at h3
            simp at h3
            exact h3.1
          have := (List.isPrefixOf_iff_prefix.1 h4).length_le
          simpa using this
        have hC := closedSize_ok q 2 wr (by omega) h2q hL1
        rw [HRest.out] at hC
        have hst : stepF l = if closedF l 2 = 0 then .bad else .skip (closedF l 2) := by
          rw [HC.out] at h2 h3 ⊢
          rw [stepF, if_neg h1, if_neg h2, if_pos h3]
        have hle := closedF_le l 2 (by rw [HDL.out]; exact h2q)
        rw [HDL.out] at hle
        generalize closedF l 2 = m at hC hst hle
        have HCl := Lib.hid hC
        by_cases hm0 : m = 0
        · subst hm0
          rw [if_pos rfl] at hst
          have hR := HBad.out hst
          subst hR
          clear H3 h3 h2 h2f h1 h1f hC hst hx hle
          go_wp2_with fail
          refine (H1'.out _).mono ?_
          rintro e w1 ⟨rfl, rfl⟩
          go_wp2_with fail
          refine (H2'.out _).mono ?_
          rintro e w1 ⟨rfl, rfl⟩
          go_wp2_with fail
          refine (H3'.out _).mono ?_
          rintro e w1 ⟨rfl, rfl⟩
          go_wp2_with fail
          refine HCl.out.mono ?_
          rintro e w1 ⟨rfl, rfl⟩
          go_wp2_with fail
          try rw [Exit.noGoto_ret]
          go_ret2
          exact ⟨none, 0, 0, 2, [], rfl, OT.nil _ _ _, by rw [HA.out]; rfl, kw⟩
        · rw [if_neg hm0] at hst
          have hx2 := HSkip.out m hm0 hst
          have hml := hle.1
          rw [HS.out] at hml
          clear H3 h3 h2 h2f h1 h1f hC hst hx hle
          go_wp2_with fail
          refine (H1'.out _).mono ?_
          rintro e w1 ⟨rfl, rfl⟩
          go_wp2_with fail
          refine (H2'.out _).mono ?_
          rintro e w1 ⟨rfl, rfl⟩
          go_wp2_with fail
          refine (H3'.out _).mono ?_
          rintro e w1 ⟨rfl, rfl⟩
          go_wp2_with fail
          refine HCl.out.mono ?_
          rintro e w1 ⟨rfl, rfl⟩
          go_wp2_with fail
          go_roundw
          case rel => exact ⟨k + m, A, n, c, ts, by go_num, by omega, rfl, ho, by omega, hx2, kw⟩
          case measure => simp [intOf]; omega
      have h3f : isRemarkF l = false := by simpa using h3
      rw [h3f] at H3
      have H3' := Lib.hid H3
      clear H3
      have hFi := first_ok q b r' wr (by omega) (by rw [HRest.out]; exact HC.out) hL1
      unfold tokV at hFi
      rw [HRest.out] at hFi
      have HFi := Lib.hid hFi
      have hst : stepF l = match firstF l with | none => .bad | some (kd, t, m) => .tok kd t m := by
        rw [HC.out] at h2 h3 ⊢
        rw [stepF, if_neg h1, if_neg h2, if_neg h3]
        cases firstF (b :: r') <;> rfl
      have hfi : firstI l = (firstF l).map fun x => ((x.1 : Int), x.2.1, x.2.2) := rfl
      have hsizes := firstF_size (l := l)
      rw [hfi] at HFi
      rw [HDL.out, HS.out] at hsizes
      cases hff : firstF l with
      | none =>
        rw [hff] at hst HFi
        have hR := HBad.out hst
        subst hR
        clear h3 h3f h2 h2f h1 h1f hst hx hFi hfi hsizes
        go_wp2_with fail
        refine (H1'.out _).mono ?_
        rintro e w1 ⟨rfl, rfl⟩
        go_wp2_with fail
        refine (H2'.out _).mono ?_
        rintro e w1 ⟨rfl, rfl⟩
        go_wp2_with fail
        refine (H3'.out _).mono ?_
        rintro e w1 ⟨rfl, rfl⟩
        go_wp2_with fail
        refine HFi.out.mono ?_
        rintro e w1 ⟨k1, r1, n1, rfl, ⟨rfl, rfl, rfl⟩, b1⟩
        go_wp2_with fail
        try rw [Exit.noGoto_ret]
        go_ret2
        exact ⟨none, 0, 0, 2, [], rfl, OT.nil _ _ _, by rw [HA.out]; rfl, kp_alloc (kp_trans kw b1) _⟩
      | some x =>
        obtain ⟨kd, t, m⟩ := x
        rw [hff] at hst HFi
        obtain ⟨hm0, hml⟩ := hsizes kd t m hff
        have hx2 := HTok.out m kd t (by omega) hst
        have hmn : ¬ (m : Int) = 0 := by omega
        have hmb : ((m : Int) == 0) = false := by simp only [beq_eq_false_iff_ne, ne_eq]; exact hmn
        clear h3 h3f h2 h2f h1 h1f hst hx hFi hfi hsizes hff hmn
        go_wp2_with fail
        refine (H1'.out _).mono ?_
        rintro e w1 ⟨rfl, rfl⟩
        go_wp2_with fail
        refine (H2'.out _).mono ?_
        rintro e w1 ⟨rfl, rfl⟩
        go_wp2_with fail
        refine (H3'.out _).mono ?_
        rintro e w1 ⟨rfl, rfl⟩
        go_wp2_with fail
        refine HFi.out.mono ?_
        rintro e w1 ⟨k1, r1, n1, rfl, ⟨rfl, hr1, rfl⟩, b1⟩
        have ho1 := ho.next b1
        have kw1 := kp_trans kw b1
        have hsrc : ∀ X, Rd ((w1.alloc X).alloc (.cells #[.int .i64 (kd : Int), .string r1] 35)) (w1.heap.size + 1 + 1) (some ⟨w1.heap.size + 1, 0, none⟩) [.int .i64 (kd : Int), .string r1] := fun X => by
          have := Rd.new (w1.alloc X) 35 [.int .i64 (kd : Int), .string r1]
          simpa using this
        have HSRC := Lib.hid hsrc
        have hsw := kw1.size
        clear hsrc
        go_wp2_with (at_builtin; refine wpList_append_rds rfl _ _ _ rfl w.heap.size 35 i0 _ 2 24 Tryz.underlying34 hi hz0 hz1 hz2 rfl (by omega) _ n _ rfl ((ho1.own.alloc _).alloc _) _ _ _ _ [.int .i64 (kd : Int), .string r1] rfl rfl (HSRC.out _) (by simp [Value.oneCell']) (by unfold maxLen; omega) (by omega) (by simp; omega) ?_; intro v3 w3 hown3 hg3; obtain ⟨A3, c3, rfl, ho3⟩ := OT.push hown3)
        go_roundw
        case rel => exact ⟨k + n1, A3, n + 1, c3, ts ++ [⟨kd, r1⟩], by go_num, by omega, rfl, ho3, by omega, Lib.hid (by rw [hx2.out, saysT_append]; cases lexF (s.data.toList.drop (k + n1)) <;> simp [saysT, Tk.says, hr1]), (kp_alloc (kp_alloc kw1 _) _).trans (below_own_s ((ho1.own.alloc _).alloc _) hg3 (by simp; omega))⟩
        case measure => simp [intOf]; omega
    · obtain rfl : k = s.size := by omega
      have hR : R = some (saysT ts) := by rw [hx.out, List.drop_eq_nil_of_le (by rw [hlen.out]; exact Nat.le_refl _), lexF_nil]; simp
      subst hR
      clear hx
      go_wp2_with fail
      try rw [Exit.noGoto_ret]
      go_ret2
      exact ⟨A, n, c, 0, ts, rfl, ho, by rw [HA.out], kw⟩
end

/- Which tokens may be, by package lex: contracts. -/
section
open Go.RowKit
set_option maxRecDepth 100000

def rightWordF : List UInt8 → Bool
  | [] => false
  | c :: r => letterF c && (decide (runF lodF (c :: r) = (c :: r).length) && decide (greatF (c :: r) = c :: r))

theorem toList_data (s : ByteArray) : s.toList = s.data.toList := ByteArray.toList_eq s
theorem run_all_ascii {l : List UInt8} (h : runF lodF l = l.length) : ∀ c ∈ l, c.toNat < 128 := fun c hc => lod_ascii c (runF_all lodF l c (by rw [h, List.take_length]; exact hc))

def rightF (k : Int) (l : List UInt8) : Bool :=
  if k = 1 then rightWordF l
  else if k = 2 ∨ k = 3 then true
  else if k = 4 then decide (l ≠ []) && decide (runF digitF l = l.length)
  else if k = 5 then !Lib.contains l ends2 && decide (trimF l = l)
  else if k = 6 then (match l with | [c] => signF c | _ => false)
  else false

/-- one answer of Right -/
def RightTo (f : FuncId) (k : Int) (s : ByteArray) (w : World) : Prop := Calls Tryz.prog f #[.agg #[.int .i64 k, .string s]] w fun e w' => e = .returned (.bool (rightF k s.data.toList)) ∧ Below w.heap.size w w'

theorem eq_empty (s : ByteArray) : (s.toList == ([] : List UInt8)) = decide (s.size = 0) := by
  rw [toList_data, Bool.eq_iff_iff]
  simp only [beq_iff_eq, decide_eq_true_eq]
  rw [← text_len]
  exact List.length_eq_zero_iff.symm
end

/- A region that draws its order, gone through once an operation, not once an order: each operation leaves a fact that no later call breaks. -/
section
open Go.RowKit

/-- a fact of a value, kept by whatever leaves alone what was there -/
structure Stb where
  p : Value → World → Prop
  st : ∀ v u u', p v u → Below u.heap.size u u' → p v u'
def Stb.any : Stb := ⟨fun _ _ => True, fun _ _ _ _ _ => trivial⟩
/-- the value is known -/
def Stb.eq (c : Value) : Stb := ⟨fun v _ => v = c, fun _ _ _ h _ => h⟩
def Stb.find : List (Nat × Stb) → Nat → Stb
  | [], _ => Stb.any
  | (t, s) :: r, u => bif Nat.beq t u then s else Stb.find r u

def dstOf (ops : Array Oper) (j : Nat) : Option Tmp := (ops[j]?).bind (·.dst)
/-- the slots of what an operation waits for -/
def waitsFor (ops : Array Oper) (o : Oper) : List Nat := (o.after.toList.filter (Region.binds .any)).filterMap fun e => dstOf ops e.on
def dstsOf (ops : Array Oper) : List Nat := ops.toList.filterMap (·.dst)

/-- what a region leaves of a frame -/
structure Stand (ops : Array Oper) (a0 a : Act) : Prop where
  size : a.tmps.size = a0.tmps.size
  defers : a.defers = a0.defers
  out : ∀ t, (dstsOf ops).contains t = false → a.tmps.getD t undef = a0.tmps.getD t undef

theorem gd {a : Act} {t : Nat} {v : Value} (h : a.tmps.getD t undef = v) : a.tmps[t]?.getD undef = v := by rw [← Array.getD_eq_getD_getElem?]; exact h

def Wants (ops : Array Oper) (a : Act) (o : Oper) : Prop :=
  match o.guard with
  | none => True
  | some (j, b) => ∃ t, dstOf ops j = some t ∧ a.tmps.getD t undef = .bool b

theorem wants {ops : Array Oper} {a : Act} {o : Oper} (h : Wants ops a o) : Region.wanted o (yielded ops a.tmps) = true := by
  unfold Wants at h
  unfold Region.wanted
  split at h
  · rename_i hg; rw [hg]
  · rename_i j b hg
    obtain ⟨t, ht, hv⟩ := h
    rw [hg]
    have hlt : t < a.tmps.size := by
      rcases Nat.lt_or_ge t a.tmps.size with h | h
      · exact h
      · rw [Array.getD_eq_getD_getElem?, Array.getElem?_eq_none h] at hv
        simp [undef] at hv
    rw [Array.getD_eq_getD_getElem?, Array.getElem?_eq_getElem hlt] at hv
    simp only [Option.getD_some] at hv
    unfold dstOf at ht
    simp [yielded, ht, Array.getElem?_eq_getElem hlt, hv]

/-- each operation of a list, with its number -/
def EachOp (C : Nat → Oper → Prop) : Nat → List Oper → Prop
  | _, [] => True
  | k, o :: r => C k o ∧ EachOp C (k + 1) r
theorem EachOp.cons {C : Nat → Oper → Prop} {k : Nat} {o : Oper} {r : List Oper} (h : C k o) (t : EachOp C (k + 1) r) : EachOp C k (o :: r) := ⟨h, t⟩
theorem EachOp.nil {C : Nat → Oper → Prop} {k : Nat} : EachOp C k [] := trivial
theorem EachOp.at_ {C : Nat → Oper → Prop} : ∀ {l : List Oper} {k : Nat}, EachOp C k l → ∀ (i : Nat) (o : Oper), l[i]? = some o → C (k + i) o
  | [], _, _, i, o, h => by simp at h
  | x :: r, k, hh, 0, o, h => by simp at h; subst h; exact hh.1
  | x :: r, k, hh, i + 1, o, h => by
    have := EachOp.at_ hh.2 i o (by simpa using h)
    rwa [show k + 1 + i = k + (i + 1) by omega] at this

theorem filter_lt {l : List Nat} {p q : Nat → Bool} (h : ∀ x, q x = true → p x = true) {i : Nat} (hi : i ∈ l) (hp : p i = true) (hq : q i = false) : (l.filter q).length < (l.filter p).length := by
  induction l with
  | nil => simp at hi
  | cons x r ih =>
    have hle : (r.filter q).length ≤ (r.filter p).length := by
      clear ih hi
      induction r with
      | nil => simp
      | cons y r ih =>
        rw [List.filter_cons, List.filter_cons]
        by_cases hy : q y = true
        · rw [if_pos hy, if_pos (h y hy)]; simp; exact ih
        · rw [if_neg hy]
          split
          · simp; omega
          · exact ih
    rcases List.mem_cons.1 hi with rfl | hi
    · rw [List.filter_cons, List.filter_cons, if_pos hp, if_neg (by simp [hq])]
      simp; omega
    · have := ih hi
      rw [List.filter_cons, List.filter_cons]
      by_cases hx : q x = true
      · rw [if_pos hx, if_pos (h x hx)]; simp; exact this
      · rw [if_neg hx]
        split
        · simp; omega
        · exact this

/-- the checks that a region's table must pass -/
def regOk (ops : Array Oper) (n : Nat) : Bool :=
  ops.toList.all (fun o => match o.dst with | some d => decide (d < n) | none => false) &&
  decide ((dstsOf ops).length = ops.size) && decide (dstsOf ops).Nodup &&
  ops.toList.zipIdx.all (fun (o, i) => o.after.all fun e => !Region.binds .any e || decide (e.on < i))

theorem dsts_getElem {ops : Array Oper} (h : ∀ o ∈ ops.toList, ∃ d, o.dst = some d) : ∀ i : Nat, (dstsOf ops)[i]? = dstOf ops i := by
  unfold dstsOf dstOf
  obtain ⟨l⟩ := ops
  simp only [List.getElem?_toArray] at *
  induction l with
  | nil => intro i; simp
  | cons o r ih =>
    intro i
    obtain ⟨d, hd⟩ := h o (by simp)
    have ih' := ih (fun x hx => h x (by simp at hx ⊢; exact .inr hx))
    cases i with
    | zero => simp [hd]
    | succ i => simpa [hd] using ih' i

section
variable {P : Program} {ops : Array Oper} {Q : Exit → Act → World → Prop}

/-- what one operation leaves -/
def Goes (S : World → Prop) (Sp : Nat → Stb) (a : Act) (d : Option Tmp) (w : World) (a' : Act) (w' : World) : Prop :=
  ∃ v, a' = a.put d v ∧ S w' ∧ Below w.heap.size w w' ∧ ∀ t, d = some t → (Sp t).p v w'
theorem Goes.same {S : World → Prop} {Sp : Nat → Stb} {a : Act} {t : Nat} {w : World} {v : Value} (hS : S w) (h : (Sp t).p v w) : Goes S Sp a (some t) w { tmps := a.tmps.setIfInBounds t v, defers := a.defers } w :=
  ⟨v, rfl, hS, Below.refl _ _, fun _ e => by injection e with e; subst e; exact h⟩
theorem Goes.next {S : World → Prop} {Sp : Nat → Stb} {a : Act} {t : Nat} {w w' : World} {v : Value} (hS : S w') (hb : Below w.heap.size w w') (h : (Sp t).p v w') : Goes S Sp a (some t) w { tmps := a.tmps.setIfInBounds t v, defers := a.defers } w' :=
  ⟨v, rfl, hS, hb, fun _ e => by injection e with e; subst e; exact h⟩

/-- the slots of what must come behind an operation -/
def laterOf (ops : Array Oper) (i : Nat) : List Nat := (ops.toList.filter fun o => o.after.any fun e => Region.binds .any e && e.on == i).filterMap (·.dst)
/-- what an operation meets: beside what the region leaves, what is written behind it alone is as it was -/
structure StandI (ops : Array Oper) (i : Nat) (a0 a : Act) : Prop extends Stand ops a0 a where
  old : ∀ t, (laterOf ops i).contains t = true → a.tmps.getD t undef = a0.tmps.getD t undef
/-- what is asked of one operation -/
def OkOp (P : Program) (ops : Array Oper) (Q : Exit → Act → World → Prop) (S : World → Prop) (Sp : Nat → Stb) (a0 : Act) (i : Nat) (o : Oper) : Prop :=
  ∀ a w, StandI ops i a0 a → S w → (∀ t, (waitsFor ops o).contains t = true → (Sp t).p (a.tmps.getD t undef) w) →
    Wants ops a o ∧ o.wp P a w (Goes S Sp a o.dst w) Q

theorem wpAny_specs (S : World → Prop) (Sp : Nat → Stb) (a0 : Act) (hok : regOk ops a0.tmps.size = true)
    (each : EachOp (OkOp P ops Q S Sp a0) 0 ops.toList)
    (fin : ∀ a w, Stand ops a0 a → S w → (∀ t, (dstsOf ops).contains t = true → (Sp t).p (a.tmps.getD t undef) w) → Q .normal a w) :
    ∀ (fuel : Nat) (listed : Array Bool) (a : Act) (w : World), listed.size = ops.size → ((List.range ops.size).filter fun i => !listed.getD i true).length ≤ fuel →
      Stand ops a0 a → S w → (∀ i d, listed.getD i false = true → dstOf ops i = some d → (Sp d).p (a.tmps.getD d undef) w) →
      (∀ j d, j < ops.size → listed.getD j false = false → dstOf ops j = some d → a.tmps.getD d undef = a0.tmps.getD d undef) →
      (∀ j o, listed.getD j false = true → ops[j]? = some o → ∀ e ∈ o.after, Region.binds .any e = true → listed.getD e.on false = true) → wpAny P .any ops Q fuel listed a w := by
  simp only [regOk, Bool.and_eq_true, List.all_eq_true, decide_eq_true_eq] at hok
  obtain ⟨⟨⟨hdst, hlen⟩, hnd⟩, hlow⟩ := hok
  have hdst' : ∀ o ∈ ops.toList, ∃ d, o.dst = some d ∧ d < a0.tmps.size := fun o ho => by
    have := hdst o ho
    split at this
    · rename_i d hd; exact ⟨d, hd, by simpa using this⟩
    · cases this
  have hget := dsts_getElem (ops := ops) (fun o ho => (hdst' o ho).imp fun d h => h.1)
  have hinj : ∀ i j d, dstOf ops i = some d → dstOf ops j = some d → i = j := fun i j d hi hj => by
    rw [← hget] at hi hj
    obtain ⟨hi1, hi2⟩ := List.getElem?_eq_some_iff.1 hi
    obtain ⟨hj1, hj2⟩ := List.getElem?_eq_some_iff.1 hj
    have hp := List.pairwise_iff_getElem.1 hnd
    rcases Nat.lt_trichotomy i j with h | h | h
    · exact absurd (hi2.trans hj2.symm) (hp i j hi1 hj1 h)
    · exact h
    · exact absurd (hj2.trans hi2.symm) (hp j i hj1 hi1 h)
  have hready0 : ∀ listed : Array Bool, listed.size = ops.size → Region.ready .any ops listed = [] → ∀ i, i < ops.size → listed.getD i false = true := by
    intro listed hsz hr i
    induction i using Nat.strongRecOn with
    | _ i ih =>
      intro hi
      cases hl : listed.getD i false with
      | true => rfl
      | false =>
        exfalso
        have hl2 : listed.getD i true = false := by
          rw [Array.getD_eq_getD_getElem?, Array.getElem?_eq_getElem (by omega)] at hl ⊢; simpa using hl
        have hm : i ∈ Region.ready .any ops listed := by
          unfold Region.ready
          rw [List.mem_filter]
          refine ⟨List.mem_range.2 hi, ?_⟩
          rw [hl2, Array.getElem?_eq_getElem hi]
          simp only [Bool.not_false, Bool.true_and, Option.map_some, Option.getD_some, Array.all_eq_true_iff_forall_mem]
          intro e he
          have h1 := hlow (ops[i], i) (by rw [List.mem_zipIdx_iff_getElem?]; simp [hi])
          simp only [Array.all_eq_true_iff_forall_mem] at h1
          have h2 := h1 e he
          cases hb : Region.binds .any e with
          | false => simp
          | true =>
            rw [hb] at h2
            have h3 : e.on < i := by simpa using h2
            simp [ih e.on h3 (by omega)]
        rw [hr] at hm
        cases hm
  have hfin : ∀ listed a w, listed.size = ops.size → Stand ops a0 a → S w → (∀ i d, listed.getD i false = true → dstOf ops i = some d → (Sp d).p (a.tmps.getD d undef) w) → Region.ready .any ops listed = [] → Q .normal a w := by
    intro listed a w hsz hst hS hsp hr
    refine fin a w hst hS fun t ht => ?_
    obtain ⟨i, hi, he⟩ := List.mem_iff_getElem.1 (List.contains_iff_mem.1 ht)
    have hd : dstOf ops i = some t := by rw [← hget, List.getElem?_eq_getElem hi, he]
    exact hsp i t (hready0 listed hsz hr i (by omega)) hd
  intro fuel
  induction fuel with
  | zero =>
    intro listed a w hsz hc hst hS hsp _ _
    have hr : Region.ready .any ops listed = [] := by
      have h0 : ((List.range ops.size).filter fun i => !listed.getD i true) = [] := List.eq_nil_of_length_eq_zero (by omega)
      unfold Region.ready
      rw [List.filter_eq_nil_iff] at h0 ⊢
      intro i hi
      have := h0 i hi
      simp only [Bool.not_eq_true] at this ⊢
      rw [this, Bool.false_and]
    exact ⟨hr, hfin listed a w hsz hst hS hsp hr⟩
  | succ fuel ih =>
    intro listed a w hsz hc hst hS hsp hun0 hcl
    refine ⟨hfin listed a w hsz hst hS hsp, fun i hi => ?_⟩
    unfold Region.ready at hi
    rw [List.mem_filter, List.mem_range] at hi
    obtain ⟨hilt, hi2⟩ := hi
    rw [Array.getElem?_eq_getElem hilt] at hi2
    simp only [Bool.and_eq_true, Option.map_some, Option.getD_some, Array.all_eq_true_iff_forall_mem] at hi2
    obtain ⟨hun, hdeps⟩ := hi2
    obtain ⟨d, hd, hdl⟩ := hdst' ops[i] (by simp)
    have hdi : dstOf ops i = some d := by unfold dstOf; rw [Array.getElem?_eq_getElem hilt]; exact hd
    have hthis := each.at_ i ops[i] (by simp [hilt])
    rw [Nat.zero_add] at hthis
    have hni : listed.getD i false = false := by
      have hl : listed.getD i true = false := by simpa using hun
      rw [Array.getD_eq_getD_getElem?, Array.getElem?_eq_getElem (by omega)] at hl ⊢
      simpa using hl
    have hold : ∀ t, (laterOf ops i).contains t = true → a.tmps.getD t undef = a0.tmps.getD t undef := fun t ht => by
      unfold laterOf at ht
      obtain ⟨o, ho, hot⟩ := List.mem_filterMap.1 (List.contains_iff_mem.1 ht)
      rw [List.mem_filter] at ho
      obtain ⟨j, hj, hje⟩ := List.mem_iff_getElem.1 ho.1
      have hj' : j < ops.size := by simpa using hj
      have hjo : ops[j]? = some o := by rw [Array.getElem?_eq_getElem hj', ← hje]; simp
      have hdj : dstOf ops j = some t := by unfold dstOf; rw [hjo]; exact hot
      refine hun0 j t hj' ?_ hdj
      rw [Bool.eq_false_iff]
      intro hlj
      obtain ⟨e, he, h2⟩ := Array.any_eq_true'.1 ho.2
      simp only [Bool.and_eq_true, beq_iff_eq] at h2
      have := hcl j o hlj hjo e he h2.1
      rw [h2.2, hni] at this
      cases this
    obtain ⟨hw, hwp⟩ := hthis a w ⟨hst, hold⟩ hS (fun t ht => by
      unfold waitsFor at ht
      obtain ⟨e, he, het⟩ := List.mem_filterMap.1 (List.contains_iff_mem.1 ht)
      rw [List.mem_filter] at he
      have := hdeps e (by simpa using he.1)
      rw [he.2] at this
      exact hsp e.on t (by simpa using this) het)
    unfold wpOp
    simp only [Array.getElem?_eq_getElem hilt, wants hw, if_true]
    refine .inl (Oper.wp_mono ?_ hwp)
    rintro a' w' ⟨v, rfl, hS', hb, hsp'⟩
    have hval : ((a.put (ops[i]).dst v).tmps.getD d undef) = v := by
      rw [hd]
      simp only [Act.put]
      rw [Array.getD_eq_getD_getElem?, Array.getElem?_setIfInBounds_self_of_lt (by rw [hst.size]; exact hdl)]
      rfl
    have hoth : ∀ t, t ≠ d → (a.put (ops[i]).dst v).tmps.getD t undef = a.tmps.getD t undef := fun t ht => by
      rw [hd]
      simp only [Act.put]
      rw [Array.getD_eq_getD_getElem?, Array.getD_eq_getD_getElem?, Array.getElem?_setIfInBounds_ne (fun h => ht h.symm)]
    have hset : ∀ j, j ≠ i → (listed.setIfInBounds i true).getD j false = listed.getD j false := fun j hji => by
      rw [Array.getD_eq_getD_getElem?, Array.getElem?_setIfInBounds_ne (fun h => hji h.symm), ← Array.getD_eq_getD_getElem?]
    have hseti : (listed.setIfInBounds i true).getD i false = true := by
      rw [Array.getD_eq_getD_getElem?, Array.getElem?_setIfInBounds_self_of_lt (by omega)]; rfl
    refine ih _ _ _ (by simp [hsz]) ?_ ⟨by rw [hd]; simp [Act.put, hst.size], by rw [hd]; simp [Act.put, hst.defers], fun t ht => ?_⟩ hS' (fun j dj hj hdj => ?_) (fun j dj hj hlj hdj => ?_) (fun j o hlj hjo e he hb2 => ?_)
    · have hl : listed.getD i true = false := by simpa using hun
      have := filter_lt (l := List.range ops.size) (p := fun j => !listed.getD j true) (q := fun j => !(listed.setIfInBounds i true).getD j true) (fun x hx => by
        by_cases hxi : i = x
        · subst hxi
          rw [Array.getD_eq_getD_getElem?, Array.getElem?_setIfInBounds_self_of_lt (by omega)] at hx
          simp at hx
        · rw [Array.getD_eq_getD_getElem?, Array.getElem?_setIfInBounds_ne hxi, ← Array.getD_eq_getD_getElem?] at hx
          exact hx) (i := i) (List.mem_range.2 hilt) (by simp [hl]) (by
          rw [Array.getD_eq_getD_getElem?, Array.getElem?_setIfInBounds_self_of_lt (by omega)]; simp)
      omega
    · rw [hoth t, hst.out t ht]
      rintro rfl
      have : (dstsOf ops).contains t = true := List.contains_iff_mem.2 (List.mem_of_getElem? (by rw [hget, hdi]))
      rw [this] at ht
      cases ht
    · by_cases hji : j = i
      · subst hji
        rw [hdi] at hdj
        injection hdj with hdj
        subst hdj
        rw [hval]
        exact hsp' d hd
      · have hne : dj ≠ d := fun e => hji (hinj j i d (e ▸ hdj) hdi)
        rw [hoth dj hne]
        refine (Sp dj).st _ _ _ (hsp j dj ?_ hdj) hb
        rw [Array.getD_eq_getD_getElem?, Array.getElem?_setIfInBounds_ne (fun h => hji h.symm), ← Array.getD_eq_getD_getElem?] at hj
        exact hj
    · have hji : j ≠ i := fun h => by rw [h, hseti] at hlj; cases hlj
      rw [hset j hji] at hlj
      rw [hoth dj (fun e => hji (hinj j i d (e ▸ hdj) hdi))]
      exact hun0 j dj hj hlj hdj
    · have hon : listed.getD e.on false = true := by
        by_cases hji : j = i
        · subst hji
          rw [Array.getElem?_eq_getElem hilt] at hjo
          injection hjo with hjo
          subst hjo
          have := hdeps e he
          rw [hb2] at this
          simpa using this
        · rw [hset j hji] at hlj
          exact hcl j o hlj hjo e he hb2
      by_cases hei : e.on = i
      · rw [hei]; exact hseti
      · rw [hset _ hei]; exact hon

theorem wp_region_specs {id : Nat} {a0 : Act} {w0 : World} (S : World → Prop) (Sp : List (Nat × Stb)) (hm : P.follows .mixedOrders = true) (hok : regOk ops a0.tmps.size = true) (hS : S w0.drew)
    (each : EachOp (OkOp P ops Q S (Stb.find Sp) a0) 0 ops.toList)
    (fin : ∀ a w, Stand ops a0 a → S w → (∀ t, (dstsOf ops).contains t = true → (Stb.find Sp t).p (a.tmps.getD t undef) w) → Q .normal a w) :
    (Code.region id ops true).wp P Q a0 w0 :=
  wp_region_any hm (wpAny_specs S (Stb.find Sp) a0 hok each fin _ _ _ _ (by simp) (by
    refine Nat.le_trans (List.length_filter_le _ _) (by simp)) ⟨rfl, rfl, fun _ _ => rfl⟩ hS (fun i d h => by
    exfalso
    rw [Array.getD_eq_getD_getElem?, Array.getElem?_replicate] at h
    split at h <;> simp at h) (fun _ _ _ _ _ => rfl) (fun j o h => by
    exfalso
    rw [Array.getD_eq_getD_getElem?, Array.getElem?_replicate] at h
    split at h <;> simp at h))
end

/-- what slots hold -/
def AllV (a : Act) : List (Nat × Value) → Prop
  | [] => True
  | (t, v) :: r => a.tmps.getD t undef = v ∧ AllV a r
theorem setAll_eq {b : Array Value} : ∀ (vals : List (Nat × Value)) (ts : Array Value), ts.size = b.size → (∀ p ∈ vals, b.getD p.1 undef = p.2) → (∀ t, (∀ p ∈ vals, p.1 ≠ t) → ts.getD t undef = b.getD t undef) →
    vals.foldl (fun ts p => ts.setIfInBounds p.1 p.2) ts = b
  | [], ts, hs, _, h => by
    apply Array.ext hs
    intro i h1 h2
    have := h i (by simp)
    rw [Array.getD_eq_getD_getElem?, Array.getD_eq_getD_getElem?, Array.getElem?_eq_getElem h1, Array.getElem?_eq_getElem h2] at this
    simpa using this
  | p :: r, ts, hs, hv, h => by
    rw [List.foldl_cons]
    refine setAll_eq r (ts.setIfInBounds p.1 p.2) (by simpa using hs) (fun q hq => hv q (List.mem_cons_of_mem _ hq)) fun t ht => ?_
    by_cases hpt : p.1 = t
    · subst hpt
      rw [hv p (by simp)]
      by_cases hlt : p.1 < ts.size
      · simp [Array.getD_eq_getD_getElem?, hlt]
      · have h1 := hv p (by simp)
        have e : b.getD p.1 undef = undef := by simp [Array.getD_eq_getD_getElem?, show b.size ≤ p.1 by omega]
        rw [e] at h1
        simp [Array.getD_eq_getD_getElem?, hlt, ← h1]
    · rw [← h t (fun q hq => by
        rcases List.mem_cons.1 hq with rfl | hq
        · exact hpt
        · exact ht q hq)]
      simp [Array.getD_eq_getD_getElem?, Array.getElem?_setIfInBounds_ne hpt]
theorem AllV.mem {a : Act} : ∀ {vals : List (Nat × Value)}, AllV a vals → ∀ p ∈ vals, a.tmps.getD p.1 undef = p.2
  | [], _, p, hp => by simp at hp
  | (t, v) :: r, h, p, hp => by
    rcases List.mem_cons.1 hp with rfl | hp
    · exact h.1
    · exact AllV.mem h.2 p hp
/-- the frame behind a region, written out -/
theorem Stand.frame {ops : Array Oper} {a0 a : Act} (h : Stand ops a0 a) (vals : List (Nat × Value)) (hd : ((dstsOf ops).all fun t => (vals.map Prod.fst).contains t) = true) (hv : AllV a vals) :
    a = { tmps := vals.foldl (fun ts p => ts.setIfInBounds p.1 p.2) a0.tmps, defers := a0.defers } := by
  have e := setAll_eq (b := a.tmps) vals a0.tmps h.size.symm hv.mem fun t ht => by
    refine (h.out t ?_).symm
    rw [Bool.eq_false_iff]
    intro hc
    have h1 := List.all_eq_true.1 hd t (by simpa using hc)
    obtain ⟨p, hp, rfl⟩ := List.mem_map.1 (show t ∈ vals.map Prod.fst by simpa using h1)
    exact ht p hp rfl
  cases a
  simp only [Act.mk.injEq]
  exact ⟨e.symm, h.defers⟩
end

/- Which tokens may be, by package lex: numbers and hints, whose tests are in an order that Go leaves open. -/
section
open Go.RowKit
set_option maxRecDepth 100000
end

/- What is written of tokens, by package lex: contracts. -/
section
open Go.RowKit
set_option maxRecDepth 100000

/-- a text with each byte q twice -/
def twiceF (q : UInt8) : List UInt8 → List UInt8
  | [] => []
  | b :: r => if b = q then q :: q :: twiceF q r else b :: twiceF q r

theorem twiceF_length (q : UInt8) : ∀ l, (twiceF q l).length ≤ 2 * l.length
  | [] => by simp [twiceF]
  | b :: r => by
    have := twiceF_length q r
    unfold twiceF
    split <;> simp <;> omega
theorem twiceF_take (q : UInt8) : ∀ (l : List UInt8) (k : Nat), (∀ j (h : j < l.length), j < k → l[j] ≠ q) → k ≤ l.length → twiceF q l = l.take k ++ twiceF q (l.drop k)
  | l, 0, _, _ => by simp
  | [], k + 1, _, h => by simp at h
  | b :: r, k + 1, h, hk => by
    have h0 : b ≠ q := h 0 (by simp) (by omega)
    have := twiceF_take q r k (fun j hj hjk => h (j + 1) (by simpa using hj) (by omega)) (by simpa using hk)
    rw [twiceF, if_neg h0, this]
    simp

theorem index_one (l : List UInt8) (q : UInt8) : (Lib.index l [q] = -1 ∧ (∀ b ∈ l, b ≠ q)) ∨ ∃ i : Nat, ∃ h : i < l.length, Lib.index l [q] = i ∧ l[i] = q ∧ ∀ j (hj : j < l.length), j < i → l[j] ≠ q := by
  induction l with
  | nil => exact .inl ⟨rfl, fun b h => by simp at h⟩
  | cons b r ih =>
    by_cases hb : b = q
    · subst hb
      refine .inr ⟨0, by simp, ?_, rfl, fun j _ hj => by omega⟩
      unfold Lib.index
      rw [if_pos (by simp)]
      rfl
    · have hp : [q].isPrefixOf (b :: r) = false := by
        rw [List.isPrefixOf]
        simp
        exact fun h => hb h.symm
      rcases ih with ⟨h1, h2⟩ | ⟨i, hi, h1, h2, h3⟩
      · refine .inl ⟨?_, fun c hc => ?_⟩
        · unfold Lib.index
          rw [hp, h1]
          rfl
        · rcases List.mem_cons.1 hc with rfl | hc
          · exact hb
          · exact h2 c hc
      · refine .inr ⟨i + 1, by simpa using hi, ?_, by simpa using h2, fun j hj hji => ?_⟩
        · unfold Lib.index
          rw [hp, h1]
          have : ((i : Int) == -1) = false := by rw [beq_eq_false_iff_ne]; omega
          simp [this]
        · cases j with
          | zero => exact hb
          | succ j => exact h3 j (by simpa using hj) (by omega)

theorem replaceK_none (q : UInt8) (k : Nat) (l : List UInt8) (h : Lib.index l [q] = -1) : Lib.replaceK [q] [q, q] k l = l := by
  cases k with
  | zero => rfl
  | succ k => rw [Lib.replaceK, if_pos (beq_iff_eq.2 h)]
theorem replaceK_twice (q : UInt8) : ∀ (n : Nat) (l : List UInt8) (k : Nat), l.length ≤ n → Lib.count l [q] ≤ k → Lib.replaceK [q] [q, q] k l = twiceF q l := by
  intro n
  induction n with
  | zero =>
    intro l k hl _
    obtain rfl : l = [] := List.eq_nil_of_length_eq_zero (by omega)
    rw [replaceK_none q k [] rfl]
    rfl
  | succ n ih =>
    intro l k hl hc
    rcases index_one l q with ⟨h1, h2⟩ | ⟨i, hi, h1, h2, h3⟩
    · rw [replaceK_none q k l h1, twiceF_take q l l.length (fun j hj _ => h2 _ (List.getElem_mem hj)) (Nat.le_refl _)]
      simp [twiceF]
    · rw [Lib.count_hit (by simp) h1] at hc
      obtain ⟨k', rfl⟩ : ∃ k', k = k' + 1 := ⟨k - 1, by omega⟩
      rw [Lib.replaceK_hit _ _ _ _ _ h1, ih (l.drop (i + [q].length)) k' (by rw [List.length_drop]; simp; omega) (by omega)]
      rw [twiceF_take q l i h3 (by omega), List.drop_eq_getElem_cons hi, h2]
      simp [twiceF]
theorem replaceAll_twice (q : UInt8) (l : List UInt8) : Lib.replaceAll l [q] [q, q] = twiceF q l := by
  unfold Lib.replaceAll Lib.replace
  rw [if_neg (by simp)]
  unfold Lib.replaceNum
  rw [if_pos (.inl (by decide))]
  exact replaceK_twice q l.length l _ (Nat.le_refl _) (Nat.le_refl _)

theorem text_add (a b : ByteArray) : (a ++ b).data.toList = a.data.toList ++ b.data.toList := by simp

def quoteF (q : UInt8) (l : List UInt8) : List UInt8 := q :: twiceF q l ++ [q]

def writtenF (k : Int) (l : List UInt8) : List UInt8 :=
  if k = 1 ∨ k = 4 ∨ k = 6 then l
  else if k = 2 then quoteF 34 l
  else if k = 3 then quoteF 39 l
  else if k = 5 then [47, 42, 43, 32] ++ l ++ [32] ++ [42, 47]
  else []
theorem writtenF_length (k : Int) (l : List UInt8) : (writtenF k l).length ≤ 2 * l.length + 7 := by
  have h1 := twiceF_length 34 l
  have h2 := twiceF_length 39 l
  unfold writtenF quoteF
  split
  · omega
  split
  · simp; omega
  split
  · simp; omega
  split
  · simp; omega
  · simp
end

/- The document's layer 4: what stands between quotes, words, texts with quotes twice: contracts. -/
section
open Go.RowKit
set_option maxRecDepth 100000

theorem byteinfo : (Tryz.prog.info? 5).map (fun i => (i.zero, i.size, i.bytes)) = some (some (.int .u8 0), 1, 1) := by kernel_rfl
theorem Ow.push {w : World} {base : Nat} {v : Value} {n : Nat} {bs : List UInt8} {b : UInt8} (h : w.ownsRow base 5 1 v (n + 1) (bvs bs ++ [.int .u8 (b.toNat : Int)])) : ∃ A c, v = .slice A (n + 1) c ∧ Ow w base A (n + 1) c (bs ++ [b]) := by
  rw [show [Value.int .u8 (b.toNat : Int)] = bvs [b] from rfl, ← bvs_append] at h
  exact Ow.mk' h
theorem Ow.empty (w : World) : Ow (w.alloc (.cells #[] 5)) w.heap.size (some ⟨w.heap.size, 0, none⟩) 0 0 [] := by
  have := Ow.new w w.heap.size (Nat.le_refl _) [] (by simp)
  exact this
theorem Ow.text {w : World} {base : Nat} {A : Option Addr} {l c : Nat} {bs : List UInt8} (h : Ow w base A l c bs) : (convert 40 9 (.slice A l c)).run Tryz.prog w = .ok (.string ⟨bs.toArray⟩) w :=
  run_text (P := Tryz.prog) h.sl 40 9 5 Tryz.underlying40 Tryz.underlying5 Tryz.underlying9

set_option maxHeartbeats 1000000 in
theorem word_ok (s : ByteArray) (w : World) (hs : s.size ≤ 140737488351232) : Calls Tryz.prog 66 #[.string s] w fun e w' => ∃ r : ByteArray, e = .returned (.string r) ∧ r.data.toList = greatF s.data.toList ∧ Below w.heap.size w w' := by
  obtain ⟨i0, hi, hz0, hz1, hz2⟩ := info_parts byteinfo
  have hlen := Lib.hid (text_len s)
  go_enter Tryz.func66, Tryz.ntmps66
  go_wp2
  go_loopw [3, 4] (fun o v wr => ∃ (k : Nat) (A : Option Addr) (c : Nat), v = .int .i64 k ∧ k ≤ s.size ∧ o = .slice A k c ∧ Ow wr w.heap.size A k c ((s.data.toList.take k).map upF) ∧ Below w.heap.size w wr) (fun _ v _ => s.size - (intOf v).toNat)
  case atStart => exact ⟨0, _, _, rfl, Nat.zero_le _, rfl, Ow.empty w, kp_new _ _⟩
  case round =>
    obtain ⟨k, A, c, rfl, hk, rfl, ho, kw⟩ := hrel
    by_cases hlt : k < s.size
    · have hkl : k < s.data.toList.length := by rw [hlen.out]; exact hlt
      have hb := text_at s k hlt
      have hnext := Lib.hid (drop_take_map upF s.data.toList k hkl)
      generalize s.data.toList[k] = b at hb hnext
      have hsw := kw.size
      by_cases hlow : 97 ≤ b.toNat ∧ b.toNat ≤ 122
      · obtain ⟨h1, h2⟩ := hlow
        have hu : (b.toNat : Int) - 32 = ((upF b).toNat : Int) := by rw [up_byte b h1 h2]; omega
        have HU := Lib.hid hu
        clear hu
        go_wp2_with (at_builtin; refine wpList_append_rd rfl _ _ _ rfl w.heap.size 5 i0 _ 1 Tryz.underlying40 hi hz0 hz1 hz2 rfl _ k _ rfl (ho.own.alloc _) (wr.heap.size + 1) _ _ _ [_] rfl rfl (Rd.new _ _ _) (by simp [Value.oneCell']) (by unfold maxLen; omega) (by omega) (by simp; omega) ?_; intro v2 w2 hown2 hg2; rw [HU.out] at hown2; obtain ⟨A2, c2, rfl, ho2⟩ := Ow.push hown2)
        go_roundw
        case rel => exact ⟨k + 1, A2, c2, by go_num, by omega, rfl, by rw [hnext.out]; exact ho2, (kp_alloc kw _).trans (below_own (ho.own.alloc _) hg2 (by simp; omega))⟩
        case measure => simp [intOf]; omega
      · have hsame := up_same b hlow
        have HS := Lib.hid hsame
        have hlow2 : (¬ 97 ≤ b.toNat) ∨ (97 ≤ b.toNat ∧ ¬ b.toNat ≤ 122) := by omega
        clear hsame hlow
        rcases hlow2 with h1 | ⟨h1, h2⟩
        all_goals
          go_wp2_with (at_builtin; refine wpList_append_rd rfl _ _ _ rfl w.heap.size 5 i0 _ 1 Tryz.underlying40 hi hz0 hz1 hz2 rfl _ k _ rfl (ho.own.alloc _) (wr.heap.size + 1) _ _ _ [_] rfl rfl (Rd.new _ _ _) (by simp [Value.oneCell']) (by unfold maxLen; omega) (by omega) (by simp; omega) ?_; intro v2 w2 hown2 hg2; obtain ⟨A2, c2, rfl, ho2⟩ := Ow.push hown2)
          go_roundw
          case rel => exact ⟨k + 1, A2, c2, by go_num, by omega, rfl, by rw [hnext.out, HS.out]; exact ho2, (kp_alloc kw _).trans (below_own (ho.own.alloc _) hg2 (by simp; omega))⟩
          case measure => simp [intOf]; omega
    · obtain rfl : k = s.size := by omega
      rw [List.take_of_length_le (by rw [hlen.out]; exact Nat.le_refl _)] at ho
      have hT := ho.text
      go_wp2_with fail
      go_ret
      exact ⟨_, rfl, by simp [greatF], kw⟩

theorem twiceF_next (q : UInt8) (l : List UInt8) (k : Nat) (h : k < l.length) : twiceF q (l.take (k + 1)) = twiceF q (l.take k) ++ (if l[k] = q then [q, q] else [l[k]]) := by
  induction l generalizing k with
  | nil => simp at h
  | cons b r ih =>
    cases k with
    | zero => simp [twiceF]
    | succ k =>
      have := ih k (by simpa using h)
      simp only [List.take_succ_cons, twiceF, List.getElem_cons_succ]
      split <;> simp [this]

set_option maxHeartbeats 2000000 in
theorem doubled_ok (s : ByteArray) (q : UInt8) (w : World) (hs : s.size ≤ 1000000) : Calls Tryz.prog 34 #[.string s, .int .u8 (q.toNat : Int)] w fun e w' => ∃ r : ByteArray, e = .returned (.string r) ∧ r.data.toList = quoteF q s.data.toList ∧ Below w.heap.size w w' := by
  obtain ⟨i0, hi, hz0, hz1, hz2⟩ := info_parts byteinfo
  have hlen := Lib.hid (text_len s)
  go_enter Tryz.func34, Tryz.ntmps34
  go_wp2
  go_loopw [5, 6] (fun o v wr => ∃ (k n : Nat) (A : Option Addr) (c : Nat), v = .int .i64 k ∧ k ≤ s.size ∧ n ≤ 2 * k + 1 ∧ o = .slice A n c ∧ Ow wr w.heap.size A n c (q :: twiceF q (s.data.toList.take k)) ∧ Below w.heap.size w wr) (fun _ v _ => s.size - (intOf v).toNat)
  case atStart => exact ⟨0, 1, _, _, rfl, Nat.zero_le _, by omega, rfl, Ow.new1 w w.heap.size (Nat.le_refl _) _ q rfl, kp_new _ _⟩
  case round =>
    obtain ⟨k, n, A, c, rfl, hk, hn, rfl, ho, kw⟩ := hrel
    by_cases hlt : k < s.size
    · have hkl : k < s.data.toList.length := by rw [hlen.out]; exact hlt
      have hb := text_at s k hlt
      have hnext := Lib.hid (twiceF_next q s.data.toList k hkl)
      generalize s.data.toList[k] = b at hb hnext
      have hsw := kw.size
      by_cases hbq : b = q
      · subst hbq
        go_wp2_with (first
          | (at_builtin; refine wpList_append_rd rfl _ _ _ rfl w.heap.size 5 i0 _ 1 Tryz.underlying40 hi hz0 hz1 hz2 rfl _ (n + 1) _ rfl (ho2.own.alloc _) (w2.heap.size + 1) _ _ _ [_] rfl rfl (Rd.new _ _ _) (by simp [Value.oneCell']) (by unfold maxLen; omega) (by omega) (by simp; omega) ?_; intro v3 w3 hown3 hg3; obtain ⟨A3, c3, rfl, ho3⟩ := Ow.push hown3; have kw3 := (kp_alloc kw2 (.cells #[.int .u8 _] 5)).trans (below_own (ho2.own.alloc _) hg3 (by simp; omega)); have hsw3 := kw3.size)
          | (at_builtin; refine wpList_append_rd rfl _ _ _ rfl w.heap.size 5 i0 _ 1 Tryz.underlying40 hi hz0 hz1 hz2 rfl _ n _ rfl (ho.own.alloc _) (wr.heap.size + 1) _ _ _ [_] rfl rfl (Rd.new _ _ _) (by simp [Value.oneCell']) (by unfold maxLen; omega) (by omega) (by simp; omega) ?_; intro v2 w2 hown2 hg2; obtain ⟨A2, c2, rfl, ho2⟩ := Ow.push hown2; have kw2 := (kp_alloc kw (.cells #[.int .u8 _] 5)).trans (below_own (ho.own.alloc _) hg2 (by simp; omega)); have hsw2 := kw2.size))
        go_roundw
        case rel => exact ⟨k + 1, n + 1 + 1, A3, c3, by go_num, by omega, by omega, rfl, by rw [hnext.out, if_pos rfl]; simpa using ho3, kw3⟩
        case measure => simp [intOf]; omega
      · have hbq2 := byte_eq_no hbq
        have HB := Lib.hid hbq
        clear hbq
        go_wp2_with (first
          | (at_builtin; refine wpList_append_rd rfl _ _ _ rfl w.heap.size 5 i0 _ 1 Tryz.underlying40 hi hz0 hz1 hz2 rfl _ n _ rfl (ho.own.alloc _) (wr.heap.size + 1) _ _ _ [_] rfl rfl (Rd.new _ _ _) (by simp [Value.oneCell']) (by unfold maxLen; omega) (by omega) (by simp; omega) ?_; intro v2 w2 hown2 hg2; obtain ⟨A2, c2, rfl, ho2⟩ := Ow.push hown2; have kw2 := (kp_alloc kw (.cells #[.int .u8 _] 5)).trans (below_own (ho.own.alloc _) hg2 (by simp; omega)); have hsw2 := kw2.size))
        go_roundw
        case rel => exact ⟨k + 1, n + 1, A2, c2, by go_num, by omega, by omega, rfl, by rw [hnext.out, if_neg HB.out]; simpa using ho2, kw2⟩
        case measure => simp [intOf]; omega
    · obtain rfl : k = s.size := by omega
      rw [List.take_of_length_le (by rw [hlen.out]; exact Nat.le_refl _)] at ho
      have hsw := kw.size
      go_wp2_with (first
          | (at_builtin; refine wpList_append_rd rfl _ _ _ rfl w.heap.size 5 i0 _ 1 Tryz.underlying40 hi hz0 hz1 hz2 rfl _ n _ rfl (ho.own.alloc _) (wr.heap.size + 1) _ _ _ [_] rfl rfl (Rd.new _ _ _) (by simp [Value.oneCell']) (by unfold maxLen; omega) (by omega) (by simp; omega) ?_; intro v2 w2 hown2 hg2; obtain ⟨A2, c2, rfl, ho2⟩ := Ow.push hown2; have kw2 := (kp_alloc kw (.cells #[.int .u8 _] 5)).trans (below_own (ho.own.alloc _) hg2 (by simp; omega)); have hsw2 := kw2.size; have hT := ho2.text))
      go_ret
      exact ⟨_, rfl, by simp [quoteF], kw2⟩
end

/- The document's layer 4: what stands between quotes; remarks and blanks: contracts. -/
section
open Go.RowKit
set_option maxRecDepth 100000

/-- what stands between quotes, as a call answers it -/
def AnsB (x : Option (List UInt8 × Nat)) (i : Nat) (r : ByteArray) (n : Int) : Prop :=
  match x with
  | none => n = -1
  | some (t, m) => r.data.toList = t ∧ n = (i + 1 + m : Nat)

set_option maxHeartbeats 2000000 in
theorem between_ok (s : ByteArray) (i : Nat) (c : UInt8) (rest : List UInt8) (w : World) (hs : s.size ≤ 140737488351232) (hl : s.data.toList.drop i = c :: rest) :
    Calls Tryz.prog 67 #[.string s, .int .i64 (i : Int)] w fun e w' => ∃ r n, e = .returned (.tuple #[.string r, .int .i64 n]) ∧ AnsB (quotedF c rest) i r n ∧ Below w.heap.size w w' := by
  obtain ⟨i0, hi, hz0, hz1, hz2⟩ := info_parts byteinfo
  have hlen := Lib.hid (text_len s)
  have hil : i < s.size := by
    rcases Nat.lt_or_ge i s.size with h | h
    · exact h
    · rw [List.drop_eq_nil_of_le (by rw [text_len]; exact h)] at hl; cases hl
  have hc0 : s[i] = c := by
    rw [text_at s i hil]
    have e0 : (s.data.toList.drop i)[0]? = some c := by rw [hl]; rfl
    rw [List.getElem?_drop] at e0
    exact (List.getElem?_eq_some_iff.1 e0).2
  have hx : rest = s.data.toList.drop (i + 1) := by
    rw [← List.drop_drop, hl]; rfl
  subst hx
  generalize hR0 : quotedF c (s.data.toList.drop (i + 1)) = R
  have HR := Lib.hid hR0
  clear hR0 hl
  go_enter Tryz.func67, Tryz.ntmps67
  go_wp2
  go_loopw [1, 7] (fun v o wr => ∃ (k n : Nat) (A : Option Addr) (cp : Nat) (done : List UInt8), v = .int .i64 k ∧ i + 1 ≤ k ∧ k ≤ s.size ∧ n ≤ k ∧ o = .slice A n cp ∧ Ow wr w.heap.size A n cp done ∧ Hid (R = (quotedF c (s.data.toList.drop k)).map fun x => (done ++ x.1, x.2 + k - (i + 1))) ∧ Below w.heap.size w wr) (fun v _ _ => s.size - (intOf v).toNat)
  case atStart => exact ⟨i + 1, 0, _, _, [], by go_num, Nat.le_refl _, by omega, by omega, rfl, Ow.empty w, Lib.hid (by rw [HR.out]; cases R <;> simp), kp_new _ _⟩
  case round =>
    obtain ⟨k, n, A, cp, done, rfl, hk1, hks, hn, rfl, ho, hx, kw⟩ := hrel
    clear HR
    have hsw := kw.size
    by_cases hlt : k < s.size
    · have hkl : k < s.data.toList.length := by rw [hlen.out]; exact hlt
      have hb := text_at s k hlt
      have hd : s.data.toList.drop k = s.data.toList[k] :: s.data.toList.drop (k + 1) := List.drop_eq_getElem_cons hkl
      rw [hd] at hx
      generalize s.data.toList[k] = b at hb hd hx
      clear hd
      by_cases hbc : b = c
      · subst hbc
        by_cases h1 : k + 1 < s.size
        · have hb1 := text_at s (k + 1) h1
          have hd1 : s.data.toList.drop (k + 1) = s.data.toList[k + 1]'(by rw [hlen.out]; exact h1) :: s.data.toList.drop (k + 1 + 1) := List.drop_eq_getElem_cons _
          rw [hd1] at hx
          generalize s.data.toList[k + 1]'(by rw [hlen.out]; exact h1) = d at hb1 hd1 hx
          clear hd1
          by_cases hdb : d = b
          · subst hdb
            rw [quotedF_twice] at hx
            have hx2 : Hid (R = (quotedF d (s.data.toList.drop (k + 2))).map fun x => (done ++ [d] ++ x.1, x.2 + (k + 2) - (i + 1))) := Lib.hid (by
              rw [hx.out]
              cases quotedF d (s.data.toList.drop (k + 2)) <;> simp
              try omega)
            clear hx
            go_wp2_with (first
              | (at_builtin; refine wpList_append_rd rfl _ _ _ rfl w.heap.size 5 i0 _ 1 Tryz.underlying40 hi hz0 hz1 hz2 rfl _ n _ rfl (ho.own.alloc _) (wr.heap.size + 1) _ _ _ [_] rfl rfl (Rd.new _ _ _) (by simp [Value.oneCell']) (by unfold maxLen; omega) (by omega) (by simp; omega) ?_; intro v2 w2 hown2 hg2; obtain ⟨A2, c2, rfl, ho2⟩ := Ow.push hown2; have kw2 := (kp_alloc kw (.cells #[.int .u8 _] 5)).trans (below_own (ho.own.alloc _) hg2 (by simp; omega)); have hsw2 := kw2.size))
            go_roundw
            case rel => exact ⟨k + 2, n + 1, A2, c2, done ++ [d], by go_num, by omega, by omega, by omega, rfl, ho2, hx2, kw2⟩
            case measure => simp [intOf]; omega
          · have hR : R = some (done, k - i) := by rw [hx.out, quotedF_ends (by simpa using hdb)]; simp; omega
            subst hR
            have hdb2 := byte_eq_no hdb
            have hT := ho.text
            clear hx
            go_wp2_with fail
            go_ret2
            exact ⟨_, _, rfl, ⟨by simp, by omega⟩, kw⟩
        · have hR : R = some (done, k - i) := by rw [hx.out, List.drop_eq_nil_of_le (by rw [hlen.out]; omega), quotedF_ends (by simp)]; simp; omega
          subst hR
          have hT := ho.text
          clear hx
          go_wp2_with fail
          go_ret2
          exact ⟨_, _, rfl, ⟨by simp, by omega⟩, kw⟩
      · rw [quotedF_other hbc] at hx
        have hx2 : Hid (R = (quotedF c (s.data.toList.drop (k + 1))).map fun x => (done ++ [b] ++ x.1, x.2 + (k + 1) - (i + 1))) := Lib.hid (by
          rw [hx.out]
          cases quotedF c (s.data.toList.drop (k + 1)) <;> simp
          try omega)
        have hbc2 := byte_eq_no hbc
        clear hx
        go_wp2_with (first
          | (at_builtin; refine wpList_append_rd rfl _ _ _ rfl w.heap.size 5 i0 _ 1 Tryz.underlying40 hi hz0 hz1 hz2 rfl _ n _ rfl (ho.own.alloc _) (wr.heap.size + 1) _ _ _ [_] rfl rfl (Rd.new _ _ _) (by simp [Value.oneCell']) (by unfold maxLen; omega) (by omega) (by simp; omega) ?_; intro v2 w2 hown2 hg2; obtain ⟨A2, c2, rfl, ho2⟩ := Ow.push hown2; have kw2 := (kp_alloc kw (.cells #[.int .u8 _] 5)).trans (below_own (ho.own.alloc _) hg2 (by simp; omega)); have hsw2 := kw2.size))
        go_roundw
        case rel => exact ⟨k + 1, n + 1, A2, c2, done ++ [b], by go_num, by omega, by omega, by omega, rfl, ho2, hx2, kw2⟩
        case measure => simp [intOf]; omega
    · have hR : R = none := by rw [hx.out, List.drop_eq_nil_of_le (by rw [hlen.out]; omega)]; rfl
      subst hR
      clear hx
      go_wp2_with fail
      go_ret2
      exact ⟨⟨#[]⟩, -1, rfl, rfl, kw⟩

/-- a remark, or a blank: how many bytes; below 0: it doesn't end -/
def skipF : List UInt8 → Int
  | [] => 0
  | c :: r =>
    if blankF c then 1
    else if isRemarkF (c :: r) then (if closedF (c :: r) 2 = 0 then -1 else closedF (c :: r) 2)
    else if isLineF (c :: r) then lineF (c :: r)
    else 0
def skipA (l : List UInt8) (i : Nat) : Int := if skipF (l.drop i) < 0 then -1 else (i : Int) + skipF (l.drop i)

theorem index_byte (l : List UInt8) (q : UInt8) : Lib.index l [q] = Lib.indexByte l q := by
  induction l with
  | nil => rfl
  | cons b r ih =>
    unfold Lib.index Lib.indexByte
    rw [ih]
    by_cases h : b = q
    · subst h; simp
    · have h1 : ([q].isPrefixOf (b :: r)) = false := by
        rw [List.isPrefixOf]
        simp
        exact fun e => h e.symm
      have h2 : (b == q) = false := by simpa using h
      rw [h1, h2]

theorem beg_hash (c : UInt8) (r : List UInt8) : begF [35] (c :: r) = decide (c.toNat = 35) := by
  unfold begF Lib.hasPrefix
  rw [List.isPrefixOf, Bool.eq_iff_iff]
  simp
  constructor
  · rintro rfl; rfl
  · intro h
    exact UInt8.toNat_inj.1 (by rw [h]; rfl)

set_option maxHeartbeats 2000000 in
theorem skip_ok (s : ByteArray) (i : Nat) (c : UInt8) (r : List UInt8) (w : World) (hs : s.size ≤ 140737488351232) (hl : s.data.toList.drop i = c :: r) :
    Calls Tryz.prog 30 #[.string s, .int .i64 (i : Int)] w fun e w' => e = .returned (.int .i64 (skipA s.data.toList i)) ∧ Below w.heap.size w w' := by
  have hil : i < s.size := by
    rcases Nat.lt_or_ge i s.size with h | h
    · exact h
    · rw [List.drop_eq_nil_of_le (by rw [text_len]; exact h)] at hl; cases hl
  have hc0 : s[i] = c := by
    rw [text_at s i hil]
    have e0 : (s.data.toList.drop i)[0]? = some c := by rw [hl]; rfl
    rw [List.getElem?_drop] at e0
    exact (List.getElem?_eq_some_iff.1 e0).2
  have hrl : r.length + 1 = s.size - i := by
    have := congrArg List.length hl
    rw [List.length_drop, text_len] at this
    simpa using this.symm
  have hA : skipA s.data.toList i = if skipF (c :: r) < 0 then -1 else (i : Int) + skipF (c :: r) := by unfold skipA; rw [hl]
  have HL := Lib.hid hl
  have H1 := fun u => rblank_ok c u
  by_cases h1 : blankF c = true
  · have hF : skipA s.data.toList i = (i : Int) + 1 := by rw [hA, skipF, if_pos h1]; rfl
    rw [h1] at H1
    have H1' := Lib.hid H1
    have HF := Lib.hid hF
    clear H1 hF hA hl h1
    go_enter Tryz.func30, Tryz.ntmps30
    go_wp2_with fail
    refine (H1'.out _).mono ?_
    rintro e w1 ⟨rfl, rfl⟩
    go_wp2_with fail
    go_ret
    exact ⟨by rw [HF.out]; rfl, Below.refl _ _⟩
  have h1f : blankF c = false := by simpa using h1
  rw [h1f] at H1
  have H1' := Lib.hid H1
  clear H1
  have hP1 := fun u => rat_ok s ⟨#[47, 42]⟩ i u (by omega) hs (by decide) (by decide)
  have hP2 := fun u => rat_ok s ⟨#[47, 42, 43]⟩ i u (by omega) hs (by decide) (by decide)
  have hP3 := fun u => rat_ok s ⟨#[45, 45]⟩ i u (by omega) hs (by decide) (by decide)
  have hP4 := fun u => rat_ok s ⟨#[35]⟩ i u (by omega) hs (by decide) (by decide)
  rw [show (⟨#[47, 42]⟩ : ByteArray).data.toList = [47, 42] from rfl, hl] at hP1
  rw [show (⟨#[47, 42, 43]⟩ : ByteArray).data.toList = [47, 42, 43] from rfl, hl] at hP2
  rw [show (⟨#[45, 45]⟩ : ByteArray).data.toList = [45, 45] from rfl, hl] at hP3
  rw [show (⟨#[35]⟩ : ByteArray).data.toList = [35] from rfl, hl, beg_hash] at hP4
  by_cases h2 : isRemarkF (c :: r) = true
  · have h2a : begF [47, 42] (c :: r) = true ∧ begF [47, 42, 43] (c :: r) = false := by
      unfold isRemarkF at h2
      simpa using h2
    have h2l : 2 ≤ s.size - i := by
      have := (List.isPrefixOf_iff_prefix.1 h2a.1).length_le
      simp at this
      omega
    have hfi := rfind_ok s ⟨#[42, 47]⟩ (i + 2) w (by omega) hs (by decide) (by decide)
    rw [show (⟨#[42, 47]⟩ : ByteArray).data.toList = ends2 from rfl] at hfi
    rw [h2a.1] at hP1
    rw [h2a.2] at hP2
    have hge := Lib.index_ge (s.data.toList.drop (i + 2)) ends2
    have hroom : 0 ≤ Lib.index (s.data.toList.drop (i + 2)) ends2 → (Lib.index (s.data.toList.drop (i + 2)) ends2).toNat + 2 ≤ s.size - (i + 2) := fun h => by
      have := index_room h (by decide)
      rw [List.length_drop, text_len] at this
      exact this
    have hcl : closedF (c :: r) 2 = if Lib.index (s.data.toList.drop (i + 2)) ends2 < 0 then 0 else 2 + (Lib.index (s.data.toList.drop (i + 2)) ends2).toNat + 2 := by
      unfold closedF
      rw [← hl, List.drop_drop]
    have hff : findF s.data.toList ends2 (i + 2) = if Lib.index (s.data.toList.drop (i + 2)) ends2 < 0 then -1 else ((i + 2 : Nat) : Int) + Lib.index (s.data.toList.drop (i + 2)) ends2 := rfl
    have hsk : skipF (c :: r) = if closedF (c :: r) 2 = 0 then -1 else (closedF (c :: r) 2 : Int) := by rw [skipF, if_neg h1, if_pos h2]
    rw [hsk, hcl] at hA
    rw [hff] at hfi
    generalize Lib.index (s.data.toList.drop (i + 2)) ends2 = x at hge hroom hA hfi
    by_cases hx : x < 0
    · rw [if_pos hx] at hA hfi
      have HA := Lib.hid hA
      have HP1 := Lib.hid hP1
      have HP2 := Lib.hid hP2
      have HFi := Lib.hid hfi
      clear hA hP1 hP2 hP3 hP4 hfi hsk hcl hff h2 h2a h1 h1f hl
      go_enter Tryz.func30, Tryz.ntmps30
      go_wp2_with fail
      refine (H1'.out _).mono ?_
      rintro e w1 ⟨rfl, rfl⟩
      go_wp2_with fail
      refine (HP1.out _).mono ?_
      rintro e w1 ⟨rfl, rfl⟩
      go_wp2_with fail
      refine (HP2.out _).mono ?_
      rintro e w1 ⟨rfl, rfl⟩
      go_wp2_with fail
      refine HFi.out.mono ?_
      rintro e w1 ⟨rfl, rfl⟩
      go_wp2_with fail
      go_ret
      exact ⟨by rw [HA.out]; rfl, Below.refl _ _⟩
    · rw [if_neg hx] at hA hfi
      obtain ⟨m, rfl⟩ : ∃ m : Nat, x = m := ⟨x.toNat, by omega⟩
      have hr := hroom (by omega)
      rw [Int.toNat_natCast] at hr hA
      have hA2 : skipA s.data.toList i = ((i + 2 + m + 2 : Nat) : Int) := by
        rw [hA, if_neg (by omega), if_neg (by omega)]
        omega
      have HA := Lib.hid hA2
      have HP1 := Lib.hid hP1
      have HP2 := Lib.hid hP2
      have HFi := Lib.hid hfi
      clear hA hA2 hP1 hP2 hP3 hP4 hfi hsk hcl hff h2 h2a h1 h1f hl
      go_enter Tryz.func30, Tryz.ntmps30
      go_wp2_with fail
      refine (H1'.out _).mono ?_
      rintro e w1 ⟨rfl, rfl⟩
      go_wp2_with fail
      refine (HP1.out _).mono ?_
      rintro e w1 ⟨rfl, rfl⟩
      go_wp2_with fail
      refine (HP2.out _).mono ?_
      rintro e w1 ⟨rfl, rfl⟩
      go_wp2_with fail
      refine HFi.out.mono ?_
      rintro e w1 ⟨rfl, rfl⟩
      go_wp2_with fail
      go_ret
      exact ⟨by rw [HA.out]; simp, Below.refl _ _⟩
  have h2f : isRemarkF (c :: r) = false := by simpa using h2
  have hA3 : skipA s.data.toList i = if isLineF (c :: r) then (i : Int) + lineF (c :: r) else (i : Int) := by
    rw [hA, skipF, if_neg h1, if_neg h2]
    split
    · rw [if_neg (by omega)]
    · simp
  have hrem : isRemarkF (c :: r) = (begF [47, 42] (c :: r) && !begF [47, 42, 43] (c :: r)) := rfl
  rw [h2f] at hrem
  have hline : isLineF (c :: r) = (decide (c.toNat = 35) || begF [45, 45] (c :: r)) := rfl
  have hfi := fun u t (ht : t.data.toList = [10]) => rfind_ok s t i u (by omega) hs (by rw [← text_len, ht]; decide) (by rw [← text_len, ht]; decide)
  have hlf : lineF (c :: r) = if Lib.indexByte (c :: r) 10 < 0 then s.size - i else (Lib.indexByte (c :: r) 10).toNat := by unfold lineF; rw [List.length_cons, hrl]
  have hff : findF s.data.toList [10] i = if Lib.indexByte (c :: r) 10 < 0 then -1 else (i : Int) + Lib.indexByte (c :: r) 10 := by unfold findF; rw [hl, index_byte]
  have hge := indexByte_lt.indexByte_ge1 (c :: r) 10
  have hroom := fun h => indexByte_lt (l := c :: r) (c := 10) h
  rw [List.length_cons, hrl] at hroom
  rw [hlf] at hA3
  generalize Lib.indexByte (c :: r) 10 = x at hA3 hff hge hroom
  clear hA hlf h2 h2f h1 h1f
  generalize begF [47, 42] (c :: r) = a1 at hP1 hrem
  generalize begF [47, 42, 43] (c :: r) = a2 at hP2 hrem
  generalize begF [45, 45] (c :: r) = b1 at hP3 hline
  generalize decide (c.toNat = 35) = b2 at hP4 hline
  rw [hline] at hA3
  clear hline hl
  have HA := Lib.hid hA3
  have HP1 := Lib.hid hP1
  have HP2 := Lib.hid hP2
  have HP3 := Lib.hid hP3
  have HP4 := Lib.hid hP4
  have HFF := Lib.hid hff
  have HFi := Lib.hid hfi
  have hrem2 : a1 = false ∨ (a1 = true ∧ a2 = true) := by
    cases a1 <;> cases a2 <;> simp at hrem ⊢
  clear hA3 hP1 hP2 hP3 hP4 hff hfi hrem
  rcases hrem2 with rfl | ⟨rfl, rfl⟩
  focus
    go_enter Tryz.func30, Tryz.ntmps30
    go_wp2_with fail
    refine (H1'.out _).mono ?_
    rintro e w1 ⟨rfl, rfl⟩
    go_wp2_with fail
    refine (HP1.out _).mono ?_
    rintro e w1 ⟨rfl, rfl⟩
    go_wp2_with fail
  rotate_left
  focus
    go_enter Tryz.func30, Tryz.ntmps30
    go_wp2_with fail
    refine (H1'.out _).mono ?_
    rintro e w1 ⟨rfl, rfl⟩
    go_wp2_with fail
    refine (HP1.out _).mono ?_
    rintro e w1 ⟨rfl, rfl⟩
    go_wp2_with fail
    refine (HP2.out _).mono ?_
    rintro e w1 ⟨rfl, rfl⟩
    go_wp2_with fail
  all_goals
    refine (HP3.out _).mono ?_
    rintro e w1 ⟨rfl, rfl⟩
    have hT : (convert 40 9 (.slice (some ⟨w.heap.size, 0, none⟩) 1 1)).run Tryz.prog (w.alloc (.cells #[.int .u8 10] 5)) = .ok (.string ⟨#[10]⟩) (w.alloc (.cells #[.int .u8 10] 5)) := (Ow.new1 w w.heap.size (Nat.le_refl _) (.int .u8 10) 10 rfl).text
    have kw := kp_new w (.cells #[.int .u8 10] 5)
    have hF10 := HFi.out (w.alloc (.cells #[.int .u8 10] 5)) ⟨#[10]⟩ rfl
    rw [show (⟨#[10]⟩ : ByteArray).data.toList = [10] from rfl, HFF.out] at hF10
    have HF10 := Lib.hid hF10
    clear hF10
    by_cases hb : (b2 || b1) = true
    · rw [if_pos hb] at HA
      have hbb : b1 = true ∨ (b1 = false ∧ b2 = true) := by cases b1 <;> cases b2 <;> simp at hb ⊢
      by_cases hx : x < 0
      · rw [if_pos hx] at HA HF10
        have hsi : (i : Int) + ((s.size - i : Nat) : Int) = (s.size : Int) := by omega
        have HSI := Lib.hid hsi
        clear hsi
        rcases hbb with rfl | ⟨rfl, rfl⟩
        all_goals
          go_wp2_with (go_at_call 63; refine (HP4.out _).mono ?_; rintro e w1 ⟨rfl, rfl⟩)
          refine HF10.out.mono ?_
          rintro e w1 ⟨rfl, rfl⟩
          go_wp2_with fail
          go_ret
          exact ⟨by rw [HA.out, HSI.out]; rfl, kw⟩
      · rw [if_neg hx] at HA HF10
        obtain ⟨m, rfl⟩ : ∃ m : Nat, x = m := ⟨x.toNat, by omega⟩
        have hr := hroom (by omega)
        rw [Int.toNat_natCast] at hr
        have hxm : ¬ ((i : Int) + (m : Int)) < 0 := by omega
        rcases hbb with rfl | ⟨rfl, rfl⟩
        all_goals
          go_wp2_with (go_at_call 63; refine (HP4.out _).mono ?_; rintro e w1 ⟨rfl, rfl⟩)
          refine HF10.out.mono ?_
          rintro e w1 ⟨rfl, rfl⟩
          go_wp2_with fail
          go_ret
          exact ⟨by rw [HA.out]; rfl, kw⟩
    · rw [if_neg hb] at HA
      obtain ⟨rfl, rfl⟩ : b1 = false ∧ b2 = false := by cases b1 <;> cases b2 <;> simp at hb ⊢
      go_wp2_with fail
      refine (HP4.out _).mono ?_
      rintro e w1 ⟨rfl, rfl⟩
      go_wp2_with fail
      go_ret
      exact ⟨by rw [HA.out]; rfl, Below.refl _ _⟩
end

/- The document's layer 4: the token at a place: contract. -/
section
open Go.RowKit
set_option maxRecDepth 100000

/-- the token that a text begins with, in the document's order -/
def rtokF : List UInt8 → Option (Int × List UInt8 × Nat)
  | [] => none
  | c :: r =>
    if begF [47, 42, 43] (c :: r) then (hintF (c :: r)).map fun x => (5, x.1, x.2)
    else if letterF c then some (1, greatF ((c :: r).take (runF lodF (c :: r))), runF lodF (c :: r))
    else if digitF c then some (4, (c :: r).take (runF digitF (c :: r)), runF digitF (c :: r))
    else if c.toNat = 34 ∨ c.toNat = 96 then (quotedF c r).map fun x => (2, x.1, x.2 + 1)
    else if c.toNat = 39 then (quotedF c r).map fun x => (3, x.1, x.2 + 1)
    else if 33 ≤ c.toNat ∧ c.toNat ≤ 126 then some (6, [c], 1)
    else none

/-- a token, and the place behind it, as a call answers it -/
def AnsT (x : Option (Int × List UInt8 × Nat)) (i : Nat) (k : Int) (r : ByteArray) (n : Int) : Prop :=
  match x with
  | none => n = -1
  | some (k', t, m) => k = k' ∧ r.data.toList = t ∧ n = (i + m : Nat)

/-- one answer of token -/
def TokTo (s : ByteArray) (i : Nat) (w : World) (x : Option (Int × List UInt8 × Nat)) : Prop :=
  Calls Tryz.prog 31 #[.string s, .int .i64 (i : Int)] w fun e w' => ∃ k r n, e = .returned (.tuple #[tokV k r, .int .i64 n]) ∧ AnsT x i k r n ∧ Below w.heap.size w w'

theorem place {s : ByteArray} {i : Nat} {c : UInt8} {r : List UInt8} (hl : s.data.toList.drop i = c :: r) : ∃ h : i < s.size, s[i] = c := by
  have hil : i < s.size := by
    rcases Nat.lt_or_ge i s.size with h | h
    · exact h
    · rw [List.drop_eq_nil_of_le (by rw [text_len]; exact h)] at hl; cases hl
  refine ⟨hil, ?_⟩
  rw [text_at s i hil]
  have e0 : (s.data.toList.drop i)[0]? = some c := by rw [hl]; rfl
  rw [List.getElem?_drop] at e0
  exact (List.getElem?_eq_some_iff.1 e0).2

theorem tok_block (w : World) : (w.alloc (.cells #[.int .i64 0, .string ⟨#[]⟩] 33)).heap[w.heap.size]? = some (.cells #[.int .i64 0, .string ⟨#[]⟩] 33 (0, 0)) ∧ w.heap.size < (w.alloc (.cells #[.int .i64 0, .string ⟨#[]⟩] 33)).heap.size ∧ Below w.heap.size w (w.alloc (.cells #[.int .i64 0, .string ⟨#[]⟩] 33)) :=
  ⟨heap_alloc_new w _, by simp, kp_new w _⟩

set_option maxHeartbeats 1000000 in
theorem rhint_ok (s : ByteArray) (i : Nat) (c : UInt8) (r : List UInt8) (w : World) (hs : s.size ≤ 140737488351232) (hl : s.data.toList.drop i = c :: r) (h1 : begF [47, 42, 43] (c :: r) = true) :
    TokTo s i w ((hintF (c :: r)).map fun x => (5, x.1, x.2)) := by
  unfold TokTo tokV
  obtain ⟨hil, hc0⟩ := place hl
  obtain ⟨hB, hz, kw⟩ := tok_block w
  have h3 : 3 ≤ s.size - i := by
    have h3 := (List.isPrefixOf_iff_prefix.1 h1).length_le
    have := congrArg List.length hl
    rw [List.length_drop, text_len] at this
    rw [this]
    simpa using h3
  have hP := fun u => rat_ok s ⟨#[47, 42, 43]⟩ i u (by omega) hs (by decide) (by decide)
  rw [show (⟨#[47, 42, 43]⟩ : ByteArray).data.toList = [47, 42, 43] from rfl, hl, h1] at hP
  have hfi := fun u => rfind_ok s ⟨#[42, 47]⟩ (i + 3) u (by omega) hs (by decide) (by decide)
  rw [show (⟨#[42, 47]⟩ : ByteArray).data.toList = ends2 from rfl, show findF s.data.toList ends2 (i + 3) = if Lib.index (s.data.toList.drop (i + 3)) ends2 < 0 then -1 else ((i + 3 : Nat) : Int) + Lib.index (s.data.toList.drop (i + 3)) ends2 from rfl] at hfi
  have hroom : 0 ≤ Lib.index (s.data.toList.drop (i + 3)) ends2 → (Lib.index (s.data.toList.drop (i + 3)) ends2).toNat + 2 ≤ s.size - (i + 3) := fun h => by
    have := index_room h (by decide)
    rw [List.length_drop, text_len] at this
    exact this
  have hcl : closedF (c :: r) 3 = if Lib.index (s.data.toList.drop (i + 3)) ends2 < 0 then 0 else 3 + (Lib.index (s.data.toList.drop (i + 3)) ends2).toNat + 2 := by
    unfold closedF
    rw [← hl, List.drop_drop]
  have hH : hintF (c :: r) = if closedF (c :: r) 3 = 0 then none else some (trimF (((c :: r).take (closedF (c :: r) 3 - 2)).drop 3), closedF (c :: r) 3) := rfl
  rw [hcl] at hH
  have htk : ∀ m, ((c :: r).take (3 + m)).drop 3 = (s.data.toList.drop (i + 3)).take m := fun m => by rw [List.drop_take, ← hl, List.drop_drop, Nat.add_sub_cancel_left]
  have HB := Lib.hid hB
  have HZ := Lib.hid hz
  have HP := Lib.hid hP
  generalize Lib.index (s.data.toList.drop (i + 3)) ends2 = x at hfi hroom hH
  clear hB hz hP hcl
  by_cases hx : x < 0
  · rw [if_pos hx] at hH hfi
    rw [hH]
    have HFi := Lib.hid hfi
    clear hH hfi hl htk hroom
    go_enter Tryz.func31, Tryz.ntmps31
    go_wp2_with fail
    refine (HP.out _).mono ?_
    rintro e w1 ⟨rfl, rfl⟩
    go_wp2_with fail
    refine (HFi.out _).mono ?_
    rintro e w1 ⟨rfl, rfl⟩
    obtain ⟨x0, x1, f0, f1⟩ := cells2 HB.out
    go_wp2_with fail
    refine bodyPost_ret (v := .tuple #[.agg #[.int .i64 0, .string ⟨#[]⟩], .int .i64 (-1)]) ?_ rfl ⟨0, ⟨#[]⟩, -1, rfl, rfl, ?_⟩
    · rw [results_cell_tmp rfl]
      go_simp
    · first | exact kw | exact ((kw.setCell (Nat.le_refl _) _).setCell (Nat.le_refl _) _)
  · rw [if_neg hx] at hfi hH
    obtain ⟨m, rfl⟩ : ∃ m : Nat, x = m := ⟨x.toNat, by omega⟩
    have hr := hroom (by omega)
    rw [Int.toNat_natCast] at hr hH
    rw [if_neg (by omega), show 3 + m + 2 - 2 = 3 + m from by omega, htk] at hH
    have hT := fun u => rtrim_ok (s.extract (i + 3) (i + 3 + m)) u (by rw [ByteArray.size_extract]; omega)
    rw [text_cut, show i + 3 + m - (i + 3) = m from by omega] at hT
    rw [hH]
    have HFi := Lib.hid hfi
    have HT := Lib.hid hT
    have e1 : ((i : Int) + 3).toNat = i + 3 := by omega
    have e2 : ((i : Int) + 3 + (m : Int)).toNat = i + 3 + m := by omega
    have e3 : ¬ ((i : Int) + 3 + (m : Int)) < 0 := by omega
    clear hH hfi hl htk hroom hT
    go_enter Tryz.func31, Tryz.ntmps31
    go_wp2_with fail
    refine (HP.out _).mono ?_
    rintro e w1 ⟨rfl, rfl⟩
    go_wp2_with fail
    refine (HFi.out _).mono ?_
    rintro e w1 ⟨rfl, rfl⟩
    go_wp2_with fail
    refine (HT.out _).mono ?_
    rintro e w1 ⟨rr, rfl, hrr, rfl⟩
    obtain ⟨x0, x1, f0, f1⟩ := cells2 HB.out
    go_wp2_with fail
    refine bodyPost_ret (v := .tuple #[.agg #[.int .i64 5, .string rr], .int .i64 ((i + (3 + m + 2) : Nat) : Int)]) ?_ rfl ⟨5, rr, _, rfl, ⟨rfl, hrr, rfl⟩, ?_⟩
    · rw [results_cell_tmp rfl]
      go_simp
      try omega
    · first | exact kw | exact ((kw.setCell (Nat.le_refl _) _).setCell (Nat.le_refl _) _) | exact kp_new _ _
end
end Go.Proofs.YtedfclknpebpaaaGreatDoor
