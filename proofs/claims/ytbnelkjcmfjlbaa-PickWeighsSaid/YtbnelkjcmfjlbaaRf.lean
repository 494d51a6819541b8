/-
  The law of a loop over an iterator that is a closure (no function of the program is named here): between two rounds the caller's I, told how many are over.
-/
import Derived.Test.YtbnelkjcmfjlbaaOff
import Derived.RangeFuncNested
import Derived.RangeFuncBound
import Derived.RangeFuncCalls
import Derived.RangeFuncLeaves
import Derived.Shelf.Abstract
import Derived.Shelf.RegionOpen
import Derived.WalkKit
import Derived.OwnWalkIn
import Derived.TacticsInMore
import Derived.LoopNIn
import Derived.LoopIn
namespace Go.Proofs.Ytbnelkjcmfjlbaa
open Go.RowKit
set_option maxRecDepth 100000
theorem wide_depth : Fence.wide.depth = none := rfl
theorem wide_fn (f : FuncId) : Fence.wide.fn f = True := rfl
attribute [local go_sem] Oper.semAt_some wide_depth wide_fn

/-- the two blocks of a loop's book-keeping -/
def bkS (B k : Nat) : Prop := k = B ∨ k = B + 1
theorem off_putObj {B l : Nat} (w : World) (o : Obj) (hl : bkS B l) : Off (bkS B) w (w.putObj l o) :=
  ⟨rfl, rfl, rfl, by simp, fun k _ hn => World.putObj_heap_other fun e => hn (e ▸ hl)⟩
theorem below_bk {B : Nat} {w0 W W' : World} (h : Below B w0 W) (ho : Off (bkS B) W W') (hB : B ≤ W.heap.size) : Below B w0 W' := h.trans (ho.below (fun k hk => by rcases hk with e | e <;> omega) hB)
theorem put_cell {W : World} {D B : Nat} {v : Value} (h : W.cell? ⟨B, 0, none⟩ = some v) (hne : B ≠ D) (o : Obj) : (W.putObj D o).cell? ⟨B, 0, none⟩ = some v := (World.cell?_of_block (a := ⟨B, 0, none⟩) (World.putObj_heap_other hne)).trans h
theorem put_below {w0 W : World} {B D : Nat} (h : Below B w0 W) (hD : B ≤ D) (hs : B ≤ W.heap.size) (o : Obj) : Below B w0 (W.putObj D o) := h.trans ((off_putObj (B := D) W o (.inl rfl)).below (fun k hk => by rcases hk with e | e <;> omega) hs)
theorem size_setCell (W : World) (p : Addr) (v : Value) : (W.setCell p v).heap.size = W.heap.size := by simp [World.setCell]

/-- an iterator: so many rounds, each told its own values; it wants R to hold between rounds -/
def Iter (m gf : Nat) (lb : Array Value) (n : Nat) (encs : Nat → Array Value) (R : World → Prop) : Prop :=
  ∀ (l : Nat) (J : Nat → World → Prop) (Jx : World → Prop),
    (∀ k, k < n → ∀ W, J k W → YieldAt Fence.wide (m - 1) Try.prog l (encs k) W fun e W' => (e = .returned (.bool true) ∧ J (k + 1) W') ∨ (e = .returned (.bool false) ∧ Jx W')) →
    (∀ k W, J k W → R W) →
    ∀ W, J 0 W → CallsIn Fence.wide m Try.prog gf (#[.func (.yield l) #[] #[]] ++ lb) W fun e W' => (∃ v, e = .returned v) ∧ (J n W' ∨ Jx W')

/-- how the body of a round may be left -/
def rpostI (B : Nat) (I : Nat → World → Prop) (Ix : Code → World → Prop) (k : Nat) (W : World) : Exit → Act → World → Prop
  | .normal, _, W' => I (k + 1) W' ∧ ∀ j, bkS B j → W'.heap[j]? = W.heap[j]?
  | .ret, _, W' => Ix .ret W' ∧ ∀ j, bkS B j → W'.heap[j]? = W.heap[j]?
  | .exit id, _, W' => Ix (.exit id) W' ∧ ∀ j, bkS B j → W'.heap[j]? = W.heap[j]?
  | .goto t, _, W' => Ix (.goto t) W' ∧ ∀ j, bkS B j → W'.heap[j]? = W.heap[j]?
  | _, _, _ => False

set_option maxHeartbeats 2000000 in
/-- the loop over it -/
theorem wpIn_rangeIter {m gf n : Nat} {lb : Array Value} {encs : Nat → Array Value} {R : World → Prop} {g : Operand} {ps : Array Tmp} {assign body : Code} {Q : Exit → Act → World → Prop} {a : Act} {w : World}
    (hg : a.eval g = .func (.func gf) #[] lb) (hit : Iter (m - 1) gf lb n encs R) (eg : ∀ args w, (callFunc gf args).run Try.prog w = .ok (.enter gf args) w) (hps : ∀ k, (encs k).size = ps.size)
    (I : Nat → World → Prop) (Ix : Code → World → Prop)
    (stI : ∀ k W W', I k W → Off (bkS w.heap.size) W W' → I k W') (stX : ∀ c W W', Ix c W → Off (bkS w.heap.size) W W' → Ix c W')
    (hat : ∀ k W, I k W → R W)
    (h0 : I 0 w) (a₁ : Nat → Act)
    (hassign : ∀ (l k : Nat) (W : World) (K : Act → World → Prop), K (a₁ k) W →
      assign.wpIn (Fence.wide.inRound l) (m - 1 - 1) Try.prog (Exit.then K (fun _ _ _ => False)) { tmps := (ps.zip (encs k)).foldl (fun t (p, v) => t.setIfInBounds p v) a.tmps, defers := [] } W)
    (hbody : ∀ (l k : Nat), k < n → ∀ (W : World), I k W → w.heap.size + 2 ≤ W.heap.size → body.wpIn (Fence.wide.inRound l) (m - 1 - 1) Try.prog (rpostI w.heap.size I Ix k W) (a₁ k) W)
    (hdone : ∀ W : World, I n W → W.heap[w.heap.size]? = some (.deferred (some [])) → Q .normal { a with defers := { target := .collected w.heap.size, args := #[] } :: a.defers } W)
    (hstop : ∀ (c : Code) (W : World), Ix c W → W.heap[w.heap.size]? = some (.deferred (some [])) → c.wpIn Fence.wide m Try.prog Q { a with defers := { target := .collected w.heap.size, args := #[] } :: a.defers } W) :
    (Code.rangeFunc g ps assign body).wpIn Fence.wide m Try.prog Q a w := by
  refine wpIn_rangeFunc ?_
  intro fn _
  let rec0 : LoopState → Option Code → Loop := fun st pe => { state := st, pending := pe, fn, tmps := a.tmps, params := ps, assign, body, defers := w.heap.size }
  let D := w.heap.size
  let W1 := (w.alloc (.deferred (some []))).alloc (.loop (rec0 .ready none))
  have hz1 : W1.heap.size = D + 2 := by simp [W1, D]
  have hL1 : W1.heap[D + 1]? = some (.loop (rec0 .ready none)) := by
    have := World.alloc_heap_new (w.alloc (.deferred (some []))) (.loop (rec0 .ready none))
    rwa [World.size_alloc] at this
  have hD1 : W1.heap[D]? = some (.deferred (some [])) := (Below.heap_alloc _ _ _ (by simp [D])).trans (World.alloc_heap_new w _)
  have hB1 : Below w.heap.size w W1 := kp_alloc (kp_new w _) _
  have hI1 : I 0 W1 := stI 0 w W1 h0 (Off.of _ hB1)
  refine ⟨D + 1, [{ target := .collected D, args := #[] }], W1, { target := .fn (.func gf) lb, args := #[.func (.yield (D + 1)) #[] #[]] }, W1, gf,
    #[.func (.yield (D + 1)) #[] #[]] ++ lb, W1, run_enterLoop_outer _ _ _ _ _, ?_, fun _ _ => trivial, ?_, (fun h => by cases h), ?_⟩
  · simp only [resolve, hg]
    simp [go_sem]
  · simp [invoke, go_sem, eg]
  · refine (hit (D + 1) (fun k W => I k W ∧ W.heap[D + 1]? = some (.loop (rec0 .ready none)) ∧ W.heap[D]? = some (.deferred (some [])) ∧ D + 2 ≤ W.heap.size)
      (fun W => ∃ c, Ix c W ∧ W.heap[D + 1]? = some (.loop (rec0 .done (some c))) ∧ W.heap[D]? = some (.deferred (some []))) ?_ (fun k W h => hat k W h.1) W1 ⟨hI1, hL1, hD1, by omega⟩).mono ?_
    · rintro k hk W ⟨hi, hr, hd, hz⟩
      have hlt : D + 1 < W.heap.size := by omega
      have hy := run_yield (P := Try.prog) (args := encs k) hr (by simpa [rec0] using hps k)
      simp only [rec0] at hy
      refine ⟨fn, _, assign, body, hy, roundIn_of_wpIn trivial (hassign (D + 1) k W _ ?_)⟩
      refine ⟨_, run_beginRound hr rfl, ?_⟩
      have hr2 := World.putObj_heap_same (w := W) (o := .loop { rec0 .ready none with state := .busy }) hlt
      have hd2 : (W.putObj (D + 1) (.loop { rec0 .ready none with state := .busy })).heap[D]? = some (.deferred (some [])) := (World.putObj_heap_other (by omega)).trans hd
      refine wpIn_mono (hbody _ k hk _ (stI k _ _ hi (off_putObj W _ (.inr rfl))) (by rw [World.putObj_size]; exact hz)) ?_
      rintro e a3 W3 hp
      have key : ∀ jump, (∀ j, bkS D j → W3.heap[j]? = (W.putObj (D + 1) (.loop { rec0 .ready none with state := .busy })).heap[j]?) →
          (Instr.endRound (D + 1) jump).run Try.prog W3 = .ok (.bool jump.isNone) (W3.putObj (D + 1) (.loop (rec0 (if jump.isNone then .ready else .done) jump))) ∧
          (W3.putObj (D + 1) (.loop (rec0 (if jump.isNone then .ready else .done) jump))).heap[D + 1]? = some (.loop (rec0 (if jump.isNone then .ready else .done) jump)) ∧
          (W3.putObj (D + 1) (.loop (rec0 (if jump.isNone then .ready else .done) jump))).heap[D]? = some (.deferred (some [])) ∧ D + 2 ≤ W3.heap.size := fun jump hj => by
        have h3 := (hj (D + 1) (.inr rfl)).trans hr2
        have h4 := (hj D (.inl rfl)).trans hd2
        have h5 := (Array.getElem?_eq_some_iff.1 h3).1
        exact ⟨run_endRound jump h3, World.putObj_heap_same h5, (World.putObj_heap_other (by omega)).trans h4, by omega⟩
      cases e with
      | normal =>
        obtain ⟨hi3, hj⟩ := hp
        obtain ⟨k1, k2, k3, k4⟩ := key none hj
        exact ⟨_, _, k1, .inl ⟨rfl, stI _ _ _ hi3 (off_putObj W3 _ (.inr rfl)), k2, k3, by simpa using k4⟩⟩
      | ret =>
        obtain ⟨hi3, hj⟩ := hp
        obtain ⟨k1, k2, k3, k4⟩ := key (some .ret) hj
        exact ⟨_, _, k1, .inr ⟨rfl, .ret, stX _ _ _ hi3 (off_putObj W3 _ (.inr rfl)), k2, k3⟩⟩
      | exit id =>
        obtain ⟨hi3, hj⟩ := hp
        obtain ⟨k1, k2, k3, k4⟩ := key (some (.exit id)) hj
        exact ⟨_, _, k1, .inr ⟨rfl, .exit id, stX _ _ _ hi3 (off_putObj W3 _ (.inr rfl)), k2, k3⟩⟩
      | goto t =>
        obtain ⟨hi3, hj⟩ := hp
        obtain ⟨k1, k2, k3, k4⟩ := key (some (.goto t)) hj
        exact ⟨_, _, k1, .inr ⟨rfl, .goto t, stX _ _ _ hi3 (off_putObj W3 _ (.inr rfl)), k2, k3⟩⟩
      | panic ch => exact hp.elim
      | outgrown => exact hp.elim
    · rintro e W2 ⟨⟨v, rfl⟩, (⟨hi, hr, hd, _⟩ | ⟨c, hi, hr, hd⟩)⟩
      · exact ⟨none, _, run_endLoop hr (by simp [rec0]), hdone _ (stI _ _ _ hi (off_putObj W2 _ (.inr rfl))) ((World.putObj_heap_other (by simp [D])).trans hd)⟩
      · exact ⟨some c, _, run_endLoop hr (by simp [rec0]), hstop c _ (stX _ _ _ hi (off_putObj W2 _ (.inr rfl))) ((World.putObj_heap_other (by simp [D])).trans hd)⟩
end Go.Proofs.Ytbnelkjcmfjlbaa
