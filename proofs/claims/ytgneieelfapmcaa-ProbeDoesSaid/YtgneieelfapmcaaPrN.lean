/-
  The document's layer 13: New: contract.
-/
import Derived.Test.YtgneieelfapmcaaPrR
import Derived.Test.YtgneieelfapmcaaApp1
namespace Go.Proofs.Ytgneieelfapmcaa
open Go.RowKit
set_option maxRecDepth 100000

theorem u64info : (Try.prog.info? 22).map (fun i => (i.zero, i.size, i.bytes)) = some (some (.int .u64 0), 1, 8) := by kernel_rfl
/-- within New: three rows, one behind the other made longer -/
structure NwS (w0 : World) (r : Nat) (ev la : Int) (v0 v1 v2 : Value) (n0 n1 n2 : Nat) (x0 x1 x2 : List Int) (w : World) : Prop where
  top : w.heap[r]? = some (.cells #[v0, v1, v2, .int .u64 ev, .int .u64 la, .int .u64 0] 49 (0, 0))
  o0 : w.ownsRow 0 22 1 v0 n0 (uvs x0)
  o1 : w.ownsRow 0 22 1 v1 n1 (uvs x1)
  o2 : w.ownsRow 0 22 1 v2 n2 (uvs x2)
  f0 : ∀ g, v0.ownBlock = some g → w0.heap.size ≤ g
  f1 : ∀ g, v1.ownBlock = some g → w0.heap.size ≤ g
  f2 : ∀ g, v2.ownBlock = some g → w0.heap.size ≤ g
  a01 : ∀ g, v0.ownBlock = some g → v1.ownBlock ≠ some g
  a02 : ∀ g, v0.ownBlock = some g → v2.ownBlock ≠ some g
  a12 : ∀ g, v1.ownBlock = some g → v2.ownBlock ≠ some g
  low : Below w0.heap.size w0 w
  r0 : w0.heap.size ≤ r
section
variable {w0 w : World} {r : Nat} {ev la : Int} {v0 v1 v2 : Value} {n0 n1 n2 : Nat} {x0 x1 x2 : List Int}
theorem NwS.tops (h : NwS w0 r ev la v0 v1 v2 n0 n1 n2 x0 x1 x2 w) : w.cell? ⟨r, 0, none⟩ = some v0 ∧ w.cell? ⟨r, 1, none⟩ = some v1 ∧ w.cell? ⟨r, 2, none⟩ = some v2 ∧ w.frozen? ⟨r, 0, none⟩ = false ∧ w.frozen? ⟨r, 1, none⟩ = false ∧ w.frozen? ⟨r, 2, none⟩ = false :=
  ⟨(cellsAt h.top 0 rfl).1, (cellsAt h.top 1 rfl).1, (cellsAt h.top 2 rfl).1, (cellsAt h.top 0 (v := v0) rfl).2, (cellsAt h.top 1 (v := v1) rfl).2, (cellsAt h.top 2 (v := v2) rfl).2⟩
theorem NwS.step0 {A : Option Addr} {c : Nat} (h : NwS w0 r ev la (.slice A n0 c) v1 v2 n0 n1 n2 x0 x1 x2 w) (y : Int) (hn : n0 + 1 ≤ 1000) :
    ∃ A' c' w', (Builtin.append_ #[47, 47] 47 #[.slice A n0 c, .slice (some ⟨w.heap.size, 0, none⟩) 1 1]).run Try.prog (w.alloc (.cells #[.int .u64 y] 22)) = .ok (.slice A' (n0 + 1) c') w' ∧ w'.heap[r]? = w.heap[r]? ∧ r < w'.heap.size ∧
      NwS w0 r ev la (.slice A' (n0 + 1) c') v1 v2 (n0 + 1) n1 n2 (x0 ++ [y]) x1 x2 (w'.setCell ⟨r, 0, none⟩ (.slice A' (n0 + 1) c')) := by
  obtain ⟨i0, hi, hz0, hz1, hz2⟩ := info_parts u64info
  have hr := (Array.getElem?_eq_some_iff.1 h.top).1
  obtain ⟨A', c', w', h1, h2, h3, h4⟩ := run_append_one (P := Try.prog) 47 47 22 i0 _ 8 Try.underlying47 hi hz0 hz1 hz2 rfl (h.o0.alloc (.cells #[.int .u64 y] 22)) ⟨w.heap.size, 0, none⟩ 1 (.int .u64 y) (cellsAt (heap_alloc_new w _) 0 rfl).1 rfl hn (by omega)
  have hz : w.heap.size ≤ w'.heap.size := by have := h3.size; rw [World.size_alloc] at this; omega
  have hk0 : ∀ k, k < w.heap.size → (Value.slice A n0 c).ownBlock ≠ some k → w'.heap[k]? = w.heap[k]? := fun k hk he => (h3.block k (by rw [World.size_alloc]; omega) fun e => he e.symm).trans (heap_alloc_old _ _ hk)
  have hk : ∀ k, k < w.heap.size → (Value.slice A n0 c).ownBlock ≠ some k → k ≠ r → (w'.setCell ⟨r, 0, none⟩ (.slice A' (n0 + 1) c')).heap[k]? = w.heap[k]? := fun k hk he hkr => (set_other hkr).trans (hk0 k hk he)
  have hrt := hk0 r hr (own_type_ne h.o0 h.top (by decide))
  have hq : ∀ g, (Value.slice A' (n0 + 1) c').ownBlock = some g → (Value.slice A n0 c).ownBlock = some g ∨ w.heap.size ≤ g := fun g hg => by
    rcases h4 with e | ⟨g', e, hge⟩
    · exact .inl (e ▸ hg)
    · rw [e] at hg
      injection hg with hg
      rw [World.size_alloc] at hge
      exact .inr (by omega)
  have hxs : uvs x0 ++ [.int .u64 y] = uvs (x0 ++ [y]) := by simp [uvs]
  rw [hxs] at h2
  have hrs : ∀ g, (Value.slice A' (n0 + 1) c').ownBlock = some g → g ≠ r := fun g hg e => own_type_ne h2 (hrt.trans h.top) (by decide) (e ▸ hg)
  have hlow := h.low.size
  refine ⟨A', c', w', h1, hrt, Nat.lt_of_lt_of_le hr hz, ?_⟩
  refine ⟨heap_setCell_same w' r 0 _ _ _ (hrt.trans h.top), own_keep h2 fun g hg => set_other (hrs g hg), own_keep h.o1 fun g hg => hk g (h.o1.lt g hg).2 (fun e => h.a01 _ e hg) fun e => own_type_ne h.o1 h.top (by decide) (e ▸ hg), own_keep h.o2 fun g hg => hk g (h.o2.lt g hg).2 (fun e => h.a02 _ e hg) fun e => own_type_ne h.o2 h.top (by decide) (e ▸ hg), fun g hg => (hq g hg).elim (h.f0 g) fun e => by omega, h.f1, h.f2, fun g hg e => (hq g hg).elim (fun h2 => h.a01 g h2 e) fun h2 => by have := (h.o1.lt g e).2; omega, fun g hg e => (hq g hg).elim (fun h2 => h.a02 g h2 e) fun h2 => by have := (h.o2.lt g e).2; omega, h.a12, ?_, h.r0⟩
  have hb : Below w0.heap.size w w' := by
    refine ((kp_new w (.cells #[.int .u64 y] 22)).mono hlow).trans ((Below.refl _ _).grown h3 (by rw [World.size_alloc]; omega) fun k e => h.f0 k e)
  exact (h.low.trans hb).setCell (p := ⟨r, 0, none⟩) h.r0 _
theorem NwS.step1 {A : Option Addr} {c : Nat} (h : NwS w0 r ev la v0 (.slice A n1 c) v2 n0 n1 n2 x0 x1 x2 w) (y : Int) (hn : n1 + 1 ≤ 1000) :
    ∃ A' c' w', (Builtin.append_ #[47, 47] 47 #[.slice A n1 c, .slice (some ⟨w.heap.size, 0, none⟩) 1 1]).run Try.prog (w.alloc (.cells #[.int .u64 y] 22)) = .ok (.slice A' (n1 + 1) c') w' ∧ w'.heap[r]? = w.heap[r]? ∧ r < w'.heap.size ∧
      NwS w0 r ev la v0 (.slice A' (n1 + 1) c') v2 n0 (n1 + 1) n2 x0 (x1 ++ [y]) x2 (w'.setCell ⟨r, 1, none⟩ (.slice A' (n1 + 1) c')) := by
  obtain ⟨i0, hi, hz0, hz1, hz2⟩ := info_parts u64info
  have hr := (Array.getElem?_eq_some_iff.1 h.top).1
  obtain ⟨A', c', w', h1, h2, h3, h4⟩ := run_append_one (P := Try.prog) 47 47 22 i0 _ 8 Try.underlying47 hi hz0 hz1 hz2 rfl (h.o1.alloc (.cells #[.int .u64 y] 22)) ⟨w.heap.size, 0, none⟩ 1 (.int .u64 y) (cellsAt (heap_alloc_new w _) 0 rfl).1 rfl hn (by omega)
  have hz : w.heap.size ≤ w'.heap.size := by have := h3.size; rw [World.size_alloc] at this; omega
  have hk0 : ∀ k, k < w.heap.size → (Value.slice A n1 c).ownBlock ≠ some k → w'.heap[k]? = w.heap[k]? := fun k hk he => (h3.block k (by rw [World.size_alloc]; omega) fun e => he e.symm).trans (heap_alloc_old _ _ hk)
  have hk : ∀ k, k < w.heap.size → (Value.slice A n1 c).ownBlock ≠ some k → k ≠ r → (w'.setCell ⟨r, 1, none⟩ (.slice A' (n1 + 1) c')).heap[k]? = w.heap[k]? := fun k hk he hkr => (set_other hkr).trans (hk0 k hk he)
  have hrt := hk0 r hr (own_type_ne h.o1 h.top (by decide))
  have hq : ∀ g, (Value.slice A' (n1 + 1) c').ownBlock = some g → (Value.slice A n1 c).ownBlock = some g ∨ w.heap.size ≤ g := fun g hg => by
    rcases h4 with e | ⟨g', e, hge⟩
    · exact .inl (e ▸ hg)
    · rw [e] at hg
      injection hg with hg
      rw [World.size_alloc] at hge
      exact .inr (by omega)
  have hxs : uvs x1 ++ [.int .u64 y] = uvs (x1 ++ [y]) := by simp [uvs]
  rw [hxs] at h2
  have hrs : ∀ g, (Value.slice A' (n1 + 1) c').ownBlock = some g → g ≠ r := fun g hg e => own_type_ne h2 (hrt.trans h.top) (by decide) (e ▸ hg)
  have hlow := h.low.size
  refine ⟨A', c', w', h1, hrt, Nat.lt_of_lt_of_le hr hz, ?_⟩
  refine ⟨heap_setCell_same w' r 1 _ _ _ (hrt.trans h.top), own_keep h.o0 fun g hg => hk g (h.o0.lt g hg).2 (fun e => h.a01 _ hg e) fun e => own_type_ne h.o0 h.top (by decide) (e ▸ hg), own_keep h2 fun g hg => set_other (hrs g hg), own_keep h.o2 fun g hg => hk g (h.o2.lt g hg).2 (fun e => h.a12 _ e hg) fun e => own_type_ne h.o2 h.top (by decide) (e ▸ hg), h.f0, fun g hg => (hq g hg).elim (h.f1 g) fun e => by omega, h.f2, fun g hg e => (hq g e).elim (fun h2 => h.a01 g hg h2) fun h2 => by have := (h.o0.lt g hg).2; omega, h.a02, fun g hg e => (hq g hg).elim (fun h2 => h.a12 g h2 e) fun h2 => by have := (h.o2.lt g e).2; omega, ?_, h.r0⟩
  have hb : Below w0.heap.size w w' := by
    refine ((kp_new w (.cells #[.int .u64 y] 22)).mono hlow).trans ((Below.refl _ _).grown h3 (by rw [World.size_alloc]; omega) fun k e => h.f1 k e)
  exact (h.low.trans hb).setCell (p := ⟨r, 1, none⟩) h.r0 _
theorem NwS.step2 {A : Option Addr} {c : Nat} (h : NwS w0 r ev la v0 v1 (.slice A n2 c) n0 n1 n2 x0 x1 x2 w) (y : Int) (hn : n2 + 1 ≤ 1000) :
    ∃ A' c' w', (Builtin.append_ #[47, 47] 47 #[.slice A n2 c, .slice (some ⟨w.heap.size, 0, none⟩) 1 1]).run Try.prog (w.alloc (.cells #[.int .u64 y] 22)) = .ok (.slice A' (n2 + 1) c') w' ∧ w'.heap[r]? = w.heap[r]? ∧ r < w'.heap.size ∧
      NwS w0 r ev la v0 v1 (.slice A' (n2 + 1) c') n0 n1 (n2 + 1) x0 x1 (x2 ++ [y]) (w'.setCell ⟨r, 2, none⟩ (.slice A' (n2 + 1) c')) := by
  obtain ⟨i0, hi, hz0, hz1, hz2⟩ := info_parts u64info
  have hr := (Array.getElem?_eq_some_iff.1 h.top).1
  obtain ⟨A', c', w', h1, h2, h3, h4⟩ := run_append_one (P := Try.prog) 47 47 22 i0 _ 8 Try.underlying47 hi hz0 hz1 hz2 rfl (h.o2.alloc (.cells #[.int .u64 y] 22)) ⟨w.heap.size, 0, none⟩ 1 (.int .u64 y) (cellsAt (heap_alloc_new w _) 0 rfl).1 rfl hn (by omega)
  have hz : w.heap.size ≤ w'.heap.size := by have := h3.size; rw [World.size_alloc] at this; omega
  have hk0 : ∀ k, k < w.heap.size → (Value.slice A n2 c).ownBlock ≠ some k → w'.heap[k]? = w.heap[k]? := fun k hk he => (h3.block k (by rw [World.size_alloc]; omega) fun e => he e.symm).trans (heap_alloc_old _ _ hk)
  have hk : ∀ k, k < w.heap.size → (Value.slice A n2 c).ownBlock ≠ some k → k ≠ r → (w'.setCell ⟨r, 2, none⟩ (.slice A' (n2 + 1) c')).heap[k]? = w.heap[k]? := fun k hk he hkr => (set_other hkr).trans (hk0 k hk he)
  have hrt := hk0 r hr (own_type_ne h.o2 h.top (by decide))
  have hq : ∀ g, (Value.slice A' (n2 + 1) c').ownBlock = some g → (Value.slice A n2 c).ownBlock = some g ∨ w.heap.size ≤ g := fun g hg => by
    rcases h4 with e | ⟨g', e, hge⟩
    · exact .inl (e ▸ hg)
    · rw [e] at hg
      injection hg with hg
      rw [World.size_alloc] at hge
      exact .inr (by omega)
  have hxs : uvs x2 ++ [.int .u64 y] = uvs (x2 ++ [y]) := by simp [uvs]
  rw [hxs] at h2
  have hrs : ∀ g, (Value.slice A' (n2 + 1) c').ownBlock = some g → g ≠ r := fun g hg e => own_type_ne h2 (hrt.trans h.top) (by decide) (e ▸ hg)
  have hlow := h.low.size
  refine ⟨A', c', w', h1, hrt, Nat.lt_of_lt_of_le hr hz, ?_⟩
  refine ⟨heap_setCell_same w' r 2 _ _ _ (hrt.trans h.top), own_keep h.o0 fun g hg => hk g (h.o0.lt g hg).2 (fun e => h.a02 _ hg e) fun e => own_type_ne h.o0 h.top (by decide) (e ▸ hg), own_keep h.o1 fun g hg => hk g (h.o1.lt g hg).2 (fun e => h.a12 _ hg e) fun e => own_type_ne h.o1 h.top (by decide) (e ▸ hg), own_keep h2 fun g hg => set_other (hrs g hg), h.f0, h.f1, fun g hg => (hq g hg).elim (h.f2 g) fun e => by omega, h.a01, fun g hg e => (hq g e).elim (fun h2 => h.a02 g hg h2) fun h2 => by have := (h.o0.lt g hg).2; omega, fun g hg e => (hq g e).elim (fun h2 => h.a12 g hg h2) fun h2 => by have := (h.o1.lt g hg).2; omega, ?_, h.r0⟩
  have hb : Below w0.heap.size w w' := by
    refine ((kp_new w (.cells #[.int .u64 y] 22)).mono hlow).trans ((Below.refl _ _).grown h3 (by rw [World.size_alloc]; omega) fun k e => h.f2 k e)
  exact (h.low.trans hb).setCell (p := ⟨r, 2, none⟩) h.r0 _
theorem NwS.next {w' : World} (h : NwS w0 r ev la v0 v1 v2 n0 n1 n2 x0 x1 x2 w) (hb : Below w.heap.size w w') : NwS w0 r ev la v0 v1 v2 n0 n1 n2 x0 x1 x2 w' :=
  { h with
    top := (hb.block r (Array.getElem?_eq_some_iff.1 h.top).1).trans h.top
    o0 := own_below_s h.o0 hb (Nat.le_refl _)
    o1 := own_below_s h.o1 hb (Nat.le_refl _)
    o2 := own_below_s h.o2 hb (Nat.le_refl _)
    low := h.low.trans (hb.mono h.low.size) }
/-- when it is made -/
theorem NwS.done {D O A : Option Addr} {d o a n : Nat} {p : Pb} (h : NwS w0 r ev la (.slice D n d) (.slice O n o) (.slice A n a) n n n x0 x1 x2 w) (hn : p.l.length = n) (h1 : 1 ≤ n) (he : p.ev = ev) (hla : p.la = la) (hl : p.last = 0) (h0 : p.l.map Nw.d = x0) (h2 : p.l.map Nw.o = x1) (h3 : p.l.map Nw.a = x2) :
    (RPb r p).p (fun k => w0.heap.size ≤ k ∧ k < w.heap.size) w := by
  have hs : ∀ {B : Option Addr} {c : Nat} {xs : List Int}, w.ownsRow 0 22 1 (.slice B n c) n (uvs xs) → ∃ g, B = some ⟨g, 0, none⟩ ∧ g < w.heap.size := fun {B c xs} ho => by
    rcases ho.2 with ⟨e, e2⟩ | ⟨g, cap, cur, e, _, hg, _⟩
    · omega
    · injection e with e _ _
      exact ⟨g, e, (Array.getElem?_eq_some_iff.1 hg).1⟩
  obtain ⟨gd, rfl, q1⟩ := hs h.o0
  obtain ⟨go, rfl, q2⟩ := hs h.o1
  obtain ⟨ga, rfl, q3⟩ := hs h.o2
  have hr := (Array.getElem?_eq_some_iff.1 h.top).1
  refine ⟨⟨gd, d, go, o, ga, a⟩, ?_⟩
  rw [hn, he, hla, hl, h0, h2, h3]
  exact ⟨h.top, h.o0, h.o1, h.o2, fun e => h.a01 gd rfl (congrArg some e.symm), fun e => h.a12 go rfl (congrArg some e.symm), fun e => h.a02 gd rfl (congrArg some e.symm), fun e => own_type_ne h.o0 h.top (by decide) (congrArg some e.symm), fun e => own_type_ne h.o1 h.top (by decide) (congrArg some e.symm), fun e => own_type_ne h.o2 h.top (by decide) (congrArg some e.symm), ⟨h.r0, hr⟩, ⟨h.f0 gd rfl, q1⟩, ⟨h.f1 go rfl, q2⟩, ⟨h.f2 ga rfl, q3⟩, fun k hk => hk.2⟩
end
set_option maxHeartbeats 4000000 in
theorem rnew13_bad (n ev la : Int) (w : World) (h : ¬ newOk13 n ev la) :
    Calls Try.prog 9 #[.int .i64 n, .int .u64 ev, .int .u64 la] w fun e w' => e = .returned (.tuple #[.pointer none, .int .i64 1]) ∧ w = w' := by
  unfold newOk13 at h
  by_cases c1 : n < 1
  · clear h
    go_enter Try.func9, Try.ntmps9
    go_wp2_with fail
    go_ret2
    exact ⟨rfl, rfl⟩
  by_cases c2 : 6 < n
  · clear h
    go_enter Try.func9, Try.ntmps9
    go_wp2_with fail
    go_ret2
    exact ⟨rfl, rfl⟩
  by_cases c3 : ev < 1
  · clear h
    go_enter Try.func9, Try.ntmps9
    go_wp2_with fail
    go_ret2
    exact ⟨rfl, rfl⟩
  by_cases c4 : 1000 < ev
  · clear h
    go_enter Try.func9, Try.ntmps9
    go_wp2_with fail
    go_ret2
    exact ⟨rfl, rfl⟩
  by_cases c5 : la < 1
  · clear h
    go_enter Try.func9, Try.ntmps9
    go_wp2_with fail
    go_ret2
    exact ⟨rfl, rfl⟩
  have c6 : 1000 < la := by omega
  clear h
  go_enter Try.func9, Try.ntmps9
  go_wp2_with fail
  go_ret2
  exact ⟨rfl, rfl⟩
set_option maxHeartbeats 8000000 in
theorem rnew13_good (n ev la : Int) (w : World) (h : newOk13 n ev la) :
    Calls Try.prog 9 #[.int .i64 n, .int .u64 ev, .int .u64 la] w fun e w' => ∃ r, e = .returned (.tuple #[.pointer (some ⟨r, 0, none⟩), .int .i64 0]) ∧ (∃ S, (RPb r (newPb n ev la)).p S w' ∧ ∀ k, S k → w.heap.size ≤ k) ∧ Below w.heap.size w w' := by
  obtain ⟨g1, g2, g3, g4, g5, g6⟩ := h
  obtain ⟨m, rfl⟩ : ∃ m : Nat, n = m := ⟨n.toNat, by omega⟩
  have HS0 : Hid (NwS w w.heap.size ev la (.slice none 0 0) (.slice none 0 0) (.slice none 0 0) 0 0 0 ((List.range 0).map fun (j : Nat) => (j : Int)) (List.replicate 0 0) (List.replicate 0 0) (w.alloc (.cells #[.slice none 0 0, .slice none 0 0, .slice none 0 0, .int .u64 ev, .int .u64 la, .int .u64 0] 49))) := Lib.hid ⟨heap_alloc_new w _, World.ownsRow_nil _ _ _ _, World.ownsRow_nil _ _ _ _, World.ownsRow_nil _ _ _ _, (fun g e => by cases e), (fun g e => by cases e), (fun g e => by cases e), (fun g e => by cases e), (fun g e => by cases e), (fun g e => by cases e), kp_new w _, Nat.le_refl _⟩
  go_enter Try.func9, Try.ntmps9
  go_wp2_with fail
  obtain ⟨r, hr⟩ : ∃ r, w.heap.size = r := ⟨_, rfl⟩
  rw [hr] at HS0
  rw [hr]
  go_loopw [9] (fun i wr => ∃ (k d o a : Nat) (D O A : Option Addr), k ≤ m ∧ i = .int .i64 k ∧ Hid (NwS w r ev la (.slice D k d) (.slice O k o) (.slice A k a) k k k ((List.range k).map fun (j : Nat) => (j : Int)) (List.replicate k 0) (List.replicate k 0) wr)) (fun i _ => m - (intOf i).toNat)
  case atStart => exact ⟨0, 0, 0, 0, none, none, none, Nat.zero_le _, rfl, HS0⟩
  case round =>
    obtain ⟨k, d, o, a, D, O, A, hk, rfl, hs⟩ := hrel
    clear HS0
    by_cases hlt : k < m
    · have hlti : (k : Int) < (m : Int) := by omega
      have hwk : IntKind.u64.wrap (k : Int) = k := by rw [IntKind.wrap_u64]; omega
      obtain ⟨t0, _, _, f0, _, _⟩ := hs.out.tops
      have z0 := (Array.getElem?_eq_some_iff.1 hs.out.top).1
      obtain ⟨D1, d1, w1, r1, e1, y1, s1⟩ := hs.out.step0 k (by omega)
      have c1 := (cellsAt (e1.trans hs.out.top) 0 (v := .slice D k d) rfl)
      obtain ⟨_, t1, _, _, f1, _⟩ := s1.tops
      have z1 := (Array.getElem?_eq_some_iff.1 s1.top).1
      obtain ⟨O1, o1, w2, r2, e2, y2, s2⟩ := s1.step1 0 (by omega)
      have c2 := (cellsAt (e2.trans s1.top) 1 (v := .slice O k o) rfl)
      obtain ⟨_, _, t2, _, _, f2⟩ := s2.tops
      have z2 := (Array.getElem?_eq_some_iff.1 s2.top).1
      obtain ⟨A1, a1, w3, r3, e3, y3, s3⟩ := s2.step2 0 (by omega)
      have c3 := (cellsAt (e3.trans s2.top) 2 (v := .slice A k a) rfl)
      have HS3 := Lib.hid s3
      obtain ⟨c1a, c1b⟩ := c1
      obtain ⟨c2a, c2b⟩ := c2
      obtain ⟨c3a, c3b⟩ := c3
      rw [set_size] at r2 r3
      clear hs s1 s2 s3 e1 e2 e3
      go_wp2_with (first | (at_builtin; refine wpList_append_run rfl _ _ _ rfl _ _ rfl rfl r1 ?_) | (at_builtin; refine wpList_append_run rfl _ _ _ rfl _ _ rfl rfl r2 ?_) | (at_builtin; refine wpList_append_run rfl _ _ _ rfl _ _ rfl rfl r3 ?_))
      have e1 : (List.range k).map (fun (j : Nat) => (j : Int)) ++ [(k : Int)] = (List.range (k + 1)).map fun (j : Nat) => (j : Int) := by rw [List.range_succ]; simp
      have e2 : List.replicate k (0 : Int) ++ [0] = List.replicate (k + 1) 0 := by rw [List.replicate_succ']
      rw [e1, e2] at HS3
      go_roundw
      case rel => exact ⟨k + 1, d1, o1, a1, D1, O1, A1, by omega, by go_num, HS3⟩
      case measure => simp [intOf]; omega
    · obtain rfl : k = m := by omega
      have hz := (Array.getElem?_eq_some_iff.1 hs.out.top).1
      have HD := Lib.hid (hs.out.done (p := newPb k ev la) (by simp [newPb]) (by omega) rfl rfl rfl (by simp [newPb, Function.comp_def]) (List.ext_getElem (by simp [newPb]) fun i h1 h2 => by simp [newPb]) (List.ext_getElem (by simp [newPb]) fun i h1 h2 => by simp [newPb]))
      have HL := Lib.hid hs.out.low
      clear hs
      go_wp2_with fail
      go_ret2
      exact ⟨r, rfl, ⟨_, HD.out, fun k hk => hk.1⟩, HL.out⟩
end Go.Proofs.Ytgneieelfapmcaa
