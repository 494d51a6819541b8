/-
  What Read of package frame does: contract.
-/
import Derived.Test.YtmklmakcampbbaaDoorFrameA
import Derived.Laws.ResultCell
namespace Go.Proofs.YtmklmakcampbbaaDoor
open Go.RowKit
set_option maxRecDepth 100000

theorem results_cell_tmp2 {fn : Func} {p u x : Tmp} {ty : TypeId} (h : fn.results = #[.cell p ty, .tmp u, .tmp x]) (tmps : Array Value) (P : Program) (w : World) :
    (results fn tmps).run P w =
      ((asAddr (tmps.getD p undef)).run P w).andThen fun a w₁ => ((loadVar ty a).run P w₁).andThen fun v w₂ => .ok (.tuple #[v, tmps.getD u undef, tmps.getD x undef]) w₂ := by
  simp only [results, h]
  simp [Sem.run_bind, Result.andThen]

/-- a block of two cells, and what is known of it -/
theorem two_cells {w : World} {b : Nat} {x y : Value} {t : TypeId} (h : w.heap[b]? = some (.cells #[x, y] t (0, 0))) :
    w.cell? ⟨b, 0, none⟩ = some x ∧ w.cell? ⟨b, 1, none⟩ = some y ∧ w.frozen? ⟨b, 0, none⟩ = false ∧ w.frozen? ⟨b, 1, none⟩ = false := by
  refine ⟨?_, ?_, ?_, ?_⟩
  · rw [cell_of_row _ _ 0 #[x, y] t (0, 0) h]; rfl
  · rw [cell_of_row _ _ 1 #[x, y] t (0, 0) h]; rfl
  · simp [World.frozen?, h]
  · simp [World.frozen?, h]

theorem Ow.setCell {w : World} {base : Nat} {A : Option Addr} {l c : Nat} {bs : List UInt8} (h : Ow w base A l c bs) {a : Addr} (ha : a.block < base) (u : Value) : Ow (w.setCell a u) base A l c bs := ⟨ownsRow_setCell_below h.own ha u, h.len, h.cap, h.most⟩

theorem two_new {w w1 : World} {x y : Value} {t : TypeId} (hb : Below (w.alloc (.cells #[x, y] t)).heap.size (w.alloc (.cells #[x, y] t)) w1) : w1.heap[w.heap.size]? = some (.cells #[x, y] t (0, 0)) := by
  rw [hb.block _ (by simp)]
  exact heap_alloc_new w _

set_option maxHeartbeats 400000 in
theorem read_few (A : Option Addr) (bs : List UInt8) (l c : Nat) (w : World) (hr : Sl w w.heap.size A l c bs) (hl : l < 2) :
    Calls Tryd.prog 50 #[.slice A l c] w fun e w' => e = .returned (.tuple #[frV 0 none 0 0, .int .i64 0, .int .i64 3]) ∧ Below w.heap.size w w' := by
  obtain ⟨A1, hsl, hr1⟩ := hr.cut0 Tryd.prog 26 Tryd.underlying26 u8size (j := l) l rfl (Nat.le_refl _)
  go_enter Tryd.func50, Tryd.ntmps50
  go_wp2_with fail
  refine (take_short _ _ _ 2 _ (by omega) (by omega) (by omega)).mono ?_
  rintro e w' ⟨rfl, rfl⟩
  go_wp2_with fail
  refine bodyPost_ret (v := .tuple #[frV 0 none 0 0, .int .i64 0, .int .i64 3]) ?_ rfl ⟨rfl, kp_new _ _⟩
  rw [results_cell_tmp2 rfl]
  unfold frV
  go_simp

set_option maxHeartbeats 400000 in
theorem read_count (A : Option Addr) (bs : List UInt8) (l c : Nat) (w : World) (hr : Sl w w.heap.size A l c bs) (h2 : 2 ≤ l) (hl : l ≤ 900000) (n : Nat) (hn : Hid (val (bs.take 2) = n)) (x : Int) (hx : Hid ((if n = 0 then (2 : Int) else if 301 < n then 4 else 0) = x)) (hx0 : x ≠ 0) :
    Calls Tryd.prog 50 #[.slice A l c] w fun e w' => e = .returned (.tuple #[frV 0 none 0 0, .int .i64 0, .int .i64 x]) ∧ Below w.heap.size w w' := by
  obtain ⟨A1, hsl, hr1⟩ := hr.cut0 Tryd.prog 26 Tryd.underlying26 u8size (j := 2) 2 rfl h2
  have hn' : Hid (val ((bs.take 2).take 2) = n) := Lib.hid (by rw [List.take_take]; exact hn.out)
  have ex : (x != 0) = true := by simpa using hx0
  go_enter Tryd.func50, Tryd.ntmps50
  go_wp2_with fail
  refine (take_ok _ _ 2 _ 2 _ (hr1.next (kp_new _ _)) (by omega) (by omega) (by omega) (by omega) n hn').mono ?_
  rintro e w1 ⟨A2, l2, rfl, hr2, hb1⟩
  obtain ⟨c0, c1, f0, f1⟩ := two_cells (two_new hb1)
  go_wp2_with (go_at_call 60; refine (wrongCount_any n _ x hx).mono ?_; rintro e w' ⟨rfl, rfl⟩)
  refine bodyPost_ret (v := .tuple #[frV 0 none 0 0, .int .i64 0, .int .i64 x]) ?_ rfl ⟨rfl, ?_⟩
  · rw [results_cell_tmp2 rfl]
    unfold frV
    go_simp
  · exact (((kp_new _ _).trans (hb1.mono (by simp))).setCell (Nat.le_refl _) _).setCell (Nat.le_refl _) _

theorem count_fine {n : Nat} (h0 : n ≠ 0) (h1 : n ≤ 301) : Hid ((if n = 0 then (2 : Int) else if 301 < n then 4 else 0) = 0) := Lib.hid (by rw [if_neg h0, if_neg (by omega)])

set_option maxHeartbeats 400000 in
theorem read_behind (A : Option Addr) (bs : List UInt8) (l c : Nat) (w : World) (hr : Sl w w.heap.size A l c bs) (h2 : 2 ≤ l) (hl : l ≤ 900000) (n : Nat) (hn : Hid (val (bs.take 2) = n)) (h0 : n ≠ 0) (h1 : n ≤ 301) (hs : l < 2 + n) :
    Calls Tryd.prog 50 #[.slice A l c] w fun e w' => e = .returned (.tuple #[frV 0 none 0 0, .int .i64 0, .int .i64 3]) ∧ Below w.heap.size w w' := by
  obtain ⟨A1, hsl, hr1⟩ := hr.cut0 Tryd.prog 26 Tryd.underlying26 u8size (j := 2) 2 rfl h2
  have hn' : Hid (val ((bs.take 2).take 2) = n) := Lib.hid (by rw [List.take_take]; exact hn.out)
  have hx := count_fine h0 h1
  go_enter Tryd.func50, Tryd.ntmps50
  go_wp2_with fail
  refine (take_ok _ _ 2 _ 2 _ (hr1.next (kp_new _ _)) (by omega) (by omega) (by omega) (by omega) n hn').mono ?_
  rintro e w1 ⟨A2, l2, rfl, hr2, hb1⟩
  obtain ⟨c0, c1, f0, f1⟩ := two_cells (two_new hb1)
  go_wp2_with (go_at_call 60; refine (wrongCount_any n _ 0 hx).mono ?_; rintro e w' ⟨rfl, rfl⟩)
  refine bodyPost_ret (v := .tuple #[frV 0 none 0 0, .int .i64 0, .int .i64 3]) ?_ rfl ⟨rfl, ?_⟩
  · rw [results_cell_tmp2 rfl]
    unfold frV
    go_simp
  · exact (((kp_new _ _).trans (hb1.mono (by simp))).setCell (Nat.le_refl _) _).setCell (Nat.le_refl _) _

set_option maxHeartbeats 400000 in
theorem read_kind (A : Option Addr) (bs : List UInt8) (l c : Nat) (w : World) (hr : Sl w w.heap.size A l c bs) (h2 : 2 ≤ l) (hl : l ≤ 900000) (n : Nat) (hn : Hid (val (bs.take 2) = n)) (h0 : n ≠ 0) (h1 : n ≤ 301) (hs : 2 + n ≤ l) (hk : bs[2]? = some 0) :
    Calls Tryd.prog 50 #[.slice A l c] w fun e w' => e = .returned (.tuple #[frV 0 none 0 0, .int .i64 0, .int .i64 2]) ∧ Below w.heap.size w w' := by
  obtain ⟨A1, hsl, hr1⟩ := hr.cut0 Tryd.prog 26 Tryd.underlying26 u8size (j := 2) 2 rfl h2
  obtain ⟨A3, hsl3, hr3⟩ := hr.cut2 Tryd.prog 26 Tryd.underlying26 u8size (i := 3) (j := 2 + n) 3 (2 + n) rfl (by omega) (by omega) hs
  have hn' : Hid (val ((bs.take 2).take 2) = n) := Lib.hid (by rw [List.take_take]; exact hn.out)
  have hx := count_fine h0 h1
  obtain ⟨ad, rfl, hbl, hc⟩ := hr.rd.at_ (k := 2) (by rw [bvs_length, hr.len]; omega)
  have hcell : w.cell? (ad.add 2) = some (.int .u8 0) := by
    rw [hc]
    obtain ⟨h3, h4⟩ := List.getElem?_eq_some_iff.1 hk
    simp [bvs, bv, h4]
  clear hc hk
  go_enter Tryd.func50, Tryd.ntmps50
  go_wp2_with fail
  refine (take_ok _ _ 2 _ 2 _ (hr1.next (kp_new _ _)) (by omega) (by omega) (by omega) (by omega) n hn').mono ?_
  rintro e w1 ⟨A2, l2, rfl, hr2, hb1⟩
  obtain ⟨c0, c1, f0, f1⟩ := two_cells (two_new hb1)
  have hcell1 : w1.cell? ⟨ad.block, ad.off + 2, none⟩ = some (.int .u8 0) := by
    rw [((kp_new w _).trans (hb1.mono (by simp))).cell (by exact hbl)]
    exact hcell
  have hb2 : (2 : Int) < (l : Int) := by omega
  go_wp2_with (go_at_call 60; refine (wrongCount_any n _ 0 hx).mono ?_; rintro e w' ⟨rfl, rfl⟩)
  go_region
  go_wp2_with fail
  refine bodyPost_ret (v := .tuple #[frV 0 none 0 0, .int .i64 0, .int .i64 2]) ?_ rfl ⟨rfl, ?_⟩
  · rw [results_cell_tmp2 rfl]
    unfold frV
    go_simp
  · exact ((((kp_new _ _).trans (hb1.mono (by simp))).setCell (Nat.le_refl _) _).setCell (Nat.le_refl _) _).drew

set_option maxHeartbeats 400000 in
theorem read_fine (A : Option Addr) (bs : List UInt8) (l c : Nat) (w : World) (hr : Sl w w.heap.size A l c bs) (h2 : 2 ≤ l) (hl : l ≤ 900000) (n : Nat) (hn : Hid (val (bs.take 2) = n)) (h0 : n ≠ 0) (h1 : n ≤ 301) (hs : 2 + n ≤ l) (k : UInt8) (hk : bs[2]? = some k) (hk0 : k ≠ 0) :
    Calls Tryd.prog 50 #[.slice A l c] w fun e w' => ∃ A' l' c', e = .returned (.tuple #[frV k A' l' c', .int .i64 (2 + (n : Int)), .int .i64 0]) ∧ Ow w' w.heap.size A' l' c' ((bs.take (2 + n)).drop 3) ∧ Below w.heap.size w w' := by
  obtain ⟨A1, hsl, hr1⟩ := hr.cut0 Tryd.prog 26 Tryd.underlying26 u8size (j := 2) 2 rfl h2
  obtain ⟨A3, hsl3, hr3⟩ := hr.cut2 Tryd.prog 26 Tryd.underlying26 u8size (i := 3) (j := 2 + n) 3 (2 + n) rfl (by omega) (by omega) hs
  have hn' : Hid (val ((bs.take 2).take 2) = n) := Lib.hid (by rw [List.take_take]; exact hn.out)
  have hx := count_fine h0 h1
  obtain ⟨ad, rfl, hbl, hc⟩ := hr.rd.at_ (k := 2) (by rw [bvs_length, hr.len]; omega)
  have hcell : w.cell? (ad.add 2) = some (.int .u8 (k.toNat : Int)) := by
    rw [hc]
    obtain ⟨h3, h4⟩ := List.getElem?_eq_some_iff.1 hk
    simp [bvs, bv, h4]
  have hkk : ((k.toNat : Int) == 0) = false := by
    have : k.toNat ≠ 0 := fun e => hk0 (UInt8.toNat_inj.1 e)
    simp; omega
  clear hc hk hk0
  go_enter Tryd.func50, Tryd.ntmps50
  go_wp2_with fail
  refine (take_ok _ _ 2 _ 2 _ (hr1.next (kp_new _ _)) (by omega) (by omega) (by omega) (by omega) n hn').mono ?_
  rintro e w1 ⟨A2, l2, rfl, hr2, hb1⟩
  have k1 : Below w.heap.size w w1 := (kp_new w _).trans (hb1.mono (by simp))
  obtain ⟨c0, c1, f0, f1⟩ := two_cells (two_new hb1)
  have hcell1 : w1.cell? ⟨ad.block, ad.off + 2, none⟩ = some (.int .u8 (k.toNat : Int)) := by
    rw [k1.cell (by exact hbl)]
    exact hcell
  have hb2 : (2 : Int) < (l : Int) := by omega
  go_wp2_with (go_at_call 60; refine (wrongCount_any n _ 0 hx).mono ?_; rintro e w' ⟨rfl, rfl⟩)
  go_region
  go_wp2_with fail
  refine (fown_any _ _ _ _ _ (hr3.next k1).drew (by omega)).mono ?_
  rintro e w4 ⟨A4, c4, rfl, ho4, hb4⟩
  have hb4' : Below w1.heap.size w1 w4 := kp_trans (kp_drewN w1 1) hb4
  have hlt : w.heap.size < w1.heap.size := by have := hb1.size; simp at this; omega
  obtain ⟨d0, d1, g0, g1⟩ := two_cells ((hb4'.block _ (by have := hb1.size; simp at this; omega)).trans (two_new hb1))
  go_wp2_with fail
  refine bodyPost_ret (v := .tuple #[frV k A4 (2 + n - 3) c4, .int .i64 (2 + (n : Int)), .int .i64 0]) ?_ rfl ⟨A4, 2 + n - 3, c4, rfl, ?_, ?_⟩
  · rw [results_cell_tmp2 rfl]
    unfold frV
    go_simp
  · exact ((ho4.setCell hlt _).setCell hlt _).base k1.size
  · exact (((kp_trans k1 hb4')).setCell (Nat.le_refl _) _).setCell (Nat.le_refl _) _

/-- one answer of Read, of the code and of the document: Kind, Body, how many bytes, the error -/
def AnsF (f : FuncId) (args : Array Value) (w : World) (r : UInt8 × List UInt8 × Nat × Int) : Prop :=
  Calls Tryd.prog f args w fun e w' => ∃ A' l' c', e = .returned (.tuple #[frV r.1 A' l' c', .int .i64 (r.2.2.1 : Int), .int .i64 r.2.2.2]) ∧ Ow w' w.heap.size A' l' c' r.2.1 ∧ Below w.heap.size w w'

theorem read_any (A : Option Addr) (bs : List UInt8) (l c : Nat) (w : World) (hr : Sl w w.heap.size A l c bs) (hl : l ≤ 900000) : AnsF 50 #[.slice A l c] w (readF bs) := by
  have hlen := hr.len
  unfold readF
  by_cases h2 : bs.length < 2
  · rw [if_pos h2]
    exact (read_few A bs l c w hr (by omega)).mono fun e w' ⟨he, hb⟩ => ⟨none, 0, 0, he, Ow.nil _ _, hb⟩
  rw [if_neg h2]
  by_cases h0 : val (bs.take 2) = 0
  · rw [if_pos h0]
    exact (read_count A bs l c w hr (by omega) hl 0 (Lib.hid h0) 2 (Lib.hid rfl) (by decide)).mono fun e w' ⟨he, hb⟩ => ⟨none, 0, 0, he, Ow.nil _ _, hb⟩
  rw [if_neg h0]
  by_cases h1 : 301 < val (bs.take 2)
  · rw [if_pos h1]
    exact (read_count A bs l c w hr (by omega) hl _ (Lib.hid rfl) 4 (Lib.hid (by rw [if_neg h0, if_pos h1])) (by decide)).mono fun e w' ⟨he, hb⟩ => ⟨none, 0, 0, he, Ow.nil _ _, hb⟩
  rw [if_neg h1]
  by_cases hs : bs.length < 2 + val (bs.take 2)
  · rw [if_pos hs]
    exact (read_behind A bs l c w hr (by omega) hl _ (Lib.hid rfl) h0 (by omega) (by omega)).mono fun e w' ⟨he, hb⟩ => ⟨none, 0, 0, he, Ow.nil _ _, hb⟩
  rw [if_neg hs]
  have hg : bs[2]? = some (bs.getD 2 0) := by rw [List.getD_eq_getElem?_getD, List.getElem?_eq_getElem (by omega)]; rfl
  by_cases hk : bs.getD 2 0 = 0
  · rw [if_pos hk]
    exact (read_kind A bs l c w hr (by omega) hl _ (Lib.hid rfl) h0 (by omega) (by omega) (by rw [hg, hk])).mono fun e w' ⟨he, hb⟩ => ⟨none, 0, 0, he, Ow.nil _ _, hb⟩
  rw [if_neg hk]
  exact (read_fine A bs l c w hr (by omega) hl _ (Lib.hid rfl) h0 (by omega) (by omega) _ hg hk).mono fun e w' ⟨A', l', c', he, ho, hb⟩ => ⟨A', l', c', by rw [he]; simp, ho, hb⟩
end Go.Proofs.YtmklmakcampbbaaDoor
