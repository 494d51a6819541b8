/-
  Layer 13: the document's Answer; rows of acts; large: contracts.
-/
import Derived.Test.YtgneieelfapmcaaPrS
namespace Go.Proofs.Ytgneieelfapmcaa
open Go.RowKit
set_option maxRecDepth 100000

section
variable {r : Nat} {p : Pb} {S : Nat → Prop} {w : World}
theorem outP_at {p : Pb} {i : Int} (h0 : 0 ≤ i) (h : i.toNat < p.l.length) : outP p i = p.l[i.toNat].o := by
  unfold outP
  rw [if_pos ⟨h0, by omega⟩, List.getD_eq_getElem?_getD, List.getElem?_eq_getElem h]
  rfl
theorem dueP_at {p : Pb} {i : Int} (h0 : 0 ≤ i) (h : i.toNat < p.l.length) : dueP p i = p.l[i.toNat].d := by
  unfold dueP
  rw [if_pos ⟨h0, by omega⟩, List.getD_eq_getElem?_getD, List.getElem?_eq_getElem h]
  rfl
theorem outP_no {p : Pb} {i : Int} (h : ¬ (0 ≤ i ∧ i < p.l.length)) : outP p i = 0 := by unfold outP; rw [if_neg h]
theorem dueP_no {p : Pb} {i : Int} (h : ¬ (0 ≤ i ∧ i < p.l.length)) : dueP p i = 0 := by unfold dueP; rw [if_neg h]
theorem ansC_no {p : Pb} {i n : Int} (h : ansB p i n = false) : ansC p i n = p := by unfold ansC; rw [h]; rfl
set_option maxHeartbeats 8000000 in
theorem rans_ok (i n : Int) (h : (RPb r p).p S w) :
    Calls Try.prog 16 #[.pointer (some ⟨r, 0, none⟩), .int .i64 i, .int .u64 n] w fun e w' => e = .returned (.bool (ansB p i n)) ∧ Off S w w' ∧ (RPb r (ansC p i n)).p S w' := by
  obtain ⟨q, hx⟩ := h
  obtain ⟨t0, t1, t2, t3, t4, t5, _⟩ := hx.tops
  have HT := Lib.hid (show (RPb r p).p S w from ⟨q, hx⟩)
  obtain ⟨l1, l2, l3⟩ := hx.lens
  by_cases c1 : i < 0
  · have hb : ansB p i n = false := decide_eq_false fun ⟨h1, h2⟩ => by rw [outP_no (by omega)] at h2; exact h1 h2.symm
    rw [hb, ansC_no hb]
    clear hb hx
    go_enter Try.func16, Try.ntmps16
    go_wp2_with fail
    go_ret
    exact ⟨rfl, Off.refl _ _, HT.out⟩
  by_cases c2 : (p.l.length : Int) ≤ i
  · have hb : ansB p i n = false := decide_eq_false fun ⟨h1, h2⟩ => by rw [outP_no (by omega)] at h2; exact h1 h2.symm
    rw [hb, ansC_no hb]
    clear hb hx
    go_enter Try.func16, Try.ntmps16
    go_wp2_with fail
    go_ret
    exact ⟨rfl, Off.refl _ _, HT.out⟩
  obtain ⟨j, rfl⟩ : ∃ j : Nat, i = j := ⟨i.toNat, by omega⟩
  have hj : j < p.l.length := by omega
  have c2' : ¬ (p.l.length : Int) ≤ (j : Int) := c2
  by_cases c3 : n = 0
  · have hb : ansB p j n = false := decide_eq_false fun ⟨h1, _⟩ => h1 c3
    have c3' : (n == 0) = true := by simpa using c3
    rw [hb, ansC_no hb]
    clear hb hx c3
    go_enter Try.func16, Try.ntmps16
    go_wp2_with fail
    go_ret
    exact ⟨rfl, Off.refl _ _, HT.out⟩
  have c3' : (n == 0) = false := by simpa using c3
  obtain ⟨y0, y1⟩ := hx.oat (j := j) (by omega)
  rw [List.getElem_map] at y0
  have hjn : (j : Int) < (p.l.length : Int) := by omega
  have hoj : outP p j = p.l[j].o := outP_at (i := (j : Int)) (by omega) (by simpa using hj)
  by_cases c4 : p.l[j].o = n
  · have hb : ansB p j n = true := decide_eq_true ⟨c3, hoj.trans c4⟩
    have hc : ansC p j n = { p with l := p.l.set j { p.l[j] with o := 0 } } := by
      unfold ansC
      rw [hb]
      show { p with l := _ } = _
      congr 1
      refine List.ext_getElem (by simp) fun a h1 h2 => ?_
      rw [List.getElem_modify, List.getElem_set]
      by_cases e : j = a
      · subst e; rw [if_pos (by simp), if_pos rfl]
      · rw [if_neg (by simpa using e), if_neg e]
    have HF : Hid (Off S w (w.setCell ⟨q.go, j, none⟩ (.int .u64 0)) ∧ (RPb r (ansC p j n)).p S (w.setCell ⟨q.go, j, none⟩ (.int .u64 0))) := Lib.hid ⟨(Off.refl S w).setCell (.inl hx.so) _, by
      rw [hc]
      refine ⟨q, ?_⟩
      have h2 := hx.setO j 0
      simp only [List.length_set]
      rw [map_same (f := Nw.d) (y := { p.l[j] with o := 0 }) hj rfl, map_same (f := Nw.a) (y := { p.l[j] with o := 0 }) hj rfl, List.map_set]
      exact h2⟩
    rw [hb]
    rw [c4] at y0
    have c4' : (n != n) = false := by simp
    clear hb hx hc hoj c3 c4
    go_enter Try.func16, Try.ntmps16
    go_wp2_with fail
    go_ret
    exact ⟨rfl, HF.out⟩
  · have hb : ansB p j n = false := decide_eq_false fun ⟨_, h2⟩ => c4 (hoj ▸ h2)
    have c4' : (p.l[j].o != n) = true := by simpa using c4
    rw [hb, ansC_no hb]
    clear hb hx hoj c3 c4
    generalize p.l[j].o = x at *
    go_enter Try.func16, Try.ntmps16
    go_wp2_with fail
    go_ret
    exact ⟨rfl, Off.refl _ _, HT.out⟩
end
/-- an act: what is done, of which node, a number -/
structure Ac3 where
  d : Int
  x : Int
  y : Int
instance : Inhabited Ac3 := ⟨⟨0, 0, 0⟩⟩
def Ac3.cells (t : Ac3) : List Value := [.int .i64 t.d, .int .i64 t.x, .int .u64 t.y]
def acC (ts : List Ac3) : List Value := ts.flatMap Ac3.cells
theorem acC_length : ∀ ts : List Ac3, (acC ts).length = ts.length * 3
  | [] => rfl
  | r :: rs => by
    have := acC_length rs
    simp only [acC, List.flatMap_cons, List.length_append, List.length_cons, Ac3.cells, List.length_nil] at this ⊢
    omega
theorem acC_at : ∀ (rs : List Ac3) (j : Nat) (h : j < rs.length), (acC rs)[j * 3]? = some (.int .i64 rs[j].d) ∧ (acC rs)[j * 3 + 1]? = some (.int .i64 rs[j].x) ∧ (acC rs)[j * 3 + 2]? = some (.int .u64 rs[j].y)
  | [], _, h => by simp at h
  | r :: rs, 0, _ => by simp [acC, Ac3.cells]
  | r :: rs, j + 1, h => by
    have := acC_at rs j (by simpa using h)
    have e1 : (j + 1) * 3 = j * 3 + 3 := by omega
    simp only [acC, List.flatMap_cons] at this ⊢
    rw [e1]
    simpa [Ac3.cells] using this
/-- a row of acts that is read -/
structure AP (w : World) (A : Option Addr) (n : Nat) (ts : List Ac3) : Prop where
  len : ts.length = n
  rd : Rd w w.heap.size A (acC ts)
theorem AP.next {w w' : World} {A : Option Addr} {n : Nat} {ts : List Ac3} (h : AP w A n ts) (hb : Below w.heap.size w w') : AP w' A n ts := ⟨h.len, (h.rd.below hb (Nat.le_refl _)).more hb.size⟩
theorem AP.at_ {w : World} {A : Option Addr} {n : Nat} {ts : List Ac3} (h : AP w A n ts) {j : Nat} (hj : j < ts.length) : ∃ ad, A = some ad ∧ ad.block < w.heap.size ∧ ∀ w', Below w.heap.size w w' → w'.cell? (ad.add (j * 3)) = some (.int .i64 ts[j].d) ∧ w'.cell? ⟨(ad.add (j * 3)).block, (ad.add (j * 3)).off + 1, none⟩ = some (.int .i64 ts[j].x) ∧ w'.cell? ⟨(ad.add (j * 3)).block, (ad.add (j * 3)).off + 2, none⟩ = some (.int .u64 ts[j].y) := by
  obtain ⟨ad, hA, hb, hc⟩ := h.rd.addr (by rw [acC_length]; omega)
  have key : ∀ (w' : World) (i : Nat) (v : Value), Below w.heap.size w w' → (acC ts)[j * 3 + i]? = some v → w'.cell? (ad.add (j * 3 + i)) = some v := fun w' i v hw hv => by
    rw [hw.cell (by rw [add_block]; exact hb)]
    exact hc _ _ hv
  obtain ⟨e0, e1, e2⟩ := acC_at ts j hj
  have a1 : ∀ i, i ≠ 0 → (⟨(ad.add (j * 3)).block, (ad.add (j * 3)).off + i, none⟩ : Addr) = ad.add (j * 3 + i) := fun i hi => by rw [← add_add]; unfold Addr.add; simp [hi]
  refine ⟨ad, hA, hb, fun w' hw => ⟨key w' 0 _ hw e0, ?_, ?_⟩⟩
  · rw [a1 1 (by decide)]; exact key w' 1 _ hw e1
  · rw [a1 2 (by decide)]; exact key w' 2 _ hw e2
/-- acts that aren't more than are looked at -/
def fineA (ts : List Ac3) : Bool := decide (ts.length ≤ 200) && ts.all fun t => !(decide (t.d = 0 ∧ 1048576 < t.y))
theorem fineA_at {ts : List Ac3} : fineA ts = true ↔ ts.length ≤ 200 ∧ ∀ (j : Nat) (hj : j < ts.length), ¬ (ts[j].d = 0 ∧ 1048576 < ts[j].y) := by
  unfold fineA
  rw [Bool.and_eq_true, decide_eq_true_iff, List.all_eq_true]
  constructor
  · rintro ⟨h1, h2⟩
    exact ⟨h1, fun j hj => by
      have := h2 _ (List.getElem_mem hj)
      rw [Bool.not_eq_true', decide_eq_false_iff_not] at this
      exact this⟩
  · rintro ⟨h1, h2⟩
    refine ⟨h1, fun t ht => ?_⟩
    obtain ⟨j, hj, rfl⟩ := List.getElem_of_mem ht
    rw [Bool.not_eq_true', decide_eq_false_iff_not]
    exact h2 j hj
set_option maxHeartbeats 8000000 in
theorem llarge_ok (A : Option Addr) (n c : Nat) (ts : List Ac3) (w : World) (hx : AP w A n ts) (bo : Bool) (hbo : Hid ((!fineA ts) = bo)) :
    Calls Try.prog 7 #[.slice A n c] w fun e w' => e = .returned (.bool bo) ∧ Below w.heap.size w w' := by
  have HX := Lib.hid hx
  have HL := Lib.hid hx.len
  by_cases hbig : 200 < n
  · have hb : bo = true := by
      rw [← hbo.out, Bool.not_eq_true', Bool.eq_false_iff]
      intro h
      have := (fineA_at.1 h).1
      have := hx.len
      omega
    subst hb
    have h2 : (200 : Int) < (n : Int) := by omega
    clear hx
    go_enter Try.func7, Try.ntmps7
    go_wp2_with fail
    go_ret
    exact ⟨rfl, Below.refl _ _⟩
  have h2 : ¬ (200 : Int) < (n : Int) := by omega
  clear hx
  go_enter Try.func7, Try.ntmps7
  go_wp2_with fail
  go_loopw [10] (fun i wr => ∃ q : Nat, q ≤ n ∧ i = .int .i64 q ∧ Hid (∀ j (hj : j < ts.length), j < q → ¬ (ts[j].d = 0 ∧ 1048576 < ts[j].y)) ∧ Hid (Below w.heap.size w wr)) (fun i _ => n - (intOf i).toNat)
  case atStart => exact ⟨0, Nat.zero_le _, rfl, Lib.hid (fun j _ h => absurd h (Nat.not_lt_zero _)), Lib.hid (Below.refl _ _)⟩
  case round =>
    obtain ⟨q, hq, rfl, he, hw⟩ := hrel
    by_cases hlt : q < n
    · have hql : q < ts.length := by rw [HL.out]; exact hlt
      obtain ⟨ad, rfl, _, hc⟩ := HX.out.at_ hql
      obtain ⟨d1, d2, d3⟩ := hc wr hw.out
      clear hc
      have HKW := Lib.hid (kp_alloc hw.out (.cells #[.int .i64 ts[q].d, .int .i64 ts[q].x, .int .u64 ts[q].y] 34))
      by_cases hxy : ts[q].d = 0 ∧ 1048576 < ts[q].y
      · have hb : bo = true := by
          rw [← hbo.out, Bool.not_eq_true', Bool.eq_false_iff]
          intro h
          exact (fineA_at.1 h).2 q hql hxy
        subst hb
        obtain ⟨h3, h4⟩ := hxy
        have h3' : (ts[q].d == 0) = true := by simpa using h3
        clear he h3
        generalize ts[q].d = x1 at *
        generalize ts[q].x = x2 at *
        generalize ts[q].y = x3 at *
        go_wp2_with fail
        go_ret
        exact ⟨rfl, HKW.out⟩
      · have he2 : Hid (∀ j (hj : j < ts.length), j < q + 1 → ¬ (ts[j].d = 0 ∧ 1048576 < ts[j].y)) := Lib.hid fun j hj hjq => by
          by_cases h : j = q
          · subst h; exact hxy
          · exact he.out j hj (by omega)
        clear he
        generalize ts[q].d = x1 at *
        generalize ts[q].x = x2 at *
        generalize ts[q].y = x3 at *
        by_cases h3 : x1 = 0
        · have h3' : (x1 == 0) = true := by simpa using h3
          have h4 : ¬ 1048576 < x3 := fun h => hxy ⟨h3, h⟩
          clear hxy h3
          go_wp2_with fail
          go_roundw
          case rel => exact ⟨q + 1, by omega, by go_num, he2, HKW⟩
          case measure => simp [intOf]; omega
        · have h3' : (x1 == 0) = false := by simpa using h3
          clear hxy h3
          go_wp2_with fail
          go_roundw
          case rel => exact ⟨q + 1, by omega, by go_num, he2, HKW⟩
          case measure => simp [intOf]; omega
    · obtain rfl : q = n := by omega
      have hb : bo = false := by
        rw [← hbo.out, Bool.not_eq_false', fineA_at]
        exact ⟨by rw [HL.out]; omega, fun j hj => he.out j hj (by have := HL.out; omega)⟩
      subst hb
      clear he
      go_wp2_with fail
      go_ret
      exact ⟨rfl, hw.out⟩
end Go.Proofs.Ytgneieelfapmcaa
