/-
  The document's layer 7: tallies by the call: find, Count, Add, Swap, digits: contracts.
-/
import Derived.Test.YtkkmjoadhjnldaaDoorTaP
import Derived.Test.YtkkmjoadhjnldaaDoorOff
namespace Go.Proofs.YtkkmjoadhjnldaaDoor
open Go.RowKit
set_option maxRecDepth 100000

/-- a tally of the document's, as it lies -/
structure RT (lo hi : Nat) (w : World) (b : Nat) (B : Option Addr) (ns : List ByteArray) (cs : List Int) : Prop where
  len : ns.length = cs.length
  few : ns.length ≤ 1000
  inb : lo ≤ b ∧ b < hi
  lay : ∃ A n ca m cb, w.heap[b]? = some (.cells #[.slice A n ca, .slice B m cb] 34 (0, 0)) ∧ w.ownsRow lo 9 1 (.slice A n ca) n (tvs ns) ∧ w.ownsRow lo 2 1 (.slice B m cb) m (ivs cs) ∧ UnderT hi (.slice A n ca) ∧ UnderT hi (.slice B m cb)
/-- what a change of a tally leaves as it was -/
abbrev Mid (lo hi : Nat) : Nat → Prop := fun k => lo ≤ k ∧ k < hi
theorem RT.off {lo hi : Nat} {w w' : World} {b : Nat} {B : Option Addr} {ns : List ByteArray} {cs : List Int} {S : Nat → Prop} (h : RT lo hi w b B ns cs) (ho : Off S w w') (hS : ∀ k, S k → k < lo ∨ hi ≤ k) : RT lo hi w' b B ns cs := by
  obtain ⟨hl, hf, hb0, A, n, ca, m, cb, hb, hx, hown, u1, u2⟩ := h
  have hbl : b < w.heap.size := (Array.getElem?_eq_some_iff.1 hb).1
  refine ⟨hl, hf, hb0, A, n, ca, m, cb, (ho.block b hbl (fun e => by have := hS _ e; omega)).trans hb, own_keep hx fun g e => ?_, own_keep hown fun g e => ?_, u1, u2⟩
  · have h1 := hx.lt g e
    have h2 := u1 g e
    exact ho.block g h1.2 (fun e => by have := hS _ e; omega)
  · have h1 := hown.lt g e
    have h2 := u2 g e
    exact ho.block g h1.2 (fun e => by have := hS _ e; omega)

set_option maxHeartbeats 1000000 in
theorem rfind_ok (lo hi b : Nat) (B : Option Addr) (ns : List ByteArray) (cs : List Int) (s : ByteArray) (w : World) (h : RT lo hi w b B ns cs) :
    Calls Tryd.prog 21 #[.pointer (some ⟨b, 0, none⟩), .string s] w fun e w' => e = .returned (.int .i64 (placeT s ns)) ∧ w = w' := by
  obtain ⟨A, n, ca, m, cb, hb, hx0, _, _, _⟩ := h.lay
  have hx := XR.of_own hx0
  obtain ⟨b0, _, _, _⟩ := cells2t hb
  have hl := Lib.hid hx.len
  have hf := h.few
  rw [hl.out] at hf
  have HX := Lib.hid hx
  have HR := Lib.hid (rfl : placeT s ns = placeT s ns)
  clear h hb hx hx0
  go_enter Tryd.func21, Tryd.ntmps21
  go_wp2
  go_loopw [5] (fun i wr => ∃ k : Nat, k ≤ n ∧ i = .int .i64 k ∧ Hid (∀ j (hj : j < ns.length), j < k → ns[j] ≠ s) ∧ wr = w) (fun i _ => n - (intOf i).toNat)
  case atStart => exact ⟨0, Nat.zero_le _, rfl, Lib.hid (fun j _ h => absurd h (Nat.not_lt_zero _)), rfl⟩
  case round =>
    obtain ⟨k, hk, rfl, hne, rfl⟩ := hrel
    by_cases hlt : k < n
    · have hkl : k < ns.length := by rw [hl.out]; exact hlt
      obtain ⟨ad, rfl, _, c0⟩ := HX.out.at_ hkl
      by_cases he : ns[k] = s
      · have hp : Hid (placeT s ns = k) := Lib.hid (placeT_at hkl hne.out he)
        have hq : (ns[k].toList == s.toList) = true := by rw [he]; simp
        clear he hne HR
        generalize ns[k] = x at *
        go_wp2_with fail
        go_ret
        exact ⟨by rw [hp.out]; rfl, rfl⟩
      · have hne2 : Hid (∀ j (hj : j < ns.length), j < k + 1 → ns[j] ≠ s) := Lib.hid (fun j hj hjk => by
          by_cases h : j = k
          · subst h; exact he
          · exact hne.out j hj (by omega))
        have hq : (ns[k].toList == s.toList) = false := by
          simp only [beq_eq_false_iff_ne, ne_eq]
          exact fun h => he (bytes_ext h)
        clear he hne HR
        generalize ns[k] = x at *
        go_wp2_with fail
        go_roundw
        case rel => exact ⟨k + 1, by omega, by go_num, hne2, trivial⟩
        case measure => simp [intOf]; omega
    · have hp : Hid (placeT s ns = -1) := Lib.hid (placeT_none fun x hx => by
        obtain ⟨j, hj, rfl⟩ := List.getElem_of_mem hx
        exact hne.out j hj (by have := hl.out; omega))
      clear hne HR
      go_wp2_with fail
      go_ret
      exact ⟨by rw [hp.out]; rfl, rfl⟩

/-- a count, by its place -/
def countT (ns : List ByteArray) (cs : List Int) (s : ByteArray) : Int := if placeT s ns < 0 then 0 else cs.getD (placeT s ns).toNat 0

theorem ivs_cell {w : World} {B : Option Addr} {m cb : Nat} {e : TypeId} {base : Nat} {cs : List Int} (h : w.ownsRow base e 1 (.slice B m cb) m (ivs cs)) {i : Nat} (hi : i < cs.length) : ∃ g, B = some ⟨g, 0, none⟩ ∧ w.cell? ⟨g, i, none⟩ = some (.int .i64 cs[i]) ∧ w.frozen? ⟨g, i, none⟩ = false ∧ g < w.heap.size ∧ ∃ cur, w.heap[g]? = some (.cells cur e (0, 0)) := by
  have hm := h.1
  rw [ivs_length] at hm
  have hh := h
  rcases h.2 with ⟨h1, h2⟩ | ⟨g, cap, cur, h1, _, hg, _⟩
  · omega
  · injection h1 with h1 _ _
    subst h1
    refine ⟨g, rfl, ?_, ?_, (Array.getElem?_eq_some_iff.1 hg).1, cur, hg⟩
    · have := hh.cells (g := g) rfl i (.int .i64 cs[i]) (by simp [ivs, hi])
      have ha : (⟨g, 0, none⟩ : Addr).add i = ⟨g, i, none⟩ := by unfold Addr.add; split <;> simp_all
      rw [ha] at this
      exact this
    · simp [World.frozen?, hg]

set_option maxHeartbeats 1000000 in
theorem rcount_ok (lo hi b : Nat) (B : Option Addr) (ns : List ByteArray) (cs : List Int) (s : ByteArray) (w : World) (h : RT lo hi w b B ns cs) :
    Calls Tryd.prog 17 #[.pointer (some ⟨b, 0, none⟩), .string s] w fun e w' => e = .returned (.tuple #[.int .i64 (countT ns cs s), .bool (decide (0 ≤ placeT s ns))]) ∧ w = w' := by
  have HF := Lib.hid (rfind_ok lo hi b B ns cs s w h)
  have hlen := h.len
  have hf := h.few
  obtain ⟨A, n, ca, m, cb, hb, hx, hown, ux, uo⟩ := h.lay
  obtain ⟨b0, b1, _, _⟩ := cells2t hb
  have hm := hown.1
  rw [ivs_length] at hm
  have hC : countT ns cs s = if placeT s ns < 0 then 0 else cs.getD (placeT s ns).toNat 0 := rfl
  have hge := placeT_ge s ns
  by_cases hp : placeT s ns < 0
  · rw [if_pos hp] at hC
    have hd : decide (0 ≤ placeT s ns) = false := decide_eq_false (by omega)
    have HC := Lib.hid hC
    have HD := Lib.hid hd
    clear h hC hd hx hown hb
    generalize placeT s ns = p at *
    go_enter Tryd.func17, Tryd.ntmps17
    go_wp2_with fail
    refine HF.out.mono ?_
    rintro e w1 ⟨rfl, rfl⟩
    go_wp2_with fail
    go_ret2
    exact ⟨by rw [HC.out, HD.out]; rfl, rfl⟩
  · rw [if_neg hp] at hC
    obtain ⟨i, hpi⟩ : ∃ i : Nat, placeT s ns = i := ⟨(placeT s ns).toNat, by omega⟩
    obtain ⟨hil, _⟩ := placeT_is hpi
    have hic : i < cs.length := by omega
    obtain ⟨g, rfl, c0, _, _, _⟩ := ivs_cell hown hic
    have hd : decide (0 ≤ placeT s ns) = true := decide_eq_true (by omega)
    rw [hpi, Int.toNat_natCast, List.getD_eq_getElem?_getD, List.getElem?_eq_getElem hic, Option.getD_some] at hC
    have HC := Lib.hid hC
    have HD := Lib.hid hd
    rw [hpi] at HF
    have him : (i : Int) < (m : Int) := by omega
    clear h hC hd hx hown hb hp hge hpi
    generalize cs[i] = v at *
    go_enter Tryd.func17, Tryd.ntmps17
    go_wp2_with fail
    refine HF.out.mono ?_
    rintro e w1 ⟨rfl, rfl⟩
    go_wp2_with fail
    go_ret2
    exact ⟨by rw [HC.out, HD.out]; rfl, rfl⟩

theorem own_type_ne {w : World} {base n size : Nat} {e t : TypeId} {v : Value} {xs : List Value} (h : w.ownsRow base e size v n xs) {b : Nat} {cs : Array Value} {fz : Nat × Nat} (hb : w.heap[b]? = some (.cells cs t fz)) (ht : t ≠ e) : v.ownBlock ≠ some b := by
  rcases h.2 with ⟨rfl, _⟩ | ⟨g, cap, cur, rfl, _, hg, _⟩
  · simp [Value.ownBlock]
  · simp only [Value.ownBlock, ne_eq, Option.some.injEq]
    rintro rfl
    rw [hg] at hb
    simp only [Option.some.injEq, Obj.cells.injEq] at hb
    exact ht hb.2.1.symm
/-- a count is set -/
theorem RT.set {lo hi : Nat} {w : World} {b g : Nat} {ns : List ByteArray} {cs : List Int} (h : RT lo hi w b (some ⟨g, 0, none⟩) ns cs) (i : Nat) (x : Int) : RT lo hi (w.setCell ⟨g, i, none⟩ (.int .i64 x)) b (some ⟨g, 0, none⟩) ns (cs.set i x) := by
  obtain ⟨hl, hf, hin, A, n, ca, m, cb, hb, hx, hown, ux, uo⟩ := h
  obtain ⟨cur, hg⟩ : ∃ cur, w.heap[g]? = some (.cells cur 2 (0, 0)) := by
    rcases hown.2 with ⟨h1, _⟩ | ⟨g', cap, cur, h1, _, hg, _⟩
    · cases h1
    · injection h1 with h1 _ _
      injection h1 with h1
      injection h1 with h1 _ _
      subst h1
      exact ⟨cur, hg⟩
  have hbg : b ≠ g := by
    rintro rfl
    rw [hb] at hg
    simp only [Option.some.injEq, Obj.cells.injEq] at hg
    exact absurd hg.2.1 (by decide)
  refine ⟨by rw [List.length_set]; exact hl, hf, hin, A, n, ca, m, cb, (heap_setCell_other w _ b _ hbg).trans hb, ownsRow_setCell_other hx (own_type_ne hx hg (by decide)) _, ?_, ux, uo⟩
  rw [ivs_set]
  exact own_set hown i _
theorem RT.drew {lo hi : Nat} {w : World} {b : Nat} {B : Option Addr} {ns : List ByteArray} {cs : List Int} (h : RT lo hi w b B ns cs) : RT lo hi w.drew b B ns cs := by
  obtain ⟨hl, hf, hin, A, n, ca, m, cb, hb, hx, hown, ux, uo⟩ := h
  exact ⟨hl, hf, hin, A, n, ca, m, cb, hb, hx.drew, hown.drew, ux, uo⟩

def addT (ns : List ByteArray) (cs : List Int) (s : ByteArray) (x : Int) : List Int := if placeT s ns < 0 then cs else moreT cs (placeT s ns).toNat x

set_option maxHeartbeats 2000000 in
theorem radd_ok (lo hi b : Nat) (B : Option Addr) (ns : List ByteArray) (cs : List Int) (s : ByteArray) (x : Int) (w : World) (h : RT lo hi w b B ns cs) :
    Calls Tryd.prog 13 #[.pointer (some ⟨b, 0, none⟩), .string s, .int .i64 x] w fun e w' => e = .returned (.bool (decide (0 ≤ placeT s ns))) ∧ RT lo hi w' b B ns (addT ns cs s x) ∧ Off (Mid lo hi) w w' := by
  have HF := Lib.hid (rfind_ok lo hi b B ns cs s w h)
  have HH := Lib.hid h
  have hlen := h.len
  have hf := h.few
  obtain ⟨A, n, ca, m, cb, hb, hx, hown, ux, uo⟩ := h.lay
  obtain ⟨b0, b1, _, _⟩ := cells2t hb
  have hm := hown.1
  rw [ivs_length] at hm
  have hC : addT ns cs s x = if placeT s ns < 0 then cs else moreT cs (placeT s ns).toNat x := rfl
  have hge := placeT_ge s ns
  by_cases hp : placeT s ns < 0
  · rw [if_pos hp] at hC
    have hd : decide (0 ≤ placeT s ns) = false := decide_eq_false (by omega)
    rw [hC]
    have HD := Lib.hid hd
    clear h hC hd hx hown hb
    generalize placeT s ns = p at *
    go_enter Tryd.func13, Tryd.ntmps13
    go_wp2_with fail
    refine HF.out.mono ?_
    rintro e w1 ⟨rfl, rfl⟩
    go_wp2_with fail
    go_ret
    exact ⟨by rw [HD.out]; rfl, HH.out, Off.refl _ _⟩
  · rw [if_neg hp] at hC
    obtain ⟨i, hpi⟩ : ∃ i : Nat, placeT s ns = i := ⟨(placeT s ns).toNat, by omega⟩
    obtain ⟨hil, _⟩ := placeT_is hpi
    have hic : i < cs.length := by omega
    obtain ⟨g, rfl, c0, f0, hgl, _⟩ := ivs_cell hown hic
    have hd : decide (0 ≤ placeT s ns) = true := decide_eq_true (by omega)
    rw [hpi, Int.toNat_natCast] at hC
    have hmore : moreT cs i x = cs.set i (wrap64 (cs[i] + x)) := by
      unfold moreT wrapT
      rw [List.getD_eq_getElem?_getD, List.getElem?_eq_getElem hic, Option.getD_some]
    rw [hC, hmore]
    have HD := Lib.hid hd
    rw [hpi] at HF
    have him : (i : Int) < (m : Int) := by omega
    have HG : Hid (Mid lo hi g ∨ w.heap.size ≤ g) := Lib.hid (.inl ⟨(hown.lt g rfl).1, uo g rfl⟩)
    clear h hC hd hx hown hb hp hge hpi hmore
    generalize hv : cs[i] = v at *
    clear hv
    go_enter Tryd.func13, Tryd.ntmps13
    go_wp2_with fail
    refine HF.out.mono ?_
    rintro e w1 ⟨rfl, rfl⟩
    go_wp2_with fail
    go_region
    all_goals
      go_wp2_with fail
      go_ret
      exact ⟨by rw [HD.out]; rfl, (HH.out.set i _).drew, ((Off.refl _ w).setCell HG.out _).drew⟩

/-- a count is another one, if it is what one says -/
def swapT (ns : List ByteArray) (cs : List Int) (s : ByteArray) (old now : Int) : List Int × Bool :=
  if placeT s ns < 0 then (cs, false) else if cs.getD (placeT s ns).toNat 0 = old then (cs.set (placeT s ns).toNat now, true) else (cs, false)

set_option maxHeartbeats 2000000 in
theorem rswap_ok (lo hi b : Nat) (B : Option Addr) (ns : List ByteArray) (cs : List Int) (s : ByteArray) (x y : Int) (w : World) (h : RT lo hi w b B ns cs) :
    Calls Tryd.prog 15 #[.pointer (some ⟨b, 0, none⟩), .string s, .int .i64 x, .int .i64 y] w fun e w' => e = .returned (.bool (swapT ns cs s x y).2) ∧ RT lo hi w' b B ns (swapT ns cs s x y).1 ∧ Off (Mid lo hi) w w' := by
  have HF := Lib.hid (rfind_ok lo hi b B ns cs s w h)
  have HH := Lib.hid h
  have hlen := h.len
  have hf := h.few
  obtain ⟨A, n, ca, m, cb, hb, hx, hown, ux, uo⟩ := h.lay
  obtain ⟨b0, b1, _, _⟩ := cells2t hb
  have hm := hown.1
  rw [ivs_length] at hm
  have hC : swapT ns cs s x y = if placeT s ns < 0 then (cs, false) else if cs.getD (placeT s ns).toNat 0 = x then (cs.set (placeT s ns).toNat y, true) else (cs, false) := rfl
  have hge := placeT_ge s ns
  generalize swapT ns cs s x y = T at *
  by_cases hp : placeT s ns < 0
  · rw [if_pos hp] at hC
    have H1 : Hid (T.1 = cs) := Lib.hid (by rw [hC])
    have H2 : Hid (T.2 = false) := Lib.hid (by rw [hC])
    clear h hC hx hown hb
    generalize placeT s ns = p at *
    go_enter Tryd.func15, Tryd.ntmps15
    go_wp2_with fail
    refine HF.out.mono ?_
    rintro e w1 ⟨rfl, rfl⟩
    go_wp2_with fail
    go_ret
    exact ⟨by rw [H2.out]; rfl, by rw [H1.out]; exact HH.out, Off.refl _ _⟩
  · rw [if_neg hp] at hC
    obtain ⟨i, hpi⟩ : ∃ i : Nat, placeT s ns = i := ⟨(placeT s ns).toNat, by omega⟩
    obtain ⟨hil, _⟩ := placeT_is hpi
    have hic : i < cs.length := by omega
    obtain ⟨g, rfl, c0, f0, hgl, _⟩ := ivs_cell hown hic
    rw [hpi, Int.toNat_natCast, List.getD_eq_getElem?_getD, List.getElem?_eq_getElem hic, Option.getD_some] at hC
    rw [hpi] at HF
    have him : (i : Int) < (m : Int) := by omega
    have HG : Hid (Mid lo hi g ∨ w.heap.size ≤ g) := Lib.hid (.inl ⟨(hown.lt g rfl).1, uo g rfl⟩)
    clear h hx hown hb hp hge hpi
    generalize hv : cs[i] = v at *
    clear hv
    by_cases hvx : v = x
    · rw [if_pos hvx] at hC
      have H1 : Hid (T.1 = cs.set i y) := Lib.hid (by rw [hC])
      have H2 : Hid (T.2 = true) := Lib.hid (by rw [hC])
      have hne : (v != x) = false := by rw [hvx]; simp
      clear hC hvx
      go_enter Tryd.func15, Tryd.ntmps15
      go_wp2_with fail
      refine HF.out.mono ?_
      rintro e w1 ⟨rfl, rfl⟩
      go_wp2_with fail
      go_ret
      exact ⟨by rw [H2.out]; rfl, by rw [H1.out]; exact HH.out.set i _, (Off.refl _ w).setCell HG.out _⟩
    · rw [if_neg hvx] at hC
      have H1 : Hid (T.1 = cs) := Lib.hid (by rw [hC])
      have H2 : Hid (T.2 = false) := Lib.hid (by rw [hC])
      have hne : (v != x) = true := by simpa using hvx
      clear hC hvx
      go_enter Tryd.func15, Tryd.ntmps15
      go_wp2_with fail
      refine HF.out.mono ?_
      rintro e w1 ⟨rfl, rfl⟩
      go_wp2_with fail
      go_ret
      exact ⟨by rw [H2.out]; rfl, by rw [H1.out]; exact HH.out, Off.refl _ _⟩

theorem dec_step {u : Nat} (h : ¬ u < 10) : Lib.decDigits u = Lib.decDigits (u / 10) ++ [UInt8.ofNat (48 + u % 10)] := by rw [Lib.decDigits, dif_neg h]
theorem dec_small {u : Nat} (h : u < 10) : Lib.decDigits u = [UInt8.ofNat (48 + u)] := by rw [Lib.decDigits, dif_pos h]
theorem dec_len : ∀ (k u : Nat), u < 10 ^ k → 1 ≤ k → (Lib.decDigits u).length ≤ k
  | 0, _, _, h => by omega
  | k + 1, u, h, _ => by
    by_cases hu : u < 10
    · rw [dec_small hu]
      simp
    · rw [dec_step hu]
      have hk : 1 ≤ k := by
        cases k with
        | zero => simp at h; omega
        | succ k => omega
      have := dec_len k (u / 10) (by rw [Nat.pow_succ] at h; omega) hk
      simp
      omega

set_option maxHeartbeats 2000000 in
theorem digits_ok : ∀ (u : Nat) (_ : u ≤ 9223372036854775808) (w : World), Calls Tryd.prog 28 #[.int .i64 (-(u : Int))] w fun e w' => ∃ r : ByteArray, e = .returned (.string r) ∧ r.data.toList = Lib.decDigits u ∧ Below w.heap.size w w' := by
  intro u
  induction u using Nat.strongRecOn with
  | _ u ih =>
    intro hu w
    have hrem : (-(u : Int)).tmod 10 = -((u % 10 : Nat) : Int) := by rw [Int.neg_tmod]; rfl
    have hquo : (-(u : Int)).tdiv 10 = -((u / 10 : Nat) : Int) := by rw [Int.neg_tdiv]; rfl
    have hm : u % 10 < 10 := Nat.mod_lt _ (by decide)
    have hbv : bvs [UInt8.ofNat (48 + u % 10)] = [.int .u8 (48 + (u : Int) % 10)] := by
      simp only [bvs, bv, List.map_cons, List.map_nil, UInt8.toNat_ofNat']
      rw [Nat.mod_eq_of_lt (by omega)]
      simp
    have hsl : Sl (w.alloc (.cells #[.int .u8 (48 + (u : Int) % 10)] 5)) (w.heap.size + 1) (some ⟨w.heap.size, 0, none⟩) 1 1 [UInt8.ofNat (48 + u % 10)] := by
      refine ⟨?_, rfl, Nat.le_refl _⟩
      rw [hbv]
      exact Rd.new w 5 [.int .u8 (48 + (u : Int) % 10)]
    have hcv := run_text (P := Tryd.prog) hsl 77 9 5 Tryd.underlying77 Tryd.underlying5 Tryd.underlying9
    have kw := kp_new w (.cells #[.int .u8 (48 + (u : Int) % 10)] 5)
    clear hsl hbv
    obtain ⟨dg, hdg⟩ : ∃ dg : ByteArray, dg = ⟨[UInt8.ofNat (48 + u % 10)].toArray⟩ := ⟨_, rfl⟩
    rw [← hdg] at hcv
    have hds : dg.data.toList = [UInt8.ofNat (48 + u % 10)] := by rw [hdg]
    have hdz : dg.size = 1 := by rw [hdg]; rfl
    have HDS := Lib.hid hds
    clear hdg hds
    by_cases h10 : u < 10
    · have hd := Lib.hid (dec_small h10)
      have hgt : (-10 : Int) < -(u : Int) := by omega
      have hmod := Lib.hid (Nat.mod_eq_of_lt h10)
      go_enter Tryd.func28, Tryd.ntmps28
      go_wp2_with fail
      go_ret
      exact ⟨dg, rfl, by rw [hd.out, HDS.out, hmod.out], kw⟩
    · have hd := Lib.hid (dec_step h10)
      have hgt : ¬ (-10 : Int) < -(u : Int) := by omega
      have HI := Lib.hid (ih (u / 10) (by omega) (by omega) (w.alloc (.cells #[.int .u8 (48 + (u : Int) % 10)] 5)))
      have hl := Lib.hid (dec_len 19 (u / 10) (by omega) (by decide))
      clear ih
      go_enter Tryd.func28, Tryd.ntmps28
      go_wp2_with fail
      refine HI.out.mono ?_
      rintro e w1 ⟨r, rfl, hr, k1⟩
      have hrz : r.size ≤ 19 := by
        have h1 : r.data.toList.length = r.size := by rw [Array.length_toList]; rfl
        rw [hr] at h1
        have := hl.out
        omega
      go_wp2_with fail
      go_ret
      refine ⟨r ++ dg, rfl, ?_, kp_trans kw k1⟩
      rw [hd.out, ← hr, ← HDS.out]
      simp
end Go.Proofs.YtkkmjoadhjnldaaDoor
