/-
  Contracts and plain functions that the law stands on, part 5 of 16.
-/
import Derived.Test.YtaoegiohnebnhaaGreatDoorQA4
import Derived.Lib.AppendZerosOnto
import Derived.Lib.SliceRun
import Derived.BigQuiet
import Derived.BigRegion
import Derived.OneCell
import Derived.Deep.AppendSrc
namespace Go.Proofs.YtaoegiohnebnhaaGreatDoor
/- Rows of pairs cut, copied and laid behind one another: slices.Concat, slices.Clone: contracts. -/
section
open Go.RowKit
set_option maxRecDepth 100000

theorem kvinfo : (Tryz.prog.info? 48).map (fun i => (i.zero, i.size, i.bytes)) = some (some (.agg #[.string ⟨#[]⟩, .string ⟨#[]⟩]), 2, 32) := by kernel_rfl
theorem kvsize : (Tryz.prog.info? (Tryz.prog.elem 45)).map (·.size) = some 2 := by kernel_rfl

section
variable {w : World} {A : Option Addr} {n c : Nat} {ts : List Kv}
theorem KR.cut0 (h : KR w A n ts) (hc : n ≤ c) (P : Program) (t : TypeId) (ht : P.underlying t = some (.slice (P.elem t))) (hz : (P.info? (P.elem t)).map (·.size) = some 2) {j : Nat} (y : Int) (hy : y = j) (hj : j ≤ n) :
    ∃ A', (∀ u, (Instr.slice t (.slice A n c) none (some (.int .i64 y)) none).run P u = .ok (.slice A' j c) u) ∧ KR w A' j (ts.take j) := by
  obtain ⟨ti, hti, hsz⟩ := Option.map_eq_some_iff.1 hz
  refine ⟨A, fun u => ?_, ⟨by rw [List.length_take, h.len]; omega, by rw [kvC_take]; exact h.rd.front _⟩⟩
  subst hy
  rw [run_slice_h u t A n c ht .i64 j (by omega) (by omega)]
  cases A with
  | none => simp [sizeOf, typeInfo, hti, hsz, sliced, Result.andThen]
  | some ad => simp [sizeOf, typeInfo, hti, hsz, sliced, Result.andThen, Addr.add]
theorem KR.cut1 (h : KR w A n ts) (hc : n ≤ c) (P : Program) (t : TypeId) (ht : P.underlying t = some (.slice (P.elem t))) (hz : (P.info? (P.elem t)).map (·.size) = some 2) {i : Nat} (x : Int) (hx : x = i) (hi : i ≤ n) :
    ∃ A', (∀ u, (Instr.slice t (.slice A n c) (some (.int .i64 x)) none none).run P u = .ok (.slice A' (n - i) (c - i)) u) ∧ KR w A' (n - i) (ts.drop i) := by
  obtain ⟨ti, hti, hsz⟩ := Option.map_eq_some_iff.1 hz
  have hr := h.rd.cut (k := i * 2) (cap := c * 2) (by rw [kvC_length, h.len]; omega)
  have e : (if c * 2 = i * 2 then A else A.map (·.add (i * 2))) = if c = i then A else A.map (·.add (i * 2)) := by
    by_cases hci : c = i
    · rw [if_pos hci, if_pos (by rw [hci])]
    · rw [if_neg hci, if_neg (by omega)]
  rw [e] at hr
  refine ⟨_, fun u => ?_, ⟨by rw [List.length_drop, h.len], by rw [kvC_drop]; exact hr⟩⟩
  subst hx
  rw [run_slice_l u t A n c ht .i64 i (by omega) (by omega)]
  simp [sizeOf, typeInfo, hti, hsz, sliced, Result.andThen]
end

set_option maxHeartbeats 400000 in
theorem growk_nil (n : Nat) (w : World) (hn : n ≤ 1000000) :
    Calls Tryz.prog 114 #[.slice none 0 0, .int .i64 n] w fun e w' => ∃ A' c', e = .returned (.slice A' 0 c') ∧ OK 48 w' w.heap.size A' 0 c' [] ∧ Below w.heap.size w w' := by
  obtain ⟨i0, hi, hz0, hz1, hz2⟩ := info_parts kvinfo
  rcases Nat.eq_zero_or_pos n with rfl | hpos
  · go_enter Tryz.func114, Tryz.ntmps114
    go_wp2_with fail
    go_ret
    exact ⟨none, 0, rfl, OK.nil _ _ _, Below.refl _ _⟩
  · have hrz : ∀ ty, (Builtin.append_ #[45, 3] ty #[.slice none 0 0, .int .i64 (n : Int)]).run Tryz.prog w =
        .ok (.slice (some ⟨w.heap.size, 0, none⟩) n (grownCap w n 0 48)) (w.drew.alloc (.cells (([] : List Value).toArray ++ Builtin.zeroCells (Value.agg #[.string ⟨#[]⟩, .string ⟨#[]⟩]).cells n ++ Builtin.zeroCells (Value.agg #[.string ⟨#[]⟩, .string ⟨#[]⟩]).cells (grownCap w n 0 48 - n)) 48)) := fun ty => by
      have h := Lib.run_append_grow_zeros (P := Tryz.prog) w 45 3 ty 48 i0 (.agg #[.string ⟨#[]⟩, .string ⟨#[]⟩]) .i64 .i64 Tryz.underlying45 Tryz.underlying3 hi hz0 none 0 0 [] (run_firstCells_none w.drew i0.size 0 0 0) n hpos (by omega) (by omega) (by omega) (by rw [hz2]; omega)
        (by rw [hz2]; exact growslice_fits (by omega) (by omega))
      simpa using h
    have hG1 := grownCap_ge w n 0 48
    have hG2 := grownCap_le_maxLen w n 0 48 (by unfold maxLen; omega)
    generalize grownCap w n 0 48 = G at *
    have hg3 : G ≤ 9223372036854775807 := by unfold maxLen at hG2; omega
    go_enter Tryz.func114, Tryz.ntmps114
    go_wp2_with (at_builtin; refine Lib.wpList_append_run _ rfl _ _ _ _ rfl _ _ rfl rfl _ _ (hrz _) ?_)
    all_goals
      go_ret
      refine ⟨_, _, rfl, ⟨⟨by simp [kvC], .inr ⟨w.heap.size, G, _, rfl, Nat.le_refl _, heap_alloc_new w.drew _, by omega, hG2, ?_, by simp [kvC]⟩⟩, by omega⟩, (Below.refl _ _).drew.alloc (Nat.le_refl _) _⟩
      simp only [size_zeroCells, List.size_toArray, Array.size_append]
      simp
      omega

/-- a row of pairs as it lies -/
structure PartK where
  A : Option Addr
  l : Nat
  c : Nat
  ts : List Kv
def flatK (ps : List PartK) : List Kv := ps.flatMap (·.ts)
theorem flatK_next (ps : List PartK) (k : Nat) (h : k < ps.length) : flatK (ps.take (k + 1)) = flatK (ps.take k) ++ ps[k].ts := by
  rw [List.take_succ_eq_append_getElem h]
  simp only [flatK, List.flatMap_append, List.flatMap_cons, List.flatMap_nil, List.append_nil]
theorem sizesK_next (ps : List PartK) (k : Nat) (h : k < ps.length) : (flatK (ps.take (k + 1))).length = (flatK (ps.take k)).length + ps[k].ts.length := by
  rw [flatK_next ps k h, List.length_append]
theorem sizesK_le (ps : List PartK) (k : Nat) : (flatK (ps.take k)).length ≤ (flatK ps).length := by
  have h : flatK ps = flatK (ps.take k) ++ flatK (ps.drop k) := by rw [flatK, flatK, flatK, ← List.flatMap_append, List.take_append_drop]
  rw [h, List.length_append]
  omega

set_option maxHeartbeats 800000 in
theorem concatk_any (ad : Addr) (m c : Nat) (ps : List PartK) (w : World) (hm : ps.length = m) (hm6 : m ≤ 1000) (had : ad.block < w.heap.size)
    (hc : ∀ j (h : j < ps.length), w.cell? (ad.add j) = some (.slice ps[j].A ps[j].l ps[j].c)) (hs : ∀ j (h : j < ps.length), KR w ps[j].A ps[j].l ps[j].ts) (htot : (flatK ps).length ≤ 900000) :
    Calls Tryz.prog 80 #[.slice (some ad) m c] w fun e w' => ∃ A' n' c', e = .returned (.slice A' n' c') ∧ OK 48 w' w.heap.size A' n' c' (flatK ps) ∧ Below w.heap.size w w' := by
  obtain ⟨i0, hi, hz0, hz1, hz2⟩ := info_parts kvinfo
  have Hc := Lib.hid hc
  have Hs := Lib.hid hs
  have HM := Lib.hid hm
  clear hc hs hm
  go_enter Tryz.func80, Tryz.ntmps80
  go_wp2_with fail
  go_loop [3, 11] (fun n i => ∃ k z : Nat, k ≤ m ∧ i = .int .i64 k ∧ n = .int .i64 z ∧ Hid ((flatK (ps.take k)).length = z) ∧ z ≤ 900000) (fun _ i => m - (intOf i).toNat)
  case atStart => exact ⟨0, 0, Nat.zero_le _, rfl, rfl, Lib.hid rfl, by omega⟩
  case round =>
    obtain ⟨k, z, hk, rfl, rfl, hz, hz9⟩ := hrel
    by_cases hlt : k < m
    · have hkl : k < ps.length := by rw [HM.out]; exact hlt
      have hcell := Hc.out k hkl
      have hl := (Hs.out k hkl).len
      have hsn := sizesK_next ps k hkl
      rw [hz.out, hl] at hsn
      have hle := sizesK_le ps (k + 1)
      rw [hsn] at hle
      have hle2 : z + ps[k].l ≤ 900000 := by omega
      generalize ps[k].l = lk at *
      generalize ps[k].A = Ak at *
      generalize ps[k].c = ck at *
      have HSN := Lib.hid hsn
      clear hsn hle hl
      go_wp2_with fail
      go_round
      case rel => exact ⟨k + 1, z + lk, by omega, by go_num, by go_num, HSN, hle2⟩
      case measure => simp [intOf]; omega
    · obtain rfl : k = m := by omega
      go_wp2_with fail
      refine (growk_nil z _ (by omega)).mono ?_
      rintro e w1 ⟨A1, c1, rfl, ho1, hb1⟩
      go_wp2_with fail
      go_loopw [6, 27] (fun v i wr => ∃ (q z' : Nat) (A' : Option Addr) (c' : Nat), q ≤ k ∧ i = .int .i64 q ∧ v = .slice A' z' c' ∧ z' ≤ 900000 ∧ OK 48 wr w.heap.size A' z' c' (flatK (ps.take q)) ∧ Below w.heap.size w wr) (fun _ i _ => k - (intOf i).toNat)
      case atStart => exact ⟨0, 0, A1, c1, Nat.zero_le _, rfl, rfl, by omega, ho1, hb1⟩
      case round =>
        obtain ⟨q, z', A2, c2, hq, rfl, rfl, hz9', ho2, hb2⟩ := hrel
        by_cases hlt2 : q < k
        · have hkl : q < ps.length := by rw [HM.out]; exact hlt2
          have hcell := Hc.out q hkl
          rw [← hb2.cell (by rw [add_block]; exact had)] at hcell
          have hsq := (Hs.out q hkl).next hb2
          have hl := (Hs.out q hkl).len
          have hsn := sizesK_next ps q hkl
          rw [ho2.len, hl] at hsn
          have hle := sizesK_le ps (q + 1)
          rw [hsn] at hle
          have hle2 : z' + ps[q].l ≤ 900000 := by omega
          have HF := Lib.hid (flatK_next ps q hkl)
          have hsz := hb2.size
          generalize ps[q].l = lk at *
          generalize ps[q].A = Ak at *
          generalize ps[q].c = ck at *
          generalize ps[q].ts = bk at *
          have HSN := Lib.hid hsn
          clear hsn hle hl
          go_wp2_with (at_builtin; refine wpList_append_rds rfl _ _ _ rfl w.heap.size 48 i0 _ 2 32 Tryz.underlying45 hi hz0 hz1 hz2 rfl (by decide) _ z' _ rfl ho2.own wr.heap.size _ _ _ (kvC bk) rfl (by rw [kvC_length, hsq.len]) hsq.rd (kvC_one _) (by unfold maxLen; omega) (by omega) hsz ?_; intro v3 w3 hown3 hg3; rw [← kvC_append] at hown3; obtain ⟨A3, c3, rfl, hcap3, _⟩ := own_form_s hown3)
          go_roundw
          case rel => exact ⟨q + 1, z' + lk, A3, c3, by omega, by go_num, rfl, hle2, ⟨by rw [HF.out]; exact hown3, hcap3⟩, hb2.trans (below_own_s ho2.own hg3 hsz)⟩
          case measure => simp [intOf]; omega
        · obtain rfl : q = k := by omega
          go_wp2_with fail
          go_ret
          refine ⟨A2, z', c2, rfl, ?_, hb2⟩
          rw [← List.take_of_length_le (l := ps) (by rw [HM.out]; exact Nat.le_refl _)]
          exact ho2

/-- Concat of a new row of rows -/
theorem concatk_new (w : World) (ps : List PartK) (m : Nat) (hm : ps.length = m) (hm6 : m ≤ 1000) (hs : ∀ p ∈ ps, KR w p.A p.l p.ts) (htot : (flatK ps).length ≤ 900000) :
    Calls Tryz.prog 80 #[.slice (some ⟨w.heap.size, 0, none⟩) m m] (w.alloc (.cells (ps.map fun p => Value.slice p.A p.l p.c).toArray 45)) fun e w' => ∃ A' n' c', e = .returned (.slice A' n' c') ∧ OK 48 w' w.heap.size A' n' c' (flatK ps) ∧ Below w.heap.size w w' := by
  refine (concatk_any ⟨w.heap.size, 0, none⟩ m m ps _ hm hm6 (by simp) (fun j h => ?_) (fun j h => (hs _ (List.getElem_mem h)).next (kp_new _ _)) htot).mono fun e w' ⟨A', n', c', he, ho, hb⟩ => ⟨A', n', c', he, ho.base_ (by simp), kp_trans (kp_new _ _) hb⟩
  rcases Rd.new w 45 (ps.map fun p => Value.slice p.A p.l p.c) with h0 | ⟨ad, e, _, hc⟩
  · have := congrArg List.length h0
    simp at this
    subst this
    simp at h
  · injection e with e
    subst e
    exact hc j _ (by simp [h])

set_option maxHeartbeats 800000 in
theorem clonek_ok (A : Option Addr) (n c : Nat) (ts : List Kv) (w : World) (h : KR w A n ts) (hn : n ≤ 1000000) :
    Calls Tryz.prog 81 #[.slice A n c] w fun e w' => ∃ A' n' c', e = .returned (.slice A' n' c') ∧ OK 48 w' w.heap.size A' n' c' ts ∧ Below w.heap.size w w' := by
  obtain ⟨i0, hi, hz0, hz1, hz2⟩ := info_parts kvinfo
  have hq := fun u => Lib.run_eql_slice_nil (P := Tryz.prog) u 45 48 A n c 0 0 Tryz.underlying45
  cases A with
  | none =>
    obtain rfl : ts = [] := by
      rcases h.rd with h0 | ⟨_, h0, _⟩
      · have := kvC_length ts
        rw [h0] at this
        exact List.eq_nil_of_length_eq_zero (by simp at this; omega)
      · cases h0
    go_enter Tryz.func81, Tryz.ntmps81
    go_wp2_with fail
    go_ret
    exact ⟨none, 0, 0, rfl, OK.nil _ _ _, Below.refl _ _⟩
  | some ad =>
    have ho := own_new_s w w.heap.size 2 48 0 [] rfl (Nat.le_refl _) (Nat.zero_le _)
    have hk := kp_new w (.cells #[] 48)
    have hr := h.next hk
    generalize hw : w.alloc (.cells #[] 48) = w1 at *
    have HW := Lib.hid hw
    have ho' : w1.ownsRow w.heap.size 48 2 (.slice (some ⟨w.heap.size, 0, none⟩) 0 0) 0 [] := ho
    clear hw
    have hb1 := hk.size
    go_enter Tryz.func81, Tryz.ntmps81
    go_wp2_with (at_builtin; rw [HW.out]; refine wpList_append_rds rfl _ _ _ rfl w.heap.size 48 i0 _ 2 32 Tryz.underlying45 hi hz0 hz1 hz2 rfl (by decide) _ 0 _ rfl ho' w1.heap.size _ _ _ (kvC ts) rfl (by rw [kvC_length, hr.len]) hr.rd (kvC_one _) (by unfold maxLen; omega) (by omega) hb1 ?_; intro v3 w3 hown3 hg3; obtain ⟨A3, c3, rfl, hcap3, _⟩ := own_form_s hown3)
    go_ret
    exact ⟨A3, _, c3, rfl, ⟨by simpa using hown3, by omega⟩, hk.trans (below_own_s ho' hg3 hb1)⟩
end

/- What is written to a table, by the call Writes of package plan: contract. -/
section
open Go.RowKit
set_option maxRecDepth 100000

def planV (d : Int) (k v : ByteArray) : Value := .agg #[.int .i64 d, .string k, .string v]
/-- a block of three cells -/
theorem cells3 {w : World} {b : Nat} {x y z : Value} {t : TypeId} (h : w.heap[b]? = some (.cells #[x, y, z] t (0, 0))) : w.cell? ⟨b, 0, none⟩ = some x ∧ w.cell? ⟨b, 1, none⟩ = some y ∧ w.cell? ⟨b, 2, none⟩ = some z := by
  refine ⟨?_, ?_, ?_⟩
  · rw [cell_of_row _ _ 0 #[x, y, z] t (0, 0) h]; rfl
  · rw [cell_of_row _ _ 1 #[x, y, z] t (0, 0) h]; rfl
  · rw [cell_of_row _ _ 2 #[x, y, z] t (0, 0) h]; rfl
theorem box3 {w u : World} {x y z : Value} {t : TypeId} (k : Below (w.alloc (.cells #[x, y, z] t)).heap.size (w.alloc (.cells #[x, y, z] t)) u) : u.cell? ⟨w.heap.size, 0, none⟩ = some x ∧ u.cell? ⟨w.heap.size, 1, none⟩ = some y ∧ u.cell? ⟨w.heap.size, 2, none⟩ = some z :=
  cells3 ((k.block _ (by simp)).trans (heap_alloc_new w _))

theorem concat3 (w : World) (A0 A1 : Option Addr) (l0 c0 l1 c1 : Nat) (xs ys : List Kv) (k v : ByteArray) (hx : KR w A0 l0 xs) (hy : KR w A1 l1 ys) (hn : l0 + l1 ≤ 800000) :
    Calls Tryz.prog 80 #[.slice (some ⟨w.heap.size + 1, 0, none⟩) 3 3] ((w.alloc (.cells #[.string k, .string v] 48)).alloc (.cells #[.slice A0 l0 c0, .slice (some ⟨w.heap.size, 0, none⟩) 1 1, .slice A1 l1 c1] 45))
      fun e w' => ∃ A' n' c', e = .returned (.slice A' n' c') ∧ OK 48 w' w.heap.size A' n' c' (xs ++ ⟨k, v⟩ :: ys) ∧ Below w.heap.size w w' := by
  have k1 := kp_new w (.cells #[.string k, .string v] 48)
  have hm : KR (w.alloc (.cells #[.string k, .string v] 48)) (some ⟨w.heap.size, 0, none⟩) 1 [⟨k, v⟩] := ⟨rfl, (Rd.new w 48 (kvC [⟨k, v⟩])).more (by simp)⟩
  have := concatk_new (w.alloc (.cells #[.string k, .string v] 48)) [⟨A0, l0, c0, xs⟩, ⟨some ⟨w.heap.size, 0, none⟩, 1, 1, [⟨k, v⟩]⟩, ⟨A1, l1, c1, ys⟩] 3 rfl (by decide) (fun p hp => by
    simp only [List.mem_cons, List.not_mem_nil, or_false] at hp
    rcases hp with rfl | rfl | rfl
    · exact hx.next k1
    · exact hm
    · exact hy.next k1) (by
    have h1 := hx.len
    have h2 := hy.len
    simp only [flatK, List.flatMap_cons, List.flatMap_nil, List.length_append, List.length_cons, List.length_nil]
    omega)
  rw [show (w.alloc (.cells #[.string k, .string v] 48)).heap.size = w.heap.size + 1 from by simp] at this
  refine this.mono fun e w' ⟨A', n', c', he, ho, hb⟩ => ⟨A', n', c', he, ?_, k1.trans (hb.mono (by omega))⟩
  have e : flatK [⟨A0, l0, c0, xs⟩, ⟨some ⟨w.heap.size, 0, none⟩, 1, 1, [⟨k, v⟩]⟩, ⟨A1, l1, c1, ys⟩] = xs ++ ⟨k, v⟩ :: ys := by simp [flatK]
  rw [← e]
  exact ho.base_ (by omega)
theorem concat2 (w : World) (A0 A1 : Option Addr) (l0 c0 l1 c1 : Nat) (xs ys : List Kv) (hx : KR w A0 l0 xs) (hy : KR w A1 l1 ys) (hn : l0 + l1 ≤ 800000) :
    Calls Tryz.prog 80 #[.slice (some ⟨w.heap.size, 0, none⟩) 2 2] (w.alloc (.cells #[.slice A0 l0 c0, .slice A1 l1 c1] 45))
      fun e w' => ∃ A' n' c', e = .returned (.slice A' n' c') ∧ OK 48 w' w.heap.size A' n' c' (xs ++ ys) ∧ Below w.heap.size w w' := by
  have := concatk_new w [⟨A0, l0, c0, xs⟩, ⟨A1, l1, c1, ys⟩] 2 rfl (by decide) (fun p hp => by
    simp only [List.mem_cons, List.not_mem_nil, or_false] at hp
    rcases hp with rfl | rfl
    · exact hx
    · exact hy) (by
    have h1 := hx.len
    have h2 := hy.len
    simp only [flatK, List.flatMap_cons, List.flatMap_nil, List.length_append, List.length_nil]
    omega)
  have e : flatK [⟨A0, l0, c0, xs⟩, ⟨A1, l1, c1, ys⟩] = xs ++ ys := by simp [flatK]
  rw [e] at this
  exact this

/-- what the answer of Writes is like -/
def WrTo (d : Int) (k v : ByteArray) (ts : List Kv) (w : World) (e : Ending) (w' : World) : Prop :=
  ∃ A' n' c', e = .returned (.tuple #[.slice A' n' c', .int .i64 (writesF d k v ts).2]) ∧ OK 48 w' w.heap.size A' n' c' (writesF d k v ts).1 ∧ Below w.heap.size w w'

set_option maxHeartbeats 4000000 in
theorem writes_ok (d : Int) (k v : ByteArray) (A : Option Addr) (n c : Nat) (ts : List Kv) (w : World) (h : KR w A n ts) (hc : n ≤ c) (hs : Srt ts) (hn : n ≤ 700000) :
    Calls Tryz.prog 52 #[.agg #[.int .i64 d, .string k, .string v], .slice A n c] w (WrTo d k v ts w) := by
  have kw := kp_new w (.cells #[.int .i64 d, .string k, .string v] 122)
  have HP := Lib.hid (place_ok A n c ts k _ (h.next kw) hs (by omega))
  have hle := posF_le k ts
  have hlt := fun h => (there_lt (k := k) (l := ts) h).1
  have hW : writesF d k v ts = if d = 3 ∨ (d = 4 ∧ thereF k ts = true) then (ts.take (posF k ts) ++ ⟨k, v⟩ :: restF k ts, 1) else if d = 5 ∧ thereF k ts = true then (ts.take (posF k ts) ++ restF k ts, 1) else (ts, 0) := rfl
  have hR : restF k ts = if thereF k ts then ts.drop (posF k ts + 1) else ts.drop (posF k ts) := rfl
  rw [hR] at hW
  clear hR
  have hlen := h.len
  unfold WrTo
  generalize posF k ts = p at *
  generalize thereF k ts = b at *
  generalize writesF d k v ts = W at *
  obtain ⟨A0, s0, r0⟩ := h.cut0 hc Tryz.prog 45 Tryz.underlying45 kvsize (j := p) (p : Int) rfl (by omega)
  obtain ⟨A1, s1, r1⟩ := h.cut1 hc Tryz.prog 45 Tryz.underlying45 kvsize (i := p) (p : Int) rfl (by omega)
  have HW := Lib.hid hW
  have HK := Lib.hid h
  have HR0 := Lib.hid r0
  have HR1 := Lib.hid r1
  have HLN := Lib.hid hlen
  have hpn0 : p ≤ n := by omega
  clear hW hs h r0 r1 hlen hle
  cases b with
  | true =>
    have hpn : p < n := by have := hlt rfl; rw [HLN.out] at this; exact this
    obtain ⟨A2, s2, r2⟩ := HK.out.cut1 hc Tryz.prog 45 Tryz.underlying45 kvsize (i := p + 1) ((p : Int) + 1) (by omega) (by omega)
    have HR2 := Lib.hid r2
    clear r2 hlt
    by_cases h34 : d = 3 ∨ d = 4
    · have hW : W = (ts.take p ++ ⟨k, v⟩ :: ts.drop (p + 1), 1) := by
        rw [HW.out, if_pos (by rcases h34 with h | h <;> simp [h]), if_pos rfl]
      subst hW
      clear HW
      rcases h34 with rfl | rfl
      all_goals
        go_enter Tryz.func52, Tryz.ntmps52
        go_wp2_with fail
        refine HP.out.mono ?_
        rintro e w1 ⟨rfl, k1⟩
        obtain ⟨c0, c1, c2⟩ := box3 k1
        have K1 := kp_trans kw k1
        clear HP
        go_wp2_with fail
        go_quiet (fail)
        have kq : Below w1.heap.size w1 (w1.drewN nq) := kp_drewN w1 nq
        have K2 := K1.trans (kq.mono K1.size)
        generalize w1.drewN nq = w2 at *
        replace c0 := (kq.cell (World.block_lt_of_cell? _ _ c0)).trans c0
        replace c1 := (kq.cell (World.block_lt_of_cell? _ _ c1)).trans c1
        replace c2 := (kq.cell (World.block_lt_of_cell? _ _ c2)).trans c2
        clear k1 kq
        go_wp2_with fail
        refine (concat3 w2 A0 A2 p c (n - (p + 1)) (c - (p + 1)) _ _ k v (HR0.out.next K2) (HR2.out.next K2) (by omega)).mono ?_
        rintro e w3 ⟨A3, n3, c3, rfl, ho, k3⟩
        go_wp2_with fail
        go_ret2
        exact ⟨A3, n3, c3, rfl, ho.base_ K2.size, kp_trans K2 k3⟩
    · have n3 : (d == 3) = false := by simp only [beq_eq_false_iff_ne, ne_eq]; omega
      have n4 : (d == 4) = false := by simp only [beq_eq_false_iff_ne, ne_eq]; omega
      by_cases h5 : d = 5
      · subst h5
        have hW : W = (ts.take p ++ ts.drop (p + 1), 1) := by
          rw [HW.out, if_neg (by omega), if_pos (by simp), if_pos rfl]
        subst hW
        clear HW h34
        go_enter Tryz.func52, Tryz.ntmps52
        go_wp2_with fail
        refine HP.out.mono ?_
        rintro e w1 ⟨rfl, k1⟩
        obtain ⟨c0, c1, c2⟩ := box3 k1
        have K1 := kp_trans kw k1
        clear HP
        go_wp2_with fail
        go_quiet (fail)
        have kq : Below w1.heap.size w1 (w1.drewN nq) := kp_drewN w1 nq
        have K2 := K1.trans (kq.mono K1.size)
        generalize w1.drewN nq = w2 at *
        replace c0 := (kq.cell (World.block_lt_of_cell? _ _ c0)).trans c0
        replace c1 := (kq.cell (World.block_lt_of_cell? _ _ c1)).trans c1
        replace c2 := (kq.cell (World.block_lt_of_cell? _ _ c2)).trans c2
        clear k1 kq
        go_wp2_with fail
        refine (concat2 w2 A0 A2 p c (n - (p + 1)) (c - (p + 1)) _ _ (HR0.out.next K2) (HR2.out.next K2) (by omega)).mono ?_
        rintro e w3 ⟨A3, n3, c3, rfl, ho, k3⟩
        go_wp2_with fail
        go_ret2
        exact ⟨A3, n3, c3, rfl, ho.base_ K2.size, kp_trans K2 k3⟩
      · have n5 : (d == 5) = false := by simp only [beq_eq_false_iff_ne, ne_eq]; omega
        have hW : W = (ts, 0) := by
          rw [HW.out, if_neg (by omega), if_neg (by omega)]
        subst hW
        clear HW h34 h5
        go_enter Tryz.func52, Tryz.ntmps52
        go_wp2_with fail
        refine HP.out.mono ?_
        rintro e w1 ⟨rfl, k1⟩
        obtain ⟨c0, c1, c2⟩ := box3 k1
        have K1 := kp_trans kw k1
        clear HP
        go_wp2_with fail
        go_quiet (fail)
        have kq : Below w1.heap.size w1 (w1.drewN nq) := kp_drewN w1 nq
        have K2 := K1.trans (kq.mono K1.size)
        generalize w1.drewN nq = w2 at *
        replace c0 := (kq.cell (World.block_lt_of_cell? _ _ c0)).trans c0
        replace c1 := (kq.cell (World.block_lt_of_cell? _ _ c1)).trans c1
        replace c2 := (kq.cell (World.block_lt_of_cell? _ _ c2)).trans c2
        clear k1 kq
        go_wp2_with fail
        refine (clonek_ok A n c ts w2 (HK.out.next K2) (by omega)).mono ?_
        rintro e w3 ⟨A3, n3, c3, rfl, ho, k3⟩
        go_wp2_with fail
        go_ret2
        exact ⟨A3, n3, c3, rfl, ho.base_ K2.size, kp_trans K2 k3⟩
  | false =>
    clear hlt
    by_cases h3 : d = 3
    · subst h3
      have hW : W = (ts.take p ++ ⟨k, v⟩ :: ts.drop p, 1) := by
        rw [HW.out, if_pos (by simp), if_neg (by simp)]
      subst hW
      clear HW
      go_enter Tryz.func52, Tryz.ntmps52
      go_wp2_with fail
      refine HP.out.mono ?_
      rintro e w1 ⟨rfl, k1⟩
      obtain ⟨c0, c1, c2⟩ := box3 k1
      have K1 := kp_trans kw k1
      clear HP
      go_wp2_with fail
      go_quiet (fail)
      have kq : Below w1.heap.size w1 (w1.drewN nq) := kp_drewN w1 nq
      have K2 := K1.trans (kq.mono K1.size)
      generalize w1.drewN nq = w2 at *
      replace c0 := (kq.cell (World.block_lt_of_cell? _ _ c0)).trans c0
      replace c1 := (kq.cell (World.block_lt_of_cell? _ _ c1)).trans c1
      replace c2 := (kq.cell (World.block_lt_of_cell? _ _ c2)).trans c2
      clear k1 kq
      go_wp2_with fail
      refine (concat3 w2 A0 A1 p c (n - p) (c - p) _ _ k v (HR0.out.next K2) (HR1.out.next K2) (by omega)).mono ?_
      rintro e w3 ⟨A3, n3, c3, rfl, ho, k3⟩
      go_wp2_with fail
      go_ret2
      exact ⟨A3, n3, c3, rfl, ho.base_ K2.size, kp_trans K2 k3⟩
    · have hW : W = (ts, 0) := by
        rw [HW.out, if_neg (by simp [h3]), if_neg (by simp)]
      subst hW
      clear HW
      have n3 : (d == 3) = false := by simpa using h3
      generalize h4 : (d == 4) = b4
      generalize h5 : (d == 5) = b5
      clear h3
      cases b4
      all_goals
        cases b5
      all_goals
        go_enter Tryz.func52, Tryz.ntmps52
        go_wp2_with fail
        refine HP.out.mono ?_
        rintro e w1 ⟨rfl, k1⟩
        obtain ⟨c0, c1, c2⟩ := box3 k1
        have K1 := kp_trans kw k1
        clear HP
        go_wp2_with fail
        go_quiet (fail)
        have kq : Below w1.heap.size w1 (w1.drewN nq) := kp_drewN w1 nq
        have K2 := K1.trans (kq.mono K1.size)
        generalize w1.drewN nq = w2 at *
        replace c0 := (kq.cell (World.block_lt_of_cell? _ _ c0)).trans c0
        replace c1 := (kq.cell (World.block_lt_of_cell? _ _ c1)).trans c1
        replace c2 := (kq.cell (World.block_lt_of_cell? _ _ c2)).trans c2
        clear k1 kq
        go_wp2_with fail
        refine (clonek_ok A n c ts w2 (HK.out.next K2) (by omega)).mono ?_
        rintro e w3 ⟨A3, n3, c3, rfl, ho, k3⟩
        go_wp2_with fail
        go_ret2
        exact ⟨A3, n3, c3, rfl, ho.base_ K2.size, kp_trans K2 k3⟩
end

/- What is read of a table, by the call Reads of package plan: contract. Rows of texts. -/
section
open Go.RowKit
set_option maxRecDepth 100000

def tvs (l : List ByteArray) : List Value := l.map .string
theorem tvs_length (l : List ByteArray) : (tvs l).length = l.length := by simp [tvs]
theorem tvs_append (a b : List ByteArray) : tvs (a ++ b) = tvs a ++ tvs b := by simp [tvs]
theorem tvs_one (l : List ByteArray) : ∀ u ∈ tvs l, u.oneCell' = true := by
  intro u hu
  obtain ⟨b, _, rfl⟩ := List.mem_map.1 hu
  rfl
theorem strinfo6 : (Tryz.prog.info? 9).map (fun i => (i.zero, i.size, i.bytes)) = some (some (.string ⟨#[]⟩), 1, 16) := by kernel_rfl
/-- a row of texts that is read -/
structure XR (w : World) (A : Option Addr) (n : Nat) (ss : List ByteArray) : Prop where
  len : ss.length = n
  rd : Rd w w.heap.size A (tvs ss)
theorem XR.next {w w' : World} {A : Option Addr} {n : Nat} {ss : List ByteArray} (h : XR w A n ss) (hb : Below w.heap.size w w') : XR w' A n ss := ⟨h.len, (h.rd.below hb (Nat.le_refl _)).more hb.size⟩
theorem XR.nil (w : World) : XR w none 0 [] := ⟨rfl, .inl rfl⟩
theorem XR.at_ {w : World} {A : Option Addr} {n : Nat} {ss : List ByteArray} (h : XR w A n ss) {j : Nat} (hj : j < ss.length) : ∃ ad, A = some ad ∧ ad.block < w.heap.size ∧ w.cell? (ad.add j) = some (.string ss[j]) := by
  obtain ⟨ad, hA, hb, hc⟩ := h.rd.at_ (k := j) (by rw [tvs_length]; exact hj)
  exact ⟨ad, hA, hb, by simpa [tvs] using hc⟩
theorem XR.new (w : World) (t : TypeId) (ss : List ByteArray) : XR (w.alloc (.cells (tvs ss).toArray t)) (some ⟨w.heap.size, 0, none⟩) ss.length ss := ⟨rfl, (Rd.new w t (tvs ss)).more (by simp)⟩
theorem XR.of_own {w : World} {base n c : Nat} {e : TypeId} {A : Option Addr} {ss : List ByteArray} (h : w.ownsRow base e 1 (.slice A n c) n (tvs ss)) : XR w A n ss := ⟨by have := h.1; rw [tvs_length] at this; omega, Rd.of_own h⟩

theorem firsts_next (l : List Kv) (k : Nat) (h : k < l.length) : ((l.take (k + 1)).flatMap fun p => [p.k, p.v]) = ((l.take k).flatMap fun p => [p.k, p.v]) ++ [l[k].k, l[k].v] := by
  rw [List.take_succ_eq_append_getElem h, List.flatMap_append]
  rfl
end

/- All but one block is as it was: a frame for calls that write one block of the caller's. -/
section
open Go.RowKit
set_option maxRecDepth 100000

/-- all but one block is as it was -/
structure Bel (b : Nat) (w w' : World) : Prop where
  os : w'.os = w.os
  tape : w'.tape = w.tape
  output : w'.output = w.output
  size : w.heap.size ≤ w'.heap.size
  block : ∀ k, k < w.heap.size → k ≠ b → w'.heap[k]? = w.heap[k]?
theorem Bel.of {w w' : World} (b : Nat) (h : Below w.heap.size w w') : Bel b w w' := ⟨h.os, h.tape, h.output, h.size, fun k hk _ => h.block k hk⟩
theorem Bel.trans {b : Nat} {a c d : World} (h : Bel b a c) (k : Bel b c d) : Bel b a d :=
  ⟨k.os.trans h.os, k.tape.trans h.tape, k.output.trans h.output, Nat.le_trans h.size k.size, fun i hi hn => (k.block i (Nat.lt_of_lt_of_le hi h.size) hn).trans (h.block i hi hn)⟩
theorem Bel.setCell {b : Nat} {w w' : World} (h : Bel b w w') (p : Addr) (hp : p.block = b) (u : Value) : Bel b w (w'.setCell p u) :=
  ⟨h.os, h.tape, h.output, by have := h.size; simp only [World.setCell, Array.size_modify]; exact this, fun k hk hn => by rw [Below.heap_setCell _ _ _ _ (by omega)]; exact h.block k hk hn⟩
theorem Bel.drew {b : Nat} {w w' : World} (h : Bel b w w') : Bel b w w'.drew := ⟨h.os, h.tape, h.output, h.size, h.block⟩
theorem Bel.ofDrew {b : Nat} {w w' : World} (h : Below w.drew.heap.size w.drew w') : Bel b w w' := ⟨h.os, h.tape, h.output, h.size, fun k hk _ => h.block k hk⟩
end

/- All but some blocks are as they were: a frame for calls that write blocks of their own things. -/
section
open Go.RowKit
set_option maxRecDepth 100000

/-- all blocks but these are as they were -/
structure Off (S : Nat → Prop) (w w' : World) : Prop where
  os : w'.os = w.os
  tape : w'.tape = w.tape
  output : w'.output = w.output
  size : w.heap.size ≤ w'.heap.size
  block : ∀ k, k < w.heap.size → ¬ S k → w'.heap[k]? = w.heap[k]?
section
variable {S T : Nat → Prop} {w w' w'' : World}
theorem Off.refl (S : Nat → Prop) (w : World) : Off S w w := ⟨rfl, rfl, rfl, Nat.le_refl _, fun _ _ _ => rfl⟩
theorem Off.of (S : Nat → Prop) (h : Below w.heap.size w w') : Off S w w' := ⟨h.os, h.tape, h.output, h.size, fun k hk _ => h.block k hk⟩
theorem Off.bel {b : Nat} (hS : S b) (h : Bel b w w') : Off S w w' := ⟨h.os, h.tape, h.output, h.size, fun k hk hn => h.block k hk fun e => hn (e ▸ hS)⟩
theorem Off.trans (h : Off S w w') (k : Off T w' w'') (hT : ∀ i, T i → S i ∨ w.heap.size ≤ i) : Off S w w'' :=
  ⟨k.os.trans h.os, k.tape.trans h.tape, k.output.trans h.output, Nat.le_trans h.size k.size, fun i hi hn => (k.block i (Nat.lt_of_lt_of_le hi h.size) fun e => (hT i e).elim hn fun e => by omega).trans (h.block i hi hn)⟩
theorem Off.below {B : Nat} (h : Off S w w') (hS : ∀ k, S k → B ≤ k) (hB : B ≤ w.heap.size) : Below B w w' := ⟨h.os, h.tape, h.output, h.size, fun k hk => h.block k (by omega) fun e => by have := hS k e; omega⟩
theorem Off.setCell (h : Off S w w') {p : Addr} (hp : S p.block ∨ w.heap.size ≤ p.block) (u : Value) : Off S w (w'.setCell p u) :=
  ⟨h.os, h.tape, h.output, by have := h.size; simp only [World.setCell, Array.size_modify]; exact this, fun k hk hn => by
    rw [Below.heap_setCell _ _ _ _ (fun e => by subst e; exact hp.elim hn fun e => by omega)]
    exact h.block k hk hn⟩
theorem Off.drew (h : Off S w w') : Off S w w'.drew := ⟨h.os, h.tape, h.output, h.size, h.block⟩
theorem Off.wide (h : Off S w w') (hS : ∀ k, S k → T k) : Off T w w' := ⟨h.os, h.tape, h.output, h.size, fun k hk hn => h.block k hk fun e => hn (hS k e)⟩
end
theorem own_keep {w w' : World} {base n size : Nat} {e : TypeId} {v : Value} {xs : List Value} (h : w.ownsRow base e size v n xs) (hk : ∀ g, v.ownBlock = some g → w'.heap[g]? = w.heap[g]?) : w'.ownsRow base e size v n xs := by
  refine ⟨h.1, ?_⟩
  rcases h.2 with h2 | ⟨g, cap, cur, hv, hg, hh, r⟩
  · exact .inl h2
  · exact .inr ⟨g, cap, cur, hv, hg, (hk g (by rw [hv]; rfl)).trans hh, r⟩
/-- a cell of a block that is known -/
theorem cellsAt {w : World} {b : Nat} {cs : Array Value} {t : TypeId} (h : w.heap[b]? = some (.cells cs t (0, 0))) (i : Nat) {v : Value} (hi : cs[i]? = some v) : w.cell? ⟨b, i, none⟩ = some v ∧ w.frozen? ⟨b, i, none⟩ = false := by
  refine ⟨?_, frozen_of_row w b i cs t h⟩
  rw [cell_of_row _ _ i cs t (0, 0) h]
  exact hi
end

/- A region that draws its order, gone through once an operation: the world's state may turn as operations are done, and blocks of some things may be written. -/
section
open Go.RowKit

/-- one operation more is done -/
def doneB (L : Nat → Bool) (i : Nat) : Nat → Bool := fun j => bif Nat.beq j i then true else L j
theorem doneB_ext {L : Nat → Bool} {i : Nat} {M : Nat → Bool} (h : M i = true) (h2 : ∀ j, j ≠ i → M j = L j) : M = doneB L i := by
  funext j
  unfold doneB
  by_cases hj : j = i
  · subst hj
    rw [h, show Nat.beq j j = true from Nat.beq_refl j]
    rfl
  · rw [h2 j hj, show Nat.beq j i = false from by
      cases hb : Nat.beq j i with
      | false => rfl
      | true => exact absurd (Nat.eq_of_beq_eq_true hb) hj]
    rfl

section
variable {P : Program} {ops : Array Oper} {Q : Exit → Act → World → Prop}

end
end

/- Things that lie in blocks of their own, one or two of them, and what calls on them leave (no function of the program is named here). -/
section
open Go.RowKit
set_option maxRecDepth 100000

/-- a thing: what it asks of a world, by its blocks -/
structure Thing where
  p : (Nat → Prop) → World → Prop
  keep : ∀ {S : Nat → Prop} {w w' : World}, p S w → (∀ k, S k → w'.heap[k]? = w.heap[k]?) → w.heap.size ≤ w'.heap.size → p S w'
  lt : ∀ {S : Nat → Prop} {w : World}, p S w → ∀ k, S k → k < w.heap.size
/-- what is left by a call on a thing whose blocks are S: it is Y then -/
structure Turn (Y : Thing) (S : Nat → Prop) (w w' : World) : Prop where
  at_ : ∃ S', Y.p S' w' ∧ ∀ k, S' k → S k ∨ w.heap.size ≤ k
  off : Off S w w'
section
variable {X Y Z : Thing} {S T : Nat → Prop} {w w' w'' : World}
theorem Thing.off (h : X.p S w) (ho : Off T w w') (hT : ∀ k, S k → ¬ T k) : X.p S w' := X.keep h (fun k hk => ho.block k (X.lt h k hk) (hT k hk)) ho.size
theorem Thing.next (h : X.p S w) (hb : Below w.heap.size w w') : X.p S w' := X.keep h (fun k hk => hb.block k (X.lt h k hk)) hb.size
theorem Turn.same (h : X.p S w) (hb : Below w.heap.size w w') : Turn X S w w' := ⟨⟨S, Thing.next h hb, fun _ h => .inl h⟩, Off.of S hb⟩
theorem Turn.here (h : X.p S w) : Turn X S w w := ⟨⟨S, h, fun _ h => .inl h⟩, Off.refl _ _⟩
end

/-- two -/
structure Duo (w0 : World) (X Y : Thing) (N : Nat → Prop) (w : World) : Prop where
  at_ : ∃ S T, X.p S w ∧ Y.p T w ∧ (∀ k, S k → ¬ T k) ∧ ∀ k, S k ∨ T k → w0.heap.size ≤ k ∧ ¬ N k
  low : Below w0.heap.size w0 w
  nlt : ∀ k, N k → k < w.heap.size
def noneB : Nat → Prop := fun _ => False
section
variable {P : Program} {w0 w w' : World} {X X' Y Y' : Thing} {N N' S T : Nat → Prop}
theorem Duo.swap (h : Duo w0 X Y N w) : Duo w0 Y X N w := by
  obtain ⟨⟨S, T, h1, h2, h3, h4⟩, h5, h6⟩ := h
  exact ⟨⟨T, S, h2, h1, fun k hk hk2 => h3 k hk2 hk, fun k hk => h4 k hk.symm⟩, h5, h6⟩
theorem Duo.next (h : Duo w0 X Y N w) (hb : Below w.heap.size w w') : Duo w0 X Y N w' := by
  obtain ⟨⟨S, T, h1, h2, h3, h4⟩, h5, h6⟩ := h
  exact ⟨⟨S, T, Thing.next h1 hb, Thing.next h2 hb, h3, h4⟩, h5.trans (hb.mono h5.size), fun k hk => Nat.lt_of_lt_of_le (h6 k hk) hb.size⟩
theorem Duo.mark (h : Duo w0 X Y N w) (o : Obj) : Duo w0 X Y (fun k => k = w.heap.size ∨ N k) (w.alloc o) := by
  have hb : Below w.heap.size w (w.alloc o) := (Below.refl _ _).alloc (Nat.le_refl _) o
  obtain ⟨⟨S, T, h1, h2, h3, h4⟩, h5, h6⟩ := h
  refine ⟨⟨S, T, Thing.next h1 hb, Thing.next h2 hb, h3, fun k hk => ⟨(h4 k hk).1, fun e => e.elim (fun e => ?_) (h4 k hk).2⟩⟩, h5.trans (hb.mono h5.size), fun k hk => ?_⟩
  · have := hk.elim (X.lt h1 k) (Y.lt h2 k)
    omega
  · rcases hk with rfl | hk
    · simp
    · have := h6 k hk
      simp
      omega
theorem Duo.left {f : FuncId} {args : Array Value} {Q : Ending → World → Prop} (h : Duo w0 X Y N w) (hop : ∀ S, X.p S w → Calls P f args w fun e w' => Q e w' ∧ Turn X' S w w') :
    Calls P f args w fun e w' => Q e w' ∧ Duo w0 X' Y N w' ∧ ∀ k, N k → w'.heap[k]? = w.heap[k]? := by
  obtain ⟨⟨S, T, h1, h2, h3, h4⟩, h5, h6⟩ := h
  refine (hop S h1).mono fun e w' ⟨hq, ⟨S', g1, g2⟩, g3⟩ => ⟨hq, ⟨⟨S', T, g1, Thing.off h2 g3 (fun k hk hk2 => h3 k hk2 hk), fun k hk hk2 => ?_, fun k hk => ?_⟩, h5.trans (g3.below (fun k hk => (h4 k (.inl hk)).1) h5.size), fun k hk => Nat.lt_of_lt_of_le (h6 k hk) g3.size⟩, fun k hk => g3.block k (h6 k hk) fun e => (h4 k (.inl e)).2 hk⟩
  · rcases g2 k hk with e | e
    · exact h3 k e hk2
    · have := Y.lt h2 k hk2; omega
  · rcases hk with hk | hk
    · rcases g2 k hk with e | e
      · exact h4 k (.inl e)
      · have := h5.size
        exact ⟨by omega, fun hN => by have := h6 k hN; omega⟩
    · exact h4 k (.inr hk)
theorem Duo.right {f : FuncId} {args : Array Value} {Q : Ending → World → Prop} (h : Duo w0 X Y N w) (hop : ∀ T, Y.p T w → Calls P f args w fun e w' => Q e w' ∧ Turn Y' T w w') :
    Calls P f args w fun e w' => Q e w' ∧ Duo w0 X Y' N w' ∧ ∀ k, N k → w'.heap[k]? = w.heap[k]? :=
  (h.swap.left hop).mono fun _ _ ⟨hq, hd, hc⟩ => ⟨hq, hd.swap, hc⟩
theorem Duo.askl {f : FuncId} {args : Array Value} {Q : Ending → World → Prop} (h : Duo w0 X Y N w) (hop : ∀ S, X.p S w → Calls P f args w fun e w' => Q e w' ∧ Below w.heap.size w w') : Calls P f args w fun e w' => Q e w' ∧ Duo w0 X Y N w' := by
  obtain ⟨S, T, h1, _⟩ := h.at_
  exact (hop S h1).mono fun e w' ⟨hq, hb⟩ => ⟨hq, h.next hb⟩
theorem Duo.askr {f : FuncId} {args : Array Value} {Q : Ending → World → Prop} (h : Duo w0 X Y N w) (hop : ∀ S, Y.p S w → Calls P f args w fun e w' => Q e w' ∧ Below w.heap.size w w') : Calls P f args w fun e w' => Q e w' ∧ Duo w0 X Y N w' := by
  obtain ⟨S, T, _, h1, _⟩ := h.at_
  exact (hop T h1).mono fun e w' ⟨hq, hb⟩ => ⟨hq, h.next hb⟩
end

section
variable {S T N : Nat → Prop} {Z : Nat} {X0 X1 Y0 Y1 : Thing} {w0 ws u u' : World} {f g : Bool}
end
end

/- The document's layer 15: nodes in memory; New, find, Lead: contracts. -/
section
open Go.RowKit
set_option maxRecDepth 100000

theorem entinfo : (Tryz.prog.info? 71).map (fun i => (i.zero, i.size, i.bytes)) = some (some (.agg #[.int .u64 0, .string ⟨#[]⟩]), 2, 24) := by kernel_rfl
theorem set_other {w : World} {p : Addr} {v : Value} {k : Nat} (h : k ≠ p.block) : (w.setCell p v).heap[k]? = w.heap[k]? := Below.heap_setCell _ _ _ _ fun e => h (by first | exact e | exact e.symm)
theorem set_size (w : World) (p : Addr) (v : Value) : (w.setCell p v).heap.size = w.heap.size := by simp [World.setCell]
theorem XR.off {w w' : World} {A : Option Addr} {n : Nat} {ss : List ByteArray} (h : XR w A n ss) (hz : w.heap.size ≤ w'.heap.size) (hk : ∀ ad, A = some ad → w'.heap[ad.block]? = w.heap[ad.block]?) : XR w' A n ss := by
  refine ⟨h.len, ?_⟩
  rcases h.rd with h | ⟨ad, e, hlt, hc⟩
  · exact .inl h
  · exact .inr ⟨ad, e, Nat.lt_of_lt_of_le hlt hz, fun j u hu => (World.cell?_of_block (by rw [add_block]; exact hk ad e)).trans (hc j u hu)⟩
/-- a connection's transaction as it lies -/
structure OpR where
  c : Int
  A : Option Addr
  n : Nat
  d : Nat
instance : Inhabited OpR := ⟨⟨0, none, 0, 0⟩⟩
section
variable {b : Nat} {n : Nd} {AL : Option Addr} {nl cl : Nat} {AO : Option Addr} {no co : Nat} {os : List OpR} {S : Nat → Prop} {w w' : World}
end
section
variable {b : Nat} {n : Nd} {S : Nat → Prop} {w : World}
end
end

/- Rows of numbers and of truths, as they lie in memory (no function of the program is named here). -/
section
open Go.RowKit
set_option maxRecDepth 100000

/-- a row of numbers that is read -/
structure NR (w : World) (A : Option Addr) (n : Nat) (zs : List Int) : Prop where
  len : zs.length = n
  rd : Rd w w.heap.size A (zs.map (Value.int .i64))
theorem NR.at_ {w : World} {A : Option Addr} {n : Nat} {zs : List Int} (h : NR w A n zs) {j : Nat} (hj : j < zs.length) : ∃ ad, A = some ad ∧ ad.block < w.heap.size ∧ ∀ w', Below w.heap.size w w' → w'.cell? (ad.add j) = some (.int .i64 zs[j]) := by
  obtain ⟨ad, hA, hb, hc⟩ := h.rd.at_ (k := j) (by rw [List.length_map]; exact hj)
  refine ⟨ad, hA, hb, fun w' hw => ?_⟩
  rw [hw.cell (by rw [add_block]; exact hb), hc]
  simp

theorem Rd.offR {w w' : World} {A : Option Addr} {xs : List Value} (h : Rd w w.heap.size A xs) (hz : w.heap.size ≤ w'.heap.size) (hk : ∀ ad, A = some ad → w'.heap[ad.block]? = w.heap[ad.block]?) : Rd w' w'.heap.size A xs := by
  rcases h with h | ⟨ad, e, hlt, hc⟩
  · exact .inl h
  · exact .inr ⟨ad, e, Nat.lt_of_lt_of_le hlt hz, fun j u hu => (World.cell?_of_block (by rw [add_block]; exact hk ad e)).trans (hc j u hu)⟩
end

/- An append of one element that tells where the row lies: where it lay, or in a new block (no function of the program is named here). -/
section
open Go.RowKit
set_option maxRecDepth 100000

theorem run_append_one {P : Program} {w : World} (t ty e : TypeId) (i : TypeInfo) (z : Value) (bytes : Nat) (ht : P.underlying t = some (.slice e)) (hi : P.info? e = some i) (hz : i.zero = some z)
    (hsize : i.size = 1) (hby : i.bytes = bytes) (hzs : z.cells.size = 1) {A : Option Addr} {n c : Nat} {xs : List Value} (hown : w.ownsRow 0 e 1 (.slice A n c) n xs) (ad : Addr) (c1 : Nat) (y : Value) (hy : w.cell? ad = some y) (h1 : y.oneCell' = true) (hn : n + 1 ≤ 1000) (hbytes : bytes ≤ 1000) :
    ∃ A' c' w', (Builtin.append_ #[t, t] ty #[.slice A n c, .slice (some ad) 1 c1]).run P w = .ok (.slice A' (n + 1) c') w' ∧ w'.ownsRow 0 e 1 (.slice A' (n + 1) c') (n + 1) (xs ++ [y]) ∧ w.grownBy w' (Value.slice A n c).ownBlock ∧
      ((Value.slice A' (n + 1) c').ownBlock = (Value.slice A n c).ownBlock ∨ ∃ g, (Value.slice A' (n + 1) c').ownBlock = some g ∧ w.heap.size ≤ g) := by
  have hcell : ∀ j u, [y][j]? = some u → w.cell? (ad.add j) = some u := fun j u hu => by
    match j, hu with
    | 0, hu =>
      rw [show ad.add 0 = ad from by unfold Addr.add; split <;> simp_all, hy]
      simpa using hu
  have hrd : Rd w (ad.block + 1) (some ad) [y] := .inr ⟨ad, rfl, Nat.lt_succ_self _, hcell⟩
  have hb1 : (n + 1) * bytes ≤ 140737488355328 := by
    have : (n + 1) * bytes ≤ 1000 * 1000 := Nat.mul_le_mul hn hbytes
    omega
  have ho1 : ∀ u ∈ [y], u.oneCell' = true := by simpa using h1
  obtain ⟨v', w', hr, h2, h3⟩ := run_append_rds (P := P) (w := w) 0 t ty e i z 1 bytes ht hi hz hsize hby hzs (by omega) (.slice A n c) n xs hown (ad.block + 1) (some ad) 1 c1 [y] rfl hrd ho1 (by unfold maxLen; omega) hb1 (Nat.zero_le _)
  obtain ⟨A', c', rfl, _, _⟩ := own_form_s h2
  refine ⟨A', c', w', hr, h2, h3, ?_⟩
  rcases hown.2 with ⟨h4, h5⟩ | ⟨g, cap, cur, h4, hbg, hg, hnc, hcm, hcs, htake⟩
  · injection h4 with e1 e2 e3
    subst e1 e2 e3
    obtain ⟨v2, w2, hr2, h22, _⟩ := run_append_rds (P := P) (w := w) w.heap.size t ty e i z 1 bytes ht hi hz hsize hby hzs (by omega) (.slice none 0 0) 0 xs ⟨hown.1, .inl ⟨rfl, rfl⟩⟩ (ad.block + 1) (some ad) 1 c1 [y] rfl hrd ho1 (by unfold maxLen; omega) hb1 (Nat.le_refl _)
    rw [hr] at hr2
    injection hr2 with e1 e2
    subst e1
    cases hq : (Value.slice A' (0 + 1) c').ownBlock with
    | none => exact .inl rfl
    | some g => exact .inr ⟨g, rfl, (h22.lt g hq).1⟩
  · injection h4 with e1 _ e3
    subst e1 e3
    have hs : Src P i.size t (.slice (some ad) 1 c1) 1 [y] w := Src.ofSlice w ht ad 1 c1 _ (by simp [hsize]) hcell ho1
    have hcs' : cur.size = c := by simpa using hcs
    by_cases hroom : n + 1 ≤ c
    · have hr2 := run_append_room_src (P := P) w t t ty e i ht hi g 0 n c _ 1 [y] hs hroom (fun j hj => by
          obtain rfl : j = 0 := by simpa using hj
          rw [hsize, show 0 + n * 1 + 0 = n by omega, cell_of_row _ _ n cur e (0, 0) hg, Array.getElem?_eq_getElem (by omega)]
          rfl) (fun j hj => frozen_of_row w g _ cur e hg)
      rw [hr] at hr2
      injection hr2 with e1 _
      injection e1 with e1 _ _
      subst e1
      exact .inl rfl
    · have hxl : xs.length = n := by simpa using hown.1
      have hold : (Builtin.firstCells i.size n (.slice (some ⟨g, 0, none⟩) n c)).run P w.drew = .ok xs.toArray w.drew := run_firstCells_some _ _ _ _ _ _ _ (by rw [hxl, hsize]; omega) fun j u hu => hown.cells (g := g) rfl j u hu
      have hr2 := run_append_grow_src (P := P) w t t ty e i z ht hi hz (some ⟨g, 0, none⟩) n c xs hold _ 1 [y] hs (by omega) (by omega) (growslice_fits (by omega) (by rw [hby]; exact hb1))
      rw [hr] at hr2
      injection hr2 with e1 _
      injection e1 with e1 _ _
      subst e1
      exact .inr ⟨_, rfl, Nat.le_refl _⟩
theorem wpList_append_run {P : Program} {ops : Array Oper} {rest : List Oper} {o : Oper} {a : Act} {w : World} {Q : Exit → Act → World → Prop} (hw : Region.wanted o (yielded ops a.tmps) = true) (s x : Operand) (t : TypeId)
    (ho : o.op = .call { callee := .builtin .append, args := #[s, x], argTypes := #[t, t] }) (v y : Value) (hs : a.eval s = v) (hx : a.eval x = y) {v3 : Value} {w3 : World}
    (hrun : (Builtin.append_ #[t, t] o.type #[v, y]).run P w = .ok v3 w3) (h : wpList P ops Q rest (a.put o.dst v3) w3) : wpList P ops Q (o :: rest) a w :=
  wpList_step fun _ hK => by
    rw [if_pos hw]
    unfold Oper.wp execOp
    simp only [ho, resolve, invoke, builtin, Sem.run_bind, Sem.run_pure, Result.andThen_ok, List.map_toArray, List.map_cons, List.map_nil, hs, hx, hrun]
    exact hK _ _ h
end

/- An append onto an empty literal: what lay there stays (no function of the program is named here). -/
section
open Go.RowKit
set_option maxRecDepth 100000
end

/- A region that draws its order, gone through once an operation: each operation keeps what it keeps (Kp), and a slot's fact need not outlive operations that are done ahead of it. -/
section
open Go.RowKit

/-- an operation waits for another; for another, in some steps -/
def depB (ops : Array Oper) (i j : Nat) : Bool := match ops[i]? with
  | some o => o.after.any fun e => Region.binds .any e && e.on == j
  | none => false
def needB (ops : Array Oper) : Nat → Nat → Nat → Bool
  | 0, i, j => depB ops i j
  | f + 1, i, j => depB ops i j || (List.range ops.size).any fun k => depB ops i k && needB ops f k j
theorem needB_done {ops : Array Oper} {L : Nat → Bool} (hcl : ∀ k j, L k = true → depB ops k j = true → L j = true) : ∀ (f i j : Nat), (∀ k, depB ops i k = true → L k = true) → needB ops f i j = true → L j = true
  | 0, _, _, hi, h => hi _ h
  | f + 1, i, j, hi, h => by
    unfold needB at h
    rcases Bool.or_eq_true_iff.1 h with h | h
    · exact hi _ h
    · obtain ⟨k, _, hk⟩ := List.any_eq_true.1 h
      obtain ⟨h1, h2⟩ := Bool.and_eq_true_iff.1 hk
      exact needB_done hcl f k j (fun q hq => hcl k q (hi k h1) hq) h2
section
variable {P : Program} {ops : Array Oper} {Q : Exit → Act → World → Prop}

end
end

/- A region that draws its order, gone through once an operation: as XReg4, and besides: operations that name no slot (stores), and operations whose guard is known to fail. -/
section
open Go.RowKit

/-- the checks that a region's table must pass -/
def regOk5 (ops : Array Oper) (n : Nat) : Bool :=
  ops.toList.all (fun o => match o.dst with | some d => decide (d < n) | none => true) &&
  decide (dstsOf ops).Nodup &&
  ops.toList.zipIdx.all (fun (o, i) => o.after.all fun e => !Region.binds .any e || decide (e.on < i))
theorem once_filterMap {α β : Type} (f : α → Option β) : ∀ {l : List α}, (l.filterMap f).Nodup → ∀ {i j : Nat} {x y : α} {d : β}, l[i]? = some x → l[j]? = some y → f x = some d → f y = some d → i = j
  | [], _, _, _, _, _, _, h, _, _, _ => by simp at h
  | z :: r, hn, i, j, x, y, d, hi, hj, hx, hy => by
    have hr : (r.filterMap f).Nodup := by
      rw [List.filterMap_cons] at hn
      split at hn
      · exact hn
      · exact (List.nodup_cons.1 hn).2
    cases i with
    | zero =>
      cases j with
      | zero => rfl
      | succ j =>
        exfalso
        simp only [List.getElem?_cons_zero, Option.some.injEq] at hi
        simp only [List.getElem?_cons_succ] at hj
        subst hi
        rw [List.filterMap_cons, hx] at hn
        exact (List.nodup_cons.1 hn).1 (List.mem_filterMap.2 ⟨y, List.mem_of_getElem? hj, hy⟩)
    | succ i =>
      cases j with
      | zero =>
        exfalso
        simp only [List.getElem?_cons_zero, Option.some.injEq] at hj
        simp only [List.getElem?_cons_succ] at hi
        subst hj
        rw [List.filterMap_cons, hy] at hn
        exact (List.nodup_cons.1 hn).1 (List.mem_filterMap.2 ⟨x, List.mem_of_getElem? hi, hx⟩)
      | succ j =>
        simp only [List.getElem?_cons_succ] at hi hj
        rw [once_filterMap f hr hi hj hx hy]
section
variable {P : Program} {ops : Array Oper} {Q : Exit → Act → World → Prop}
end

/-- nothing is asked of what an operation keeps -/
def KeepT (_ : Nat) (_ _ : World) : Prop := True
end

/- A region that draws its order, gone through once an operation: as XReg5, but a slot's fact may turn with what is done (it need not outlive who reads it). -/
section
open Go.RowKit

/-- a fact of a value, by what is done; what each operation keeps keeps it -/
structure Stl (Kp : Nat → World → World → Prop) where
  p : (Nat → Bool) → Value → World → Prop
  st : ∀ i L v u u', L i = false → p L v u → Kp i u u' → p (doneB L i) v u'
def Stl.any (Kp : Nat → World → World → Prop) : Stl Kp := ⟨fun _ _ _ => True, fun _ _ _ _ _ _ _ _ => trivial⟩
/-- the value is known -/
def Stl.eq {Kp : Nat → World → World → Prop} (c : Value) : Stl Kp := ⟨fun _ v _ => v = c, fun _ _ _ _ _ _ h _ => h⟩
def Stl.find {Kp : Nat → World → World → Prop} : List (Nat × Stl Kp) → Nat → Stl Kp
  | [], _ => Stl.any Kp
  | (t, s) :: r, u => bif Nat.beq t u then s else Stl.find r u
theorem done_same {L : Nat → Bool} {i : Nat} : doneB L i i = true := by
  unfold doneB
  rw [show Nat.beq i i = true from Nat.beq_refl i]
  rfl
section
variable {P : Program} {ops : Array Oper} {Q : Exit → Act → World → Prop}
/-- what one operation leaves -/
def Went6 (S : (Nat → Bool) → World → Prop) {Kp : Nat → World → World → Prop} (Sp : Nat → Stl Kp) (L : Nat → Bool) (i : Nat) (a : Act) (d : Option Tmp) (w : World) (a' : Act) (w' : World) : Prop :=
  ∃ v, a' = a.put d v ∧ S (doneB L i) w' ∧ Kp i w w' ∧ ∀ t, d = some t → (Sp t).p (doneB L i) v w'
theorem Went6.same {S : (Nat → Bool) → World → Prop} {Kp : Nat → World → World → Prop} {Sp : Nat → Stl Kp} {L : Nat → Bool} {i : Nat} {a : Act} {t : Nat} {w : World} {v : Value} (hr : Kp i w w) (hS : S (doneB L i) w) (h : (Sp t).p (doneB L i) v w)  : Went6 S Sp L i a (some t) w { tmps := a.tmps.setIfInBounds t v, defers := a.defers } w :=
  ⟨v, rfl, hS, hr, fun _ e => by injection e with e; subst e; exact h⟩
theorem Went6.next {S : (Nat → Bool) → World → Prop} {Kp : Nat → World → World → Prop} {Sp : Nat → Stl Kp} {L : Nat → Bool} {i : Nat} {a : Act} {t : Nat} {w w' : World} {v : Value} (hS : S (doneB L i) w') (hb : Kp i w w') (h : (Sp t).p (doneB L i) v w')  : Went6 S Sp L i a (some t) w { tmps := a.tmps.setIfInBounds t v, defers := a.defers } w' :=
  ⟨v, rfl, hS, hb, fun _ e => by injection e with e; subst e; exact h⟩
end
section
variable {P : Program} {ops : Array Oper} {Q : Exit → Act → World → Prop}
/-- what is asked of one operation -/
def OkOp6 (P : Program) (ops : Array Oper) (Q : Exit → Act → World → Prop) (S : (Nat → Bool) → World → Prop) {Kp : Nat → World → World → Prop} (Sp : Nat → Stl Kp) (a0 : Act) (i : Nat) (o : Oper) : Prop :=
  ∀ L a w, L i = false → StandI ops i a0 a → S L w → (∀ t, (waitsFor ops o).contains t = true → (Sp t).p L (a.tmps.getD t undef) w) → (∀ f j, needB ops f i j = true → L j = true) → (∀ f k, needB ops f k i = true → L k = false) →
    (Wants ops a o ∧ o.wp P a w (Went6 S Sp L i a o.dst w) Q) ∨ (WantsNot ops a o ∧ S (doneB L i) w ∧ Kp i w w ∧ ∀ t, o.dst = some t → (Sp t).p (doneB L i) undef w)

theorem wpAny_specs6 (S : (Nat → Bool) → World → Prop) {Kp : Nat → World → World → Prop} (Sp : Nat → Stl Kp) (a0 : Act) (hok : regOk5 ops a0.tmps.size = true)
    (each : EachOp (OkOp6 P ops Q S Sp a0) 0 ops.toList)
    (fin : ∀ L a w, (∀ j, j < ops.size → L j = true) → Stand ops a0 a → S L w → (∀ t, (dstsOf ops).contains t = true → (Sp t).p L (a.tmps.getD t undef) w) → Q .normal a w) :
    ∀ (fuel : Nat) (listed : Array Bool) (a : Act) (w : World), listed.size = ops.size → ((List.range ops.size).filter fun i => !listed.getD i true).length ≤ fuel →
      Stand ops a0 a → S (fun j => listed.getD j false) w → (∀ i d, listed.getD i false = true → dstOf ops i = some d → (Sp d).p (fun j => listed.getD j false) (a.tmps.getD d undef) w) →
      (∀ j d, j < ops.size → listed.getD j false = false → dstOf ops j = some d → a.tmps.getD d undef = a0.tmps.getD d undef) →
      (∀ j o, listed.getD j false = true → ops[j]? = some o → ∀ e ∈ o.after, Region.binds .any e = true → listed.getD e.on false = true) → wpAny P .any ops Q fuel listed a w := by
  simp only [regOk5, Bool.and_eq_true, List.all_eq_true, decide_eq_true_eq] at hok
  obtain ⟨⟨hdst, hnd⟩, hlow⟩ := hok
  have hdst' : ∀ o ∈ ops.toList, ∀ d, o.dst = some d → d < a0.tmps.size := fun o ho d hd => by
    have := hdst o ho
    rw [hd] at this
    simpa using this
  have hinj : ∀ i j d, dstOf ops i = some d → dstOf ops j = some d → i = j := fun i j d hi hj => by
    unfold dstOf at hi hj
    obtain ⟨x, hx, hxd⟩ := Option.bind_eq_some_iff.1 hi
    obtain ⟨y, hy, hyd⟩ := Option.bind_eq_some_iff.1 hj
    exact once_filterMap (l := ops.toList) (fun o : Oper => o.dst) hnd (by simpa using hx) (by simpa using hy) hxd hyd
  have hready0 : ∀ listed : Array Bool, listed.size = ops.size → Region.ready .any ops listed = [] → ∀ i, i < ops.size → listed.getD i false = true := by
    intro listed hsz hr i
    induction i using Nat.strongRecOn with
    | _ i ih =>
      intro hi
      cases hl : listed.getD i false with
      | true => rfl
      | false =>
        exfalso
        have hl2 : listed.getD i true = false := by
          rw [Array.getD_eq_getD_getElem?, Array.getElem?_eq_getElem (by omega)] at hl ⊢; simpa using hl
        have hm : i ∈ Region.ready .any ops listed := by
          unfold Region.ready
          rw [List.mem_filter]
          refine ⟨List.mem_range.2 hi, ?_⟩
          rw [hl2, Array.getElem?_eq_getElem hi]
          simp only [Bool.not_false, Bool.true_and, Option.map_some, Option.getD_some, Array.all_eq_true_iff_forall_mem]
          intro e he
          have h1 := hlow (ops[i], i) (by rw [List.mem_zipIdx_iff_getElem?]; simp [hi])
          simp only [Array.all_eq_true_iff_forall_mem] at h1
          have h2 := h1 e he
          cases hb : Region.binds .any e with
          | false => simp
          | true =>
            rw [hb] at h2
            have h3 : e.on < i := by simpa using h2
            simp [ih e.on h3 (by omega)]
        rw [hr] at hm
        cases hm
  have hfin : ∀ listed a w, listed.size = ops.size → Stand ops a0 a → S (fun j => listed.getD j false) w → (∀ i d, listed.getD i false = true → dstOf ops i = some d → (Sp d).p (fun j => listed.getD j false) (a.tmps.getD d undef) w) → Region.ready .any ops listed = [] → Q .normal a w := by
    intro listed a w hsz hst hS hsp hr
    refine fin _ a w (hready0 listed hsz hr) hst hS fun t ht => ?_
    obtain ⟨o, ho, he⟩ := List.mem_filterMap.1 (List.contains_iff_mem.1 ht)
    obtain ⟨i, hi, hio⟩ := List.mem_iff_getElem.1 ho
    have hi' : i < ops.size := by simpa using hi
    have hd : dstOf ops i = some t := by
      unfold dstOf
      rw [Array.getElem?_eq_getElem hi', show ops[i] = o by rw [← hio]; simp]
      exact he
    exact hsp i t (hready0 listed hsz hr i hi') hd
  intro fuel
  induction fuel with
  | zero =>
    intro listed a w hsz hc hst hS hsp _ _
    have hr : Region.ready .any ops listed = [] := by
      have h0 : ((List.range ops.size).filter fun i => !listed.getD i true) = [] := List.eq_nil_of_length_eq_zero (by omega)
      unfold Region.ready
      rw [List.filter_eq_nil_iff] at h0 ⊢
      intro i hi
      have := h0 i hi
      simp only [Bool.not_eq_true] at this ⊢
      rw [this, Bool.false_and]
    exact ⟨hr, hfin listed a w hsz hst hS hsp hr⟩
  | succ fuel ih =>
    intro listed a w hsz hc hst hS hsp hun0 hcl
    refine ⟨hfin listed a w hsz hst hS hsp, fun i hi => ?_⟩
    unfold Region.ready at hi
    rw [List.mem_filter, List.mem_range] at hi
    obtain ⟨hilt, hi2⟩ := hi
    rw [Array.getElem?_eq_getElem hilt] at hi2
    simp only [Bool.and_eq_true, Option.map_some, Option.getD_some, Array.all_eq_true_iff_forall_mem] at hi2
    obtain ⟨hun, hdeps⟩ := hi2
    have hdi : dstOf ops i = (ops[i]).dst := by unfold dstOf; rw [Array.getElem?_eq_getElem hilt]; rfl
    have hthis := each.at_ i ops[i] (by simp [hilt])
    rw [Nat.zero_add] at hthis
    have hni : listed.getD i false = false := by
      have hl : listed.getD i true = false := by simpa using hun
      rw [Array.getD_eq_getD_getElem?, Array.getElem?_eq_getElem (by omega)] at hl ⊢
      simpa using hl
    have hold : ∀ t, (laterOf ops i).contains t = true → a.tmps.getD t undef = a0.tmps.getD t undef := fun t ht => by
      unfold laterOf at ht
      obtain ⟨o, ho, hot⟩ := List.mem_filterMap.1 (List.contains_iff_mem.1 ht)
      rw [List.mem_filter] at ho
      obtain ⟨j, hj, hje⟩ := List.mem_iff_getElem.1 ho.1
      have hj' : j < ops.size := by simpa using hj
      have hjo : ops[j]? = some o := by rw [Array.getElem?_eq_getElem hj', ← hje]; simp
      have hdj : dstOf ops j = some t := by unfold dstOf; rw [hjo]; exact hot
      refine hun0 j t hj' ?_ hdj
      rw [Bool.eq_false_iff]
      intro hlj
      obtain ⟨e, he, h2⟩ := Array.any_eq_true'.1 ho.2
      simp only [Bool.and_eq_true, beq_iff_eq] at h2
      have := hcl j o hlj hjo e he h2.1
      rw [h2.2, hni] at this
      cases this
    have hclB : ∀ k q, (fun j => listed.getD j false) k = true → depB ops k q = true → (fun j => listed.getD j false) q = true := fun k q hk hq => by
      unfold depB at hq
      cases hko : ops[k]? with
      | none => rw [hko] at hq; cases hq
      | some o =>
        rw [hko] at hq
        obtain ⟨e, he, h3⟩ := Array.any_eq_true'.1 hq
        simp only [Bool.and_eq_true, beq_iff_eq] at h3
        have h4 := hcl k o hk hko e he h3.1
        rw [h3.2] at h4
        exact h4
    have hor := hthis _ a w hni ⟨hst, hold⟩ hS (fun t ht => by
      unfold waitsFor at ht
      obtain ⟨e, he, het⟩ := List.mem_filterMap.1 (List.contains_iff_mem.1 ht)
      rw [List.mem_filter] at he
      have := hdeps e (by simpa using he.1)
      rw [he.2] at this
      exact hsp e.on t (by simpa using this) het) (fun f j hj => needB_done (L := fun j => listed.getD j false) (fun k q hk hq => by
        unfold depB at hq
        cases hko : ops[k]? with
        | none => rw [hko] at hq; cases hq
        | some o =>
          rw [hko] at hq
          obtain ⟨e, he, h3⟩ := Array.any_eq_true'.1 hq
          simp only [Bool.and_eq_true, beq_iff_eq] at h3
          have h4 := hcl k o hk hko e he h3.1
          rw [h3.2] at h4
          exact h4) f i j (fun k hk => by
        unfold depB at hk
        rw [Array.getElem?_eq_getElem hilt] at hk
        obtain ⟨e, he, h3⟩ := Array.any_eq_true'.1 hk
        simp only [Bool.and_eq_true, beq_iff_eq] at h3
        have h4 := hdeps e he
        rw [h3.1, h3.2] at h4
        simpa using h4) hj) (fun f k hk => by
        cases hlk : listed.getD k false with
        | false => rfl
        | true =>
          have h6 : listed.getD i false = true := needB_done (L := fun j => listed.getD j false) hclB f k i (fun q hq => hclB k q hlk hq) hk
          rw [hni] at h6
          cases h6)
    suffices key : ∀ a' w', Went6 S Sp (fun j => listed.getD j false) i a (ops[i]).dst w a' w' → wpAny P .any ops Q fuel (listed.setIfInBounds i true) a' w' by
      unfold wpOp
      simp only [Array.getElem?_eq_getElem hilt]
      rcases hor with ⟨hw, hwp⟩ | ⟨hw, hS', hk', hsp'⟩
      · simp only [wants hw, if_true]
        exact .inl (Oper.wp_mono (fun a' w' h => key a' w' h) hwp)
      · rw [wants_not hw]
        simp only [Bool.false_eq_true, if_false]
        exact key _ _ ⟨undef, rfl, hS', hk', hsp'⟩
    rintro a' w' ⟨v, rfl, hS', hb, hsp'⟩
    have hval : ∀ d, (ops[i]).dst = some d → ((a.put (ops[i]).dst v).tmps.getD d undef) = v := fun d hd => by
      rw [hd]
      simp only [Act.put]
      rw [Array.getD_eq_getD_getElem?, Array.getElem?_setIfInBounds_self_of_lt (by rw [hst.size]; exact hdst' ops[i] (by simp) d hd)]
      rfl
    have hoth : ∀ t, (ops[i]).dst ≠ some t → (a.put (ops[i]).dst v).tmps.getD t undef = a.tmps.getD t undef := fun t ht => by
      cases hd : (ops[i]).dst with
      | none => rfl
      | some d =>
        simp only [Act.put]
        rw [Array.getD_eq_getD_getElem?, Array.getD_eq_getD_getElem?, Array.getElem?_setIfInBounds_ne (fun h => ht (by rw [hd, h]))]
    have hput : (a.put (ops[i]).dst v).tmps.size = a0.tmps.size ∧ (a.put (ops[i]).dst v).defers = a0.defers := by
      cases (ops[i]).dst <;> simp [Act.put, hst.size, hst.defers]
    have hset : ∀ j, j ≠ i → (listed.setIfInBounds i true).getD j false = listed.getD j false := fun j hji => by
      rw [Array.getD_eq_getD_getElem?, Array.getElem?_setIfInBounds_ne (fun h => hji h.symm), ← Array.getD_eq_getD_getElem?]
    have hseti : (listed.setIfInBounds i true).getD i false = true := by
      rw [Array.getD_eq_getD_getElem?, Array.getElem?_setIfInBounds_self_of_lt (by omega)]; rfl
    refine ih _ _ _ (by simp [hsz]) ?_ ⟨hput.1, hput.2, fun t ht => ?_⟩ (by rw [doneB_ext (L := fun j => listed.getD j false) (i := i) (M := fun j => (listed.setIfInBounds i true).getD j false) hseti hset]; exact hS') (fun j dj hj hdj => ?_) (fun j dj hj hlj hdj => ?_) (fun j o hlj hjo e he hb2 => ?_)
    · have hl : listed.getD i true = false := by simpa using hun
      have := filter_lt (l := List.range ops.size) (p := fun j => !listed.getD j true) (q := fun j => !(listed.setIfInBounds i true).getD j true) (fun x hx => by
        by_cases hxi : i = x
        · subst hxi
          rw [Array.getD_eq_getD_getElem?, Array.getElem?_setIfInBounds_self_of_lt (by omega)] at hx
          simp at hx
        · rw [Array.getD_eq_getD_getElem?, Array.getElem?_setIfInBounds_ne hxi, ← Array.getD_eq_getD_getElem?] at hx
          exact hx) (i := i) (List.mem_range.2 hilt) (by simp [hl]) (by
          rw [Array.getD_eq_getD_getElem?, Array.getElem?_setIfInBounds_self_of_lt (by omega)]; simp)
      omega
    · rw [hoth t, hst.out t ht]
      intro e
      have : (dstsOf ops).contains t = true := List.contains_iff_mem.2 (List.mem_filterMap.2 ⟨ops[i], by simp, e⟩)
      rw [this] at ht
      cases ht
    · by_cases hji : j = i
      · subst hji
        rw [hdi] at hdj
        rw [hval dj hdj, doneB_ext (L := fun q => listed.getD q false) (i := j) (M := fun q => (listed.setIfInBounds j true).getD q false) hseti hset]
        exact hsp' dj hdj
      · have hne : (ops[i]).dst ≠ some dj := fun e => hji (hinj j i dj hdj (hdi.trans e))
        rw [hoth dj hne]
        rw [Array.getD_eq_getD_getElem?, Array.getElem?_setIfInBounds_ne (fun h => hji h.symm), ← Array.getD_eq_getD_getElem?] at hj
        rw [doneB_ext (L := fun j => listed.getD j false) (i := i) (M := fun j => (listed.setIfInBounds i true).getD j false) hseti hset]
        exact (Sp dj).st i _ _ _ _ hni (hsp j dj hj hdj) hb
    · have hji : j ≠ i := fun h => by rw [h, hseti] at hlj; cases hlj
      rw [hset j hji] at hlj
      rw [hoth dj (fun e => hji (hinj j i dj hdj (hdi.trans e)))]
      exact hun0 j dj hj hlj hdj
    · have hon : listed.getD e.on false = true := by
        by_cases hji : j = i
        · subst hji
          rw [Array.getElem?_eq_getElem hilt] at hjo
          injection hjo with hjo
          subst hjo
          have := hdeps e he
          rw [hb2] at this
          simpa using this
        · rw [hset j hji] at hlj
          exact hcl j o hlj hjo e he hb2
      by_cases hei : e.on = i
      · rw [hei]; exact hseti
      · rw [hset _ hei]; exact hon

theorem wp_region_specs6 {id : Nat} {a0 : Act} {w0 : World} (S : (Nat → Bool) → World → Prop) {Kp : Nat → World → World → Prop} (Sp : List (Nat × Stl Kp)) (hm : P.follows .mixedOrders = true) (hok : regOk5 ops a0.tmps.size = true) (hS : S (fun _ => false) w0.drew)
    (each : EachOp (OkOp6 P ops Q S (Stl.find Sp) a0) 0 ops.toList)
    (fin : ∀ L a w, (∀ j, Nat.blt j ops.size = true → L j = true) → Stand ops a0 a → S L w → (∀ t, (dstsOf ops).contains t = true → (Stl.find Sp t).p L (a.tmps.getD t undef) w) → Q .normal a w) :
    (Code.region id ops true).wp P Q a0 w0 :=
  wp_region_any hm (wpAny_specs6 S (Stl.find Sp) a0 hok each (fun L a w hL => fin L a w fun j hj => hL j (Nat.le_of_ble_eq_true hj)) _ _ _ _ (by simp) (by
    refine Nat.le_trans (List.length_filter_le _ _) (by simp)) ⟨rfl, rfl, fun _ _ => rfl⟩ (by rw [show (fun j => (Array.replicate ops.size false).getD j false) = fun _ => false from by funext j; rw [Array.getD_eq_getD_getElem?, Array.getElem?_replicate]; split <;> rfl]; exact hS) (fun i d h => by
    exfalso
    rw [Array.getD_eq_getD_getElem?, Array.getElem?_replicate] at h
    split at h <;> simp at h) (fun _ _ _ _ _ => rfl) (fun j o h => by
    exfalso
    rw [Array.getD_eq_getD_getElem?, Array.getElem?_replicate] at h
    split at h <;> simp at h))
end

/-- what an operation that isn't one of these two leaves is new -/
def Kp2 (d1 d2 : Nat) (i : Nat) (u u' : World) : Prop := i ≠ d1 → i ≠ d2 → Below u.heap.size u u'
theorem Kp2.refl (d1 d2 i : Nat) (u : World) : Kp2 d1 d2 i u u := fun _ _ => Below.refl _ _
end

/- The document's layer 15: Close, lay: contracts. -/
section
open Go.RowKit
set_option maxRecDepth 100000

section
variable {P : Program} {w : World}
end
theorem XR.offO {w w' : World} {S : Nat → Prop} {A : Option Addr} {n : Nat} {ss : List ByteArray} (h : XR w A n ss) (ho : Off S w w') (hn : ∀ ad, A = some ad → ¬ S ad.block) : XR w' A n ss := by
  refine ⟨h.len, ?_⟩
  rcases h.rd with h1 | ⟨ad, e, hlt, hc⟩
  · exact .inl h1
  · exact .inr ⟨ad, e, Nat.lt_of_lt_of_le hlt ho.size, fun j u hu => (World.cell?_of_block (by rw [add_block]; exact ho.block _ hlt (hn ad e))).trans (hc j u hu)⟩
section
variable {b : Nat} {n n' n'' : Nd} {S : Nat → Prop} {w w' w'' : World}
/-- rows of two cells, cut -/
theorem cut2_0 {w : World} {B : Nat} {A : Option Addr} {n c : Nat} {xs : List Value} (hr : Rd w B A xs) (P : Program) (t : TypeId) (ht : P.underlying t = some (.slice (P.elem t))) (hz : (P.info? (P.elem t)).map (·.size) = some 2) {j : Nat} (y : Int) (hy : y = j) (hj : j ≤ n) (hc : n ≤ c) :
    ∃ A', (∀ u, (Instr.slice t (.slice A n c) none (some (.int .i64 y)) none).run P u = .ok (.slice A' j c) u) ∧ Rd w B A' (xs.take (j * 2)) := by
  obtain ⟨ti, hti, hsz⟩ := Option.map_eq_some_iff.1 hz
  refine ⟨A, fun u => ?_, hr.front _⟩
  subst hy
  rw [run_slice_h u t A n c ht .i64 j (by omega) (by omega)]
  cases A with
  | none => simp [sizeOf, typeInfo, hti, hsz, sliced, Result.andThen]
  | some ad => simp [sizeOf, typeInfo, hti, hsz, sliced, Result.andThen, Addr.add]
theorem cut2_1 {w : World} {B : Nat} {A : Option Addr} {n c : Nat} {xs : List Value} (hl : xs.length = n * 2) (hr : Rd w B A xs) (P : Program) (t : TypeId) (ht : P.underlying t = some (.slice (P.elem t))) (hz : (P.info? (P.elem t)).map (·.size) = some 2) {i : Nat} (x : Int) (hx : x = i) (hi : i ≤ n) (hc : n ≤ c) :
    ∃ A', (∀ u, (Instr.slice t (.slice A n c) (some (.int .i64 x)) none none).run P u = .ok (.slice A' (n - i) (c - i)) u) ∧ Rd w B A' (xs.drop (i * 2)) := by
  obtain ⟨ti, hti, hsz⟩ := Option.map_eq_some_iff.1 hz
  have hr2 := hr.cut (k := i * 2) (cap := c * 2) (by omega)
  have e : (if c * 2 = i * 2 then A else A.map (·.add (i * 2))) = if c = i then A else A.map (·.add (i * 2)) := by
    by_cases hci : c = i
    · rw [if_pos hci, if_pos (by rw [hci])]
    · rw [if_neg hci, if_neg (by omega)]
  rw [e] at hr2
  refine ⟨_, fun u => ?_, hr2⟩
  subst hx
  rw [run_slice_l u t A n c ht .i64 i (by omega) (by omega)]
  simp [sizeOf, typeInfo, hti, hsz, sliced, Result.andThen]
end
end
end Go.Proofs.YtaoegiohnebnhaaGreatDoor
