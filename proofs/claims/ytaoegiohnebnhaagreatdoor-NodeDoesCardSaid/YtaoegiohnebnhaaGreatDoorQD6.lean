/-
  Contracts and plain functions that the law stands on, part 6 of 24.
-/
import Derived.Test.YtaoegiohnebnhaaGreatDoorQD5
import Derived.Laws.Cover1
import Derived.Lib.AppendZerosOnto
import Derived.Lib.SliceRun
import Derived.BigQuiet
import Derived.BigRegion
import Derived.OneCell
namespace Go.Proofs.YtaoegiohnebnhaaGreatDoor
/- Where a key stands in a table: place, and the library's binary search, by calls: contracts. -/
section
open Go.RowKit
set_option maxRecDepth 100000

def cmpB (a b : ByteArray) : Int := if ltB a b then -1 else if a = b then 0 else 1
theorem cmpB_lt {a b : ByteArray} : decide (cmpB a b < 0) = ltB a b := by
  unfold cmpB
  cases ltB a b with
  | true => rfl
  | false =>
    by_cases h : a = b
    · rw [if_neg (by simp), if_pos h]; rfl
    · rw [if_neg (by simp), if_neg h]; rfl
theorem cmpB_eq {a b : ByteArray} : (cmpB a b == 0) = decide (a = b) := by
  unfold cmpB
  by_cases h : a = b
  · subst h
    rw [ltB_irrefl]
    simp
  · cases ltB a b with
    | true => simp [h]
    | false => simp [h]

theorem ret_b {a b : Bool} (h : a = b) : Ending.returned (.bool a) = .returned (.bool b) := by rw [h]
theorem isNaN_ok (s : ByteArray) (w : World) : Calls Tryz.prog 142 #[.string s] w fun e w' => e = .returned (.bool false) ∧ w = w' := by
  go_enter Tryz.func142, Tryz.ntmps142
  go_wp2_with fail
  go_ret
  exact ⟨ret_b (by simp), rfl⟩

set_option maxHeartbeats 1000000 in
theorem compare_ok (a b : ByteArray) (w : World) : Calls Tryz.prog 113 #[.string a, .string b] w fun e w' => e = .returned (.int .i64 (cmpB a b)) ∧ w = w' := by
  have H1 := fun u => isNaN_ok a u
  have H2 := fun u => isNaN_ok b u
  have hR : cmpB a b = if ltB a b then -1 else if a = b then 0 else 1 := rfl
  have hT : ∀ x, Hid (ltB a b = x) → Op.bytesLess a.toList b.toList = x := fun x h => h.out
  cases hl : ltB a b with
  | true =>
    rw [hl, if_pos rfl] at hR
    have hb := hT _ (Lib.hid hl)
    have HR := Lib.hid hR
    clear hl hT hR
    go_enter Tryz.func113, Tryz.ntmps113
    go_wp2_with fail
    refine (H1 _).mono ?_
    rintro e w1 ⟨rfl, rfl⟩
    go_wp2_with fail
    refine (H2 _).mono ?_
    rintro e w1 ⟨rfl, rfl⟩
    go_wp2_with fail
    go_ret
    exact ⟨by rw [HR.out]; rfl, rfl⟩
  | false =>
    rw [hl, if_neg (by simp)] at hR
    have hb := hT _ (Lib.hid hl)
    by_cases he : a = b
    · rw [if_pos he] at hR
      have hb2 : (a.toList == b.toList) = true := by rw [he]; simp
      have HR := Lib.hid hR
      clear hl hT hR he
      go_enter Tryz.func113, Tryz.ntmps113
      go_wp2_with fail
      refine (H1 _).mono ?_
      rintro e w1 ⟨rfl, rfl⟩
      go_wp2_with fail
      refine (H2 _).mono ?_
      rintro e w1 ⟨rfl, rfl⟩
      go_wp2_with fail
      go_ret
      exact ⟨by rw [HR.out]; rfl, rfl⟩
    · rw [if_neg he] at hR
      have hb2 : (a.toList == b.toList) = false := by
        simp only [beq_eq_false_iff_ne, ne_eq]
        exact fun h => he (bytes_ext h)
      have HR := Lib.hid hR
      clear hl hT hR he
      go_enter Tryz.func113, Tryz.ntmps113
      go_wp2_with fail
      refine (H1 _).mono ?_
      rintro e w1 ⟨rfl, rfl⟩
      go_wp2_with fail
      refine (H2 _).mono ?_
      rintro e w1 ⟨rfl, rfl⟩
      go_wp2_with fail
      go_ret
      exact ⟨by rw [HR.out]; rfl, rfl⟩

theorem keyOf_ok (k v : ByteArray) (w : World) : Calls Tryz.prog 79 #[.agg #[.string k, .string v]] w fun e w' => e = .returned (.string k) ∧ Below w.heap.size w w' := by
  have kw := kp_new w (.cells #[.string k, .string v] 48)
  go_enter Tryz.func79, Tryz.ntmps79
  go_wp2_with fail
  go_ret
  exact ⟨rfl, kw⟩

set_option maxHeartbeats 1000000 in
/-- the closure that the search is given: a pair's key against a key -/
theorem against_ok (k v key : ByteArray) (b : Nat) (w : World) (hc : w.cell? ⟨b, 0, none⟩ = some (.func (.func 79) #[] #[])) (hlt : b < w.heap.size) :
    Calls Tryz.prog 112 #[.agg #[.string k, .string v], .string key, .pointer (some ⟨b, 0, none⟩)] w fun e w' => e = .returned (.int .i64 (cmpB k key)) ∧ Below w.heap.size w w' := by
  have kw := kp_new w (.cells #[.string k, .string v] 48)
  go_enter Tryz.func112, Tryz.ntmps112
  go_wp2_with fail
  refine (keyOf_ok k v _).mono ?_
  rintro e w1 ⟨rfl, k1⟩
  go_wp2_with fail
  refine (compare_ok k key _).mono ?_
  rintro e w2 ⟨rfl, rfl⟩
  go_wp2_with fail
  go_ret
  exact ⟨rfl, kp_trans kw k1⟩

set_option maxHeartbeats 2000000 in
theorem search_ok (A : Option Addr) (n c : Nat) (ts : List Kv) (key : ByteArray) (b : Nat) (w : World) (h : KR w A n ts) (hs : Srt ts) (hn : n ≤ 1000000) (hc : w.cell? ⟨b, 0, none⟩ = some (.func (.func 79) #[] #[])) (hlt : b < w.heap.size) :
    Calls Tryz.prog 111 #[.slice A n c, .string key, .func (.func 112) #[] #[.pointer (some ⟨b, 0, none⟩)]] w
      fun e w' => e = .returned (.tuple #[.int .i64 (posF key ts : Nat), .bool (thereF key ts)]) ∧ Below w.heap.size w w' := by
  have HL := Lib.hid h.len
  have HS := Lib.hid hs
  have HH := Lib.hid h
  have HC := Lib.hid hc
  have HB := Lib.hid hlt
  clear h hs hc hlt
  go_enter Tryz.func111, Tryz.ntmps111
  go_wp2
  go_loopw [9, 10] (fun i j wr => ∃ lo hi : Nat, i = .int .i64 lo ∧ j = .int .i64 hi ∧ lo ≤ hi ∧ hi ≤ n ∧ Hid (∀ t (ht : t < ts.length), t < lo → ltB ts[t].k key = true) ∧ Hid (∀ t (ht : t < ts.length), hi ≤ t → ltB ts[t].k key = false) ∧ Below w.heap.size w wr) (fun i j _ => (intOf j).toNat - (intOf i).toNat)
  case atStart => exact ⟨0, n, rfl, rfl, Nat.zero_le _, Nat.le_refl _, Lib.hid (fun t _ h => absurd h (Nat.not_lt_zero _)), Lib.hid (fun t ht h => by have := HL.out; omega), Below.refl _ _⟩
  case round =>
    obtain ⟨lo, hi, rfl, rfl, hlh, hin, I1, I2, k0⟩ := hrel
    by_cases hlt : lo < hi
    · have hm : (lo + hi) / 2 < ts.length := by rw [HL.out]; omega
      obtain ⟨ad, rfl, _, hcc⟩ := HH.out.at_ hm
      obtain ⟨c0, c1⟩ := hcc _ k0
      clear hcc
      have HA := Lib.hid (against_ok ts[(lo + hi) / 2].k ts[(lo + hi) / 2].v key b wr ((k0.cell HB.out).trans HC.out) (Nat.lt_of_lt_of_le HB.out k0.size))
      have HE := Lib.hid (cmpB_lt (a := ts[(lo + hi) / 2].k) (b := key))
      cases hl : ltB ts[(lo + hi) / 2].k key with
      | true =>
        have J1 : Hid (∀ t (ht : t < ts.length), t < (lo + hi) / 2 + 1 → ltB ts[t].k key = true) := Lib.hid (fun t ht h => by
          by_cases he : t = (lo + hi) / 2
          · subst he; exact hl
          · exact ltB_trans (HS.out.at_ hm (show t < (lo + hi) / 2 by omega)) hl)
        replace HE : Hid (decide (cmpB ts[(lo + hi) / 2].k key < 0) = true) := Lib.hid (by rw [HE.out, hl])
        clear hl I1
        generalize ts[(lo + hi) / 2].k = x at *
        generalize ts[(lo + hi) / 2].v = y at *
        generalize cmpB x key = z at *
        have hz : z < 0 := by simpa using HE.out
        go_wp2_with fail
        refine HA.out.mono ?_
        rintro e w1 ⟨rfl, k1⟩
        go_wp2_with fail
        go_roundw
        case rel => exact ⟨(lo + hi) / 2 + 1, hi, by go_num, rfl, by omega, hin, J1, I2, kp_trans k0 k1⟩
        case measure => simp [intOf]; omega
      | false =>
        have J2 : Hid (∀ t (ht : t < ts.length), (lo + hi) / 2 ≤ t → ltB ts[t].k key = false) := Lib.hid (fun t ht h => by
          by_cases he : t = (lo + hi) / 2
          · subst he; exact hl
          · cases h2 : ltB ts[t].k key with
            | false => rfl
            | true => rw [← hl]; exact (ltB_trans (HS.out.at_ (i := (lo + hi) / 2) ht (by omega)) h2).symm ▸ rfl)
        replace HE : Hid (decide (cmpB ts[(lo + hi) / 2].k key < 0) = false) := Lib.hid (by rw [HE.out, hl])
        clear hl I2
        generalize ts[(lo + hi) / 2].k = x at *
        generalize ts[(lo + hi) / 2].v = y at *
        generalize cmpB x key = z at *
        have hz : ¬ z < 0 := by simpa using HE.out
        go_wp2_with fail
        refine HA.out.mono ?_
        rintro e w1 ⟨rfl, k1⟩
        go_wp2_with fail
        go_roundw
        case rel => exact ⟨lo, (lo + hi) / 2, rfl, by go_num, by omega, by omega, I1, J2, kp_trans k0 k1⟩
        case measure => simp [intOf]; omega
    · obtain rfl : hi = lo := by omega
      have hpos : posF key ts = hi := posF_of (by rw [HL.out]; exact hin) (fun j hj h => I1.out j hj h) (fun h => I2.out hi h (Nat.le_refl _))
      by_cases hn2 : hi < n
      · have hm : hi < ts.length := by rw [HL.out]; exact hn2
        obtain ⟨ad, rfl, _, hcc⟩ := HH.out.at_ hm
        obtain ⟨c0, c1⟩ := hcc _ k0
        clear hcc
        have HA := Lib.hid (against_ok ts[hi].k ts[hi].v key b wr ((k0.cell HB.out).trans HC.out) (Nat.lt_of_lt_of_le HB.out k0.size))
        have hE := cmpB_eq (a := ts[hi].k) (b := key)
        have hT : thereF key ts = decide (ts[hi].k = key) := by
          subst hpos
          exact there_at hm
        rw [← hE] at hT
        have HT := Lib.hid hT
        have HP := Lib.hid hpos
        clear hE hT hpos
        generalize ts[hi].k = x at *
        generalize ts[hi].v = y at *
        generalize cmpB x key = z at *
        go_wp2_with fail
        refine HA.out.mono ?_
        rintro e w1 ⟨rfl, k1⟩
        go_wp2_with fail
        go_ret2
        exact ⟨by rw [HT.out, HP.out]; rfl, kp_trans k0 k1⟩
      · have hT : thereF key ts = false := there_end (by rw [HL.out, hpos]; exact hn2)
        have HT := Lib.hid hT
        have HP := Lib.hid hpos
        clear hT hpos
        go_wp2_with fail
        go_ret2
        exact ⟨by rw [HT.out, HP.out]; rfl, k0⟩

theorem place_ok (A : Option Addr) (n c : Nat) (ts : List Kv) (key : ByteArray) (w : World) (h : KR w A n ts) (hs : Srt ts) (hn : n ≤ 1000000) :
    Calls Tryz.prog 78 #[.slice A n c, .string key, .func (.func 79) #[] #[]] w
      fun e w' => e = .returned (.tuple #[.int .i64 (posF key ts : Nat), .bool (thereF key ts)]) ∧ Below w.heap.size w w' := by
  have HH := Lib.hid h
  clear h
  go_enter Tryz.func78, Tryz.ntmps78
  go_wp2_with fail
  refine (search_ok A n c ts key w.heap.size _ (HH.out.next (kp_new w _)) hs hn ?_ (by simp)).mono ?_
  · rw [cell_of_row _ _ 0 #[_] _ (0, 0) (heap_alloc_new w _)]; rfl
  rintro e w1 ⟨rfl, k1⟩
  go_wp2_with fail
  go_ret2
  exact ⟨rfl, kp_trans (kp_new w _) k1⟩
end

/- Rows of pairs cut, copied and laid behind one another: slices.Concat, slices.Clone: contracts. -/
section
open Go.RowKit
set_option maxRecDepth 100000

theorem kvinfo : (Tryz.prog.info? 48).map (fun i => (i.zero, i.size, i.bytes)) = some (some (.agg #[.string ⟨#[]⟩, .string ⟨#[]⟩]), 2, 32) := by kernel_rfl
theorem kvsize : (Tryz.prog.info? (Tryz.prog.elem 45)).map (·.size) = some 2 := by kernel_rfl

section
variable {w : World} {A : Option Addr} {n c : Nat} {ts : List Kv}
theorem KR.cut0 (h : KR w A n ts) (hc : n ≤ c) (P : Program) (t : TypeId) (ht : P.underlying t = some (.slice (P.elem t))) (hz : (P.info? (P.elem t)).map (·.size) = some 2) {j : Nat} (y : Int) (hy : y = j) (hj : j ≤ n) :
    ∃ A', (∀ u, (Instr.slice t (.slice A n c) none (some (.int .i64 y)) none).run P u = .ok (.slice A' j c) u) ∧ KR w A' j (ts.take j) := by
  obtain ⟨ti, hti, hsz⟩ := Option.map_eq_some_iff.1 hz
  refine ⟨A, fun u => ?_, ⟨by rw [List.length_take, h.len]; omega, by rw [kvC_take]; exact h.rd.front _⟩⟩
  subst hy
  rw [run_slice_h u t A n c ht .i64 j (by omega) (by omega)]
  cases A with
  | none => simp [sizeOf, typeInfo, hti, hsz, sliced, Result.andThen]
  | some ad => simp [sizeOf, typeInfo, hti, hsz, sliced, Result.andThen, Addr.add]
theorem KR.cut1 (h : KR w A n ts) (hc : n ≤ c) (P : Program) (t : TypeId) (ht : P.underlying t = some (.slice (P.elem t))) (hz : (P.info? (P.elem t)).map (·.size) = some 2) {i : Nat} (x : Int) (hx : x = i) (hi : i ≤ n) :
    ∃ A', (∀ u, (Instr.slice t (.slice A n c) (some (.int .i64 x)) none none).run P u = .ok (.slice A' (n - i) (c - i)) u) ∧ KR w A' (n - i) (ts.drop i) := by
  obtain ⟨ti, hti, hsz⟩ := Option.map_eq_some_iff.1 hz
  have hr := h.rd.cut (k := i * 2) (cap := c * 2) (by rw [kvC_length, h.len]; omega)
  have e : (if c * 2 = i * 2 then A else A.map (·.add (i * 2))) = if c = i then A else A.map (·.add (i * 2)) := by
    by_cases hci : c = i
    · rw [if_pos hci, if_pos (by rw [hci])]
    · rw [if_neg hci, if_neg (by omega)]
  rw [e] at hr
  refine ⟨_, fun u => ?_, ⟨by rw [List.length_drop, h.len], by rw [kvC_drop]; exact hr⟩⟩
  subst hx
  rw [run_slice_l u t A n c ht .i64 i (by omega) (by omega)]
  simp [sizeOf, typeInfo, hti, hsz, sliced, Result.andThen]
end

set_option maxHeartbeats 400000 in
theorem growk_nil (n : Nat) (w : World) (hn : n ≤ 1000000) :
    Calls Tryz.prog 114 #[.slice none 0 0, .int .i64 n] w fun e w' => ∃ A' c', e = .returned (.slice A' 0 c') ∧ OK 48 w' w.heap.size A' 0 c' [] ∧ Below w.heap.size w w' := by
  obtain ⟨i0, hi, hz0, hz1, hz2⟩ := info_parts kvinfo
  rcases Nat.eq_zero_or_pos n with rfl | hpos
  · go_enter Tryz.func114, Tryz.ntmps114
    go_wp2_with fail
    go_ret
    exact ⟨none, 0, rfl, OK.nil _ _ _, Below.refl _ _⟩
  · have hrz : ∀ ty, (Builtin.append_ #[45, 3] ty #[.slice none 0 0, .int .i64 (n : Int)]).run Tryz.prog w =
        .ok (.slice (some ⟨w.heap.size, 0, none⟩) n (grownCap w n 0 48)) (w.drew.alloc (.cells (([] : List Value).toArray ++ Builtin.zeroCells (Value.agg #[.string ⟨#[]⟩, .string ⟨#[]⟩]).cells n ++ Builtin.zeroCells (Value.agg #[.string ⟨#[]⟩, .string ⟨#[]⟩]).cells (grownCap w n 0 48 - n)) 48)) := fun ty => by
      have h := Lib.run_append_grow_zeros (P := Tryz.prog) w 45 3 ty 48 i0 (.agg #[.string ⟨#[]⟩, .string ⟨#[]⟩]) .i64 .i64 Tryz.underlying45 Tryz.underlying3 hi hz0 none 0 0 [] (run_firstCells_none w.drew i0.size 0 0 0) n hpos (by omega) (by omega) (by omega) (by rw [hz2]; omega)
        (by rw [hz2]; exact growslice_fits (by omega) (by omega))
      simpa using h
    have hG1 := grownCap_ge w n 0 48
    have hG2 := grownCap_le_maxLen w n 0 48 (by unfold maxLen; omega)
    generalize grownCap w n 0 48 = G at *
    have hg3 : G ≤ 9223372036854775807 := by unfold maxLen at hG2; omega
    go_enter Tryz.func114, Tryz.ntmps114
    go_wp2_with (at_builtin; refine Lib.wpList_append_run _ rfl _ _ _ _ rfl _ _ rfl rfl _ _ (hrz _) ?_)
    all_goals
      go_ret
      refine ⟨_, _, rfl, ⟨⟨by simp [kvC], .inr ⟨w.heap.size, G, _, rfl, Nat.le_refl _, heap_alloc_new w.drew _, by omega, hG2, ?_, by simp [kvC]⟩⟩, by omega⟩, (Below.refl _ _).drew.alloc (Nat.le_refl _) _⟩
      simp only [size_zeroCells, List.size_toArray, Array.size_append]
      simp
      omega

/-- a row of pairs as it lies -/
structure PartK where
  A : Option Addr
  l : Nat
  c : Nat
  ts : List Kv
def flatK (ps : List PartK) : List Kv := ps.flatMap (·.ts)
theorem flatK_next (ps : List PartK) (k : Nat) (h : k < ps.length) : flatK (ps.take (k + 1)) = flatK (ps.take k) ++ ps[k].ts := by
  rw [List.take_succ_eq_append_getElem h]
  simp only [flatK, List.flatMap_append, List.flatMap_cons, List.flatMap_nil, List.append_nil]
theorem sizesK_next (ps : List PartK) (k : Nat) (h : k < ps.length) : (flatK (ps.take (k + 1))).length = (flatK (ps.take k)).length + ps[k].ts.length := by
  rw [flatK_next ps k h, List.length_append]
theorem sizesK_le (ps : List PartK) (k : Nat) : (flatK (ps.take k)).length ≤ (flatK ps).length := by
  have h : flatK ps = flatK (ps.take k) ++ flatK (ps.drop k) := by rw [flatK, flatK, flatK, ← List.flatMap_append, List.take_append_drop]
  rw [h, List.length_append]
  omega

set_option maxHeartbeats 800000 in
theorem concatk_any (ad : Addr) (m c : Nat) (ps : List PartK) (w : World) (hm : ps.length = m) (hm6 : m ≤ 1000) (had : ad.block < w.heap.size)
    (hc : ∀ j (h : j < ps.length), w.cell? (ad.add j) = some (.slice ps[j].A ps[j].l ps[j].c)) (hs : ∀ j (h : j < ps.length), KR w ps[j].A ps[j].l ps[j].ts) (htot : (flatK ps).length ≤ 900000) :
    Calls Tryz.prog 80 #[.slice (some ad) m c] w fun e w' => ∃ A' n' c', e = .returned (.slice A' n' c') ∧ OK 48 w' w.heap.size A' n' c' (flatK ps) ∧ Below w.heap.size w w' := by
  obtain ⟨i0, hi, hz0, hz1, hz2⟩ := info_parts kvinfo
  have Hc := Lib.hid hc
  have Hs := Lib.hid hs
  have HM := Lib.hid hm
  clear hc hs hm
  go_enter Tryz.func80, Tryz.ntmps80
  go_wp2_with fail
  go_loop [3, 11] (fun n i => ∃ k z : Nat, k ≤ m ∧ i = .int .i64 k ∧ n = .int .i64 z ∧ Hid ((flatK (ps.take k)).length = z) ∧ z ≤ 900000) (fun _ i => m - (intOf i).toNat)
  case atStart => exact ⟨0, 0, Nat.zero_le _, rfl, rfl, Lib.hid rfl, by omega⟩
  case round =>
    obtain ⟨k, z, hk, rfl, rfl, hz, hz9⟩ := hrel
    by_cases hlt : k < m
    · have hkl : k < ps.length := by rw [HM.out]; exact hlt
      have hcell := Hc.out k hkl
      have hl := (Hs.out k hkl).len
      have hsn := sizesK_next ps k hkl
      rw [hz.out, hl] at hsn
      have hle := sizesK_le ps (k + 1)
      rw [hsn] at hle
      have hle2 : z + ps[k].l ≤ 900000 := by omega
      generalize ps[k].l = lk at *
      generalize ps[k].A = Ak at *
      generalize ps[k].c = ck at *
      have HSN := Lib.hid hsn
      clear hsn hle hl
      go_wp2_with fail
      go_round
      case rel => exact ⟨k + 1, z + lk, by omega, by go_num, by go_num, HSN, hle2⟩
      case measure => simp [intOf]; omega
    · obtain rfl : k = m := by omega
      go_wp2_with fail
      refine (growk_nil z _ (by omega)).mono ?_
      rintro e w1 ⟨A1, c1, rfl, ho1, hb1⟩
      go_wp2_with fail
      go_loopw [6, 27] (fun v i wr => ∃ (q z' : Nat) (A' : Option Addr) (c' : Nat), q ≤ k ∧ i = .int .i64 q ∧ v = .slice A' z' c' ∧ z' ≤ 900000 ∧ OK 48 wr w.heap.size A' z' c' (flatK (ps.take q)) ∧ Below w.heap.size w wr) (fun _ i _ => k - (intOf i).toNat)
      case atStart => exact ⟨0, 0, A1, c1, Nat.zero_le _, rfl, rfl, by omega, ho1, hb1⟩
      case round =>
        obtain ⟨q, z', A2, c2, hq, rfl, rfl, hz9', ho2, hb2⟩ := hrel
        by_cases hlt2 : q < k
        · have hkl : q < ps.length := by rw [HM.out]; exact hlt2
          have hcell := Hc.out q hkl
          rw [← hb2.cell (by rw [add_block]; exact had)] at hcell
          have hsq := (Hs.out q hkl).next hb2
          have hl := (Hs.out q hkl).len
          have hsn := sizesK_next ps q hkl
          rw [ho2.len, hl] at hsn
          have hle := sizesK_le ps (q + 1)
          rw [hsn] at hle
          have hle2 : z' + ps[q].l ≤ 900000 := by omega
          have HF := Lib.hid (flatK_next ps q hkl)
          have hsz := hb2.size
          generalize ps[q].l = lk at *
          generalize ps[q].A = Ak at *
          generalize ps[q].c = ck at *
          generalize ps[q].ts = bk at *
          have HSN := Lib.hid hsn
          clear hsn hle hl
          go_wp2_with (at_builtin; refine wpList_append_rds rfl _ _ _ rfl w.heap.size 48 i0 _ 2 32 Tryz.underlying45 hi hz0 hz1 hz2 rfl (by decide) _ z' _ rfl ho2.own wr.heap.size _ _ _ (kvC bk) rfl (by rw [kvC_length, hsq.len]) hsq.rd (kvC_one _) (by unfold maxLen; omega) (by omega) hsz ?_; intro v3 w3 hown3 hg3; rw [← kvC_append] at hown3; obtain ⟨A3, c3, rfl, hcap3, _⟩ := own_form_s hown3)
          go_roundw
          case rel => exact ⟨q + 1, z' + lk, A3, c3, by omega, by go_num, rfl, hle2, ⟨by rw [HF.out]; exact hown3, hcap3⟩, hb2.trans (below_own_s ho2.own hg3 hsz)⟩
          case measure => simp [intOf]; omega
        · obtain rfl : q = k := by omega
          go_wp2_with fail
          go_ret
          refine ⟨A2, z', c2, rfl, ?_, hb2⟩
          rw [← List.take_of_length_le (l := ps) (by rw [HM.out]; exact Nat.le_refl _)]
          exact ho2

/-- Concat of a new row of rows -/
theorem concatk_new (w : World) (ps : List PartK) (m : Nat) (hm : ps.length = m) (hm6 : m ≤ 1000) (hs : ∀ p ∈ ps, KR w p.A p.l p.ts) (htot : (flatK ps).length ≤ 900000) :
    Calls Tryz.prog 80 #[.slice (some ⟨w.heap.size, 0, none⟩) m m] (w.alloc (.cells (ps.map fun p => Value.slice p.A p.l p.c).toArray 45)) fun e w' => ∃ A' n' c', e = .returned (.slice A' n' c') ∧ OK 48 w' w.heap.size A' n' c' (flatK ps) ∧ Below w.heap.size w w' := by
  refine (concatk_any ⟨w.heap.size, 0, none⟩ m m ps _ hm hm6 (by simp) (fun j h => ?_) (fun j h => (hs _ (List.getElem_mem h)).next (kp_new _ _)) htot).mono fun e w' ⟨A', n', c', he, ho, hb⟩ => ⟨A', n', c', he, ho.base_ (by simp), kp_trans (kp_new _ _) hb⟩
  rcases Rd.new w 45 (ps.map fun p => Value.slice p.A p.l p.c) with h0 | ⟨ad, e, _, hc⟩
  · have := congrArg List.length h0
    simp at this
    subst this
    simp at h
  · injection e with e
    subst e
    exact hc j _ (by simp [h])

set_option maxHeartbeats 800000 in
theorem clonek_ok (A : Option Addr) (n c : Nat) (ts : List Kv) (w : World) (h : KR w A n ts) (hn : n ≤ 1000000) :
    Calls Tryz.prog 81 #[.slice A n c] w fun e w' => ∃ A' n' c', e = .returned (.slice A' n' c') ∧ OK 48 w' w.heap.size A' n' c' ts ∧ Below w.heap.size w w' := by
  obtain ⟨i0, hi, hz0, hz1, hz2⟩ := info_parts kvinfo
  have hq := fun u => Lib.run_eql_slice_nil (P := Tryz.prog) u 45 48 A n c 0 0 Tryz.underlying45
  cases A with
  | none =>
    obtain rfl : ts = [] := by
      rcases h.rd with h0 | ⟨_, h0, _⟩
      · have := kvC_length ts
        rw [h0] at this
        exact List.eq_nil_of_length_eq_zero (by simp at this; omega)
      · cases h0
    go_enter Tryz.func81, Tryz.ntmps81
    go_wp2_with fail
    go_ret
    exact ⟨none, 0, 0, rfl, OK.nil _ _ _, Below.refl _ _⟩
  | some ad =>
    have ho := own_new_s w w.heap.size 2 48 0 [] rfl (Nat.le_refl _) (Nat.zero_le _)
    have hk := kp_new w (.cells #[] 48)
    have hr := h.next hk
    generalize hw : w.alloc (.cells #[] 48) = w1 at *
    have HW := Lib.hid hw
    have ho' : w1.ownsRow w.heap.size 48 2 (.slice (some ⟨w.heap.size, 0, none⟩) 0 0) 0 [] := ho
    clear hw
    have hb1 := hk.size
    go_enter Tryz.func81, Tryz.ntmps81
    go_wp2_with (at_builtin; rw [HW.out]; refine wpList_append_rds rfl _ _ _ rfl w.heap.size 48 i0 _ 2 32 Tryz.underlying45 hi hz0 hz1 hz2 rfl (by decide) _ 0 _ rfl ho' w1.heap.size _ _ _ (kvC ts) rfl (by rw [kvC_length, hr.len]) hr.rd (kvC_one _) (by unfold maxLen; omega) (by omega) hb1 ?_; intro v3 w3 hown3 hg3; obtain ⟨A3, c3, rfl, hcap3, _⟩ := own_form_s hown3)
    go_ret
    exact ⟨A3, _, c3, rfl, ⟨by simpa using hown3, by omega⟩, hk.trans (below_own_s ho' hg3 hb1)⟩
end

/- What is written to a table, by the call Writes of package plan: contract. -/
section
open Go.RowKit
set_option maxRecDepth 100000

def planV (d : Int) (k v : ByteArray) : Value := .agg #[.int .i64 d, .string k, .string v]
/-- a block of three cells -/
theorem cells3 {w : World} {b : Nat} {x y z : Value} {t : TypeId} (h : w.heap[b]? = some (.cells #[x, y, z] t (0, 0))) : w.cell? ⟨b, 0, none⟩ = some x ∧ w.cell? ⟨b, 1, none⟩ = some y ∧ w.cell? ⟨b, 2, none⟩ = some z := by
  refine ⟨?_, ?_, ?_⟩
  · rw [cell_of_row _ _ 0 #[x, y, z] t (0, 0) h]; rfl
  · rw [cell_of_row _ _ 1 #[x, y, z] t (0, 0) h]; rfl
  · rw [cell_of_row _ _ 2 #[x, y, z] t (0, 0) h]; rfl
theorem box3 {w u : World} {x y z : Value} {t : TypeId} (k : Below (w.alloc (.cells #[x, y, z] t)).heap.size (w.alloc (.cells #[x, y, z] t)) u) : u.cell? ⟨w.heap.size, 0, none⟩ = some x ∧ u.cell? ⟨w.heap.size, 1, none⟩ = some y ∧ u.cell? ⟨w.heap.size, 2, none⟩ = some z :=
  cells3 ((k.block _ (by simp)).trans (heap_alloc_new w _))

theorem concat3 (w : World) (A0 A1 : Option Addr) (l0 c0 l1 c1 : Nat) (xs ys : List Kv) (k v : ByteArray) (hx : KR w A0 l0 xs) (hy : KR w A1 l1 ys) (hn : l0 + l1 ≤ 800000) :
    Calls Tryz.prog 80 #[.slice (some ⟨w.heap.size + 1, 0, none⟩) 3 3] ((w.alloc (.cells #[.string k, .string v] 48)).alloc (.cells #[.slice A0 l0 c0, .slice (some ⟨w.heap.size, 0, none⟩) 1 1, .slice A1 l1 c1] 45))
      fun e w' => ∃ A' n' c', e = .returned (.slice A' n' c') ∧ OK 48 w' w.heap.size A' n' c' (xs ++ ⟨k, v⟩ :: ys) ∧ Below w.heap.size w w' := by
  have k1 := kp_new w (.cells #[.string k, .string v] 48)
  have hm : KR (w.alloc (.cells #[.string k, .string v] 48)) (some ⟨w.heap.size, 0, none⟩) 1 [⟨k, v⟩] := ⟨rfl, (Rd.new w 48 (kvC [⟨k, v⟩])).more (by simp)⟩
  have := concatk_new (w.alloc (.cells #[.string k, .string v] 48)) [⟨A0, l0, c0, xs⟩, ⟨some ⟨w.heap.size, 0, none⟩, 1, 1, [⟨k, v⟩]⟩, ⟨A1, l1, c1, ys⟩] 3 rfl (by decide) (fun p hp => by
    simp only [List.mem_cons, List.not_mem_nil, or_false] at hp
    rcases hp with rfl | rfl | rfl
    · exact hx.next k1
    · exact hm
    · exact hy.next k1) (by
    have h1 := hx.len
    have h2 := hy.len
    simp only [flatK, List.flatMap_cons, List.flatMap_nil, List.length_append, List.length_cons, List.length_nil]
    omega)
  rw [show (w.alloc (.cells #[.string k, .string v] 48)).heap.size = w.heap.size + 1 from by simp] at this
  refine this.mono fun e w' ⟨A', n', c', he, ho, hb⟩ => ⟨A', n', c', he, ?_, k1.trans (hb.mono (by omega))⟩
  have e : flatK [⟨A0, l0, c0, xs⟩, ⟨some ⟨w.heap.size, 0, none⟩, 1, 1, [⟨k, v⟩]⟩, ⟨A1, l1, c1, ys⟩] = xs ++ ⟨k, v⟩ :: ys := by simp [flatK]
  rw [← e]
  exact ho.base_ (by omega)
theorem concat2 (w : World) (A0 A1 : Option Addr) (l0 c0 l1 c1 : Nat) (xs ys : List Kv) (hx : KR w A0 l0 xs) (hy : KR w A1 l1 ys) (hn : l0 + l1 ≤ 800000) :
    Calls Tryz.prog 80 #[.slice (some ⟨w.heap.size, 0, none⟩) 2 2] (w.alloc (.cells #[.slice A0 l0 c0, .slice A1 l1 c1] 45))
      fun e w' => ∃ A' n' c', e = .returned (.slice A' n' c') ∧ OK 48 w' w.heap.size A' n' c' (xs ++ ys) ∧ Below w.heap.size w w' := by
  have := concatk_new w [⟨A0, l0, c0, xs⟩, ⟨A1, l1, c1, ys⟩] 2 rfl (by decide) (fun p hp => by
    simp only [List.mem_cons, List.not_mem_nil, or_false] at hp
    rcases hp with rfl | rfl
    · exact hx
    · exact hy) (by
    have h1 := hx.len
    have h2 := hy.len
    simp only [flatK, List.flatMap_cons, List.flatMap_nil, List.length_append, List.length_nil]
    omega)
  have e : flatK [⟨A0, l0, c0, xs⟩, ⟨A1, l1, c1, ys⟩] = xs ++ ys := by simp [flatK]
  rw [e] at this
  exact this

/-- what the answer of Writes is like -/
def WrTo (d : Int) (k v : ByteArray) (ts : List Kv) (w : World) (e : Ending) (w' : World) : Prop :=
  ∃ A' n' c', e = .returned (.tuple #[.slice A' n' c', .int .i64 (writesF d k v ts).2]) ∧ OK 48 w' w.heap.size A' n' c' (writesF d k v ts).1 ∧ Below w.heap.size w w'

set_option maxHeartbeats 4000000 in
theorem writes_ok (d : Int) (k v : ByteArray) (A : Option Addr) (n c : Nat) (ts : List Kv) (w : World) (h : KR w A n ts) (hc : n ≤ c) (hs : Srt ts) (hn : n ≤ 700000) :
    Calls Tryz.prog 52 #[.agg #[.int .i64 d, .string k, .string v], .slice A n c] w (WrTo d k v ts w) := by
  have kw := kp_new w (.cells #[.int .i64 d, .string k, .string v] 122)
  have HP := Lib.hid (place_ok A n c ts k _ (h.next kw) hs (by omega))
  have hle := posF_le k ts
  have hlt := fun h => (there_lt (k := k) (l := ts) h).1
  have hW : writesF d k v ts = if d = 3 ∨ (d = 4 ∧ thereF k ts = true) then (ts.take (posF k ts) ++ ⟨k, v⟩ :: restF k ts, 1) else if d = 5 ∧ thereF k ts = true then (ts.take (posF k ts) ++ restF k ts, 1) else (ts, 0) := rfl
  have hR : restF k ts = if thereF k ts then ts.drop (posF k ts + 1) else ts.drop (posF k ts) := rfl
  rw [hR] at hW
  clear hR
  have hlen := h.len
  unfold WrTo
  generalize posF k ts = p at *
  generalize thereF k ts = b at *
  generalize writesF d k v ts = W at *
  obtain ⟨A0, s0, r0⟩ := h.cut0 hc Tryz.prog 45 Tryz.underlying45 kvsize (j := p) (p : Int) rfl (by omega)
  obtain ⟨A1, s1, r1⟩ := h.cut1 hc Tryz.prog 45 Tryz.underlying45 kvsize (i := p) (p : Int) rfl (by omega)
  have HW := Lib.hid hW
  have HK := Lib.hid h
  have HR0 := Lib.hid r0
  have HR1 := Lib.hid r1
  have HLN := Lib.hid hlen
  have hpn0 : p ≤ n := by omega
  clear hW hs h r0 r1 hlen hle
  cases b with
  | true =>
    have hpn : p < n := by have := hlt rfl; rw [HLN.out] at this; exact this
    obtain ⟨A2, s2, r2⟩ := HK.out.cut1 hc Tryz.prog 45 Tryz.underlying45 kvsize (i := p + 1) ((p : Int) + 1) (by omega) (by omega)
    have HR2 := Lib.hid r2
    clear r2 hlt
    by_cases h34 : d = 3 ∨ d = 4
    · have hW : W = (ts.take p ++ ⟨k, v⟩ :: ts.drop (p + 1), 1) := by
        rw [HW.out, if_pos (by rcases h34 with h | h <;> simp [h]), if_pos rfl]
      subst hW
      clear HW
      rcases h34 with rfl | rfl
      all_goals
        go_enter Tryz.func52, Tryz.ntmps52
        go_wp2_with fail
        refine HP.out.mono ?_
        rintro e w1 ⟨rfl, k1⟩
        obtain ⟨c0, c1, c2⟩ := box3 k1
        have K1 := kp_trans kw k1
        clear HP
        go_wp2_with fail
        go_quiet (fail)
        have kq : Below w1.heap.size w1 (w1.drewN nq) := kp_drewN w1 nq
        have K2 := K1.trans (kq.mono K1.size)
        generalize w1.drewN nq = w2 at *
        replace c0 := (kq.cell (World.block_lt_of_cell? _ _ c0)).trans c0
        replace c1 := (kq.cell (World.block_lt_of_cell? _ _ c1)).trans c1
        replace c2 := (kq.cell (World.block_lt_of_cell? _ _ c2)).trans c2
        clear k1 kq
        go_wp2_with fail
        refine (concat3 w2 A0 A2 p c (n - (p + 1)) (c - (p + 1)) _ _ k v (HR0.out.next K2) (HR2.out.next K2) (by omega)).mono ?_
        rintro e w3 ⟨A3, n3, c3, rfl, ho, k3⟩
        go_wp2_with fail
        go_ret2
        exact ⟨A3, n3, c3, rfl, ho.base_ K2.size, kp_trans K2 k3⟩
    · have n3 : (d == 3) = false := by simp only [beq_eq_false_iff_ne, ne_eq]; omega
      have n4 : (d == 4) = false := by simp only [beq_eq_false_iff_ne, ne_eq]; omega
      by_cases h5 : d = 5
      · subst h5
        have hW : W = (ts.take p ++ ts.drop (p + 1), 1) := by
          rw [HW.out, if_neg (by omega), if_pos (by simp), if_pos rfl]
        subst hW
        clear HW h34
        go_enter Tryz.func52, Tryz.ntmps52
        go_wp2_with fail
        refine HP.out.mono ?_
        rintro e w1 ⟨rfl, k1⟩
        obtain ⟨c0, c1, c2⟩ := box3 k1
        have K1 := kp_trans kw k1
        clear HP
        go_wp2_with fail
        go_quiet (fail)
        have kq : Below w1.heap.size w1 (w1.drewN nq) := kp_drewN w1 nq
        have K2 := K1.trans (kq.mono K1.size)
        generalize w1.drewN nq = w2 at *
        replace c0 := (kq.cell (World.block_lt_of_cell? _ _ c0)).trans c0
        replace c1 := (kq.cell (World.block_lt_of_cell? _ _ c1)).trans c1
        replace c2 := (kq.cell (World.block_lt_of_cell? _ _ c2)).trans c2
        clear k1 kq
        go_wp2_with fail
        refine (concat2 w2 A0 A2 p c (n - (p + 1)) (c - (p + 1)) _ _ (HR0.out.next K2) (HR2.out.next K2) (by omega)).mono ?_
        rintro e w3 ⟨A3, n3, c3, rfl, ho, k3⟩
        go_wp2_with fail
        go_ret2
        exact ⟨A3, n3, c3, rfl, ho.base_ K2.size, kp_trans K2 k3⟩
      · have n5 : (d == 5) = false := by simp only [beq_eq_false_iff_ne, ne_eq]; omega
        have hW : W = (ts, 0) := by
          rw [HW.out, if_neg (by omega), if_neg (by omega)]
        subst hW
        clear HW h34 h5
        go_enter Tryz.func52, Tryz.ntmps52
        go_wp2_with fail
        refine HP.out.mono ?_
        rintro e w1 ⟨rfl, k1⟩
        obtain ⟨c0, c1, c2⟩ := box3 k1
        have K1 := kp_trans kw k1
        clear HP
        go_wp2_with fail
        go_quiet (fail)
        have kq : Below w1.heap.size w1 (w1.drewN nq) := kp_drewN w1 nq
        have K2 := K1.trans (kq.mono K1.size)
        generalize w1.drewN nq = w2 at *
        replace c0 := (kq.cell (World.block_lt_of_cell? _ _ c0)).trans c0
        replace c1 := (kq.cell (World.block_lt_of_cell? _ _ c1)).trans c1
        replace c2 := (kq.cell (World.block_lt_of_cell? _ _ c2)).trans c2
        clear k1 kq
        go_wp2_with fail
        refine (clonek_ok A n c ts w2 (HK.out.next K2) (by omega)).mono ?_
        rintro e w3 ⟨A3, n3, c3, rfl, ho, k3⟩
        go_wp2_with fail
        go_ret2
        exact ⟨A3, n3, c3, rfl, ho.base_ K2.size, kp_trans K2 k3⟩
  | false =>
    clear hlt
    by_cases h3 : d = 3
    · subst h3
      have hW : W = (ts.take p ++ ⟨k, v⟩ :: ts.drop p, 1) := by
        rw [HW.out, if_pos (by simp), if_neg (by simp)]
      subst hW
      clear HW
      go_enter Tryz.func52, Tryz.ntmps52
      go_wp2_with fail
      refine HP.out.mono ?_
      rintro e w1 ⟨rfl, k1⟩
      obtain ⟨c0, c1, c2⟩ := box3 k1
      have K1 := kp_trans kw k1
      clear HP
      go_wp2_with fail
      go_quiet (fail)
      have kq : Below w1.heap.size w1 (w1.drewN nq) := kp_drewN w1 nq
      have K2 := K1.trans (kq.mono K1.size)
      generalize w1.drewN nq = w2 at *
      replace c0 := (kq.cell (World.block_lt_of_cell? _ _ c0)).trans c0
      replace c1 := (kq.cell (World.block_lt_of_cell? _ _ c1)).trans c1
      replace c2 := (kq.cell (World.block_lt_of_cell? _ _ c2)).trans c2
      clear k1 kq
      go_wp2_with fail
      refine (concat3 w2 A0 A1 p c (n - p) (c - p) _ _ k v (HR0.out.next K2) (HR1.out.next K2) (by omega)).mono ?_
      rintro e w3 ⟨A3, n3, c3, rfl, ho, k3⟩
      go_wp2_with fail
      go_ret2
      exact ⟨A3, n3, c3, rfl, ho.base_ K2.size, kp_trans K2 k3⟩
    · have hW : W = (ts, 0) := by
        rw [HW.out, if_neg (by simp [h3]), if_neg (by simp)]
      subst hW
      clear HW
      have n3 : (d == 3) = false := by simpa using h3
      generalize h4 : (d == 4) = b4
      generalize h5 : (d == 5) = b5
      clear h3
      cases b4
      all_goals
        cases b5
      all_goals
        go_enter Tryz.func52, Tryz.ntmps52
        go_wp2_with fail
        refine HP.out.mono ?_
        rintro e w1 ⟨rfl, k1⟩
        obtain ⟨c0, c1, c2⟩ := box3 k1
        have K1 := kp_trans kw k1
        clear HP
        go_wp2_with fail
        go_quiet (fail)
        have kq : Below w1.heap.size w1 (w1.drewN nq) := kp_drewN w1 nq
        have K2 := K1.trans (kq.mono K1.size)
        generalize w1.drewN nq = w2 at *
        replace c0 := (kq.cell (World.block_lt_of_cell? _ _ c0)).trans c0
        replace c1 := (kq.cell (World.block_lt_of_cell? _ _ c1)).trans c1
        replace c2 := (kq.cell (World.block_lt_of_cell? _ _ c2)).trans c2
        clear k1 kq
        go_wp2_with fail
        refine (clonek_ok A n c ts w2 (HK.out.next K2) (by omega)).mono ?_
        rintro e w3 ⟨A3, n3, c3, rfl, ho, k3⟩
        go_wp2_with fail
        go_ret2
        exact ⟨A3, n3, c3, rfl, ho.base_ K2.size, kp_trans K2 k3⟩
end

/- What is read of a table, by the call Reads of package plan: contract. Rows of texts. -/
section
open Go.RowKit
set_option maxRecDepth 100000

def tvs (l : List ByteArray) : List Value := l.map .string
theorem tvs_length (l : List ByteArray) : (tvs l).length = l.length := by simp [tvs]
theorem tvs_append (a b : List ByteArray) : tvs (a ++ b) = tvs a ++ tvs b := by simp [tvs]
theorem tvs_one (l : List ByteArray) : ∀ u ∈ tvs l, u.oneCell' = true := by
  intro u hu
  obtain ⟨b, _, rfl⟩ := List.mem_map.1 hu
  rfl
theorem strinfo6 : (Tryz.prog.info? 9).map (fun i => (i.zero, i.size, i.bytes)) = some (some (.string ⟨#[]⟩), 1, 16) := by kernel_rfl
/-- a row of texts that is read -/
structure XR (w : World) (A : Option Addr) (n : Nat) (ss : List ByteArray) : Prop where
  len : ss.length = n
  rd : Rd w w.heap.size A (tvs ss)
theorem XR.next {w w' : World} {A : Option Addr} {n : Nat} {ss : List ByteArray} (h : XR w A n ss) (hb : Below w.heap.size w w') : XR w' A n ss := ⟨h.len, (h.rd.below hb (Nat.le_refl _)).more hb.size⟩
theorem XR.nil (w : World) : XR w none 0 [] := ⟨rfl, .inl rfl⟩
theorem XR.at_ {w : World} {A : Option Addr} {n : Nat} {ss : List ByteArray} (h : XR w A n ss) {j : Nat} (hj : j < ss.length) : ∃ ad, A = some ad ∧ ad.block < w.heap.size ∧ w.cell? (ad.add j) = some (.string ss[j]) := by
  obtain ⟨ad, hA, hb, hc⟩ := h.rd.at_ (k := j) (by rw [tvs_length]; exact hj)
  exact ⟨ad, hA, hb, by simpa [tvs] using hc⟩
theorem XR.new (w : World) (t : TypeId) (ss : List ByteArray) : XR (w.alloc (.cells (tvs ss).toArray t)) (some ⟨w.heap.size, 0, none⟩) ss.length ss := ⟨rfl, (Rd.new w t (tvs ss)).more (by simp)⟩
theorem XR.of_own {w : World} {base n c : Nat} {e : TypeId} {A : Option Addr} {ss : List ByteArray} (h : w.ownsRow base e 1 (.slice A n c) n (tvs ss)) : XR w A n ss := ⟨by have := h.1; rw [tvs_length] at this; omega, Rd.of_own h⟩

theorem firsts_next (l : List Kv) (k : Nat) (h : k < l.length) : ((l.take (k + 1)).flatMap fun p => [p.k, p.v]) = ((l.take k).flatMap fun p => [p.k, p.v]) ++ [l[k].k, l[k].v] := by
  rw [List.take_succ_eq_append_getElem h, List.flatMap_append]
  rfl
end

/- All but one block is as it was: a frame for calls that write one block of the caller's. -/
section
open Go.RowKit
set_option maxRecDepth 100000

/-- all but one block is as it was -/
structure Bel (b : Nat) (w w' : World) : Prop where
  os : w'.os = w.os
  tape : w'.tape = w.tape
  output : w'.output = w.output
  size : w.heap.size ≤ w'.heap.size
  block : ∀ k, k < w.heap.size → k ≠ b → w'.heap[k]? = w.heap[k]?
theorem Bel.of {w w' : World} (b : Nat) (h : Below w.heap.size w w') : Bel b w w' := ⟨h.os, h.tape, h.output, h.size, fun k hk _ => h.block k hk⟩
theorem Bel.trans {b : Nat} {a c d : World} (h : Bel b a c) (k : Bel b c d) : Bel b a d :=
  ⟨k.os.trans h.os, k.tape.trans h.tape, k.output.trans h.output, Nat.le_trans h.size k.size, fun i hi hn => (k.block i (Nat.lt_of_lt_of_le hi h.size) hn).trans (h.block i hi hn)⟩
theorem Bel.setCell {b : Nat} {w w' : World} (h : Bel b w w') (p : Addr) (hp : p.block = b) (u : Value) : Bel b w (w'.setCell p u) :=
  ⟨h.os, h.tape, h.output, by have := h.size; simp only [World.setCell, Array.size_modify]; exact this, fun k hk hn => by rw [Below.heap_setCell _ _ _ _ (by omega)]; exact h.block k hk hn⟩
theorem Bel.drew {b : Nat} {w w' : World} (h : Bel b w w') : Bel b w w'.drew := ⟨h.os, h.tape, h.output, h.size, h.block⟩
theorem Bel.ofDrew {b : Nat} {w w' : World} (h : Below w.drew.heap.size w.drew w') : Bel b w w' := ⟨h.os, h.tape, h.output, h.size, fun k hk _ => h.block k hk⟩
end

/- All but some blocks are as they were: a frame for calls that write blocks of their own things. -/
section
open Go.RowKit
set_option maxRecDepth 100000

/-- all blocks but these are as they were -/
structure Off (S : Nat → Prop) (w w' : World) : Prop where
  os : w'.os = w.os
  tape : w'.tape = w.tape
  output : w'.output = w.output
  size : w.heap.size ≤ w'.heap.size
  block : ∀ k, k < w.heap.size → ¬ S k → w'.heap[k]? = w.heap[k]?
section
variable {S T : Nat → Prop} {w w' w'' : World}
theorem Off.refl (S : Nat → Prop) (w : World) : Off S w w := ⟨rfl, rfl, rfl, Nat.le_refl _, fun _ _ _ => rfl⟩
theorem Off.of (S : Nat → Prop) (h : Below w.heap.size w w') : Off S w w' := ⟨h.os, h.tape, h.output, h.size, fun k hk _ => h.block k hk⟩
theorem Off.bel {b : Nat} (hS : S b) (h : Bel b w w') : Off S w w' := ⟨h.os, h.tape, h.output, h.size, fun k hk hn => h.block k hk fun e => hn (e ▸ hS)⟩
theorem Off.trans (h : Off S w w') (k : Off T w' w'') (hT : ∀ i, T i → S i ∨ w.heap.size ≤ i) : Off S w w'' :=
  ⟨k.os.trans h.os, k.tape.trans h.tape, k.output.trans h.output, Nat.le_trans h.size k.size, fun i hi hn => (k.block i (Nat.lt_of_lt_of_le hi h.size) fun e => (hT i e).elim hn fun e => by omega).trans (h.block i hi hn)⟩
theorem Off.below {B : Nat} (h : Off S w w') (hS : ∀ k, S k → B ≤ k) (hB : B ≤ w.heap.size) : Below B w w' := ⟨h.os, h.tape, h.output, h.size, fun k hk => h.block k (by omega) fun e => by have := hS k e; omega⟩
theorem Off.setCell (h : Off S w w') {p : Addr} (hp : S p.block ∨ w.heap.size ≤ p.block) (u : Value) : Off S w (w'.setCell p u) :=
  ⟨h.os, h.tape, h.output, by have := h.size; simp only [World.setCell, Array.size_modify]; exact this, fun k hk hn => by
    rw [Below.heap_setCell _ _ _ _ (fun e => by subst e; exact hp.elim hn fun e => by omega)]
    exact h.block k hk hn⟩
theorem Off.drew (h : Off S w w') : Off S w w'.drew := ⟨h.os, h.tape, h.output, h.size, h.block⟩
theorem Off.wide (h : Off S w w') (hS : ∀ k, S k → T k) : Off T w w' := ⟨h.os, h.tape, h.output, h.size, fun k hk hn => h.block k hk fun e => hn (hS k e)⟩
end
theorem own_keep {w w' : World} {base n size : Nat} {e : TypeId} {v : Value} {xs : List Value} (h : w.ownsRow base e size v n xs) (hk : ∀ g, v.ownBlock = some g → w'.heap[g]? = w.heap[g]?) : w'.ownsRow base e size v n xs := by
  refine ⟨h.1, ?_⟩
  rcases h.2 with h2 | ⟨g, cap, cur, hv, hg, hh, r⟩
  · exact .inl h2
  · exact .inr ⟨g, cap, cur, hv, hg, (hk g (by rw [hv]; rfl)).trans hh, r⟩
/-- a cell of a block that is known -/
theorem cellsAt {w : World} {b : Nat} {cs : Array Value} {t : TypeId} (h : w.heap[b]? = some (.cells cs t (0, 0))) (i : Nat) {v : Value} (hi : cs[i]? = some v) : w.cell? ⟨b, i, none⟩ = some v ∧ w.frozen? ⟨b, i, none⟩ = false := by
  refine ⟨?_, frozen_of_row w b i cs t h⟩
  rw [cell_of_row _ _ i cs t (0, 0) h]
  exact hi
end

/- A region that draws its order, gone through once an operation: the world's state may turn as operations are done, and blocks of some things may be written. -/
section
open Go.RowKit

/-- one operation more is done -/
def doneB (L : Nat → Bool) (i : Nat) : Nat → Bool := fun j => bif Nat.beq j i then true else L j
theorem doneB_ext {L : Nat → Bool} {i : Nat} {M : Nat → Bool} (h : M i = true) (h2 : ∀ j, j ≠ i → M j = L j) : M = doneB L i := by
  funext j
  unfold doneB
  by_cases hj : j = i
  · subst hj
    rw [h, show Nat.beq j j = true from Nat.beq_refl j]
    rfl
  · rw [h2 j hj, show Nat.beq j i = false from by
      cases hb : Nat.beq j i with
      | false => rfl
      | true => exact absurd (Nat.eq_of_beq_eq_true hb) hj]
    rfl

section
variable {P : Program} {ops : Array Oper} {Q : Exit → Act → World → Prop}

end
end

/- Things that lie in blocks of their own, one or two of them, and what calls on them leave (no function of the program is named here). -/
section
open Go.RowKit
set_option maxRecDepth 100000

/-- a thing: what it asks of a world, by its blocks -/
structure Thing where
  p : (Nat → Prop) → World → Prop
  keep : ∀ {S : Nat → Prop} {w w' : World}, p S w → (∀ k, S k → w'.heap[k]? = w.heap[k]?) → w.heap.size ≤ w'.heap.size → p S w'
  lt : ∀ {S : Nat → Prop} {w : World}, p S w → ∀ k, S k → k < w.heap.size
/-- what is left by a call on a thing whose blocks are S: it is Y then -/
structure Turn (Y : Thing) (S : Nat → Prop) (w w' : World) : Prop where
  at_ : ∃ S', Y.p S' w' ∧ ∀ k, S' k → S k ∨ w.heap.size ≤ k
  off : Off S w w'
section
variable {X Y Z : Thing} {S T : Nat → Prop} {w w' w'' : World}
theorem Thing.off (h : X.p S w) (ho : Off T w w') (hT : ∀ k, S k → ¬ T k) : X.p S w' := X.keep h (fun k hk => ho.block k (X.lt h k hk) (hT k hk)) ho.size
theorem Thing.next (h : X.p S w) (hb : Below w.heap.size w w') : X.p S w' := X.keep h (fun k hk => hb.block k (X.lt h k hk)) hb.size
theorem Turn.same (h : X.p S w) (hb : Below w.heap.size w w') : Turn X S w w' := ⟨⟨S, Thing.next h hb, fun _ h => .inl h⟩, Off.of S hb⟩
theorem Turn.here (h : X.p S w) : Turn X S w w := ⟨⟨S, h, fun _ h => .inl h⟩, Off.refl _ _⟩
end

/-- two -/
structure Duo (w0 : World) (X Y : Thing) (N : Nat → Prop) (w : World) : Prop where
  at_ : ∃ S T, X.p S w ∧ Y.p T w ∧ (∀ k, S k → ¬ T k) ∧ ∀ k, S k ∨ T k → w0.heap.size ≤ k ∧ ¬ N k
  low : Below w0.heap.size w0 w
  nlt : ∀ k, N k → k < w.heap.size
def noneB : Nat → Prop := fun _ => False
section
variable {P : Program} {w0 w w' : World} {X X' Y Y' : Thing} {N N' S T : Nat → Prop}
theorem Duo.swap (h : Duo w0 X Y N w) : Duo w0 Y X N w := by
  obtain ⟨⟨S, T, h1, h2, h3, h4⟩, h5, h6⟩ := h
  exact ⟨⟨T, S, h2, h1, fun k hk hk2 => h3 k hk2 hk, fun k hk => h4 k hk.symm⟩, h5, h6⟩
theorem Duo.next (h : Duo w0 X Y N w) (hb : Below w.heap.size w w') : Duo w0 X Y N w' := by
  obtain ⟨⟨S, T, h1, h2, h3, h4⟩, h5, h6⟩ := h
  exact ⟨⟨S, T, Thing.next h1 hb, Thing.next h2 hb, h3, h4⟩, h5.trans (hb.mono h5.size), fun k hk => Nat.lt_of_lt_of_le (h6 k hk) hb.size⟩
theorem Duo.mark (h : Duo w0 X Y N w) (o : Obj) : Duo w0 X Y (fun k => k = w.heap.size ∨ N k) (w.alloc o) := by
  have hb : Below w.heap.size w (w.alloc o) := (Below.refl _ _).alloc (Nat.le_refl _) o
  obtain ⟨⟨S, T, h1, h2, h3, h4⟩, h5, h6⟩ := h
  refine ⟨⟨S, T, Thing.next h1 hb, Thing.next h2 hb, h3, fun k hk => ⟨(h4 k hk).1, fun e => e.elim (fun e => ?_) (h4 k hk).2⟩⟩, h5.trans (hb.mono h5.size), fun k hk => ?_⟩
  · have := hk.elim (X.lt h1 k) (Y.lt h2 k)
    omega
  · rcases hk with rfl | hk
    · simp
    · have := h6 k hk
      simp
      omega
theorem Duo.left {f : FuncId} {args : Array Value} {Q : Ending → World → Prop} (h : Duo w0 X Y N w) (hop : ∀ S, X.p S w → Calls P f args w fun e w' => Q e w' ∧ Turn X' S w w') :
    Calls P f args w fun e w' => Q e w' ∧ Duo w0 X' Y N w' ∧ ∀ k, N k → w'.heap[k]? = w.heap[k]? := by
  obtain ⟨⟨S, T, h1, h2, h3, h4⟩, h5, h6⟩ := h
  refine (hop S h1).mono fun e w' ⟨hq, ⟨S', g1, g2⟩, g3⟩ => ⟨hq, ⟨⟨S', T, g1, Thing.off h2 g3 (fun k hk hk2 => h3 k hk2 hk), fun k hk hk2 => ?_, fun k hk => ?_⟩, h5.trans (g3.below (fun k hk => (h4 k (.inl hk)).1) h5.size), fun k hk => Nat.lt_of_lt_of_le (h6 k hk) g3.size⟩, fun k hk => g3.block k (h6 k hk) fun e => (h4 k (.inl e)).2 hk⟩
  · rcases g2 k hk with e | e
    · exact h3 k e hk2
    · have := Y.lt h2 k hk2; omega
  · rcases hk with hk | hk
    · rcases g2 k hk with e | e
      · exact h4 k (.inl e)
      · have := h5.size
        exact ⟨by omega, fun hN => by have := h6 k hN; omega⟩
    · exact h4 k (.inr hk)
theorem Duo.right {f : FuncId} {args : Array Value} {Q : Ending → World → Prop} (h : Duo w0 X Y N w) (hop : ∀ T, Y.p T w → Calls P f args w fun e w' => Q e w' ∧ Turn Y' T w w') :
    Calls P f args w fun e w' => Q e w' ∧ Duo w0 X Y' N w' ∧ ∀ k, N k → w'.heap[k]? = w.heap[k]? :=
  (h.swap.left hop).mono fun _ _ ⟨hq, hd, hc⟩ => ⟨hq, hd.swap, hc⟩
theorem Duo.askl {f : FuncId} {args : Array Value} {Q : Ending → World → Prop} (h : Duo w0 X Y N w) (hop : ∀ S, X.p S w → Calls P f args w fun e w' => Q e w' ∧ Below w.heap.size w w') : Calls P f args w fun e w' => Q e w' ∧ Duo w0 X Y N w' := by
  obtain ⟨S, T, h1, _⟩ := h.at_
  exact (hop S h1).mono fun e w' ⟨hq, hb⟩ => ⟨hq, h.next hb⟩
theorem Duo.askr {f : FuncId} {args : Array Value} {Q : Ending → World → Prop} (h : Duo w0 X Y N w) (hop : ∀ S, Y.p S w → Calls P f args w fun e w' => Q e w' ∧ Below w.heap.size w w') : Calls P f args w fun e w' => Q e w' ∧ Duo w0 X Y N w' := by
  obtain ⟨S, T, _, h1, _⟩ := h.at_
  exact (hop T h1).mono fun e w' ⟨hq, hb⟩ => ⟨hq, h.next hb⟩
end

section
variable {S T N : Nat → Prop} {Z : Nat} {X0 X1 Y0 Y1 : Thing} {w0 ws u u' : World} {f g : Bool}
end
end

/- The document's layer 15: nodes in memory; New, find, Lead: contracts. -/
section
open Go.RowKit
set_option maxRecDepth 100000

theorem entinfo : (Tryz.prog.info? 71).map (fun i => (i.zero, i.size, i.bytes)) = some (some (.agg #[.int .u64 0, .string ⟨#[]⟩]), 2, 24) := by kernel_rfl
theorem opninfo : (Tryz.prog.info? 118).map (fun i => (i.zero, i.size, i.bytes)) = some (some (.agg #[.int .i64 0, .slice none 0 0]), 2, 32) := by kernel_rfl
theorem set_other {w : World} {p : Addr} {v : Value} {k : Nat} (h : k ≠ p.block) : (w.setCell p v).heap[k]? = w.heap[k]? := Below.heap_setCell _ _ _ _ fun e => h (by first | exact e | exact e.symm)
theorem set_size (w : World) (p : Addr) (v : Value) : (w.setCell p v).heap.size = w.heap.size := by simp [World.setCell]
theorem XR.off {w w' : World} {A : Option Addr} {n : Nat} {ss : List ByteArray} (h : XR w A n ss) (hz : w.heap.size ≤ w'.heap.size) (hk : ∀ ad, A = some ad → w'.heap[ad.block]? = w.heap[ad.block]?) : XR w' A n ss := by
  refine ⟨h.len, ?_⟩
  rcases h.rd with h | ⟨ad, e, hlt, hc⟩
  · exact .inl h
  · exact .inr ⟨ad, e, Nat.lt_of_lt_of_le hlt hz, fun j u hu => (World.cell?_of_block (by rw [add_block]; exact hk ad e)).trans (hc j u hu)⟩
/-- a connection's transaction as it lies -/
structure OpR where
  c : Int
  A : Option Addr
  n : Nat
  d : Nat
instance : Inhabited OpR := ⟨⟨0, none, 0, 0⟩⟩
def opC (os : List OpR) : List Value := os.flatMap fun o => [.int .i64 o.c, .slice o.A o.n o.d]
theorem opC_append (a b : List OpR) : opC (a ++ b) = opC a ++ opC b := by simp [opC]
theorem opC_length : ∀ ts : List OpR, (opC ts).length = ts.length * 2
  | [] => rfl
  | r :: rs => by
    have := opC_length rs
    simp only [opC, List.flatMap_cons, List.length_append, List.length_cons, List.length_nil] at this ⊢
    omega
theorem opC_at : ∀ (rs : List OpR) (j : Nat) (h : j < rs.length), (opC rs)[j * 2]? = some (.int .i64 rs[j].c) ∧ (opC rs)[j * 2 + 1]? = some (.slice rs[j].A rs[j].n rs[j].d)
  | [], _, h => by simp at h
  | r :: rs, 0, _ => by simp [opC]
  | r :: rs, j + 1, h => by
    have := opC_at rs j (by simpa using h)
    have e1 : (j + 1) * 2 = j * 2 + 2 := by omega
    simp only [opC, List.flatMap_cons] at this ⊢
    rw [e1]
    simpa using this
theorem opC_one : ∀ (l : List OpR), ∀ u ∈ opC l, u.oneCell' = true
  | [], _, h => by simp [opC] at h
  | c :: cs, u, h => by
    simp only [opC, List.flatMap_cons, List.mem_append, List.mem_cons, List.not_mem_nil, or_false] at h
    rcases h with (rfl | rfl) | h
    · rfl
    · rfl
    · exact opC_one cs u h
theorem opC_take : ∀ (rs : List OpR) (k : Nat), opC (rs.take k) = (opC rs).take (k * 2)
  | _, 0 => by simp [opC]
  | [], k + 1 => by simp [opC]
  | r :: rs, k + 1 => by
    have := opC_take rs k
    have e1 : (k + 1) * 2 = k * 2 + 2 := by omega
    rw [List.take_succ_cons]
    simp only [opC, List.flatMap_cons] at this ⊢
    rw [this, e1]
    simp
theorem opC_drop : ∀ (rs : List OpR) (k : Nat), opC (rs.drop k) = (opC rs).drop (k * 2)
  | _, 0 => by simp [opC]
  | [], k + 1 => by simp [opC]
  | r :: rs, k + 1 => by
    have := opC_drop rs k
    have e1 : (k + 1) * 2 = k * 2 + 2 := by omega
    rw [List.drop_succ_cons]
    simp only [opC, List.flatMap_cons] at this ⊢
    rw [this, e1]
    simp
theorem opC_set : ∀ (rs : List OpR) (k : Nat) (o : OpR) (h : k < rs.length), o.c = rs[k].c → opC (rs.set k o) = (opC rs).set (k * 2 + 1) (.slice o.A o.n o.d)
  | r :: rs, 0, o, _, e => by
    have e' : o.c = r.c := e
    simp [opC, e']
  | r :: rs, k + 1, o, h, e => by
    have := opC_set rs k o (by simpa using h) e
    have e1 : (k + 1) * 2 + 1 = k * 2 + 1 + 1 + 1 := by omega
    rw [List.set_cons_succ]
    simp only [opC, List.flatMap_cons] at this ⊢
    rw [this, e1]
    simp
/-- a node of the document's, as it lies: a block of four cells, its log, its transactions (a row that is written in place), their texts -/
structure RNx (b : Nat) (n : Nd) (AL : Option Addr) (nl cl : Nat) (AO : Option Addr) (no co : Nat) (os : List OpR) (S : Nat → Prop) (w : World) : Prop where
  top : w.heap[b]? = some (.cells #[.int .u64 n.ep, .bool n.ld, .slice AL nl cl, .slice AO no co] 54 (0, 0))
  lg : LR w AL nl n.lg
  own : w.ownsRow 0 118 2 (.slice AO no co) no (opC os)
  len : os.length = n.op.length
  at_ : ∀ j (h1 : j < os.length) (h2 : j < n.op.length), os[j].c = n.op[j].c ∧ XR w os[j].A os[j].n n.op[j].ts
  sb : S b
  sl : ∀ ad, AL = some ad → S ad.block ∧ ad.block ≠ b ∧ (Value.slice AO no co).ownBlock ≠ some ad.block
  so : ∀ g, (Value.slice AO no co).ownBlock = some g → S g ∧ g ≠ b
  st : ∀ j (h1 : j < os.length) ad, os[j].A = some ad → S ad.block ∧ ad.block ≠ b ∧ (Value.slice AO no co).ownBlock ≠ some ad.block
  lt : ∀ k, S k → k < w.heap.size
section
variable {b : Nat} {n : Nd} {AL : Option Addr} {nl cl : Nat} {AO : Option Addr} {no co : Nat} {os : List OpR} {S : Nat → Prop} {w w' : World}
theorem RNx.olen (h : RNx b n AL nl cl AO no co os S w) : n.op.length = no := by
  have := h.own.1
  rw [opC_length] at this
  have := h.len
  omega
theorem RNx.keep (h : RNx b n AL nl cl AO no co os S w) (hk : ∀ k, S k → w'.heap[k]? = w.heap[k]?) (hz : w.heap.size ≤ w'.heap.size) : RNx b n AL nl cl AO no co os S w' :=
  { h with
    top := (hk _ h.sb).trans h.top
    lg := h.lg.off hz fun ad e => hk _ (h.sl ad e).1
    own := own_keep h.own fun g hg => hk _ (h.so g hg).1
    at_ := fun j h1 h2 => ⟨(h.at_ j h1 h2).1, (h.at_ j h1 h2).2.off hz fun ad e => hk _ (h.st j h1 ad e).1⟩
    lt := fun k hk => Nat.lt_of_lt_of_le (h.lt k hk) hz }
/-- no transactions -/
theorem RNx.noop (h : RNx b n AL nl cl AO no co os S w) (e : Int) (l : Bool) (ht : w'.heap[b]? = some (.cells #[.int .u64 e, .bool l, .slice AL nl cl, .slice none 0 0] 54 (0, 0))) (hk : ∀ k, S k → k ≠ b → w'.heap[k]? = w.heap[k]?) (hz : w.heap.size ≤ w'.heap.size) : RNx b ⟨e, l, n.lg, []⟩ AL nl cl none 0 0 [] S w' where
  top := ht
  lg := h.lg.off hz fun ad e => hk _ (h.sl ad e).1 (h.sl ad e).2.1
  own := World.ownsRow_nil _ _ _ _
  len := rfl
  at_ := fun j h1 => absurd h1 (Nat.not_lt_zero _)
  sb := h.sb
  sl := fun ad e => ⟨(h.sl ad e).1, (h.sl ad e).2.1, by simp [Value.ownBlock]⟩
  so := fun g hg => by simp [Value.ownBlock] at hg
  st := fun j h1 => absurd h1 (Nat.not_lt_zero _)
  lt := fun k hk => Nat.lt_of_lt_of_le (h.lt k hk) hz
/-- another log, in new blocks -/
theorem RNx.relog (h : RNx b n AL nl cl AO no co os S w) {A' : Option Addr} {n' c' : Nat} {l' : List Lg} (ht : w'.heap[b]? = some (.cells #[.int .u64 n.ep, .bool n.ld, .slice A' n' c', .slice AO no co] 54 (0, 0))) (hl : LR w' A' n' l') (hn : ∀ ad, A' = some ad → w.heap.size ≤ ad.block ∧ ad.block < w'.heap.size) (hk : ∀ k, S k → k ≠ b → w'.heap[k]? = w.heap[k]?) (hz : w.heap.size ≤ w'.heap.size) :
    RNx b { n with lg := l' } A' n' c' AO no co os (fun k => S k ∨ (w.heap.size ≤ k ∧ k < w'.heap.size)) w' where
  top := ht
  lg := hl
  own := own_keep h.own fun g hg => hk _ (h.so g hg).1 (h.so g hg).2
  len := h.len
  at_ := fun j h1 h2 => ⟨(h.at_ j h1 h2).1, (h.at_ j h1 h2).2.off hz fun ad e => hk _ (h.st j h1 ad e).1 (h.st j h1 ad e).2.1⟩
  sb := .inl h.sb
  sl := fun ad e => ⟨.inr (hn ad e), by have := (hn ad e).1; have := h.lt b h.sb; omega, fun e2 => by have := (hn ad e).1; have := h.lt _ (h.so _ e2).1; omega⟩
  so := fun g hg => ⟨.inl (h.so g hg).1, (h.so g hg).2⟩
  st := fun j h1 ad e => ⟨.inl (h.st j h1 ad e).1, (h.st j h1 ad e).2⟩
  lt := fun k hk => hk.elim (fun hk => Nat.lt_of_lt_of_le (h.lt k hk) hz) (fun hk => hk.2)
/-- other transactions, in a new block, of texts that lay there, or lie in no block -/
theorem RNx.reop (h : RNx b n AL nl cl AO no co os S w) {A' : Option Addr} {n' c' : Nat} {os' : List OpR} {l' : List Op15} (ht : w'.heap[b]? = some (.cells #[.int .u64 n.ep, .bool n.ld, .slice AL nl cl, .slice A' n' c'] 54 (0, 0))) (ho : w'.ownsRow w.heap.size 118 2 (.slice A' n' c') n' (opC os')) (hlen : os'.length = l'.length)
    (ha : ∀ j (h1 : j < os'.length) (h2 : j < l'.length), os'[j].c = l'[j].c ∧ ((∃ i, ∃ (q1 : i < os.length) (q2 : i < n.op.length), os'[j] = os[i] ∧ l'[j] = n.op[i]) ∨ (os'[j].A = none ∧ os'[j].n = 0 ∧ l'[j].ts = []))) (hk : ∀ k, S k → k ≠ b → w'.heap[k]? = w.heap[k]?) (hz : w.heap.size ≤ w'.heap.size) :
    RNx b { n with op := l' } AL nl cl A' n' c' os' (fun k => S k ∨ (w.heap.size ≤ k ∧ k < w'.heap.size)) w' where
  top := ht
  lg := h.lg.off hz fun ad e => hk _ (h.sl ad e).1 (h.sl ad e).2.1
  own := own_base_s ho (Nat.zero_le _)
  len := hlen
  at_ := fun j h1 h2 => by
    refine ⟨(ha j h1 h2).1, ?_⟩
    rcases (ha j h1 h2).2 with ⟨i, q1, q2, e1, e2⟩ | ⟨e1, e2, e3⟩
    · have e2' : l'[j].ts = n.op[i].ts := by rw [e2]
      rw [e1]
      show XR w' os[i].A os[i].n l'[j].ts
      rw [e2']
      exact (h.at_ i q1 q2).2.off hz fun ad e => hk _ (h.st i q1 ad e).1 (h.st i q1 ad e).2.1
    · rw [e1, e2]
      show XR w' none 0 l'[j].ts
      rw [e3]
      exact XR.nil w'
  sb := .inl h.sb
  sl := fun ad e => ⟨.inl (h.sl ad e).1, (h.sl ad e).2.1, fun e2 => by have := (ho.lt _ e2).1; have := h.lt _ (h.sl ad e).1; omega⟩
  so := fun g hg => ⟨.inr (ho.lt g hg), by have := (ho.lt g hg).1; have := h.lt b h.sb; omega⟩
  st := fun j h1 ad e => by
    have h2 : j < l'.length := by omega
    rcases (ha j h1 h2).2 with ⟨i, q1, q2, e1, e2⟩ | ⟨e1, _, _⟩
    · rw [e1] at e
      exact ⟨.inl (h.st i q1 ad e).1, (h.st i q1 ad e).2.1, fun e3 => by have := (ho.lt _ e3).1; have := h.lt _ (h.st i q1 ad e).1; omega⟩
    · rw [e1] at e; cases e
  lt := fun k hk => hk.elim (fun hk => Nat.lt_of_lt_of_le (h.lt k hk) hz) (fun hk => hk.2)
theorem RNx.tops (h : RNx b n AL nl cl AO no co os S w) : w.cell? ⟨b, 0, none⟩ = some (.int .u64 n.ep) ∧ w.cell? ⟨b, 1, none⟩ = some (.bool n.ld) ∧ w.cell? ⟨b, 2, none⟩ = some (.slice AL nl cl) ∧ w.cell? ⟨b, 3, none⟩ = some (.slice AO no co) ∧ w.frozen? ⟨b, 0, none⟩ = false ∧ w.frozen? ⟨b, 1, none⟩ = false ∧ w.frozen? ⟨b, 2, none⟩ = false ∧ w.frozen? ⟨b, 3, none⟩ = false :=
  ⟨(cellsAt h.top 0 rfl).1, (cellsAt h.top 1 rfl).1, (cellsAt h.top 2 rfl).1, (cellsAt h.top 3 rfl).1, (cellsAt h.top 0 (v := .int .u64 n.ep) rfl).2, (cellsAt h.top 1 (v := .bool n.ld) rfl).2, (cellsAt h.top 2 (v := .slice AL nl cl) rfl).2, (cellsAt h.top 3 (v := .slice AO no co) rfl).2⟩
/-- a transaction's cells -/
theorem RNx.opat (h : RNx b n AL nl cl AO no co os S w) {j : Nat} (hj : j < os.length) : ∃ g, AO = some ⟨g, 0, none⟩ ∧ S g ∧ g ≠ b ∧ w.cell? ⟨g, j * 2, none⟩ = some (.int .i64 os[j].c) ∧ w.cell? ⟨g, j * 2 + 1, none⟩ = some (.slice os[j].A os[j].n os[j].d) ∧ w.frozen? ⟨g, j * 2 + 1, none⟩ = false := by
  have hh := h.own
  rcases h.own.2 with ⟨_, h2⟩ | ⟨g, cap, cur, h1, _, hg, _⟩
  · have := h.own.1
    rw [opC_length] at this
    omega
  · injection h1 with h1 _ _
    subst h1
    have hs := h.so g rfl
    refine ⟨g, rfl, hs.1, hs.2, ?_, ?_, ?_⟩
    · have := hh.cells (g := g) rfl (j * 2) _ (opC_at os j hj).1
      rwa [show (⟨g, 0, none⟩ : Addr).add (j * 2) = ⟨g, j * 2, none⟩ from by unfold Addr.add; split <;> simp_all] at this
    · have := hh.cells (g := g) rfl (j * 2 + 1) _ (opC_at os j hj).2
      rwa [show (⟨g, 0, none⟩ : Addr).add (j * 2 + 1) = ⟨g, j * 2 + 1, none⟩ from by unfold Addr.add; split <;> simp_all] at this
    · exact frozen_of_row w g _ cur _ hg
end
/-- the document's node -/
def RN (b : Nat) (n : Nd) : Thing where
  p := fun S w => ∃ AL nl cl AO no co os, RNx b n AL nl cl AO no co os S w
  keep := fun ⟨_, _, _, _, _, _, _, h⟩ hk hz => ⟨_, _, _, _, _, _, _, h.keep hk hz⟩
  lt := fun ⟨_, _, _, _, _, _, _, h⟩ => h.lt

section
variable {b : Nat} {n : Nd} {S : Nat → Prop} {w : World}
theorem rnew15_ok (w : World) :
    Calls Tryz.prog 11 #[] w fun e w' => e = .returned (.pointer (some ⟨w.heap.size, 0, none⟩)) ∧ (RN w.heap.size newNd).p (fun k => k = w.heap.size) w' ∧ Below w.heap.size w w' := by
  go_enter Tryz.func11, Tryz.ntmps11
  go_wp2_with fail
  go_ret
  exact ⟨rfl, ⟨none, 0, 0, none, 0, 0, [], { top := heap_alloc_new w _, lg := LR.nil _, own := World.ownsRow_nil _ _ _ _, len := rfl, at_ := fun j h1 => absurd h1 (Nat.not_lt_zero _), sb := rfl, sl := fun _ e => (by cases e), so := fun g hg => by simp [Value.ownBlock] at hg, st := fun j h1 => absurd h1 (Nat.not_lt_zero _), lt := fun k hk => by subst hk; simp }⟩, kp_new w _⟩

set_option maxHeartbeats 4000000 in
theorem rfind15_ok (c : Int) (h : (RN b n).p S w) (hop : n.op.length ≤ 1000) :
    Calls Tryz.prog 50 #[.pointer (some ⟨b, 0, none⟩), .int .i64 c] w fun e w' => e = .returned (.int .i64 (idxOp c n.op)) ∧ w = w' := by
  obtain ⟨AL, nl, cl, AO, no, co, os, hx⟩ := h
  obtain ⟨_, _, _, c3, _⟩ := hx.tops
  have hl := hx.len
  have HX := Lib.hid hx
  have HOL := Lib.hid hx.olen
  have hno : no ≤ 1000 := by rw [← HOL.out]; exact hop
  clear hx hop
  go_enter Tryz.func50, Tryz.ntmps50
  go_wp2_with fail
  go_loopw [5] (fun i wr => ∃ k : Nat, k ≤ no ∧ i = .int .i64 k ∧ Hid (∀ j (hj : j < n.op.length), j < k → n.op[j].c ≠ c) ∧ wr = w) (fun i _ => no - (intOf i).toNat)
  case atStart => exact ⟨0, Nat.zero_le _, rfl, Lib.hid (fun j _ h => absurd h (Nat.not_lt_zero _)), rfl⟩
  case round =>
    obtain ⟨k, hk, rfl, hne, rfl⟩ := hrel
    by_cases hlt : k < no
    · have hkl : k < n.op.length := by rw [HOL.out]; exact hlt
      have hko : k < os.length := by rw [hl]; exact hkl
      obtain ⟨g, rfl, _, _, y0, _⟩ := HX.out.opat hko
      rw [(HX.out.at_ k hko hkl).1] at y0
      have hi0 : (0 : Int) ≤ (k : Int) := by omega
      have hi1 : (k : Int) < (no : Int) := by omega
      by_cases he : n.op[k].c = c
      · have hp : Hid (idxOp c n.op = k) := Lib.hid (idxOp_at hkl hne.out he)
        have hq : (n.op[k].c == c) = true := by rw [he]; simp
        generalize n.op[k].c = y at *
        clear he hne
        go_wp2_with fail
        go_ret
        exact ⟨by rw [hp.out]; rfl, rfl⟩
      · have hne2 : Hid (∀ j (hj : j < n.op.length), j < k + 1 → n.op[j].c ≠ c) := Lib.hid (fun j hj hjk => by
          by_cases h : j = k
          · subst h; exact he
          · exact hne.out j hj (by omega))
        have hq : (n.op[k].c == c) = false := by simpa using he
        generalize n.op[k].c = y at *
        clear he hne
        go_wp2_with fail
        go_roundw
        case rel => exact ⟨k + 1, by omega, by go_num, hne2, trivial⟩
        case measure => simp [intOf]; omega
    · have hp : Hid (idxOp c n.op = -1) := Lib.hid (idxOp_none fun y hy => by
        obtain ⟨j, hj, rfl⟩ := List.getElem_of_mem hy
        exact hne.out j hj (by have := HOL.out; omega))
      clear hne
      go_wp2_with fail
      go_ret
      exact ⟨by rw [hp.out]; rfl, rfl⟩

theorem rlead15_ok (e : Int) (h : (RN b n).p S w) :
    Calls Tryz.prog 35 #[.pointer (some ⟨b, 0, none⟩), .int .u64 e] w fun e' w' => e' = .returned (.bool (decide (n.ep ≤ e))) ∧ Turn (RN b (leadNd n e)) S w w' := by
  have HT := Lib.hid h
  obtain ⟨AL, nl, cl, AO, no, co, os, hx⟩ := h
  obtain ⟨c0, c1, c2, c3, f0, f1, f2, f3⟩ := hx.tops
  have HX := Lib.hid hx
  by_cases he : e < n.ep
  · rw [decide_eq_false (by omega), show leadNd n e = n from if_pos he]
    clear hx
    go_enter Tryz.func35, Tryz.ntmps35
    go_wp2_with fail
    go_ret
    exact ⟨rfl, Turn.here HT.out⟩
  · rw [decide_eq_true (by omega), show leadNd n e = ⟨e, true, n.lg, []⟩ from if_neg he]
    have hblt : b < w.heap.size := hx.lt b hx.sb
    clear hx
    go_enter Tryz.func35, Tryz.ntmps35
    go_wp2_with fail
    go_ret
    have t3 := heap_setCell_same _ b 3 _ _ (.slice none 0 0) (heap_setCell_same _ b 1 _ _ (.bool true) (heap_setCell_same w b 0 _ _ (.int .u64 e) HX.out.top))
    exact ⟨rfl, ⟨S, ⟨AL, nl, cl, none, 0, 0, [], HX.out.noop e true t3 (fun k _ hk => (set_other hk).trans ((set_other hk).trans (set_other hk))) (by rw [set_size, set_size, set_size]; exact Nat.le_refl _)⟩, fun _ h => .inl h⟩, Off.setCell (Off.setCell (Off.setCell (Off.refl S w) (.inl HX.out.sb) _) (.inl HX.out.sb) _) (.inl HX.out.sb) _⟩
end
end

/- Rows of numbers and of truths, as they lie in memory (no function of the program is named here). -/
section
open Go.RowKit
set_option maxRecDepth 100000

theorem own_type_ne {w : World} {base n size : Nat} {e t : TypeId} {v : Value} {xs : List Value} (h : w.ownsRow base e size v n xs) {b : Nat} {cs : Array Value} {fz : Nat × Nat} (hb : w.heap[b]? = some (.cells cs t fz)) (ht : t ≠ e) : v.ownBlock ≠ some b := by
  rcases h.2 with ⟨rfl, _⟩ | ⟨g, cap, cur, rfl, _, hg, _⟩
  · simp [Value.ownBlock]
  · simp only [Value.ownBlock, ne_eq, Option.some.injEq]
    rintro rfl
    rw [hg] at hb
    simp only [Option.some.injEq, Obj.cells.injEq] at hb
    exact ht hb.2.1.symm
theorem Rd.offR {w w' : World} {A : Option Addr} {xs : List Value} (h : Rd w w.heap.size A xs) (hz : w.heap.size ≤ w'.heap.size) (hk : ∀ ad, A = some ad → w'.heap[ad.block]? = w.heap[ad.block]?) : Rd w' w'.heap.size A xs := by
  rcases h with h | ⟨ad, e, hlt, hc⟩
  · exact .inl h
  · exact .inr ⟨ad, e, Nat.lt_of_lt_of_le hlt hz, fun j u hu => (World.cell?_of_block (by rw [add_block]; exact hk ad e)).trans (hc j u hu)⟩
end
end Go.Proofs.YtaoegiohnebnhaaGreatDoor
