/-
  Contracts and plain functions that the law stands on, part 9 of 19.
-/
import Derived.Test.YtdhnpmagapbmhaaGreatDoorQA8
import Derived.Deep.AppendSrc
import Derived.Maps.OwnSet
namespace Go.Proofs.YtdhnpmagapbmhaaGreatDoor
/- What plan.Reads answers lies in a new block: the contracts of XPlD, said again with that. -/
section
open Go.RowKit
set_option maxRecDepth 100000

set_option maxHeartbeats 2000000 in
theorem first6_new (A : Option Addr) (n c : Nat) (ts : List Kv) (w : World) (h : KR w A n ts) (hc : n ≤ c) (hn : n ≤ 700000) :
    Calls Tryz.prog 181 #[.slice A n c, .int .i64 10] w fun e w' => ∃ A' n' c', e = .returned (.slice A' n' c') ∧ XR w' A' n' (firstsF ts) ∧ (∀ ad, A' = some ad → w.heap.size ≤ ad.block ∧ ad.block < w'.heap.size) ∧ Below w.heap.size w w' := by
  obtain ⟨i0, hi, hz0, hz1, hz2⟩ := info_parts strinfo6
  obtain ⟨m, hm, hm10, hmn⟩ : ∃ m : Nat, ts.take m = ts.take 10 ∧ m ≤ 10 ∧ m ≤ n ∧ (m : Int) = (if (10 : Int) < (n : Int) then 10 else (n : Int)) := by
    by_cases h10 : 10 < n
    · exact ⟨10, rfl, Nat.le_refl _, by omega, by rw [if_pos (by omega)]; rfl⟩
    · exact ⟨n, by rw [List.take_of_length_le (by rw [h.len]; exact Nat.le_refl _), List.take_of_length_le (by rw [h.len]; omega)], by omega, Nat.le_refl _, by rw [if_neg (by omega)]⟩
  obtain ⟨hmn, hme⟩ := hmn
  have hrun : ∀ (u : World) (ts : Array TypeId) (ty : TypeId), (Builtin.min_ ts ty #[.int .i64 (n : Int), .int .i64 10]).run Tryz.prog u = .ok (.int .i64 (m : Int)) u := fun u ts ty => by
    rw [run_min_int2 (P := Tryz.prog) (w := u) ts ty .i64 .i64 (n : Int) 10, ← hme]
  have hF : firstsF ts = (ts.take m).flatMap fun p => [p.k, p.v] := by rw [hm]; rfl
  rw [hF]
  obtain ⟨A0, s0, r0⟩ := h.cut0 hc Tryz.prog 225 Tryz.underlying225 kvsize (j := m) (m : Int) rfl hmn
  clear hm hme h hF hmn
  generalize ts.take m = us at *
  have HR := Lib.hid r0
  have HL := Lib.hid r0.len
  clear r0
  go_enter Tryz.func181, Tryz.ntmps181
  go_wp2_with fail
  go_loopw [5, 15] (fun v i wr => ∃ (k z : Nat) (A' : Option Addr) (c' : Nat), k ≤ m ∧ Hid (z = 2 * k) ∧ i = .int .i64 k ∧ v = .slice A' z c' ∧ wr.ownsRow w.heap.size 9 1 (.slice A' z c') z (tvs ((us.take k).flatMap fun p => [p.k, p.v])) ∧ Below w.heap.size w wr) (fun _ i _ => m - (intOf i).toNat)
  case atStart => exact ⟨0, 0, none, 0, Nat.zero_le _, Lib.hid rfl, rfl, rfl, World.ownsRow_nil _ _ _ _, Below.refl _ _⟩
  case round =>
    obtain ⟨k, z, A1, c1, hk, hz, rfl, rfl, ho, k0⟩ := hrel
    have hsz := k0.size
    by_cases hlt : k < m
    · have hkl : k < us.length := by rw [HL.out]; exact hlt
      obtain ⟨ad, rfl, had, hcc⟩ := HR.out.at_ hkl
      obtain ⟨x0, x1⟩ := hcc _ k0
      have HN := Lib.hid (firsts_next us k hkl)
      clear hcc
      generalize us[k].k = x at *
      generalize us[k].v = y at *
      have ho' : ((wr.alloc (.cells #[.string x, .string y] 250)).alloc (.cells #[.string x, .string y] 9)).ownsRow w.heap.size 9 1 (.slice A1 z c1) z (tvs ((us.take k).flatMap fun p => [p.k, p.v])) := (ho.alloc _).alloc _
      have HSRC : Hid (∀ B, Rd ((wr.alloc (.cells #[.string x, .string y] 250)).alloc (.cells #[.string x, .string y] 9)) (wr.heap.size + 1 + 1 + B) (some ⟨wr.heap.size + 1, 0, none⟩) [.string x, .string y]) := Lib.hid (fun B => by
        have := Rd.new (wr.alloc (.cells #[.string x, .string y] 250)) 9 [.string x, .string y]
        rw [show (wr.alloc (.cells #[.string x, .string y] 250)).heap.size = wr.heap.size + 1 from by simp] at this
        exact this.more (by omega))
      have kk : Below w.heap.size w ((wr.alloc (.cells #[.string x, .string y] 250)).alloc (.cells #[.string x, .string y] 9)) := kp_alloc (kp_alloc k0 _) _
      have hz20 : z ≤ 20 := by rw [hz.out]; omega
      have HO := Lib.hid ho'
      clear ho ho'
      go_wp2_with (at_builtin; refine wpList_append_rd rfl _ _ _ rfl w.heap.size 9 i0 _ 16 Tryz.underlying35 hi hz0 hz1 hz2 rfl _ z _ rfl HO.out _ _ _ _ [.string x, .string y] rfl rfl (HSRC.out 0) (by simp [Value.oneCell']) (by unfold maxLen; omega) (by omega) (by simp; omega) ?_; intro v3 w3 hown3 hg3; obtain ⟨A3, c3, rfl, _, _⟩ := own_form hown3)
      go_roundw
      case rel =>
        refine ⟨k + 1, z + 2, A3, c3, by omega, Lib.hid (by rw [hz.out]; omega), by go_num, rfl, ?_, kk.trans (below_own HO.out hg3 (by simp; omega))⟩
        rw [HN.out, tvs_append]
        exact hown3
      case measure => simp [intOf]; omega
    · obtain rfl : k = m := by omega
      rw [List.take_of_length_le (by rw [HL.out]; exact Nat.le_refl _)] at ho
      go_wp2_with fail
      go_ret
      exact ⟨A1, z, c1, rfl, XR.of_own ho, own_blk15 ho, k0⟩

set_option maxHeartbeats 2000000 in
theorem reads_new (d : Int) (k v : ByteArray) (A : Option Addr) (n c : Nat) (ts : List Kv) (w : World) (h : KR w A n ts) (hc : n ≤ c) (hs : Srt ts) (hn : n ≤ 700000) :
    Calls Tryz.prog 156 #[.agg #[.int .i64 d, .string k, .string v], .slice A n c] w fun e w' => ∃ A' n' c', e = .returned (.slice A' n' c') ∧ XR w' A' n' (readsF d k ts) ∧ (∀ ad, A' = some ad → w.heap.size ≤ ad.block ∧ ad.block < w'.heap.size) ∧ Below w.heap.size w w' := by
  have kw := kp_new w (.cells #[.int .i64 d, .string k, .string v] 229)
  have HK := Lib.hid h
  have hR : readsF d k ts = if d = 1 then (if thereF k ts then [(ts.getD (posF k ts) default).v] else []) else if d = 2 then firstsF ts else [] := rfl
  by_cases h1 : d = 1
  · subst h1
    rw [if_pos rfl] at hR
    have HP := Lib.hid (place_ok A n c ts k _ (h.next kw) hs (by omega))
    have hlt := fun h => (there_lt (k := k) (l := ts) h).1
    generalize posF k ts = p at *
    generalize thereF k ts = b at *
    rw [hR]
    clear hR
    cases b with
    | true =>
      have hpl := hlt rfl
      obtain ⟨ad, rfl, had, hcc⟩ := h.at_ hpl
      have hpn : (p : Int) < (n : Int) := by have := h.len; omega
      rw [if_pos rfl, show ts.getD p default = ts[p] from by rw [List.getD_eq_getElem?_getD, List.getElem?_eq_getElem hpl]; rfl]
      have HC := Lib.hid hcc
      clear hcc h hs hlt
      generalize ts[p].k = x at *
      generalize ts[p].v = y at *
      go_enter Tryz.func156, Tryz.ntmps156
      go_wp2_with fail
      refine HP.out.mono ?_
      rintro e w1 ⟨rfl, k1⟩
      have K1 := kp_trans kw k1
      obtain ⟨_, c1⟩ := HC.out _ K1
      clear HP k1
      go_wp2_with fail
      go_ret
      exact ⟨_, 1, 1, rfl, XR.new w1 9 [y], (fun ad h => by injection h with h; subst h; exact ⟨K1.size, by simp⟩), kp_alloc K1 _⟩
    | false =>
      rw [if_neg (by simp)]
      clear hlt
      go_enter Tryz.func156, Tryz.ntmps156
      go_wp2_with fail
      refine HP.out.mono ?_
      rintro e w1 ⟨rfl, k1⟩
      have K1 := kp_trans kw k1
      clear HP k1
      go_wp2_with fail
      go_ret
      exact ⟨none, 0, 0, rfl, XR.nil _, (fun _ h => nomatch h), K1⟩
  · rw [if_neg h1] at hR
    have n1 : (d == 1) = false := by simpa using h1
    by_cases h2 : d = 2
    · subst h2
      rw [hR, if_pos rfl]
      clear hR h1 n1
      go_enter Tryz.func156, Tryz.ntmps156
      go_wp2_with fail
      refine (first6_new A n c ts _ (HK.out.next kw) hc hn).mono ?_
      rintro e w1 ⟨A1, n1, c1, rfl, hx, hb1, k1⟩
      go_wp2_with fail
      go_ret
      exact ⟨A1, n1, c1, rfl, hx, (fun ad h => ⟨Nat.le_trans kw.size (hb1 ad h).1, (hb1 ad h).2⟩), kp_trans kw k1⟩
    · rw [hR, if_neg h2]
      have n2 : (d == 2) = false := by simpa using h2
      clear hR h1 h2
      go_enter Tryz.func156, Tryz.ntmps156
      go_wp2_with fail
      go_ret
      exact ⟨none, 0, 0, rfl, XR.nil _, (fun _ h => nomatch h), kw⟩
end

/- An append of some elements of several cells that tells where the row lies: where it lay, or in a new block (no function of the program is named here). -/
section
open Go.RowKit
set_option maxRecDepth 100000

theorem run_append_many {P : Program} {w : World} (t ty e : TypeId) (i : TypeInfo) (z : Value) (size bytes : Nat) (ht : P.underlying t = some (.slice e)) (hi : P.info? e = some i) (hz : i.zero = some z)
    (hsize : i.size = size) (hby : i.bytes = bytes) (hzs : z.cells.size = size) (hsz : 0 < size) {A : Option Addr} {n c : Nat} {xs : List Value} (hown : w.ownsRow 0 e size (.slice A n c) n xs) (B : Nat) (A1 : Option Addr) (m c1 : Nat) (news : List Value) (hm : news.length = m * size)
    (hrd : Rd w B A1 news) (h1 : ∀ u ∈ news, u.oneCell' = true) (hn : n + m ≤ 10000) (hbytes : bytes ≤ 1000) :
    ∃ A' c' w', (Builtin.append_ #[t, t] ty #[.slice A n c, .slice A1 m c1]).run P w = .ok (.slice A' (n + m) c') w' ∧ w'.ownsRow 0 e size (.slice A' (n + m) c') (n + m) (xs ++ news) ∧ w.grownBy w' (Value.slice A n c).ownBlock ∧
      ((Value.slice A' (n + m) c').ownBlock = (Value.slice A n c).ownBlock ∨ ∃ g, (Value.slice A' (n + m) c').ownBlock = some g ∧ w.heap.size ≤ g) := by
  have hs : Src P i.size t (.slice A1 m c1) m news w := by
    rcases hrd with h | ⟨ad, rfl, _, hc⟩
    · subst h
      cases A1 with
      | none =>
        obtain rfl : m = 0 := by
          rcases Nat.eq_zero_or_pos m with h | h
          · exact h
          · have := Nat.mul_pos h hsz
            simp only [List.length_nil] at hm
            omega
        exact Src.ofNil w ht c1
      | some ad => exact Src.ofSlice w ht ad m c1 _ (by rw [hsize, hm]) (fun j u hu => by simp at hu) h1
    · exact Src.ofSlice w ht ad m c1 _ (by rw [hsize, hm]) hc h1
  have hb1 : (n + m) * bytes ≤ 140737488355328 := by
    have : (n + m) * bytes ≤ 10000 * 1000 := Nat.mul_le_mul hn hbytes
    omega
  obtain ⟨v', w', hr, h2, h3⟩ := run_append_rds (P := P) (w := w) 0 t ty e i z size bytes ht hi hz hsize hby hzs hsz (.slice A n c) n xs hown B A1 m c1 news (by omega) hrd h1 (by unfold maxLen; omega) hb1 (Nat.zero_le _)
  obtain ⟨A', c', rfl, _, _⟩ := own_form_s h2
  refine ⟨A', c', w', hr, h2, h3, ?_⟩
  rcases hown.2 with ⟨h4, h5⟩ | ⟨g, cap, cur, h4, hbg, hg, hnc, hcm, hcs, htake⟩
  · injection h4 with e1 e2 e3
    subst e1 e2 e3
    obtain ⟨v2, w2, hr2, h22, _⟩ := run_append_rds (P := P) (w := w) w.heap.size t ty e i z size bytes ht hi hz hsize hby hzs hsz (.slice none 0 0) 0 xs ⟨hown.1, .inl ⟨rfl, rfl⟩⟩ B A1 m c1 news (by omega) hrd h1 (by unfold maxLen; omega) hb1 (Nat.le_refl _)
    rw [hr] at hr2
    injection hr2 with e1 e2
    subst e1
    cases hq : (Value.slice A' (0 + m) c').ownBlock with
    | none => exact .inl rfl
    | some g => exact .inr ⟨g, rfl, (h22.lt g hq).1⟩
  · injection h4 with e1 _ e3
    subst e1 e3
    by_cases hroom : n + m ≤ c
    · have hmul : (n + m) * size ≤ c * size := Nat.mul_le_mul_right _ hroom
      rw [Nat.add_mul] at hmul
      have hr2 := run_append_room_src (P := P) w t t ty e i ht hi g 0 n c _ m news hs hroom (fun j hj => by
          have hj' : j < m * size := by rw [← hm]; exact hj
          rw [hsize, Nat.zero_add, cell_of_row _ _ (n * size + j) cur e (0, 0) hg, Array.getElem?_eq_getElem (by omega)]
          rfl) (fun j hj => frozen_of_row w g _ cur e hg)
      rw [hr] at hr2
      injection hr2 with e1 _
      injection e1 with e1 _ _
      subst e1
      exact .inl rfl
    · have hold : (Builtin.firstCells i.size n (.slice (some ⟨g, 0, none⟩) n c)).run P w.drew = .ok xs.toArray w.drew := run_firstCells_some _ _ _ _ _ _ _ (by rw [hown.1, hsize]) fun j u hu => hown.cells (g := g) rfl j u hu
      have hr2 := run_append_grow_src (P := P) w t t ty e i z ht hi hz (some ⟨g, 0, none⟩) n c xs hold _ m news hs (by omega) (by omega) (growslice_fits (by omega) (by rw [hby]; exact hb1))
      rw [hr] at hr2
      injection hr2 with e1 _
      injection e1 with e1 _ _
      subst e1
      exact .inr ⟨_, rfl, Nat.le_refl _⟩
end

/- The landed node as it lies: a block of five cells, its Classer, its log (a row that is written in place), a map of its transactions, each a row of its own. -/
section
open Go.RowKit Go.Maps Go.WideMaps
set_option maxRecDepth 100000

/-- a slice as a datum: what it is, exactly -/
def slD (A : Option Addr) (n c : Nat) : DataW Unit := match A with
  | none => .agg [.lit (.int .i64 n), .lit (.int .i64 c)]
  | some a => .agg [.lit (.int .i64 n), .lit (.int .i64 c), .lit (.int .i64 a.block)]
def flat (A : Option Addr) : Prop := ∀ a, A = some a → a = ⟨a.block, 0, none⟩
def slR : Value → Option (DataW Unit × List MemPlace)
  | .slice none n c => some (slD none n c, [])
  | .slice (some ⟨g, 0, none⟩) n c => some (slD (some ⟨g, 0, none⟩) n c, [])
  | _ => none
theorem slR_mk {A : Option Addr} (h : flat A) (n c : Nat) : slR (.slice A n c) = some (slD A n c, []) := by
  cases A with
  | none => rfl
  | some a => rw [h a rfl]; rfl
theorem slR_inv {v : Value} {A : Option Addr} (hA : flat A) {n c : Nat} {ps : List MemPlace} (h : slR v = some (slD A n c, ps)) : v = .slice A n c := by
  unfold slR at h
  split at h
  · cases A with
    | none =>
      simp only [slD, Option.some.injEq, Prod.mk.injEq, DataW.agg.injEq, List.cons.injEq, DataW.lit.injEq, Lit.int.injEq, true_and, and_true] at h
      obtain ⟨⟨h1, h2⟩, _⟩ := h
      rw [Int.ofNat.inj h1, Int.ofNat.inj h2]
    | some a => simp [slD] at h
  · cases A with
    | none => simp [slD] at h
    | some a =>
      simp only [slD, Option.some.injEq, Prod.mk.injEq, DataW.agg.injEq, List.cons.injEq, DataW.lit.injEq, Lit.int.injEq, true_and, and_true] at h
      obtain ⟨⟨h1, h2, h3⟩, _⟩ := h
      rw [hA a rfl, Int.ofNat.inj h1, Int.ofNat.inj h2, Int.ofNat.inj h3]
  · cases h
theorem iKey : Keyed Tryz.prog 3 := int_keyed Tryz.underlying3
theorem iKeyOf {c : Int} (hc : I64n c) : keyOf Tryz.prog 3 (.int .i64 c) = some (.int .i64 c) := keyOf_int_mk Tryz.underlying3 (by
  have e1 : IntKind.i64.min = -9223372036854775808 := rfl
  have e2 : IntKind.i64.max = 9223372036854775807 := rfl
  simp only [Lit.wf, Bool.and_eq_true, decide_eq_true_eq]
  exact ⟨by rw [e1]; exact hc.1, by rw [e2]; exact hc.2⟩)
theorem slZero (w : World) : (zeroValue 35).run Tryz.prog w = .ok (.slice none 0 0) w := by kernel_rfl

/-- what a map of connections holds -/
abbrev Wts := Int → Option (Option Addr × Nat × Nat)
def slV : Option (Option Addr × Nat × Nat) → Value
  | none => .slice none 0 0
  | some (A, m, d) => .slice A m d
def updW (W : Wts) (c : Int) (x : Option (Option Addr × Nat × Nat)) : Wts := fun k => if k = c then x else W k
structure MapW (w : World) (bm N : Nat) (W : Wts) : Prop where
  at_ : ∃ D : DataW Unit, w.ownsMap Tryz.prog 3 slR bm (Maps.size D) D ∧ Maps.size D ≤ N ∧ ∀ c, I64n c → match W c with
    | none => Maps.has D (.int .i64 c) = false
    | some (A, m, d) => flat A ∧ ∀ z, D.atKey (.int .i64 c) z = slD A m d
theorem ownsMap_tight {w : World} {b n : Nat} {D : DataW Unit} {k : TypeId} (h : w.ownsMap Tryz.prog k slR b n D) : w.ownsMap Tryz.prog k slR b (Maps.size D) D := by
  obtain ⟨es, clock, hb, F, hs, rfl⟩ := h
  exact ⟨es, clock, hb, F, by simp [Maps.size, length_sorted], rfl⟩
section
variable {w w' : World} {bm N : Nat} {W : Wts}
theorem MapW.keep (h : MapW w bm N W) (hk : w'.heap[bm]? = w.heap[bm]?) : MapW w' bm N W := by
  obtain ⟨D, ⟨es, clock, hb, r⟩, h2⟩ := h
  exact ⟨D, ⟨es, clock, hk.trans hb, r⟩, h2⟩
theorem MapW.made (w : World) : MapW (w.alloc (.map #[] 0)) w.heap.size 0 fun _ => none :=
  ⟨.map [], World.ownsMap_made _ _ _ _, Nat.le_refl _, fun _ _ => rfl⟩
theorem MapW.look (h : MapW w bm N W) {c : Int} (hc : I64n c) : (Instr.lookup 131 (.map (some bm)) (.int .i64 c) true).run Tryz.prog w = .ok (.tuple #[slV (W c), .bool (W c).isSome]) w := by
  obtain ⟨D, h1, _, h3⟩ := h
  obtain ⟨v, ps, hrun, hv⟩ := World.ownsMap.look_ok h1 iKey Tryz.underlying131 (slZero w) (slR_mk (A := none) (fun _ e => nomatch e) 0 0) (iKeyOf hc)
  have h4 := h3 c hc
  rw [hrun]
  cases hW : W c with
  | none =>
    rw [hW] at h4
    have h4 : Maps.has D (.int .i64 c) = false := h4
    rw [Maps.atKey_of_not_has h4] at hv
    rw [h4, slR_inv (A := none) (fun _ e => nomatch e) hv]
    rfl
  | some x =>
    obtain ⟨A, m, d⟩ := x
    rw [hW] at h4
    obtain ⟨h5, h6⟩ := h4
    rw [h6] at hv
    rw [Maps.has_true_of_atKey h6, slR_inv h5 hv]
    rfl
theorem MapW.look1 (h : MapW w bm N W) {c : Int} (hc : I64n c) : (Instr.lookup 131 (.map (some bm)) (.int .i64 c) false).run Tryz.prog w = .ok (slV (W c)) w := by
  obtain ⟨D, h1, _, h3⟩ := h
  obtain ⟨v, ps, hrun, hv⟩ := World.ownsMap.lookup h1 iKey Tryz.underlying131 (slZero w) (slR_mk (A := none) (fun _ e => nomatch e) 0 0) (iKeyOf hc)
  have h4 := h3 c hc
  rw [hrun]
  cases hW : W c with
  | none =>
    rw [hW] at h4
    have h4 : Maps.has D (.int .i64 c) = false := h4
    rw [Maps.atKey_of_not_has h4] at hv
    rw [slR_inv (A := none) (fun _ e => nomatch e) hv]
    rfl
  | some x =>
    obtain ⟨A, m, d⟩ := x
    rw [hW] at h4
    obtain ⟨h5, h6⟩ := h4
    rw [h6] at hv
    rw [slR_inv h5 hv]
    rfl
theorem has_of {D : DataW Unit} {c : Int} {x : Option (Option Addr × Nat × Nat)} (h : match x with
    | none => Maps.has D (.int .i64 c) = false
    | some (A, m, d) => flat A ∧ ∀ z, D.atKey (.int .i64 c) z = slD A m d) : Maps.has D (.int .i64 c) = x.isSome := by
  cases x with
  | none => exact h
  | some x => exact Maps.has_true_of_atKey h.2
theorem iLit (c : Int) : WideAt.IsKeyLit (.int .i64 c) := by simp [WideAt.IsKeyLit]
theorem iNe {c k : Int} (h : k ≠ c) : (Lit.int .i64 k) ≠ Lit.int .i64 c := fun e => h (by injection e)
theorem MapW.put (h : MapW w bm N W) (hn : N < 100000) {c : Int} (hc : I64n c) {A : Option Addr} (hA : flat A) (m d : Nat) :
    ∃ w', (Instr.mapUpdate 131 (.map (some bm)) (.int .i64 c) (.slice A m d)).run Tryz.prog w = .ok () w' ∧ MapW w' bm (if (W c).isSome = true then N else N + 1) (updW W c (some (A, m, d))) ∧ w.grownBy w' (some bm) := by
  obtain ⟨D, h1, h2, h3⟩ := h
  obtain ⟨w', hrun, r1, r2⟩ := World.ownsMap.store h1 iKey Tryz.underlying131 (by unfold maxLen; omega) (iKeyOf hc) (slR_mk hA m d)
  refine ⟨w', hrun, ⟨D.put (.int .i64 c) (slD A m d), ownsMap_tight r1, ?_, fun k hk => ?_⟩, r2.grown⟩
  · rw [Maps.size_put (World.ownsMap.tidy h1 iKey), has_of (h3 c hc)]
    split <;> omega
  · unfold updW
    by_cases e : k = c
    · subst e
      rw [if_pos rfl]
      exact ⟨hA, fun z => Maps.atKey_put_same (World.ownsMap.isMap h1) (iLit _) _ _⟩
    · rw [if_neg e]
      have h4 := h3 k hk
      cases hW : W k with
      | none =>
        rw [hW] at h4
        exact (Maps.has_put_other (iNe e) _).trans h4
      | some x =>
        rw [hW] at h4
        exact ⟨h4.1, fun z => (Maps.atKey_put_other (iNe e) _ _).trans (h4.2 z)⟩
theorem MapW.drop (h : MapW w bm N W) {c : Int} (hc : I64n c) :
    ∃ w', (∀ ty, (Builtin.delete_ #[131, 3] ty #[.map (some bm), .int .i64 c]).run Tryz.prog w = .ok (.tuple #[]) w') ∧ MapW w' bm (if (W c).isSome = true then N - 1 else N) (updW W c none) ∧ w.grownBy w' (some bm) := by
  obtain ⟨D, h1, h2, h3⟩ := h
  obtain ⟨w', hrun, r1, r2⟩ := World.ownsMap.drop h1 iKey Tryz.underlying131 (iKeyOf hc) 0
  refine ⟨w', fun _ => hrun, ⟨D.del (.int .i64 c), ownsMap_tight r1, ?_, fun k hk => ?_⟩, r2.grown⟩
  · have := Maps.size_del (k := .int .i64 c) (World.ownsMap.tidy h1 iKey)
    rw [has_of (h3 c hc)] at this
    split <;> simp_all <;> omega
  · unfold updW
    by_cases e : k = c
    · subst e
      rw [if_pos rfl]
      exact Maps.has_del_same
    · rw [if_neg e]
      have h4 := h3 k hk
      cases hW : W k with
      | none =>
        rw [hW] at h4
        exact (Maps.has_del_other (iNe e)).trans h4
      | some x =>
        rw [hW] at h4
        exact ⟨h4.1, fun z => (Maps.atKey_del_other (iNe e) _).trans (h4.2 z)⟩
theorem MapW.clear (h : MapW w bm N W) :
    ∃ w', (∀ ty, (Builtin.clear_ #[131] ty #[.map (some bm)]).run Tryz.prog w = .ok (.tuple #[]) w') ∧ MapW w' bm 0 (fun _ => none) ∧ w.grownBy w' (some bm) := by
  obtain ⟨D, ⟨es, clock, hb, F, hs, rfl⟩, h2, h3⟩ := h
  have r2 : w.mapTurned (ChangeMaps.setBlock w bm (.map #[] clock)) bm := ⟨es, clock, #[], clock, hb, rfl⟩
  refine ⟨ChangeMaps.setBlock w bm (.map #[] clock), fun ty => ?_, ⟨.map [], ⟨#[], clock, ChangeMaps.heap_setBlock_same hb _, ⟨by simp, MapKept.stamped_empty clock, by simp⟩, Nat.le_refl _, rfl⟩, Nat.le_refl _, fun _ _ => rfl⟩, r2.grown⟩
  simp [Builtin.clear_, run_underlying Tryz.underlying131, MapKept.run_getObj_map hb, MapKept.run_setObj_map _ hb, Result.andThen, ChangeMaps.setBlock]
end
end

/- The landed node as a thing: its blocks and what each of them is for; what is left when one part of it is changed. -/
section
open Go.RowKit Go.Maps Go.WideMaps
set_option maxRecDepth 100000

/-- what a block is for -/
inductive Role where
  | top | cls | log | map
  | tx (c : Int)
structure TxR (w : World) (S : Nat → Prop) (col : Nat → Role) (c : Int) (A : Option Addr) (m d : Nat) (ts : List ByteArray) : Prop where
  own : w.ownsRow 0 9 1 (.slice A m d) m (tvs ts)
  at_ : ∀ g, (Value.slice A m d).ownBlock = some g → S g ∧ col g = .tx c
structure PNx (b : Nat) (n : Nd) (cb bm : Nat) (AL : Option Addr) (nl cl : Nat) (W : Wts) (col : Nat → Role) (S : Nat → Prop) (w : World) : Prop where
  top : w.heap[b]? = some (.cells #[.pointer (some ⟨cb, 0, none⟩), .int .u64 n.ep, .bool n.ld, .slice AL nl cl, .map (some bm)] 133 (0, 0))
  lg : w.ownsRow 0 69 2 (.slice AL nl cl) nl (lgC n.lg)
  map : MapW w bm n.op.length W
  op : ∀ c, I64n c → (opOf c n.op = none ∧ W c = none) ∨ ∃ ts A m d, opOf c n.op = some ts ∧ W c = some (A, m, d) ∧ TxR w S col c A m d ts
  cls : (CT cb).p (fun k => S k ∧ col k = .cls) w
  sb : S b ∧ col b = .top
  sm : S bm ∧ col bm = .map
  sl : ∀ g, (Value.slice AL nl cl).ownBlock = some g → S g ∧ col g = .log
  lt : ∀ k, S k → k < w.heap.size
theorem flat_own {w : World} {base n c size : Nat} {e : TypeId} {A : Option Addr} {xs : List Value} (h : w.ownsRow base e size (.slice A n c) n xs) : flat A := by
  intro a ha
  subst ha
  rcases h.2 with ⟨h1, _⟩ | ⟨g, cap, cur, h1, _⟩
  · cases h1
  · injection h1 with h1 _ _
    injection h1 with h1
    rw [h1]
/-- another map from blocks on: what was there keeps its role, what is new has this one -/
def colN (col : Nat → Role) (z : Nat) (r : Role) : Nat → Role := fun k => if k < z then col k else r
theorem colN_old {col : Nat → Role} {z k : Nat} {r : Role} (h : k < z) : colN col z r k = col k := if_pos h
theorem colN_new {col : Nat → Role} {z k : Nat} {r : Role} (h : z ≤ k) : colN col z r k = r := if_neg (by omega)
section
variable {b : Nat} {n : Nd} {cb bm : Nat} {AL : Option Addr} {nl cl : Nat} {W : Wts} {col : Nat → Role} {S : Nat → Prop} {w w' : World}
theorem PNx.llen (h : PNx b n cb bm AL nl cl W col S w) : n.lg.length = nl := by
  have := h.lg.1
  rw [lgC_length] at this
  omega
theorem PNx.lr (h : PNx b n cb bm AL nl cl W col S w) : LR w AL nl n.lg := LR.of_own h.lg
theorem TxR.xr {c : Int} {A : Option Addr} {m d : Nat} {ts : List ByteArray} (h : TxR w S col c A m d ts) : XR w A m ts := XR.of_own h.own
/-- what was in its blocks is as it was -/
theorem PNx.keep (h : PNx b n cb bm AL nl cl W col S w) (hk : ∀ k, S k → w'.heap[k]? = w.heap[k]?) (hz : w.heap.size ≤ w'.heap.size) : PNx b n cb bm AL nl cl W col S w' :=
  { h with
    top := (hk _ h.sb.1).trans h.top
    lg := own_keep h.lg fun g hg => hk _ (h.sl g hg).1
    map := h.map.keep (hk _ h.sm.1)
    op := fun c hc => (h.op c hc).imp id fun ⟨ts, A, m, d, h1, h2, h3⟩ => ⟨ts, A, m, d, h1, h2, own_keep h3.own fun g hg => hk _ (h3.at_ g hg).1, h3.at_⟩
    cls := (CT cb).keep h.cls (fun k hk2 => hk k hk2.1) hz
    lt := fun k hk => Nat.lt_of_lt_of_le (h.lt k hk) hz }
/-- a block of another role is another block -/
theorem PNx.tops (h : PNx b n cb bm AL nl cl W col S w) : w.cell? ⟨b, 0, none⟩ = some (.pointer (some ⟨cb, 0, none⟩)) ∧ w.cell? ⟨b, 1, none⟩ = some (.int .u64 n.ep) ∧ w.cell? ⟨b, 2, none⟩ = some (.bool n.ld) ∧ w.cell? ⟨b, 3, none⟩ = some (.slice AL nl cl) ∧ w.cell? ⟨b, 4, none⟩ = some (.map (some bm)) :=
  ⟨(cellsAt h.top 0 rfl).1, (cellsAt h.top 1 rfl).1, (cellsAt h.top 2 rfl).1, (cellsAt h.top 3 rfl).1, (cellsAt h.top 4 rfl).1⟩
theorem PNx.thaw (h : PNx b n cb bm AL nl cl W col S w) : w.frozen? ⟨b, 1, none⟩ = false ∧ w.frozen? ⟨b, 2, none⟩ = false ∧ w.frozen? ⟨b, 3, none⟩ = false :=
  ⟨(cellsAt h.top 1 (v := .int .u64 n.ep) rfl).2, (cellsAt h.top 2 (v := .bool n.ld) rfl).2, (cellsAt h.top 3 (v := .slice AL nl cl) rfl).2⟩
/-- another log -/
theorem PNx.relog (h : PNx b n cb bm AL nl cl W col S w) {A' : Option Addr} {n' c' : Nat} {l' : List Lg} (ht : w'.heap[b]? = some (.cells #[.pointer (some ⟨cb, 0, none⟩), .int .u64 n.ep, .bool n.ld, .slice A' n' c', .map (some bm)] 133 (0, 0)))
    (hl : w'.ownsRow 0 69 2 (.slice A' n' c') n' (lgC l')) (hn : ∀ g, (Value.slice A' n' c').ownBlock = some g → (S g ∧ col g = .log) ∨ w.heap.size ≤ g)
    (hk : ∀ k, S k → k ≠ b → col k ≠ .log → w'.heap[k]? = w.heap[k]?) (hz : w.heap.size ≤ w'.heap.size) :
    PNx b { n with lg := l' } cb bm A' n' c' W (colN col w.heap.size .log) (fun k => S k ∨ (w.heap.size ≤ k ∧ k < w'.heap.size)) w' where
  top := ht
  lg := hl
  map := h.map.keep (hk _ h.sm.1 (fun e => by have := h.sb.2; rw [← e, h.sm.2] at this; cases this) (by rw [h.sm.2]; exact fun e => nomatch e))
  op := fun c hc => (h.op c hc).imp id fun ⟨ts, A, m, d, h1, h2, h3⟩ => ⟨ts, A, m, d, h1, h2, own_keep h3.own fun g hg => hk _ (h3.at_ g hg).1 (fun e => by have := h.sb.2; rw [← e, (h3.at_ g hg).2] at this; cases this) (by rw [(h3.at_ g hg).2]; exact fun e => nomatch e), fun g hg => ⟨.inl (h3.at_ g hg).1, by rw [colN_old (h.lt g (h3.at_ g hg).1)]; exact (h3.at_ g hg).2⟩⟩
  cls := by
    have h1 := (CT cb).keep h.cls (w' := w') (fun k hk2 => hk k hk2.1 (fun e => by have := h.sb.2; rw [← e, hk2.2] at this; cases this) (by rw [hk2.2]; exact fun e => nomatch e)) hz
    obtain ⟨h2, h3, x, h4⟩ := h1
    refine ⟨⟨.inl h2.1, by rw [colN_old (h.lt cb h2.1)]; exact h2.2⟩, fun k hk => ?_, x, h4.imp id fun ⟨q, a1, a2, a3, a4⟩ => ⟨q, a1, a2, a3, .inl a4.1, by rw [colN_old (h.lt q a4.1)]; exact a4.2⟩⟩
    rcases hk.1 with h5 | h5
    · exact Nat.lt_of_lt_of_le (h.lt k h5) hz
    · exact h5.2
  sb := ⟨.inl h.sb.1, by rw [colN_old (h.lt b h.sb.1)]; exact h.sb.2⟩
  sm := ⟨.inl h.sm.1, by rw [colN_old (h.lt bm h.sm.1)]; exact h.sm.2⟩
  sl := fun g hg => by
    rcases hn g hg with h1 | h1
    · exact ⟨.inl h1.1, by rw [colN_old (h.lt g h1.1)]; exact h1.2⟩
    · refine ⟨.inr ⟨h1, ?_⟩, colN_new h1⟩
      exact (hl.lt g hg).2
  lt := fun k hk => hk.elim (fun hk => Nat.lt_of_lt_of_le (h.lt k hk) hz) (fun hk => hk.2)
/-- other transactions: the map is written, and of the rows at most that of one connection -/
theorem PNx.remap (h : PNx b n cb bm AL nl cl W col S w) {n' : Nd} (hlg : n'.lg = n.lg) {W' : Wts} (c0 : Int)
    (ht : w'.heap[b]? = some (.cells #[.pointer (some ⟨cb, 0, none⟩), .int .u64 n'.ep, .bool n'.ld, .slice AL nl cl, .map (some bm)] 133 (0, 0)))
    (hm : MapW w' bm n'.op.length W') (ho : ∀ c, I64n c → c ≠ c0 → (opOf c n'.op = none ∧ W' c = none) ∨ (opOf c n'.op = opOf c n.op ∧ W' c = W c))
    (h0 : I64n c0 → (opOf c0 n'.op = none ∧ W' c0 = none) ∨ ∃ ts A m d, opOf c0 n'.op = some ts ∧ W' c0 = some (A, m, d) ∧ w'.ownsRow 0 9 1 (.slice A m d) m (tvs ts) ∧ ∀ g, (Value.slice A m d).ownBlock = some g → (S g ∧ col g = .tx c0) ∨ w.heap.size ≤ g)
    (hk : ∀ k, S k → k ≠ b → k ≠ bm → col k ≠ .tx c0 → w'.heap[k]? = w.heap[k]?) (hz : w.heap.size ≤ w'.heap.size) :
    PNx b n' cb bm AL nl cl W' (colN col w.heap.size (.tx c0)) (fun k => S k ∨ (w.heap.size ≤ k ∧ k < w'.heap.size)) w' := by
  have nb : ∀ k, S k → col k ≠ .top → k ≠ b := fun k _ hc e => hc (e ▸ h.sb.2)
  have nm : ∀ k, S k → col k ≠ .map → k ≠ bm := fun k _ hc e => hc (e ▸ h.sm.2)
  have hold : ∀ k, S k → colN col w.heap.size (.tx c0) k = col k := fun k hk => colN_old (h.lt k hk)
  refine ⟨ht, ?_, hm, fun c hc => ?_, ?_, ⟨.inl h.sb.1, (hold b h.sb.1).trans h.sb.2⟩, ⟨.inl h.sm.1, (hold bm h.sm.1).trans h.sm.2⟩, fun g hg => ⟨.inl (h.sl g hg).1, (hold g (h.sl g hg).1).trans (h.sl g hg).2⟩, fun k hk => hk.elim (fun hk => Nat.lt_of_lt_of_le (h.lt k hk) hz) (fun hk => hk.2)⟩
  · rw [hlg]
    exact own_keep h.lg fun g hg => by
      have h2 := (h.sl g hg).2
      exact hk g (h.sl g hg).1 (nb g (h.sl g hg).1 (by rw [h2]; exact fun e => nomatch e)) (nm g (h.sl g hg).1 (by rw [h2]; exact fun e => nomatch e)) (by rw [h2]; exact fun e => nomatch e)
  · by_cases e : c = c0
    · subst e
      refine (h0 hc).imp id fun ⟨ts, A, m, d, a1, a2, a3, a4⟩ => ⟨ts, A, m, d, a1, a2, a3, fun g hg => ?_⟩
      rcases a4 g hg with a5 | a5
      · exact ⟨.inl a5.1, (hold g a5.1).trans a5.2⟩
      · exact ⟨.inr ⟨a5, (a3.lt g hg).2⟩, colN_new a5⟩
    · rcases ho c hc e with h1 | ⟨h1, h2⟩
      · exact .inl h1
      · rw [h1, h2]
        refine (h.op c hc).imp id fun ⟨ts, A, m, d, a1, a2, a3⟩ => ⟨ts, A, m, d, a1, a2, own_keep a3.own fun g hg => ?_, fun g hg => ⟨.inl (a3.at_ g hg).1, (hold g (a3.at_ g hg).1).trans (a3.at_ g hg).2⟩⟩
        have h2 := (a3.at_ g hg).2
        exact hk g (a3.at_ g hg).1 (nb g (a3.at_ g hg).1 (by rw [h2]; exact fun e => nomatch e)) (nm g (a3.at_ g hg).1 (by rw [h2]; exact fun e => nomatch e)) (by rw [h2]; exact fun e2 => e (by injection e2))
  · have h1 := (CT cb).keep h.cls (w' := w') (fun k hk2 => hk k hk2.1 (nb k hk2.1 (by rw [hk2.2]; exact fun e => nomatch e)) (nm k hk2.1 (by rw [hk2.2]; exact fun e => nomatch e)) (by rw [hk2.2]; exact fun e => nomatch e)) hz
    obtain ⟨h2, h3, x, h4⟩ := h1
    refine ⟨⟨.inl h2.1, (hold cb h2.1).trans h2.2⟩, fun k hk => ?_, x, h4.imp id fun ⟨q, a1, a2, a3, a4⟩ => ⟨q, a1, a2, a3, .inl a4.1, (hold q a4.1).trans a4.2⟩⟩
    rcases hk.1 with h5 | h5
    · exact Nat.lt_of_lt_of_le (h.lt k h5) hz
    · exact h5.2
/-- its Classer was asked -/
theorem PNx.classed (h : PNx b n cb bm AL nl cl W col S w) {x : Value} (hx : Cls w' cb (.int .u32 0) (.int .i32 0) x (.map none) ∨ ∃ q, Cls w' cb (.int .u32 1) (.int .i32 0) x (.map (some q)) ∧ MapAt w' q famL ∧ q ≠ cb ∧ ((S q ∧ col q = .cls) ∨ w.heap.size ≤ q))
    (hk : ∀ k, S k → k ≠ cb → w'.heap[k]? = w.heap[k]?) (hz : w.heap.size ≤ w'.heap.size) : PNx b n cb bm AL nl cl W (colN col w.heap.size .cls) (fun k => S k ∨ (w.heap.size ≤ k ∧ k < w'.heap.size)) w' := by
  have hcb := h.cls.1
  have nc : ∀ k, S k → col k ≠ .cls → k ≠ cb := fun k _ hc e => hc (e ▸ hcb.2)
  have hold : ∀ k, S k → colN col w.heap.size .cls k = col k := fun k hk => colN_old (h.lt k hk)
  refine ⟨(hk _ h.sb.1 (nc b h.sb.1 (by rw [h.sb.2]; exact fun e => nomatch e))).trans h.top, own_keep h.lg fun g hg => hk g (h.sl g hg).1 (nc g (h.sl g hg).1 (by rw [(h.sl g hg).2]; exact fun e => nomatch e)), h.map.keep (hk _ h.sm.1 (nc bm h.sm.1 (by rw [h.sm.2]; exact fun e => nomatch e))), fun c hc => ?_, ?_, ⟨.inl h.sb.1, (hold b h.sb.1).trans h.sb.2⟩, ⟨.inl h.sm.1, (hold bm h.sm.1).trans h.sm.2⟩, fun g hg => ⟨.inl (h.sl g hg).1, (hold g (h.sl g hg).1).trans (h.sl g hg).2⟩, fun k hk => hk.elim (fun hk => Nat.lt_of_lt_of_le (h.lt k hk) hz) (fun hk => hk.2)⟩
  · refine (h.op c hc).imp id fun ⟨ts, A, m, d, a1, a2, a3⟩ => ⟨ts, A, m, d, a1, a2, own_keep a3.own fun g hg => ?_, fun g hg => ⟨.inl (a3.at_ g hg).1, (hold g (a3.at_ g hg).1).trans (a3.at_ g hg).2⟩⟩
    exact hk g (a3.at_ g hg).1 (nc g (a3.at_ g hg).1 (by rw [(a3.at_ g hg).2]; exact fun e => nomatch e))
  · refine ⟨⟨.inl hcb.1, (hold cb hcb.1).trans hcb.2⟩, fun k hk => ?_, x, hx.imp id fun ⟨q, a1, a2, a3, a4⟩ => ⟨q, a1, a2, a3, ?_⟩⟩
    · rcases hk.1 with h5 | h5
      · exact Nat.lt_of_lt_of_le (h.lt k h5) hz
      · exact h5.2
    · rcases a4 with a4 | a4
      · exact ⟨.inl a4.1, (hold q a4.1).trans a4.2⟩
      · exact ⟨.inr ⟨a4, a2.lt⟩, colN_new a4⟩
end
/-- the landed node -/
def PN (b : Nat) (n : Nd) : Thing where
  p := fun S w => ∃ cb bm AL nl cl W col, PNx b n cb bm AL nl cl W col S w
  keep := fun ⟨_, _, _, _, _, _, _, h⟩ hk hz => ⟨_, _, _, _, _, _, _, h.keep hk hz⟩
  lt := fun ⟨_, _, _, _, _, _, _, h⟩ => h.lt
end

/- The landed node: Epoch, Leads, enter, Lead, Close, begin, rollback, pass: contracts. -/
section
open Go.RowKit Go.Maps Go.WideMaps
set_option maxRecDepth 100000

theorem idx_some {c : Int} {l : List Op15} : decide (0 ≤ idxOp c l) = (opOf c l).isSome := by
  cases h : opOf c l with
  | none =>
    rw [idxOp_none (opOf_none.1 h)]
    rfl
  | some ts =>
    have h1 : ¬ idxOp c l = -1 := fun e => by
      have h2 : ∀ o ∈ l, o.c ≠ c := by
        intro o ho hc
        obtain ⟨j, hj, rfl⟩ := List.getElem_of_mem ho
        have h3 := idxOp_ge c l
        clear h h3
        induction l generalizing j with
        | nil => simp at hj
        | cons q r ih =>
          unfold idxOp at e
          split at e
          · omega
          · rename_i hq
            cases j with
            | zero => exact hq hc
            | succ j =>
              have h4 := idxOp_ge c r
              split at e
              · exact ih (by omega) j (by simpa using hj) (List.getElem_mem _) hc
              · omega
      rw [opOf_none.2 h2] at h
      cases h
    have h2 := idxOp_ge c l
    simp
    omega
theorem dropOp_len {c : Int} {l : List Op15} (hn : (l.map Op15.c).Nodup) : (dropOp c l).length = if (opOf c l).isSome = true then l.length - 1 else l.length := by
  cases h : opOf c l with
  | none => rw [dropOp_no (opOf_none.1 h)]; rfl
  | some ts =>
    obtain ⟨o, ho, hc, _⟩ := opOf_mem h
    obtain ⟨j, hj, rfl⟩ := List.getElem_of_mem ho
    rw [dropOp_at hj hn hc]
    simp
    omega
theorem Off.grownS {S : Nat → Prop} {w w1 w2 : World} {row : Option Nat} (h : Off S w w1) (hg : w1.grownBy w2 row) (hr : ∀ g, row = some g → S g ∨ w.heap.size ≤ g) : Off S w w2 :=
  ⟨hg.os.trans h.os, hg.tape.trans h.tape, hg.output.trans h.output, Nat.le_trans h.size hg.size, fun k hk hn => (hg.block k (Nat.lt_of_lt_of_le hk h.size) (fun e => (hr k e.symm).elim hn (fun e2 => by omega))).trans (h.block k hk hn)⟩
section
variable {b : Nat} {n n' : Nd} {cb bm : Nat} {AL : Option Addr} {nl cl : Nat} {W W' : Wts} {col col' : Nat → Role} {S : Nat → Prop} {w w' : World}
theorem PN.turn (h : PNx b n' cb bm AL nl cl W' col' (fun k => S k ∨ (w.heap.size ≤ k ∧ k < w'.heap.size)) w') (ho : Off S w w') : Turn (PN b n') S w w' :=
  ⟨⟨_, ⟨_, _, _, _, _, _, _, h⟩, fun _ hk => hk.imp id (·.1)⟩, ho⟩
theorem PNx.some_ (h : PNx b n cb bm AL nl cl W col S w) {c : Int} (hc : I64n c) : (W c).isSome = (opOf c n.op).isSome := by
  rcases h.op c hc with ⟨h1, h2⟩ | ⟨ts, A, m, d, h1, h2, _⟩
  · rw [h1, h2]; rfl
  · rw [h1, h2]; rfl
theorem PNx.mne (h : PNx b n cb bm AL nl cl W col S w) : bm ≠ b := fun e => by
  have := h.sb.2
  rw [← e, h.sm.2] at this
  cases this
theorem pepoch15_ok (h : (PN b n).p S w) :
    Calls Tryz.prog 41 #[.pointer (some ⟨b, 0, none⟩)] w fun e w' => e = .returned (.int .u64 n.ep) ∧ Below w.heap.size w w' := by
  obtain ⟨cb, bm, AL, nl, cl, W, col, hx⟩ := h
  obtain ⟨_, c1, _⟩ := hx.tops
  clear hx
  go_enter Tryz.func41, Tryz.ntmps41
  go_wp2_with fail
  go_ret
  exact ⟨rfl, Below.refl _ _⟩
theorem pleads15_ok (h : (PN b n).p S w) :
    Calls Tryz.prog 43 #[.pointer (some ⟨b, 0, none⟩)] w fun e w' => e = .returned (.bool n.ld) ∧ Below w.heap.size w w' := by
  obtain ⟨cb, bm, AL, nl, cl, W, col, hx⟩ := h
  obtain ⟨_, _, c2, _⟩ := hx.tops
  clear hx
  go_enter Tryz.func43, Tryz.ntmps43
  go_wp2_with fail
  go_ret
  exact ⟨rfl, Below.refl _ _⟩
theorem penter_ok (e : Int) (l : Bool) (h : (PN b n).p S w) :
    Calls Tryz.prog 84 #[.pointer (some ⟨b, 0, none⟩), .int .u64 e, .bool l] w fun e' w' => e' = .returned (.tuple #[]) ∧ Turn (PN b ⟨e, l, n.lg, []⟩) S w w' := by
  obtain ⟨cb, bm, AL, nl, cl, W, col, hx⟩ := h
  obtain ⟨c0, c1, c2, c3, c4⟩ := hx.tops
  obtain ⟨f1, f2, f3⟩ := hx.thaw
  have hne := hx.mne
  have hz : ((w.setCell ⟨b, 1, none⟩ (.int .u64 e)).setCell ⟨b, 2, none⟩ (.bool l)).heap.size = w.heap.size := by rw [set_size, set_size]
  have hoq : Off S w ((w.setCell ⟨b, 1, none⟩ (.int .u64 e)).setCell ⟨b, 2, none⟩ (.bool l)) := Off.setCell (Off.setCell (Off.refl S w) (.inl hx.sb.1) _) (.inl hx.sb.1) _
  have hbq := heap_setCell_same _ b 2 _ _ (.bool l) (heap_setCell_same w b 1 _ _ (.int .u64 e) hx.top)
  have hkq : ∀ k, k ≠ b → ((w.setCell ⟨b, 1, none⟩ (.int .u64 e)).setCell ⟨b, 2, none⟩ (.bool l)).heap[k]? = w.heap[k]? := fun k hk => (set_other hk).trans (set_other hk)
  obtain ⟨w2, hrun, hm2, hg2⟩ := (hx.map.keep (hkq bm hne)).clear
  have hb2 := (hg2.block b (by rw [hz]; exact hx.lt b hx.sb.1) (fun e => hne (by injection e with e; exact e.symm))).trans hbq
  have hfin : Turn (PN b ⟨e, l, n.lg, []⟩) S w w2 := PN.turn (hx.remap (n' := ⟨e, l, n.lg, []⟩) rfl 0 hb2 hm2 (fun _ _ _ => .inl ⟨rfl, rfl⟩) (fun _ => .inl ⟨rfl, rfl⟩) (fun k hk h1 h2 _ => (hg2.block k (by rw [hz]; exact hx.lt k hk) (fun e => h2 (by injection e))).trans (hkq k h1)) (by have := hg2.size; omega))
    (hoq.grownS hg2 (fun g hg => by injection hg with hg; exact .inl (hg ▸ hx.sm.1)))
  have HF := Lib.hid hfin
  clear hx hne hz hoq hbq hkq hm2 hg2 hb2 hfin
  go_enter Tryz.func84, Tryz.ntmps84
  go_wp2_with fail
  go_end0
  exact ⟨rfl, HF.out⟩
theorem plead15_ok (e : Int) (h : (PN b n).p S w) :
    Calls Tryz.prog 61 #[.pointer (some ⟨b, 0, none⟩), .int .u64 e] w fun e' w' => e' = .returned (.bool (decide (n.ep ≤ e))) ∧ Turn (PN b (leadNd n e)) S w w' := by
  have HT := Lib.hid h
  have HE := Lib.hid (penter_ok e true h)
  obtain ⟨cb, bm, AL, nl, cl, W, col, hx⟩ := h
  obtain ⟨_, c1, _⟩ := hx.tops
  clear hx
  by_cases he : e < n.ep
  · rw [decide_eq_false (by omega), show leadNd n e = n from if_pos he]
    go_enter Tryz.func61, Tryz.ntmps61
    go_wp2_with fail
    go_ret
    exact ⟨rfl, Turn.here HT.out⟩
  · rw [decide_eq_true (by omega), show leadNd n e = ⟨e, true, n.lg, []⟩ from if_neg he]
    go_enter Tryz.func61, Tryz.ntmps61
    go_wp2_with fail
    refine HE.out.mono ?_
    rintro e' w2 ⟨rfl, ht⟩
    have HF := Lib.hid ht
    clear ht HE
    go_wp2_with fail
    go_ret
    exact ⟨rfl, HF.out⟩
/-- what is left of a transaction's place when it is dropped -/
theorem PNx.closed (h : PNx b n cb bm AL nl cl W col S w) (hn : (n.op.map Op15.c).Nodup) {c : Int} (hc : I64n c) (hm : MapW w' bm (if (W c).isSome = true then n.op.length - 1 else n.op.length) (updW W c none)) (hg : w.grownBy w' (some bm)) :
    PNx b (closeNd n c) cb bm AL nl cl (updW W c none) (colN col w.heap.size (.tx c)) (fun k => S k ∨ (w.heap.size ≤ k ∧ k < w'.heap.size)) w' := by
  have hne := h.mne
  refine h.remap (n' := closeNd n c) rfl c ((hg.block b (h.lt b h.sb.1) (fun e => hne (by injection e with e; exact e.symm))).trans h.top) ?_ (fun k hk e => .inr ⟨(dropOp_of c k n.op).trans (if_neg e), if_neg e⟩) (fun _ => .inl ⟨(dropOp_of c c n.op).trans (if_pos rfl), if_pos rfl⟩) (fun k hk _ h2 _ => hg.block k (h.lt k hk) (fun e => h2 (by injection e))) hg.size
  have e1 : (closeNd n c).op.length = if (W c).isSome = true then n.op.length - 1 else n.op.length := by
    rw [h.some_ hc]
    exact dropOp_len hn
  rw [e1]
  exact hm
theorem pclosex_ok (c : Int) (hc : I64n c) (hn : (n.op.map Op15.c).Nodup) (hx : PNx b n cb bm AL nl cl W col S w) :
    Calls Tryz.prog 60 #[.pointer (some ⟨b, 0, none⟩), .int .i64 c] w fun e w' => e = .returned (.bool (opOf c n.op).isSome) ∧ PNx b (closeNd n c) cb bm AL nl cl (updW W c none) (colN col w.heap.size (.tx c)) (fun k => S k ∨ (w.heap.size ≤ k ∧ k < w'.heap.size)) w' ∧ w.grownBy w' (some bm) := by
  obtain ⟨c0, c1, c2, c3, c4⟩ := hx.tops
  have hl := hx.map.look hc
  rw [hx.some_ hc] at hl
  obtain ⟨w2, hrun, hm2, hg2⟩ := hx.map.drop hc
  have HF := Lib.hid (And.intro (hx.closed hn hc hm2 hg2) hg2)
  clear hx hm2 hg2 hn
  generalize slV (W c) = v at *
  generalize (opOf c n.op).isSome = x at *
  go_enter Tryz.func60, Tryz.ntmps60
  go_wp2_with fail
  go_ret
  exact ⟨rfl, HF.out⟩
theorem PNx.clturn (h : PNx b n cb bm AL nl cl W col S w) (hp : PNx b n' cb bm AL nl cl W' col' (fun k => S k ∨ (w.heap.size ≤ k ∧ k < w'.heap.size)) w') (hg : w.grownBy w' (some bm)) : Turn (PN b n') S w w' :=
  PN.turn hp ((Off.refl S w).grownS hg (fun g hg => by injection hg with hg; exact .inl (hg ▸ h.sm.1)))
theorem pclose15_ok (c : Int) (hc : I64n c) (hn : (n.op.map Op15.c).Nodup) (h : (PN b n).p S w) :
    Calls Tryz.prog 60 #[.pointer (some ⟨b, 0, none⟩), .int .i64 c] w fun e w' => e = .returned (.bool (decide (0 ≤ idxOp c n.op))) ∧ Turn (PN b (closeNd n c)) S w w' := by
  obtain ⟨cb, bm, AL, nl, cl, W, col, hx⟩ := h
  refine (pclosex_ok c hc hn hx).mono ?_
  rintro e w' ⟨rfl, hp, hg⟩
  exact ⟨by rw [idx_some], hx.clturn hp hg⟩
end
end

/- The landed node: what is done of each class (a map of functions), New: contracts. -/
section
open Go.RowKit Go.Maps Go.WideMaps
set_option maxRecDepth 100000

/-- a function's value as a datum -/
def fnR : Value → Option (DataW Unit × List MemPlace)
  | .nilFunc => some (.lit (.int .i64 (-1)), [])
  | .func (.func f) a c => if a.size = 0 ∧ c.size = 0 then some (.lit (.int .i64 (f : Nat)), []) else none
  | _ => none
theorem fnR_inv {v : Value} {f : Nat} {ps : List MemPlace} (h : fnR v = some (.lit (.int .i64 (f : Nat)), ps)) : v = .func (.func f) #[] #[] := by
  unfold fnR at h
  split at h
  · simp only [Option.some.injEq, Prod.mk.injEq, DataW.lit.injEq, Lit.int.injEq, true_and] at h
    omega
  · split at h
    · rename_i hs
      simp only [Option.some.injEq, Prod.mk.injEq, DataW.lit.injEq, Lit.int.injEq, true_and] at h
      obtain ⟨h1, _⟩ := h
      rw [Int.ofNat.inj h1, Array.eq_empty_of_size_eq_zero hs.1, Array.eq_empty_of_size_eq_zero hs.2]
    · cases h
  · cases h
theorem fnZero (w : World) : (zeroValue 176).run Tryz.prog w = .ok .nilFunc w := by kernel_rfl
def datF (L : List (Int × Nat)) : DataW Unit := L.foldl (fun D p => D.put (.int .i64 p.1) (.lit (.int .i64 p.2))) (.map [])
theorem datF_push (L : List (Int × Nat)) (x : Int) (c : Nat) : datF (L ++ [(x, c)]) = (datF L).put (.int .i64 x) (.lit (.int .i64 c)) := by simp [datF, List.foldl_append]
structure LaidF (w0 : World) (b : Nat) (L : List (Int × Nat)) (w : World) : Prop where
  map : w.ownsMap Tryz.prog 3 fnR b L.length (datF L)
  low : Below w0.heap.size w0 w
  new : w0.heap.size ≤ b
theorem wpList_insertF {w0 : World} {b : Nat} {L : List (Int × Nat)} {w : World} (hl : LaidF w0 b L w) (hn : L.length < 1000) {ops : Array Oper} {rest : List Oper} {o : Oper} {a : Act} {Q : Exit → Act → World → Prop}
    (hg : o.guard = none) (m x v : Operand) (hop : o.op = Op.insert 177 m x v) (k : Int) (f : Nat) (hm : a.eval m = .map (some b)) (hx : a.eval x = .int .i64 k) (hv : a.eval v = .func (.func f) #[] #[]) (hk : I64n k)
    (hK : ∀ w', LaidF w0 b (L ++ [(k, f)]) w' → wpList Tryz.prog ops Q rest (a.put o.dst undef) w') :
    wpList Tryz.prog ops Q (o :: rest) a w := by
  refine wpList_plain hg fun K' hK' => ?_
  obtain ⟨w', hrun, r1, r2⟩ := World.ownsMap.update hl.map iKey Tryz.underlying177 (by unfold maxLen; omega) (iKeyOf hk) (show fnR (.func (.func f) #[] #[]) = some (.lit (.int .i64 (f : Nat)), []) from rfl)
  unfold Oper.wp
  simp [execOp, hop, hm, hx, hv, hrun, Result.andThen]
  refine hK' _ _ (hK w' ⟨?_, ?_, hl.new⟩)
  · rw [datF_push, List.length_append]
    exact r1
  · exact hl.low.grown r2 hl.low.size (fun k hk => by cases hk; exact hl.new)
def actL : List (Int × Nat) := [(1, 126), (2, 127), (3, 128), (4, 129), (5, 130), (6, 131), (7, 127)]
theorem actL_at : ∀ p ∈ actL, ∀ z, (datF actL).atKey (.int .i64 p.1) z = .lit (.int .i64 (p.2 : Nat)) := by
  intro p hp z
  simp only [actL, List.mem_cons, List.not_mem_nil, or_false] at hp
  rcases hp with rfl | rfl | rfl | rfl | rfl | rfl | rfl <;> rfl
theorem acts_ok (w : World) : Calls Tryz.prog 108 #[] w fun e w' => ∃ bm, e = .returned (.map (some bm)) ∧ (∀ p ∈ actL, (Instr.lookup 177 (.map (some bm)) (.int .i64 p.1) false).run Tryz.prog w' = .ok (.func (.func p.2) #[] #[]) w') ∧ Below w.heap.size w w' := by
  have hmm := @run_makeMap Tryz.prog
  have hl : LaidF w w.heap.size [] (w.alloc (.map #[] 0)) := ⟨World.ownsMap_made _ _ _ _, kp_new _ _, Nat.le_refl _⟩
  go_enter Tryz.func108, Tryz.ntmps108
  go_wp2_with (refine wpList_insertF hl (by simp) rfl _ _ _ rfl _ _ rfl rfl rfl (by unfold I64n; omega) ?_; clear hl; intro w1 hl)
  go_ret
  refine ⟨_, rfl, fun p hp => ?_, hl.low⟩
  have hp64 : I64n p.1 := by
    simp only [actL, List.mem_cons, List.not_mem_nil, or_false] at hp
    rcases hp with rfl | rfl | rfl | rfl | rfl | rfl | rfl <;> (unfold I64n; omega)
  obtain ⟨v, ps, hrun, hv⟩ := World.ownsMap.lookup hl.map iKey Tryz.underlying177 (fnZero _) (show fnR .nilFunc = some (.lit (.int .i64 (-1)), []) from rfl) (iKeyOf hp64)
  have h2 := hv.trans (congrArg (fun d => some (d, ps)) (actL_at p hp _))
  rw [hrun, fnR_inv h2]

theorem pnew15_ok (w : World) :
    Calls Tryz.prog 32 #[] w fun e w' => ∃ b, e = .returned (.pointer (some ⟨b, 0, none⟩)) ∧ (∃ S, (PN b newNd).p S w' ∧ ∀ k, S k → w.heap.size ≤ k) ∧ Below w.heap.size w w' := by
  have hmm := @run_makeMap Tryz.prog
  have HC := Lib.hid (newCT_ok w)
  go_enter Tryz.func32, Tryz.ntmps32
  go_wp2_with fail
  refine HC.out.mono ?_
  rintro e w1 ⟨rfl, hc, hb⟩
  have HB := Lib.hid hb
  have HCT := Lib.hid hc
  clear HC hb hc
  go_wp2_with fail
  go_ret
  have hz := HB.out.size
  have hcl := HCT.out.2.1 _ rfl
  have hb2 : Below w.heap.size w ((w1.alloc (.map #[] 0)).alloc (.cells #[.pointer (some ⟨w.heap.size, 0, none⟩), .int .u64 1, .bool false, .slice none 0 0, .map (some w1.heap.size)] 133)) := kp_alloc (kp_alloc HB.out _) _
  have hz1 : (w1.alloc (.map #[] 0)).heap.size = w1.heap.size + 1 := by simp
  refine ⟨w1.heap.size + 1, by rw [← hz1]; rfl, ⟨fun k => k = w.heap.size ∨ k = w1.heap.size ∨ k = w1.heap.size + 1, ⟨w.heap.size, w1.heap.size, none, 0, 0, fun _ => none, fun k => if k = w.heap.size then .cls else if k = w1.heap.size then .map else .top, ?_⟩, fun k hk => by omega⟩, hb2⟩
  have h2 := kp_new (w1.alloc (.map #[] 0)) (.cells #[.pointer (some ⟨w.heap.size, 0, none⟩), .int .u64 1, .bool false, .slice none 0 0, .map (some w1.heap.size)] 133)
  have h3 := kp_new w1 (.map #[] 0)
  refine ⟨?_, World.ownsRow_nil _ _ _ _, ?_, fun c _ => .inl ⟨rfl, rfl⟩, ?_, ⟨.inr (.inr rfl), by rw [if_neg (by omega), if_neg (by omega)]⟩, ⟨.inr (.inl rfl), by rw [if_neg (by omega), if_pos rfl]⟩, fun g hg => by simp [Value.ownBlock] at hg, fun k hk => ?_⟩
  · rw [← hz1]
    exact heap_alloc_new _ _
  · exact (MapW.made w1).keep (h2.block _ (by rw [hz1]; omega))
  · have h4 := Thing.next (X := CT w.heap.size) (Thing.next (X := CT w.heap.size) HCT.out h3) h2
    obtain ⟨_, h5, x, h6⟩ := h4
    refine ⟨⟨.inl rfl, if_pos rfl⟩, fun k hk => ?_, x, h6.imp id fun ⟨q, a1, a2, a3, a4⟩ => absurd a4 a3⟩
    have : k = w.heap.size := by
      have h7 := hk.2
      by_cases e : k = w.heap.size
      · exact e
      · simp only [if_neg e] at h7
        split at h7 <;> cases h7
    exact h5 k this
  · simp
    omega
end

/- The landed node: lay: contract. -/
section
open Go.RowKit Go.Maps Go.WideMaps
set_option maxRecDepth 100000

theorem entinfo15 : (Tryz.prog.info? 69).map (fun i => (i.zero, i.size, i.bytes)) = some (some (.agg #[.int .u64 0, .string ⟨#[]⟩]), 2, 24) := by kernel_rfl
theorem step_append_run {P : Program} {ops : Array Oper} {o : Oper} {a : Act} {w : World} {K : Act → World → Prop} {Q : Exit → Act → World → Prop} {E : Prop} (hw : Region.wanted o (yielded ops a.tmps) = true) (s x : Operand) (t : TypeId)
    (ho : o.op = .call { callee := .builtin .append, args := #[s, x], argTypes := #[t, t] }) (v y : Value) (hs : a.eval s = v) (hx : a.eval x = y) {v3 : Value} {w3 : World}
    (hrun : (Builtin.append_ #[t, t] o.type #[v, y]).run P w = .ok v3 w3) (h : K (a.put o.dst v3) w3) :
    if Region.wanted o (yielded ops a.tmps) = true then Oper.wp P o a w K Q else E := by
  rw [if_pos hw]
  unfold Oper.wp execOp
  simp only [ho, resolve, invoke, builtin, Sem.run_bind, Sem.run_pure, Result.andThen_ok, List.map_toArray, List.map_cons, List.map_nil, hs, hx, hrun]
  exact h
/-- a call leaves the node so; of what lay there the node's own block and its log alone are written -/
structure LayT (b : Nat) (n' : Nd) (cb bm : Nat) (W : Wts) (S : Nat → Prop) (col : Nat → Role) (w w' : World) : Prop where
  at_ : ∃ A m c S' col', PNx b n' cb bm A m c W col' S' w' ∧ (∀ q, S' q → S q ∨ w.heap.size ≤ q) ∧ (∀ q, S' q → q < w.heap.size → col' q = col q)
  off : Off (fun q => q = b ∨ (S q ∧ col q = .log)) w w'
section
variable {b : Nat} {n n' n'' : Nd} {cb bm : Nat} {AL : Option Addr} {nl cl : Nat} {W W' : Wts} {col col' : Nat → Role} {S : Nat → Prop} {w w' w'' : World}
theorem LayT.turn (h : LayT b n' cb bm W S col w w') (hb : S b) : Turn (PN b n') S w w' := by
  obtain ⟨⟨A, m, c, S', col', h1, h2, _⟩, h3⟩ := h
  exact ⟨⟨S', ⟨_, _, _, _, _, _, _, h1⟩, h2⟩, h3.wide fun k hk => hk.elim (fun e => e ▸ hb) (fun e => e.1)⟩
theorem LayT.here (h : PNx b n cb bm AL nl cl W col S w) : LayT b n cb bm W S col w w := ⟨⟨_, _, _, S, col, h, fun _ h => .inl h, fun _ _ _ => rfl⟩, Off.refl _ _⟩
/-- the log is stored: an append made it, of the log or of what is left of it by a cut -/
theorem PNx.stored (h : PNx b n cb bm AL nl cl W col S w) {wA w5 : World} (hA : Below w.heap.size w wA) {k m5 c5 : Nat} {A5 : Option Addr} {l5 : List Lg} (ho : w5.ownsRow 0 69 2 (.slice A5 m5 c5) m5 (lgC l5))
    (hg : wA.grownBy w5 (Value.slice AL k cl).ownBlock) (hw : (Value.slice A5 m5 c5).ownBlock = (Value.slice AL k cl).ownBlock ∨ ∃ g, (Value.slice A5 m5 c5).ownBlock = some g ∧ wA.heap.size ≤ g) :
    PNx b { n with lg := l5 } cb bm A5 m5 c5 W (colN col w.heap.size .log) (fun k => S k ∨ (w.heap.size ≤ k ∧ k < (w5.setCell ⟨b, 3, none⟩ (.slice A5 m5 c5)).heap.size)) (w5.setCell ⟨b, 3, none⟩ (.slice A5 m5 c5)) ∧
      Off (fun q => q = b ∨ (S q ∧ col q = .log)) w (w5.setCell ⟨b, 3, none⟩ (.slice A5 m5 c5)) ∧ w5.heap[b]? = w.heap[b]? := by
  have hbl : ∀ g, (Value.slice AL k cl).ownBlock = some g → (S g ∧ col g = .log) ∧ g ≠ b := fun g hg => by
    have h1 : (Value.slice AL nl cl).ownBlock = some g := by
      cases AL with
      | none => cases hg
      | some ad => exact hg
    refine ⟨h.sl g h1, fun e => ?_⟩
    have h2 := (h.sl g h1).2
    rw [e, h.sb.2] at h2
    cases h2
  have hz := hA.size
  have hz5 := hg.size
  have hb5w : w5.heap[b]? = w.heap[b]? := (hg.block b (Nat.lt_of_lt_of_le (h.lt b h.sb.1) hz) (fun e => (hbl b e.symm).2 rfl)).trans (hA.block b (h.lt b h.sb.1))
  have hb5 := hb5w.trans h.top
  have hof : Off (fun q => q = b ∨ (S q ∧ col q = .log)) w w5 := (Off.of _ hA).grownS hg fun g hg => .inl (.inr (hbl g hg).1)
  have hn5 : (Value.slice A5 m5 c5).ownBlock ≠ some b := fun e => by
    rcases hw with e2 | ⟨g, e2, hg2⟩
    · rw [e] at e2
      exact (hbl b e2.symm).2 rfl
    · rw [e] at e2
      injection e2 with e2
      have := h.lt b h.sb.1
      omega
  have ho6 := ownsRow_setCell_other (a := ⟨b, 3, none⟩) ho hn5 (.slice A5 m5 c5)
  have hoff : Off (fun q => q = b ∨ (S q ∧ col q = .log)) w (w5.setCell ⟨b, 3, none⟩ (.slice A5 m5 c5)) := Off.setCell hof (.inl (.inl rfl)) _
  refine ⟨h.relog (l' := l5) (heap_setCell_same w5 b 3 _ _ (.slice A5 m5 c5) hb5) ho6 (fun g hg2 => ?_) (fun k hk h1 h2 => hoff.block k (h.lt k hk) (fun e => e.elim h1 fun e => h2 e.2)) hoff.size, hoff, hb5w⟩
  rcases hw with e2 | ⟨g', e2, hg3⟩
  · rw [hg2] at e2
    exact .inl (hbl g e2.symm).1
  · rw [hg2] at e2
    injection e2 with e2
    exact .inr (by omega)
theorem LayT.step {S' : Nat → Prop} {A2 : Option Addr} {m2 c2 : Nat} (h2 : ∀ q, S' q → S q ∨ w.heap.size ≤ q) (h3 : ∀ q, S' q → q < w.heap.size → col' q = col q) (h4 : Off (fun q => q = b ∨ (S q ∧ col q = .log)) w w')
    (k1 : PNx b n'' cb bm A2 m2 c2 W (colN col' w'.heap.size .log) (fun k => S' k ∨ (w'.heap.size ≤ k ∧ k < w''.heap.size)) w'') (k2 : Off (fun q => q = b ∨ (S' q ∧ col' q = .log)) w' w'') : LayT b n'' cb bm W S col w w'' := by
  have hz := h4.size
  refine ⟨⟨A2, m2, c2, _, _, k1, fun q hq => ?_, fun q hq hl => ?_⟩, h4.trans k2 fun q hq => ?_⟩
  · rcases hq with hq | hq
    · exact h2 q hq
    · exact .inr (by omega)
  · rw [colN_old (Nat.lt_of_lt_of_le hl hz)]
    rcases hq with hq | hq
    · exact h3 q hq hl
    · omega
  · rcases hq with hq | ⟨hq, hc⟩
    · exact .inl (.inl hq)
    · by_cases hl : q < w.heap.size
      · rcases h2 q hq with h5 | h5
        · exact .inl (.inr ⟨h5, (h3 q hq hl).symm.trans hc⟩)
        · exact .inr h5
      · exact .inr (by omega)

set_option maxHeartbeats 4000000 in
theorem play15_ok (A1 : Option Addr) (n1 c1 : Nat) (ts : List ByteArray) (h : PNx b n cb bm AL nl cl W col S w) (hl : n.lg.length ≤ 200) (hx : XR w A1 n1 ts) (hne : ∀ ad, A1 = some ad → ad.block ≠ b ∧ ¬ (S ad.block ∧ col ad.block = .log)) (hn1 : n1 ≤ 200) :
    Calls Tryz.prog 158 #[.pointer (some ⟨b, 0, none⟩), .slice A1 n1 c1] w fun e w' => e = .returned (.int .i64 (layNd n ts).1) ∧ LayT b (layNd n ts).2 cb bm W S col w w' := by
  obtain ⟨_, _, _, c3, _⟩ := h.tops
  have hnl := h.llen
  have hlen := hx.len
  have hwr : IntKind.i64.wrap ((nl : Int) + (n1 : Int)) = (nl : Int) + n1 := by rw [IntKind.wrap_i64]; omega
  have HP := Lib.hid h
  have HXR := Lib.hid hx
  have HNE := Lib.hid hne
  clear h hx hne
  by_cases hbig : 200 < n.lg.length + ts.length
  · rw [show layNd n ts = (5, n) from if_pos hbig]
    have hb2 : (200 : Int) < (nl : Int) + n1 := by omega
    clear hbig hnl hlen
    go_enter Tryz.func158, Tryz.ntmps158
    go_wp2_with fail
    go_ret
    exact ⟨rfl, LayT.here HP.out⟩
  rw [show layNd n ts = (0, { n with lg := n.lg ++ ts.map fun t => ⟨n.ep, t⟩ }) from if_neg hbig]
  have hb2 : ¬ (200 : Int) < (nl : Int) + n1 := by omega
  have HSM : Hid (nl + n1 ≤ 200) := Lib.hid (by omega)
  have HNL := Lib.hid hnl
  have HTL := Lib.hid hlen
  obtain ⟨i0, hi, hz0, hz1, hz2⟩ := info_parts entinfo15
  have HB0 : Hid (LayT b { n with lg := n.lg ++ (ts.take 0).map fun t => ⟨n.ep, t⟩ } cb bm W S col w w) := Lib.hid (by simpa using LayT.here HP.out)
  clear hbig hnl hlen
  go_enter Tryz.func158, Tryz.ntmps158
  go_wp2_with fail
  go_loopw [18] (fun i wr => ∃ k : Nat, k ≤ n1 ∧ i = .int .i64 k ∧ Hid (LayT b { n with lg := n.lg ++ (ts.take k).map fun t => ⟨n.ep, t⟩ } cb bm W S col w wr)) (fun i _ => n1 - (intOf i).toNat)
  case atStart => exact ⟨0, Nat.zero_le _, rfl, HB0⟩
  case round =>
    obtain ⟨k, hk, rfl, hs⟩ := hrel
    clear HB0
    by_cases hlt : k < n1
    · have hkt : k < ts.length := by rw [HTL.out]; exact hlt
      obtain ⟨A2, m, c2, S', col', hp, hS', hC'⟩ := hs.out.at_
      have hmL := hp.llen
      have HMX : Hid (m = nl + k) := Lib.hid (by
        rw [← hmL, ← HNL.out]
        simp only [List.length_append, List.length_map, List.length_take]
        omega)
      have HAPP : Hid (n.lg ++ (ts.take (k + 1)).map (fun t => (⟨n.ep, t⟩ : Lg)) = (n.lg ++ (ts.take k).map fun t => ⟨n.ep, t⟩) ++ [⟨n.ep, ts[k]⟩]) := Lib.hid (by
        rw [List.take_succ_eq_append_getElem hkt, List.map_append, List.append_assoc]
        rfl)
      have hxr0 := HXR.out.offO hs.out.off fun ad e he => he.elim (HNE.out ad e).1 (HNE.out ad e).2
      obtain ⟨ad, hA, hadl, hxt⟩ := hxr0.at_ hkt
      subst hA
      obtain ⟨t, ht⟩ : ∃ x, ts[k] = x := ⟨_, rfl⟩
      rw [ht] at HAPP hxt
      obtain ⟨ls, hls⟩ : ∃ x, (n.lg ++ (ts.take k).map fun t => (⟨n.ep, t⟩ : Lg)) = x := ⟨_, rfl⟩
      rw [hls] at hp HAPP
      obtain ⟨_, y1, _, y3, _⟩ := hp.tops
      have y3' : wr.drew.cell? ⟨b, 3, none⟩ = some (.slice A2 m c2) := y3
      have y1' : wr.drew.cell? ⟨b, 1, none⟩ = some (.int .u64 n.ep) := y1
      have hmx : m ≤ 200 := by have := HMX.out; have := HSM.out; omega
      have hi0 : (0 : Int) ≤ (k : Int) := by omega
      have hi1 : (k : Int) < (n1 : Int) := by omega
      have hblt : b < wr.heap.size := hp.lt b hp.sb.1
      have hka : Below wr.heap.size wr ((wr.alloc (.cells #[.int .u64 n.ep, .string t] 69)).drew) := (kp_new wr _).drew
      have hown : ((wr.alloc (.cells #[.int .u64 n.ep, .string t] 69)).drew).ownsRow 0 69 2 (.slice A2 m c2) m (lgC ls) := own_keep hp.lg fun g hg => hka.block g (hp.lt g (hp.sl g hg).1)
      have hrd : Rd ((wr.alloc (.cells #[.int .u64 n.ep, .string t] 69)).drew) (wr.heap.size + 1) (some ⟨wr.heap.size, 0, none⟩) [.int .u64 n.ep, .string t] := Rd.new wr 69 [.int .u64 n.ep, .string t]
      obtain ⟨A5, c5, w5, hrun, hown5, hg5, hwh⟩ := run_append_many (P := Tryz.prog) 60 60 69 i0 _ 2 24 Tryz.underlying60 hi hz0 hz1 hz2 rfl (by omega) hown _ _ 1 1 [.int .u64 n.ep, .string t] rfl hrd (by simp [Value.oneCell']) (by omega) (by omega)
      rw [show lgC ls ++ [.int .u64 n.ep, .string t] = lgC (ls ++ [⟨n.ep, t⟩]) from by rw [lgC_append]; rfl] at hown5
      have hst := hp.stored hka hown5 hg5 hwh
      have hfin : LayT b { n with lg := n.lg ++ (ts.take (k + 1)).map fun t => ⟨n.ep, t⟩ } cb bm W S col w (w5.setCell ⟨b, 3, none⟩ (.slice A5 (m + 1) c5)) := LayT.step hS' hC' hs.out.off (by rw [HAPP.out]; exact hst.1) hst.2.1
      have HF := Lib.hid hfin
      have HRUN := Lib.hid hrun
      have hf5 := (cellsAt (hst.2.2.trans hp.top) 3 (v := .slice A2 m c2) rfl).2
      have hv5 := (cellsAt (hst.2.2.trans hp.top) 3 (v := .slice A2 m c2) rfl).1
      clear hs hS' hC' hmL hp ht hls hxr0 hst hfin hown hrd hown5 hg5 hwh hka hrun
      go_wp2_with fail
      go_region_law (refine step_append_run rfl (.tmp 26) (.tmp 33) _ rfl _ _ rfl rfl HRUN.out ?_)
      all_goals
        go_wp2_with fail
        go_roundw
        case rel => exact ⟨k + 1, by omega, by go_num, HF⟩
        case measure => simp [intOf]; omega
    · obtain rfl : k = n1 := by omega
      rw [List.take_of_length_le (by rw [HTL.out]; exact Nat.le_refl _)] at hs
      go_wp2_with fail
      go_ret
      exact ⟨rfl, hs.out⟩
end
end
end Go.Proofs.YtdhnpmagapbmhaaGreatDoor
