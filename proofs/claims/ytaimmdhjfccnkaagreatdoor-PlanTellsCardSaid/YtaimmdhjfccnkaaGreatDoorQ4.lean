/-
  Contracts and plain functions that the law stands on, part 4 of 5.
-/
import Derived.Test.YtaimmdhjfccnkaaGreatDoorQ3
import Derived.OneCell
import Derived.Laws.EntriesVeiled
import Derived.Laws.StructEq
import Derived.KernelRfl
namespace Go.Proofs.YtaimmdhjfccnkaaGreatDoor
/- What is read of a table, by the call Reads of package plan: contract. Rows of texts. -/
section
open Go.RowKit
set_option maxRecDepth 100000

def tvs (l : List ByteArray) : List Value := l.map .string
theorem tvs_length (l : List ByteArray) : (tvs l).length = l.length := by simp [tvs]
theorem tvs_append (a b : List ByteArray) : tvs (a ++ b) = tvs a ++ tvs b := by simp [tvs]
theorem tvs_one (l : List ByteArray) : ∀ u ∈ tvs l, u.oneCell' = true := by
  intro u hu
  obtain ⟨b, _, rfl⟩ := List.mem_map.1 hu
  rfl
theorem strinfo6 : (Tryz.prog.info? 9).map (fun i => (i.zero, i.size, i.bytes)) = some (some (.string ⟨#[]⟩), 1, 16) := by kernel_rfl
/-- a row of texts that is read -/
structure XR (w : World) (A : Option Addr) (n : Nat) (ss : List ByteArray) : Prop where
  len : ss.length = n
  rd : Rd w w.heap.size A (tvs ss)
theorem XR.next {w w' : World} {A : Option Addr} {n : Nat} {ss : List ByteArray} (h : XR w A n ss) (hb : Below w.heap.size w w') : XR w' A n ss := ⟨h.len, (h.rd.below hb (Nat.le_refl _)).more hb.size⟩
theorem XR.nil (w : World) : XR w none 0 [] := ⟨rfl, .inl rfl⟩
theorem XR.at_ {w : World} {A : Option Addr} {n : Nat} {ss : List ByteArray} (h : XR w A n ss) {j : Nat} (hj : j < ss.length) : ∃ ad, A = some ad ∧ ad.block < w.heap.size ∧ w.cell? (ad.add j) = some (.string ss[j]) := by
  obtain ⟨ad, hA, hb, hc⟩ := h.rd.at_ (k := j) (by rw [tvs_length]; exact hj)
  exact ⟨ad, hA, hb, by simpa [tvs] using hc⟩
theorem XR.new (w : World) (t : TypeId) (ss : List ByteArray) : XR (w.alloc (.cells (tvs ss).toArray t)) (some ⟨w.heap.size, 0, none⟩) ss.length ss := ⟨rfl, (Rd.new w t (tvs ss)).more (by simp)⟩
theorem XR.of_own {w : World} {base n c : Nat} {e : TypeId} {A : Option Addr} {ss : List ByteArray} (h : w.ownsRow base e 1 (.slice A n c) n (tvs ss)) : XR w A n ss := ⟨by have := h.1; rw [tvs_length] at this; omega, Rd.of_own h⟩

theorem firsts_next (l : List Kv) (k : Nat) (h : k < l.length) : ((l.take (k + 1)).flatMap fun p => [p.k, p.v]) = ((l.take k).flatMap fun p => [p.k, p.v]) ++ [l[k].k, l[k].v] := by
  rw [List.take_succ_eq_append_getElem h, List.flatMap_append]
  rfl
theorem firsts_len : ∀ l : List Kv, (l.flatMap fun p => [p.k, p.v]).length = 2 * l.length
  | [] => rfl
  | a :: r => by
    have := firsts_len r
    simp only [List.flatMap_cons, List.length_append, List.length_cons, List.length_nil]
    omega

set_option maxHeartbeats 2000000 in
theorem first6_ok (A : Option Addr) (n c : Nat) (ts : List Kv) (w : World) (h : KR w A n ts) (hc : n ≤ c) (hn : n ≤ 700000) :
    Calls Tryz.prog 27 #[.slice A n c, .int .i64 10] w fun e w' => ∃ A' n' c', e = .returned (.slice A' n' c') ∧ XR w' A' n' (firstsF ts) ∧ Below w.heap.size w w' := by
  obtain ⟨i0, hi, hz0, hz1, hz2⟩ := info_parts strinfo6
  obtain ⟨m, hm, hm10, hmn⟩ : ∃ m : Nat, ts.take m = ts.take 10 ∧ m ≤ 10 ∧ m ≤ n ∧ (m : Int) = (if (10 : Int) < (n : Int) then 10 else (n : Int)) := by
    by_cases h10 : 10 < n
    · exact ⟨10, rfl, Nat.le_refl _, by omega, by rw [if_pos (by omega)]; rfl⟩
    · exact ⟨n, by rw [List.take_of_length_le (by rw [h.len]; exact Nat.le_refl _), List.take_of_length_le (by rw [h.len]; omega)], by omega, Nat.le_refl _, by rw [if_neg (by omega)]⟩
  obtain ⟨hmn, hme⟩ := hmn
  have hrun : ∀ (u : World) (ts : Array TypeId) (ty : TypeId), (Builtin.min_ ts ty #[.int .i64 (n : Int), .int .i64 10]).run Tryz.prog u = .ok (.int .i64 (m : Int)) u := fun u ts ty => by
    rw [run_min_int2 (P := Tryz.prog) (w := u) ts ty .i64 .i64 (n : Int) 10, ← hme]
  have hF : firstsF ts = (ts.take m).flatMap fun p => [p.k, p.v] := by rw [hm]; rfl
  rw [hF]
  obtain ⟨A0, s0, r0⟩ := h.cut0 hc Tryz.prog 32 Tryz.underlying32 kvsize (j := m) (m : Int) rfl hmn
  clear hm hme h hF hmn
  generalize ts.take m = us at *
  have HR := Lib.hid r0
  have HL := Lib.hid r0.len
  clear r0
  go_enter Tryz.func27, Tryz.ntmps27
  go_wp2_with fail
  go_loopw [5, 15] (fun v i wr => ∃ (k z : Nat) (A' : Option Addr) (c' : Nat), k ≤ m ∧ Hid (z = 2 * k) ∧ i = .int .i64 k ∧ v = .slice A' z c' ∧ wr.ownsRow w.heap.size 9 1 (.slice A' z c') z (tvs ((us.take k).flatMap fun p => [p.k, p.v])) ∧ Below w.heap.size w wr) (fun _ i _ => m - (intOf i).toNat)
  case atStart => exact ⟨0, 0, none, 0, Nat.zero_le _, Lib.hid rfl, rfl, rfl, World.ownsRow_nil _ _ _ _, Below.refl _ _⟩
  case round =>
    obtain ⟨k, z, A1, c1, hk, hz, rfl, rfl, ho, k0⟩ := hrel
    have hsz := k0.size
    by_cases hlt : k < m
    · have hkl : k < us.length := by rw [HL.out]; exact hlt
      obtain ⟨ad, rfl, had, hcc⟩ := HR.out.at_ hkl
      obtain ⟨x0, x1⟩ := hcc _ k0
      have HN := Lib.hid (firsts_next us k hkl)
      clear hcc
      generalize us[k].k = x at *
      generalize us[k].v = y at *
      have ho' : ((wr.alloc (.cells #[.string x, .string y] 81)).alloc (.cells #[.string x, .string y] 9)).ownsRow w.heap.size 9 1 (.slice A1 z c1) z (tvs ((us.take k).flatMap fun p => [p.k, p.v])) := (ho.alloc _).alloc _
      have HSRC : Hid (∀ B, Rd ((wr.alloc (.cells #[.string x, .string y] 81)).alloc (.cells #[.string x, .string y] 9)) (wr.heap.size + 1 + 1 + B) (some ⟨wr.heap.size + 1, 0, none⟩) [.string x, .string y]) := Lib.hid (fun B => by
        have := Rd.new (wr.alloc (.cells #[.string x, .string y] 81)) 9 [.string x, .string y]
        rw [show (wr.alloc (.cells #[.string x, .string y] 81)).heap.size = wr.heap.size + 1 from by simp] at this
        exact this.more (by omega))
      have kk : Below w.heap.size w ((wr.alloc (.cells #[.string x, .string y] 81)).alloc (.cells #[.string x, .string y] 9)) := kp_alloc (kp_alloc k0 _) _
      have hz20 : z ≤ 20 := by rw [hz.out]; omega
      have HO := Lib.hid ho'
      clear ho ho'
      go_wp2_with (at_builtin; refine wpList_append_rd rfl _ _ _ rfl w.heap.size 9 i0 _ 16 Tryz.underlying35 hi hz0 hz1 hz2 rfl _ z _ rfl HO.out _ _ _ _ [.string x, .string y] rfl rfl (HSRC.out 0) (by simp [Value.oneCell']) (by unfold maxLen; omega) (by omega) (by simp; omega) ?_; intro v3 w3 hown3 hg3; obtain ⟨A3, c3, rfl, _, _⟩ := own_form hown3)
      go_roundw
      case rel =>
        refine ⟨k + 1, z + 2, A3, c3, by omega, Lib.hid (by rw [hz.out]; omega), by go_num, rfl, ?_, kk.trans (below_own HO.out hg3 (by simp; omega))⟩
        rw [HN.out, tvs_append]
        exact hown3
      case measure => simp [intOf]; omega
    · obtain rfl : k = m := by omega
      rw [List.take_of_length_le (by rw [HL.out]; exact Nat.le_refl _)] at ho
      go_wp2_with fail
      go_ret
      exact ⟨A1, z, c1, rfl, XR.of_own ho, k0⟩

set_option maxHeartbeats 2000000 in
theorem reads_ok (d : Int) (k v : ByteArray) (A : Option Addr) (n c : Nat) (ts : List Kv) (w : World) (h : KR w A n ts) (hc : n ≤ c) (hs : Srt ts) (hn : n ≤ 700000) :
    Calls Tryz.prog 10 #[.agg #[.int .i64 d, .string k, .string v], .slice A n c] w fun e w' => ∃ A' n' c', e = .returned (.slice A' n' c') ∧ XR w' A' n' (readsF d k ts) ∧ Below w.heap.size w w' := by
  have kw := kp_new w (.cells #[.int .i64 d, .string k, .string v] 24)
  have HK := Lib.hid h
  have hR : readsF d k ts = if d = 1 then (if thereF k ts then [(ts.getD (posF k ts) default).v] else []) else if d = 2 then firstsF ts else [] := rfl
  by_cases h1 : d = 1
  · subst h1
    rw [if_pos rfl] at hR
    have HP := Lib.hid (place_ok A n c ts k _ (h.next kw) hs (by omega))
    have hlt := fun h => (there_lt (k := k) (l := ts) h).1
    generalize posF k ts = p at *
    generalize thereF k ts = b at *
    rw [hR]
    clear hR
    cases b with
    | true =>
      have hpl := hlt rfl
      obtain ⟨ad, rfl, had, hcc⟩ := h.at_ hpl
      have hpn : (p : Int) < (n : Int) := by have := h.len; omega
      rw [if_pos rfl, show ts.getD p default = ts[p] from by rw [List.getD_eq_getElem?_getD, List.getElem?_eq_getElem hpl]; rfl]
      have HC := Lib.hid hcc
      clear hcc h hs hlt
      generalize ts[p].k = x at *
      generalize ts[p].v = y at *
      go_enter Tryz.func10, Tryz.ntmps10
      go_wp2_with fail
      refine HP.out.mono ?_
      rintro e w1 ⟨rfl, k1⟩
      have K1 := kp_trans kw k1
      obtain ⟨_, c1⟩ := HC.out _ K1
      clear HP k1
      go_wp2_with fail
      go_ret
      exact ⟨_, 1, 1, rfl, XR.new w1 9 [y], kp_alloc K1 _⟩
    | false =>
      rw [if_neg (by simp)]
      clear hlt
      go_enter Tryz.func10, Tryz.ntmps10
      go_wp2_with fail
      refine HP.out.mono ?_
      rintro e w1 ⟨rfl, k1⟩
      have K1 := kp_trans kw k1
      clear HP k1
      go_wp2_with fail
      go_ret
      exact ⟨none, 0, 0, rfl, XR.nil _, K1⟩
  · rw [if_neg h1] at hR
    have n1 : (d == 1) = false := by simpa using h1
    by_cases h2 : d = 2
    · subst h2
      rw [hR, if_pos rfl]
      clear hR h1 n1
      go_enter Tryz.func10, Tryz.ntmps10
      go_wp2_with fail
      refine (first6_ok A n c ts _ (HK.out.next kw) hc hn).mono ?_
      rintro e w1 ⟨A1, n1, c1, rfl, hx, k1⟩
      go_wp2_with fail
      go_ret
      exact ⟨A1, n1, c1, rfl, hx, kp_trans kw k1⟩
    · rw [hR, if_neg h2]
      have n2 : (d == 2) = false := by simpa using h2
      clear hR h1 h2
      go_enter Tryz.func10, Tryz.ntmps10
      go_wp2_with fail
      go_ret
      exact ⟨none, 0, 0, rfl, XR.nil _, kw⟩
end

/- What is written of tokens whose Strings are emptied, and the texts of these, by the call shaped of package plan: contract. -/
section
open Go.RowKit
set_option maxRecDepth 100000

def bts (ss : List ByteArray) : List (List UInt8) := ss.map fun x => x.data.toList
theorem bts_append (a b : List ByteArray) : bts (a ++ b) = bts a ++ bts b := by simp [bts]
theorem bts_inj : ∀ {a b : List ByteArray}, bts a = bts b → a = b
  | [], [], _ => rfl
  | [], _ :: _, h => by simp [bts] at h
  | _ :: _, [], h => by simp [bts] at h
  | x :: a, y :: b, h => by
    simp only [bts, List.map_cons, List.cons.injEq] at h
    rw [text_ext h.1, bts_inj (a := a) (b := b) h.2]
theorem says_next (us : List Tk) (k : Nat) (h : k < us.length) : saysT (us.take (k + 1)) = saysT (us.take k) ++ [us[k].says] := by
  rw [List.take_succ_eq_append_getElem h, saysT_append]
  rfl
/-- the tokens that stay, their Strings emptied -/
def stayF (l : List Tok) : List Tok := (keptF l).map emptyF
theorem stay_hint (l : List Tok) (t : List UInt8) : stayF (l ++ [(5, t)]) = stayF l := by simp [stayF, keptF, isHintF]
theorem stay_str (l : List Tok) (t : List UInt8) : stayF (l ++ [(3, t)]) = stayF l ++ [(3, [])] := by simp [stayF, keptF, isHintF, emptyF]
theorem stay_other (l : List Tok) (k : Int) (t : List UInt8) (h5 : k ≠ 5) (h3 : k ≠ 3) : stayF (l ++ [(k, t)]) = stayF l ++ [(k, t)] := by simp [stayF, keptF, isHintF, emptyF, h5, h3]
theorem strs_hint (l : List Tok) (t : List UInt8) : strsF (keptF (l ++ [(5, t)])) = strsF (keptF l) := by simp [strsF, keptF, isHintF]
theorem strs_str (l : List Tok) (t : List UInt8) : strsF (keptF (l ++ [(3, t)])) = strsF (keptF l) ++ [t] := by simp [strsF, keptF, isHintF, isStrF]
theorem strs_other (l : List Tok) (k : Int) (t : List UInt8) (h5 : k ≠ 5) (h3 : k ≠ 3) : strsF (keptF (l ++ [(k, t)])) = strsF (keptF l) := by simp [strsF, keptF, isHintF, isStrF, h5, h3]

theorem own_ne_type {w : World} {base n size : Nat} {e t : TypeId} {v : Value} {xs : List Value} (h : w.ownsRow base e size v n xs) {b : Nat} {cs : Array Value} {fz : Nat × Nat} (hb : w.heap[b]? = some (.cells cs t fz)) (ht : t ≠ e) : v.ownBlock ≠ some b := by
  rcases h.2 with ⟨rfl, _⟩ | ⟨g, cap, cur, rfl, _, hg, _⟩
  · simp [Value.ownBlock]
  · simp only [Value.ownBlock, ne_eq, Option.some.injEq]
    rintro rfl
    rw [hg] at hb
    simp only [Option.some.injEq, Obj.cells.injEq] at hb
    exact ht hb.2.1.symm

set_option maxHeartbeats 4000000 in
theorem shaped_ok (A : Option Addr) (n c : Nat) (us : List Tk) (w : World) (h : TR w A n us) (hn : n ≤ 400) (hsz : ∀ t ∈ us, t.t.size ≤ 400) (hL : Lw w) :
    Calls Tryz.prog 15 #[.slice A n c] w fun e w' => ∃ (r : ByteArray) (A2 : Option Addr) (n2 c2 : Nat) (ss : List ByteArray), e = .returned (.tuple #[.string r, .slice A2 n2 c2]) ∧ r.data.toList = shapeF (keptF (saysT us)) ∧ XR w' A2 n2 ss ∧ bts ss = strsF (keptF (saysT us)) ∧ Below w.heap.size w w' := by
  obtain ⟨i0, hi, hz0, hz1, hz2⟩ := info_parts strinfo6
  obtain ⟨j0, gi, gz0, gz1, gz2⟩ := info_parts tkinfo
  have HL := Lib.hid h.len
  have HH := Lib.hid h
  have HZ := Lib.hid hsz
  have HLw := Lib.hid hL
  clear h hsz hL
  go_enter Tryz.func15, Tryz.ntmps15
  go_wp2_with fail
  go_loopw [4, 5, 10] (fun v u i wr => ∃ (k z1 z2 : Nat) (A1 A2 : Option Addr) (c1 c2 : Nat) (ks : List Tk) (ss : List ByteArray), k ≤ n ∧ z1 ≤ k ∧ z2 ≤ k ∧ v = .slice A1 z1 c1 ∧ u = .slice A2 z2 c2 ∧ i = .int .i64 k ∧
    Hid (OT 89 wr w.heap.size A1 z1 c1 ks) ∧ Hid (wr.ownsRow w.heap.size 9 1 (.slice A2 z2 c2) z2 (tvs ss)) ∧ Hid (saysT ks = stayF (saysT (us.take k))) ∧ Hid (bts ss = strsF (keptF (saysT (us.take k)))) ∧ Hid (sumT ks ≤ k * 401) ∧ Below w.heap.size w wr) (fun _ _ i _ => n - (intOf i).toNat)
  case atStart => exact ⟨0, 0, 0, none, none, 0, 0, [], [], Nat.zero_le _, Nat.le_refl _, Nat.le_refl _, rfl, rfl, rfl, Lib.hid (OT.nil _ _ _), Lib.hid (World.ownsRow_nil _ _ _ _), Lib.hid rfl, Lib.hid rfl, Lib.hid (Nat.zero_le _), Below.refl _ _⟩
  case round =>
    obtain ⟨k, z1, z2, A1, A2, c1, c2, ks, ss, hk, q1, q2, rfl, rfl, rfl, ho, hx, hs, hb, hm, k0⟩ := hrel
    have hsz0 := k0.size
    by_cases hlt : k < n
    · have hkl : k < us.length := by rw [HL.out]; exact hlt
      obtain ⟨ad, rfl, had, hcc⟩ := HH.out.at_ hkl
      obtain ⟨x0, x1⟩ := hcc _ k0
      have hsn := says_next us k hkl
      have hte : us[k].says = (us[k].k, us[k].t.data.toList) := rfl
      rw [hte] at hsn
      have htz := HZ.out us[k] (List.getElem_mem hkl)
      clear hcc hte
      generalize us[k].k = x at *
      generalize us[k].t = y at *
      have kb : Below w.heap.size w (wr.alloc (.cells #[.int .i64 x, .string y] 89)) := kp_alloc k0 _
      by_cases h5 : x = 5
      · subst h5
        have hs2 : Hid (saysT ks = stayF (saysT (us.take (k + 1)))) := Lib.hid (by rw [hsn, stay_hint]; exact hs.out)
        have hb2 : Hid (bts ss = strsF (keptF (saysT (us.take (k + 1))))) := Lib.hid (by rw [hsn, strs_hint]; exact hb.out)
        have hm2 : Hid (sumT ks ≤ (k + 1) * 401) := Lib.hid (by have := hm.out; omega)
        clear hsn hs hb hm
        go_wp2_with fail
        go_roundw
        case rel => exact ⟨k + 1, z1, z2, A1, A2, c1, c2, ks, ss, by omega, by omega, by omega, rfl, rfl, by go_num, Lib.hid (ho.out.next (kp_new wr _)), Lib.hid (hx.out.alloc _), hs2, hb2, hm2, kb⟩
        case measure => simp [intOf]; omega
      have n5 : (x == 5) = false := by simpa using h5
      by_cases h3 : x = 3
      · subst h3
        have hs2 : Hid (saysT (ks ++ [⟨3, ⟨#[]⟩⟩]) = stayF (saysT (us.take (k + 1)))) := Lib.hid (by rw [hsn, stay_str, saysT_append, hs.out]; rfl)
        have hb2 : Hid (bts (ss ++ [y]) = strsF (keptF (saysT (us.take (k + 1))))) := Lib.hid (by rw [hsn, strs_str, bts_append, hb.out]; rfl)
        have hm2 : Hid (sumT (ks ++ [⟨3, ⟨#[]⟩⟩]) ≤ (k + 1) * 401) := Lib.hid (by
          have := hm.out
          rw [sumT_append, show sumT [(⟨3, ⟨#[]⟩⟩ : Tk)] = 1 from rfl]
          omega)
        have hap : ∀ w', ((wr.alloc (.cells #[.int .i64 3, .string y] 89)).alloc (.cells #[.string y] 9)).grownBy w' (Value.slice A2 z2 c2).ownBlock → OT 89 w' w.heap.size A1 z1 c1 ks := fun w' hg =>
          ⟨own_apart ((ho.out.own.alloc _).alloc _) ((hx.out.alloc _).alloc _) (by decide) hg, ho.out.cap⟩
        have hbx : ((wr.alloc (.cells #[.int .i64 3, .string y] 89)).alloc (.cells #[.string y] 9)).heap[wr.heap.size]? = some (.cells #[.int .i64 3, .string y] 89 (0, 0)) := by
          exact (World.grownBy_alloc _ _ none).block wr.heap.size (by simp) (by simp) |>.trans (heap_alloc_new wr _)
        have hne2 : some wr.heap.size ≠ (Value.slice A2 z2 c2).ownBlock := fun e => by have := (hx.out.lt _ e.symm).2; omega
        have hne1 : (Value.slice A1 z1 c1).ownBlock ≠ some wr.heap.size := fun e => by have := (ho.out.own.lt _ e).2; omega
        have HX2 := Lib.hid ((hx.out.alloc (.cells #[.int .i64 3, .string y] 89)).alloc (.cells #[.string y] 9))
        have HSRC : Hid (Rd ((wr.alloc (.cells #[.int .i64 3, .string y] 89)).alloc (.cells #[.string y] 9)) (wr.heap.size + 1 + 1) (some ⟨wr.heap.size + 1, 0, none⟩) [.string y]) := Lib.hid (by
          have := Rd.new (wr.alloc (.cells #[.int .i64 3, .string y] 89)) 9 [.string y]
          simpa using this)
        have kb2 : Below w.heap.size w ((wr.alloc (.cells #[.int .i64 3, .string y] 89)).alloc (.cells #[.string y] 9)) := kp_alloc kb _
        have HAP := Lib.hid hap
        have HBX := Lib.hid hbx
        have HN2 := Lib.hid hne2
        have HN1 := Lib.hid hne1
        have HS2 := Lib.hid (show w.heap.size ≤ ((wr.alloc (.cells #[.int .i64 3, .string y] 89)).alloc (.cells #[.string y] 9)).heap.size by simp; omega)
        clear hsn hs hb hm hap hbx hne2 hne1
        go_wp2_with (first
          | (at_builtin; refine wpList_append_rd rfl _ _ _ rfl w.heap.size 9 i0 _ 16 Tryz.underlying35 hi hz0 hz1 hz2 rfl _ z2 _ rfl HX2.out _ _ _ _ [.string y] rfl rfl HSRC.out (by simp [Value.oneCell']) (by unfold maxLen; omega) (by omega) HS2.out ?_; intro v3 w3 hown3 hg3; obtain ⟨A3, c3, rfl, hcap3, _⟩ := own_form hown3; have hb3 := Lib.hid ((hg3.block _ (by simp; omega) HN2.out).trans HBX.out); obtain ⟨d0, d1, f0, f1⟩ := cells2 hb3.out;
             have HOT := Lib.hid ((ownsRow_setCell_other (HAP.out w3 hg3).own (a := ⟨wr.heap.size, 1, none⟩) HN1.out (.string ⟨#[]⟩)).alloc (.cells #[.int .i64 3, .string ⟨#[]⟩] 89));
             have HXT := Lib.hid (ownsRow_setCell_other (a := ⟨wr.heap.size, 1, none⟩) hown3 (own_ne_type hown3 hb3.out (by decide)) (.string ⟨#[]⟩));
             have HSR3 : Hid (Rd ((w3.setCell ⟨wr.heap.size, 1, none⟩ (.string ⟨#[]⟩)).alloc (.cells #[.int .i64 3, .string ⟨#[]⟩] 89)) (w3.heap.size + 1) (some ⟨w3.heap.size, 0, none⟩) [.int .i64 3, .string ⟨#[]⟩]) := Lib.hid (by have := Rd.new (w3.setCell ⟨wr.heap.size, 1, none⟩ (.string ⟨#[]⟩)) 89 [.int .i64 3, .string ⟨#[]⟩]; simpa using this))
          | (at_builtin; refine wpList_append_rds rfl _ _ _ rfl w.heap.size 89 j0 _ 2 24 Tryz.underlying43 gi gz0 gz1 gz2 rfl (by omega) _ z1 _ rfl HOT.out _ _ _ _ [.int .i64 3, .string ⟨#[]⟩] rfl rfl HSR3.out (by simp [Value.oneCell']) (by unfold maxLen; omega) (by omega) (by simp; have := hg3.size; have := HS2.out; omega) ?_; intro v4 w4 hown4 hg4; obtain ⟨A4, c4, rfl, ho4⟩ := OT.push hown4))
        go_roundw
        case rel =>
          have k3 : Below w.heap.size w w3 := kb2.trans (below_own HX2.out hg3 HS2.out)
          have k3b : Below w.heap.size w ((w3.setCell ⟨wr.heap.size, 1, none⟩ (.string ⟨#[]⟩)).alloc (.cells #[.int .i64 3, .string ⟨#[]⟩] 89)) := kp_alloc (k3.setCell hsz0 _) _
          have hx4 := own_apart (HXT.out.alloc (.cells #[.int .i64 3, .string ⟨#[]⟩] 89)) HOT.out (by decide) hg4
          refine ⟨k + 1, z1 + 1, z2 + 1, A4, A3, c4, c3, ks ++ [⟨3, ⟨#[]⟩⟩], ss ++ [y], by omega, by omega, by omega, rfl, rfl, by go_num, Lib.hid ho4, Lib.hid ?_, hs2, hb2, hm2, k3b.trans (below_own_s HOT.out hg4 k3b.size)⟩
          rw [tvs_append]
          exact hx4
        case measure => simp [intOf]; omega
      · have n3 : (x == 3) = false := by simpa using h3
        have hs2 : Hid (saysT (ks ++ [⟨x, y⟩]) = stayF (saysT (us.take (k + 1)))) := Lib.hid (by rw [hsn, stay_other _ _ _ h5 h3, saysT_append, hs.out]; rfl)
        have hb2 : Hid (bts ss = strsF (keptF (saysT (us.take (k + 1))))) := Lib.hid (by rw [hsn, strs_other _ _ _ h5 h3, hb.out])
        have hm2 : Hid (sumT (ks ++ [⟨x, y⟩]) ≤ (k + 1) * 401) := Lib.hid (by
          have := hm.out
          rw [sumT_append, show sumT [(⟨x, y⟩ : Tk)] = y.size + 1 from by simp [sumT]]
          omega)
        have HOT := Lib.hid ((ho.out.own.alloc (.cells #[.int .i64 x, .string y] 89)).alloc (.cells #[.int .i64 x, .string y] 89))
        have HX2 := Lib.hid ((hx.out.alloc (.cells #[.int .i64 x, .string y] 89)).alloc (.cells #[.int .i64 x, .string y] 89))
        have HSRC : Hid (Rd ((wr.alloc (.cells #[.int .i64 x, .string y] 89)).alloc (.cells #[.int .i64 x, .string y] 89)) (wr.heap.size + 1 + 1) (some ⟨wr.heap.size + 1, 0, none⟩) [.int .i64 x, .string y]) := Lib.hid (by
          have := Rd.new (wr.alloc (.cells #[.int .i64 x, .string y] 89)) 89 [.int .i64 x, .string y]
          simpa using this)
        have kb2 : Below w.heap.size w ((wr.alloc (.cells #[.int .i64 x, .string y] 89)).alloc (.cells #[.int .i64 x, .string y] 89)) := kp_alloc kb _
        clear hsn hs hb hm ho hx h5 h3
        go_wp2_with (at_builtin; refine wpList_append_rds rfl _ _ _ rfl w.heap.size 89 j0 _ 2 24 Tryz.underlying43 gi gz0 gz1 gz2 rfl (by omega) _ z1 _ rfl HOT.out _ _ _ _ [.int .i64 x, .string y] rfl rfl HSRC.out (by simp [Value.oneCell']) (by unfold maxLen; omega) (by omega) kb2.size ?_; intro v4 w4 hown4 hg4; obtain ⟨A4, c4, rfl, ho4⟩ := OT.push hown4)
        go_roundw
        case rel => exact ⟨k + 1, z1 + 1, z2, A4, A2, c4, c2, ks ++ [⟨x, y⟩], ss, by omega, by omega, by omega, rfl, rfl, by go_num, Lib.hid ho4, Lib.hid (own_apart HX2.out HOT.out (by decide) hg4), hs2, hb2, hm2, kb2.trans (below_own_s HOT.out hg4 kb2.size)⟩
        case measure => simp [intOf]; omega
    · obtain rfl : k = n := by omega
      rw [List.take_of_length_le (by rw [HL.out]; exact Nat.le_refl _)] at hs hb
      have HL2 := Lib.hid (HLw.out.below k0 (by obtain ⟨m, hm⟩ := HLw.out; exact World.block_lt_of_cell? _ _ hm))
      have hmm : sumT ks ≤ 1000000 := by have := hm.out; omega
      have hwl := writeF_len ks
      go_wp2_with fail
      refine (write_ok A1 z1 c1 ks wr ho.out.tr hmm HL2.out).mono ?_
      rintro e w1 ⟨r, rfl, hr, k1⟩
      have hrs : r.size ≤ 1000000000 := by
        have := text_len r
        rw [hr] at this
        omega
      go_wp2_with fail
      refine (chop_s r w1 hrs).mono ?_
      rintro e w2 ⟨r2, rfl, hr2, k2⟩
      go_wp2_with fail
      go_ret2
      have kk := kp_trans k1 k2
      refine ⟨r2, A2, z2, c2, ss, rfl, ?_, (XR.of_own hx.out).next kk, hb.out, kp_trans k0 kk⟩
      rw [hr2, hr, hs.out]
      rfl
end

/- The forms, what each does, and Of, by calls of package plan: contracts. -/
section
open Go.RowKit
set_option maxRecDepth 100000

theorem results_cell1 {fn : Func} {p : Tmp} {ty : TypeId} (h : fn.results = #[.cell p ty]) (tmps : Array Value) (P : Program) (w : World) :
    (results fn tmps).run P w = ((asAddr (tmps.getD p undef)).run P w).andThen fun a w₁ => (loadVar ty a).run P w₁ := by
  simp only [results, h]
  simp [Sem.run_bind]

def formC : List Value := [.string tGet, .func (.func 36) #[] #[], .string tAll, .func (.func 37) #[] #[], .string tPut, .func (.func 38) #[] #[], .string tChg, .func (.func 39) #[] #[], .string tDel, .func (.func 40) #[] #[]]

theorem forms_ok (w : World) : Calls Tryz.prog 16 #[] w fun e w' => e = .returned (.slice (some ⟨w.heap.size, 0, none⟩) 5 5) ∧ w' = w.alloc (.cells formC.toArray 53) := by
  go_enter Tryz.func16, Tryz.ntmps16
  go_wp2_with fail
  go_ret
  exact ⟨rfl, rfl⟩

set_option maxHeartbeats 1000000 in
theorem do1_ok (A : Option Addr) (n c : Nat) (x : ByteArray) (ss : List ByteArray) (w : World) (h : XR w A n (x :: ss)) :
    Calls Tryz.prog 36 #[.slice A n c] w fun e w' => e = .returned (planV 1 x ⟨#[]⟩) ∧ Below w.heap.size w w' := by
  obtain ⟨ad, rfl, had, hc⟩ := h.at_ (j := 0) (by simp)
  have hlen := h.len
  rw [List.length_cons] at hlen
  have h0 : (0 : Int) < (n : Int) := by omega
  rw [show ad.add 0 = ad from rfl, List.getElem_cons_zero] at hc
  clear h hlen
  go_enter Tryz.func36, Tryz.ntmps36
  go_wp2_with fail
  refine bodyPost_ret (v := planV 1 x ⟨#[]⟩) ?_ rfl ⟨rfl, kp_new _ _⟩
  rw [results_cell1 rfl]
  unfold planV
  go_simp
set_option maxHeartbeats 1000000 in
theorem do5_ok (A : Option Addr) (n c : Nat) (x : ByteArray) (ss : List ByteArray) (w : World) (h : XR w A n (x :: ss)) :
    Calls Tryz.prog 40 #[.slice A n c] w fun e w' => e = .returned (planV 5 x ⟨#[]⟩) ∧ Below w.heap.size w w' := by
  obtain ⟨ad, rfl, had, hc⟩ := h.at_ (j := 0) (by simp)
  have hlen := h.len
  rw [List.length_cons] at hlen
  have h0 : (0 : Int) < (n : Int) := by omega
  rw [show ad.add 0 = ad from rfl, List.getElem_cons_zero] at hc
  clear h hlen
  go_enter Tryz.func40, Tryz.ntmps40
  go_wp2_with fail
  refine bodyPost_ret (v := planV 5 x ⟨#[]⟩) ?_ rfl ⟨rfl, kp_new _ _⟩
  rw [results_cell1 rfl]
  unfold planV
  go_simp

theorem do2_ok (A : Option Addr) (n c : Nat) (w : World) :
    Calls Tryz.prog 37 #[.slice A n c] w fun e w' => e = .returned (planV 2 ⟨#[]⟩ ⟨#[]⟩) ∧ Below w.heap.size w w' := by
  go_enter Tryz.func37, Tryz.ntmps37
  go_wp2_with fail
  refine bodyPost_ret (v := planV 2 ⟨#[]⟩ ⟨#[]⟩) ?_ rfl ⟨rfl, kp_new _ _⟩
  rw [results_cell1 rfl]
  unfold planV
  go_simp
set_option maxHeartbeats 1000000 in
theorem do3_ok (A : Option Addr) (n c : Nat) (x y : ByteArray) (ss : List ByteArray) (w : World) (h : XR w A n (x :: y :: ss)) :
    Calls Tryz.prog 38 #[.slice A n c] w fun e w' => e = .returned (planV 3 x y) ∧ Below w.heap.size w w' := by
  obtain ⟨ad, rfl, had, hc⟩ := h.at_ (j := 0) (by simp)
  obtain ⟨ad', e', _, hc'⟩ := h.at_ (j := 1) (by simp)
  injection e' with e'
  subst e'
  have hlen := h.len
  rw [List.length_cons, List.length_cons] at hlen
  have h0 : (0 : Int) < (n : Int) := by omega
  have h1 : (1 : Int) < (n : Int) := by omega
  rw [show ad.add 0 = ad from rfl, List.getElem_cons_zero] at hc
  rw [show ad.add 1 = ⟨ad.block, ad.off + 1, none⟩ from rfl, List.getElem_cons_succ, List.getElem_cons_zero] at hc'
  have kw := kp_new w (.cells #[.int .i64 0, .string ⟨#[]⟩, .string ⟨#[]⟩] 24)
  rw [← kw.cell had] at hc
  rw [← kw.cell (show (⟨ad.block, ad.off + 1, none⟩ : Addr).block < w.heap.size from had)] at hc'
  clear h hlen
  go_enter Tryz.func38, Tryz.ntmps38
  go_wp2_with fail
  go_region
  all_goals
    go_wp2_with fail
    refine bodyPost_ret (v := planV 3 x y) ?_ rfl ⟨rfl, ?_⟩
    · rw [results_cell1 rfl]
      unfold planV
      go_simp
    · exact (kp_new _ _).drew
set_option maxHeartbeats 1000000 in
theorem do4_ok (A : Option Addr) (n c : Nat) (x y : ByteArray) (ss : List ByteArray) (w : World) (h : XR w A n (x :: y :: ss)) :
    Calls Tryz.prog 39 #[.slice A n c] w fun e w' => e = .returned (planV 4 y x) ∧ Below w.heap.size w w' := by
  obtain ⟨ad, rfl, had, hc⟩ := h.at_ (j := 0) (by simp)
  obtain ⟨ad', e', _, hc'⟩ := h.at_ (j := 1) (by simp)
  injection e' with e'
  subst e'
  have hlen := h.len
  rw [List.length_cons, List.length_cons] at hlen
  have h0 : (0 : Int) < (n : Int) := by omega
  have h1 : (1 : Int) < (n : Int) := by omega
  rw [show ad.add 0 = ad from rfl, List.getElem_cons_zero] at hc
  rw [show ad.add 1 = ⟨ad.block, ad.off + 1, none⟩ from rfl, List.getElem_cons_succ, List.getElem_cons_zero] at hc'
  have kw := kp_new w (.cells #[.int .i64 0, .string ⟨#[]⟩, .string ⟨#[]⟩] 24)
  rw [← kw.cell had] at hc
  rw [← kw.cell (show (⟨ad.block, ad.off + 1, none⟩ : Addr).block < w.heap.size from had)] at hc'
  clear h hlen
  go_enter Tryz.func39, Tryz.ntmps39
  go_wp2_with fail
  go_region
  all_goals
    go_wp2_with fail
    refine bodyPost_ret (v := planV 4 y x) ?_ rfl ⟨rfl, ?_⟩
    · rw [results_cell1 rfl]
      unfold planV
      go_simp
    · exact (kp_new _ _).drew
end

/- What a statement does, by the call Of of package plan: contract. -/
section
open Go.RowKit
set_option maxRecDepth 100000

/-- a plan's number and texts -/
def doing (d : Int) (k v : ByteArray) : Doing := (d, k.data.toList, v.data.toList)
/-- the answer of Of -/
def OfTo (f : FuncId) (s : ByteArray) (w : World) : Prop :=
  Calls Tryz.prog f #[.string s] w fun e w' => ∃ d k v, e = .returned (planV d k v) ∧ doing d k v = planA s.data.toList ∧ Below w.heap.size w w'

theorem text_iff {r t : ByteArray} : r = t ↔ r.data.toList = t.data.toList := ⟨fun h => by rw [h], text_ext⟩
/-- what the shape and the texts tell -/
theorem pick_by {L : List Tok} {r : ByteArray} {ss : List ByteArray} (hL : ∀ t ∈ L, t.1 ≠ 5 → rightF t.1 t.2 = true) (hr : r.data.toList = shapeF (keptF L)) (hs : bts ss = strsF (keptF L)) :
    (r = tGet → ∃ x rest, ss = x :: rest ∧ planF (bodyF L) = doing 1 x ⟨#[]⟩) ∧
    (r = tAll → planF (bodyF L) = doing 2 ⟨#[]⟩ ⟨#[]⟩) ∧
    (r = tPut → ∃ x y rest, ss = x :: y :: rest ∧ planF (bodyF L) = doing 3 x y) ∧
    (r = tChg → ∃ x y rest, ss = x :: y :: rest ∧ planF (bodyF L) = doing 4 y x) ∧
    (r = tDel → ∃ x rest, ss = x :: rest ∧ planF (bodyF L) = doing 5 x ⟨#[]⟩) ∧
    (r ≠ tGet → r ≠ tAll → r ≠ tPut → r ≠ tChg → r ≠ tDel → planF (bodyF L) = doing 0 ⟨#[]⟩ ⟨#[]⟩) := by
  have key : ∀ (f : List Tok) (t : ByteArray), (∀ t ∈ f, rightF t.1 t.2 = true ∧ t.1 ≠ 5) → writeF f = t.data.toList → (r = t ↔ (bodyF L).map emptyF = f) := fun f t hf ht => by
    rw [text_iff, hr, ← ht]
    exact shape_iff hL f hf
  have k1 := key fGet tGet (by decide) tGet_is
  have k2 := key fAll tAll (by decide) tAll_is
  have k3 := key fPut tPut (by decide) tPut_is
  have k4 := key fChg tChg (by decide) tChg_is
  have k5 := key fDel tDel (by decide) tDel_is
  rw [strs_body] at hs
  have hlen : ∀ f, (bodyF L).map emptyF = f → ss.length = (strsF f).length := fun f h => by
    rw [← strs_len h, ← hs]
    simp [bts]
  have one : ∀ n, ss.length = n + 1 → ∃ x rest, ss = x :: rest := fun n h => by
    cases ss with
    | nil => cases h
    | cons x rest => exact ⟨x, rest, rfl⟩
  have two : ∀ n, ss.length = n + 2 → ∃ x y rest, ss = x :: y :: rest := fun n h => by
    cases ss with
    | nil => cases h
    | cons x rest =>
      cases rest with
      | nil => simp at h
      | cons y rest => exact ⟨x, y, rest, rfl⟩
  unfold planF
  rw [← hs]
  refine ⟨fun h => ?_, fun h => ?_, fun h => ?_, fun h => ?_, fun h => ?_, fun h1 h2 h3 h4 h5 => ?_⟩
  · have e := k1.1 h
    obtain ⟨x, rest, rfl⟩ := one 0 (hlen _ e)
    exact ⟨x, rest, rfl, by rw [e]; rfl⟩
  · have e := k2.1 h
    rw [e]
    rfl
  · have e := k3.1 h
    obtain ⟨x, y, rest, rfl⟩ := two 0 (hlen _ e)
    exact ⟨x, y, rest, rfl, by rw [e]; rfl⟩
  · have e := k4.1 h
    obtain ⟨x, y, rest, rfl⟩ := two 0 (hlen _ e)
    exact ⟨x, y, rest, rfl, by rw [e]; rfl⟩
  · have e := k5.1 h
    obtain ⟨x, rest, rfl⟩ := one 0 (hlen _ e)
    exact ⟨x, rest, rfl, by rw [e]; rfl⟩
  · unfold pickF
    rw [if_neg (fun e => h1 (k1.2 e)), if_neg (fun e => h2 (k2.2 e)), if_neg (fun e => h3 (k3.2 e)), if_neg (fun e => h4 (k4.2 e)), if_neg (fun e => h5 (k5.2 e))]
    rfl

theorem txt_eq (r t : ByteArray) : (t.toList == r.toList) = decide (r = t) := by
  rw [Bool.eq_iff_iff]
  simp only [beq_iff_eq, decide_eq_true_eq]
  exact ⟨fun h => (bytes_ext h).symm, fun h => by rw [h]⟩

theorem says_short {ts : List Tk} {m : Nat} (h : ∀ t ∈ saysT ts, t.2.length ≤ m) : ∀ t ∈ ts, t.t.size ≤ m := fun t ht => by
  have := h t.says (List.mem_map.2 ⟨t, ht, rfl⟩)
  simpa [Tk.says, text_len] using this
theorem cells3f {w : World} {b : Nat} {x y z : Value} {t : TypeId} (h : w.heap[b]? = some (.cells #[x, y, z] t (0, 0))) : w.cell? ⟨b, 0, none⟩ = some x ∧ w.cell? ⟨b, 1, none⟩ = some y ∧ w.cell? ⟨b, 2, none⟩ = some z ∧ w.frozen? ⟨b, 0, none⟩ = false ∧ w.frozen? ⟨b, 1, none⟩ = false ∧ w.frozen? ⟨b, 2, none⟩ = false := by
  obtain ⟨a1, a2, a3⟩ := cells3 h
  refine ⟨a1, a2, a3, ?_, ?_, ?_⟩ <;> simp [World.frozen?, h]

set_option maxHeartbeats 8000000 in
theorem of_ok (s : ByteArray) (w : World) (hm : s.size ≤ maxLen) (hL : Lw w) : OfTo 5 s w := by
  have kw := kp_new w (.cells #[.int .i64 0, .string ⟨#[]⟩, .string ⟨#[]⟩] 24)
  have hlx := lex_ok s _ hm (hL.next kw)
  unfold LexTo at hlx
  have hlen := lexA_len s.data.toList
  have hok := lexA_ok s.data.toList
  have hright := lexA_right s.data.toList
  have hP : planA s.data.toList = planF (bodyF (lexA s.data.toList).1) := rfl
  unfold OfTo
  generalize planA s.data.toList = R at *
  have HP := Lib.hid hP
  have HX := Lib.hid hlx
  have HLN := Lib.hid hlen
  have HOK := Lib.hid hok
  have HRT := Lib.hid hright
  have HLw := Lib.hid hL
  clear hP hlx hlen hok hright hL
  go_enter Tryz.func5, Tryz.ntmps5
  go_wp2_with fail
  refine HX.out.mono ?_
  rintro e w1 ⟨A, n, c, er, ts, rfl, ho, hla, k1⟩
  rw [← hla] at HLN HOK HRT HP
  have HLA := Lib.hid hla
  have K1 := kp_trans kw k1
  have hn : n ≤ 200 := by rw [← ho.len, ← saysT_length]; exact HLN.out
  have hb1 : Hid (w1.heap[w.heap.size]? = some (.cells #[.int .i64 0, .string ⟨#[]⟩, .string ⟨#[]⟩] 24 (0, 0))) := Lib.hid ((k1.block _ (by simp)).trans (heap_alloc_new w _))
  have HS := Lib.hid (shaped_ok A n c ts w1 ho.tr (by omega) (fun t ht => Nat.le_trans (says_short (m := 200) (fun t ht => (HOK.out t ht).1) t ht) (by decide)) (HLw.out.next K1))
  clear hla HX k1
  go_wp2_with fail
  refine HS.out.mono ?_
  rintro e w2 ⟨r, A2, n2, c2, ss, rfl, hr, hx, hs, k2⟩
  have HPK := Lib.hid (pick_by HRT.out hr hs)
  have HXR := Lib.hid hx
  have K2 := kp_trans K1 k2
  have hlt1 : w.heap.size < w1.heap.size := (Array.getElem?_eq_some_iff.1 hb1.out).1
  have hb2 : Hid (w2.heap[w.heap.size]? = some (.cells #[.int .i64 0, .string ⟨#[]⟩, .string ⟨#[]⟩] 24 (0, 0))) := Lib.hid ((k2.block _ hlt1).trans hb1.out)
  clear HS hr hs hx k2
  go_wp2_with fail
  refine (forms_ok w2).mono ?_
  rintro e w3 ⟨rfl, hw3⟩
  have hlt2 : w.heap.size < w2.heap.size := (Array.getElem?_eq_some_iff.1 hb2.out).1
  have k3 : Below w2.heap.size w2 w3 := by rw [hw3]; exact kp_new _ _
  have hF : w3.heap[w2.heap.size]? = some (.cells formC.toArray 53 (0, 0)) := by rw [hw3]; exact heap_alloc_new w2 _
  have hb3 : Hid (w3.heap[w.heap.size]? = some (.cells #[.int .i64 0, .string ⟨#[]⟩, .string ⟨#[]⟩] 24 (0, 0))) := Lib.hid ((k3.block _ hlt2).trans hb2.out)
  have hlt3 : w2.heap.size < w3.heap.size := (Array.getElem?_eq_some_iff.1 hF).1
  have K3 := kp_trans K2 k3
  have HX3 := Lib.hid (HXR.out.next k3)
  have HF := Lib.hid hF
  have HK3 := Lib.hid K3
  clear hw3 hF hb1 hb2 HXR
  generalize w2.heap.size = F at *
  go_wp2_with fail
  go_loopw [21] (fun i wr => ∃ k : Nat, k ≤ 5 ∧ i = .int .i64 k ∧ Hid ((0 < k → r ≠ tGet) ∧ (1 < k → r ≠ tAll) ∧ (2 < k → r ≠ tPut) ∧ (3 < k → r ≠ tChg) ∧ (4 < k → r ≠ tDel)) ∧ Below w3.heap.size w3 wr) (fun i _ => 5 - (intOf i).toNat)
  case atStart => exact ⟨0, by omega, rfl, Lib.hid ⟨by omega, by omega, by omega, by omega, by omega⟩, Below.refl _ _⟩
  case round =>
    obtain ⟨k, hk, rfl, hne, k4⟩ := hrel
    have hFr : wr.heap[F]? = some (.cells formC.toArray 53 (0, 0)) := (k4.block _ hlt3).trans HF.out
    have hbr : wr.heap[w.heap.size]? = some (.cells #[.int .i64 0, .string ⟨#[]⟩, .string ⟨#[]⟩] 24 (0, 0)) := (k4.block _ (by omega)).trans hb3.out
    have hc : ∀ j u, formC[j]? = some u → wr.cell? ⟨F, j, none⟩ = some u := fun j u hu => by
      rw [cell_of_row _ _ j formC.toArray _ (0, 0) hFr]
      simpa using hu
    rcases (by omega : k = 0 ∨ k = 1 ∨ k = 2 ∨ k = 3 ∨ k = 4 ∨ k = 5) with rfl | rfl | rfl | rfl | rfl | rfl
    · have c0 := hc 0 _ rfl
      have c1 := hc 1 _ rfl
      clear hc hFr
      by_cases he : r = tGet
      · have hq : (tGet.toList == r.toList) = true := by rw [txt_eq, decide_eq_true he]
        obtain ⟨x, rest, hss, hpl⟩ := HPK.out.1 he
        subst hss
        have HPL := Lib.hid (hpl.symm.trans HP.out.symm)
        have HB := Lib.hid hbr
        clear he hpl hne hbr
        generalize tGet = g at *
        go_wp2_with fail
        refine (do1_ok A2 n2 c2 x rest _ ((HX3.out.next k4).next (kp_new wr _))).mono ?_
        rintro e w5 ⟨rfl, k5⟩
        have K4 := kp_new wr (.cells #[.string g, .func (.func 36) #[] #[]] 53)
        have K5 : Below wr.heap.size wr w5 := kp_trans K4 k5
        obtain ⟨d0, d1, d2, f0, f1, f2⟩ := cells3f ((K5.block _ ((Array.getElem?_eq_some_iff.1 HB.out).1)).trans HB.out)
        have KW : Below w.heap.size w w5 := kp_trans (kp_trans HK3.out k4) K5
        clear k5 K4 K5
        unfold planV
        go_wp2_with fail
        refine bodyPost_ret (v := planV 1 x ⟨#[]⟩) ?_ rfl ⟨1, x, ⟨#[]⟩, rfl, HPL.out, ((KW.setCell (Nat.le_refl _) _).setCell (Nat.le_refl _) _).setCell (Nat.le_refl _) _⟩
        rw [results_cell1 rfl]
        unfold planV
        go_simp
      · have hq : (tGet.toList == r.toList) = false := by rw [txt_eq, decide_eq_false he]
        have hne2 : Hid ((0 < 1 → r ≠ tGet) ∧ (1 < 1 → r ≠ tAll) ∧ (2 < 1 → r ≠ tPut) ∧ (3 < 1 → r ≠ tChg) ∧ (4 < 1 → r ≠ tDel)) := Lib.hid ⟨fun _ => he, (by omega), (by omega), (by omega), (by omega)⟩
        clear he hne hbr
        obtain ⟨g, hg⟩ : ∃ g, g = tGet := ⟨_, rfl⟩
        rw [← hg] at c0 hq
        clear hg
        go_wp2_with fail
        go_roundw
        case rel => exact ⟨1, by omega, by go_num, hne2, kp_alloc k4 _⟩
        case measure => simp [intOf]
    · have c0 := hc 2 _ rfl
      have c1 := hc 3 _ rfl
      clear hc hFr
      by_cases he : r = tAll
      · have hq : (tAll.toList == r.toList) = true := by rw [txt_eq, decide_eq_true he]
        have hpl := HPK.out.2.1 he
        have hss := True.intro
        have HPL := Lib.hid (hpl.symm.trans HP.out.symm)
        have HB := Lib.hid hbr
        clear he hpl hne hbr
        generalize tAll = g at *
        go_wp2_with fail
        refine (do2_ok A2 n2 c2 _).mono ?_
        rintro e w5 ⟨rfl, k5⟩
        have K4 := kp_new wr (.cells #[.string g, .func (.func 37) #[] #[]] 53)
        have K5 : Below wr.heap.size wr w5 := kp_trans K4 k5
        obtain ⟨d0, d1, d2, f0, f1, f2⟩ := cells3f ((K5.block _ ((Array.getElem?_eq_some_iff.1 HB.out).1)).trans HB.out)
        have KW : Below w.heap.size w w5 := kp_trans (kp_trans HK3.out k4) K5
        clear k5 K4 K5
        unfold planV
        go_wp2_with fail
        refine bodyPost_ret (v := planV 2 ⟨#[]⟩ ⟨#[]⟩) ?_ rfl ⟨2, ⟨#[]⟩, ⟨#[]⟩, rfl, HPL.out, ((KW.setCell (Nat.le_refl _) _).setCell (Nat.le_refl _) _).setCell (Nat.le_refl _) _⟩
        rw [results_cell1 rfl]
        unfold planV
        go_simp
      · have hq : (tAll.toList == r.toList) = false := by rw [txt_eq, decide_eq_false he]
        have hne2 : Hid ((0 < 2 → r ≠ tGet) ∧ (1 < 2 → r ≠ tAll) ∧ (2 < 2 → r ≠ tPut) ∧ (3 < 2 → r ≠ tChg) ∧ (4 < 2 → r ≠ tDel)) := Lib.hid ⟨fun _ => hne.out.1 (by omega), fun _ => he, (by omega), (by omega), (by omega)⟩
        clear he hne hbr
        obtain ⟨g, hg⟩ : ∃ g, g = tAll := ⟨_, rfl⟩
        rw [← hg] at c0 hq
        clear hg
        go_wp2_with fail
        go_roundw
        case rel => exact ⟨2, by omega, by go_num, hne2, kp_alloc k4 _⟩
        case measure => simp [intOf]
    · have c0 := hc 4 _ rfl
      have c1 := hc 5 _ rfl
      clear hc hFr
      by_cases he : r = tPut
      · have hq : (tPut.toList == r.toList) = true := by rw [txt_eq, decide_eq_true he]
        obtain ⟨x, y, rest, hss, hpl⟩ := HPK.out.2.2.1 he
        subst hss
        have HPL := Lib.hid (hpl.symm.trans HP.out.symm)
        have HB := Lib.hid hbr
        clear he hpl hne hbr
        generalize tPut = g at *
        go_wp2_with fail
        refine (do3_ok A2 n2 c2 x y rest _ ((HX3.out.next k4).next (kp_new wr _))).mono ?_
        rintro e w5 ⟨rfl, k5⟩
        have K4 := kp_new wr (.cells #[.string g, .func (.func 38) #[] #[]] 53)
        have K5 : Below wr.heap.size wr w5 := kp_trans K4 k5
        obtain ⟨d0, d1, d2, f0, f1, f2⟩ := cells3f ((K5.block _ ((Array.getElem?_eq_some_iff.1 HB.out).1)).trans HB.out)
        have KW : Below w.heap.size w w5 := kp_trans (kp_trans HK3.out k4) K5
        clear k5 K4 K5
        unfold planV
        go_wp2_with fail
        refine bodyPost_ret (v := planV 3 x y) ?_ rfl ⟨3, x, y, rfl, HPL.out, ((KW.setCell (Nat.le_refl _) _).setCell (Nat.le_refl _) _).setCell (Nat.le_refl _) _⟩
        rw [results_cell1 rfl]
        unfold planV
        go_simp
      · have hq : (tPut.toList == r.toList) = false := by rw [txt_eq, decide_eq_false he]
        have hne2 : Hid ((0 < 3 → r ≠ tGet) ∧ (1 < 3 → r ≠ tAll) ∧ (2 < 3 → r ≠ tPut) ∧ (3 < 3 → r ≠ tChg) ∧ (4 < 3 → r ≠ tDel)) := Lib.hid ⟨fun _ => hne.out.1 (by omega), fun _ => hne.out.2.1 (by omega), fun _ => he, (by omega), (by omega)⟩
        clear he hne hbr
        obtain ⟨g, hg⟩ : ∃ g, g = tPut := ⟨_, rfl⟩
        rw [← hg] at c0 hq
        clear hg
        go_wp2_with fail
        go_roundw
        case rel => exact ⟨3, by omega, by go_num, hne2, kp_alloc k4 _⟩
        case measure => simp [intOf]
    · have c0 := hc 6 _ rfl
      have c1 := hc 7 _ rfl
      clear hc hFr
      by_cases he : r = tChg
      · have hq : (tChg.toList == r.toList) = true := by rw [txt_eq, decide_eq_true he]
        obtain ⟨x, y, rest, hss, hpl⟩ := HPK.out.2.2.2.1 he
        subst hss
        have HPL := Lib.hid (hpl.symm.trans HP.out.symm)
        have HB := Lib.hid hbr
        clear he hpl hne hbr
        generalize tChg = g at *
        go_wp2_with fail
        refine (do4_ok A2 n2 c2 x y rest _ ((HX3.out.next k4).next (kp_new wr _))).mono ?_
        rintro e w5 ⟨rfl, k5⟩
        have K4 := kp_new wr (.cells #[.string g, .func (.func 39) #[] #[]] 53)
        have K5 : Below wr.heap.size wr w5 := kp_trans K4 k5
        obtain ⟨d0, d1, d2, f0, f1, f2⟩ := cells3f ((K5.block _ ((Array.getElem?_eq_some_iff.1 HB.out).1)).trans HB.out)
        have KW : Below w.heap.size w w5 := kp_trans (kp_trans HK3.out k4) K5
        clear k5 K4 K5
        unfold planV
        go_wp2_with fail
        refine bodyPost_ret (v := planV 4 y x) ?_ rfl ⟨4, y, x, rfl, HPL.out, ((KW.setCell (Nat.le_refl _) _).setCell (Nat.le_refl _) _).setCell (Nat.le_refl _) _⟩
        rw [results_cell1 rfl]
        unfold planV
        go_simp
      · have hq : (tChg.toList == r.toList) = false := by rw [txt_eq, decide_eq_false he]
        have hne2 : Hid ((0 < 4 → r ≠ tGet) ∧ (1 < 4 → r ≠ tAll) ∧ (2 < 4 → r ≠ tPut) ∧ (3 < 4 → r ≠ tChg) ∧ (4 < 4 → r ≠ tDel)) := Lib.hid ⟨fun _ => hne.out.1 (by omega), fun _ => hne.out.2.1 (by omega), fun _ => hne.out.2.2.1 (by omega), fun _ => he, (by omega)⟩
        clear he hne hbr
        obtain ⟨g, hg⟩ : ∃ g, g = tChg := ⟨_, rfl⟩
        rw [← hg] at c0 hq
        clear hg
        go_wp2_with fail
        go_roundw
        case rel => exact ⟨4, by omega, by go_num, hne2, kp_alloc k4 _⟩
        case measure => simp [intOf]
    · have c0 := hc 8 _ rfl
      have c1 := hc 9 _ rfl
      clear hc hFr
      by_cases he : r = tDel
      · have hq : (tDel.toList == r.toList) = true := by rw [txt_eq, decide_eq_true he]
        obtain ⟨x, rest, hss, hpl⟩ := HPK.out.2.2.2.2.1 he
        subst hss
        have HPL := Lib.hid (hpl.symm.trans HP.out.symm)
        have HB := Lib.hid hbr
        clear he hpl hne hbr
        generalize tDel = g at *
        go_wp2_with fail
        refine (do5_ok A2 n2 c2 x rest _ ((HX3.out.next k4).next (kp_new wr _))).mono ?_
        rintro e w5 ⟨rfl, k5⟩
        have K4 := kp_new wr (.cells #[.string g, .func (.func 40) #[] #[]] 53)
        have K5 : Below wr.heap.size wr w5 := kp_trans K4 k5
        obtain ⟨d0, d1, d2, f0, f1, f2⟩ := cells3f ((K5.block _ ((Array.getElem?_eq_some_iff.1 HB.out).1)).trans HB.out)
        have KW : Below w.heap.size w w5 := kp_trans (kp_trans HK3.out k4) K5
        clear k5 K4 K5
        unfold planV
        go_wp2_with fail
        refine bodyPost_ret (v := planV 5 x ⟨#[]⟩) ?_ rfl ⟨5, x, ⟨#[]⟩, rfl, HPL.out, ((KW.setCell (Nat.le_refl _) _).setCell (Nat.le_refl _) _).setCell (Nat.le_refl _) _⟩
        rw [results_cell1 rfl]
        unfold planV
        go_simp
      · have hq : (tDel.toList == r.toList) = false := by rw [txt_eq, decide_eq_false he]
        have hne2 : Hid ((0 < 5 → r ≠ tGet) ∧ (1 < 5 → r ≠ tAll) ∧ (2 < 5 → r ≠ tPut) ∧ (3 < 5 → r ≠ tChg) ∧ (4 < 5 → r ≠ tDel)) := Lib.hid ⟨fun _ => hne.out.1 (by omega), fun _ => hne.out.2.1 (by omega), fun _ => hne.out.2.2.1 (by omega), fun _ => hne.out.2.2.2.1 (by omega), fun _ => he⟩
        clear he hne hbr
        obtain ⟨g, hg⟩ : ∃ g, g = tDel := ⟨_, rfl⟩
        rw [← hg] at c0 hq
        clear hg
        go_wp2_with fail
        go_roundw
        case rel => exact ⟨5, by omega, by go_num, hne2, kp_alloc k4 _⟩
        case measure => simp [intOf]
    · obtain ⟨d0, d1, d2, f0, f1, f2⟩ := cells3f hbr
      have HPL := Lib.hid ((HPK.out.2.2.2.2.2 (hne.out.1 (by omega)) (hne.out.2.1 (by omega)) (hne.out.2.2.1 (by omega)) (hne.out.2.2.2.1 (by omega)) (hne.out.2.2.2.2 (by omega))).symm.trans HP.out.symm)
      have KW : Below w.heap.size w wr := kp_trans HK3.out k4
      clear hne hc hFr hbr
      go_wp2_with fail
      refine bodyPost_ret (v := planV 0 ⟨#[]⟩ ⟨#[]⟩) ?_ rfl ⟨0, ⟨#[]⟩, ⟨#[]⟩, rfl, HPL.out, ((KW.setCell (Nat.le_refl _) _).setCell (Nat.le_refl _) _).setCell (Nat.le_refl _) _⟩
      rw [results_cell1 rfl]
      unfold planV
      go_simp
end

/- The document's layer 6, and the law's own helpers: pairs, Table, Same, Texts, large: contracts. -/
section
open Go.RowKit
set_option maxRecDepth 100000

theorem kvinfoR : (Tryz.prog.info? 41).map (fun i => (i.zero, i.size, i.bytes)) = some (some (.agg #[.string ⟨#[]⟩, .string ⟨#[]⟩]), 2, 32) := by kernel_rfl
theorem OK.empty (e : TypeId) (w : World) : OK e (w.alloc (.cells #[] e)) w.heap.size (some ⟨w.heap.size, 0, none⟩) 0 0 [] :=
  ⟨own_new_s w w.heap.size 2 e 0 [] rfl (Nat.le_refl _) (by simp [maxLen]), Nat.le_refl _⟩

theorem take_same6 {α : Type} [DecidableEq α] {xs ys : List α} {k : Nat} (hx : k < xs.length) (hy : k < ys.length) (h : xs.take k = ys.take k) (he : xs[k] = ys[k]) : xs.take (k + 1) = ys.take (k + 1) := by
  rw [List.take_succ_eq_append_getElem hx, List.take_succ_eq_append_getElem hy, h, he]

set_option maxHeartbeats 2000000 in
theorem pairs_ok (A : Option Addr) (n c : Nat) (ts : List Kv) (w : World) (h : KR w A n ts) (hn : n * 32 ≤ 140737488351232) :
    Calls Tryz.prog 12 #[.slice A n c] w fun e w' => ∃ A' c', e = .returned (.slice A' n c') ∧ KR w' A' n ts ∧ Below w.heap.size w w' := by
  obtain ⟨i0, hi, hz0, hz1, hz2⟩ := info_parts kvinfoR
  have hlen := Lib.hid h.len
  go_enter Tryz.func12, Tryz.ntmps12
  go_wp2
  go_loopw [3, 9] (fun o i wr => ∃ (k : Nat) (B : Option Addr) (d : Nat), k ≤ n ∧ i = .int .i64 k ∧ o = .slice B k d ∧ OK 41 wr w.heap.size B k d (ts.take k) ∧ Below w.heap.size w wr) (fun _ i _ => n - (intOf i).toNat)
  case atStart => exact ⟨0, _, _, Nat.zero_le _, rfl, rfl, OK.empty _ w, kp_new _ _⟩
  case round =>
    obtain ⟨k, B, d, hk, rfl, rfl, ho, kw⟩ := hrel
    by_cases hlt : k < n
    · have hkl : k < ts.length := by rw [hlen.out]; exact hlt
      obtain ⟨ad, rfl, _, hc⟩ := h.at_ hkl
      obtain ⟨c0, c1⟩ := hc _ kw
      have hnx : Hid (kvC (ts.take (k + 1)) = kvC (ts.take k) ++ [.string ts[k].k, .string ts[k].v]) := Lib.hid (kvC_next ts k hkl)
      have hsw := kw.size
      clear hc
      generalize ts[k].k = x at *
      generalize ts[k].v = s at *
      have hsrc : ∀ X, Rd ((wr.alloc X).alloc (.cells #[.string x, .string s] 41)) (wr.heap.size + 1 + 1) (some ⟨wr.heap.size + 1, 0, none⟩) [.string x, .string s] := fun X => by
        have := Rd.new (wr.alloc X) 41 [.string x, .string s]
        simpa using this
      have HSRC := Lib.hid hsrc
      clear hsrc
      go_wp2_with (at_builtin; refine wpList_append_rds rfl _ _ _ rfl w.heap.size 41 i0 _ 2 32 Tryz.underlying38 hi hz0 hz1 hz2 rfl (by omega) _ k _ rfl ((ho.own.alloc _).alloc _) _ _ _ _ [.string x, .string s] rfl rfl (HSRC.out _) (by simp [Value.oneCell']) (by unfold maxLen; omega) (by omega) (by simp; omega) ?_; intro v3 w3 hown3 hg3)
      rw [← hnx.out] at hown3
      obtain ⟨A3, c3, rfl, h3, _⟩ := own_form_s hown3
      go_roundw
      case rel => exact ⟨k + 1, A3, c3, by omega, by go_num, rfl, ⟨hown3, h3⟩, (kp_alloc (kp_alloc kw _) _).trans (below_own_s ((ho.own.alloc _).alloc _) hg3 (by simp; omega))⟩
      case measure => simp [intOf]; omega
    · obtain rfl : k = n := by omega
      rw [List.take_of_length_le (by rw [hlen.out]; exact Nat.le_refl _)] at ho
      go_wp2_with fail
      go_ret
      exact ⟨B, d, rfl, ho.kr, kw⟩

theorem neq_pairs (T : TypeId) (hT : T = 41) (k k' t t' : ByteArray) (w : World) : (binOp .neq T (.agg #[.string k, .string t]) (.agg #[.string k', .string t'])).run Tryz.prog w = .ok (.bool (!decide ((⟨k, t⟩ : Kv) = ⟨k', t'⟩))) w := by
  subst hT
  have hf : (Tryz.prog.fieldsOf 41) = (match Tryz.prog.underlying 41 with | some (.struct fs) => fs | _ => #[]) := rfl
  have hu := Tryz.underlying41
  rw [hu] at hf
  rw [run_neq_struct, run_equalIn_agg (P := Tryz.prog) w 9999 _ _ _ (by rw [hf]; exact hu) (by kernel_rfl), hf]
  have h9 := Tryz.underlying9
  have hz9 := Tryz.sizeOf9
  have ha9 := Tryz.isAgg9
  have p1 : ∀ (x u : ByteArray) (w : World), (part 9 #[.string x, .string u] 0).run Tryz.prog w = .ok (.string x) w := fun x u w => by simp [part, hz9, ha9]
  have p2 : ∀ (x u : ByteArray) (w : World), (part 9 #[.string x, .string u] 1).run Tryz.prog w = .ok (.string u) w := fun x u w => by simp [part, hz9, ha9]
  have e2 : ∀ (x y : ByteArray) (w : World), (Op.equalIn 9999 9 (.string x) (.string y)).run Tryz.prog w = .ok (x.toList == y.toList) w := fun x y w => run_equalIn_string w 9998 9 x y h9
  have hk : k.toList = k'.toList ↔ k = k' := ⟨bytes_ext, fun h => by rw [h]⟩
  have ht : t.toList = t'.toList ↔ t = t' := ⟨bytes_ext, fun h => by rw [h]⟩
  by_cases h1 : k = k'
  · by_cases h2 : t = t'
    · simp [Op.eqFields, p1, p2, e2, h1, h2]
    · simp [Op.eqFields, p1, p2, e2, ht, h1, h2]
  · simp [Op.eqFields, p1, p2, e2, hk, h1]

set_option maxHeartbeats 2000000 in
theorem psame_ok (A A' : Option Addr) (n n' c c' : Nat) (xs ys : List Kv) (w : World) (hx : KR w A n xs) (hy : KR w A' n' ys) (hn : n ≤ 1000000) (hn' : n' ≤ 1000000) (b : Bool) (hb : Hid (decide (xs = ys) = b)) :
    Calls Tryz.prog 11 #[.slice A n c, .slice A' n' c'] w fun e w' => e = .returned (.bool b) ∧ ∃ m, w' = w.drewN m := by
  by_cases hll : n = n'
  · subst hll
    have hlx := Lib.hid hx.len
    have hly := Lib.hid hy.len
    go_enter Tryz.func11, Tryz.ntmps11
    go_wp2
    go_loopw [5] (fun i wr => ∃ k m : Nat, k ≤ n ∧ i = .int .i64 k ∧ Hid (xs.take k = ys.take k) ∧ wr = w.drewN m) (fun i _ => n - (intOf i).toNat)
    case atStart => exact ⟨0, 0, Nat.zero_le _, rfl, Lib.hid (by simp), rfl⟩
    case round =>
      obtain ⟨k, m, hk, rfl, he, hw⟩ := hrel
      have hx' : KR wr A n xs := by subst hw; exact hx.next (kp_drewN _ _)
      have hy' : KR wr A' n ys := by subst hw; exact hy.next (kp_drewN _ _)
      have HW := Lib.hid hw
      clear hw hx hy
      by_cases hlt : k < n
      · have hkx : k < xs.length := by rw [hlx.out]; omega
        have hky : k < ys.length := by rw [hly.out]; omega
        obtain ⟨ad, rfl, _, hc⟩ := hx'.at_ hkx
        obtain ⟨ad', rfl, _, hc'⟩ := hy'.at_ hky
        obtain ⟨c0, c1⟩ := hc _ (Below.refl _ _)
        obtain ⟨d0, d1⟩ := hc' _ (Below.refl _ _)
        clear hc hc' hx' hy'
        have hE := fun u => neq_pairs 41 rfl xs[k].k ys[k].k xs[k].v ys[k].v u
        by_cases hee : xs[k] = ys[k]
        · have hsn : Hid (xs.take (k + 1) = ys.take (k + 1)) := Lib.hid (take_same6 hkx hky he.out hee)
          have hd : (!decide ((⟨xs[k].k, xs[k].v⟩ : Kv) = ⟨ys[k].k, ys[k].v⟩)) = false := by
            rw [decide_eq_true (by exact hee)]; rfl
          rw [hd] at hE
          clear hee hd
          generalize xs[k].k = x at *
          generalize ys[k].k = y at *
          generalize xs[k].v = s at *
          generalize ys[k].v = t at *
          go_wp2
          go_quiet (fail)
          go_wp2
          go_roundw
          case rel => exact ⟨k + 1, m + nq, by omega, by go_num, hsn, by rw [HW.out, World.drewN_drewN]⟩
          case measure => simp [intOf]; omega
        · have hf : b = false := by
            rw [← hb.out]
            simp only [decide_eq_false_iff_not]
            rintro rfl
            exact hee rfl
          subst hf
          have hd : (!decide ((⟨xs[k].k, xs[k].v⟩ : Kv) = ⟨ys[k].k, ys[k].v⟩)) = true := by
            rw [decide_eq_false (by exact hee)]; rfl
          rw [hd] at hE
          clear hee hd
          generalize xs[k].k = x at *
          generalize ys[k].k = y at *
          generalize xs[k].v = s at *
          generalize ys[k].v = t at *
          go_wp2
          go_quiet (fail)
          go_wp2
          go_ret
          exact ⟨rfl, m + nq, by rw [HW.out, World.drewN_drewN]⟩
      · have hf : b = true := by
          rw [← hb.out]
          have h1 := he.out
          rw [List.take_of_length_le (by rw [hlx.out]; omega), List.take_of_length_le (by rw [hly.out]; omega)] at h1
          simp [h1]
        subst hf
        go_wp2
        go_ret
        exact ⟨rfl, m, HW.out⟩
  · have hf : b = false := by
      rw [← hb.out]
      simp only [decide_eq_false_iff_not]
      rintro rfl
      have := hx.len
      have := hy.len
      omega
    subst hf
    have ht : ((n : Int) != (n' : Int)) = true := by rw [bne_iff_ne]; omega
    go_enter Tryz.func11, Tryz.ntmps11
    go_wp2
    go_ret
    exact ⟨rfl, 0, rfl⟩

set_option maxHeartbeats 2000000 in
theorem texts6_ok (A A' : Option Addr) (n n' c c' : Nat) (xs ys : List ByteArray) (w : World) (hx : XR w A n xs) (hy : XR w A' n' ys) (hn : n ≤ 1000000) (hn' : n' ≤ 1000000) (b : Bool) (hb : Hid (decide (xs = ys) = b)) :
    Calls Tryz.prog 13 #[.slice A n c, .slice A' n' c'] w fun e w' => e = .returned (.bool b) ∧ ∃ m, w' = w.drewN m := by
  by_cases hll : n = n'
  · subst hll
    have hlx := Lib.hid hx.len
    have hly := Lib.hid hy.len
    go_enter Tryz.func13, Tryz.ntmps13
    go_wp2
    go_loopw [5] (fun i wr => ∃ k m : Nat, k ≤ n ∧ i = .int .i64 k ∧ Hid (xs.take k = ys.take k) ∧ wr = w.drewN m) (fun i _ => n - (intOf i).toNat)
    case atStart => exact ⟨0, 0, Nat.zero_le _, rfl, Lib.hid (by simp), rfl⟩
    case round =>
      obtain ⟨k, m, hk, rfl, he, hw⟩ := hrel
      have hx' : XR wr A n xs := by subst hw; exact hx.next (kp_drewN _ _)
      have hy' : XR wr A' n ys := by subst hw; exact hy.next (kp_drewN _ _)
      have HW := Lib.hid hw
      clear hw hx hy
      by_cases hlt : k < n
      · have hkx : k < xs.length := by rw [hlx.out]; omega
        have hky : k < ys.length := by rw [hly.out]; omega
        obtain ⟨ad, rfl, _, c0⟩ := hx'.at_ hkx
        obtain ⟨ad', rfl, _, d0⟩ := hy'.at_ hky
        clear hx' hy'
        by_cases hee : xs[k] = ys[k]
        · have hsn : Hid (xs.take (k + 1) = ys.take (k + 1)) := Lib.hid (take_same6 hkx hky he.out hee)
          rw [hee] at c0
          clear hee
          generalize ys[k] = y at *
          have hq : (y.toList == y.toList) = true := by simp
          go_wp2
          go_quiet (fail)
          go_wp2
          go_roundw
          case rel => exact ⟨k + 1, m + nq, by omega, by go_num, hsn, by rw [HW.out, World.drewN_drewN]⟩
          case measure => simp [intOf]; omega
        · have hf : b = false := by
            rw [← hb.out]
            simp only [decide_eq_false_iff_not]
            rintro rfl
            exact hee rfl
          subst hf
          have hq : (xs[k].toList == ys[k].toList) = false := by
            simp only [beq_eq_false_iff_ne, ne_eq]
            exact fun h => hee (bytes_ext h)
          clear hee
          generalize xs[k] = x at *
          generalize ys[k] = y at *
          go_wp2
          go_quiet (fail)
          go_wp2
          go_ret
          exact ⟨rfl, m + nq, by rw [HW.out, World.drewN_drewN]⟩
      · have hf : b = true := by
          rw [← hb.out]
          have h1 := he.out
          rw [List.take_of_length_le (by rw [hlx.out]; omega), List.take_of_length_le (by rw [hly.out]; omega)] at h1
          simp [h1]
        subst hf
        go_wp2
        go_ret
        exact ⟨rfl, m, HW.out⟩
  · have hf : b = false := by
      rw [← hb.out]
      simp only [decide_eq_false_iff_not]
      rintro rfl
      have := hx.len
      have := hy.len
      omega
    subst hf
    have ht : ((n : Int) != (n' : Int)) = true := by rw [bne_iff_ne]; omega
    go_enter Tryz.func13, Tryz.ntmps13
    go_wp2
    go_ret
    exact ⟨rfl, 0, rfl⟩
end

/- The calls whose answers the document fixes, at layer 6: they answer so. -/
section
open Go.RowKit
set_option maxRecDepth 100000

theorem lex6_1 : lexF [105, 110, 115, 101, 114, 116, 32, 105, 110, 116, 111, 32, 107, 118, 32, 118, 97, 108, 117, 101, 115, 32, 40, 39, 97, 39, 44, 32, 39, 98, 39, 41] = some [(1, [73, 78, 83, 69, 82, 84]), (1, [73, 78, 84, 79]), (1, [75, 86]), (1, [86, 65, 76, 85, 69, 83]), (6, [40]), (3, [97]), (6, [44]), (3, [98]), (6, [41])] := by
  rw [lexF_tok (k := 1) (t := [73, 78, 83, 69, 82, 84]) (n := 6) (by simp) (by kernel_rfl) (by decide)]
  simp only [List.drop_succ_cons, List.drop_zero]
  rw [lexF_skip (n := 1) (by simp) (by kernel_rfl) (by decide)]
  simp only [List.drop_succ_cons, List.drop_zero]
  rw [lexF_tok (k := 1) (t := [73, 78, 84, 79]) (n := 4) (by simp) (by kernel_rfl) (by decide)]
  simp only [List.drop_succ_cons, List.drop_zero]
  rw [lexF_skip (n := 1) (by simp) (by kernel_rfl) (by decide)]
  simp only [List.drop_succ_cons, List.drop_zero]
  rw [lexF_tok (k := 1) (t := [75, 86]) (n := 2) (by simp) (by kernel_rfl) (by decide)]
  simp only [List.drop_succ_cons, List.drop_zero]
  rw [lexF_skip (n := 1) (by simp) (by kernel_rfl) (by decide)]
  simp only [List.drop_succ_cons, List.drop_zero]
  rw [lexF_tok (k := 1) (t := [86, 65, 76, 85, 69, 83]) (n := 6) (by simp) (by kernel_rfl) (by decide)]
  simp only [List.drop_succ_cons, List.drop_zero]
  rw [lexF_skip (n := 1) (by simp) (by kernel_rfl) (by decide)]
  simp only [List.drop_succ_cons, List.drop_zero]
  rw [lexF_tok (k := 6) (t := [40]) (n := 1) (by simp) (by kernel_rfl) (by decide)]
  simp only [List.drop_succ_cons, List.drop_zero]
  rw [lexF_tok (k := 3) (t := [97]) (n := 3) (by simp) (by kernel_rfl) (by decide)]
  simp only [List.drop_succ_cons, List.drop_zero]
  rw [lexF_tok (k := 6) (t := [44]) (n := 1) (by simp) (by kernel_rfl) (by decide)]
  simp only [List.drop_succ_cons, List.drop_zero]
  rw [lexF_skip (n := 1) (by simp) (by kernel_rfl) (by decide)]
  simp only [List.drop_succ_cons, List.drop_zero]
  rw [lexF_tok (k := 3) (t := [98]) (n := 3) (by simp) (by kernel_rfl) (by decide)]
  simp only [List.drop_succ_cons, List.drop_zero]
  rw [lexF_tok (k := 6) (t := [41]) (n := 1) (by simp) (by kernel_rfl) (by decide)]
  simp only [List.drop_succ_cons, List.drop_zero]
  rw [lexF_nil]
  rfl
theorem lex6_2 : lexF [115, 101, 108, 101, 99, 116, 32, 118, 32, 102, 114, 111, 109, 32, 107, 118, 32, 119, 104, 101, 114, 101, 32, 107, 32, 61, 32, 39, 97, 39, 59] = some [(1, [83, 69, 76, 69, 67, 84]), (1, [86]), (1, [70, 82, 79, 77]), (1, [75, 86]), (1, [87, 72, 69, 82, 69]), (1, [75]), (6, [61]), (3, [97]), (6, [59])] := by
  rw [lexF_tok (k := 1) (t := [83, 69, 76, 69, 67, 84]) (n := 6) (by simp) (by kernel_rfl) (by decide)]
  simp only [List.drop_succ_cons, List.drop_zero]
  rw [lexF_skip (n := 1) (by simp) (by kernel_rfl) (by decide)]
  simp only [List.drop_succ_cons, List.drop_zero]
  rw [lexF_tok (k := 1) (t := [86]) (n := 1) (by simp) (by kernel_rfl) (by decide)]
  simp only [List.drop_succ_cons, List.drop_zero]
  rw [lexF_skip (n := 1) (by simp) (by kernel_rfl) (by decide)]
  simp only [List.drop_succ_cons, List.drop_zero]
  rw [lexF_tok (k := 1) (t := [70, 82, 79, 77]) (n := 4) (by simp) (by kernel_rfl) (by decide)]
  simp only [List.drop_succ_cons, List.drop_zero]
  rw [lexF_skip (n := 1) (by simp) (by kernel_rfl) (by decide)]
  simp only [List.drop_succ_cons, List.drop_zero]
  rw [lexF_tok (k := 1) (t := [75, 86]) (n := 2) (by simp) (by kernel_rfl) (by decide)]
  simp only [List.drop_succ_cons, List.drop_zero]
  rw [lexF_skip (n := 1) (by simp) (by kernel_rfl) (by decide)]
  simp only [List.drop_succ_cons, List.drop_zero]
  rw [lexF_tok (k := 1) (t := [87, 72, 69, 82, 69]) (n := 5) (by simp) (by kernel_rfl) (by decide)]
  simp only [List.drop_succ_cons, List.drop_zero]
  rw [lexF_skip (n := 1) (by simp) (by kernel_rfl) (by decide)]
  simp only [List.drop_succ_cons, List.drop_zero]
  rw [lexF_tok (k := 1) (t := [75]) (n := 1) (by simp) (by kernel_rfl) (by decide)]
  simp only [List.drop_succ_cons, List.drop_zero]
  rw [lexF_skip (n := 1) (by simp) (by kernel_rfl) (by decide)]
  simp only [List.drop_succ_cons, List.drop_zero]
  rw [lexF_tok (k := 6) (t := [61]) (n := 1) (by simp) (by kernel_rfl) (by decide)]
  simp only [List.drop_succ_cons, List.drop_zero]
  rw [lexF_skip (n := 1) (by simp) (by kernel_rfl) (by decide)]
  simp only [List.drop_succ_cons, List.drop_zero]
  rw [lexF_tok (k := 3) (t := [97]) (n := 3) (by simp) (by kernel_rfl) (by decide)]
  simp only [List.drop_succ_cons, List.drop_zero]
  rw [lexF_tok (k := 6) (t := [59]) (n := 1) (by simp) (by kernel_rfl) (by decide)]
  simp only [List.drop_succ_cons, List.drop_zero]
  rw [lexF_nil]
  rfl
theorem lex6_3 : lexF [120] = some [(1, [88])] := by
  rw [lexF_tok (k := 1) (t := [88]) (n := 1) (by simp) (by kernel_rfl) (by decide)]
  simp only [List.drop_succ_cons, List.drop_zero]
  rw [lexF_nil]
  rfl
theorem plan6_1 : planA [105, 110, 115, 101, 114, 116, 32, 105, 110, 116, 111, 32, 107, 118, 32, 118, 97, 108, 117, 101, 115, 32, 40, 39, 97, 39, 44, 32, 39, 98, 39, 41] = (3, [97], [98]) := by
  rw [planA_lex lex6_1 (by decide)]
  kernel_rfl
theorem plan6_2 : planA [115, 101, 108, 101, 99, 116, 32, 118, 32, 102, 114, 111, 109, 32, 107, 118, 32, 119, 104, 101, 114, 101, 32, 107, 32, 61, 32, 39, 97, 39, 59] = (1, [97], []) := by
  rw [planA_lex lex6_2 (by decide)]
  kernel_rfl
theorem plan6_3 : planA [120] = (0, [], []) := by
  rw [planA_lex lex6_3 (by decide)]
  kernel_rfl

theorem doing_inj {d d' : Int} {k k' v v' : ByteArray} (h : doing d k v = doing d' k' v') : d = d' ∧ k = k' ∧ v = v' := by
  simp only [doing, Prod.mk.injEq] at h
  exact ⟨h.1, text_ext h.2.1, text_ext h.2.2⟩
/-- Of a text whose plan is known -/
theorem of_lit (s : ByteArray) (d : Int) (k v : ByteArray) (hp : planA s.data.toList = doing d k v) (w : World) (hm : s.size ≤ maxLen) (hL : Lw w) :
    Calls Tryz.prog 5 #[.string s] w fun e w' => e = .returned (planV d k v) ∧ Below w.heap.size w w' :=
  (of_ok s w hm hL).mono fun e w' ⟨d', k', v', he, h, hb⟩ => by
    rw [hp] at h
    obtain ⟨rfl, rfl, rfl⟩ := doing_inj h
    exact ⟨he, hb⟩

theorem eq_plans (T : TypeId) (hT : T = 24) (d d' : Int) (k k' v v' : ByteArray) (w : World) : (binOp .eql T (.agg #[.int .i64 d, .string k, .string v]) (.agg #[.int .i64 d', .string k', .string v'])).run Tryz.prog w = .ok (.bool (decide (d = d' ∧ k = k' ∧ v = v'))) w := by
  subst hT
  have hf : (Tryz.prog.fieldsOf 24) = (match Tryz.prog.underlying 24 with | some (.struct fs) => fs | _ => #[]) := rfl
  have hu := Tryz.underlying24
  rw [hu] at hf
  rw [run_eql_struct, run_equalIn_agg (P := Tryz.prog) w 9999 _ _ _ (by rw [hf]; exact hu) (by kernel_rfl), hf]
  have h3 := Tryz.underlying3
  have hz3 := Tryz.sizeOf3
  have ha3 := Tryz.isAgg3
  have h9 := Tryz.underlying9
  have hz9 := Tryz.sizeOf9
  have ha9 := Tryz.isAgg9
  have p0 : ∀ (x : Int) (u t : ByteArray) (w : World), (part 3 #[.int .i64 x, .string u, .string t] 0).run Tryz.prog w = .ok (.int .i64 x) w := fun x u t w => by simp [part, hz3, ha3]
  have p1 : ∀ (x : Int) (u t : ByteArray) (w : World), (part 9 #[.int .i64 x, .string u, .string t] 1).run Tryz.prog w = .ok (.string u) w := fun x u t w => by simp [part, hz9, ha9]
  have p2 : ∀ (x : Int) (u t : ByteArray) (w : World), (part 9 #[.int .i64 x, .string u, .string t] 2).run Tryz.prog w = .ok (.string t) w := fun x u t w => by simp [part, hz9, ha9]
  have e1 : ∀ (x y : Int) (w : World), (Op.equalIn 9999 3 (.int .i64 x) (.int .i64 y)).run Tryz.prog w = .ok (x == y) w := fun x y w => run_equalIn_int w 9998 3 .i64 .i64 x y h3
  have e2 : ∀ (x y : ByteArray) (w : World), (Op.equalIn 9999 9 (.string x) (.string y)).run Tryz.prog w = .ok (x.toList == y.toList) w := fun x y w => run_equalIn_string w 9998 9 x y h9
  have hk : k.toList = k'.toList ↔ k = k' := ⟨bytes_ext, fun h => by rw [h]⟩
  have hv : v.toList = v'.toList ↔ v = v' := ⟨bytes_ext, fun h => by rw [h]⟩
  by_cases h0 : d = d'
  · by_cases h1 : k = k'
    · by_cases h2 : v = v'
      · simp [Op.eqFields, p0, p1, p2, e1, e2, h0, h1, h2]
      · simp [Op.eqFields, p0, p1, p2, e1, e2, hv, h0, h1, h2]
    · simp [Op.eqFields, p0, p1, e1, e2, hk, h0, h1]
  · simp [Op.eqFields, p0, e1, h0]

theorem writes6 : writesF 3 ⟨#[97]⟩ ⟨#[98]⟩ [] = ([⟨⟨#[97]⟩, ⟨#[98]⟩⟩], 1) := by decide
theorem reads6 : readsF 1 ⟨#[97]⟩ [⟨⟨#[97]⟩, ⟨#[98]⟩⟩] = [⟨#[98]⟩] := by kernel_rfl

set_option maxHeartbeats 4000000 in
theorem awake6 (w : World) (hL : Lw w) : Calls Tryz.prog 4 #[] w fun e w' => e = .returned (.bool true) ∧ Below w.heap.size w w' := by
  have H1 := Lib.hid (of_lit ⟨#[105, 110, 115, 101, 114, 116, 32, 105, 110, 116, 111, 32, 107, 118, 32, 118, 97, 108, 117, 101, 115, 32, 40, 39, 97, 39, 44, 32, 39, 98, 39, 41]⟩ 3 ⟨#[97]⟩ ⟨#[98]⟩ (by rw [show (⟨#[105, 110, 115, 101, 114, 116, 32, 105, 110, 116, 111, 32, 107, 118, 32, 118, 97, 108, 117, 101, 115, 32, 40, 39, 97, 39, 44, 32, 39, 98, 39, 41]⟩ : ByteArray).data.toList = [105, 110, 115, 101, 114, 116, 32, 105, 110, 116, 111, 32, 107, 118, 32, 118, 97, 108, 117, 101, 115, 32, 40, 39, 97, 39, 44, 32, 39, 98, 39, 41] from rfl, plan6_1]; rfl))
  have H2 := Lib.hid (of_lit ⟨#[115, 101, 108, 101, 99, 116, 32, 118, 32, 102, 114, 111, 109, 32, 107, 118, 32, 119, 104, 101, 114, 101, 32, 107, 32, 61, 32, 39, 97, 39, 59]⟩ 1 ⟨#[97]⟩ ⟨#[]⟩ (by rw [show (⟨#[115, 101, 108, 101, 99, 116, 32, 118, 32, 102, 114, 111, 109, 32, 107, 118, 32, 119, 104, 101, 114, 101, 32, 107, 32, 61, 32, 39, 97, 39, 59]⟩ : ByteArray).data.toList = [115, 101, 108, 101, 99, 116, 32, 118, 32, 102, 114, 111, 109, 32, 107, 118, 32, 119, 104, 101, 114, 101, 32, 107, 32, 61, 32, 39, 97, 39, 59] from rfl, plan6_2]; rfl))
  have H3 := Lib.hid (of_lit ⟨#[120]⟩ 0 ⟨#[]⟩ ⟨#[]⟩ (by rw [show (⟨#[120]⟩ : ByteArray).data.toList = [120] from rfl, plan6_3]; rfl))
  have e1 := fun u => eq_plans 24 rfl 3 3 ⟨#[97]⟩ ⟨#[97]⟩ ⟨#[98]⟩ ⟨#[98]⟩ u
  have e2 := fun u => eq_plans 24 rfl 0 0 ⟨#[]⟩ ⟨#[]⟩ ⟨#[]⟩ ⟨#[]⟩ u
  simp only [and_self, decide_true] at e1 e2
  go_enter Tryz.func4, Tryz.ntmps4
  go_wp2_with fail
  refine (H1.out w (by decide) hL).mono ?_
  rintro e w1 ⟨rfl, k1⟩
  have L1 := hL.next k1
  have K1 := kp_alloc k1 (.cells #[.int .i64 3, .string ⟨#[97]⟩, .string ⟨#[98]⟩] 24)
  have kb := kp_new w1 (.cells #[.int .i64 3, .string ⟨#[97]⟩, .string ⟨#[98]⟩] 24)
  unfold planV
  go_wp2_with fail
  refine (writes_ok 3 ⟨#[97]⟩ ⟨#[98]⟩ none 0 0 [] _ (KR.nil _) (Nat.le_refl _) (by simp [Srt]) (by omega)).mono ?_
  rintro e w2 ⟨A2, n2, c2, rfl, ho2, k2⟩
  rw [writes6] at ho2 ⊢
  obtain ⟨b0, b1, b2⟩ := box3 k2
  have K2 := kp_trans K1 k2
  have KB := kp_trans kb k2
  have hn2 := ho2.len
  obtain rfl : n2 = 1 := hn2.symm
  go_wp2_with fail
  refine (H2.out w2 (by decide) (hL.next K2)).mono ?_
  rintro e w3 ⟨rfl, k3⟩
  have K3 := kp_trans K2 k3
  unfold planV
  go_wp2_with fail
  refine (reads_ok 1 ⟨#[97]⟩ ⟨#[]⟩ A2 1 c2 _ w3 (ho2.kr.next k3) ho2.cap (by simp [Srt]) (by omega)).mono ?_
  rintro e w4 ⟨A4, n4, c4, rfl, h4, k4⟩
  rw [reads6] at h4
  obtain rfl : n4 = 1 := h4.len.symm
  have K4 := kp_trans K3 k4
  have k24 := kp_trans k3 k4
  replace b0 := (k24.cell (World.block_lt_of_cell? _ _ b0)).trans b0
  replace b1 := (k24.cell (World.block_lt_of_cell? _ _ b1)).trans b1
  replace b2 := (k24.cell (World.block_lt_of_cell? _ _ b2)).trans b2
  have h2 := ho2.kr.next k24
  go_wp2_with fail
  refine (pairs_ok A2 1 c2 _ w4 h2 (by omega)).mono ?_
  rintro e w5 ⟨A5, c5, rfl, h5, k5⟩
  have K5 := kp_trans K4 k5
  have k6 := kp_new w5 (.cells #[.string ⟨#[97]⟩, .string ⟨#[98]⟩] 41)
  have hq : KR (w5.alloc (.cells #[.string ⟨#[97]⟩, .string ⟨#[98]⟩] 41)) (some ⟨w5.heap.size, 0, none⟩) 1 [⟨⟨#[97]⟩, ⟨#[98]⟩⟩] := ⟨rfl, (Rd.new w5 41 (kvC [⟨⟨#[97]⟩, ⟨#[98]⟩⟩])).more (by simp)⟩
  go_wp2_with fail
  refine (psame_ok A5 _ 1 1 c5 1 _ _ _ (h5.next k6) hq (by omega) (by omega) true (Lib.hid (by decide))).mono ?_
  rintro e w6 ⟨rfl, m6, hw6⟩
  have k7 : Below w5.heap.size w5 w6 := by rw [hw6]; exact k6.trans ((kp_drewN _ m6).mono k6.size)
  clear hw6
  have K7 := kp_trans K5 k7
  have h7 := (h4.next k5).next k7
  have k8 := kp_new w6 (.cells #[.string ⟨#[98]⟩] 9)
  go_wp2_with fail
  refine (texts6_ok A4 _ 1 1 c4 1 _ _ _ (h7.next k8) (XR.new w6 9 [⟨#[98]⟩]) (by omega) (by omega) true (Lib.hid (by decide))).mono ?_
  rintro e w9 ⟨rfl, m9, hw9⟩
  have k9 : Below w6.heap.size w6 w9 := by rw [hw9]; exact k8.trans ((kp_drewN _ m9).mono k8.size)
  clear hw9
  have K9 := kp_trans K7 k9
  go_wp2_with fail
  refine (H3.out w9 (by decide) (hL.next K9)).mono ?_
  rintro e w10 ⟨rfl, k10⟩
  unfold planV
  go_wp2_with fail
  go_ret
  exact ⟨rfl, kp_trans K9 k10⟩
end

/- Rows of tokens and words of package class: contracts. -/
section
open Go.RowKit
set_option maxRecDepth 100000

/-- the first one's cells -/
theorem TR.head {w : World} {A : Option Addr} {n : Nat} {t : Tk} {r : List Tk} (h : TR w A n (t :: r)) : ∃ ad, A = some ad ∧ ad.block < w.heap.size ∧ ∀ w', Below w.heap.size w w' → w'.cell? ad = some (.int .i64 t.k) ∧ w'.cell? ⟨ad.block, ad.off + 1, none⟩ = some (.string t.t) := by
  obtain ⟨ad, hA, hb, hc⟩ := h.at_ (j := 0) (by simp)
  exact ⟨ad, hA, hb, fun w' hw => by simpa [Addr.add] using hc w' hw⟩

/-- a token is a word, or none, at a place of a row -/
theorem hasWord_ok (A : Option Addr) (n c : Nat) (ts : List Tk) (B : Option Addr) (m d : Nat) (ws : List ByteArray) (w : World) (h : TR w A n ts) (hs : SR w B m ws) (hn : n ≤ 1000000) (hm : m ≤ 1000000) :
    Calls Tryz.prog 48 #[.slice A n c, .slice B m d] w fun e w' => e = .returned (.bool (hasF (saysT ts) (txs ws))) ∧ Below w.heap.size w w' := by
  have hlen := Lib.hid h.len
  go_enter Tryz.func48, Tryz.ntmps48
  go_wp2
  go_loopw [9] (fun i wr => ∃ k : Nat, k ≤ n ∧ i = .int .i64 k ∧ Hid (hasF (saysT ts) (txs ws) = hasF (saysT (ts.drop k)) (txs ws)) ∧ Below w.heap.size w wr) (fun i _ => n - (intOf i).toNat)
  case atStart => exact ⟨0, Nat.zero_le _, rfl, Lib.hid rfl, Below.refl _ _⟩
  case round =>
    obtain ⟨k, hk, rfl, hx, kw⟩ := hrel
    by_cases hlt : k < n
    · have hkl : k < ts.length := by rw [hlen.out]; exact hlt
      obtain ⟨ad, rfl, _, hc⟩ := h.at_ hkl
      obtain ⟨c0, c1⟩ := hc _ kw
      have hst : hasF (saysT (ts.drop k)) (txs ws) = (wordF (txs ws) ts[k].says || hasF (saysT (ts.drop (k + 1))) (txs ws)) := by
        rw [List.drop_eq_getElem_cons hkl]
        rfl
      rw [hst] at hx
      have kw2 := kp_trans kw (kp_new wr (.cells #[.int .i64 ts[k].k, .string ts[k].t] 89))
      have hC := Lib.hid (isWord_ok ts[k] B m d ws _ (hs.next kw2) hm)
      clear hc hst
      generalize wordF (txs ws) ts[k].says = b at *
      generalize ts[k].k = x at *
      generalize ts[k].t = s at *
      cases b
      · have hx2 : Hid (hasF (saysT ts) (txs ws) = hasF (saysT (ts.drop (k + 1))) (txs ws)) := Lib.hid (by rw [hx.out]; rfl)
        clear hx
        go_wp2_with fail
        refine hC.out.mono ?_
        rintro e w1 ⟨rfl, k1⟩
        go_wp2_with fail
        go_roundw
        case rel => exact ⟨k + 1, by omega, by go_num, hx2, kp_trans kw2 k1⟩
        case measure => simp [intOf]; omega
      · have hF : hasF (saysT ts) (txs ws) = true := by rw [hx.out]; rfl
        have HF := Lib.hid hF
        clear hF hx
        go_wp2_with fail
        refine hC.out.mono ?_
        rintro e w1 ⟨rfl, k1⟩
        go_wp2_with fail
        go_ret
        exact ⟨by rw [HF.out]; rfl, kp_trans kw2 k1⟩
    · obtain rfl : k = n := by omega
      have hF : hasF (saysT ts) (txs ws) = false := by rw [hx.out, List.drop_eq_nil_of_le (by rw [hlen.out]; exact Nat.le_refl _)]; rfl
      have HF := Lib.hid hF
      clear hF hx
      go_wp2_with fail
      go_ret
      exact ⟨by rw [HF.out]; rfl, kw⟩

theorem beginsWith_ok (A : Option Addr) (n c : Nat) (ts : List Tk) (B : Option Addr) (m d : Nat) (ws : List ByteArray) (w : World) (h : TR w A n ts) (hs : SR w B m ws) (hm : m ≤ 1000000) :
    Calls Tryz.prog 51 #[.slice A n c, .slice B m d] w fun e w' => e = .returned (.bool (headF (saysT ts) (txs ws))) ∧ Below w.heap.size w w' := by
  cases ts with
  | nil =>
    obtain rfl : 0 = n := h.len
    go_enter Tryz.func51, Tryz.ntmps51
    go_wp2_with fail
    go_ret
    exact ⟨rfl, Below.refl _ _⟩
  | cons t r =>
    have hn : 0 < n := by have := h.len; simp at this; omega
    obtain ⟨ad, rfl, _, hc⟩ := h.head
    obtain ⟨c0, c1⟩ := hc _ (Below.refl _ _)
    have hC := Lib.hid (isWord_ok t B m d ws w hs hm)
    have hF : headF (saysT (t :: r)) (txs ws) = wordF (txs ws) t.says := rfl
    rw [hF]
    clear hc hF
    generalize wordF (txs ws) t.says = b at *
    obtain ⟨k, s⟩ := t
    go_enter Tryz.func51, Tryz.ntmps51
    go_wp2_with fail
    refine hC.out.mono ?_
    rintro e w1 ⟨rfl, k1⟩
    go_wp2_with fail
    go_ret
    exact ⟨rfl, k1⟩

theorem isBare_ok (A : Option Addr) (n c : Nat) (ts : List Tk) (B : Option Addr) (m d : Nat) (ws : List ByteArray) (w : World) (h : TR w A n ts) (hs : SR w B m ws) (hm : m ≤ 1000000) (hn : n ≤ 1000000) :
    Calls Tryz.prog 50 #[.slice A n c, .slice B m d] w fun e w' => e = .returned (.bool (bareF (saysT ts) (txs ws))) ∧ Below w.heap.size w w' := by
  cases ts with
  | nil =>
    obtain rfl : 0 = n := h.len
    go_enter Tryz.func50, Tryz.ntmps50
    go_wp2_with fail
    go_ret
    exact ⟨rfl, Below.refl _ _⟩
  | cons t r =>
    have hl : r.length + 1 = n := by have := h.len; simpa using this
    by_cases h1 : n = 1
    · subst h1
      obtain rfl : r = [] := List.eq_nil_of_length_eq_zero (by omega)
      obtain ⟨ad, rfl, _, hc⟩ := h.head
      obtain ⟨c0, c1⟩ := hc _ (Below.refl _ _)
      have hC := Lib.hid (isWord_ok t B m d ws w hs hm)
      have hF : bareF (saysT [t]) (txs ws) = wordF (txs ws) t.says := rfl
      rw [hF]
      clear hc hF
      generalize wordF (txs ws) t.says = b at *
      obtain ⟨k, s⟩ := t
      go_enter Tryz.func50, Tryz.ntmps50
      go_wp2_with fail
      refine hC.out.mono ?_
      rintro e w1 ⟨rfl, k1⟩
      go_wp2_with fail
      go_ret
      exact ⟨rfl, k1⟩
    · have hF : bareF (saysT (t :: r)) (txs ws) = false := by
        unfold bareF
        rw [saysT_length, List.length_cons, hl, decide_eq_false h1, decide_eq_false (by omega)]
        rfl
      have h0 : ¬ n = 0 := by omega
      rw [hF]
      clear hF hl
      go_enter Tryz.func50, Tryz.ntmps50
      go_wp2_with fail
      go_ret
      exact ⟨ret_bool (by simpa using h0), Below.refl _ _⟩

theorem classIf_ok (c : Int) (b : Bool) (w : World) : Calls Tryz.prog 49 #[.int .i64 c, .bool b] w fun e w' => e = .returned (.int .i64 (ifF c b)) ∧ w = w' := by
  cases b
  all_goals
    go_enter Tryz.func49, Tryz.ntmps49
    go_wp2_with fail
    go_ret
    exact ⟨rfl, rfl⟩
end

/- selected, withoutEnd of package class: contracts. -/
section
open Go.RowKit
set_option maxRecDepth 100000

theorem selected_ok (A : Option Addr) (n c : Nat) (ts : List Tk) (b : Bool) (w : World) (h : TR w A n ts) (hn : n ≤ 1000000) :
    Calls Tryz.prog 47 #[.slice A n c, .bool b] w fun e w' => e = .returned (.int .i64 (selF (saysT ts) b)) ∧ Below w.heap.size w w' := by
  have kw := kp_new w (.cells #[.string ⟨#[73, 78, 83, 69, 82, 84]⟩, .string ⟨#[85, 80, 68, 65, 84, 69]⟩, .string ⟨#[68, 69, 76, 69, 84, 69]⟩, .string ⟨#[82, 69, 80, 76, 65, 67, 69]⟩, .string ⟨#[73, 78, 84, 79]⟩, .string ⟨#[83, 72, 65, 82, 69]⟩] 9)
  have hS := SR.new w 9 [⟨#[73, 78, 83, 69, 82, 84]⟩, ⟨#[85, 80, 68, 65, 84, 69]⟩, ⟨#[68, 69, 76, 69, 84, 69]⟩, ⟨#[82, 69, 80, 76, 65, 67, 69]⟩, ⟨#[73, 78, 84, 79]⟩, ⟨#[83, 72, 65, 82, 69]⟩]
  have hC := Lib.hid (hasWord_ok A n c ts _ 6 6 _ _ (h.next kw) hS hn (by decide))
  have hF : selF (saysT ts) b = if hasF (saysT ts) six then 2 else ifF 1 b := rfl
  have hE : txs [⟨#[73, 78, 83, 69, 82, 84]⟩, ⟨#[85, 80, 68, 65, 84, 69]⟩, ⟨#[68, 69, 76, 69, 84, 69]⟩, ⟨#[82, 69, 80, 76, 65, 67, 69]⟩, ⟨#[73, 78, 84, 79]⟩, ⟨#[83, 72, 65, 82, 69]⟩] = six := rfl
  rw [hE] at hC
  rw [hF]
  clear hS hF hE
  generalize hasF (saysT ts) six = x at *
  cases x
  · go_enter Tryz.func47, Tryz.ntmps47
    go_wp2_with fail
    refine hC.out.mono ?_
    rintro e w1 ⟨rfl, k1⟩
    go_wp2_with fail
    refine (classIf_ok 1 b w1).mono ?_
    rintro e w2 ⟨rfl, rfl⟩
    go_wp2_with fail
    go_ret
    exact ⟨rfl, kp_trans kw k1⟩
  · go_enter Tryz.func47, Tryz.ntmps47
    go_wp2_with fail
    refine hC.out.mono ?_
    rintro e w1 ⟨rfl, k1⟩
    go_wp2_with fail
    go_ret
    exact ⟨rfl, kp_trans kw k1⟩

theorem TR.front {w : World} {A : Option Addr} {n : Nat} {ts : List Tk} (h : TR w A n ts) {k : Nat} (hk : k ≤ n) : TR w A k (ts.take k) :=
  ⟨by rw [List.length_take, h.len]; omega, by
    have := h.rd.front (k * 2)
    have e : (tkC ts).take (k * 2) = tkC (ts.take k) := by
      have h1 : tkC ts = tkC (ts.take k) ++ tkC (ts.drop k) := by rw [← tkC_append, List.take_append_drop]
      rw [h1, List.take_append_of_le_length (by rw [tkC_length, List.length_take, h.len]; omega), List.take_of_length_le (by rw [tkC_length, List.length_take]; omega)]
    rwa [e] at this⟩

set_option maxHeartbeats 400000 in
theorem withoutEnd_ok (A : Option Addr) (n c : Nat) (ts : List Tk) (w : World) (h : TR w A n ts) (hc : n ≤ c) (hn : n ≤ 1000000) :
    Calls Tryz.prog 21 #[.slice A n c] w fun e w' => ∃ k, e = .returned (.slice A k c) ∧ k ≤ n ∧ saysT (ts.take k) = endF (saysT ts) ∧ Below w.heap.size w w' := by
  have hlen := Lib.hid h.len
  go_enter Tryz.func21, Tryz.ntmps21
  go_wp2
  go_loopw [0] (fun v wr => ∃ k : Nat, k ≤ n ∧ v = .slice A k c ∧ Hid (endF (saysT ts) = endF (saysT (ts.take k))) ∧ Below w.heap.size w wr) (fun v _ => match v with | .slice _ k _ => k | _ => 0)
  case atStart => exact ⟨n, Nat.le_refl _, rfl, Lib.hid (by rw [List.take_of_length_le (by rw [hlen.out]; exact Nat.le_refl _)]), Below.refl _ _⟩
  case round =>
    obtain ⟨k, hk, rfl, hx, kw⟩ := hrel
    cases k with
    | zero =>
      have hF : saysT (ts.take 0) = endF (saysT ts) := by rw [hx.out]; rfl
      have HF := Lib.hid hF
      clear hF hx
      go_wp2_with fail
      go_ret
      exact ⟨0, rfl, hk, HF.out, kw⟩
    | succ j =>
      have hjl : j < ts.length := by rw [hlen.out]; omega
      obtain ⟨ad, rfl, _, hcc⟩ := h.at_ hjl
      obtain ⟨c0, c1⟩ := hcc _ kw
      have hS := Lib.hid (isStop_ok ts[j] wr)
      have hst : saysT (ts.take (j + 1)) = saysT (ts.take j) ++ [ts[j].says] := by
        rw [List.take_succ_eq_append_getElem hjl, saysT_append]
        rfl
      rw [hst] at hx
      have HST := Lib.hid hst
      have e1 : ((j + 1 : Nat) : Int) - 1 = (j : Int) := by omega
      clear hcc hst
      cases hs : stopF ts[j].says with
      | false =>
        have hF : saysT (ts.take (j + 1)) = endF (saysT ts) := by rw [hx.out, endF_last hs, HST.out]
        have HF := Lib.hid hF
        rw [hs] at hS
        clear hF hx hs
        generalize ts[j].k = x at *
        generalize ts[j].t = s at *
        go_wp2_with fail
        refine hS.out.mono ?_
        rintro e w1 ⟨rfl, k1⟩
        go_wp2_with fail
        go_ret
        exact ⟨j + 1, rfl, hk, HF.out, kp_trans kw k1⟩
      | true =>
        have hx2 : Hid (endF (saysT ts) = endF (saysT (ts.take j))) := Lib.hid (by rw [hx.out, endF_stop hs])
        rw [hs] at hS
        clear hx hs
        generalize ts[j].k = x at *
        generalize ts[j].t = s at *
        go_wp2_with fail
        refine hS.out.mono ?_
        rintro e w1 ⟨rfl, k1⟩
        go_wp2_with fail
        go_roundw
        case rel => exact ⟨j, by omega, rfl, hx2, kp_trans kw k1⟩
        case measure => simp
end

/- The document's layer 6: are tokens a form's, and which are its Strings: contracts. -/
section
open Go.RowKit
set_option maxRecDepth 100000

theorem empty_eq {a b : Int} {x y : List UInt8} : emptyF (a, x) = emptyF (b, y) ↔ a = b ∧ (a = 3 ∨ x = y) := by
  unfold emptyF
  by_cases ha : a = 3
  · subst ha
    by_cases hb : b = 3
    · subst hb
      simp
    · rw [if_pos rfl, if_neg hb]
      constructor
      · intro h
        exact absurd (Prod.mk.inj h).1.symm hb
      · rintro ⟨h, _⟩
        exact absurd h.symm hb
  · by_cases hb : b = 3
    · subst hb
      rw [if_neg ha, if_pos rfl]
      constructor
      · intro h
        exact absurd (Prod.mk.inj h).1 ha
      · rintro ⟨h, _⟩
        exact absurd h ha
    · rw [if_neg ha, if_neg hb]
      constructor
      · intro h
        exact ⟨(Prod.mk.inj h).1, .inr (Prod.mk.inj h).2⟩
      · rintro ⟨h, h2⟩
        rw [h, h2.resolve_left ha]
theorem strs_push (l : List Tok) (a : Int) (x : List UInt8) : strsF (l ++ [(a, x)]) = if a = 3 then strsF l ++ [x] else strsF l := by
  rw [strsF_append]
  by_cases h : a = 3
  · subst h
    simp [strsF, isStrF]
  · rw [if_neg h]
    simp [strsF, isStrF, h]

/-- what strs answers -/
def StrsTo (ts fs : List Tk) (w : World) (e : Ending) (w' : World) : Prop :=
  ∃ (A' : Option Addr) (n' c' : Nat) (ss : List ByteArray) (b : Bool), e = .returned (.tuple #[.slice A' n' c', .bool b]) ∧ b = decide ((saysT ts).map emptyF = (saysT fs).map emptyF) ∧ (b = true → XR w' A' n' ss ∧ bts ss = strsF (saysT ts)) ∧ Below w.heap.size w w'

set_option maxHeartbeats 4000000 in
theorem strs_ok (A A' : Option Addr) (n n' c c' : Nat) (ts fs : List Tk) (w : World) (hx : TR w A n ts) (hy : TR w A' n' fs) (hn : n ≤ 1000) (hn' : n' ≤ 1000) :
    Calls Tryz.prog 18 #[.slice A n c, .slice A' n' c'] w (StrsTo ts fs w) := by
  obtain ⟨i0, hi, hz0, hz1, hz2⟩ := info_parts strinfo6
  have hlx := Lib.hid hx.len
  have hly := Lib.hid hy.len
  unfold StrsTo
  have hown0 := Lib.hid (own_new_s w w.heap.size 1 9 0 [] rfl (Nat.le_refl _) (by simp [maxLen]))
  have kw := kp_new w (.cells #[] 9)
  by_cases hll : n = n'
  · subst hll
    have HX := Lib.hid hx
    have HY := Lib.hid hy
    have HK0 := Lib.hid kw
    clear hx hy kw
    go_enter Tryz.func18, Tryz.ntmps18
    go_wp2_with fail
    go_loopw [6, 7] (fun o i wr => ∃ (q z : Nat) (B : Option Addr) (e : Nat) (ss : List ByteArray), q ≤ n ∧ z ≤ q ∧ i = .int .i64 q ∧ o = .slice B z e ∧ Hid (wr.ownsRow w.heap.size 9 1 (.slice B z e) z (tvs ss)) ∧ Hid (bts ss = strsF (saysT (ts.take q))) ∧ Hid ((saysT (ts.take q)).map emptyF = (saysT (fs.take q)).map emptyF) ∧ Below w.heap.size w wr) (fun _ i _ => n - (intOf i).toNat)
    case atStart => exact ⟨0, 0, _, 0, [], Nat.zero_le _, Nat.le_refl _, rfl, rfl, hown0, Lib.hid rfl, Lib.hid rfl, HK0.out⟩
    case round =>
      obtain ⟨q, z, B, e, ss, hq, hz, rfl, rfl, ho, hs, he, k0⟩ := hrel
      by_cases hlt : q < n
      · have hkx : q < ts.length := by rw [hlx.out]; omega
        have hky : q < fs.length := by rw [hly.out]; omega
        obtain ⟨ad, rfl, _, hc⟩ := HX.out.at_ hkx
        obtain ⟨ad', rfl, _, hc'⟩ := HY.out.at_ hky
        obtain ⟨c0, c1⟩ := hc _ k0
        obtain ⟨d0, d1⟩ := hc' _ k0
        have HC := Lib.hid hc
        have hsx := says_next ts q hkx
        have hsy := says_next fs q hky
        have htx : ts[q].says = (ts[q].k, ts[q].t.data.toList) := rfl
        have hty : fs[q].says = (fs[q].k, fs[q].t.data.toList) := rfl
        rw [htx] at hsx
        rw [hty] at hsy
        have hev : emptyF (ts[q].k, ts[q].t.data.toList) = emptyF (fs[q].k, fs[q].t.data.toList) ↔ _ := empty_eq
        have hno : ¬ emptyF (ts[q].k, ts[q].t.data.toList) = emptyF (fs[q].k, fs[q].t.data.toList) → Hid (decide ((saysT ts).map emptyF = (saysT fs).map emptyF) = false) := fun h => Lib.hid (decide_eq_false (fun hh => h (by
          have h1 : ((saysT ts).map emptyF)[q]? = ((saysT fs).map emptyF)[q]? := by rw [hh]
          rw [List.getElem?_map, List.getElem?_map] at h1
          have h2 : (saysT ts)[q]? = some ts[q].says := by simp [saysT, hkx]
          have h3 : (saysT fs)[q]? = some fs[q].says := by simp [saysT, hky]
          rw [h2, h3] at h1
          simpa [htx, hty] using h1)))
        have hyes : emptyF (ts[q].k, ts[q].t.data.toList) = emptyF (fs[q].k, fs[q].t.data.toList) → Hid ((saysT (ts.take (q + 1))).map emptyF = (saysT (fs.take (q + 1))).map emptyF) := fun h => Lib.hid (by
          rw [hsx, hsy, List.map_append, List.map_append, he.out]
          simp [h])
        have hst : Hid (strsF (saysT (ts.take (q + 1))) = if ts[q].k = 3 then strsF (saysT (ts.take q)) ++ [ts[q].t.data.toList] else strsF (saysT (ts.take q))) := Lib.hid (by rw [hsx, strs_push])
        clear hc hc' hsx hsy htx hty
        generalize ts[q].k = a at *
        generalize fs[q].k = b at *
        generalize ts[q].t = x at *
        generalize fs[q].t = y at *
        by_cases hab : a = b
        case neg =>
          have hN := hno (fun h => hab (hev.1 h).1)
          have hab2 : (a != b) = true := by simpa using hab
          clear hno hyes hev hst hab
          go_wp2_with fail
          go_quiet (fail)
          go_wp2_with fail
          go_ret2
          exact ⟨none, 0, 0, [], false, rfl, hN.out.symm, (fun h => by cases h), k0.trans ((kp_drewN wr nq).mono k0.size)⟩
        subst hab
        by_cases h3 : a = 3
        · subst h3
          have hY := hyes (hev.2 ⟨rfl, .inl rfl⟩)
          have hb2 : Hid (bts (ss ++ [x]) = strsF (saysT (ts.take (q + 1)))) := Lib.hid (by rw [hst.out, if_pos rfl, bts_append, hs.out]; rfl)
          clear hno hyes hev hst hs
          go_wp2_with fail
          go_quiet (fail)
          have kq : Below wr.heap.size wr (wr.drewN nq) := kp_drewN wr nq
          have hoq := own_below_s ho.out kq (Nat.le_refl _)
          have KQ := kp_trans k0 kq
          generalize wr.drewN nq = wq at *
          obtain ⟨g0, g1⟩ := HC.out _ KQ
          have HO := Lib.hid (hoq.alloc (.cells #[.string x] 9))
          have HSRC : Hid (Rd (wq.alloc (.cells #[.string x] 9)) (wq.heap.size + 1) (some ⟨wq.heap.size, 0, none⟩) [.string x]) := Lib.hid (Rd.new wq 9 [.string x])
          have HSW := Lib.hid (show w.heap.size ≤ (wq.alloc (.cells #[.string x] 9)).heap.size by simp; have := KQ.size; omega)
          have KA := kp_alloc KQ (.cells #[.string x] 9)
          clear ho hoq c0 c1 d0 d1 kq
          go_wp2_with (at_builtin; refine wpList_append_rd rfl _ _ _ rfl w.heap.size 9 i0 _ 16 Tryz.underlying35 hi hz0 hz1 hz2 rfl _ z _ rfl HO.out _ _ _ _ [.string x] rfl rfl HSRC.out (by simp [Value.oneCell']) (by unfold maxLen; omega) (by omega) HSW.out ?_; intro v3 w3 hown3 hg3; obtain ⟨A3, c3, rfl, _, _⟩ := own_form hown3)
          go_roundw
          case rel =>
            refine ⟨q + 1, z + 1, A3, c3, ss ++ [x], by omega, by omega, by go_num, rfl, Lib.hid ?_, hb2, hY, KA.trans (below_own_s HO.out hg3 HSW.out)⟩
            rw [tvs_append]
            exact hown3
          case measure => simp [intOf]; omega
        · have hn3 : (a != 3) = true := by simpa using h3
          have hn3b : (a == 3) = false := by simpa using h3
          have haa : (a != a) = false := by simp
          by_cases hxy : x = y
          · subst hxy
            have hxx : (x.toList == x.toList) = true := by simp
            have hY := hyes (hev.2 ⟨rfl, .inr rfl⟩)
            have hb2 : Hid (bts ss = strsF (saysT (ts.take (q + 1)))) := Lib.hid (by rw [hst.out, if_neg h3]; exact hs.out)
            clear hno hyes hev hst hs h3
            go_wp2_with fail
            go_quiet (fail)
            have kq : Below wr.heap.size wr (wr.drewN nq) := kp_drewN wr nq
            have hoq := Lib.hid (own_below_s ho.out kq (Nat.le_refl _))
            have KQ := kp_trans k0 kq
            generalize wr.drewN nq = wq at *
            obtain ⟨g0, g1⟩ := HC.out _ KQ
            clear ho c0 c1 d0 d1 kq
            go_wp2_with fail
            go_roundw
            case rel => exact ⟨q + 1, z, B, e, ss, by omega, by omega, by go_num, rfl, hoq, hb2, hY, KQ⟩
            case measure => simp [intOf]; omega
          · have hxy2 : (x.toList == y.toList) = false := by
              simp only [beq_eq_false_iff_ne, ne_eq]
              exact fun h => hxy (bytes_ext h)
            have hN := hno (fun h => (hev.1 h).2.elim h3 (fun hh => hxy (text_ext hh)))
            clear hno hyes hev hst h3 hxy
            go_wp2_with fail
            go_quiet (fail)
            go_wp2_with fail
            go_ret2
            exact ⟨none, 0, 0, [], false, rfl, hN.out.symm, (fun h => by cases h), k0.trans ((kp_drewN wr nq).mono k0.size)⟩
      · obtain rfl : q = n := by omega
        rw [List.take_of_length_le (by rw [hlx.out]; exact Nat.le_refl _)] at hs he
        rw [List.take_of_length_le (by rw [hly.out]; exact Nat.le_refl _)] at he
        go_wp2_with fail
        go_ret2
        exact ⟨B, z, e, ss, true, rfl, (decide_eq_true he.out).symm, fun _ => ⟨XR.of_own ho.out, hs.out⟩, k0⟩
  · have hN : Hid (decide ((saysT ts).map emptyF = (saysT fs).map emptyF) = false) := Lib.hid (decide_eq_false (fun hh => hll (by
      have := congrArg List.length hh
      rw [List.length_map, List.length_map, saysT_length, saysT_length, hlx.out, hly.out] at this
      exact this)))
    have ht : ((n : Int) != (n' : Int)) = true := by rw [bne_iff_ne]; omega
    go_enter Tryz.func18, Tryz.ntmps18
    go_wp2_with fail
    go_ret2
    exact ⟨none, 0, 0, [], false, rfl, hN.out.symm, (fun h => by cases h), kw⟩

theorem form_ok (s : ByteArray) (w : World) (hm : s.size ≤ maxLen) : Calls Tryz.prog 19 #[.string s] w fun e w' => ∃ A n c ts, e = .returned (.slice A n c) ∧ TR w' A n ts ∧ saysT ts = (lexA s.data.toList).1 ∧ Below w.heap.size w w' := by
  have hlx := rlex_ok s w hm
  unfold LexTo at hlx
  have HX := Lib.hid hlx
  clear hlx
  go_enter Tryz.func19, Tryz.ntmps19
  go_wp2_with fail
  refine HX.out.mono ?_
  rintro e w1 ⟨A, n, c, er, ts, rfl, ho, hla, k1⟩
  have HLA := Lib.hid (congrArg Prod.fst hla)
  have HO := Lib.hid ho
  clear hla ho HX
  go_wp2_with fail
  go_ret
  exact ⟨A, n, c, ts, rfl, HO.out.tr, HLA.out, k1⟩
end

/- The document's layer 6: what a statement does: contract. -/
section
open Go.RowKit
set_option maxRecDepth 100000

theorem lex6_fGet : lexF [115, 101, 108, 101, 99, 116, 32, 118, 32, 102, 114, 111, 109, 32, 107, 118, 32, 119, 104, 101, 114, 101, 32, 107, 32, 61, 32, 39, 39] = some [(1, [83, 69, 76, 69, 67, 84]), (1, [86]), (1, [70, 82, 79, 77]), (1, [75, 86]), (1, [87, 72, 69, 82, 69]), (1, [75]), (6, [61]), (3, [])] := by
  rw [lexF_tok (k := 1) (t := [83, 69, 76, 69, 67, 84]) (n := 6) (by simp) (by kernel_rfl) (by decide)]
  simp only [List.drop_succ_cons, List.drop_zero]
  rw [lexF_skip (n := 1) (by simp) (by kernel_rfl) (by decide)]
  simp only [List.drop_succ_cons, List.drop_zero]
  rw [lexF_tok (k := 1) (t := [86]) (n := 1) (by simp) (by kernel_rfl) (by decide)]
  simp only [List.drop_succ_cons, List.drop_zero]
  rw [lexF_skip (n := 1) (by simp) (by kernel_rfl) (by decide)]
  simp only [List.drop_succ_cons, List.drop_zero]
  rw [lexF_tok (k := 1) (t := [70, 82, 79, 77]) (n := 4) (by simp) (by kernel_rfl) (by decide)]
  simp only [List.drop_succ_cons, List.drop_zero]
  rw [lexF_skip (n := 1) (by simp) (by kernel_rfl) (by decide)]
  simp only [List.drop_succ_cons, List.drop_zero]
  rw [lexF_tok (k := 1) (t := [75, 86]) (n := 2) (by simp) (by kernel_rfl) (by decide)]
  simp only [List.drop_succ_cons, List.drop_zero]
  rw [lexF_skip (n := 1) (by simp) (by kernel_rfl) (by decide)]
  simp only [List.drop_succ_cons, List.drop_zero]
  rw [lexF_tok (k := 1) (t := [87, 72, 69, 82, 69]) (n := 5) (by simp) (by kernel_rfl) (by decide)]
  simp only [List.drop_succ_cons, List.drop_zero]
  rw [lexF_skip (n := 1) (by simp) (by kernel_rfl) (by decide)]
  simp only [List.drop_succ_cons, List.drop_zero]
  rw [lexF_tok (k := 1) (t := [75]) (n := 1) (by simp) (by kernel_rfl) (by decide)]
  simp only [List.drop_succ_cons, List.drop_zero]
  rw [lexF_skip (n := 1) (by simp) (by kernel_rfl) (by decide)]
  simp only [List.drop_succ_cons, List.drop_zero]
  rw [lexF_tok (k := 6) (t := [61]) (n := 1) (by simp) (by kernel_rfl) (by decide)]
  simp only [List.drop_succ_cons, List.drop_zero]
  rw [lexF_skip (n := 1) (by simp) (by kernel_rfl) (by decide)]
  simp only [List.drop_succ_cons, List.drop_zero]
  rw [lexF_tok (k := 3) (t := []) (n := 2) (by simp) (by kernel_rfl) (by decide)]
  simp only [List.drop_succ_cons, List.drop_zero]
  rw [lexF_nil]
  rfl
theorem form_Get (w : World) : Calls Tryz.prog 19 #[.string ⟨#[115, 101, 108, 101, 99, 116, 32, 118, 32, 102, 114, 111, 109, 32, 107, 118, 32, 119, 104, 101, 114, 101, 32, 107, 32, 61, 32, 39, 39]⟩] w fun e w' => ∃ A n c ts, e = .returned (.slice A n c) ∧ TR w' A n ts ∧ (saysT ts).map emptyF = fGet ∧ n ≤ 20 ∧ Below w.heap.size w w' :=
  (form_ok ⟨#[115, 101, 108, 101, 99, 116, 32, 118, 32, 102, 114, 111, 109, 32, 107, 118, 32, 119, 104, 101, 114, 101, 32, 107, 32, 61, 32, 39, 39]⟩ w (by decide)).mono fun e w' ⟨A, n, c, ts, he, ht, hs, hb⟩ => by
    rw [show (⟨#[115, 101, 108, 101, 99, 116, 32, 118, 32, 102, 114, 111, 109, 32, 107, 118, 32, 119, 104, 101, 114, 101, 32, 107, 32, 61, 32, 39, 39]⟩ : ByteArray).data.toList = [115, 101, 108, 101, 99, 116, 32, 118, 32, 102, 114, 111, 109, 32, 107, 118, 32, 119, 104, 101, 114, 101, 32, 107, 32, 61, 32, 39, 39] from rfl, lexA_some lex6_fGet (by decide)] at hs
    have hs2 : saysT ts = fGet := hs
    refine ⟨A, n, c, ts, he, ht, by rw [hs2]; decide, ?_, hb⟩
    rw [← ht.len, ← saysT_length, hs2]
    decide
theorem lex6_fAll : lexF [115, 101, 108, 101, 99, 116, 32, 42, 32, 102, 114, 111, 109, 32, 107, 118] = some [(1, [83, 69, 76, 69, 67, 84]), (6, [42]), (1, [70, 82, 79, 77]), (1, [75, 86])] := by
  rw [lexF_tok (k := 1) (t := [83, 69, 76, 69, 67, 84]) (n := 6) (by simp) (by kernel_rfl) (by decide)]
  simp only [List.drop_succ_cons, List.drop_zero]
  rw [lexF_skip (n := 1) (by simp) (by kernel_rfl) (by decide)]
  simp only [List.drop_succ_cons, List.drop_zero]
  rw [lexF_tok (k := 6) (t := [42]) (n := 1) (by simp) (by kernel_rfl) (by decide)]
  simp only [List.drop_succ_cons, List.drop_zero]
  rw [lexF_skip (n := 1) (by simp) (by kernel_rfl) (by decide)]
  simp only [List.drop_succ_cons, List.drop_zero]
  rw [lexF_tok (k := 1) (t := [70, 82, 79, 77]) (n := 4) (by simp) (by kernel_rfl) (by decide)]
  simp only [List.drop_succ_cons, List.drop_zero]
  rw [lexF_skip (n := 1) (by simp) (by kernel_rfl) (by decide)]
  simp only [List.drop_succ_cons, List.drop_zero]
  rw [lexF_tok (k := 1) (t := [75, 86]) (n := 2) (by simp) (by kernel_rfl) (by decide)]
  simp only [List.drop_succ_cons, List.drop_zero]
  rw [lexF_nil]
  rfl
theorem form_All (w : World) : Calls Tryz.prog 19 #[.string ⟨#[115, 101, 108, 101, 99, 116, 32, 42, 32, 102, 114, 111, 109, 32, 107, 118]⟩] w fun e w' => ∃ A n c ts, e = .returned (.slice A n c) ∧ TR w' A n ts ∧ (saysT ts).map emptyF = fAll ∧ n ≤ 20 ∧ Below w.heap.size w w' :=
  (form_ok ⟨#[115, 101, 108, 101, 99, 116, 32, 42, 32, 102, 114, 111, 109, 32, 107, 118]⟩ w (by decide)).mono fun e w' ⟨A, n, c, ts, he, ht, hs, hb⟩ => by
    rw [show (⟨#[115, 101, 108, 101, 99, 116, 32, 42, 32, 102, 114, 111, 109, 32, 107, 118]⟩ : ByteArray).data.toList = [115, 101, 108, 101, 99, 116, 32, 42, 32, 102, 114, 111, 109, 32, 107, 118] from rfl, lexA_some lex6_fAll (by decide)] at hs
    have hs2 : saysT ts = fAll := hs
    refine ⟨A, n, c, ts, he, ht, by rw [hs2]; decide, ?_, hb⟩
    rw [← ht.len, ← saysT_length, hs2]
    decide
theorem lex6_fPut : lexF [105, 110, 115, 101, 114, 116, 32, 105, 110, 116, 111, 32, 107, 118, 32, 118, 97, 108, 117, 101, 115, 32, 40, 39, 39, 44, 32, 39, 39, 41] = some [(1, [73, 78, 83, 69, 82, 84]), (1, [73, 78, 84, 79]), (1, [75, 86]), (1, [86, 65, 76, 85, 69, 83]), (6, [40]), (3, []), (6, [44]), (3, []), (6, [41])] := by
  rw [lexF_tok (k := 1) (t := [73, 78, 83, 69, 82, 84]) (n := 6) (by simp) (by kernel_rfl) (by decide)]
  simp only [List.drop_succ_cons, List.drop_zero]
  rw [lexF_skip (n := 1) (by simp) (by kernel_rfl) (by decide)]
  simp only [List.drop_succ_cons, List.drop_zero]
  rw [lexF_tok (k := 1) (t := [73, 78, 84, 79]) (n := 4) (by simp) (by kernel_rfl) (by decide)]
  simp only [List.drop_succ_cons, List.drop_zero]
  rw [lexF_skip (n := 1) (by simp) (by kernel_rfl) (by decide)]
  simp only [List.drop_succ_cons, List.drop_zero]
  rw [lexF_tok (k := 1) (t := [75, 86]) (n := 2) (by simp) (by kernel_rfl) (by decide)]
  simp only [List.drop_succ_cons, List.drop_zero]
  rw [lexF_skip (n := 1) (by simp) (by kernel_rfl) (by decide)]
  simp only [List.drop_succ_cons, List.drop_zero]
  rw [lexF_tok (k := 1) (t := [86, 65, 76, 85, 69, 83]) (n := 6) (by simp) (by kernel_rfl) (by decide)]
  simp only [List.drop_succ_cons, List.drop_zero]
  rw [lexF_skip (n := 1) (by simp) (by kernel_rfl) (by decide)]
  simp only [List.drop_succ_cons, List.drop_zero]
  rw [lexF_tok (k := 6) (t := [40]) (n := 1) (by simp) (by kernel_rfl) (by decide)]
  simp only [List.drop_succ_cons, List.drop_zero]
  rw [lexF_tok (k := 3) (t := []) (n := 2) (by simp) (by kernel_rfl) (by decide)]
  simp only [List.drop_succ_cons, List.drop_zero]
  rw [lexF_tok (k := 6) (t := [44]) (n := 1) (by simp) (by kernel_rfl) (by decide)]
  simp only [List.drop_succ_cons, List.drop_zero]
  rw [lexF_skip (n := 1) (by simp) (by kernel_rfl) (by decide)]
  simp only [List.drop_succ_cons, List.drop_zero]
  rw [lexF_tok (k := 3) (t := []) (n := 2) (by simp) (by kernel_rfl) (by decide)]
  simp only [List.drop_succ_cons, List.drop_zero]
  rw [lexF_tok (k := 6) (t := [41]) (n := 1) (by simp) (by kernel_rfl) (by decide)]
  simp only [List.drop_succ_cons, List.drop_zero]
  rw [lexF_nil]
  rfl
theorem form_Put (w : World) : Calls Tryz.prog 19 #[.string ⟨#[105, 110, 115, 101, 114, 116, 32, 105, 110, 116, 111, 32, 107, 118, 32, 118, 97, 108, 117, 101, 115, 32, 40, 39, 39, 44, 32, 39, 39, 41]⟩] w fun e w' => ∃ A n c ts, e = .returned (.slice A n c) ∧ TR w' A n ts ∧ (saysT ts).map emptyF = fPut ∧ n ≤ 20 ∧ Below w.heap.size w w' :=
  (form_ok ⟨#[105, 110, 115, 101, 114, 116, 32, 105, 110, 116, 111, 32, 107, 118, 32, 118, 97, 108, 117, 101, 115, 32, 40, 39, 39, 44, 32, 39, 39, 41]⟩ w (by decide)).mono fun e w' ⟨A, n, c, ts, he, ht, hs, hb⟩ => by
    rw [show (⟨#[105, 110, 115, 101, 114, 116, 32, 105, 110, 116, 111, 32, 107, 118, 32, 118, 97, 108, 117, 101, 115, 32, 40, 39, 39, 44, 32, 39, 39, 41]⟩ : ByteArray).data.toList = [105, 110, 115, 101, 114, 116, 32, 105, 110, 116, 111, 32, 107, 118, 32, 118, 97, 108, 117, 101, 115, 32, 40, 39, 39, 44, 32, 39, 39, 41] from rfl, lexA_some lex6_fPut (by decide)] at hs
    have hs2 : saysT ts = fPut := hs
    refine ⟨A, n, c, ts, he, ht, by rw [hs2]; decide, ?_, hb⟩
    rw [← ht.len, ← saysT_length, hs2]
    decide
theorem lex6_fChg : lexF [117, 112, 100, 97, 116, 101, 32, 107, 118, 32, 115, 101, 116, 32, 118, 32, 61, 32, 39, 39, 32, 119, 104, 101, 114, 101, 32, 107, 32, 61, 32, 39, 39] = some [(1, [85, 80, 68, 65, 84, 69]), (1, [75, 86]), (1, [83, 69, 84]), (1, [86]), (6, [61]), (3, []), (1, [87, 72, 69, 82, 69]), (1, [75]), (6, [61]), (3, [])] := by
  rw [lexF_tok (k := 1) (t := [85, 80, 68, 65, 84, 69]) (n := 6) (by simp) (by kernel_rfl) (by decide)]
  simp only [List.drop_succ_cons, List.drop_zero]
  rw [lexF_skip (n := 1) (by simp) (by kernel_rfl) (by decide)]
  simp only [List.drop_succ_cons, List.drop_zero]
  rw [lexF_tok (k := 1) (t := [75, 86]) (n := 2) (by simp) (by kernel_rfl) (by decide)]
  simp only [List.drop_succ_cons, List.drop_zero]
  rw [lexF_skip (n := 1) (by simp) (by kernel_rfl) (by decide)]
  simp only [List.drop_succ_cons, List.drop_zero]
  rw [lexF_tok (k := 1) (t := [83, 69, 84]) (n := 3) (by simp) (by kernel_rfl) (by decide)]
  simp only [List.drop_succ_cons, List.drop_zero]
  rw [lexF_skip (n := 1) (by simp) (by kernel_rfl) (by decide)]
  simp only [List.drop_succ_cons, List.drop_zero]
  rw [lexF_tok (k := 1) (t := [86]) (n := 1) (by simp) (by kernel_rfl) (by decide)]
  simp only [List.drop_succ_cons, List.drop_zero]
  rw [lexF_skip (n := 1) (by simp) (by kernel_rfl) (by decide)]
  simp only [List.drop_succ_cons, List.drop_zero]
  rw [lexF_tok (k := 6) (t := [61]) (n := 1) (by simp) (by kernel_rfl) (by decide)]
  simp only [List.drop_succ_cons, List.drop_zero]
  rw [lexF_skip (n := 1) (by simp) (by kernel_rfl) (by decide)]
  simp only [List.drop_succ_cons, List.drop_zero]
  rw [lexF_tok (k := 3) (t := []) (n := 2) (by simp) (by kernel_rfl) (by decide)]
  simp only [List.drop_succ_cons, List.drop_zero]
  rw [lexF_skip (n := 1) (by simp) (by kernel_rfl) (by decide)]
  simp only [List.drop_succ_cons, List.drop_zero]
  rw [lexF_tok (k := 1) (t := [87, 72, 69, 82, 69]) (n := 5) (by simp) (by kernel_rfl) (by decide)]
  simp only [List.drop_succ_cons, List.drop_zero]
  rw [lexF_skip (n := 1) (by simp) (by kernel_rfl) (by decide)]
  simp only [List.drop_succ_cons, List.drop_zero]
  rw [lexF_tok (k := 1) (t := [75]) (n := 1) (by simp) (by kernel_rfl) (by decide)]
  simp only [List.drop_succ_cons, List.drop_zero]
  rw [lexF_skip (n := 1) (by simp) (by kernel_rfl) (by decide)]
  simp only [List.drop_succ_cons, List.drop_zero]
  rw [lexF_tok (k := 6) (t := [61]) (n := 1) (by simp) (by kernel_rfl) (by decide)]
  simp only [List.drop_succ_cons, List.drop_zero]
  rw [lexF_skip (n := 1) (by simp) (by kernel_rfl) (by decide)]
  simp only [List.drop_succ_cons, List.drop_zero]
  rw [lexF_tok (k := 3) (t := []) (n := 2) (by simp) (by kernel_rfl) (by decide)]
  simp only [List.drop_succ_cons, List.drop_zero]
  rw [lexF_nil]
  rfl
theorem form_Chg (w : World) : Calls Tryz.prog 19 #[.string ⟨#[117, 112, 100, 97, 116, 101, 32, 107, 118, 32, 115, 101, 116, 32, 118, 32, 61, 32, 39, 39, 32, 119, 104, 101, 114, 101, 32, 107, 32, 61, 32, 39, 39]⟩] w fun e w' => ∃ A n c ts, e = .returned (.slice A n c) ∧ TR w' A n ts ∧ (saysT ts).map emptyF = fChg ∧ n ≤ 20 ∧ Below w.heap.size w w' :=
  (form_ok ⟨#[117, 112, 100, 97, 116, 101, 32, 107, 118, 32, 115, 101, 116, 32, 118, 32, 61, 32, 39, 39, 32, 119, 104, 101, 114, 101, 32, 107, 32, 61, 32, 39, 39]⟩ w (by decide)).mono fun e w' ⟨A, n, c, ts, he, ht, hs, hb⟩ => by
    rw [show (⟨#[117, 112, 100, 97, 116, 101, 32, 107, 118, 32, 115, 101, 116, 32, 118, 32, 61, 32, 39, 39, 32, 119, 104, 101, 114, 101, 32, 107, 32, 61, 32, 39, 39]⟩ : ByteArray).data.toList = [117, 112, 100, 97, 116, 101, 32, 107, 118, 32, 115, 101, 116, 32, 118, 32, 61, 32, 39, 39, 32, 119, 104, 101, 114, 101, 32, 107, 32, 61, 32, 39, 39] from rfl, lexA_some lex6_fChg (by decide)] at hs
    have hs2 : saysT ts = fChg := hs
    refine ⟨A, n, c, ts, he, ht, by rw [hs2]; decide, ?_, hb⟩
    rw [← ht.len, ← saysT_length, hs2]
    decide
theorem lex6_fDel : lexF [100, 101, 108, 101, 116, 101, 32, 102, 114, 111, 109, 32, 107, 118, 32, 119, 104, 101, 114, 101, 32, 107, 32, 61, 32, 39, 39] = some [(1, [68, 69, 76, 69, 84, 69]), (1, [70, 82, 79, 77]), (1, [75, 86]), (1, [87, 72, 69, 82, 69]), (1, [75]), (6, [61]), (3, [])] := by
  rw [lexF_tok (k := 1) (t := [68, 69, 76, 69, 84, 69]) (n := 6) (by simp) (by kernel_rfl) (by decide)]
  simp only [List.drop_succ_cons, List.drop_zero]
  rw [lexF_skip (n := 1) (by simp) (by kernel_rfl) (by decide)]
  simp only [List.drop_succ_cons, List.drop_zero]
  rw [lexF_tok (k := 1) (t := [70, 82, 79, 77]) (n := 4) (by simp) (by kernel_rfl) (by decide)]
  simp only [List.drop_succ_cons, List.drop_zero]
  rw [lexF_skip (n := 1) (by simp) (by kernel_rfl) (by decide)]
  simp only [List.drop_succ_cons, List.drop_zero]
  rw [lexF_tok (k := 1) (t := [75, 86]) (n := 2) (by simp) (by kernel_rfl) (by decide)]
  simp only [List.drop_succ_cons, List.drop_zero]
  rw [lexF_skip (n := 1) (by simp) (by kernel_rfl) (by decide)]
  simp only [List.drop_succ_cons, List.drop_zero]
  rw [lexF_tok (k := 1) (t := [87, 72, 69, 82, 69]) (n := 5) (by simp) (by kernel_rfl) (by decide)]
  simp only [List.drop_succ_cons, List.drop_zero]
  rw [lexF_skip (n := 1) (by simp) (by kernel_rfl) (by decide)]
  simp only [List.drop_succ_cons, List.drop_zero]
  rw [lexF_tok (k := 1) (t := [75]) (n := 1) (by simp) (by kernel_rfl) (by decide)]
  simp only [List.drop_succ_cons, List.drop_zero]
  rw [lexF_skip (n := 1) (by simp) (by kernel_rfl) (by decide)]
  simp only [List.drop_succ_cons, List.drop_zero]
  rw [lexF_tok (k := 6) (t := [61]) (n := 1) (by simp) (by kernel_rfl) (by decide)]
  simp only [List.drop_succ_cons, List.drop_zero]
  rw [lexF_skip (n := 1) (by simp) (by kernel_rfl) (by decide)]
  simp only [List.drop_succ_cons, List.drop_zero]
  rw [lexF_tok (k := 3) (t := []) (n := 2) (by simp) (by kernel_rfl) (by decide)]
  simp only [List.drop_succ_cons, List.drop_zero]
  rw [lexF_nil]
  rfl
theorem form_Del (w : World) : Calls Tryz.prog 19 #[.string ⟨#[100, 101, 108, 101, 116, 101, 32, 102, 114, 111, 109, 32, 107, 118, 32, 119, 104, 101, 114, 101, 32, 107, 32, 61, 32, 39, 39]⟩] w fun e w' => ∃ A n c ts, e = .returned (.slice A n c) ∧ TR w' A n ts ∧ (saysT ts).map emptyF = fDel ∧ n ≤ 20 ∧ Below w.heap.size w w' :=
  (form_ok ⟨#[100, 101, 108, 101, 116, 101, 32, 102, 114, 111, 109, 32, 107, 118, 32, 119, 104, 101, 114, 101, 32, 107, 32, 61, 32, 39, 39]⟩ w (by decide)).mono fun e w' ⟨A, n, c, ts, he, ht, hs, hb⟩ => by
    rw [show (⟨#[100, 101, 108, 101, 116, 101, 32, 102, 114, 111, 109, 32, 107, 118, 32, 119, 104, 101, 114, 101, 32, 107, 32, 61, 32, 39, 39]⟩ : ByteArray).data.toList = [100, 101, 108, 101, 116, 101, 32, 102, 114, 111, 109, 32, 107, 118, 32, 119, 104, 101, 114, 101, 32, 107, 32, 61, 32, 39, 39] from rfl, lexA_some lex6_fDel (by decide)] at hs
    have hs2 : saysT ts = fDel := hs
    refine ⟨A, n, c, ts, he, ht, by rw [hs2]; decide, ?_, hb⟩
    rw [← ht.len, ← saysT_length, hs2]
    decide

set_option maxHeartbeats 1000000 in
theorem keep_step {l : List Tok} {t : Tok} (h : t.1 = 5) : keptF (l ++ [t]) = keptF l := by simp [keptF, isHintF, h]
theorem keep_more {l : List Tok} {t : Tok} (h : t.1 ≠ 5) : keptF (l ++ [t]) = keptF l ++ [t] := by simp [keptF, isHintF, h]

/-- the tokens of a form: is it, and its Strings -/
theorem strs_form {L : List Tok} {ss : List ByteArray} {f : List Tok} (h : L.map emptyF = f) (hs : bts ss = strsF L) : ss.length = (strsF f).length := by
  rw [← strs_len h, ← hs]
  simp [bts]
theorem one_of {ss : List ByteArray} (h : ss.length = 1) : ∃ x, ss = [x] := by
  match ss, h with
  | [x], _ => exact ⟨x, rfl⟩
theorem two_of {ss : List ByteArray} (h : ss.length = 2) : ∃ x y, ss = [x, y] := by
  match ss, h with
  | [x, y], _ => exact ⟨x, y, rfl⟩

set_option maxHeartbeats 16000000 in
theorem rof_ok (s : ByteArray) (w : World) (hm : s.size ≤ maxLen) : OfTo 6 s w := by
  obtain ⟨j0, gi, gz0, gz1, gz2⟩ := info_parts tkinfoR
  have kw := kp_new w (.cells #[.int .i64 0, .string ⟨#[]⟩, .string ⟨#[]⟩] 26)
  have hlx := rlex_ok s (w.alloc (.cells #[.int .i64 0, .string ⟨#[]⟩, .string ⟨#[]⟩] 26)) hm
  unfold LexTo at hlx
  have hlen := lexA_len s.data.toList
  have herr := lexA_err s.data.toList
  have hP : planA s.data.toList = planF (bodyF (lexA s.data.toList).1) := rfl
  unfold OfTo
  generalize planA s.data.toList = R at *
  have HP := Lib.hid hP
  have HX := Lib.hid hlx
  have HLN := Lib.hid hlen
  have HER := Lib.hid herr
  clear hP hlx hlen herr
  go_enter Tryz.func6, Tryz.ntmps6
  go_wp2_with fail
  refine HX.out.mono ?_
  rintro e w1 ⟨A, n, c, er, ts, rfl, ho, hla, k1⟩
  rw [← hla] at HLN HP HER
  clear hla HX
  have hb1 : Hid (∀ u, Below w1.heap.size w1 u → u.heap[w.heap.size]? = some (.cells #[.int .i64 0, .string ⟨#[]⟩, .string ⟨#[]⟩] 26 (0, 0))) := Lib.hid fun u hu => ((kp_trans k1 hu).block _ (by simp)).trans (heap_alloc_new w _)
  have K1 := kp_trans kw k1
  have hlt1 : w.heap.size + 1 ≤ w1.heap.size := by have := k1.size; simpa using this
  have hn : n ≤ 200 := by rw [← ho.len, ← saysT_length]; exact HLN.out
  by_cases he0 : er = 0
  case neg =>
    have hne : (er != 0) = true := by simpa using he0
    obtain ⟨d0, d1, d2, f0, f1, f2⟩ := cells3f (hb1.out w1 (Below.refl _ _))
    have hR : Hid (doing 0 ⟨#[]⟩ ⟨#[]⟩ = R) := Lib.hid (by rw [HP.out, HER.out he0]; rfl)
    clear he0
    go_wp2_with fail
    refine bodyPost_ret (v := planV 0 ⟨#[]⟩ ⟨#[]⟩) ?_ rfl ⟨0, ⟨#[]⟩, ⟨#[]⟩, rfl, hR.out, ((K1.setCell (Nat.le_refl _) _).setCell (Nat.le_refl _) _).setCell (Nat.le_refl _) _⟩
    rw [results_cell1 rfl]
    unfold planV
    go_simp
  subst he0
  have HTR := Lib.hid ho.tr
  have hlenT := Lib.hid ho.len
  have hown0 : Hid (OT 58 (w1.alloc (.cells #[] 58)) w1.heap.size (some ⟨w1.heap.size, 0, none⟩) 0 0 []) := Lib.hid (OT.empty _ _)
  have hk0 := Lib.hid (kp_new w1 (.cells #[] 58))
  clear ho
  go_wp2_with fail
  go_loopw [5, 6] (fun o i wr => ∃ (q z : Nat) (B : Option Addr) (e : Nat) (ms : List Tk), q ≤ n ∧ z ≤ q ∧ i = .int .i64 q ∧ o = .slice B z e ∧ Hid (OT 58 wr w1.heap.size B z e ms) ∧ Hid (saysT ms = keptF (saysT (ts.take q))) ∧ Below w1.heap.size w1 wr) (fun _ i _ => n - (intOf i).toNat)
  case atStart => exact ⟨0, 0, _, 0, [], Nat.zero_le _, Nat.le_refl _, rfl, rfl, hown0, Lib.hid rfl, hk0.out⟩
  case round =>
    obtain ⟨q, z, B, e, ms, hq, hz, rfl, rfl, hom, hms, k2⟩ := hrel
    have hsz2 := k2.size
    by_cases hlt : q < n
    · have hkl : q < ts.length := by rw [hlenT.out]; exact hlt
      obtain ⟨ad, rfl, had, hc⟩ := HTR.out.at_ hkl
      obtain ⟨c0, c1⟩ := hc _ k2
      have hsn := says_next ts q hkl
      have hte : ts[q].says = (ts[q].k, ts[q].t.data.toList) := rfl
      rw [hte] at hsn
      clear hc hte
      generalize ts[q].k = x at *
      generalize ts[q].t = y at *
      by_cases h5 : x = 5
      · subst h5
        have hms2 : Hid (saysT ms = keptF (saysT (ts.take (q + 1)))) := Lib.hid (by rw [hsn, keep_step (by rfl)]; exact hms.out)
        clear hsn hms
        go_wp2_with fail
        go_roundw
        case rel => exact ⟨q + 1, z, B, e, ms, by omega, by omega, by go_num, rfl, hom, hms2, k2⟩
        case measure => simp [intOf]; omega
      · have n5 : (x != 5) = true := by simpa using h5
        have hms2 : Hid (saysT (ms ++ [⟨x, y⟩]) = keptF (saysT (ts.take (q + 1)))) := Lib.hid (by rw [hsn, keep_more h5, saysT_append, hms.out]; rfl)
        have HO := Lib.hid (hom.out.own.alloc (.cells #[.int .i64 x, .string y] 58))
        have HSRC : Hid (Rd (wr.alloc (.cells #[.int .i64 x, .string y] 58)) (wr.heap.size + 1) (some ⟨wr.heap.size, 0, none⟩) [.int .i64 x, .string y]) := Lib.hid (Rd.new wr 58 [.int .i64 x, .string y])
        have KA := Lib.hid (kp_alloc k2 (.cells #[.int .i64 x, .string y] 58))
        clear hsn hms hom h5
        go_wp2_with (at_builtin; refine wpList_append_rds rfl _ _ _ rfl w1.heap.size 58 j0 _ 2 24 Tryz.underlying54 gi gz0 gz1 gz2 rfl (by omega) _ z _ rfl HO.out _ _ _ _ [.int .i64 x, .string y] rfl rfl HSRC.out (by simp [Value.oneCell']) (by unfold maxLen; omega) (by omega) KA.out.size ?_; intro v4 w4 hown4 hg4; obtain ⟨A4, c4, rfl, ho4⟩ := OT.push hown4)
        go_roundw
        case rel => exact ⟨q + 1, z + 1, A4, c4, ms ++ [⟨x, y⟩], by omega, by omega, by go_num, rfl, Lib.hid ho4, hms2, KA.out.trans (below_own_s HO.out hg4 KA.out.size)⟩
        case measure => simp [intOf]; omega
    · obtain rfl : q = n := by omega
      rw [List.take_of_length_le (by rw [hlenT.out]; exact Nat.le_refl _)] at hms
      have HM := Lib.hid hom.out.tr
      have hze := hom.out.cap
      have hlm := Lib.hid hom.out.len
      have K2 := kp_trans K1 k2
      have HB2 := Lib.hid (fun u (hu : Below wr.heap.size wr u) => hb1.out u (kp_trans k2 hu))
      clear hom hsz2
      obtain ⟨wo, hwo⟩ : ∃ x, x = wr := ⟨wr, rfl⟩
      subst hwo
      go_wp2_with fail
      go_loopw [5] (fun o wr => ∃ j : Nat, j ≤ z ∧ o = .slice B j e ∧ Hid (endF (saysT ms) = endF (saysT (ms.take j))) ∧ Below wo.heap.size wo wr) (fun v _ => match v with | .slice _ k _ => k | _ => 0)
      case atStart => exact ⟨z, Nat.le_refl _, rfl, Lib.hid (by rw [List.take_of_length_le (by rw [hlm.out]; exact Nat.le_refl _)]), Below.refl _ _⟩
      case round =>
        obtain ⟨j, hj, rfl, hx, k3⟩ := hrel
        have hstop : (∃ j', j = j' + 1 ∧ ∃ hjl : j' < ms.length, stopF ms[j'].says = true) ∨ Hid (saysT (ms.take j) = endF (saysT ms)) := by
          cases j with
          | zero => exact .inr (Lib.hid (by rw [hx.out]; rfl))
          | succ j' =>
            have hjl : j' < ms.length := by rw [hlm.out]; omega
            have hst := says_next ms j' hjl
            cases hs : stopF ms[j'].says with
            | true => exact .inl ⟨j', rfl, hjl, hs⟩
            | false => exact .inr (Lib.hid (by rw [hx.out, hst, endF_last hs]))
        rcases hstop with ⟨j', rfl, hjl, hs⟩ | hend
        · obtain ⟨ad, rfl, _, hcc⟩ := HM.out.at_ hjl
          obtain ⟨c0, c1⟩ := hcc _ k3
          have hst := says_next ms j' hjl
          have hx2 : Hid (endF (saysT ms) = endF (saysT (ms.take j'))) := Lib.hid (by rw [hx.out, hst, endF_stop hs])
          have his := stop_is hs
          have hk6 : ms[j'].k = 6 := congrArg Prod.fst his
          have ht59 : ms[j'].t = ⟨#[59]⟩ := text_ext (congrArg Prod.snd his)
          rw [hk6] at c0
          rw [ht59] at c1
          have e1 : ((j' + 1 : Nat) : Int) - 1 = (j' : Int) := by omega
          clear hcc hst hx hs his hk6 ht59
          go_wp2_with fail
          go_roundw
          case rel => exact ⟨j', by omega, rfl, hx2, k3⟩
          case measure => simp
        · have HMJ := Lib.hid (HM.out.front hj)
          have hbody : Hid (saysT (ms.take j) = bodyF (saysT ts)) := Lib.hid (by rw [hend.out, hms.out]; rfl)
          have hj200 : j ≤ 1000 := by omega
          have K3 := kp_trans K2 k3
          have HB3 := Lib.hid (fun u (hu : Below wr.heap.size wr u) => HB2.out u (kp_trans k3 hu))
          have HM3 := Lib.hid (fun u (hu : Below wr.heap.size wr u) => HMJ.out.next (kp_trans k3 hu))
          have hguard : (∃ j', j = j' + 1 ∧ ∃ hjl : j' < ms.length, (ms[j'].k = 6 → ms[j'].t ≠ ⟨#[59]⟩)) ∨ j = 0 := by
            cases j with
            | zero => exact .inr rfl
            | succ j' =>
              have hjl : j' < ms.length := by rw [hlm.out]; omega
              refine .inl ⟨j', rfl, hjl, fun h6 h59 => ?_⟩
              have hst := says_next ms j' hjl
              have hs : stopF ms[j'].says = true := by
                have e : ms[j'].says = (6, [59]) := by
                  show (ms[j'].k, ms[j'].t.data.toList) = _
                  rw [h6, h59]
                rw [e]
                rfl
              have h1 := hend.out
              rw [hx.out, hst, endF_stop hs] at h1
              have h2 := congrArg List.length h1
              obtain ⟨st, h3, _⟩ := endF_split (saysT (ms.take j'))
              have h4 := congrArg List.length h3
              rw [List.length_append] at h2 h4
              simp at h2
              omega
          have HP2 : Hid (R = planF (saysT (ms.take j))) := Lib.hid (by rw [HP.out, hbody.out])
          clear hend hx hbody
          have hcut : j = 0 ∨ ∃ j', j = j' + 1 ∧ ∃ ad, B = some ad ∧ ∃ (a : Int) (x : ByteArray), (a = 6 → x ≠ ⟨#[59]⟩) ∧ wr.cell? (ad.add (j' * 2)) = some (.int .i64 a) ∧ wr.cell? ⟨(ad.add (j' * 2)).block, (ad.add (j' * 2)).off + 1, none⟩ = some (.string x) := by
            rcases hguard with ⟨j', rfl, hjl, hne⟩ | rfl
            · obtain ⟨ad, rfl, _, hcc⟩ := HM.out.at_ hjl
              obtain ⟨c0, c1⟩ := hcc _ k3
              exact .inr ⟨j', rfl, ad, rfl, _, _, hne, c0, c1⟩
            · exact .inl rfl
          clear hguard
          have HMS := Lib.hid (rfl : ms.take j = ms.take j)
          obtain ⟨mj, hmj⟩ : ∃ mj, Hid (ms.take j = mj) := ⟨_, HMS⟩
          rw [hmj.out] at HP2 HM3
          clear HMJ HMS hmj hms HP HM
          rcases hcut with rfl | ⟨j', rfl, ad, rfl, a, x, hne, c0, c1⟩
          · go_wp2_with fail
            refine (form_Get _).mono ?_
            rintro e u1 ⟨F1, nf1, cf1, fs1, rfl, hf1, hfs1, hnf1, kf1⟩
            have P1 : Below wr.heap.size wr u1 := kp_trans (Below.refl _ _) kf1
            have HST1 := Lib.hid (strs_ok B F1 0 nf1 e cf1 mj fs1 u1 (HM3.out _ P1) hf1 hj200 (by omega))
            unfold StrsTo at HST1
            go_wp2_with fail
            refine HST1.out.mono ?_
            rintro e' v1 ⟨S1, ns1, cs1, ss1, b1, rfl, hb1, hyes1, kv1⟩
            have Q1 := kp_trans P1 kv1
            rw [hfs1] at hb1
            clear HST1 hf1 hfs1 kf1
            cases b1 with
            | true =>
              obtain ⟨hxr, hss⟩ := hyes1 rfl
              have hfe := of_decide_eq_true hb1.symm
              obtain ⟨x, rfl⟩ := one_of (strs_form hfe hss)
              have hR : Hid (doing 1 x ⟨#[]⟩ = R) := Lib.hid (by rw [HP2.out, planF, ← hss, hfe]; rfl)
              obtain ⟨sd, rfl, hsd, g0⟩ := hxr.at_ (j := 0) (by simp)
              rw [show sd.add 0 = sd from rfl, List.getElem_cons_zero] at g0
              obtain rfl : ns1 = 1 := hxr.len.symm
              obtain ⟨d0, d1, d2, f0, f1, f2⟩ := cells3f (HB3.out v1 Q1)
              have KW := kp_trans K3 Q1
              clear hss hfe hb1 hyes1 hxr
              go_wp2_with fail
              refine bodyPost_ret (v := planV 1 x ⟨#[]⟩) ?_ rfl ⟨1, x, ⟨#[]⟩, rfl, hR.out, ((KW.setCell (Nat.le_refl _) _).setCell (Nat.le_refl _) _).setCell (Nat.le_refl _) _⟩
              · rw [results_cell1 rfl]
                unfold planV
                go_simp
            | false =>
            have hno1 : Hid (¬ (saysT mj).map emptyF = fGet) := Lib.hid (of_decide_eq_false hb1.symm)
            clear hb1 hyes1
            go_wp2_with fail
            refine (form_All _).mono ?_
            rintro e u2 ⟨F2, nf2, cf2, fs2, rfl, hf2, hfs2, hnf2, kf2⟩
            have P2 : Below wr.heap.size wr u2 := kp_trans Q1 kf2
            have HST2 := Lib.hid (strs_ok B F2 0 nf2 e cf2 mj fs2 u2 (HM3.out _ P2) hf2 hj200 (by omega))
            unfold StrsTo at HST2
            go_wp2_with fail
            refine HST2.out.mono ?_
            rintro e' v2 ⟨S2, ns2, cs2, ss2, b2, rfl, hb2, hyes2, kv2⟩
            have Q2 := kp_trans P2 kv2
            rw [hfs2] at hb2
            clear HST2 hf2 hfs2 kf2
            cases b2 with
            | true =>
              obtain ⟨hxr, hss⟩ := hyes2 rfl
              have hfe := of_decide_eq_true hb2.symm
              have hR : Hid (doing 2 ⟨#[]⟩ ⟨#[]⟩ = R) := Lib.hid (by rw [HP2.out, planF, hfe]; rfl)
              obtain ⟨d0, d1, d2, f0, f1, f2⟩ := cells3f (HB3.out v2 Q2)
              have KW := kp_trans K3 Q2
              clear hss hfe hb2 hyes2 hxr
              go_wp2_with fail
              refine bodyPost_ret (v := planV 2 ⟨#[]⟩ ⟨#[]⟩) ?_ rfl ⟨2, ⟨#[]⟩, ⟨#[]⟩, rfl, hR.out, ((KW.setCell (Nat.le_refl _) _).setCell (Nat.le_refl _) _).setCell (Nat.le_refl _) _⟩
              · rw [results_cell1 rfl]
                unfold planV
                go_simp
            | false =>
            have hno2 : Hid (¬ (saysT mj).map emptyF = fAll) := Lib.hid (of_decide_eq_false hb2.symm)
            clear hb2 hyes2
            go_wp2_with fail
            refine (form_Put _).mono ?_
            rintro e u3 ⟨F3, nf3, cf3, fs3, rfl, hf3, hfs3, hnf3, kf3⟩
            have P3 : Below wr.heap.size wr u3 := kp_trans Q2 kf3
            have HST3 := Lib.hid (strs_ok B F3 0 nf3 e cf3 mj fs3 u3 (HM3.out _ P3) hf3 hj200 (by omega))
            unfold StrsTo at HST3
            go_wp2_with fail
            refine HST3.out.mono ?_
            rintro e' v3 ⟨S3, ns3, cs3, ss3, b3, rfl, hb3, hyes3, kv3⟩
            have Q3 := kp_trans P3 kv3
            rw [hfs3] at hb3
            clear HST3 hf3 hfs3 kf3
            cases b3 with
            | true =>
              obtain ⟨hxr, hss⟩ := hyes3 rfl
              have hfe := of_decide_eq_true hb3.symm
              obtain ⟨x, y, rfl⟩ := two_of (strs_form hfe hss)
              have hR : Hid (doing 3 x y = R) := Lib.hid (by rw [HP2.out, planF, ← hss, hfe]; rfl)
              obtain ⟨sd, rfl, hsd, g0⟩ := hxr.at_ (j := 0) (by simp)
              obtain ⟨sd', e'', _, g1⟩ := hxr.at_ (j := 1) (by simp)
              injection e'' with e''
              subst e''
              rw [show sd.add 0 = sd from rfl, List.getElem_cons_zero] at g0
              rw [show sd.add 1 = ⟨sd.block, sd.off + 1, none⟩ from rfl, List.getElem_cons_succ, List.getElem_cons_zero] at g1
              obtain rfl : ns3 = 2 := hxr.len.symm
              obtain ⟨d0, d1, d2, f0, f1, f2⟩ := cells3f (HB3.out v3 Q3)
              have KW := kp_trans K3 Q3
              clear hss hfe hb3 hyes3 hxr
              go_wp2_with fail
              go_region
              all_goals
                go_wp2_with fail
                refine bodyPost_ret (v := planV 3 x y) ?_ rfl ⟨3, x, y, rfl, hR.out, ?_⟩
                · rw [results_cell1 rfl]
                  unfold planV
                  go_simp
                · exact ((KW.drew.setCell (Nat.le_refl _) _).setCell (Nat.le_refl _) _).setCell (Nat.le_refl _) _
            | false =>
            have hno3 : Hid (¬ (saysT mj).map emptyF = fPut) := Lib.hid (of_decide_eq_false hb3.symm)
            clear hb3 hyes3
            go_wp2_with fail
            refine (form_Chg _).mono ?_
            rintro e u4 ⟨F4, nf4, cf4, fs4, rfl, hf4, hfs4, hnf4, kf4⟩
            have P4 : Below wr.heap.size wr u4 := kp_trans Q3 kf4
            have HST4 := Lib.hid (strs_ok B F4 0 nf4 e cf4 mj fs4 u4 (HM3.out _ P4) hf4 hj200 (by omega))
            unfold StrsTo at HST4
            go_wp2_with fail
            refine HST4.out.mono ?_
            rintro e' v4 ⟨S4, ns4, cs4, ss4, b4, rfl, hb4, hyes4, kv4⟩
            have Q4 := kp_trans P4 kv4
            rw [hfs4] at hb4
            clear HST4 hf4 hfs4 kf4
            cases b4 with
            | true =>
              obtain ⟨hxr, hss⟩ := hyes4 rfl
              have hfe := of_decide_eq_true hb4.symm
              obtain ⟨x, y, rfl⟩ := two_of (strs_form hfe hss)
              have hR : Hid (doing 4 y x = R) := Lib.hid (by rw [HP2.out, planF, ← hss, hfe]; rfl)
              obtain ⟨sd, rfl, hsd, g0⟩ := hxr.at_ (j := 0) (by simp)
              obtain ⟨sd', e'', _, g1⟩ := hxr.at_ (j := 1) (by simp)
              injection e'' with e''
              subst e''
              rw [show sd.add 0 = sd from rfl, List.getElem_cons_zero] at g0
              rw [show sd.add 1 = ⟨sd.block, sd.off + 1, none⟩ from rfl, List.getElem_cons_succ, List.getElem_cons_zero] at g1
              obtain rfl : ns4 = 2 := hxr.len.symm
              obtain ⟨d0, d1, d2, f0, f1, f2⟩ := cells3f (HB3.out v4 Q4)
              have KW := kp_trans K3 Q4
              clear hss hfe hb4 hyes4 hxr
              go_wp2_with fail
              go_region
              all_goals
                go_wp2_with fail
                refine bodyPost_ret (v := planV 4 y x) ?_ rfl ⟨4, y, x, rfl, hR.out, ?_⟩
                · rw [results_cell1 rfl]
                  unfold planV
                  go_simp
                · exact ((KW.drew.setCell (Nat.le_refl _) _).setCell (Nat.le_refl _) _).setCell (Nat.le_refl _) _
            | false =>
            have hno4 : Hid (¬ (saysT mj).map emptyF = fChg) := Lib.hid (of_decide_eq_false hb4.symm)
            clear hb4 hyes4
            go_wp2_with fail
            refine (form_Del _).mono ?_
            rintro e u5 ⟨F5, nf5, cf5, fs5, rfl, hf5, hfs5, hnf5, kf5⟩
            have P5 : Below wr.heap.size wr u5 := kp_trans Q4 kf5
            have HST5 := Lib.hid (strs_ok B F5 0 nf5 e cf5 mj fs5 u5 (HM3.out _ P5) hf5 hj200 (by omega))
            unfold StrsTo at HST5
            go_wp2_with fail
            refine HST5.out.mono ?_
            rintro e' v5 ⟨S5, ns5, cs5, ss5, b5, rfl, hb5, hyes5, kv5⟩
            have Q5 := kp_trans P5 kv5
            rw [hfs5] at hb5
            clear HST5 hf5 hfs5 kf5
            cases b5 with
            | true =>
              obtain ⟨hxr, hss⟩ := hyes5 rfl
              have hfe := of_decide_eq_true hb5.symm
              obtain ⟨x, rfl⟩ := one_of (strs_form hfe hss)
              have hR : Hid (doing 5 x ⟨#[]⟩ = R) := Lib.hid (by rw [HP2.out, planF, ← hss, hfe]; rfl)
              obtain ⟨sd, rfl, hsd, g0⟩ := hxr.at_ (j := 0) (by simp)
              rw [show sd.add 0 = sd from rfl, List.getElem_cons_zero] at g0
              obtain rfl : ns5 = 1 := hxr.len.symm
              obtain ⟨d0, d1, d2, f0, f1, f2⟩ := cells3f (HB3.out v5 Q5)
              have KW := kp_trans K3 Q5
              clear hss hfe hb5 hyes5 hxr
              go_wp2_with fail
              refine bodyPost_ret (v := planV 5 x ⟨#[]⟩) ?_ rfl ⟨5, x, ⟨#[]⟩, rfl, hR.out, ((KW.setCell (Nat.le_refl _) _).setCell (Nat.le_refl _) _).setCell (Nat.le_refl _) _⟩
              · rw [results_cell1 rfl]
                unfold planV
                go_simp
            | false =>
            have hno5 : Hid (¬ (saysT mj).map emptyF = fDel) := Lib.hid (of_decide_eq_false hb5.symm)
            clear hb5 hyes5
            obtain ⟨d0, d1, d2, f0, f1, f2⟩ := cells3f (HB3.out v5 Q5)
            have KW := kp_trans K3 Q5
            have hR : Hid (doing 0 ⟨#[]⟩ ⟨#[]⟩ = R) := Lib.hid (by
              rw [HP2.out, planF]
              unfold pickF
              rw [if_neg hno1.out, if_neg hno2.out, if_neg hno3.out, if_neg hno4.out, if_neg hno5.out]
              rfl)
            go_wp2_with fail
            refine bodyPost_ret (v := planV 0 ⟨#[]⟩ ⟨#[]⟩) ?_ rfl ⟨0, ⟨#[]⟩, ⟨#[]⟩, rfl, hR.out, ((KW.setCell (Nat.le_refl _) _).setCell (Nat.le_refl _) _).setCell (Nat.le_refl _) _⟩
            rw [results_cell1 rfl]
            unfold planV
            go_simp
          · have e1 : ((j' + 1 : Nat) : Int) - 1 = (j' : Int) := by omega
            by_cases h6 : a = 6
            · subst h6
              have h59 : (x.toList == [59]) = false := by
                simp only [beq_eq_false_iff_ne, ne_eq]
                exact fun h => hne rfl (bytes_ext (by rw [h, ByteArray.toList_eq]))
              clear hne
              go_wp2_with fail
              refine (form_Get _).mono ?_
              rintro e u1 ⟨F1, nf1, cf1, fs1, rfl, hf1, hfs1, hnf1, kf1⟩
              have P1 : Below wr.heap.size wr u1 := kp_trans (Below.refl _ _) kf1
              have HST1 := Lib.hid (strs_ok (some ad) F1 (j' + 1) nf1 e cf1 mj fs1 u1 (HM3.out _ P1) hf1 hj200 (by omega))
              unfold StrsTo at HST1
              go_wp2_with fail
              refine HST1.out.mono ?_
              rintro e' v1 ⟨S1, ns1, cs1, ss1, b1, rfl, hb1, hyes1, kv1⟩
              have Q1 := kp_trans P1 kv1
              rw [hfs1] at hb1
              clear HST1 hf1 hfs1 kf1
              cases b1 with
              | true =>
                obtain ⟨hxr, hss⟩ := hyes1 rfl
                have hfe := of_decide_eq_true hb1.symm
                obtain ⟨x, rfl⟩ := one_of (strs_form hfe hss)
                have hR : Hid (doing 1 x ⟨#[]⟩ = R) := Lib.hid (by rw [HP2.out, planF, ← hss, hfe]; rfl)
                obtain ⟨sd, rfl, hsd, g0⟩ := hxr.at_ (j := 0) (by simp)
                rw [show sd.add 0 = sd from rfl, List.getElem_cons_zero] at g0
                obtain rfl : ns1 = 1 := hxr.len.symm
                obtain ⟨d0, d1, d2, f0, f1, f2⟩ := cells3f (HB3.out v1 Q1)
                have KW := kp_trans K3 Q1
                clear hss hfe hb1 hyes1 hxr
                go_wp2_with fail
                refine bodyPost_ret (v := planV 1 x ⟨#[]⟩) ?_ rfl ⟨1, x, ⟨#[]⟩, rfl, hR.out, ((KW.setCell (Nat.le_refl _) _).setCell (Nat.le_refl _) _).setCell (Nat.le_refl _) _⟩
                · rw [results_cell1 rfl]
                  unfold planV
                  go_simp
              | false =>
              have hno1 : Hid (¬ (saysT mj).map emptyF = fGet) := Lib.hid (of_decide_eq_false hb1.symm)
              clear hb1 hyes1
              go_wp2_with fail
              refine (form_All _).mono ?_
              rintro e u2 ⟨F2, nf2, cf2, fs2, rfl, hf2, hfs2, hnf2, kf2⟩
              have P2 : Below wr.heap.size wr u2 := kp_trans Q1 kf2
              have HST2 := Lib.hid (strs_ok (some ad) F2 (j' + 1) nf2 e cf2 mj fs2 u2 (HM3.out _ P2) hf2 hj200 (by omega))
              unfold StrsTo at HST2
              go_wp2_with fail
              refine HST2.out.mono ?_
              rintro e' v2 ⟨S2, ns2, cs2, ss2, b2, rfl, hb2, hyes2, kv2⟩
              have Q2 := kp_trans P2 kv2
              rw [hfs2] at hb2
              clear HST2 hf2 hfs2 kf2
              cases b2 with
              | true =>
                obtain ⟨hxr, hss⟩ := hyes2 rfl
                have hfe := of_decide_eq_true hb2.symm
                have hR : Hid (doing 2 ⟨#[]⟩ ⟨#[]⟩ = R) := Lib.hid (by rw [HP2.out, planF, hfe]; rfl)
                obtain ⟨d0, d1, d2, f0, f1, f2⟩ := cells3f (HB3.out v2 Q2)
                have KW := kp_trans K3 Q2
                clear hss hfe hb2 hyes2 hxr
                go_wp2_with fail
                refine bodyPost_ret (v := planV 2 ⟨#[]⟩ ⟨#[]⟩) ?_ rfl ⟨2, ⟨#[]⟩, ⟨#[]⟩, rfl, hR.out, ((KW.setCell (Nat.le_refl _) _).setCell (Nat.le_refl _) _).setCell (Nat.le_refl _) _⟩
                · rw [results_cell1 rfl]
                  unfold planV
                  go_simp
              | false =>
              have hno2 : Hid (¬ (saysT mj).map emptyF = fAll) := Lib.hid (of_decide_eq_false hb2.symm)
              clear hb2 hyes2
              go_wp2_with fail
              refine (form_Put _).mono ?_
              rintro e u3 ⟨F3, nf3, cf3, fs3, rfl, hf3, hfs3, hnf3, kf3⟩
              have P3 : Below wr.heap.size wr u3 := kp_trans Q2 kf3
              have HST3 := Lib.hid (strs_ok (some ad) F3 (j' + 1) nf3 e cf3 mj fs3 u3 (HM3.out _ P3) hf3 hj200 (by omega))
              unfold StrsTo at HST3
              go_wp2_with fail
              refine HST3.out.mono ?_
              rintro e' v3 ⟨S3, ns3, cs3, ss3, b3, rfl, hb3, hyes3, kv3⟩
              have Q3 := kp_trans P3 kv3
              rw [hfs3] at hb3
              clear HST3 hf3 hfs3 kf3
              cases b3 with
              | true =>
                obtain ⟨hxr, hss⟩ := hyes3 rfl
                have hfe := of_decide_eq_true hb3.symm
                obtain ⟨x, y, rfl⟩ := two_of (strs_form hfe hss)
                have hR : Hid (doing 3 x y = R) := Lib.hid (by rw [HP2.out, planF, ← hss, hfe]; rfl)
                obtain ⟨sd, rfl, hsd, g0⟩ := hxr.at_ (j := 0) (by simp)
                obtain ⟨sd', e'', _, g1⟩ := hxr.at_ (j := 1) (by simp)
                injection e'' with e''
                subst e''
                rw [show sd.add 0 = sd from rfl, List.getElem_cons_zero] at g0
                rw [show sd.add 1 = ⟨sd.block, sd.off + 1, none⟩ from rfl, List.getElem_cons_succ, List.getElem_cons_zero] at g1
                obtain rfl : ns3 = 2 := hxr.len.symm
                obtain ⟨d0, d1, d2, f0, f1, f2⟩ := cells3f (HB3.out v3 Q3)
                have KW := kp_trans K3 Q3
                clear hss hfe hb3 hyes3 hxr
                go_wp2_with fail
                go_region
                all_goals
                  go_wp2_with fail
                  refine bodyPost_ret (v := planV 3 x y) ?_ rfl ⟨3, x, y, rfl, hR.out, ?_⟩
                  · rw [results_cell1 rfl]
                    unfold planV
                    go_simp
                  · exact ((KW.drew.setCell (Nat.le_refl _) _).setCell (Nat.le_refl _) _).setCell (Nat.le_refl _) _
              | false =>
              have hno3 : Hid (¬ (saysT mj).map emptyF = fPut) := Lib.hid (of_decide_eq_false hb3.symm)
              clear hb3 hyes3
              go_wp2_with fail
              refine (form_Chg _).mono ?_
              rintro e u4 ⟨F4, nf4, cf4, fs4, rfl, hf4, hfs4, hnf4, kf4⟩
              have P4 : Below wr.heap.size wr u4 := kp_trans Q3 kf4
              have HST4 := Lib.hid (strs_ok (some ad) F4 (j' + 1) nf4 e cf4 mj fs4 u4 (HM3.out _ P4) hf4 hj200 (by omega))
              unfold StrsTo at HST4
              go_wp2_with fail
              refine HST4.out.mono ?_
              rintro e' v4 ⟨S4, ns4, cs4, ss4, b4, rfl, hb4, hyes4, kv4⟩
              have Q4 := kp_trans P4 kv4
              rw [hfs4] at hb4
              clear HST4 hf4 hfs4 kf4
              cases b4 with
              | true =>
                obtain ⟨hxr, hss⟩ := hyes4 rfl
                have hfe := of_decide_eq_true hb4.symm
                obtain ⟨x, y, rfl⟩ := two_of (strs_form hfe hss)
                have hR : Hid (doing 4 y x = R) := Lib.hid (by rw [HP2.out, planF, ← hss, hfe]; rfl)
                obtain ⟨sd, rfl, hsd, g0⟩ := hxr.at_ (j := 0) (by simp)
                obtain ⟨sd', e'', _, g1⟩ := hxr.at_ (j := 1) (by simp)
                injection e'' with e''
                subst e''
                rw [show sd.add 0 = sd from rfl, List.getElem_cons_zero] at g0
                rw [show sd.add 1 = ⟨sd.block, sd.off + 1, none⟩ from rfl, List.getElem_cons_succ, List.getElem_cons_zero] at g1
                obtain rfl : ns4 = 2 := hxr.len.symm
                obtain ⟨d0, d1, d2, f0, f1, f2⟩ := cells3f (HB3.out v4 Q4)
                have KW := kp_trans K3 Q4
                clear hss hfe hb4 hyes4 hxr
                go_wp2_with fail
                go_region
                all_goals
                  go_wp2_with fail
                  refine bodyPost_ret (v := planV 4 y x) ?_ rfl ⟨4, y, x, rfl, hR.out, ?_⟩
                  · rw [results_cell1 rfl]
                    unfold planV
                    go_simp
                  · exact ((KW.drew.setCell (Nat.le_refl _) _).setCell (Nat.le_refl _) _).setCell (Nat.le_refl _) _
              | false =>
              have hno4 : Hid (¬ (saysT mj).map emptyF = fChg) := Lib.hid (of_decide_eq_false hb4.symm)
              clear hb4 hyes4
              go_wp2_with fail
              refine (form_Del _).mono ?_
              rintro e u5 ⟨F5, nf5, cf5, fs5, rfl, hf5, hfs5, hnf5, kf5⟩
              have P5 : Below wr.heap.size wr u5 := kp_trans Q4 kf5
              have HST5 := Lib.hid (strs_ok (some ad) F5 (j' + 1) nf5 e cf5 mj fs5 u5 (HM3.out _ P5) hf5 hj200 (by omega))
              unfold StrsTo at HST5
              go_wp2_with fail
              refine HST5.out.mono ?_
              rintro e' v5 ⟨S5, ns5, cs5, ss5, b5, rfl, hb5, hyes5, kv5⟩
              have Q5 := kp_trans P5 kv5
              rw [hfs5] at hb5
              clear HST5 hf5 hfs5 kf5
              cases b5 with
              | true =>
                obtain ⟨hxr, hss⟩ := hyes5 rfl
                have hfe := of_decide_eq_true hb5.symm
                obtain ⟨x, rfl⟩ := one_of (strs_form hfe hss)
                have hR : Hid (doing 5 x ⟨#[]⟩ = R) := Lib.hid (by rw [HP2.out, planF, ← hss, hfe]; rfl)
                obtain ⟨sd, rfl, hsd, g0⟩ := hxr.at_ (j := 0) (by simp)
                rw [show sd.add 0 = sd from rfl, List.getElem_cons_zero] at g0
                obtain rfl : ns5 = 1 := hxr.len.symm
                obtain ⟨d0, d1, d2, f0, f1, f2⟩ := cells3f (HB3.out v5 Q5)
                have KW := kp_trans K3 Q5
                clear hss hfe hb5 hyes5 hxr
                go_wp2_with fail
                refine bodyPost_ret (v := planV 5 x ⟨#[]⟩) ?_ rfl ⟨5, x, ⟨#[]⟩, rfl, hR.out, ((KW.setCell (Nat.le_refl _) _).setCell (Nat.le_refl _) _).setCell (Nat.le_refl _) _⟩
                · rw [results_cell1 rfl]
                  unfold planV
                  go_simp
              | false =>
              have hno5 : Hid (¬ (saysT mj).map emptyF = fDel) := Lib.hid (of_decide_eq_false hb5.symm)
              clear hb5 hyes5
              obtain ⟨d0, d1, d2, f0, f1, f2⟩ := cells3f (HB3.out v5 Q5)
              have KW := kp_trans K3 Q5
              have hR : Hid (doing 0 ⟨#[]⟩ ⟨#[]⟩ = R) := Lib.hid (by
                rw [HP2.out, planF]
                unfold pickF
                rw [if_neg hno1.out, if_neg hno2.out, if_neg hno3.out, if_neg hno4.out, if_neg hno5.out]
                rfl)
              go_wp2_with fail
              refine bodyPost_ret (v := planV 0 ⟨#[]⟩ ⟨#[]⟩) ?_ rfl ⟨0, ⟨#[]⟩, ⟨#[]⟩, rfl, hR.out, ((KW.setCell (Nat.le_refl _) _).setCell (Nat.le_refl _) _).setCell (Nat.le_refl _) _⟩
              rw [results_cell1 rfl]
              unfold planV
              go_simp
            · have n6 : (a == 6) = false := by simpa using h6
              clear hne h6
              go_wp2_with fail
              refine (form_Get _).mono ?_
              rintro e u1 ⟨F1, nf1, cf1, fs1, rfl, hf1, hfs1, hnf1, kf1⟩
              have P1 : Below wr.heap.size wr u1 := kp_trans (Below.refl _ _) kf1
              have HST1 := Lib.hid (strs_ok (some ad) F1 (j' + 1) nf1 e cf1 mj fs1 u1 (HM3.out _ P1) hf1 hj200 (by omega))
              unfold StrsTo at HST1
              go_wp2_with fail
              refine HST1.out.mono ?_
              rintro e' v1 ⟨S1, ns1, cs1, ss1, b1, rfl, hb1, hyes1, kv1⟩
              have Q1 := kp_trans P1 kv1
              rw [hfs1] at hb1
              clear HST1 hf1 hfs1 kf1
              cases b1 with
              | true =>
                obtain ⟨hxr, hss⟩ := hyes1 rfl
                have hfe := of_decide_eq_true hb1.symm
                obtain ⟨x, rfl⟩ := one_of (strs_form hfe hss)
                have hR : Hid (doing 1 x ⟨#[]⟩ = R) := Lib.hid (by rw [HP2.out, planF, ← hss, hfe]; rfl)
                obtain ⟨sd, rfl, hsd, g0⟩ := hxr.at_ (j := 0) (by simp)
                rw [show sd.add 0 = sd from rfl, List.getElem_cons_zero] at g0
                obtain rfl : ns1 = 1 := hxr.len.symm
                obtain ⟨d0, d1, d2, f0, f1, f2⟩ := cells3f (HB3.out v1 Q1)
                have KW := kp_trans K3 Q1
                clear hss hfe hb1 hyes1 hxr
                go_wp2_with fail
                refine bodyPost_ret (v := planV 1 x ⟨#[]⟩) ?_ rfl ⟨1, x, ⟨#[]⟩, rfl, hR.out, ((KW.setCell (Nat.le_refl _) _).setCell (Nat.le_refl _) _).setCell (Nat.le_refl _) _⟩
                · rw [results_cell1 rfl]
                  unfold planV
                  go_simp
              | false =>
              have hno1 : Hid (¬ (saysT mj).map emptyF = fGet) := Lib.hid (of_decide_eq_false hb1.symm)
              clear hb1 hyes1
              go_wp2_with fail
              refine (form_All _).mono ?_
              rintro e u2 ⟨F2, nf2, cf2, fs2, rfl, hf2, hfs2, hnf2, kf2⟩
              have P2 : Below wr.heap.size wr u2 := kp_trans Q1 kf2
              have HST2 := Lib.hid (strs_ok (some ad) F2 (j' + 1) nf2 e cf2 mj fs2 u2 (HM3.out _ P2) hf2 hj200 (by omega))
              unfold StrsTo at HST2
              go_wp2_with fail
              refine HST2.out.mono ?_
              rintro e' v2 ⟨S2, ns2, cs2, ss2, b2, rfl, hb2, hyes2, kv2⟩
              have Q2 := kp_trans P2 kv2
              rw [hfs2] at hb2
              clear HST2 hf2 hfs2 kf2
              cases b2 with
              | true =>
                obtain ⟨hxr, hss⟩ := hyes2 rfl
                have hfe := of_decide_eq_true hb2.symm
                have hR : Hid (doing 2 ⟨#[]⟩ ⟨#[]⟩ = R) := Lib.hid (by rw [HP2.out, planF, hfe]; rfl)
                obtain ⟨d0, d1, d2, f0, f1, f2⟩ := cells3f (HB3.out v2 Q2)
                have KW := kp_trans K3 Q2
                clear hss hfe hb2 hyes2 hxr
                go_wp2_with fail
                refine bodyPost_ret (v := planV 2 ⟨#[]⟩ ⟨#[]⟩) ?_ rfl ⟨2, ⟨#[]⟩, ⟨#[]⟩, rfl, hR.out, ((KW.setCell (Nat.le_refl _) _).setCell (Nat.le_refl _) _).setCell (Nat.le_refl _) _⟩
                · rw [results_cell1 rfl]
                  unfold planV
                  go_simp
              | false =>
              have hno2 : Hid (¬ (saysT mj).map emptyF = fAll) := Lib.hid (of_decide_eq_false hb2.symm)
              clear hb2 hyes2
              go_wp2_with fail
              refine (form_Put _).mono ?_
              rintro e u3 ⟨F3, nf3, cf3, fs3, rfl, hf3, hfs3, hnf3, kf3⟩
              have P3 : Below wr.heap.size wr u3 := kp_trans Q2 kf3
              have HST3 := Lib.hid (strs_ok (some ad) F3 (j' + 1) nf3 e cf3 mj fs3 u3 (HM3.out _ P3) hf3 hj200 (by omega))
              unfold StrsTo at HST3
              go_wp2_with fail
              refine HST3.out.mono ?_
              rintro e' v3 ⟨S3, ns3, cs3, ss3, b3, rfl, hb3, hyes3, kv3⟩
              have Q3 := kp_trans P3 kv3
              rw [hfs3] at hb3
              clear HST3 hf3 hfs3 kf3
              cases b3 with
              | true =>
                obtain ⟨hxr, hss⟩ := hyes3 rfl
                have hfe := of_decide_eq_true hb3.symm
                obtain ⟨x, y, rfl⟩ := two_of (strs_form hfe hss)
                have hR : Hid (doing 3 x y = R) := Lib.hid (by rw [HP2.out, planF, ← hss, hfe]; rfl)
                obtain ⟨sd, rfl, hsd, g0⟩ := hxr.at_ (j := 0) (by simp)
                obtain ⟨sd', e'', _, g1⟩ := hxr.at_ (j := 1) (by simp)
                injection e'' with e''
                subst e''
                rw [show sd.add 0 = sd from rfl, List.getElem_cons_zero] at g0
                rw [show sd.add 1 = ⟨sd.block, sd.off + 1, none⟩ from rfl, List.getElem_cons_succ, List.getElem_cons_zero] at g1
                obtain rfl : ns3 = 2 := hxr.len.symm
                obtain ⟨d0, d1, d2, f0, f1, f2⟩ := cells3f (HB3.out v3 Q3)
                have KW := kp_trans K3 Q3
                clear hss hfe hb3 hyes3 hxr
                go_wp2_with fail
                go_region
                all_goals
                  go_wp2_with fail
                  refine bodyPost_ret (v := planV 3 x y) ?_ rfl ⟨3, x, y, rfl, hR.out, ?_⟩
                  · rw [results_cell1 rfl]
                    unfold planV
                    go_simp
                  · exact ((KW.drew.setCell (Nat.le_refl _) _).setCell (Nat.le_refl _) _).setCell (Nat.le_refl _) _
              | false =>
              have hno3 : Hid (¬ (saysT mj).map emptyF = fPut) := Lib.hid (of_decide_eq_false hb3.symm)
              clear hb3 hyes3
              go_wp2_with fail
              refine (form_Chg _).mono ?_
              rintro e u4 ⟨F4, nf4, cf4, fs4, rfl, hf4, hfs4, hnf4, kf4⟩
              have P4 : Below wr.heap.size wr u4 := kp_trans Q3 kf4
              have HST4 := Lib.hid (strs_ok (some ad) F4 (j' + 1) nf4 e cf4 mj fs4 u4 (HM3.out _ P4) hf4 hj200 (by omega))
              unfold StrsTo at HST4
              go_wp2_with fail
              refine HST4.out.mono ?_
              rintro e' v4 ⟨S4, ns4, cs4, ss4, b4, rfl, hb4, hyes4, kv4⟩
              have Q4 := kp_trans P4 kv4
              rw [hfs4] at hb4
              clear HST4 hf4 hfs4 kf4
              cases b4 with
              | true =>
                obtain ⟨hxr, hss⟩ := hyes4 rfl
                have hfe := of_decide_eq_true hb4.symm
                obtain ⟨x, y, rfl⟩ := two_of (strs_form hfe hss)
                have hR : Hid (doing 4 y x = R) := Lib.hid (by rw [HP2.out, planF, ← hss, hfe]; rfl)
                obtain ⟨sd, rfl, hsd, g0⟩ := hxr.at_ (j := 0) (by simp)
                obtain ⟨sd', e'', _, g1⟩ := hxr.at_ (j := 1) (by simp)
                injection e'' with e''
                subst e''
                rw [show sd.add 0 = sd from rfl, List.getElem_cons_zero] at g0
                rw [show sd.add 1 = ⟨sd.block, sd.off + 1, none⟩ from rfl, List.getElem_cons_succ, List.getElem_cons_zero] at g1
                obtain rfl : ns4 = 2 := hxr.len.symm
                obtain ⟨d0, d1, d2, f0, f1, f2⟩ := cells3f (HB3.out v4 Q4)
                have KW := kp_trans K3 Q4
                clear hss hfe hb4 hyes4 hxr
                go_wp2_with fail
                go_region
                all_goals
                  go_wp2_with fail
                  refine bodyPost_ret (v := planV 4 y x) ?_ rfl ⟨4, y, x, rfl, hR.out, ?_⟩
                  · rw [results_cell1 rfl]
                    unfold planV
                    go_simp
                  · exact ((KW.drew.setCell (Nat.le_refl _) _).setCell (Nat.le_refl _) _).setCell (Nat.le_refl _) _
              | false =>
              have hno4 : Hid (¬ (saysT mj).map emptyF = fChg) := Lib.hid (of_decide_eq_false hb4.symm)
              clear hb4 hyes4
              go_wp2_with fail
              refine (form_Del _).mono ?_
              rintro e u5 ⟨F5, nf5, cf5, fs5, rfl, hf5, hfs5, hnf5, kf5⟩
              have P5 : Below wr.heap.size wr u5 := kp_trans Q4 kf5
              have HST5 := Lib.hid (strs_ok (some ad) F5 (j' + 1) nf5 e cf5 mj fs5 u5 (HM3.out _ P5) hf5 hj200 (by omega))
              unfold StrsTo at HST5
              go_wp2_with fail
              refine HST5.out.mono ?_
              rintro e' v5 ⟨S5, ns5, cs5, ss5, b5, rfl, hb5, hyes5, kv5⟩
              have Q5 := kp_trans P5 kv5
              rw [hfs5] at hb5
              clear HST5 hf5 hfs5 kf5
              cases b5 with
              | true =>
                obtain ⟨hxr, hss⟩ := hyes5 rfl
                have hfe := of_decide_eq_true hb5.symm
                obtain ⟨x, rfl⟩ := one_of (strs_form hfe hss)
                have hR : Hid (doing 5 x ⟨#[]⟩ = R) := Lib.hid (by rw [HP2.out, planF, ← hss, hfe]; rfl)
                obtain ⟨sd, rfl, hsd, g0⟩ := hxr.at_ (j := 0) (by simp)
                rw [show sd.add 0 = sd from rfl, List.getElem_cons_zero] at g0
                obtain rfl : ns5 = 1 := hxr.len.symm
                obtain ⟨d0, d1, d2, f0, f1, f2⟩ := cells3f (HB3.out v5 Q5)
                have KW := kp_trans K3 Q5
                clear hss hfe hb5 hyes5 hxr
                go_wp2_with fail
                refine bodyPost_ret (v := planV 5 x ⟨#[]⟩) ?_ rfl ⟨5, x, ⟨#[]⟩, rfl, hR.out, ((KW.setCell (Nat.le_refl _) _).setCell (Nat.le_refl _) _).setCell (Nat.le_refl _) _⟩
                · rw [results_cell1 rfl]
                  unfold planV
                  go_simp
              | false =>
              have hno5 : Hid (¬ (saysT mj).map emptyF = fDel) := Lib.hid (of_decide_eq_false hb5.symm)
              clear hb5 hyes5
              obtain ⟨d0, d1, d2, f0, f1, f2⟩ := cells3f (HB3.out v5 Q5)
              have KW := kp_trans K3 Q5
              have hR : Hid (doing 0 ⟨#[]⟩ ⟨#[]⟩ = R) := Lib.hid (by
                rw [HP2.out, planF]
                unfold pickF
                rw [if_neg hno1.out, if_neg hno2.out, if_neg hno3.out, if_neg hno4.out, if_neg hno5.out]
                rfl)
              go_wp2_with fail
              refine bodyPost_ret (v := planV 0 ⟨#[]⟩ ⟨#[]⟩) ?_ rfl ⟨0, ⟨#[]⟩, ⟨#[]⟩, rfl, hR.out, ((KW.setCell (Nat.le_refl _) _).setCell (Nat.le_refl _) _).setCell (Nat.le_refl _) _⟩
              rw [results_cell1 rfl]
              unfold planV
              go_simp
end
end Go.Proofs.YtaimmdhjfccnkaaGreatDoor
