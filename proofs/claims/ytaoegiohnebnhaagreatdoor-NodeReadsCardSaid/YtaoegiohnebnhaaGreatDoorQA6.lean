/-
  Contracts and plain functions that the law stands on, part 6 of 16.
-/
import Derived.Test.YtaoegiohnebnhaaGreatDoorQA5
import Derived.Laws.StructEq
import Derived.Test.YtaoegiohnebnhaaGreatDoorShelf4
import Derived.OneCell
import Derived.Laws.EntriesVeiled
import Derived.KernelRfl
namespace Go.Proofs.YtaoegiohnebnhaaGreatDoor
/- The document's layer 6, and the law's own helpers: pairs, Table, Same, Texts, large: contracts. -/
section
open Go.RowKit
set_option maxRecDepth 100000

theorem take_same6 {α : Type} [DecidableEq α] {xs ys : List α} {k : Nat} (hx : k < xs.length) (hy : k < ys.length) (h : xs.take k = ys.take k) (he : xs[k] = ys[k]) : xs.take (k + 1) = ys.take (k + 1) := by
  rw [List.take_succ_eq_append_getElem hx, List.take_succ_eq_append_getElem hy, h, he]

set_option maxHeartbeats 2000000 in
theorem texts6_ok (A A' : Option Addr) (n n' c c' : Nat) (xs ys : List ByteArray) (w : World) (hx : XR w A n xs) (hy : XR w A' n' ys) (hn : n ≤ 1000000) (hn' : n' ≤ 1000000) (b : Bool) (hb : Hid (decide (xs = ys) = b)) :
    Calls Tryz.prog 29 #[.slice A n c, .slice A' n' c'] w fun e w' => e = .returned (.bool b) ∧ ∃ m, w' = w.drewN m := by
  by_cases hll : n = n'
  · subst hll
    have hlx := Lib.hid hx.len
    have hly := Lib.hid hy.len
    go_enter Tryz.func29, Tryz.ntmps29
    go_wp2
    go_loopw [5] (fun i wr => ∃ k m : Nat, k ≤ n ∧ i = .int .i64 k ∧ Hid (xs.take k = ys.take k) ∧ wr = w.drewN m) (fun i _ => n - (intOf i).toNat)
    case atStart => exact ⟨0, 0, Nat.zero_le _, rfl, Lib.hid (by simp), rfl⟩
    case round =>
      obtain ⟨k, m, hk, rfl, he, hw⟩ := hrel
      have hx' : XR wr A n xs := by subst hw; exact hx.next (kp_drewN _ _)
      have hy' : XR wr A' n ys := by subst hw; exact hy.next (kp_drewN _ _)
      have HW := Lib.hid hw
      clear hw hx hy
      by_cases hlt : k < n
      · have hkx : k < xs.length := by rw [hlx.out]; omega
        have hky : k < ys.length := by rw [hly.out]; omega
        obtain ⟨ad, rfl, _, c0⟩ := hx'.at_ hkx
        obtain ⟨ad', rfl, _, d0⟩ := hy'.at_ hky
        clear hx' hy'
        by_cases hee : xs[k] = ys[k]
        · have hsn : Hid (xs.take (k + 1) = ys.take (k + 1)) := Lib.hid (take_same6 hkx hky he.out hee)
          rw [hee] at c0
          clear hee
          generalize ys[k] = y at *
          have hq : (y.toList == y.toList) = true := by simp
          go_wp2
          go_quiet (fail)
          go_wp2
          go_roundw
          case rel => exact ⟨k + 1, m + nq, by omega, by go_num, hsn, by rw [HW.out, World.drewN_drewN]⟩
          case measure => simp [intOf]; omega
        · have hf : b = false := by
            rw [← hb.out]
            simp only [decide_eq_false_iff_not]
            rintro rfl
            exact hee rfl
          subst hf
          have hq : (xs[k].toList == ys[k].toList) = false := by
            simp only [beq_eq_false_iff_ne, ne_eq]
            exact fun h => hee (bytes_ext h)
          clear hee
          generalize xs[k] = x at *
          generalize ys[k] = y at *
          go_wp2
          go_quiet (fail)
          go_wp2
          go_ret
          exact ⟨rfl, m + nq, by rw [HW.out, World.drewN_drewN]⟩
      · have hf : b = true := by
          rw [← hb.out]
          have h1 := he.out
          rw [List.take_of_length_le (by rw [hlx.out]; omega), List.take_of_length_le (by rw [hly.out]; omega)] at h1
          simp [h1]
        subst hf
        go_wp2
        go_ret
        exact ⟨rfl, m, HW.out⟩
  · have hf : b = false := by
      rw [← hb.out]
      simp only [decide_eq_false_iff_not]
      rintro rfl
      have := hx.len
      have := hy.len
      omega
    subst hf
    have ht : ((n : Int) != (n' : Int)) = true := by rw [bne_iff_ne]; omega
    go_enter Tryz.func29, Tryz.ntmps29
    go_wp2
    go_ret
    exact ⟨rfl, 0, rfl⟩
end

/- What the document's layer 6 reads and writes of a table, pair by pair: the same as the plain functions (no function of the program is named here). -/
section
open Go.RowKit
set_option maxRecDepth 100000
end

/- The document's layer 6: what is read of a table and written to it: contracts. -/
section
open Go.RowKit
set_option maxRecDepth 100000
end

/- The document's layer 6: what is written to a table: contract. -/
section
open Go.RowKit
set_option maxRecDepth 100000
end

/- strings.TrimRight at the cutset that the shapes use: contract. -/
section
open Go.RowKit
set_option maxRecDepth 100000

theorem chop_s (s : ByteArray) (w : World) (hs : s.size ≤ 1000000000) : Calls Tryz.prog 115 #[.string s, .string ⟨#[32, 59]⟩] w fun e w' => ∃ r : ByteArray, e = .returned (.string r) ∧ r.data.toList = chopF s.data.toList ∧ Below w.heap.size w w' := by
  have h := Any.strings_TrimRight_laid Tryz.lays162 (by kernel_rfl) s ⟨#[32, 59]⟩ w (by omega) (by decide) (ascii_of_all (by decide))
  change Calls Tryz.prog 115 _ _ _ at h
  exact h.mono fun _ _ ⟨he, hb⟩ => ⟨_, he, by simp [chopF, cut2], hb⟩
end

/- What is written of tokens whose Strings are emptied, and the texts of these, by the call shaped of package plan: contract. -/
section
open Go.RowKit
set_option maxRecDepth 100000

def bts (ss : List ByteArray) : List (List UInt8) := ss.map fun x => x.data.toList
theorem bts_append (a b : List ByteArray) : bts (a ++ b) = bts a ++ bts b := by simp [bts]
theorem says_next (us : List Tk) (k : Nat) (h : k < us.length) : saysT (us.take (k + 1)) = saysT (us.take k) ++ [us[k].says] := by
  rw [List.take_succ_eq_append_getElem h, saysT_append]
  rfl
/-- the tokens that stay, their Strings emptied -/
def stayF (l : List Tok) : List Tok := (keptF l).map emptyF
theorem stay_hint (l : List Tok) (t : List UInt8) : stayF (l ++ [(5, t)]) = stayF l := by simp [stayF, keptF, isHintF]
theorem stay_str (l : List Tok) (t : List UInt8) : stayF (l ++ [(3, t)]) = stayF l ++ [(3, [])] := by simp [stayF, keptF, isHintF, emptyF]
theorem stay_other (l : List Tok) (k : Int) (t : List UInt8) (h5 : k ≠ 5) (h3 : k ≠ 3) : stayF (l ++ [(k, t)]) = stayF l ++ [(k, t)] := by simp [stayF, keptF, isHintF, emptyF, h5, h3]
theorem strs_hint (l : List Tok) (t : List UInt8) : strsF (keptF (l ++ [(5, t)])) = strsF (keptF l) := by simp [strsF, keptF, isHintF]
theorem strs_str (l : List Tok) (t : List UInt8) : strsF (keptF (l ++ [(3, t)])) = strsF (keptF l) ++ [t] := by simp [strsF, keptF, isHintF, isStrF]
theorem strs_other (l : List Tok) (k : Int) (t : List UInt8) (h5 : k ≠ 5) (h3 : k ≠ 3) : strsF (keptF (l ++ [(k, t)])) = strsF (keptF l) := by simp [strsF, keptF, isHintF, isStrF, h5, h3]

theorem own_ne_type {w : World} {base n size : Nat} {e t : TypeId} {v : Value} {xs : List Value} (h : w.ownsRow base e size v n xs) {b : Nat} {cs : Array Value} {fz : Nat × Nat} (hb : w.heap[b]? = some (.cells cs t fz)) (ht : t ≠ e) : v.ownBlock ≠ some b := by
  rcases h.2 with ⟨rfl, _⟩ | ⟨g, cap, cur, rfl, _, hg, _⟩
  · simp [Value.ownBlock]
  · simp only [Value.ownBlock, ne_eq, Option.some.injEq]
    rintro rfl
    rw [hg] at hb
    simp only [Option.some.injEq, Obj.cells.injEq] at hb
    exact ht hb.2.1.symm

set_option maxHeartbeats 4000000 in
theorem shaped_ok (A : Option Addr) (n c : Nat) (us : List Tk) (w : World) (h : TR w A n us) (hn : n ≤ 400) (hsz : ∀ t ∈ us, t.t.size ≤ 400) (hL : Lw w) :
    Calls Tryz.prog 82 #[.slice A n c] w fun e w' => ∃ (r : ByteArray) (A2 : Option Addr) (n2 c2 : Nat) (ss : List ByteArray), e = .returned (.tuple #[.string r, .slice A2 n2 c2]) ∧ r.data.toList = shapeF (keptF (saysT us)) ∧ XR w' A2 n2 ss ∧ bts ss = strsF (keptF (saysT us)) ∧ Below w.heap.size w w' := by
  obtain ⟨i0, hi, hz0, hz1, hz2⟩ := info_parts strinfo6
  obtain ⟨j0, gi, gz0, gz1, gz2⟩ := info_parts tkinfo
  have HL := Lib.hid h.len
  have HH := Lib.hid h
  have HZ := Lib.hid hsz
  have HLw := Lib.hid hL
  clear h hsz hL
  go_enter Tryz.func82, Tryz.ntmps82
  go_wp2_with fail
  go_loopw [4, 5, 10] (fun v u i wr => ∃ (k z1 z2 : Nat) (A1 A2 : Option Addr) (c1 c2 : Nat) (ks : List Tk) (ss : List ByteArray), k ≤ n ∧ z1 ≤ k ∧ z2 ≤ k ∧ v = .slice A1 z1 c1 ∧ u = .slice A2 z2 c2 ∧ i = .int .i64 k ∧
    Hid (OT 135 wr w.heap.size A1 z1 c1 ks) ∧ Hid (wr.ownsRow w.heap.size 9 1 (.slice A2 z2 c2) z2 (tvs ss)) ∧ Hid (saysT ks = stayF (saysT (us.take k))) ∧ Hid (bts ss = strsF (keptF (saysT (us.take k)))) ∧ Hid (sumT ks ≤ k * 401) ∧ Below w.heap.size w wr) (fun _ _ i _ => n - (intOf i).toNat)
  case atStart => exact ⟨0, 0, 0, none, none, 0, 0, [], [], Nat.zero_le _, Nat.le_refl _, Nat.le_refl _, rfl, rfl, rfl, Lib.hid (OT.nil _ _ _), Lib.hid (World.ownsRow_nil _ _ _ _), Lib.hid rfl, Lib.hid rfl, Lib.hid (Nat.zero_le _), Below.refl _ _⟩
  case round =>
    obtain ⟨k, z1, z2, A1, A2, c1, c2, ks, ss, hk, q1, q2, rfl, rfl, rfl, ho, hx, hs, hb, hm, k0⟩ := hrel
    have hsz0 := k0.size
    by_cases hlt : k < n
    · have hkl : k < us.length := by rw [HL.out]; exact hlt
      obtain ⟨ad, rfl, had, hcc⟩ := HH.out.at_ hkl
      obtain ⟨x0, x1⟩ := hcc _ k0
      have hsn := says_next us k hkl
      have hte : us[k].says = (us[k].k, us[k].t.data.toList) := rfl
      rw [hte] at hsn
      have htz := HZ.out us[k] (List.getElem_mem hkl)
      clear hcc hte
      generalize us[k].k = x at *
      generalize us[k].t = y at *
      have kb : Below w.heap.size w (wr.alloc (.cells #[.int .i64 x, .string y] 135)) := kp_alloc k0 _
      by_cases h5 : x = 5
      · subst h5
        have hs2 : Hid (saysT ks = stayF (saysT (us.take (k + 1)))) := Lib.hid (by rw [hsn, stay_hint]; exact hs.out)
        have hb2 : Hid (bts ss = strsF (keptF (saysT (us.take (k + 1))))) := Lib.hid (by rw [hsn, strs_hint]; exact hb.out)
        have hm2 : Hid (sumT ks ≤ (k + 1) * 401) := Lib.hid (by have := hm.out; omega)
        clear hsn hs hb hm
        go_wp2_with fail
        go_roundw
        case rel => exact ⟨k + 1, z1, z2, A1, A2, c1, c2, ks, ss, by omega, by omega, by omega, rfl, rfl, by go_num, Lib.hid (ho.out.next (kp_new wr _)), Lib.hid (hx.out.alloc _), hs2, hb2, hm2, kb⟩
        case measure => simp [intOf]; omega
      have n5 : (x == 5) = false := by simpa using h5
      by_cases h3 : x = 3
      · subst h3
        have hs2 : Hid (saysT (ks ++ [⟨3, ⟨#[]⟩⟩]) = stayF (saysT (us.take (k + 1)))) := Lib.hid (by rw [hsn, stay_str, saysT_append, hs.out]; rfl)
        have hb2 : Hid (bts (ss ++ [y]) = strsF (keptF (saysT (us.take (k + 1))))) := Lib.hid (by rw [hsn, strs_str, bts_append, hb.out]; rfl)
        have hm2 : Hid (sumT (ks ++ [⟨3, ⟨#[]⟩⟩]) ≤ (k + 1) * 401) := Lib.hid (by
          have := hm.out
          rw [sumT_append, show sumT [(⟨3, ⟨#[]⟩⟩ : Tk)] = 1 from rfl]
          omega)
        have hap : ∀ w', ((wr.alloc (.cells #[.int .i64 3, .string y] 135)).alloc (.cells #[.string y] 9)).grownBy w' (Value.slice A2 z2 c2).ownBlock → OT 135 w' w.heap.size A1 z1 c1 ks := fun w' hg =>
          ⟨own_apart ((ho.out.own.alloc _).alloc _) ((hx.out.alloc _).alloc _) (by decide) hg, ho.out.cap⟩
        have hbx : ((wr.alloc (.cells #[.int .i64 3, .string y] 135)).alloc (.cells #[.string y] 9)).heap[wr.heap.size]? = some (.cells #[.int .i64 3, .string y] 135 (0, 0)) := by
          exact (World.grownBy_alloc _ _ none).block wr.heap.size (by simp) (by simp) |>.trans (heap_alloc_new wr _)
        have hne2 : some wr.heap.size ≠ (Value.slice A2 z2 c2).ownBlock := fun e => by have := (hx.out.lt _ e.symm).2; omega
        have hne1 : (Value.slice A1 z1 c1).ownBlock ≠ some wr.heap.size := fun e => by have := (ho.out.own.lt _ e).2; omega
        have HX2 := Lib.hid ((hx.out.alloc (.cells #[.int .i64 3, .string y] 135)).alloc (.cells #[.string y] 9))
        have HSRC : Hid (Rd ((wr.alloc (.cells #[.int .i64 3, .string y] 135)).alloc (.cells #[.string y] 9)) (wr.heap.size + 1 + 1) (some ⟨wr.heap.size + 1, 0, none⟩) [.string y]) := Lib.hid (by
          have := Rd.new (wr.alloc (.cells #[.int .i64 3, .string y] 135)) 9 [.string y]
          simpa using this)
        have kb2 : Below w.heap.size w ((wr.alloc (.cells #[.int .i64 3, .string y] 135)).alloc (.cells #[.string y] 9)) := kp_alloc kb _
        have HAP := Lib.hid hap
        have HBX := Lib.hid hbx
        have HN2 := Lib.hid hne2
        have HN1 := Lib.hid hne1
        have HS2 := Lib.hid (show w.heap.size ≤ ((wr.alloc (.cells #[.int .i64 3, .string y] 135)).alloc (.cells #[.string y] 9)).heap.size by simp; omega)
        clear hsn hs hb hm hap hbx hne2 hne1
        go_wp2_with (first
          | (at_builtin; refine wpList_append_rd rfl _ _ _ rfl w.heap.size 9 i0 _ 16 Tryz.underlying34 hi hz0 hz1 hz2 rfl _ z2 _ rfl HX2.out _ _ _ _ [.string y] rfl rfl HSRC.out (by simp [Value.oneCell']) (by unfold maxLen; omega) (by omega) HS2.out ?_; intro v3 w3 hown3 hg3; obtain ⟨A3, c3, rfl, hcap3, _⟩ := own_form hown3; have hb3 := Lib.hid ((hg3.block _ (by simp; omega) HN2.out).trans HBX.out); obtain ⟨d0, d1, f0, f1⟩ := cells2 hb3.out;
             have HOT := Lib.hid ((ownsRow_setCell_other (HAP.out w3 hg3).own (a := ⟨wr.heap.size, 1, none⟩) HN1.out (.string ⟨#[]⟩)).alloc (.cells #[.int .i64 3, .string ⟨#[]⟩] 135));
             have HXT := Lib.hid (ownsRow_setCell_other (a := ⟨wr.heap.size, 1, none⟩) hown3 (own_ne_type hown3 hb3.out (by decide)) (.string ⟨#[]⟩));
             have HSR3 : Hid (Rd ((w3.setCell ⟨wr.heap.size, 1, none⟩ (.string ⟨#[]⟩)).alloc (.cells #[.int .i64 3, .string ⟨#[]⟩] 135)) (w3.heap.size + 1) (some ⟨w3.heap.size, 0, none⟩) [.int .i64 3, .string ⟨#[]⟩]) := Lib.hid (by have := Rd.new (w3.setCell ⟨wr.heap.size, 1, none⟩ (.string ⟨#[]⟩)) 135 [.int .i64 3, .string ⟨#[]⟩]; simpa using this))
          | (at_builtin; refine wpList_append_rds rfl _ _ _ rfl w.heap.size 135 j0 _ 2 24 Tryz.underlying106 gi gz0 gz1 gz2 rfl (by omega) _ z1 _ rfl HOT.out _ _ _ _ [.int .i64 3, .string ⟨#[]⟩] rfl rfl HSR3.out (by simp [Value.oneCell']) (by unfold maxLen; omega) (by omega) (by simp; have := hg3.size; have := HS2.out; omega) ?_; intro v4 w4 hown4 hg4; obtain ⟨A4, c4, rfl, ho4⟩ := OT.push hown4))
        go_roundw
        case rel =>
          have k3 : Below w.heap.size w w3 := kb2.trans (below_own HX2.out hg3 HS2.out)
          have k3b : Below w.heap.size w ((w3.setCell ⟨wr.heap.size, 1, none⟩ (.string ⟨#[]⟩)).alloc (.cells #[.int .i64 3, .string ⟨#[]⟩] 135)) := kp_alloc (k3.setCell hsz0 _) _
          have hx4 := own_apart (HXT.out.alloc (.cells #[.int .i64 3, .string ⟨#[]⟩] 135)) HOT.out (by decide) hg4
          refine ⟨k + 1, z1 + 1, z2 + 1, A4, A3, c4, c3, ks ++ [⟨3, ⟨#[]⟩⟩], ss ++ [y], by omega, by omega, by omega, rfl, rfl, by go_num, Lib.hid ho4, Lib.hid ?_, hs2, hb2, hm2, k3b.trans (below_own_s HOT.out hg4 k3b.size)⟩
          rw [tvs_append]
          exact hx4
        case measure => simp [intOf]; omega
      · have n3 : (x == 3) = false := by simpa using h3
        have hs2 : Hid (saysT (ks ++ [⟨x, y⟩]) = stayF (saysT (us.take (k + 1)))) := Lib.hid (by rw [hsn, stay_other _ _ _ h5 h3, saysT_append, hs.out]; rfl)
        have hb2 : Hid (bts ss = strsF (keptF (saysT (us.take (k + 1))))) := Lib.hid (by rw [hsn, strs_other _ _ _ h5 h3, hb.out])
        have hm2 : Hid (sumT (ks ++ [⟨x, y⟩]) ≤ (k + 1) * 401) := Lib.hid (by
          have := hm.out
          rw [sumT_append, show sumT [(⟨x, y⟩ : Tk)] = y.size + 1 from by simp [sumT]]
          omega)
        have HOT := Lib.hid ((ho.out.own.alloc (.cells #[.int .i64 x, .string y] 135)).alloc (.cells #[.int .i64 x, .string y] 135))
        have HX2 := Lib.hid ((hx.out.alloc (.cells #[.int .i64 x, .string y] 135)).alloc (.cells #[.int .i64 x, .string y] 135))
        have HSRC : Hid (Rd ((wr.alloc (.cells #[.int .i64 x, .string y] 135)).alloc (.cells #[.int .i64 x, .string y] 135)) (wr.heap.size + 1 + 1) (some ⟨wr.heap.size + 1, 0, none⟩) [.int .i64 x, .string y]) := Lib.hid (by
          have := Rd.new (wr.alloc (.cells #[.int .i64 x, .string y] 135)) 135 [.int .i64 x, .string y]
          simpa using this)
        have kb2 : Below w.heap.size w ((wr.alloc (.cells #[.int .i64 x, .string y] 135)).alloc (.cells #[.int .i64 x, .string y] 135)) := kp_alloc kb _
        clear hsn hs hb hm ho hx h5 h3
        go_wp2_with (at_builtin; refine wpList_append_rds rfl _ _ _ rfl w.heap.size 135 j0 _ 2 24 Tryz.underlying106 gi gz0 gz1 gz2 rfl (by omega) _ z1 _ rfl HOT.out _ _ _ _ [.int .i64 x, .string y] rfl rfl HSRC.out (by simp [Value.oneCell']) (by unfold maxLen; omega) (by omega) kb2.size ?_; intro v4 w4 hown4 hg4; obtain ⟨A4, c4, rfl, ho4⟩ := OT.push hown4)
        go_roundw
        case rel => exact ⟨k + 1, z1 + 1, z2, A4, A2, c4, c2, ks ++ [⟨x, y⟩], ss, by omega, by omega, by omega, rfl, rfl, by go_num, Lib.hid ho4, Lib.hid (own_apart HX2.out HOT.out (by decide) hg4), hs2, hb2, hm2, kb2.trans (below_own_s HOT.out hg4 kb2.size)⟩
        case measure => simp [intOf]; omega
    · obtain rfl : k = n := by omega
      rw [List.take_of_length_le (by rw [HL.out]; exact Nat.le_refl _)] at hs hb
      have HL2 := Lib.hid (HLw.out.below k0 (by obtain ⟨m, hm⟩ := HLw.out; exact World.block_lt_of_cell? _ _ hm))
      have hmm : sumT ks ≤ 1000000 := by have := hm.out; omega
      have hwl := writeF_len ks
      go_wp2_with fail
      refine (write_ok A1 z1 c1 ks wr ho.out.tr hmm HL2.out).mono ?_
      rintro e w1 ⟨r, rfl, hr, k1⟩
      have hrs : r.size ≤ 1000000000 := by
        have := text_len r
        rw [hr] at this
        omega
      go_wp2_with fail
      refine (chop_s r w1 hrs).mono ?_
      rintro e w2 ⟨r2, rfl, hr2, k2⟩
      go_wp2_with fail
      go_ret2
      have kk := kp_trans k1 k2
      refine ⟨r2, A2, z2, c2, ss, rfl, ?_, (XR.of_own hx.out).next kk, hb.out, kp_trans k0 kk⟩
      rw [hr2, hr, hs.out]
      rfl
end

/- The forms, what each does, and Of, by calls of package plan: contracts. -/
section
open Go.RowKit
set_option maxRecDepth 100000

def formC : List Value := [.string tGet, .func (.func 117) #[] #[], .string tAll, .func (.func 118) #[] #[], .string tPut, .func (.func 119) #[] #[], .string tChg, .func (.func 120) #[] #[], .string tDel, .func (.func 121) #[] #[]]

theorem forms_ok (w : World) : Calls Tryz.prog 83 #[] w fun e w' => e = .returned (.slice (some ⟨w.heap.size, 0, none⟩) 5 5) ∧ w' = w.alloc (.cells formC.toArray 163) := by
  go_enter Tryz.func83, Tryz.ntmps83
  go_wp2_with fail
  go_ret
  exact ⟨rfl, rfl⟩

set_option maxHeartbeats 1000000 in
theorem do1_ok (A : Option Addr) (n c : Nat) (x : ByteArray) (ss : List ByteArray) (w : World) (h : XR w A n (x :: ss)) :
    Calls Tryz.prog 117 #[.slice A n c] w fun e w' => e = .returned (planV 1 x ⟨#[]⟩) ∧ Below w.heap.size w w' := by
  obtain ⟨ad, rfl, had, hc⟩ := h.at_ (j := 0) (by simp)
  have hlen := h.len
  rw [List.length_cons] at hlen
  have h0 : (0 : Int) < (n : Int) := by omega
  rw [show ad.add 0 = ad from rfl, List.getElem_cons_zero] at hc
  clear h hlen
  go_enter Tryz.func117, Tryz.ntmps117
  go_wp2_with fail
  refine bodyPost_ret (v := planV 1 x ⟨#[]⟩) ?_ rfl ⟨rfl, kp_new _ _⟩
  rw [results_cell1 rfl]
  unfold planV
  go_simp
set_option maxHeartbeats 1000000 in
theorem do5_ok (A : Option Addr) (n c : Nat) (x : ByteArray) (ss : List ByteArray) (w : World) (h : XR w A n (x :: ss)) :
    Calls Tryz.prog 121 #[.slice A n c] w fun e w' => e = .returned (planV 5 x ⟨#[]⟩) ∧ Below w.heap.size w w' := by
  obtain ⟨ad, rfl, had, hc⟩ := h.at_ (j := 0) (by simp)
  have hlen := h.len
  rw [List.length_cons] at hlen
  have h0 : (0 : Int) < (n : Int) := by omega
  rw [show ad.add 0 = ad from rfl, List.getElem_cons_zero] at hc
  clear h hlen
  go_enter Tryz.func121, Tryz.ntmps121
  go_wp2_with fail
  refine bodyPost_ret (v := planV 5 x ⟨#[]⟩) ?_ rfl ⟨rfl, kp_new _ _⟩
  rw [results_cell1 rfl]
  unfold planV
  go_simp

theorem do2_ok (A : Option Addr) (n c : Nat) (w : World) :
    Calls Tryz.prog 118 #[.slice A n c] w fun e w' => e = .returned (planV 2 ⟨#[]⟩ ⟨#[]⟩) ∧ Below w.heap.size w w' := by
  go_enter Tryz.func118, Tryz.ntmps118
  go_wp2_with fail
  refine bodyPost_ret (v := planV 2 ⟨#[]⟩ ⟨#[]⟩) ?_ rfl ⟨rfl, kp_new _ _⟩
  rw [results_cell1 rfl]
  unfold planV
  go_simp
set_option maxHeartbeats 1000000 in
theorem do3_ok (A : Option Addr) (n c : Nat) (x y : ByteArray) (ss : List ByteArray) (w : World) (h : XR w A n (x :: y :: ss)) :
    Calls Tryz.prog 119 #[.slice A n c] w fun e w' => e = .returned (planV 3 x y) ∧ Below w.heap.size w w' := by
  obtain ⟨ad, rfl, had, hc⟩ := h.at_ (j := 0) (by simp)
  obtain ⟨ad', e', _, hc'⟩ := h.at_ (j := 1) (by simp)
  injection e' with e'
  subst e'
  have hlen := h.len
  rw [List.length_cons, List.length_cons] at hlen
  have h0 : (0 : Int) < (n : Int) := by omega
  have h1 : (1 : Int) < (n : Int) := by omega
  rw [show ad.add 0 = ad from rfl, List.getElem_cons_zero] at hc
  rw [show ad.add 1 = ⟨ad.block, ad.off + 1, none⟩ from rfl, List.getElem_cons_succ, List.getElem_cons_zero] at hc'
  have kw := kp_new w (.cells #[.int .i64 0, .string ⟨#[]⟩, .string ⟨#[]⟩] 122)
  rw [← kw.cell had] at hc
  rw [← kw.cell (show (⟨ad.block, ad.off + 1, none⟩ : Addr).block < w.heap.size from had)] at hc'
  clear h hlen
  go_enter Tryz.func119, Tryz.ntmps119
  go_wp2_with fail
  go_region
  all_goals
    go_wp2_with fail
    refine bodyPost_ret (v := planV 3 x y) ?_ rfl ⟨rfl, ?_⟩
    · rw [results_cell1 rfl]
      unfold planV
      go_simp
    · exact (kp_new _ _).drew
set_option maxHeartbeats 1000000 in
theorem do4_ok (A : Option Addr) (n c : Nat) (x y : ByteArray) (ss : List ByteArray) (w : World) (h : XR w A n (x :: y :: ss)) :
    Calls Tryz.prog 120 #[.slice A n c] w fun e w' => e = .returned (planV 4 y x) ∧ Below w.heap.size w w' := by
  obtain ⟨ad, rfl, had, hc⟩ := h.at_ (j := 0) (by simp)
  obtain ⟨ad', e', _, hc'⟩ := h.at_ (j := 1) (by simp)
  injection e' with e'
  subst e'
  have hlen := h.len
  rw [List.length_cons, List.length_cons] at hlen
  have h0 : (0 : Int) < (n : Int) := by omega
  have h1 : (1 : Int) < (n : Int) := by omega
  rw [show ad.add 0 = ad from rfl, List.getElem_cons_zero] at hc
  rw [show ad.add 1 = ⟨ad.block, ad.off + 1, none⟩ from rfl, List.getElem_cons_succ, List.getElem_cons_zero] at hc'
  have kw := kp_new w (.cells #[.int .i64 0, .string ⟨#[]⟩, .string ⟨#[]⟩] 122)
  rw [← kw.cell had] at hc
  rw [← kw.cell (show (⟨ad.block, ad.off + 1, none⟩ : Addr).block < w.heap.size from had)] at hc'
  clear h hlen
  go_enter Tryz.func120, Tryz.ntmps120
  go_wp2_with fail
  go_region
  all_goals
    go_wp2_with fail
    refine bodyPost_ret (v := planV 4 y x) ?_ rfl ⟨rfl, ?_⟩
    · rw [results_cell1 rfl]
      unfold planV
      go_simp
    · exact (kp_new _ _).drew
end

/- What a statement does, by the call Of of package plan: contract. -/
section
open Go.RowKit
set_option maxRecDepth 100000

/-- a plan's number and texts -/
def doing (d : Int) (k v : ByteArray) : Doing := (d, k.data.toList, v.data.toList)
/-- the answer of Of -/
def OfTo (f : FuncId) (s : ByteArray) (w : World) : Prop :=
  Calls Tryz.prog f #[.string s] w fun e w' => ∃ d k v, e = .returned (planV d k v) ∧ doing d k v = planA s.data.toList ∧ Below w.heap.size w w'

theorem text_iff {r t : ByteArray} : r = t ↔ r.data.toList = t.data.toList := ⟨fun h => by rw [h], text_ext⟩
/-- what the shape and the texts tell -/
theorem pick_by {L : List Tok} {r : ByteArray} {ss : List ByteArray} (hL : ∀ t ∈ L, t.1 ≠ 5 → rightF t.1 t.2 = true) (hr : r.data.toList = shapeF (keptF L)) (hs : bts ss = strsF (keptF L)) :
    (r = tGet → ∃ x rest, ss = x :: rest ∧ planF (bodyF L) = doing 1 x ⟨#[]⟩) ∧
    (r = tAll → planF (bodyF L) = doing 2 ⟨#[]⟩ ⟨#[]⟩) ∧
    (r = tPut → ∃ x y rest, ss = x :: y :: rest ∧ planF (bodyF L) = doing 3 x y) ∧
    (r = tChg → ∃ x y rest, ss = x :: y :: rest ∧ planF (bodyF L) = doing 4 y x) ∧
    (r = tDel → ∃ x rest, ss = x :: rest ∧ planF (bodyF L) = doing 5 x ⟨#[]⟩) ∧
    (r ≠ tGet → r ≠ tAll → r ≠ tPut → r ≠ tChg → r ≠ tDel → planF (bodyF L) = doing 0 ⟨#[]⟩ ⟨#[]⟩) := by
  have key : ∀ (f : List Tok) (t : ByteArray), (∀ t ∈ f, rightF t.1 t.2 = true ∧ t.1 ≠ 5) → writeF f = t.data.toList → (r = t ↔ (bodyF L).map emptyF = f) := fun f t hf ht => by
    rw [text_iff, hr, ← ht]
    exact shape_iff hL f hf
  have k1 := key fGet tGet (by decide) tGet_is
  have k2 := key fAll tAll (by decide) tAll_is
  have k3 := key fPut tPut (by decide) tPut_is
  have k4 := key fChg tChg (by decide) tChg_is
  have k5 := key fDel tDel (by decide) tDel_is
  rw [strs_body] at hs
  have hlen : ∀ f, (bodyF L).map emptyF = f → ss.length = (strsF f).length := fun f h => by
    rw [← strs_len h, ← hs]
    simp [bts]
  have one : ∀ n, ss.length = n + 1 → ∃ x rest, ss = x :: rest := fun n h => by
    cases ss with
    | nil => cases h
    | cons x rest => exact ⟨x, rest, rfl⟩
  have two : ∀ n, ss.length = n + 2 → ∃ x y rest, ss = x :: y :: rest := fun n h => by
    cases ss with
    | nil => cases h
    | cons x rest =>
      cases rest with
      | nil => simp at h
      | cons y rest => exact ⟨x, y, rest, rfl⟩
  unfold planF
  rw [← hs]
  refine ⟨fun h => ?_, fun h => ?_, fun h => ?_, fun h => ?_, fun h => ?_, fun h1 h2 h3 h4 h5 => ?_⟩
  · have e := k1.1 h
    obtain ⟨x, rest, rfl⟩ := one 0 (hlen _ e)
    exact ⟨x, rest, rfl, by rw [e]; rfl⟩
  · have e := k2.1 h
    rw [e]
    rfl
  · have e := k3.1 h
    obtain ⟨x, y, rest, rfl⟩ := two 0 (hlen _ e)
    exact ⟨x, y, rest, rfl, by rw [e]; rfl⟩
  · have e := k4.1 h
    obtain ⟨x, y, rest, rfl⟩ := two 0 (hlen _ e)
    exact ⟨x, y, rest, rfl, by rw [e]; rfl⟩
  · have e := k5.1 h
    obtain ⟨x, rest, rfl⟩ := one 0 (hlen _ e)
    exact ⟨x, rest, rfl, by rw [e]; rfl⟩
  · unfold pickF
    rw [if_neg (fun e => h1 (k1.2 e)), if_neg (fun e => h2 (k2.2 e)), if_neg (fun e => h3 (k3.2 e)), if_neg (fun e => h4 (k4.2 e)), if_neg (fun e => h5 (k5.2 e))]
    rfl

theorem txt_eq (r t : ByteArray) : (t.toList == r.toList) = decide (r = t) := by
  rw [Bool.eq_iff_iff]
  simp only [beq_iff_eq, decide_eq_true_eq]
  exact ⟨fun h => (bytes_ext h).symm, fun h => by rw [h]⟩

theorem says_short {ts : List Tk} {m : Nat} (h : ∀ t ∈ saysT ts, t.2.length ≤ m) : ∀ t ∈ ts, t.t.size ≤ m := fun t ht => by
  have := h t.says (List.mem_map.2 ⟨t, ht, rfl⟩)
  simpa [Tk.says, text_len] using this
theorem cells3f {w : World} {b : Nat} {x y z : Value} {t : TypeId} (h : w.heap[b]? = some (.cells #[x, y, z] t (0, 0))) : w.cell? ⟨b, 0, none⟩ = some x ∧ w.cell? ⟨b, 1, none⟩ = some y ∧ w.cell? ⟨b, 2, none⟩ = some z ∧ w.frozen? ⟨b, 0, none⟩ = false ∧ w.frozen? ⟨b, 1, none⟩ = false ∧ w.frozen? ⟨b, 2, none⟩ = false := by
  obtain ⟨a1, a2, a3⟩ := cells3 h
  refine ⟨a1, a2, a3, ?_, ?_, ?_⟩ <;> simp [World.frozen?, h]

set_option maxHeartbeats 8000000 in
theorem of_ok (s : ByteArray) (w : World) (hm : s.size ≤ maxLen) (hL : Lw w) : OfTo 53 s w := by
  have kw := kp_new w (.cells #[.int .i64 0, .string ⟨#[]⟩, .string ⟨#[]⟩] 122)
  have hlx := lex_ok s _ hm (hL.next kw)
  unfold LexTo at hlx
  have hlen := lexA_len s.data.toList
  have hok := lexA_ok s.data.toList
  have hright := lexA_right s.data.toList
  have hP : planA s.data.toList = planF (bodyF (lexA s.data.toList).1) := rfl
  unfold OfTo
  generalize planA s.data.toList = R at *
  have HP := Lib.hid hP
  have HX := Lib.hid hlx
  have HLN := Lib.hid hlen
  have HOK := Lib.hid hok
  have HRT := Lib.hid hright
  have HLw := Lib.hid hL
  clear hP hlx hlen hok hright hL
  go_enter Tryz.func53, Tryz.ntmps53
  go_wp2_with fail
  refine HX.out.mono ?_
  rintro e w1 ⟨A, n, c, er, ts, rfl, ho, hla, k1⟩
  rw [← hla] at HLN HOK HRT HP
  have HLA := Lib.hid hla
  have K1 := kp_trans kw k1
  have hn : n ≤ 200 := by rw [← ho.len, ← saysT_length]; exact HLN.out
  have hb1 : Hid (w1.heap[w.heap.size]? = some (.cells #[.int .i64 0, .string ⟨#[]⟩, .string ⟨#[]⟩] 122 (0, 0))) := Lib.hid ((k1.block _ (by simp)).trans (heap_alloc_new w _))
  have HS := Lib.hid (shaped_ok A n c ts w1 ho.tr (by omega) (fun t ht => Nat.le_trans (says_short (m := 200) (fun t ht => (HOK.out t ht).1) t ht) (by decide)) (HLw.out.next K1))
  clear hla HX k1
  go_wp2_with fail
  refine HS.out.mono ?_
  rintro e w2 ⟨r, A2, n2, c2, ss, rfl, hr, hx, hs, k2⟩
  have HPK := Lib.hid (pick_by HRT.out hr hs)
  have HXR := Lib.hid hx
  have K2 := kp_trans K1 k2
  have hlt1 : w.heap.size < w1.heap.size := (Array.getElem?_eq_some_iff.1 hb1.out).1
  have hb2 : Hid (w2.heap[w.heap.size]? = some (.cells #[.int .i64 0, .string ⟨#[]⟩, .string ⟨#[]⟩] 122 (0, 0))) := Lib.hid ((k2.block _ hlt1).trans hb1.out)
  clear HS hr hs hx k2
  go_wp2_with fail
  refine (forms_ok w2).mono ?_
  rintro e w3 ⟨rfl, hw3⟩
  have hlt2 : w.heap.size < w2.heap.size := (Array.getElem?_eq_some_iff.1 hb2.out).1
  have k3 : Below w2.heap.size w2 w3 := by rw [hw3]; exact kp_new _ _
  have hF : w3.heap[w2.heap.size]? = some (.cells formC.toArray 163 (0, 0)) := by rw [hw3]; exact heap_alloc_new w2 _
  have hb3 : Hid (w3.heap[w.heap.size]? = some (.cells #[.int .i64 0, .string ⟨#[]⟩, .string ⟨#[]⟩] 122 (0, 0))) := Lib.hid ((k3.block _ hlt2).trans hb2.out)
  have hlt3 : w2.heap.size < w3.heap.size := (Array.getElem?_eq_some_iff.1 hF).1
  have K3 := kp_trans K2 k3
  have HX3 := Lib.hid (HXR.out.next k3)
  have HF := Lib.hid hF
  have HK3 := Lib.hid K3
  clear hw3 hF hb1 hb2 HXR
  generalize w2.heap.size = F at *
  go_wp2_with fail
  go_loopw [21] (fun i wr => ∃ k : Nat, k ≤ 5 ∧ i = .int .i64 k ∧ Hid ((0 < k → r ≠ tGet) ∧ (1 < k → r ≠ tAll) ∧ (2 < k → r ≠ tPut) ∧ (3 < k → r ≠ tChg) ∧ (4 < k → r ≠ tDel)) ∧ Below w3.heap.size w3 wr) (fun i _ => 5 - (intOf i).toNat)
  case atStart => exact ⟨0, by omega, rfl, Lib.hid ⟨by omega, by omega, by omega, by omega, by omega⟩, Below.refl _ _⟩
  case round =>
    obtain ⟨k, hk, rfl, hne, k4⟩ := hrel
    have hFr : wr.heap[F]? = some (.cells formC.toArray 163 (0, 0)) := (k4.block _ hlt3).trans HF.out
    have hbr : wr.heap[w.heap.size]? = some (.cells #[.int .i64 0, .string ⟨#[]⟩, .string ⟨#[]⟩] 122 (0, 0)) := (k4.block _ (by omega)).trans hb3.out
    have hc : ∀ j u, formC[j]? = some u → wr.cell? ⟨F, j, none⟩ = some u := fun j u hu => by
      rw [cell_of_row _ _ j formC.toArray _ (0, 0) hFr]
      simpa using hu
    rcases (by omega : k = 0 ∨ k = 1 ∨ k = 2 ∨ k = 3 ∨ k = 4 ∨ k = 5) with rfl | rfl | rfl | rfl | rfl | rfl
    · have c0 := hc 0 _ rfl
      have c1 := hc 1 _ rfl
      clear hc hFr
      by_cases he : r = tGet
      · have hq : (tGet.toList == r.toList) = true := by rw [txt_eq, decide_eq_true he]
        obtain ⟨x, rest, hss, hpl⟩ := HPK.out.1 he
        subst hss
        have HPL := Lib.hid (hpl.symm.trans HP.out.symm)
        have HB := Lib.hid hbr
        clear he hpl hne hbr
        generalize tGet = g at *
        go_wp2_with fail
        refine (do1_ok A2 n2 c2 x rest _ ((HX3.out.next k4).next (kp_new wr _))).mono ?_
        rintro e w5 ⟨rfl, k5⟩
        have K4 := kp_new wr (.cells #[.string g, .func (.func 117) #[] #[]] 163)
        have K5 : Below wr.heap.size wr w5 := kp_trans K4 k5
        obtain ⟨d0, d1, d2, f0, f1, f2⟩ := cells3f ((K5.block _ ((Array.getElem?_eq_some_iff.1 HB.out).1)).trans HB.out)
        have KW : Below w.heap.size w w5 := kp_trans (kp_trans HK3.out k4) K5
        clear k5 K4 K5
        unfold planV
        go_wp2_with fail
        refine bodyPost_ret (v := planV 1 x ⟨#[]⟩) ?_ rfl ⟨1, x, ⟨#[]⟩, rfl, HPL.out, ((KW.setCell (Nat.le_refl _) _).setCell (Nat.le_refl _) _).setCell (Nat.le_refl _) _⟩
        rw [results_cell1 rfl]
        unfold planV
        go_simp
      · have hq : (tGet.toList == r.toList) = false := by rw [txt_eq, decide_eq_false he]
        have hne2 : Hid ((0 < 1 → r ≠ tGet) ∧ (1 < 1 → r ≠ tAll) ∧ (2 < 1 → r ≠ tPut) ∧ (3 < 1 → r ≠ tChg) ∧ (4 < 1 → r ≠ tDel)) := Lib.hid ⟨fun _ => he, (by omega), (by omega), (by omega), (by omega)⟩
        clear he hne hbr
        obtain ⟨g, hg⟩ : ∃ g, g = tGet := ⟨_, rfl⟩
        rw [← hg] at c0 hq
        clear hg
        go_wp2_with fail
        go_roundw
        case rel => exact ⟨1, by omega, by go_num, hne2, kp_alloc k4 _⟩
        case measure => simp [intOf]
    · have c0 := hc 2 _ rfl
      have c1 := hc 3 _ rfl
      clear hc hFr
      by_cases he : r = tAll
      · have hq : (tAll.toList == r.toList) = true := by rw [txt_eq, decide_eq_true he]
        have hpl := HPK.out.2.1 he
        have hss := True.intro
        have HPL := Lib.hid (hpl.symm.trans HP.out.symm)
        have HB := Lib.hid hbr
        clear he hpl hne hbr
        generalize tAll = g at *
        go_wp2_with fail
        refine (do2_ok A2 n2 c2 _).mono ?_
        rintro e w5 ⟨rfl, k5⟩
        have K4 := kp_new wr (.cells #[.string g, .func (.func 118) #[] #[]] 163)
        have K5 : Below wr.heap.size wr w5 := kp_trans K4 k5
        obtain ⟨d0, d1, d2, f0, f1, f2⟩ := cells3f ((K5.block _ ((Array.getElem?_eq_some_iff.1 HB.out).1)).trans HB.out)
        have KW : Below w.heap.size w w5 := kp_trans (kp_trans HK3.out k4) K5
        clear k5 K4 K5
        unfold planV
        go_wp2_with fail
        refine bodyPost_ret (v := planV 2 ⟨#[]⟩ ⟨#[]⟩) ?_ rfl ⟨2, ⟨#[]⟩, ⟨#[]⟩, rfl, HPL.out, ((KW.setCell (Nat.le_refl _) _).setCell (Nat.le_refl _) _).setCell (Nat.le_refl _) _⟩
        rw [results_cell1 rfl]
        unfold planV
        go_simp
      · have hq : (tAll.toList == r.toList) = false := by rw [txt_eq, decide_eq_false he]
        have hne2 : Hid ((0 < 2 → r ≠ tGet) ∧ (1 < 2 → r ≠ tAll) ∧ (2 < 2 → r ≠ tPut) ∧ (3 < 2 → r ≠ tChg) ∧ (4 < 2 → r ≠ tDel)) := Lib.hid ⟨fun _ => hne.out.1 (by omega), fun _ => he, (by omega), (by omega), (by omega)⟩
        clear he hne hbr
        obtain ⟨g, hg⟩ : ∃ g, g = tAll := ⟨_, rfl⟩
        rw [← hg] at c0 hq
        clear hg
        go_wp2_with fail
        go_roundw
        case rel => exact ⟨2, by omega, by go_num, hne2, kp_alloc k4 _⟩
        case measure => simp [intOf]
    · have c0 := hc 4 _ rfl
      have c1 := hc 5 _ rfl
      clear hc hFr
      by_cases he : r = tPut
      · have hq : (tPut.toList == r.toList) = true := by rw [txt_eq, decide_eq_true he]
        obtain ⟨x, y, rest, hss, hpl⟩ := HPK.out.2.2.1 he
        subst hss
        have HPL := Lib.hid (hpl.symm.trans HP.out.symm)
        have HB := Lib.hid hbr
        clear he hpl hne hbr
        generalize tPut = g at *
        go_wp2_with fail
        refine (do3_ok A2 n2 c2 x y rest _ ((HX3.out.next k4).next (kp_new wr _))).mono ?_
        rintro e w5 ⟨rfl, k5⟩
        have K4 := kp_new wr (.cells #[.string g, .func (.func 119) #[] #[]] 163)
        have K5 : Below wr.heap.size wr w5 := kp_trans K4 k5
        obtain ⟨d0, d1, d2, f0, f1, f2⟩ := cells3f ((K5.block _ ((Array.getElem?_eq_some_iff.1 HB.out).1)).trans HB.out)
        have KW : Below w.heap.size w w5 := kp_trans (kp_trans HK3.out k4) K5
        clear k5 K4 K5
        unfold planV
        go_wp2_with fail
        refine bodyPost_ret (v := planV 3 x y) ?_ rfl ⟨3, x, y, rfl, HPL.out, ((KW.setCell (Nat.le_refl _) _).setCell (Nat.le_refl _) _).setCell (Nat.le_refl _) _⟩
        rw [results_cell1 rfl]
        unfold planV
        go_simp
      · have hq : (tPut.toList == r.toList) = false := by rw [txt_eq, decide_eq_false he]
        have hne2 : Hid ((0 < 3 → r ≠ tGet) ∧ (1 < 3 → r ≠ tAll) ∧ (2 < 3 → r ≠ tPut) ∧ (3 < 3 → r ≠ tChg) ∧ (4 < 3 → r ≠ tDel)) := Lib.hid ⟨fun _ => hne.out.1 (by omega), fun _ => hne.out.2.1 (by omega), fun _ => he, (by omega), (by omega)⟩
        clear he hne hbr
        obtain ⟨g, hg⟩ : ∃ g, g = tPut := ⟨_, rfl⟩
        rw [← hg] at c0 hq
        clear hg
        go_wp2_with fail
        go_roundw
        case rel => exact ⟨3, by omega, by go_num, hne2, kp_alloc k4 _⟩
        case measure => simp [intOf]
    · have c0 := hc 6 _ rfl
      have c1 := hc 7 _ rfl
      clear hc hFr
      by_cases he : r = tChg
      · have hq : (tChg.toList == r.toList) = true := by rw [txt_eq, decide_eq_true he]
        obtain ⟨x, y, rest, hss, hpl⟩ := HPK.out.2.2.2.1 he
        subst hss
        have HPL := Lib.hid (hpl.symm.trans HP.out.symm)
        have HB := Lib.hid hbr
        clear he hpl hne hbr
        generalize tChg = g at *
        go_wp2_with fail
        refine (do4_ok A2 n2 c2 x y rest _ ((HX3.out.next k4).next (kp_new wr _))).mono ?_
        rintro e w5 ⟨rfl, k5⟩
        have K4 := kp_new wr (.cells #[.string g, .func (.func 120) #[] #[]] 163)
        have K5 : Below wr.heap.size wr w5 := kp_trans K4 k5
        obtain ⟨d0, d1, d2, f0, f1, f2⟩ := cells3f ((K5.block _ ((Array.getElem?_eq_some_iff.1 HB.out).1)).trans HB.out)
        have KW : Below w.heap.size w w5 := kp_trans (kp_trans HK3.out k4) K5
        clear k5 K4 K5
        unfold planV
        go_wp2_with fail
        refine bodyPost_ret (v := planV 4 y x) ?_ rfl ⟨4, y, x, rfl, HPL.out, ((KW.setCell (Nat.le_refl _) _).setCell (Nat.le_refl _) _).setCell (Nat.le_refl _) _⟩
        rw [results_cell1 rfl]
        unfold planV
        go_simp
      · have hq : (tChg.toList == r.toList) = false := by rw [txt_eq, decide_eq_false he]
        have hne2 : Hid ((0 < 4 → r ≠ tGet) ∧ (1 < 4 → r ≠ tAll) ∧ (2 < 4 → r ≠ tPut) ∧ (3 < 4 → r ≠ tChg) ∧ (4 < 4 → r ≠ tDel)) := Lib.hid ⟨fun _ => hne.out.1 (by omega), fun _ => hne.out.2.1 (by omega), fun _ => hne.out.2.2.1 (by omega), fun _ => he, (by omega)⟩
        clear he hne hbr
        obtain ⟨g, hg⟩ : ∃ g, g = tChg := ⟨_, rfl⟩
        rw [← hg] at c0 hq
        clear hg
        go_wp2_with fail
        go_roundw
        case rel => exact ⟨4, by omega, by go_num, hne2, kp_alloc k4 _⟩
        case measure => simp [intOf]
    · have c0 := hc 8 _ rfl
      have c1 := hc 9 _ rfl
      clear hc hFr
      by_cases he : r = tDel
      · have hq : (tDel.toList == r.toList) = true := by rw [txt_eq, decide_eq_true he]
        obtain ⟨x, rest, hss, hpl⟩ := HPK.out.2.2.2.2.1 he
        subst hss
        have HPL := Lib.hid (hpl.symm.trans HP.out.symm)
        have HB := Lib.hid hbr
        clear he hpl hne hbr
        generalize tDel = g at *
        go_wp2_with fail
        refine (do5_ok A2 n2 c2 x rest _ ((HX3.out.next k4).next (kp_new wr _))).mono ?_
        rintro e w5 ⟨rfl, k5⟩
        have K4 := kp_new wr (.cells #[.string g, .func (.func 121) #[] #[]] 163)
        have K5 : Below wr.heap.size wr w5 := kp_trans K4 k5
        obtain ⟨d0, d1, d2, f0, f1, f2⟩ := cells3f ((K5.block _ ((Array.getElem?_eq_some_iff.1 HB.out).1)).trans HB.out)
        have KW : Below w.heap.size w w5 := kp_trans (kp_trans HK3.out k4) K5
        clear k5 K4 K5
        unfold planV
        go_wp2_with fail
        refine bodyPost_ret (v := planV 5 x ⟨#[]⟩) ?_ rfl ⟨5, x, ⟨#[]⟩, rfl, HPL.out, ((KW.setCell (Nat.le_refl _) _).setCell (Nat.le_refl _) _).setCell (Nat.le_refl _) _⟩
        rw [results_cell1 rfl]
        unfold planV
        go_simp
      · have hq : (tDel.toList == r.toList) = false := by rw [txt_eq, decide_eq_false he]
        have hne2 : Hid ((0 < 5 → r ≠ tGet) ∧ (1 < 5 → r ≠ tAll) ∧ (2 < 5 → r ≠ tPut) ∧ (3 < 5 → r ≠ tChg) ∧ (4 < 5 → r ≠ tDel)) := Lib.hid ⟨fun _ => hne.out.1 (by omega), fun _ => hne.out.2.1 (by omega), fun _ => hne.out.2.2.1 (by omega), fun _ => hne.out.2.2.2.1 (by omega), fun _ => he⟩
        clear he hne hbr
        obtain ⟨g, hg⟩ : ∃ g, g = tDel := ⟨_, rfl⟩
        rw [← hg] at c0 hq
        clear hg
        go_wp2_with fail
        go_roundw
        case rel => exact ⟨5, by omega, by go_num, hne2, kp_alloc k4 _⟩
        case measure => simp [intOf]
    · obtain ⟨d0, d1, d2, f0, f1, f2⟩ := cells3f hbr
      have HPL := Lib.hid ((HPK.out.2.2.2.2.2 (hne.out.1 (by omega)) (hne.out.2.1 (by omega)) (hne.out.2.2.1 (by omega)) (hne.out.2.2.2.1 (by omega)) (hne.out.2.2.2.2 (by omega))).symm.trans HP.out.symm)
      have KW : Below w.heap.size w wr := kp_trans HK3.out k4
      clear hne hc hFr hbr
      go_wp2_with fail
      refine bodyPost_ret (v := planV 0 ⟨#[]⟩ ⟨#[]⟩) ?_ rfl ⟨0, ⟨#[]⟩, ⟨#[]⟩, rfl, HPL.out, ((KW.setCell (Nat.le_refl _) _).setCell (Nat.le_refl _) _).setCell (Nat.le_refl _) _⟩
      rw [results_cell1 rfl]
      unfold planV
      go_simp
end

/- Rows of tokens and words of package class: contracts. -/
section
open Go.RowKit
set_option maxRecDepth 100000

/-- the first one's cells -/
theorem TR.head {w : World} {A : Option Addr} {n : Nat} {t : Tk} {r : List Tk} (h : TR w A n (t :: r)) : ∃ ad, A = some ad ∧ ad.block < w.heap.size ∧ ∀ w', Below w.heap.size w w' → w'.cell? ad = some (.int .i64 t.k) ∧ w'.cell? ⟨ad.block, ad.off + 1, none⟩ = some (.string t.t) := by
  obtain ⟨ad, hA, hb, hc⟩ := h.at_ (j := 0) (by simp)
  exact ⟨ad, hA, hb, fun w' hw => by simpa [Addr.add] using hc w' hw⟩

/-- a token is a word, or none, at a place of a row -/
theorem hasWord_ok (A : Option Addr) (n c : Nat) (ts : List Tk) (B : Option Addr) (m d : Nat) (ws : List ByteArray) (w : World) (h : TR w A n ts) (hs : SR w B m ws) (hn : n ≤ 1000000) (hm : m ≤ 1000000) :
    Calls Tryz.prog 68 #[.slice A n c, .slice B m d] w fun e w' => e = .returned (.bool (hasF (saysT ts) (txs ws))) ∧ Below w.heap.size w w' := by
  have hlen := Lib.hid h.len
  go_enter Tryz.func68, Tryz.ntmps68
  go_wp2
  go_loopw [9] (fun i wr => ∃ k : Nat, k ≤ n ∧ i = .int .i64 k ∧ Hid (hasF (saysT ts) (txs ws) = hasF (saysT (ts.drop k)) (txs ws)) ∧ Below w.heap.size w wr) (fun i _ => n - (intOf i).toNat)
  case atStart => exact ⟨0, Nat.zero_le _, rfl, Lib.hid rfl, Below.refl _ _⟩
  case round =>
    obtain ⟨k, hk, rfl, hx, kw⟩ := hrel
    by_cases hlt : k < n
    · have hkl : k < ts.length := by rw [hlen.out]; exact hlt
      obtain ⟨ad, rfl, _, hc⟩ := h.at_ hkl
      obtain ⟨c0, c1⟩ := hc _ kw
      have hst : hasF (saysT (ts.drop k)) (txs ws) = (wordF (txs ws) ts[k].says || hasF (saysT (ts.drop (k + 1))) (txs ws)) := by
        rw [List.drop_eq_getElem_cons hkl]
        rfl
      rw [hst] at hx
      have kw2 := kp_trans kw (kp_new wr (.cells #[.int .i64 ts[k].k, .string ts[k].t] 135))
      have hC := Lib.hid (isWord_ok ts[k] B m d ws _ (hs.next kw2) hm)
      clear hc hst
      generalize wordF (txs ws) ts[k].says = b at *
      generalize ts[k].k = x at *
      generalize ts[k].t = s at *
      cases b
      · have hx2 : Hid (hasF (saysT ts) (txs ws) = hasF (saysT (ts.drop (k + 1))) (txs ws)) := Lib.hid (by rw [hx.out]; rfl)
        clear hx
        go_wp2_with fail
        refine hC.out.mono ?_
        rintro e w1 ⟨rfl, k1⟩
        go_wp2_with fail
        go_roundw
        case rel => exact ⟨k + 1, by omega, by go_num, hx2, kp_trans kw2 k1⟩
        case measure => simp [intOf]; omega
      · have hF : hasF (saysT ts) (txs ws) = true := by rw [hx.out]; rfl
        have HF := Lib.hid hF
        clear hF hx
        go_wp2_with fail
        refine hC.out.mono ?_
        rintro e w1 ⟨rfl, k1⟩
        go_wp2_with fail
        go_ret
        exact ⟨by rw [HF.out]; rfl, kp_trans kw2 k1⟩
    · obtain rfl : k = n := by omega
      have hF : hasF (saysT ts) (txs ws) = false := by rw [hx.out, List.drop_eq_nil_of_le (by rw [hlen.out]; exact Nat.le_refl _)]; rfl
      have HF := Lib.hid hF
      clear hF hx
      go_wp2_with fail
      go_ret
      exact ⟨by rw [HF.out]; rfl, kw⟩

theorem beginsWith_ok (A : Option Addr) (n c : Nat) (ts : List Tk) (B : Option Addr) (m d : Nat) (ws : List ByteArray) (w : World) (h : TR w A n ts) (hs : SR w B m ws) (hm : m ≤ 1000000) :
    Calls Tryz.prog 71 #[.slice A n c, .slice B m d] w fun e w' => e = .returned (.bool (headF (saysT ts) (txs ws))) ∧ Below w.heap.size w w' := by
  cases ts with
  | nil =>
    obtain rfl : 0 = n := h.len
    go_enter Tryz.func71, Tryz.ntmps71
    go_wp2_with fail
    go_ret
    exact ⟨rfl, Below.refl _ _⟩
  | cons t r =>
    have hn : 0 < n := by have := h.len; simp at this; omega
    obtain ⟨ad, rfl, _, hc⟩ := h.head
    obtain ⟨c0, c1⟩ := hc _ (Below.refl _ _)
    have hC := Lib.hid (isWord_ok t B m d ws w hs hm)
    have hF : headF (saysT (t :: r)) (txs ws) = wordF (txs ws) t.says := rfl
    rw [hF]
    clear hc hF
    generalize wordF (txs ws) t.says = b at *
    obtain ⟨k, s⟩ := t
    go_enter Tryz.func71, Tryz.ntmps71
    go_wp2_with fail
    refine hC.out.mono ?_
    rintro e w1 ⟨rfl, k1⟩
    go_wp2_with fail
    go_ret
    exact ⟨rfl, k1⟩

theorem isBare_ok (A : Option Addr) (n c : Nat) (ts : List Tk) (B : Option Addr) (m d : Nat) (ws : List ByteArray) (w : World) (h : TR w A n ts) (hs : SR w B m ws) (hm : m ≤ 1000000) (hn : n ≤ 1000000) :
    Calls Tryz.prog 70 #[.slice A n c, .slice B m d] w fun e w' => e = .returned (.bool (bareF (saysT ts) (txs ws))) ∧ Below w.heap.size w w' := by
  cases ts with
  | nil =>
    obtain rfl : 0 = n := h.len
    go_enter Tryz.func70, Tryz.ntmps70
    go_wp2_with fail
    go_ret
    exact ⟨rfl, Below.refl _ _⟩
  | cons t r =>
    have hl : r.length + 1 = n := by have := h.len; simpa using this
    by_cases h1 : n = 1
    · subst h1
      obtain rfl : r = [] := List.eq_nil_of_length_eq_zero (by omega)
      obtain ⟨ad, rfl, _, hc⟩ := h.head
      obtain ⟨c0, c1⟩ := hc _ (Below.refl _ _)
      have hC := Lib.hid (isWord_ok t B m d ws w hs hm)
      have hF : bareF (saysT [t]) (txs ws) = wordF (txs ws) t.says := rfl
      rw [hF]
      clear hc hF
      generalize wordF (txs ws) t.says = b at *
      obtain ⟨k, s⟩ := t
      go_enter Tryz.func70, Tryz.ntmps70
      go_wp2_with fail
      refine hC.out.mono ?_
      rintro e w1 ⟨rfl, k1⟩
      go_wp2_with fail
      go_ret
      exact ⟨rfl, k1⟩
    · have hF : bareF (saysT (t :: r)) (txs ws) = false := by
        unfold bareF
        rw [saysT_length, List.length_cons, hl, decide_eq_false h1, decide_eq_false (by omega)]
        rfl
      have h0 : ¬ n = 0 := by omega
      rw [hF]
      clear hF hl
      go_enter Tryz.func70, Tryz.ntmps70
      go_wp2_with fail
      go_ret
      exact ⟨ret_bool (by simpa using h0), Below.refl _ _⟩

theorem classIf_ok (c : Int) (b : Bool) (w : World) : Calls Tryz.prog 69 #[.int .i64 c, .bool b] w fun e w' => e = .returned (.int .i64 (ifF c b)) ∧ w = w' := by
  cases b
  all_goals
    go_enter Tryz.func69, Tryz.ntmps69
    go_wp2_with fail
    go_ret
    exact ⟨rfl, rfl⟩
end

/- selected, withoutEnd of package class: contracts. -/
section
open Go.RowKit
set_option maxRecDepth 100000

theorem selected_ok (A : Option Addr) (n c : Nat) (ts : List Tk) (b : Bool) (w : World) (h : TR w A n ts) (hn : n ≤ 1000000) :
    Calls Tryz.prog 67 #[.slice A n c, .bool b] w fun e w' => e = .returned (.int .i64 (selF (saysT ts) b)) ∧ Below w.heap.size w w' := by
  have kw := kp_new w (.cells #[.string ⟨#[73, 78, 83, 69, 82, 84]⟩, .string ⟨#[85, 80, 68, 65, 84, 69]⟩, .string ⟨#[68, 69, 76, 69, 84, 69]⟩, .string ⟨#[82, 69, 80, 76, 65, 67, 69]⟩, .string ⟨#[73, 78, 84, 79]⟩, .string ⟨#[83, 72, 65, 82, 69]⟩] 9)
  have hS := SR.new w 9 [⟨#[73, 78, 83, 69, 82, 84]⟩, ⟨#[85, 80, 68, 65, 84, 69]⟩, ⟨#[68, 69, 76, 69, 84, 69]⟩, ⟨#[82, 69, 80, 76, 65, 67, 69]⟩, ⟨#[73, 78, 84, 79]⟩, ⟨#[83, 72, 65, 82, 69]⟩]
  have hC := Lib.hid (hasWord_ok A n c ts _ 6 6 _ _ (h.next kw) hS hn (by decide))
  have hF : selF (saysT ts) b = if hasF (saysT ts) six then 2 else ifF 1 b := rfl
  have hE : txs [⟨#[73, 78, 83, 69, 82, 84]⟩, ⟨#[85, 80, 68, 65, 84, 69]⟩, ⟨#[68, 69, 76, 69, 84, 69]⟩, ⟨#[82, 69, 80, 76, 65, 67, 69]⟩, ⟨#[73, 78, 84, 79]⟩, ⟨#[83, 72, 65, 82, 69]⟩] = six := rfl
  rw [hE] at hC
  rw [hF]
  clear hS hF hE
  generalize hasF (saysT ts) six = x at *
  cases x
  · go_enter Tryz.func67, Tryz.ntmps67
    go_wp2_with fail
    refine hC.out.mono ?_
    rintro e w1 ⟨rfl, k1⟩
    go_wp2_with fail
    refine (classIf_ok 1 b w1).mono ?_
    rintro e w2 ⟨rfl, rfl⟩
    go_wp2_with fail
    go_ret
    exact ⟨rfl, kp_trans kw k1⟩
  · go_enter Tryz.func67, Tryz.ntmps67
    go_wp2_with fail
    refine hC.out.mono ?_
    rintro e w1 ⟨rfl, k1⟩
    go_wp2_with fail
    go_ret
    exact ⟨rfl, kp_trans kw k1⟩

theorem TR.front {w : World} {A : Option Addr} {n : Nat} {ts : List Tk} (h : TR w A n ts) {k : Nat} (hk : k ≤ n) : TR w A k (ts.take k) :=
  ⟨by rw [List.length_take, h.len]; omega, by
    have := h.rd.front (k * 2)
    have e : (tkC ts).take (k * 2) = tkC (ts.take k) := by
      have h1 : tkC ts = tkC (ts.take k) ++ tkC (ts.drop k) := by rw [← tkC_append, List.take_append_drop]
      rw [h1, List.take_append_of_le_length (by rw [tkC_length, List.length_take, h.len]; omega), List.take_of_length_le (by rw [tkC_length, List.length_take]; omega)]
    rwa [e] at this⟩

set_option maxHeartbeats 400000 in
theorem withoutEnd_ok (A : Option Addr) (n c : Nat) (ts : List Tk) (w : World) (h : TR w A n ts) (hc : n ≤ c) (hn : n ≤ 1000000) :
    Calls Tryz.prog 43 #[.slice A n c] w fun e w' => ∃ k, e = .returned (.slice A k c) ∧ k ≤ n ∧ saysT (ts.take k) = endF (saysT ts) ∧ Below w.heap.size w w' := by
  have hlen := Lib.hid h.len
  go_enter Tryz.func43, Tryz.ntmps43
  go_wp2
  go_loopw [0] (fun v wr => ∃ k : Nat, k ≤ n ∧ v = .slice A k c ∧ Hid (endF (saysT ts) = endF (saysT (ts.take k))) ∧ Below w.heap.size w wr) (fun v _ => match v with | .slice _ k _ => k | _ => 0)
  case atStart => exact ⟨n, Nat.le_refl _, rfl, Lib.hid (by rw [List.take_of_length_le (by rw [hlen.out]; exact Nat.le_refl _)]), Below.refl _ _⟩
  case round =>
    obtain ⟨k, hk, rfl, hx, kw⟩ := hrel
    cases k with
    | zero =>
      have hF : saysT (ts.take 0) = endF (saysT ts) := by rw [hx.out]; rfl
      have HF := Lib.hid hF
      clear hF hx
      go_wp2_with fail
      go_ret
      exact ⟨0, rfl, hk, HF.out, kw⟩
    | succ j =>
      have hjl : j < ts.length := by rw [hlen.out]; omega
      obtain ⟨ad, rfl, _, hcc⟩ := h.at_ hjl
      obtain ⟨c0, c1⟩ := hcc _ kw
      have hS := Lib.hid (isStop_ok ts[j] wr)
      have hst : saysT (ts.take (j + 1)) = saysT (ts.take j) ++ [ts[j].says] := by
        rw [List.take_succ_eq_append_getElem hjl, saysT_append]
        rfl
      rw [hst] at hx
      have HST := Lib.hid hst
      have e1 : ((j + 1 : Nat) : Int) - 1 = (j : Int) := by omega
      clear hcc hst
      cases hs : stopF ts[j].says with
      | false =>
        have hF : saysT (ts.take (j + 1)) = endF (saysT ts) := by rw [hx.out, endF_last hs, HST.out]
        have HF := Lib.hid hF
        rw [hs] at hS
        clear hF hx hs
        generalize ts[j].k = x at *
        generalize ts[j].t = s at *
        go_wp2_with fail
        refine hS.out.mono ?_
        rintro e w1 ⟨rfl, k1⟩
        go_wp2_with fail
        go_ret
        exact ⟨j + 1, rfl, hk, HF.out, kp_trans kw k1⟩
      | true =>
        have hx2 : Hid (endF (saysT ts) = endF (saysT (ts.take j))) := Lib.hid (by rw [hx.out, endF_stop hs])
        rw [hs] at hS
        clear hx hs
        generalize ts[j].k = x at *
        generalize ts[j].t = s at *
        go_wp2_with fail
        refine hS.out.mono ?_
        rintro e w1 ⟨rfl, k1⟩
        go_wp2_with fail
        go_roundw
        case rel => exact ⟨j, by omega, rfl, hx2, kp_trans kw k1⟩
        case measure => simp
end

/- The document's layer 6: are tokens a form's, and which are its Strings: contracts. -/
section
open Go.RowKit
set_option maxRecDepth 100000
end

/- The document's layer 6: what a statement does: contract. -/
section
open Go.RowKit
set_option maxRecDepth 100000
end

/- The document's layer 5: word, has, tokens: contracts. -/
section
open Go.RowKit
set_option maxRecDepth 100000
end

/- The document's layer 5: the class of tokens: contract. -/
section
open Go.RowKit
set_option maxRecDepth 100000
end

/- The document's layer 5: the class of tokens: contract. -/
section
open Go.RowKit
set_option maxRecDepth 100000
end

/- The document's layer 5: Asks, Class: contracts. -/
section
open Go.RowKit
set_option maxRecDepth 100000
end

/- The document's layer 15: Table: contract. -/
section
open Go.RowKit
set_option maxRecDepth 100000

theorem wrT_of {d : Int} {k v s : ByteArray} (h : doing d k v = planA s.data.toList) (l : List Kv) : wrT l s = (writesF d k v l).1 := by
  unfold wrT
  rw [← h]
  show (writesF d (ba k.data.toList) (ba v.data.toList) l).1 = _
  rw [ba_text, ba_text]
theorem rdT_of {d : Int} {k v s : ByteArray} (h : doing d k v = planA s.data.toList) (l : List Kv) : rdT s l = readsF d k l := by
  unfold rdT
  rw [← h]
  show readsF d (ba k.data.toList) l = _
  rw [ba_text]
section
variable {b : Nat} {n : Nd} {S : Nat → Prop} {w : World}
end
end

/- The document's layer 15: do: contract. -/
section
open Go.RowKit
set_option maxRecDepth 100000

section
variable {b : Nat} {n : Nd} {AL : Option Addr} {nl cl : Nat} {AO : Option Addr} {no co : Nat} {os : List OpR} {S : Nat → Prop} {w u : World}
end
section
variable {b : Nat} {n : Nd} {S : Nat → Prop} {w : World}
end
end

/- The document's layer 15: Run: contract. -/
section
open Go.RowKit
set_option maxRecDepth 100000

def rpV (r : Rp) (A : Option Addr) (m d : Nat) : Value := .agg #[.int .i64 r.e, .int .u64 r.ep, .int .u64 r.pl, .slice A m d]
section
variable {b : Nat} {n : Nd} {S : Nat → Prop} {w : World} {k : Nat}
end
end

/- Layer 15: what the laws ask of the project's node, as one statement (to be proved of the landed code), over a thing that is the node; the law's of, entries, reply. -/
section
open Go.RowKit
set_option maxRecDepth 100000

/-- what a call on a thing leaves that tells a row: it lies in a new block, none of the thing's -/
structure Told1 (Y : Thing) (S : Nat → Prop) (A : Option Addr) (w w' : World) : Prop where
  at_ : ∃ S', Y.p S' w' ∧ (∀ k, S' k → S k ∨ w.heap.size ≤ k) ∧ ∀ ad, A = some ad → w.heap.size ≤ ad.block ∧ ad.block < w'.heap.size ∧ ¬ S' ad.block
  off : Off S w w'
theorem Told1.turn {Y : Thing} {S : Nat → Prop} {A : Option Addr} {w w' : World} (h : Told1 Y S A w w') : Turn Y S w w' := by
  obtain ⟨⟨S', h1, h2, _⟩, h4⟩ := h
  exact ⟨⟨S', h1, h2⟩, h4⟩
def I64n (i : Int) : Prop := -9223372036854775808 ≤ i ∧ i ≤ 9223372036854775807
def U64n (n : Int) : Prop := 0 ≤ n ∧ n < 18446744073709551616
structure NodeC0 (X : Nat → Nd → Thing) : Prop where
  new : ∀ (w : World), Lw w → Calls Tryz.prog 26 #[] w fun e w' => ∃ b, e = .returned (.pointer (some ⟨b, 0, none⟩)) ∧ (∃ S, (X b newNd).p S w' ∧ ∀ k, S k → w.heap.size ≤ k) ∧ Below w.heap.size w w'
  lead : ∀ (b : Nat) (n : Nd) (k : Nat) (e : Int) (S : Nat → Prop) (w : World), (X b n).p S w → NdI k n → U64n e →
    Calls Tryz.prog 27 #[.pointer (some ⟨b, 0, none⟩), .int .u64 e] w fun e' w' => e' = .returned (.bool (decide (n.ep ≤ e))) ∧ Turn (X b (leadNd n e)) S w w'
  run : ∀ (b : Nat) (n : Nd) (k : Nat) (c e : Int) (rd : Bool) (s : ByteArray) (S : Nat → Prop) (w : World), Lw w → (X b n).p S w → NdI k n → k ≤ 800 → Sm s → I64n c → U64n e →
    Calls Tryz.prog 28 #[.pointer (some ⟨b, 0, none⟩), .int .i64 c, .int .u64 e, .bool rd, .string s] w fun e' w' => ∃ A m d, e' = .returned (rpV (runNd n c e rd s).1 A m d) ∧ XR w' A m (runNd n c e rd s).1.ts ∧ Told1 (X b (runNd n c e rd s).2) S A w w'
  close : ∀ (b : Nat) (n : Nd) (k : Nat) (c : Int) (S : Nat → Prop) (w : World), (X b n).p S w → NdI k n → k ≤ 800 → I64n c →
    Calls Tryz.prog 30 #[.pointer (some ⟨b, 0, none⟩), .int .i64 c] w fun e' w' => e' = .returned (.bool (decide (0 ≤ idxOp c n.op))) ∧ Turn (X b (closeNd n c)) S w w'
  copy : ∀ (b f : Nat) (n fn : Nd) (k kf : Nat) (m : Int) (S T : Nat → Prop) (w : World), (X b n).p S w → (X f fn).p T w → (∀ k, S k → ¬ T k) → NdI k n → NdI kf fn → I64n m →
    Calls Tryz.prog 31 #[.pointer (some ⟨b, 0, none⟩), .pointer (some ⟨f, 0, none⟩), .int .i64 m] w fun e' w' => e' = .returned (.int .i64 (copyNd n fn m).1) ∧ Turn (X b (copyNd n fn m).2) S w w'
  self : ∀ (b : Nat) (n : Nd) (k : Nat) (m : Int) (S : Nat → Prop) (w : World), (X b n).p S w → NdI k n → I64n m →
    Calls Tryz.prog 31 #[.pointer (some ⟨b, 0, none⟩), .pointer (some ⟨b, 0, none⟩), .int .i64 m] w fun e' w' => e' = .returned (.int .i64 (copyNd n n m).1) ∧ Turn (X b (copyNd n n m).2) S w w'
  epoch : ∀ (b : Nat) (n : Nd) (k : Nat) (S : Nat → Prop) (w : World), (X b n).p S w → NdI k n →
    Calls Tryz.prog 17 #[.pointer (some ⟨b, 0, none⟩)] w fun e' w' => e' = .returned (.int .u64 n.ep) ∧ Below w.heap.size w w'
  leads : ∀ (b : Nat) (n : Nd) (k : Nat) (S : Nat → Prop) (w : World), (X b n).p S w → NdI k n →
    Calls Tryz.prog 18 #[.pointer (some ⟨b, 0, none⟩)] w fun e' w' => e' = .returned (.bool n.ld) ∧ Below w.heap.size w w'
  log : ∀ (b : Nat) (n : Nd) (k : Nat) (S : Nat → Prop) (w : World), (X b n).p S w → NdI k n →
    Calls Tryz.prog 21 #[.pointer (some ⟨b, 0, none⟩)] w fun e' w' => ∃ A m d, e' = .returned (.slice A m d) ∧ m ≤ d ∧ LR w' A m n.lg ∧ Told1 (X b n) S A w w'
structure NodeC (X : Nat → Nd → Thing) : Prop extends NodeC0 X where
  table : ∀ (b : Nat) (n : Nd) (k : Nat) (S : Nat → Prop) (w : World), Lw w → (X b n).p S w → NdI k n →
    Calls Tryz.prog 16 #[.pointer (some ⟨b, 0, none⟩)] w fun e' w' => ∃ A m d, e' = .returned (.slice A m d) ∧ KR w' A m (tabN n.lg []) ∧ Turn (X b n) S w w'

/-- one of three -/
theorem lof_ok (n : Int) (w : World) :
    Calls Tryz.prog 15 #[.int .i64 n] w fun e w' => e = .returned (.int .i64 (n % 3)) ∧ w = w' := by
  have h1 : n.tmod 3 = n % 3 ∨ (n % 3 ≠ 0 ∧ n.tmod 3 = n % 3 - 3) := by
    by_cases hn : 0 ≤ n
    · exact .inl (Int.tmod_eq_emod_of_nonneg hn)
    · have h2 : n.tmod 3 = -((-n) % 3) := by
        rw [← Int.tmod_eq_emod_of_nonneg (show (0 : Int) ≤ -n by omega), Int.neg_tmod, Int.neg_neg]
      omega
  have hb : -3 < n.tmod 3 ∧ n.tmod 3 < 3 := by omega
  have hw0 : IntKind.i64.wrap (n.tmod 3) = n.tmod 3 := by rw [IntKind.wrap_i64]; omega
  have hw1 : IntKind.i64.wrap (n.tmod 3 + 3) = n.tmod 3 + 3 := by rw [IntKind.wrap_i64]; omega
  have h2 : (n.tmod 3 + 3).tmod 3 = n % 3 := by
    rw [Int.tmod_eq_emod_of_nonneg (by omega)]
    omega
  have hw2 : IntKind.i64.wrap (n % 3) = n % 3 := by rw [IntKind.wrap_i64]; omega
  go_enter Tryz.func15, Tryz.ntmps15
  go_wp2_with fail
  go_ret
  exact ⟨by first | rfl | rw [h2]; rfl | simp [h2], rfl⟩
set_option maxHeartbeats 4000000 in
theorem lentries_ok (A : Option Addr) (n c : Nat) (ts : List Lg) (w : World) (h : LR w A n ts) (hn : n ≤ 1000) :
    Calls Tryz.prog 20 #[.slice A n c] w fun e w' => ∃ A' c', e = .returned (.slice A' n c') ∧ LR w' A' n ts ∧ Below w.heap.size w w' := by
  obtain ⟨i0, hi, hz0, hz1, hz2⟩ := info_parts entinfo
  have HX := Lib.hid h
  have HL := Lib.hid h.len
  have HO0 : Hid ((w.alloc (.cells #[] 71)).ownsRow w.heap.size 71 2 (.slice (some ⟨w.heap.size, 0, none⟩) 0 0) 0 (lgC (ts.take 0))) := Lib.hid (own_new_s w w.heap.size 2 71 0 [] rfl (Nat.le_refl _) (Nat.zero_le _))
  have HK0 := Lib.hid (kp_new w (.cells #[] 71))
  clear h
  go_enter Tryz.func20, Tryz.ntmps20
  go_wp2_with fail
  go_loopw [3, 9] (fun o i wr => ∃ (q e : Nat) (D : Option Addr), q ≤ n ∧ i = .int .i64 q ∧ o = .slice D q e ∧ Hid (wr.ownsRow w.heap.size 71 2 (.slice D q e) q (lgC (ts.take q))) ∧ Hid (Below w.heap.size w wr)) (fun _ i _ => n - (intOf i).toNat)
  case atStart => exact ⟨0, 0, _, Nat.zero_le _, rfl, rfl, HO0, HK0⟩
  case round =>
    obtain ⟨q, e, D, hq, rfl, rfl, ho, hb⟩ := hrel
    clear HO0 HK0
    by_cases hlt : q < n
    · have hql : q < ts.length := by rw [HL.out]; exact hlt
      have HNX : Hid (lgC (ts.take (q + 1)) = lgC (ts.take q) ++ [.int .u64 ts[q].e, .string ts[q].t]) := Lib.hid (by
        rw [List.take_succ_eq_append_getElem hql, lgC_append]
        rfl)
      obtain ⟨ad, rfl, _, hc⟩ := HX.out.at_ hql
      obtain ⟨d1, d2⟩ := hc wr hb.out
      clear hc
      generalize ts[q].e = x1 at *
      generalize ts[q].t = x2 at *
      have HO1 := Lib.hid ((ho.out.alloc (.cells #[.int .u64 x1, .string x2] 65)).alloc (.cells #[.int .u64 x1, .string x2] 71))
      have HSRC : Hid (Rd ((wr.alloc (.cells #[.int .u64 x1, .string x2] 65)).alloc (.cells #[.int .u64 x1, .string x2] 71)) (wr.heap.size + 1 + 1) (some ⟨wr.heap.size + 1, 0, none⟩) [.int .u64 x1, .string x2]) := Lib.hid (by
        have := Rd.new (wr.alloc (.cells #[.int .u64 x1, .string x2] 65)) 71 [.int .u64 x1, .string x2]
        rwa [World.size_alloc] at this)
      have KA := Lib.hid (kp_alloc (kp_alloc hb.out (.cells #[.int .u64 x1, .string x2] 65)) (.cells #[.int .u64 x1, .string x2] 71))
      have HSW := Lib.hid KA.out.size
      clear ho
      go_wp2_with (at_builtin; refine wpList_append_rds rfl _ _ _ rfl w.heap.size 71 i0 _ 2 24 Tryz.underlying51 hi hz0 hz1 hz2 rfl (by omega) _ q _ rfl HO1.out _ _ 1 _ [.int .u64 x1, .string x2] rfl rfl HSRC.out (by simp [Value.oneCell']) (by unfold maxLen; omega) (by omega) HSW.out ?_; intro v3 w3 hown3 hg3; obtain ⟨D3, e3, rfl, _, _⟩ := own_form_s hown3; have HO3 := Lib.hid hown3; have HK3 := Lib.hid (KA.out.trans (below_own_s HO1.out hg3 HSW.out)); clear hown3 hg3)
      go_roundw
      case rel => exact ⟨q + 1, e3, D3, by omega, by go_num, rfl, Lib.hid (by rw [HNX.out]; exact HO3.out), HK3⟩
      case measure => simp [intOf]; omega
    · obtain rfl : q = n := by omega
      rw [List.take_of_length_le (by rw [HL.out]; exact Nat.le_refl _)] at ho
      go_wp2_with fail
      go_ret
      exact ⟨D, e, rfl, LR.of_own ho.out, hb.out⟩
theorem lreply_ok (r : Rp) (A : Option Addr) (m d : Nat) (w : World) :
    Calls Tryz.prog 32 #[rpV r A m d] w fun e w' => e = .returned (rpV r A m d) ∧ Below w.heap.size w w' := by
  obtain ⟨e, ep, pl, ts⟩ := r
  unfold rpV
  dsimp only
  go_enter Tryz.func32, Tryz.ntmps32
  go_wp2_with fail
  refine bodyPost_ret (v := .agg #[.int .i64 e, .int .u64 ep, .int .u64 pl, .slice A m d]) ?_ rfl ⟨rfl, ?_⟩
  · rw [results_cell1 rfl]
    go_simp
  · exact kp_alloc (kp_new _ _) _
end
end Go.Proofs.YtaoegiohnebnhaaGreatDoor
