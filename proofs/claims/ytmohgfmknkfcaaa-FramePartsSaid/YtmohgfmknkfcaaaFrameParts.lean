/-
  FrameParts answers true for every input: however bytes are parted, the same frames are told, and the same error. No condition.
-/
import Derived.Test.YtmohgfmknkfcaaaAwake2
import Derived.Test.YtmohgfmknkfcaaaFrameI
import Derived.Test.YtmohgfmknkfcaaaFrameM
import Derived.Test.YtmohgfmknkfcaaaOpenF
namespace Go.Proofs.Ytmohgfmknkfcaaa
open Go.RowKit

/-- what stands behind a part more is what all bytes up to it tell -/
theorem parts_step (bs : List UInt8) (p t : Nat) (hp : p ≤ t) (kept : List UInt8) (x : Int) (h : (allF (bs.take p)).2 = (kept, x)) :
    allF (bs.take t) = ((allF (bs.take p)).1 ++ (feedF kept x ((bs.take t).drop p)).1, (feedF kept x ((bs.take t).drop p)).2) := by
  have e : bs.take t = bs.take p ++ (bs.take t).drop p := by
    rw [show bs.take p = (bs.take t).take p by rw [List.take_take, Nat.min_eq_left hp], List.take_append_drop]
  have hk : (allF (bs.take p)).2.1 = kept := by rw [h]
  have hx : (allF (bs.take p)).2.2 = x := by rw [h]
  by_cases h0 : x = 0
  · rw [feedF, if_pos h0]
    conv => lhs; rw [e]
    rw [allF_append _ _ (by rw [hx, h0]), hk]
  · rw [feedF, if_neg h0]
    conv => lhs; rw [e]
    rw [allF_append_bad _ _ (by rw [hx]; exact h0)]
    simp only [List.append_nil]
    rw [← h]

theorem FO.append {w w' : World} {base n c m : Nat} {A : Option Addr} {rs rs' : List Rep} {v : Value} (h : FO w base A n c rs) (hb : ∀ r ∈ rs', Ow w base r.p.A r.p.l r.p.c r.p.bs) (ho : w'.ownsRow base 24 2 v (n + m) (repCells rs ++ repCells rs')) (hg : w.grownBy w' (Value.slice A n c).ownBlock) :
    ∃ A' c', v = .slice A' (n + m) c' ∧ FO w' base A' (n + m) c' (rs ++ rs') := by
  obtain ⟨A', c', rfl, _, _⟩ := own_form_s ho
  refine ⟨A', c', rfl, ⟨by rw [repCells_append]; exact ho, fun q hq => ?_⟩⟩
  have hq' : Ow w base q.p.A q.p.l q.p.c q.p.bs := by
    rcases List.mem_append.1 hq with h1 | h1
    · exact h.body q h1
    · exact hb q h1
  exact ⟨own_apart hq'.own h.own (by decide) hg, hq'.len, hq'.cap, hq'.most⟩

theorem Bel.then_below {b : Nat} {a c d : World} (h : Bel b a c) (k : Below a.heap.size c d) : Bel b a d :=
  ⟨k.os.trans h.os, k.tape.trans h.tape, k.output.trans h.output, Nat.le_trans h.size k.size, fun i hi hn => (k.block i hi).trans (h.block i hi hn)⟩
/-- a decoder, behind an append onto a row of another kind -/
theorem Dec.grown {w w' : World} {b base base' n size B : Nat} {kept : List UInt8} {x : Int} {e : TypeId} {v : Value} {xs : List Value} (h : Dec w b base kept x) (h' : w.ownsRow base' e size v n xs) (he : 5 ≠ e) (hg : w.grownBy w' v.ownBlock) (hb : Below B w w') (hB : b < B) : Dec w' b base kept x := by
  obtain ⟨A, l, c, h1, ho⟩ := h.at_
  exact ⟨A, l, c, (hb.block b hB).trans h1, ⟨own_apart ho.own h' he hg, ho.len, ho.cap, ho.most⟩⟩

theorem intinfo : (Try.prog.info? 3).map (fun i => (i.zero, i.size, i.bytes)) = some (some (.int .i64 0), 1, 8) := by kernel_rfl

/-- where a part ends -/
def cutTo (n : Int) (p l : Nat) : Nat := if n ≤ p then p else if n ≤ l then n.toNat else l
theorem cutTo_le (n : Int) (p l : Nat) (h : p ≤ l) : p ≤ cutTo n p l ∧ cutTo n p l ≤ l := by
  unfold cutTo
  split
  · omega
  · split <;> omega

set_option maxRecDepth 100000 in
set_option maxHeartbeats 4000000 in
theorem frameParts_walk (A : Option Addr) (l c : Nat) (bs : List UInt8) (Az : Option Addr) (m cz : Nat) (zs : List Int) (w : World) (hr : Sl w w.heap.size A l c bs) (hlen : zs.length = m) (hrd : Rd w w.heap.size Az (zs.map (Value.int .i64))) (hzs : ∀ z ∈ zs, -9223372036854775808 ≤ z ∧ z ≤ 9223372036854775807) (hl : l ≤ 2000) (hm : m ≤ 40) :
    Calls Try.prog 5 #[.slice A l c, .slice Az m cz] w fun e w' => e = .returned (.bool true) ∧ Below w.heap.size w w' := by
  obtain ⟨j0, hj, hy0, hy1, hy2⟩ := info_parts intinfo
  obtain ⟨i0, hi, hz0, hz1, hz2⟩ := info_parts finfo
  have d1 : decide ((2000 : Int) < (l : Int)) = false := by simp; omega
  have d2 : decide ((40 : Int) < (m : Int)) = false := by simp; omega
  have HLEN := Lib.hid hlen
  have HZS := Lib.hid hzs
  have HBL := Lib.hid hr.len
  clear hlen hzs
  go_enter Try.func5, Try.ntmps5
  go_wp2_with fail
  refine (awake2 w).mono ?_
  rintro e w1 ⟨rfl, k1⟩
  go_wp2_with fail
  refine (new_any w1 (w1.heap.size + 2)).mono ?_
  rintro e w2 ⟨rfl, hd2, hz2, kb2⟩
  go_wp2_with fail
  refine (new_any w2 (w2.heap.size + 1)).mono ?_
  rintro e w3 ⟨rfl, hd3, hz3, kb3⟩
  have hsb := k1.size
  have hd23 := hd2.next kb3
  generalize hbb : w1.heap.size = b at *
  rw [hz2] at hd3
  have z3 : b + 2 ≤ w3.heap.size := by omega
  have k3 : Below w.heap.size w w3 := (k1.trans (kb2.mono (by omega))).trans (kb3.mono (by omega))
  have hd3 : Dec w3 (b + 1) (b + 2) [] 0 := hd3
  have HZ2 := Lib.hid hz2
  clear hz2 hz3 kb2 kb3 hd2 k1 hbb
  have hfeed := feed_any w3 b (b + 2) [] bs 0 hd23 z3 A l c (hr.next k3) (by simp; omega)
  unfold FeedsTo at hfeed
  have e1 : feedF [] 0 bs = allF bs := by rw [feedF, if_pos rfl]; rfl
  rw [e1] at hfeed
  have HF := Lib.hid hfeed
  clear e1 hfeed
  go_wp2_with fail
  refine HF.out.mono ?_
  rintro e w4 ⟨A4, n4, c4, rs4, rfl, hs4, hf4, hn4, hd4, hb4⟩
  have z4 : b + 2 ≤ w4.heap.size := by have := hb4.size; omega
  have k4 : Below w.heap.size w w4 := k3.trans (hb4.below hsb (by omega))
  have hf4 := hf4.base z3
  have hdc4 := hd3.bel hb4 (by omega) (by omega)
  rw [HZ2.out]
  clear hd23 hd3 hb4 HF
  have k5 := kp_new w4 (.cells #[] 3)
  have ho5 := own_new_s w4 w4.heap.size 1 3 0 [] rfl (Nat.le_refl _) (Nat.zero_le _)
  have hrd5 := ((hrd.below k4 (Nat.le_refl _)).below k5 k4.size).more (Nat.le_trans k4.size k5.size)
  go_wp2_with (at_builtin; first
    | (refine wpList_append_rd rfl (.tmp 35) (.tmp 36) _ rfl w4.heap.size 3 j0 _ 8 Try.underlying51 hj hy0 hy1 hy2 rfl _ 0 _ rfl ho5 _ _ _ _ (zs.map (Value.int .i64)) rfl (by simpa using HLEN.out) hrd5 (by simp [Value.oneCell']) (by unfold maxLen; omega) (by omega) (by simp) ?_; intro v6 w6 hown6 hg6; rw [List.nil_append, Nat.zero_add] at hown6; obtain ⟨A6, c6, rfl, _, _⟩ := own_form_s hown6; have k6 := k5.trans (below_own_s ho5 hg6 (by simp)); have k7 := kp_trans k6 (kp_new w6 (.cells #[.int .i64 (l : Int)] 3)))
    | (refine wpList_append_rd rfl (.tmp 37) (.tmp 40) _ rfl w4.heap.size 3 j0 _ 8 Try.underlying51 hj hy0 hy1 hy2 rfl _ m _ rfl (hown6.alloc _) (w6.heap.size + 1) _ _ _ [.int .i64 (l : Int)] rfl rfl (Rd.new _ _ _) (by simp [Value.oneCell']) (by unfold maxLen; omega) (by omega) k7.size ?_; intro v8 w8 hown8 hg8; obtain ⟨A8, c8, rfl, _, _⟩ := own_form_s hown8; have k8 := k7.trans (below_own_s (hown6.alloc _) hg8 k7.size)))
  have z8 : b + 2 ≤ w8.heap.size := by have := k8.size; omega
  have hown8 : w8.ownsRow (b + 2) 3 1 (.slice A8 (m + 1) c8) (m + 1) (zs.map (Value.int .i64) ++ [.int .i64 (l : Int)]) := own_base_s hown8 z4
  have hf8 := hf4.next k8
  have hd8 := hd4.next k8
  have hdc8 := hdc4.next k8
  have kw8 := kp_trans k4 k8
  clear hown6 hg6 hg8 ho5 hrd5 hf4 hd4 hdc4 k5 k6 k7
  go_loopw [9, 10, 11, 43] (fun v9 v10 v11 v43 wr => ∃ (q p : Nat) (x : Int) (kept : List UInt8) (A9 : Option Addr) (n9 c9 : Nat) (rs : List Rep), v43 = .int .i64 q ∧ v11 = .int .i64 p ∧ v10 = .int .i64 x ∧ v9 = .slice A9 n9 c9 ∧ q ≤ m + 1 ∧ p ≤ l ∧ Hid (q = m + 1 → p = l) ∧ Hid (allF (bs.take p) = (says rs, kept, x)) ∧ FO wr w8.heap.size A9 n9 c9 rs ∧ Dec wr (b + 1) (b + 2) kept x ∧ Bel (b + 1) w8 wr) (fun _ _ _ v43 _ => m + 1 - (intOf v43).toNat)
  case atStart => exact ⟨0, 0, 0, [], none, 0, 0, [], rfl, rfl, rfl, rfl, Nat.zero_le _, Nat.zero_le _, Lib.hid (by omega), Lib.hid (by rw [List.take_zero, allF_nil]; rfl), FO.nil _ _, hdc8, Bel.of _ (Below.refl _ _)⟩
  case round =>
    obtain ⟨q, p, x, kept, A9, n9, c9, rs, rfl, rfl, rfl, rfl, hq, hp, HE, HA, hf, hdc, hbel⟩ := hrel
    have zr : b + 2 ≤ wr.heap.size := by have := hbel.size; omega
    have kr : Below w.heap.size w wr := kw8.trans (hbel.below (by omega) (by omega))
    have hown := own_bel hown8 hbel (by omega)
    by_cases hlt : q < m + 1
    · obtain ⟨y, hy, hyb⟩ : ∃ y : Int, (zs.map (Value.int .i64) ++ [.int .i64 (l : Int)])[q]? = some (.int .i64 y) ∧ (-9223372036854775808 ≤ y ∧ y ≤ 9223372036854775807) ∧ (q = m → y = l) := by
        by_cases hqm : q < m
        · have hqz : q < zs.length := by rw [HLEN.out]; exact hqm
          exact ⟨zs[q], by rw [List.getElem?_append_left (by simpa using hqz)]; simp [hqz], HZS.out _ (List.getElem_mem hqz), by omega⟩
        · obtain rfl : q = m := by omega
          exact ⟨l, by rw [List.getElem?_append_right (by simp [HLEN.out])]; simp [HLEN.out], by omega, fun _ => rfl⟩
      obtain ⟨⟨hy1, hy2⟩, hyl⟩ := hyb
      obtain ⟨ad, rfl, hbl, hcells⟩ := (Rd.of_own hown).addr (by simp)
      have hcell := hcells q _ hy
      have HYL := Lib.hid hyl
      clear hyl hcells hy
      obtain ⟨mx, hmx, hmxe⟩ : ∃ mx : Int, (∀ (u : World) (ts : Array TypeId) (ty : TypeId), (Builtin.max_ ts ty #[.int .i64 y, .int .i64 (p : Int)]).run Try.prog u = .ok (.int .i64 mx) u) ∧ mx = (if (p : Int) > y then (p : Int) else y) := ⟨_, fun u ts ty => run_max_int2 (P := Try.prog) (w := u) ts ty .i64 .i64 y p, rfl⟩
      obtain ⟨tv, hmn, htve⟩ : ∃ tv : Int, (∀ (u : World) (ts : Array TypeId) (ty : TypeId), (Builtin.min_ ts ty #[.int .i64 mx, .int .i64 (l : Int)]).run Try.prog u = .ok (.int .i64 tv) u) ∧ tv = (if (l : Int) < mx then (l : Int) else mx) := ⟨_, fun u ts ty => run_min_int2 (P := Try.prog) (w := u) ts ty .i64 .i64 mx l, rfl⟩
      obtain ⟨t, htv, ht1, ht2, htm⟩ : ∃ t : Nat, tv = (t : Int) ∧ p ≤ t ∧ t ≤ l ∧ (q = m → t = l) := by
        refine ⟨tv.toNat, ?_, ?_, ?_, fun h => ?_⟩
        · split at hmxe <;> split at htve <;> omega
        · split at hmxe <;> split at htve <;> omega
        · split at hmxe <;> split at htve <;> omega
        · have := HYL.out h; split at hmxe <;> split at htve <;> omega
      clear hmxe htve
      have HTM := Lib.hid htm
      obtain ⟨As, hsl, hss⟩ := hr.cut2 Try.prog 22 Try.underlying22 u8size (i := p) (j := t) p tv rfl htv ht1 ht2
      have HTV := Lib.hid htv
      clear htv htm HYL
      obtain ⟨_, r2, r3, _, r5⟩ := allF_rest (bs.take p)
      rw [HA.out] at r2 r3 r5
      simp only [List.length_take, says, List.length_map] at r2 r3 r5
      have hk0 : kept.length ≤ p := by omega
      have hn9 : n9 ≤ p := by rw [← hf.len]; omega
      have hstep := parts_step bs p t ht1 kept x (by rw [HA.out])
      rw [HA.out] at hstep
      have hfeed := feed_any wr (b + 1) (b + 2) kept ((bs.take t).drop p) x hdc zr As (t - p) (c - p) (hss.next kr) (by omega)
      unfold FeedsTo at hfeed
      have hno : x ≠ 0 → feedF kept x ((bs.take t).drop p) = ([], kept, x) := fun h => by rw [feedF, if_neg h]
      generalize feedF kept x ((bs.take t).drop p) = R at *
      obtain ⟨f1, f2, f3⟩ := R
      simp only at hfeed hstep
      have HST := Lib.hid hstep
      have HF := Lib.hid hfeed
      clear hstep hfeed r2 r3 r5 hk0
      by_cases hx : x = 0
      · subst hx
        clear hno
        go_wp2_with fail
        (with_reducible refine HF.out.mono ?_)
        rintro e wa ⟨Aa, na, ca, rsa, rfl, hsa, hfa, hna, hda, hba⟩
        have hbela := hbel.trans hba
        have za : w8.heap.size ≤ wa.heap.size := hbela.size
        have hfa' := hfa.base hbel.size
        have hf' := hf.bel hba (by omega)
        have HSA := Lib.hid hsa
        clear hsa
        go_wp2_with (at_builtin; refine wpList_append_rds rfl (.tmp 74) (.tmp 75) _ rfl w8.heap.size 24 i0 _ 2 32 Try.underlying44 hi hz0 hz1 hz2 rfl (by omega) _ n9 _ rfl hf'.own _ _ _ _ (repCells rsa) rfl (by rw [repCells_length, hfa.len]) hfa'.fr.rd (repCells_one _) (by unfold maxLen; omega) (by omega) za ?_; intro vb wb hownb hgb; obtain ⟨Ab, cb, rfl, hfb⟩ := FO.append hf' hfa'.body hownb hgb; have kb := below_own_s hf'.own hgb za)
        go_roundw
        case rel => exact ⟨q + 1, t, f3, f2, Ab, n9 + na, cb, rs ++ rsa, by go_num, by rw [HTV.out], rfl, rfl, by omega, ht2, Lib.hid (fun h => HTM.out (by omega)), Lib.hid (by rw [HST.out, says_append, HSA.out]), hfb, hda.grown hf'.own (by decide) hgb kb (by omega), hbela.then_below kb⟩
        case measure => simp [intOf]; omega
      · obtain ⟨rfl, rfl, rfl⟩ : [] = f1 ∧ kept = f2 ∧ x = f3 := by have := hno hx; simp at this; exact ⟨this.1.symm, this.2.1.symm, this.2.2.symm⟩
        have ex : (x != 0) = true := by simpa using hx
        have exx : (x != x) = false := by simp
        clear hno hx
        go_wp2_with fail
        (with_reducible refine HF.out.mono ?_)
        rintro e wa ⟨Aa, na, ca, rsa, rfl, hsa, hfa, hna, hda, hba⟩
        obtain rfl := says_none hsa
        obtain rfl : 0 = na := hfa.len
        have hbela := hbel.trans hba
        have za : w8.heap.size ≤ wa.heap.size := hbela.size
        have hfa' := hfa.base hbel.size
        have hf' := hf.bel hba (by omega)
        clear hsa
        go_wp2_with (at_builtin; refine wpList_append_rds rfl (.tmp 74) (.tmp 75) _ rfl w8.heap.size 24 i0 _ 2 32 Try.underlying44 hi hz0 hz1 hz2 rfl (by omega) _ n9 _ rfl hf'.own _ _ _ _ (repCells []) rfl rfl hfa'.fr.rd (repCells_one _) (by unfold maxLen; omega) (by omega) za ?_; intro vb wb hownb hgb; obtain ⟨Ab, cb, rfl, hfb⟩ := FO.append hf' hfa'.body hownb hgb; have kb := below_own_s hf'.own hgb za)
        go_roundw
        case rel => exact ⟨q + 1, t, x, kept, Ab, n9 + 0, cb, rs ++ [], by go_num, by rw [HTV.out], rfl, rfl, by omega, ht2, Lib.hid (fun h => HTM.out (by omega)), Lib.hid (by rw [HST.out]; simp), hfb, hda.grown hf'.own (by decide) hgb kb (by omega), hbela.then_below kb⟩
        case measure => simp [intOf]; omega
    · obtain rfl : q = m + 1 := by omega
      obtain rfl := HE.out rfl
      have hA := HA.out
      rw [List.take_of_length_le (by rw [HBL.out]; exact Nat.le_refl _)] at hA
      have hs4' : says rs4 = says rs := by rw [hs4, hA]
      obtain ⟨_, _, r3, r4, _⟩ := allF_rest bs
      rw [hA] at r3 r4
      have hnl : n9 ≤ p := by
        have h1 : (says rs).length ≤ bs.length := r3
        rw [HBL.out] at h1
        rw [← hf.len]; simpa [says] using h1
      have hlr : ∀ r ∈ rs, r.p.bs.length ≤ 1000000 := fun r hr => by
        have h1 := r4 r.says (List.mem_map.2 ⟨r, hr, rfl⟩)
        simp only [Rep.says] at h1
        omega
      have hn4' : n4 = n9 := by
        rw [← hf8.len, ← hf.len]
        have := congrArg List.length hs4'
        simpa [says] using this
      have hdd := hd8.bel hbel (by omega) (by omega)
      have hff := hf8.bel hbel (by omega)
      rw [hA] at hdd
      have e3 : (allF bs).2.2 = x := by rw [hA]
      have E3 := Lib.hid e3
      have HS4 := Lib.hid hs4'
      have HLR := Lib.hid hlr
      have hn4'' : n4 ≤ 2000 := by omega
      have hn9'' : n9 ≤ 2000 := by omega
      clear e3 hs4' hlr hn4' r3 r4 hA hnl
      simp only at hdd
      go_wp2_with fail
      refine (frames_any _ _ _ rs _ hf.fr (by omega)).mono ?_
      rintro e wa ⟨Aa, ca, rfl, hfa, ka⟩
      go_wp2_with fail
      refine (frames_any _ _ _ rs4 _ (hff.next ka).fr (by omega)).mono ?_
      rintro e wb ⟨Ab, cb, rfl, hfb, kb⟩
      go_wp2_with fail
      refine (rsame_kp _ _ rs rs4 _ _ _ _ _ (hfa.next kb) hfb (by omega) HLR.out true (Lib.hid (by rw [HS4.out]; simp))).mono ?_
      rintro e wc ⟨rfl, kc⟩
      have kabc := kp_trans (kp_trans ka kb) kc
      rw [E3.out]
      go_wp2_with fail
      refine (pending_any _ (b + 1) (b + 2) kept x (hdc.next kabc)).mono ?_
      rintro e w' ⟨rfl, rfl⟩
      go_wp2_with fail
      refine (pending_any _ b (b + 2) kept x (hdd.next kabc)).mono ?_
      rintro e w' ⟨rfl, rfl⟩
      go_wp2_with fail
      go_ret
      exact ⟨rfl, kp_trans kr kabc⟩

theorem frameParts_any (A : Option Addr) (l c : Nat) (bs : List UInt8) (Az : Option Addr) (m cz : Nat) (zs : List Int) (w : World) (hr : Sl w w.heap.size A l c bs) (_ : c ≤ 140737488351232) (hlen : zs.length = m) (hrd : Rd w w.heap.size Az (zs.map (Value.int .i64))) (hzs : ∀ z ∈ zs, -9223372036854775808 ≤ z ∧ z ≤ 9223372036854775807) (_ : m ≤ cz) (_ : cz * 8 ≤ 140737488351232) :
    Calls Try.prog 5 #[.slice A l c, .slice Az m cz] w fun e w' => e = .returned (.bool true) ∧ Below w.heap.size w w' := by
  have hlc := hr.cap
  by_cases hl : l ≤ 2000
  · by_cases hm : m ≤ 40
    · exact frameParts_walk A l c bs Az m cz zs w hr hlen hrd hzs hl hm
    · have d1 : decide ((2000 : Int) < (l : Int)) = false := by simp; omega
      have d2 : decide ((40 : Int) < (m : Int)) = true := by simp; omega
      clear hlen hrd hzs hr
      go_enter Try.func5, Try.ntmps5
      go_wp2_with fail
      refine (awake2 w).mono ?_
      rintro e w1 ⟨rfl, k1⟩
      go_wp2_with fail
      go_ret
      exact ⟨rfl, k1⟩
  · have d1 : decide ((2000 : Int) < (l : Int)) = true := by simp; omega
    clear hlen hrd hzs hr
    go_enter Try.func5, Try.ntmps5
    go_wp2_with fail
    refine (awake2 w).mono ?_
    rintro e w1 ⟨rfl, k1⟩
    go_wp2_with fail
    go_ret
    exact ⟨rfl, k1⟩

namespace FrameParts
open Go.ChangeShapes Go.WideShapes Go.ChangeAt
open Go.ChangeMaps (open_string)

theorem contract (H : Type) (enc : TypeId × Value → H) (W : World) (base : Nat) (args : Array Value) (ds gs : List (DataW H)) (before : List MemPlace)
    (hval : ∀ (j : Nat) t v, Try.f5.params[j]? = some t → args[j]? = some v → Value.okWide Try.prog W .any base t v)
    (hW : DataW.Whole enc Try.prog Try.f5.params.toList Rows.framePartsSpec.vars false W args.toList ds gs before)
    (hsz0 : (DataW.weightsEach Try.prog (Try.f5.params.toList ++ Rows.framePartsSpec.plain.varTypes Try.prog) (ds ++ gs)).all (· ≤ reachBytes) = true) :
    Calls Try.prog 5 args W fun e W' => ∃ v, e = .returned v ∧ Rows.framePartsSpec.post enc Try.prog Try.f5 false true false false W args v W' := by
  have hW' := hW
  obtain ⟨p, q, hA0, hV, rfl, _, _⟩ := hW
  have hA : DataW.TrodAll enc Try.prog W 0 (fun _ => true) true Try.f5.params.toList args.toList ds p := hA0
  have hsz : (DataW.weightsEach Try.prog (Try.f5.params.toList ++ Rows.framePartsSpec.plain.varTypes Try.prog) (ds ++ gs)).all (· ≤ reachBytes) = true := hsz0
  clear hsz0
  rw [Try.params5] at hA hval hsz
  obtain ⟨v0, vs0, d0, ds0, p0, q0, hargs, rfl, rfl, h0, t0⟩ := trodAll_cons hA
  obtain ⟨v1, vs1, d1, ds1, p1, q1, rfl, rfl, rfl, h1, t1⟩ := trodAll_cons t0
  obtain ⟨rfl, rfl, rfl⟩ := trodAll_nil t1
  obtain rfl : args = #[v0, v1] := by cases args; simp_all
  obtain ⟨rfl, rfl⟩ := trodVars_none hV
  obtain ⟨A0, l0, c0, bs0, rfl, r0, g0⟩ := open_bytes_w Try.underlying22 Try.underlying5 (by kernel_rfl) (by kernel_rfl) (hval 0 22 v0 rfl rfl) h0 (light_of hsz (j := 0) rfl rfl)
  obtain ⟨A1, l1, c1, zs1, rfl, n1, r1, m1, q1, g1⟩ := open_ints_w Try.underlying51 Try.underlying3 (by kernel_rfl) (by kernel_rfl) (hval 1 51 v1 rfl rfl) h1 (light_of hsz (j := 1) rfl rfl)
  refine (frameParts_any A0 l0 c0 bs0 A1 l1 c1 zs1 W r0 g0 n1 r1 m1 q1 g1).mono fun e W' ⟨he, hb⟩ => ⟨_, he, ?_⟩
  exact law_post laid0 (by rw [Try.params5]; decide +kernel) rfl (by kernel_rfl) Try.underlying4 hW' rfl hb

set_option maxRecDepth 100000 in
theorem lifted (os : Os) (started : os.Started) (H : Type) (enc : TypeId × Value → H) :
    ReturnsInHanded {} Try.checked os 5 .any (Rows.framePartsSpec.pre6 enc Try.prog Try.f5 Rows.framePartsRow.domain false) (Rows.framePartsSpec.post enc Try.prog Try.f5 false true false false) := by
  refine returnsInHanded_of_change_sized (C := Try.checked) own0 started (by kernel_rfl) Try.func5
    (ChangeSpec.witness6 (enc := enc) (C := Try.checked) false ⟨#[], #[.slice none 0 0, .slice none 0 0], []⟩ 8 (by kernel_rfl) (by kernel_rfl) (by kernel_rfl) (by kernel_rfl)) ?_
  intro W base args ds gs before hval hW _ hsz _
  exact contract H enc W base args ds gs before hval hW hsz

theorem proved : Rows.FramePartsSaid :=
  OpenClaim.holds_of_wide 5 Try.f5 rfl rfl rfl rfl rfl rfl rfl ⟨rfl, rfl, rfl, rfl, rfl⟩ rfl rfl rfl rfl rfl (by kernel_rfl) Try.func5 (by kernel_rfl)
    (of_decide_eq_true (by kernel_rfl)) (by unfold Func.isWrapper; first | (rw [if_pos (by decide +kernel)]; kernel_rfl) | (rw [if_neg (by decide +kernel)]; exact ⟨rfl, rfl⟩))
    (fun os started H enc _ => lifted os started H enc)
end FrameParts
end Go.Proofs.Ytmohgfmknkfcaaa
