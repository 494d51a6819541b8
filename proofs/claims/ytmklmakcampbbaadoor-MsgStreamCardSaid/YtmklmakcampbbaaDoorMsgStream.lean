/-
  MsgStream answers true for every input: messages that may be, sent one behind the other and parted anywhere, are heard in their order. No condition beyond the row's own (the table of package msg as the program's text lays it).
-/
import Derived.Test.YtmklmakcampbbaaDoorMsgBack
import Derived.Test.YtmklmakcampbbaaDoorFrameP
namespace Go.Proofs.YtmklmakcampbbaaDoor
open Go.RowKit
set_option maxRecDepth 100000

theorem mgCells_length : ∀ ms : List Mg, (ms.flatMap Mg.cells).length = ms.length * 3
  | [] => rfl
  | m :: ms => by
    simp only [List.flatMap_cons, List.length_append, mgCells_length ms, Mg.cells, List.length_cons, List.length_nil]
    omega
theorem mgCells_at : ∀ (ms : List Mg) (j : Nat) (h : j < ms.length), (ms.flatMap Mg.cells)[j * 3]? = some (.int .i64 ms[j].k) ∧ (ms.flatMap Mg.cells)[j * 3 + 1]? = some (.slice ms[j].A ms[j].l ms[j].c) ∧ (ms.flatMap Mg.cells)[j * 3 + 2]? = some (.slice ms[j].A' ms[j].l' ms[j].c')
  | [], _, h => by simp at h
  | m :: ms, 0, _ => by simp [Mg.cells]
  | m :: ms, j + 1, h => by
    have hh := mgCells_at ms j (by simpa using h)
    have e : ∀ q, ((m :: ms).flatMap Mg.cells)[(j + 1) * 3 + q]? = (ms.flatMap Mg.cells)[j * 3 + q]? := fun q => by
      have hl : m.cells.length = 3 := rfl
      rw [List.flatMap_cons, List.getElem?_append_right (by rw [hl]; omega), hl]
      congr 1
      omega
    have e0 := e 0
    simp only [Nat.add_zero] at e0
    rw [e0, e 1, e 2]
    exact hh

/-- a message's frame -/
def frOf (m : Mg) : UInt8 × List UInt8 := (UInt8.ofNat m.k.toNat, layF m.k.toNat m.ns m.ts)
/-- a message that has a frame -/
def GoodM (m : Mg) : Prop := rightF m.k m.ns m.ts = true ∧ (layF m.k.toNat m.ns m.ts).length ≤ 300
theorem GoodM.fr {m : Mg} (h : GoodM m) : (frOf m).1 ≠ 0 ∧ (frOf m).2.length ≤ 300 := by
  refine ⟨fun h0 => ?_, h.2⟩
  obtain ⟨hk, _, _⟩ := rightF_parts h.1
  have h1 : (UInt8.ofNat m.k.toNat).toNat = 0 := by
    have h2 : UInt8.ofNat m.k.toNat = 0 := h0
    rw [h2]; rfl
  simp only [UInt8.toNat_ofNat'] at h1
  omega
theorem msgB_cases (m : Mg) : (GoodM m ∧ msgB m.k m.ns m.ts = (be 2 ((frOf m).2.length + 1) ++ ((frOf m).1 :: (frOf m).2), 0)) ∨ ((msgB m.k m.ns m.ts).2 ≠ 0) := by
  rcases frameF_cases m.k m.ns m.ts with ⟨_, h⟩ | ⟨_, _, h⟩ | ⟨h1, h2, h⟩
  · exact .inr (by rw [msgB, h]; decide)
  · exact .inr (by rw [msgB, h]; decide)
  · left
    have hg : GoodM m := ⟨h1, h2⟩
    refine ⟨hg, ?_⟩
    have hf := hg.fr
    rw [msgB, h, if_pos rfl]
    simp only
    show bytesF (frOf m).1 (frOf m).2 = _
    rw [bytesF, if_neg hf.1, if_neg (by omega)]
theorem frOf_next (ms : List Mg) (k : Nat) (h : k < ms.length) : wires ((ms.take (k + 1)).map frOf) = wires ((ms.take k).map frOf) ++ (be 2 ((frOf ms[k]).2.length + 1) ++ ((frOf ms[k]).1 :: (frOf ms[k]).2)) := by
  rw [List.take_succ_eq_append_getElem h, List.map_append, wires, List.flatMap_append]
  simp [wires]

set_option maxHeartbeats 4000000 in
theorem msgStream_walk (A : Option Addr) (n c : Nat) (ms : List Mg) (Az : Option Addr) (m cz : Nat) (zs : List Int) (w : World) (hn : ms.length = n) (hrd : Rd w w.heap.size A (ms.flatMap Mg.cells)) (hms : ∀ q ∈ ms, MR w q) (hlen : zs.length = m) (hrz : Rd w w.heap.size Az (zs.map (Value.int .i64))) (hzs : ∀ z ∈ zs, -9223372036854775808 ≤ z ∧ z ≤ 9223372036854775807) (hL : Lay w) (hn12 : n ≤ 12) (hm20 : m ≤ 20) :
    Calls Tryd.prog 5 #[.slice A n c, .slice Az m cz] w fun e w' => e = .returned (.bool true) ∧ Below w.heap.size w w' := by
  obtain ⟨j0, hj, hy0, hy1, hy2⟩ := info_parts u8info
  have d1 : decide ((12 : Int) < (n : Int)) = false := by simp; omega
  have d2 : decide ((20 : Int) < (m : Int)) = false := by simp; omega
  have HN := Lib.hid hn
  have HMS := Lib.hid hms
  have HLEN := Lib.hid hlen
  have HZS := Lib.hid hzs
  have hA := awake3 w hL
  have HA := Lib.hid hA
  clear hms hlen hzs hn hA
  go_enter Tryd.func5, Tryd.ntmps5
  go_wp2_with fail
  refine HA.out.mono ?_
  rintro e w1 ⟨rfl, k1⟩
  clear HA
  go_wp2_with fail
  go_loopw [5, 34] (fun v5 v34 wr => ∃ (q L : Nat) (A5 : Option Addr) (c5 : Nat), v34 = .int .i64 q ∧ v5 = .slice A5 L c5 ∧ q ≤ n ∧ L ≤ 303 * q ∧ Hid (∀ r ∈ ms.take q, GoodM r) ∧ Ow wr w.heap.size A5 L c5 (wires ((ms.take q).map frOf)) ∧ Below w.heap.size w wr) (fun _ v34 _ => n - (intOf v34).toNat)
  case atStart => exact ⟨0, 0, none, 0, rfl, rfl, Nat.zero_le _, by omega, Lib.hid (fun r hr => by simp at hr), Ow.nil _ _, k1⟩
  case round =>
    obtain ⟨q, L, A5, c5, rfl, rfl, hq, hLq, HOK, ho5, kr⟩ := hrel
    by_cases hlt : q < n
    · have hql : q < ms.length := by rw [HN.out]; exact hlt
      obtain ⟨ad, rfl, hbl, hcells⟩ := hrd.addr (by rw [mgCells_length]; omega)
      obtain ⟨p0, p1, p2⟩ := mgCells_at ms q hql
      have hb2 : (ad.add (q * 3)).block < w.heap.size := by rw [add_block]; exact hbl
      have hc0 : wr.cell? (ad.add (q * 3)) = some (.int .i64 ms[q].k) := by
        rw [kr.cell hb2]; exact hcells _ _ p0
      have hc1 : wr.cell? ⟨(ad.add (q * 3)).block, (ad.add (q * 3)).off + 1, none⟩ = some (.slice ms[q].A ms[q].l ms[q].c) := by
        have e1 : (⟨(ad.add (q * 3)).block, (ad.add (q * 3)).off + 1, none⟩ : Addr) = ad.add (q * 3 + 1) := by rw [← add_add]; rfl
        rw [e1, kr.cell (by rw [add_block]; exact hbl)]; exact hcells _ _ p1
      have hc2 : wr.cell? ⟨(ad.add (q * 3)).block, (ad.add (q * 3)).off + 2, none⟩ = some (.slice ms[q].A' ms[q].l' ms[q].c') := by
        have e1 : (⟨(ad.add (q * 3)).block, (ad.add (q * 3)).off + 2, none⟩ : Addr) = ad.add (q * 3 + 2) := by rw [← add_add]; rfl
        rw [e1, kr.cell (by rw [add_block]; exact hbl)]; exact hcells _ _ p2
      have hmq := (HMS.out _ (List.getElem_mem hql)).next kr
      have HW := Lib.hid (frOf_next ms q hql)
      have HTK : Hid (GoodM ms[q] → ∀ r ∈ ms.take (q + 1), GoodM r) := Lib.hid fun h1 r hr => by
        rw [List.take_succ_eq_append_getElem hql] at hr
        rcases List.mem_append.1 hr with h | h
        · exact HOK.out r h
        · simp at h; subst h; exact h1
      generalize ms[q] = M at *
      obtain ⟨mk, B, bl, bc, ns, B', bl', bc', ts⟩ := M
      simp only at hc0 hc1 hc2
      clear hcells p0 p1 p2
      have hln := hmq.ln
      have hlt' := hmq.lt
      simp only at hln hlt'
      generalize hw2 : wr.alloc (.cells #[.int .i64 mk, .slice B bl bc, .slice B' bl' bc'] 25) = w2
      have k2 : Below wr.heap.size wr w2 := by rw [← hw2]; exact kp_new _ _
      have b2 : w2.heap[wr.heap.size]? = some (.cells #[.int .i64 mk, .slice B bl bc, .slice B' bl' bc'] 25 (0, 0)) := by rw [← hw2]; exact heap_alloc_new _ _
      have z2 : wr.heap.size < w2.heap.size := (Array.getElem?_eq_some_iff.1 b2).1
      obtain ⟨x0, x1, x2, _, _, _⟩ := three_cells b2
      have HW2 := Lib.hid hw2
      have B2 := Lib.hid b2
      have hm2 := hmq.next k2
      have hG := large_any _ w2 hm2 _ (Lib.hid rfl)
      unfold Mg.v at hG
      simp only at hG
      clear hw2 b2 hmq
      cases hlg : largeF ns ts
      · rw [hlg] at hG
        obtain ⟨gn, gt, _⟩ := largeF_no hlg
        have HG := Lib.hid hG
        clear hG hlg
        go_wp2_with fail
        rw [HW2.out]
        go_wp2_with fail
        refine HG.out.mono ?_
        rintro e w3 ⟨rfl, k3⟩
        obtain ⟨y0, y1, y2, _, _, _⟩ := three_cells ((k3.block _ z2).trans B2.out)
        have k23 := kp_trans k2 k3
        have kw3 := kp_trans kr k23
        have hY := mbytes_any _ w3 (hm2.next k3) (hL.next kw3) (by simp only; omega) (by simp only; omega)
        unfold AnsY Mg.v at hY
        simp only at hY
        have hcs := msgB_cases ⟨mk, B, bl, bc, ns, B', bl', bc', ts⟩
        simp only at hcs
        generalize msgB mk ns ts = r at *
        obtain ⟨rb, re⟩ := r
        simp only at hY hcs
        have ho35 := ho5.next k23
        clear x0 x1 x2 hc0 hc1 hc2 HG
        by_cases hre : re = 0
        · subst hre
          obtain ⟨hgood, hrb⟩ : GoodM ⟨mk, B, bl, bc, ns, B', bl', bc', ts⟩ ∧ (rb, (0 : Int)) = (be 2 ((frOf ⟨mk, B, bl, bc, ns, B', bl', bc', ts⟩).2.length + 1) ++ ((frOf ⟨mk, B, bl, bc, ns, B', bl', bc', ts⟩).1 :: (frOf ⟨mk, B, bl, bc, ns, B', bl', bc', ts⟩).2), 0) := by
            rcases hcs with h | h
            · exact h
            · exact absurd rfl h
          have HK := Lib.hid (HTK.out hgood)
          have hlen300 := hgood.fr.2
          have hrb1 : rb = be 2 ((frOf ⟨mk, B, bl, bc, ns, B', bl', bc', ts⟩).2.length + 1) ++ ((frOf ⟨mk, B, bl, bc, ns, B', bl', bc', ts⟩).1 :: (frOf ⟨mk, B, bl, bc, ns, B', bl', bc', ts⟩).2) := congrArg Prod.fst hrb
          have hrl : rb.length ≤ 303 := by rw [hrb1]; simp only [List.length_append, be_length, List.length_cons]; omega
          have HWW : Hid (wires ((ms.take (q + 1)).map frOf) = wires ((ms.take q).map frOf) ++ rb) := Lib.hid (by rw [HW.out, hrb1])
          have HY := Lib.hid hY
          clear hY hcs hrb hrb1 hgood hlen300 HTK HW
          go_wp2_with fail
          refine HY.out.mono ?_
          rintro e w4 ⟨A4, l4, c4, rfl, ho4, k4⟩
          have hl4 := ho4.len
          have HO4 := Lib.hid hl4
          have hl4' : l4 ≤ 303 := by omega
          have kw4 := kp_trans kw3 k4
          have ho54 := ho35.next k4
          clear hl4
          go_wp2_with (at_builtin; refine wpList_append_rd rfl (.tmp 47) (.tmp 48) _ rfl w.heap.size 5 j0 _ 1 Tryd.underlying26 hj hy0 hy1 hy2 rfl _ L _ rfl ho54.own _ _ _ _ (bvs rb) rfl (by rw [bvs_length]; exact HO4.out) ho4.sl.rd (bvs_one _) (by unfold maxLen; omega) (by omega) kw4.size ?_; intro v6 w6 hown6 hg6; rw [← bvs_append] at hown6; obtain ⟨A6, c6, rfl, ho6⟩ := Ow.mk' hown6; have k6 := kw4.trans (below_own ho54.own hg6 kw4.size))
          go_roundw
          case rel => exact ⟨q + 1, L + l4, A6, c6, by go_num, rfl, by omega, by omega, HK, by rw [HWW.out]; exact ho6, k6⟩
          case measure => simp [intOf]; omega
        · have hne : (re != 0) = true := by simpa using hre
          have HY := Lib.hid hY
          clear hY hcs
          go_wp2_with fail
          refine HY.out.mono ?_
          rintro e w4 ⟨A4, l4, c4, rfl, ho4, k4⟩
          go_wp2_with fail
          go_ret
          exact ⟨rfl, kp_trans kw3 k4⟩
      · rw [hlg] at hG
        have HG := Lib.hid hG
        clear hG hlg
        go_wp2_with fail
        rw [HW2.out]
        go_wp2_with fail
        refine HG.out.mono ?_
        rintro e w3 ⟨rfl, k3⟩
        go_wp2_with fail
        go_ret
        exact ⟨rfl, kp_trans (kp_trans kr k2) k3⟩
    · obtain rfl : q = n := by omega
      have htk : ms.take q = ms := List.take_of_length_le (by rw [HN.out]; exact Nat.le_refl _)
      rw [htk] at ho5
      have hok := HOK.out
      rw [htk] at hok
      have HG := Lib.hid hok
      obtain ⟨wo, hwo⟩ : ∃ x, x = wr := ⟨_, rfl⟩
      subst hwo
      obtain ⟨i0, hi, hz0, hz1, hz2⟩ := info_parts finfo
      obtain ⟨j1, hj1, hx0, hx1, hx2⟩ := info_parts intinfo
      have hfs : ∀ f ∈ ms.map frOf, f.1 ≠ 0 ∧ f.2.length ≤ 300 := fun f hf => by
        obtain ⟨r, hr, rfl⟩ := List.mem_map.1 hf
        exact (hok r hr).fr
      have hcut := fun t => wires_cut hfs t
      have hback := allF_back _ hfs
      have hfl : (ms.map frOf).length = q := by rw [List.length_map]; exact HN.out
      generalize hfsg : ms.map frOf = fs at *
      have HFSG := Lib.hid hfsg
      generalize wires fs = bs at *
      have HCUT := Lib.hid hcut
      have HBACK := Lib.hid hback
      have HFL := Lib.hid hfl
      have hbl5 := ho5.len
      have HBL := Lib.hid hbl5
      have hL4000 : L ≤ 4000 := by omega
      have hall := ho5.sl
      have ko := kr
      have hmo : ∀ r ∈ ms, MR wo r := fun r hr => (HMS.out r hr).next ko
      have hrdo := (hrd.below ko (Nat.le_refl _)).more ko.size
      have hrzo := (hrz.below ko (Nat.le_refl _)).more ko.size
      have hLo := hL.next ko
      have HMO := Lib.hid hmo
      clear htk hok HOK HMS hfs hcut hback hfl ho5 hrd hrz hL kr hbl5 hmo hj hy0 hy1 hy2 HN hfsg
      go_wp2_with fail
      refine (new_any wo (wo.heap.size + 1)).mono ?_
      rintro e w2 ⟨rfl, hd2, hz2', k2⟩
      have hsb := ko.size
      generalize hbb : wo.heap.size = b at *
      have HBB := Lib.hid hbb
      have z2 : b + 1 ≤ w2.heap.size := by omega
      have hd2 : Dec w2 b (b + 1) [] 0 := hd2
      have hall2 : Sl w2 b A5 L c5 bs := hall.below k2 (Nat.le_refl _)
      have hrz2 : Rd w2 b Az (zs.map (Value.int .i64)) := hrzo.below k2 (Nat.le_refl _)
      clear hz2' hbb
      have k5 := kp_new w2 (.cells #[] 3)
      have oi5 := own_new_s w2 w2.heap.size 1 3 0 [] rfl (Nat.le_refl _) (Nat.zero_le _)
      have hrz5 := (hrz2.more (by omega : b ≤ w2.heap.size)).below k5 (Nat.le_refl _) |>.more k5.size
      go_wp2_with (at_builtin; first
        | (refine wpList_append_rd rfl (.tmp 54) (.tmp 55) _ rfl w2.heap.size 3 j1 _ 8 Tryd.underlying55 hj1 hx0 hx1 hx2 rfl _ 0 _ rfl oi5 _ _ _ _ (zs.map (Value.int .i64)) rfl (by simpa using HLEN.out) hrz5 (by simp [Value.oneCell']) (by unfold maxLen; omega) (by omega) (by simp) ?_; intro v6 w6 hown6 hg6; rw [List.nil_append, Nat.zero_add] at hown6; obtain ⟨A6, c6, rfl, _, _⟩ := own_form_s hown6; have k6 := k5.trans (below_own_s oi5 hg6 (by simp)); have k7 := kp_trans k6 (kp_new w6 (.cells #[.int .i64 (L : Int)] 3)))
        | (refine wpList_append_rd rfl (.tmp 56) (.tmp 59) _ rfl w2.heap.size 3 j1 _ 8 Tryd.underlying55 hj1 hx0 hx1 hx2 rfl _ m _ rfl (hown6.alloc _) (w6.heap.size + 1) _ _ _ [.int .i64 (L : Int)] rfl rfl (Rd.new _ _ _) (by simp [Value.oneCell']) (by unfold maxLen; omega) (by omega) k7.size ?_; intro v8 w8 hown8 hg8; obtain ⟨A8, c8, rfl, _, _⟩ := own_form_s hown8; have k8 := k7.trans (below_own_s (hown6.alloc _) hg8 k7.size)))
      have z8 : b + 1 ≤ w8.heap.size := by have := k8.size; omega
      have hown8 : w8.ownsRow (b + 1) 3 1 (.slice A8 (m + 1) c8) (m + 1) (zs.map (Value.int .i64) ++ [.int .i64 (L : Int)]) := own_base_s hown8 z2
      have hd8 := hd2.next k8
      have hall8 : Sl w8 b A5 L c5 bs := hall2.below k8 (by omega)
      have k28 : Below b wo w8 := k2.trans (k8.mono (by omega))
      clear hown6 hg6 hg8 oi5 hrz5 hd2 hall2 hrz2 k5 k6 k7 k8 k2 hall hrzo
      go_loopw [11, 12, 62] (fun v9 v11 v43 wr => ∃ (q9 p : Nat) (kept : List UInt8) (A9 : Option Addr) (n9 c9 : Nat) (rs : List Rep), v43 = .int .i64 q9 ∧ v11 = .int .i64 p ∧ v9 = .slice A9 n9 c9 ∧ q9 ≤ m + 1 ∧ p ≤ L ∧ Hid (q9 = m + 1 → p = L) ∧ Hid (allF (bs.take p) = (says rs, kept, 0)) ∧ FO wr w8.heap.size A9 n9 c9 rs ∧ Dec wr b (b + 1) kept 0 ∧ Bel b w8 wr) (fun _ _ v43 _ => m + 1 - (intOf v43).toNat)
      case atStart => exact ⟨0, 0, [], none, 0, 0, [], rfl, rfl, rfl, Nat.zero_le _, Nat.zero_le _, Lib.hid (by omega), Lib.hid (by rw [List.take_zero, allF_nil]; rfl), FO.nil _ _, hd8, Bel.of _ (Below.refl _ _)⟩
      case round =>
        obtain ⟨q9, p, kept, A9, n9, c9, rs, rfl, rfl, rfl, hq9, hp, HE, HA, hf, hdc, hbel⟩ := hrel
        have zr : b + 1 ≤ wr.heap.size := by have := hbel.size; omega
        have kb8 : Below b w8 wr := hbel.below (Nat.le_refl _) (by omega)
        have hown := own_bel hown8 hbel (by omega)
        by_cases hlt9 : q9 < m + 1
        · obtain ⟨y, hy, hyb⟩ : ∃ y : Int, (zs.map (Value.int .i64) ++ [.int .i64 (L : Int)])[q9]? = some (.int .i64 y) ∧ (-9223372036854775808 ≤ y ∧ y ≤ 9223372036854775807) ∧ (q9 = m → y = L) := by
            by_cases hqm : q9 < m
            · have hqz : q9 < zs.length := by rw [HLEN.out]; exact hqm
              exact ⟨zs[q9], by rw [List.getElem?_append_left (by simpa using hqz)]; simp [hqz], HZS.out _ (List.getElem_mem hqz), by omega⟩
            · obtain rfl : q9 = m := by omega
              exact ⟨L, by rw [List.getElem?_append_right (by simp [HLEN.out])]; simp [HLEN.out], by omega, fun _ => rfl⟩
          obtain ⟨⟨hy1, hy2⟩, hyl⟩ := hyb
          obtain ⟨ad, rfl, hbl, hcells⟩ := (Rd.of_own hown).addr (by simp)
          have hcell := hcells q9 _ hy
          have HYL := Lib.hid hyl
          clear hyl hcells hy
          obtain ⟨mx, hmx, hmxe⟩ : ∃ mx : Int, (∀ (u : World) (ts : Array TypeId) (ty : TypeId), (Builtin.max_ ts ty #[.int .i64 y, .int .i64 (p : Int)]).run Tryd.prog u = .ok (.int .i64 mx) u) ∧ mx = (if (p : Int) > y then (p : Int) else y) := ⟨_, fun u ts ty => run_max_int2 (P := Tryd.prog) (w := u) ts ty .i64 .i64 y p, rfl⟩
          obtain ⟨tv, hmn, htve⟩ : ∃ tv : Int, (∀ (u : World) (ts : Array TypeId) (ty : TypeId), (Builtin.min_ ts ty #[.int .i64 mx, .int .i64 (L : Int)]).run Tryd.prog u = .ok (.int .i64 tv) u) ∧ tv = (if (L : Int) < mx then (L : Int) else mx) := ⟨_, fun u ts ty => run_min_int2 (P := Tryd.prog) (w := u) ts ty .i64 .i64 mx L, rfl⟩
          obtain ⟨t, htv, ht1, ht2, htm⟩ : ∃ t : Nat, tv = (t : Int) ∧ p ≤ t ∧ t ≤ L ∧ (q9 = m → t = L) := by
            refine ⟨tv.toNat, ?_, ?_, ?_, fun h => ?_⟩
            · split at hmxe <;> split at htve <;> omega
            · split at hmxe <;> split at htve <;> omega
            · split at hmxe <;> split at htve <;> omega
            · have := HYL.out h; split at hmxe <;> split at htve <;> omega
          clear hmxe htve
          have HTM := Lib.hid htm
          obtain ⟨As, hsl, hss⟩ := hall8.cut2 Tryd.prog 26 Tryd.underlying26 u8size (i := p) (j := t) p tv rfl htv ht1 ht2
          have hssr := (hss.below kb8 (Nat.le_refl _)).more (by omega : b ≤ wr.heap.size)
          have HTV := Lib.hid htv
          clear htv htm HYL hss
          obtain ⟨_, r2, r3, _, _⟩ := allF_rest (bs.take p)
          rw [HA.out] at r2 r3
          simp only [List.length_take, says, List.length_map] at r2 r3
          have hk0 : kept.length ≤ p := by omega
          have hn9 : n9 ≤ p := by rw [← hf.len]; omega
          have hstep := parts_step bs p t ht1 kept 0 (by rw [HA.out])
          rw [HA.out] at hstep
          have hfeed := feed_any wr b (b + 1) kept ((bs.take t).drop p) 0 hdc zr As (t - p) (c5 - p) hssr (by omega)
          unfold FeedsTo at hfeed
          have hzero := HCUT.out t
          generalize feedF kept 0 ((bs.take t).drop p) = R at *
          obtain ⟨f1, f2, f3⟩ := R
          simp only at hfeed hstep
          obtain rfl : f3 = 0 := by rw [hstep] at hzero; exact hzero
          have HST := Lib.hid hstep
          have HF := Lib.hid hfeed
          clear hstep hfeed r2 r3 hk0 hzero
          go_wp2_with fail
          (with_reducible refine HF.out.mono ?_)
          rintro e wa ⟨Aa, na, ca, rsa, rfl, hsa, hfa, hna, hda, hba⟩
          have hbela := hbel.trans hba
          have za : w8.heap.size ≤ wa.heap.size := hbela.size
          have hfa' := hfa.base hbel.size
          have hf' := hf.bel hba (by omega)
          have HSA := Lib.hid hsa
          clear hsa
          go_wp2_with (at_builtin; refine wpList_append_rds rfl (.tmp 83) (.tmp 84) _ rfl w8.heap.size 28 i0 _ 2 32 Tryd.underlying58 hi hz0 hz1 hz2 rfl (by omega) _ n9 _ rfl hf'.own _ _ _ _ (repCells rsa) rfl (by rw [repCells_length, hfa.len]) hfa'.fr.rd (repCells_one _) (by unfold maxLen; omega) (by omega) za ?_; intro vb wb hownb hgb; obtain ⟨Ab, cb, rfl, hfb⟩ := FO.append hf' hfa'.body hownb hgb; have kb := below_own_s hf'.own hgb za)
          go_roundw
          case rel => exact ⟨q9 + 1, t, f2, Ab, n9 + na, cb, rs ++ rsa, by go_num, by rw [HTV.out], rfl, by omega, ht2, Lib.hid (fun h => HTM.out (by omega)), Lib.hid (by rw [HST.out, says_append, HSA.out]), hfb, hda.grown hf'.own (by decide) hgb kb (by omega), hbela.then_below kb⟩
          case measure => simp [intOf]; omega
        · obtain rfl : q9 = m + 1 := by omega
          obtain rfl := HE.out rfl
          have hA := HA.out
          rw [List.take_of_length_le (by rw [HBL.out]; exact Nat.le_refl _), HBACK.out] at hA
          simp only [Prod.mk.injEq, and_true] at hA
          obtain ⟨hsays, rfl⟩ := hA
          have hnq : n9 = q := by
            rw [← HFL.out, hsays, ← hf.len]
            simp [says]
          have HSY := Lib.hid hsays
          have HNQ := Lib.hid hnq
          have hn9 : n9 ≤ 12 := by omega
          have e1 : ((n9 : Int) != (q : Int)) = false := by rw [hnq]; simp
          clear hsays hnq
          go_wp2_with fail
          refine (pending_any wr b (b + 1) [] 0 hdc).mono ?_
          rintro e w' ⟨rfl, rfl⟩
          have K : Below wo.heap.size wo wr := by rw [HBB.out]; exact k28.trans kb8
          have hb0 : 0 < b := by rw [← HBB.out]; exact hLo.pos
          have kwp := ko.trans (K.mono (by rw [HBB.out]; exact hsb))
          have hfr := hf.fr
          have hmp : ∀ r ∈ ms, MR wr r := fun r hr => (HMO.out r hr).next K
          have hrdp := (hrdo.below (k28.trans kb8) (Nat.le_refl _)).more (by omega : b ≤ wr.heap.size)
          have hLp := hLo.next K
          have HMP := Lib.hid hmp
          obtain ⟨wp, hwp⟩ : ∃ x, x = wr := ⟨_, rfl⟩
          subst hwp
          clear hmp K hf hdc hbel kb8 hown hrdo hLo k28 hown8 hall8 hd8 HMO ko
          go_wp2_with fail
          go_loopw [100] (fun v wr => ∃ j : Nat, v = .int .i64 j ∧ j ≤ n9 ∧ Below wp.heap.size wp wr) (fun v _ => n9 - (intOf v).toNat)
          case atStart => exact ⟨0, rfl, Nat.zero_le _, Below.refl _ _⟩
          case round =>
            obtain ⟨j, rfl, hj9, kr⟩ := hrel
            have kwr := kwp.trans (kr.mono kwp.size)
            by_cases hjl : j < n9
            · have hjr : j < rs.length := by rw [hfr.len]; exact hjl
              have hjm : j < ms.length := by rw [← List.length_map (f := frOf), HFSG.out, HFL.out, ← HNQ.out]; exact hjl
              have hsj : rs[j].says = frOf ms[j] := by
                have h1 : (says rs)[j]? = (ms.map frOf)[j]? := by rw [HFSG.out, HSY.out]
                simp only [says, List.getElem?_map, List.getElem?_eq_getElem hjr, List.getElem?_eq_getElem hjm, Option.map_some, Option.some.injEq] at h1
                exact h1
              have hgood := HG.out _ (List.getElem_mem hjm)
              obtain ⟨ad, rfl, hbl, hcells⟩ := hfr.rd.addr (by rw [repCells_length]; omega)
              obtain ⟨p0, p1⟩ := repCells_at rs j hjr
              have hc0 : wr.cell? (ad.add (j * 2)) = some (.int .u8 (rs[j].k.toNat : Int)) := by
                rw [kr.cell (by rw [add_block]; exact hbl)]; exact hcells _ _ p0
              have hc1 : wr.cell? ⟨(ad.add (j * 2)).block, (ad.add (j * 2)).off + 1, none⟩ = some (.slice rs[j].p.A rs[j].p.l rs[j].p.c) := by
                have e1 : (⟨(ad.add (j * 2)).block, (ad.add (j * 2)).off + 1, none⟩ : Addr) = ad.add (j * 2 + 1) := by rw [← add_add]; rfl
                rw [e1, kr.cell (by rw [add_block]; exact hbl)]; exact hcells _ _ p1
              have hbody := (hfr.body _ (List.getElem_mem hjr)).next kr
              obtain ⟨am, rfl, hbm, hmcells⟩ := hrdp.addr (by rw [mgCells_length]; omega)
              obtain ⟨m0, m1, m2⟩ := mgCells_at ms j hjm
              have hbm2 : (am.add (j * 3)).block < wp.heap.size := by rw [add_block]; exact hbm
              have hd0 : wr.cell? (am.add (j * 3)) = some (.int .i64 ms[j].k) := by
                rw [kr.cell hbm2]; exact hmcells _ _ m0
              have hd1 : wr.cell? ⟨(am.add (j * 3)).block, (am.add (j * 3)).off + 1, none⟩ = some (.slice ms[j].A ms[j].l ms[j].c) := by
                have e1 : (⟨(am.add (j * 3)).block, (am.add (j * 3)).off + 1, none⟩ : Addr) = am.add (j * 3 + 1) := by rw [← add_add]; rfl
                rw [e1, kr.cell (by rw [add_block]; exact hbm)]; exact hmcells _ _ m1
              have hd2 : wr.cell? ⟨(am.add (j * 3)).block, (am.add (j * 3)).off + 2, none⟩ = some (.slice ms[j].A' ms[j].l' ms[j].c') := by
                have e1 : (⟨(am.add (j * 3)).block, (am.add (j * 3)).off + 2, none⟩ : Addr) = am.add (j * 3 + 2) := by rw [← add_add]; rfl
                rw [e1, kr.cell (by rw [add_block]; exact hbm)]; exact hmcells _ _ m2
              have hmj := (HMP.out _ (List.getElem_mem hjm)).next kr
              generalize ms[j] = M at *
              obtain ⟨mk, B, bl, bc, ns, B', bl', bc', ts⟩ := M
              generalize rs[j] = rj at *
              obtain ⟨k9, ⟨Ab, lb, cb, bb⟩⟩ := rj
              simp only at hc0 hc1 hbody hd0 hd1 hd2
              simp only [Rep.says, frOf, Prod.mk.injEq] at hsj
              obtain ⟨hof, hgk⟩ := ofF_back hgood.1 hgood.2
              simp only at hof hgk
              rw [← hsj.1, ← hsj.2] at hof
              rw [← hsj.1] at hgk
              have hlb : lb ≤ 100000 := by
                have h1 := hbody.len
                have h2 := hgood.2
                simp only at h2
                rw [← hsj.2] at h2
                omega
              obtain ⟨hl3, hl300⟩ := ofF_len hof
              have HOF := Lib.hid hof
              have HGK := Lib.hid hgk
              have kn := kp_new wr (.cells #[.int .u8 (k9.toNat : Int), .slice Ab lb cb] 28)
              have hO := of_any k9 Ab bb lb cb _ (hbody.next kn) hlb ((hLp.next kr).next kn)
              rw [HOF.out] at hO
              unfold AnsO frV at hO
              have HO := Lib.hid hO
              have HD0 := Lib.hid hd0
              have HD1 := Lib.hid hd1
              have HD2 := Lib.hid hd2
              have hbmr : (am.add (j * 3)).block < wr.heap.size := Nat.lt_of_lt_of_le hbm2 kr.size
              clear hO hof hgk hsj hgood p0 p1 m0 m1 m2 hcells hmcells hd0 hd1 hd2
              go_wp2_with fail
              refine HO.out.mono ?_
              rintro e w5 ⟨⟨q5, A5', l5, c5', ns5, D5, m5, d5', ts5⟩, rfl, hs5, hm5, k5⟩
              simp only [saysO, Prod.mk.injEq] at hs5
              obtain ⟨rfl, rfl, rfl⟩ := hs5
              simp only [Mg.v, Option.isSome_some, if_true]
              clear HO hc0 hc1
              go_wp2_with fail
              have kn5 := kp_new w5 (.cells #[.int .i64 (k9.toNat : Int), .slice A5' l5 c5', .slice D5 m5 d5'] 25)
              have b6 := heap_alloc_new w5 (.cells #[.int .i64 (k9.toNat : Int), .slice A5' l5 c5', .slice D5 m5 d5'] 25)
              have kr5 : Below wr.heap.size wr w5 := kp_trans kn k5
              have hsame := fun w7 (k7 : Below w5.heap.size w5 w7) => msame_any ⟨(k9.toNat : Int), A5', l5, c5', ns5, D5, m5, d5', ts5⟩ ⟨mk, B, bl, bc, ns5, B', bl', bc', ts5⟩ w7 (hm5.mr.next k7) ((hmj.next kr5).next k7) (by have := hm5.mr.ln; simp only at this hl3 ⊢; omega) (by have := hm5.mr.lt; simp only at this hl300 ⊢; omega) true (Lib.hid (by simp [Mg.says, HGK.out]))
              unfold Mg.v at hsame
              simp only at hsame
              have HS := Lib.hid hsame
              generalize hw6 : w5.alloc (.cells #[.int .i64 (k9.toNat : Int), .slice A5' l5 c5', .slice D5 m5 d5'] 25) = w6 at *
              have kr6 := kp_trans kr5 kn5
              obtain ⟨u0, u1, u2, _, _, _⟩ := three_cells b6
              have v0 := (kr6.cell hbmr).trans HD0.out
              have v1 := (kr6.cell (p := ⟨(am.add (j * 3)).block, (am.add (j * 3)).off + 1, none⟩) hbmr).trans HD1.out
              have v2 := (kr6.cell (p := ⟨(am.add (j * 3)).block, (am.add (j * 3)).off + 2, none⟩) hbmr).trans HD2.out
              have hjq : (j : Int) < (q : Int) := by have := HNQ.out; omega
              clear hsame hw6 b6 hmj hm5 hbody kn
              go_region_with (go_at_call 19; refine (HS.out _ (kn5.trans ((kp_drewN w6 1).mono kn5.size))).mono ?_; rintro e w7 ⟨rfl, k7⟩)
              all_goals
                have k67 := kp_trans (kp_drewN w6 1) k7
                go_wp2_with fail
                go_roundw
                case rel => exact ⟨j + 1, by go_num, by omega, kp_trans kr (kp_trans kr6 k67)⟩
                case measure => simp [intOf]; omega
            · go_wp2_with fail
              go_ret
              exact ⟨rfl, kwr⟩

theorem msgStream_any (A : Option Addr) (n c : Nat) (ms : List Mg) (Az : Option Addr) (m cz : Nat) (zs : List Int) (w : World) (hn : ms.length = n) (hrd : Rd w w.heap.size A (ms.flatMap Mg.cells)) (hms : ∀ q ∈ ms, MR w q ∧ Mw q) (_ : n ≤ c) (_ : c * 56 ≤ 140737488351232)
    (hlen : zs.length = m) (hrz : Rd w w.heap.size Az (zs.map (Value.int .i64))) (hzs : ∀ z ∈ zs, -9223372036854775808 ≤ z ∧ z ≤ 9223372036854775807) (_ : m ≤ cz) (_ : cz * 8 ≤ 140737488351232) (hL : Lay w) :
    Calls Tryd.prog 5 #[.slice A n c, .slice Az m cz] w fun e w' => e = .returned (.bool true) ∧ Below w.heap.size w w' := by
  by_cases h12 : n ≤ 12
  · by_cases h20 : m ≤ 20
    · exact msgStream_walk A n c ms Az m cz zs w hn hrd (fun q hq => (hms q hq).1) hlen hrz hzs hL h12 h20
    · have d1 : decide ((12 : Int) < (n : Int)) = false := by simp; omega
      have d2 : decide ((20 : Int) < (m : Int)) = true := by simp; omega
      clear hn hrd hms hlen hrz hzs
      go_enter Tryd.func5, Tryd.ntmps5
      go_wp2_with fail
      refine (awake3 w hL).mono ?_
      rintro e w1 ⟨rfl, k1⟩
      go_wp2_with fail
      go_ret
      exact ⟨rfl, k1⟩
  · have d1 : decide ((12 : Int) < (n : Int)) = true := by simp; omega
    clear hn hrd hms hlen hrz hzs
    go_enter Tryd.func5, Tryd.ntmps5
    go_wp2_with fail
    refine (awake3 w hL).mono ?_
    rintro e w1 ⟨rfl, k1⟩
    go_wp2_with fail
    go_ret
    exact ⟨rfl, k1⟩

namespace MsgStream
open Go.ChangeShapes Go.WideShapes Go.ChangeAt
open Go.ChangeMaps (open_string)

theorem contract (H : Type) (enc : TypeId × Value → H) (W : World) (base : Nat) (args : Array Value) (ds gs : List (DataW H)) (before : List MemPlace)
    (hval : ∀ (j : Nat) t v, Tryd.f5.params[j]? = some t → args[j]? = some v → Value.okWide Tryd.prog W .any base t v)
    (hW : DataW.Whole enc Tryd.prog Tryd.f5.params.toList Rows.msgStreamSpec.vars false W args.toList ds gs before)
    (hsz0 : (DataW.weightsEach Tryd.prog (Tryd.f5.params.toList ++ Rows.msgStreamSpec.plain.varTypes Tryd.prog) (ds ++ gs)).all (· ≤ reachBytes) = true) (hlaid : laidMetH Tryd.prog laidM W) :
    Calls Tryd.prog 5 args W fun e W' => ∃ v, e = .returned v ∧ Rows.msgStreamSpec.post enc Tryd.prog Tryd.f5 false true false false W args v W' := by
  have hW' := hW
  obtain ⟨p, q, hA0, hV, rfl, _, _⟩ := hW
  have hA : DataW.TrodAll enc Tryd.prog W 0 (fun _ => true) true Tryd.f5.params.toList args.toList ds p := hA0
  have hsz : (DataW.weightsEach Tryd.prog (Tryd.f5.params.toList ++ Rows.msgStreamSpec.plain.varTypes Tryd.prog) (ds ++ gs)).all (· ≤ reachBytes) = true := hsz0
  clear hsz0
  rw [Tryd.params5] at hA hval hsz
  obtain ⟨v0, vs0, d0, ds0, p0, q0, hargs, rfl, rfl, h0, t0⟩ := trodAll_cons hA
  obtain ⟨v1, vs1, d1, ds1, p1, q1, rfl, rfl, rfl, h1, t1⟩ := trodAll_cons t0
  obtain ⟨rfl, rfl, rfl⟩ := trodAll_nil t1
  obtain rfl : args = #[v0, v1] := by cases args; simp_all
  obtain ⟨rfl, rfl⟩ := trodVars_none hV
  obtain ⟨A0, l0, c0, ms0, rfl, n0, r0, m0, q0, g0⟩ := open_msgs (hval 0 54 v0 rfl rfl) h0 (light_of hsz (j := 0) rfl rfl)
  obtain ⟨A1, l1, c1, zs1, rfl, n1, r1, m1, q1, g1⟩ := open_ints_w Tryd.underlying55 Tryd.underlying3 (by kernel_rfl) (by kernel_rfl) (hval 1 55 v1 rfl rfl) h1 (light_of hsz (j := 1) rfl rfl)
  have hLay := lay_of_laid hlaid
  clear hlaid
  refine (msgStream_any A0 l0 c0 ms0 A1 l1 c1 zs1 W n0 r0 m0 q0 g0 n1 r1 m1 q1 g1 hLay).mono fun e W' ⟨he, hb⟩ => ⟨_, he, ?_⟩
  exact law_post laid0 (by rw [Tryd.params5]; decide +kernel) rfl (by kernel_rfl) Tryd.underlying4 hW' rfl hb

set_option maxRecDepth 100000 in
theorem lifted (os : Os) (started : os.Started) (H : Type) (enc : TypeId × Value → H) :
    ReturnsInHanded {} Tryd.checked os 5 .any (fun w args => (Rows.msgStreamSpec.pre enc Tryd.prog Tryd.f5 [] false w args ∧ laidMetH Tryd.prog laidM w) ∧ sizedMet enc Tryd.prog Tryd.f5 (OpenSpec.ofChange Rows.msgStreamSpec) false w args) (Rows.msgStreamSpec.post enc Tryd.prog Tryd.f5 false true false false) := by
  refine returnsInHanded_of_change_and (C := Tryd.checked) (X := fun w _ => laidMetH Tryd.prog laidM w) (fun _ _ _ hh h => h.of_heap hh) own0 started (by kernel_rfl) Tryd.func5
    (ChangeSpec.witness_shaped (enc := enc) (C := Tryd.checked) (os := os) (X := fun w _ => laidMetH Tryd.prog laidM w) false (World.doorLaid Tryd.prog 2000 os) #[.slice none 0 0, .slice none 0 0] 8 rfl (World.shaped_of_RefB (by kernel_rfl) (by kernel_rfl)) (by kernel_rfl) (by kernel_rfl) (by kernel_rfl) (door_met os _)) ?_
  intro W base args ds gs before hval hW _ hsz hL _
  exact contract H enc W base args ds gs before hval hW hsz hL

theorem row_holds : Rows.MsgStreamSaid :=
  OpenClaim.holds_of_wide 5 Tryd.f5 rfl rfl rfl rfl rfl rfl rfl ⟨rfl, rfl, rfl, rfl, rfl⟩ rfl rfl rfl rfl rfl (by kernel_rfl) Tryd.func5 (by kernel_rfl)
    (of_decide_eq_true (by kernel_rfl)) (by unfold Func.isWrapper; first | (rw [if_pos (by decide +kernel)]; kernel_rfl) | (rw [if_neg (by decide +kernel)]; exact ⟨rfl, rfl⟩))
    (fun os started H enc _ => lifted os started H enc)

/-- the tied card: the row's listed variables tied to the program's text -/
theorem card_holds : Rows.MsgStreamCardSaid :=
  Claim7.holds_tied_plain_at .later [] [.data] true _ false
    row_holds (fun _ h => by cases h) (by kernel_rfl) (fun _ h => by cases h) msgStream_row_tie rfl ⟨rfl, rfl⟩ (by kernel_rfl) rfl
    (fun f fn hf hfn => by
      obtain rfl : f = 5 := Option.some.inj ((show Tryd.prog.funcNamed "signalman/signalmanlaw03.MsgStream" = some 5 by kernel_rfl).symm.trans hf) |>.symm
      obtain rfl : fn = Tryd.f5 := (Option.some.inj (Tryd.func5.symm.trans hfn)).symm
      exact ⟨by kernel_rfl, fun j t ht => by
        have hm : t ∈ Tryd.f5.params.toList := Array.mem_toList_iff.2 (Array.mem_of_getElem? ht)
        have hall : (Tryd.f5.params.toList.all fun u => !Tryd.prog.wantsStandIn u) = true := by kernel_rfl
        exact (show Tryd.prog.wantsStandIn t = false by simpa using List.all_eq_true.1 hall t hm)⟩)
    (by kernel_rfl)
end MsgStream
end Go.Proofs.YtmklmakcampbbaaDoor
