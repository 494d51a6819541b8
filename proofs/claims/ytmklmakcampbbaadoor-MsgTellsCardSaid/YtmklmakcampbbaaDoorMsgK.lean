/-
  The message of a frame, by the document (Of of its layer 3): a contract.
-/
import Derived.Test.YtmklmakcampbbaaDoorMsgJ
import Derived.Test.YtmklmakcampbbaaDoorFrameF
namespace Go.Proofs.YtmklmakcampbbaaDoor
open Go.RowKit
set_option maxRecDepth 100000

/-- a frame comes apart, and is that message's: as the code's Of tells -/
theorem ofF_ref {k : UInt8} {bs : List UInt8} (hk : 1 ≤ k.toNat ∧ k.toNat ≤ 14) : ofF k bs = (match apartF k.toNat bs with
    | none => none
    | some x => if (frameF (k.toNat : Int) x.1 x.2).2.2 = 0 then some x else none) ∧
    ∀ x, apartF k.toNat bs = some x → (frameF (k.toNat : Int) x.1 x.2).2.2 = 0 → frameF (k.toNat : Int) x.1 x.2 = (k, bs, 0) := by
  have key : ∀ x, apartF k.toNat bs = some x → ((frameF (k.toNat : Int) x.1 x.2).2.2 = 0 ↔ rightF (k.toNat : Int) x.1 x.2 = true ∧ bs.length ≤ 300) ∧ ((frameF (k.toNat : Int) x.1 x.2).2.2 = 0 → frameF (k.toNat : Int) x.1 x.2 = (k, bs, 0)) := by
    intro x hx
    have hlay := lay_apartF hx
    rcases frameF_cases (k.toNat : Int) x.1 x.2 with ⟨h1, h2⟩ | ⟨h1, h2, h3⟩ | ⟨h1, h2, h3⟩
    · rw [h2]; simp [h1]
    · rw [Int.toNat_natCast, hlay] at h2
      rw [h3]
      simp
      omega
    · rw [Int.toNat_natCast, hlay] at h2 h3
      rw [h3]
      simp [h1, h2]
  refine ⟨?_, fun x hx h => (key x hx).2 h⟩
  unfold ofF
  cases ha : apartF k.toNat bs with
  | none => simp
  | some x =>
    have h1 := (key x ha).1
    by_cases hl : bs.length ≤ 300
    · rw [if_pos ⟨hk, hl⟩]
      simp only [Option.filter]
      by_cases hr : rightF (k.toNat : Int) x.1 x.2 = true
      · rw [if_pos hr, if_pos (h1.2 ⟨hr, hl⟩)]
      · rw [if_neg hr, if_neg (fun h => hr (h1.1 h).1)]
    · rw [if_neg (fun h => hl h.2)]
      simp only
      rw [if_neg (fun h => hl (h1.1 h).2)]

set_option maxHeartbeats 4000000 in
theorem rof_any (k : UInt8) (A : Option Addr) (bs : List UInt8) (l c : Nat) (w : World) (hr : Sl w w.heap.size A l c bs) (hl : l ≤ 100000) : AnsO 13 #[frV k A l c] w k (ofF k bs) := by
  have hlen := hr.len
  have hk255 := k.toNat_lt
  have hofr := @ofF_ref k bs
  generalize hO0 : ofF k bs = R at *
  unfold AnsO frV
  obtain ⟨b0, b1⟩ := alloc2 w (.cells #[.int .u8 (k.toNat : Int), .slice A l c] 35) (.cells #[.int .i64 0, .slice none 0 0, .slice none 0 0] 31)
  have k1 : Below w.heap.size w ((w.alloc (.cells #[.int .u8 (k.toNat : Int), .slice A l c] 35)).alloc (.cells #[.int .i64 0, .slice none 0 0, .slice none 0 0] 31)) := kp_alloc (kp_new _ _) _
  have z1 : w.heap.size + 2 = ((w.alloc (.cells #[.int .u8 (k.toNat : Int), .slice A l c] 35)).alloc (.cells #[.int .i64 0, .slice none 0 0, .slice none 0 0] 31)).heap.size := by simp
  have kz : ∀ w3 : World, Below w.heap.size w w3 → ∀ u v x : Value, Below w.heap.size w (((w3.setCell ⟨w.heap.size + 1, 0, none⟩ u).setCell ⟨w.heap.size + 1, 1, none⟩ v).setCell ⟨w.heap.size + 1, 2, none⟩ x) := fun w3 h u v x => ((h.setCell (Nat.le_succ _) _).setCell (Nat.le_succ _) _).setCell (Nat.le_succ _) _
  have KZ := Lib.hid kz
  have HB0 := Lib.hid b0
  have HB1 := Lib.hid b1
  have HZ := Lib.hid z1
  clear kz b0 b1 z1
  by_cases hk : 1 ≤ k.toNat ∧ k.toNat ≤ 14
  · obtain ⟨hof, hfrm⟩ := hofr hk
    have HOF := Lib.hid hof
    have HFRM := Lib.hid hfrm
    have hr1 := hr.next k1
    have hk15 : k.toNat < 15 := by omega
    have HS := Lib.hid (rsizes_ok k.toNat ((w.alloc (.cells #[.int .u8 (k.toNat : Int), .slice A l c] 35)).alloc (.cells #[.int .i64 0, .slice none 0 0, .slice none 0 0] 31)) (by omega))
    clear hof hfrm hofr hO0
    go_enter Tryd.func13, Tryd.ntmps13
    go_wp2_with fail
    refine HS.out.mono ?_
    rintro e w2 ⟨A3, c3, rfl, hs3, k2⟩
    have kw2 := kp_trans k1 k2
    have BF := Lib.hid ((k2.block w.heap.size (by rw [← HZ.out]; omega)).trans HB0.out)
    have BR := Lib.hid ((k2.block (w.heap.size + 1) (by rw [← HZ.out]; omega)).trans HB1.out)
    have y2 : w.heap.size + 1 < w2.heap.size := (Array.getElem?_eq_some_iff.1 BR.out).1
    have hr2 := hr1.next k2
    obtain ⟨x0, x1, _, _⟩ := two_cells BF.out
    have y2' : w.heap.size < w2.heap.size := by omega
    clear HS HB0 HB1 HZ k1 k2 hr1
    go_wp2_with fail
    generalize hw3 : w2.alloc (.cells #[.int .i64 (k.toNat : Int), .slice none 0 0, .slice none 0 0] 31) = w3
    have k3 : Below w2.heap.size w2 w3 := by rw [← hw3]; exact kp_new _ _
    have bM3 : w3.heap[w2.heap.size]? = some (.cells #[.int .i64 (k.toNat : Int), .slice none 0 0, .slice none 0 0] 31 (0, 0)) := by rw [← hw3]; exact heap_alloc_new _ _
    have z3 : w3.heap.size = w2.heap.size + 1 := by rw [← hw3]; simp
    generalize hbM : w2.heap.size = bM at *
    have kw3 := kp_trans kw2 (by rw [← hbM] at k3; exact k3 : Below w2.heap.size w2 w3)
    have hrb : Sl w3 bM A l c bs := hr2.below k3 (Nat.le_refl _)
    have hr3 : Sl w3 w3.heap.size A l c bs := hrb.more (by omega)
    have hs3b : Sg w3 bM A3 (nums k.toNat) c3 (ivs (szs k.toNat)) := hs3.below k3 (Nat.le_refl _)
    have BF3 := Lib.hid ((k3.block _ y2').trans BF.out)
    have BR3 := Lib.hid ((k3.block _ y2).trans BR.out)
    have hn3 : nums k.toNat ≤ 3 := by rw [← szs_nums]; exact szs_len _ hk15
    have HAP : Hid (((takeN ((szs k.toNat).drop 0) bs).map fun r => (([] : List Nat) ++ r.1, r.2)).bind (fun r => (textsF r.2).map fun ts => (r.1, ts)) = apartF k.toNat bs) := Lib.hid (by
      rw [List.drop_zero, apartF]
      congr 1
      cases takeN (szs k.toNat) bs <;> simp)
    have HU : Hid (∀ x, apartF k.toNat bs = some x → ∀ n ∈ x.1, n < 18446744073709551616) := Lib.hid fun x hx => by
      unfold apartF at hx
      obtain ⟨q, hq, h2⟩ := Option.bind_eq_some_iff.1 hx
      obtain ⟨ts, _, rfl⟩ := Option.map_eq_some_iff.1 h2
      exact (takeN_lt hq (fun s hs => by
        obtain ⟨j, hj, rfl⟩ := List.getElem_of_mem hs
        obtain ⟨h1, h2, h3, _⟩ := szs_at k.toNat hk15 j (by rw [← szs_nums]; exact hj)
        rw [List.getElem?_eq_getElem hj] at h1
        injection h1 with h1
        omega)).1
    have HLEN : Hid (∀ x, apartF k.toNat bs = some x → x.1.length ≤ 3 ∧ x.2.length ≤ bs.length) := Lib.hid fun x hx => apartF_len hk15 hx
    generalize apartF k.toNat bs = AP at *
    have HBM := Lib.hid hbM
    have y3 : w.heap.size + 1 < w3.heap.size := by omega
    clear hw3 hr2 hs3 BF BR k3 kw2 x0 x1 hbM hr
    go_loopw [7, 8] (fun v i wr => ∃ (j : Nat) (A1 : Option Addr) (l1 c1 : Nat) (rest : List UInt8) (A2 : Option Addr) (c2 : Nat) (done : List Nat), i = .int .i64 j ∧ j ≤ nums k.toNat ∧ v = .slice A1 l1 c1 ∧
      wr.heap[bM]? = some (.cells #[.int .i64 (k.toNat : Int), .slice A2 j c2, .slice none 0 0] 31 (0, 0)) ∧ l1 ≤ l ∧
      Sl wr wr.heap.size A1 l1 c1 rest ∧ Og 63 wr (bM + 1) A2 j c2 (uvs done) ∧ Hid (((takeN ((szs k.toNat).drop j) rest).map fun r => (done ++ r.1, r.2)).bind (fun r => (textsF r.2).map fun ts => (r.1, ts)) = AP) ∧ Below bM w3 wr) (fun _ i _ => nums k.toNat - (intOf i).toNat)
    case atStart => exact ⟨0, A, l, c, bs, none, 0, [], rfl, Nat.zero_le _, rfl, bM3, Nat.le_refl _, hr3, Og.nil _ _ _, HAP, Below.refl _ _⟩
    case round =>
      obtain ⟨j, A1, l1, c1, rest, A2, c2, done, rfl, hj, rfl, hM, hl1, hsl, ho, hx, kr⟩ := hrel
      have hzr := kr.size
      have hsz := (hs3b.below kr (Nat.le_refl _)).more (by omega : bM ≤ wr.heap.size)
      clear bM3 hr3 HAP
      have kwr : Below w.heap.size w wr := kw3.trans (kr.mono (by omega))
      have BRr := Lib.hid ((kr.block _ y2).trans BR3.out)
      by_cases hlt : j < nums k.toNat
      · obtain ⟨hs, hs1, hs4, hj3⟩ := szs_at k.toNat hk15 j hlt
        obtain ⟨ad, rfl, hbd, hcd⟩ := hsz.at_ (ivs_at hs)
        have hi1 : (j : Int) < (nums k.toNat : Int) := by omega
        rw [takeN_step hs] at hx
        have hlen1 := hsl.len
        by_cases hsz1 : l1 < sz k.toNat j
        · rw [if_pos (by omega)] at hx
          have hAP : none = AP := by rw [← hx.out]; rfl
          subst hAP
          have hR : none = R := by have := HOF.out; simpa using this.symm
          subst hR
          have HT := Lib.hid (rtake_short (some ad) 0 0 1 w (by omega) (by omega) (by omega))
          clear HT
          have HT := Lib.hid (rtake_short A1 l1 c1 (sz k.toNat j) wr hs1 (by omega) hsz1)
          obtain ⟨q0, q1, q2, f0, f1, f2⟩ := three_cells BRr.out
          clear hx hs hM
          go_wp2_with fail
          refine HT.out.mono ?_
          rintro e w' ⟨rfl, rfl⟩
          go_wp2_with fail
          refine bodyPost_ret (v := .tuple #[Mg.zero.v, .int .i64 2]) ?_ rfl ⟨Mg.zero, rfl, rfl, MO.zero _ _, ?_⟩
          · rw [results_cell_tmp rfl]
            unfold Mg.v Mg.zero
            go_simp
          · exact KZ.out _ kwr _ _ _
        · rw [if_neg (by omega)] at hx
          have hdl : (rest.drop (sz k.toNat j)).length = l1 - sz k.toNat j := by rw [List.length_drop, hlen1]
          have HD := Lib.hid hdl
          have hT := rtake_own A1 rest l1 c1 (sz k.toNat j) wr hsl (by omega) hs1 (by omega) (by omega) _ (Lib.hid rfl)
          have HX : Hid (((takeN ((szs k.toNat).drop (j + 1)) (rest.drop (sz k.toNat j))).map fun r => (done ++ [val (rest.take (sz k.toNat j))] ++ r.1, r.2)).bind (fun r => (textsF r.2).map fun ts => (r.1, ts)) = AP) := Lib.hid (by
            rw [← hx.out]
            cases takeN ((szs k.toNat).drop (j + 1)) (rest.drop (sz k.toNat j)) <;> simp)
          have HT := Lib.hid hT
          have HM := Lib.hid hM
          obtain ⟨i0, hi, hz0, hz1, hz2⟩ := info_parts u64info
          clear hT hx hs hM hdl
          generalize val (rest.take (sz k.toNat j)) = v at *
          generalize rest.drop (sz k.toNat j) = rest2 at *
          go_wp2_with fail
          refine HT.out.mono ?_
          rintro e w5 ⟨A5, l5, c5, rfl, ho5, k5⟩
          obtain rfl : l5 = l1 - sz k.toNat j := by rw [← HD.out]; exact ho5.len.symm
          have hf5 := own_fresh ho5.own
          have hM5 := (k5.block bM (by omega)).trans HM.out
          obtain ⟨q0, q1, q2, f0, f1, f2⟩ := three_cells hM5
          have ho55 := ho.next k5
          have hz5 := k5.size
          have HM5 := Lib.hid hM5
          have hbw5 : bM + 1 ≤ w5.heap.size := by omega
          clear hM5
          go_wp2_with (at_builtin; refine wpList_append_rd rfl (.tmp 53) (.tmp 55) _ rfl (bM + 1) 63 i0 _ 8 Tryd.underlying22 hi hz0 hz1 hz2 rfl _ j _ rfl (ho55.next (kp_new _ _)).own (w5.heap.size + 1) _ _ _ [_] rfl rfl (Rd.new _ _ _) (by simp [Value.oneCell']) (by unfold maxLen; omega) (by omega) (by simp; omega) ?_; intro v6 w6 hown6 hg6; obtain ⟨A6, c6, rfl, ho6⟩ := Og.mk' hown6; have hb6 : Below (bM + 1) w5 w6 := ((Below.refl _ _).alloc hbw5 _).trans (below_own (ho55.next (kp_new _ _)).own hg6 (by simp; omega)); obtain ⟨u0, u1, u2, g0, g1, g2⟩ := three_cells ((hb6.block bM (by omega)).trans HM5.out))
          have hM6 := (hb6.block bM (by omega)).trans HM5.out
          have hsl6 : Sl w6 w6.heap.size A5 (l1 - sz k.toNat j) c5 rest2 := ((ho5.sl.next (kp_new w5 _)).grown (Nat.le_refl _) hg6 (fun ad e h => by have h1 := hf5 ad e; have h2 := (ho.own.lt _ h.symm).2; omega)).more hg6.size
          have hsl7 := (hsl6.setCell ⟨bM, 1, none⟩ (.slice A6 (j + 1) c6) (fun ad e => by have := hf5 ad e; simp only; omega)).more (by simp [World.setCell] : w6.heap.size ≤ (w6.setCell ⟨bM, 1, none⟩ (.slice A6 (j + 1) c6)).heap.size)
          have hM7 := (three_set hM6 (.slice A6 (j + 1) c6)).2.1
          have ho7 := ho6.setCell (a := ⟨bM, 1, none⟩) (Nat.lt_succ_self _) (.slice A6 (j + 1) c6)
          have kr7 : Below bM w3 (w6.setCell ⟨bM, 1, none⟩ (.slice A6 (j + 1) c6)) := ((kr.trans (k5.mono (by omega))).trans (hb6.mono (Nat.le_succ _))).setCell (Nat.le_refl _) _
          clear hM6 hsl6 u0 u1 u2 g0 g1 g2 q0 q1 q2 f0 f1 f2
          generalize w6.setCell ⟨bM, 1, none⟩ (.slice A6 (j + 1) c6) = w7 at *
          go_roundw
          case rel => exact ⟨j + 1, A5, l1 - sz k.toNat j, c5, rest2, A6, c6, done ++ [v], by go_num, by omega, rfl, hM7, by omega, hsl7, by simpa [uvs] using ho7, HX, kr7⟩
          case measure => simp [intOf]; omega
      · obtain rfl : j = nums k.toNat := by omega
        have hdr : (szs k.toNat).drop (nums k.toNat) = [] := List.drop_eq_nil_of_le (by rw [szs_nums]; exact Nat.le_refl _)
        rw [hdr, takeN] at hx
        have HX2 : Hid ((textsF rest).map (fun ts => (done, ([] : List ByteArray) ++ ts)) = AP) := Lib.hid (by rw [← hx.out]; simp)
        clear hx hdr
        obtain ⟨wo, hwo⟩ : ∃ x, x = wr := ⟨_, rfl⟩
        subst hwo
        obtain ⟨i0, hi, hz0, hz1, hz2⟩ := info_parts strinfo
        have ko := kr
        clear kr hsz BRr kwr hs3b
        go_wp2_with fail
        go_loopw [7] (fun v wr => ∃ (Ar : Option Addr) (lr cr : Nat) (rr : List UInt8) (A6 : Option Addr) (n6 c6 : Nat) (done2 : List ByteArray), v = .slice Ar lr cr ∧
          wr.heap[bM]? = some (.cells #[.int .i64 (k.toNat : Int), .slice A2 (nums k.toNat) c2, .slice A6 n6 c6] 31 (0, 0)) ∧ n6 + lr ≤ l1 ∧
          Sl wr wr.heap.size Ar lr cr rr ∧ Og 9 wr (bM + 1) A6 n6 c6 (svs done2) ∧ Og 63 wr (bM + 1) A2 (nums k.toNat) c2 (uvs done) ∧ Hid ((textsF rr).map (fun ts => (done, done2 ++ ts)) = AP) ∧ Below bM w3 wr) (fun v _ => lenS v)
        case atStart => exact ⟨A1, l1, c1, rest, none, 0, 0, [], rfl, hM, by omega, hsl, Og.nil _ _ _, ho, HX2, ko⟩
        case round =>
          obtain ⟨Ar, lr, cr, rr, A6, n6, c6, done2, rfl, hMr, hnl, hslr, ho6, hou, hx, kr⟩ := hrel
          have hzr2 := kr.size
          have kwr : Below w.heap.size w wr := kw3.trans (kr.mono (by omega))
          have BRr := Lib.hid ((kr.block _ y2).trans BR3.out)
          have BFr := Lib.hid ((kr.block _ y2').trans BF3.out)
          have hlen2 := Lib.hid hslr.len
          clear HX2 hM hsl ho ko
          by_cases h0 : lr = 0
          · subst h0
            have hn : rr = [] := List.eq_nil_of_length_eq_zero hlen2.out
            have hAP : some (done, done2) = AP := by rw [← hx.out, hn, textsF_nil]; simp
            subst hAP
            have hMO : MO wr (bM + 1) ⟨(k.toNat : Int), A2, nums k.toNat, c2, done, A6, n6, c6, done2⟩ := ⟨hou, ho6, HU.out _ rfl⟩
            obtain ⟨q0, q1, q2, _, _, _⟩ := three_cells hMr
            have hF := rframe_any ⟨(k.toNat : Int), A2, nums k.toNat, c2, done, A6, n6, c6, done2⟩ wr hMO.mr (by simp only; omega) (by simp only; omega)
            have hfr2 := HFRM.out _ rfl
            have hR := HOF.out
            simp only at hR hfr2
            unfold AnsM Mg.v frV at hF
            simp only at hF
            have HMr := Lib.hid hMr
            by_cases h00 : (frameF (k.toNat : Int) done done2).2.2 = 0
            · have hRs : some (done, done2) = R := by rw [hR, if_pos h00]
              subst hRs
              rw [hfr2 h00] at hF
              have HF := Lib.hid hF
              clear hF hR hfr2 hx h00 hMr hslr
              go_wp2_with fail
              refine HF.out.mono ?_
              rintro e w7 ⟨A7, l7, c7, rfl, ho7, k7⟩
              have y7 : w.heap.size + 1 < wr.heap.size := by omega
              obtain ⟨x0, x1, _, _⟩ := two_cells ((k7.block w.heap.size (by omega)).trans BFr.out)
              have hz7 := k7.size
              have y77 : w.heap.size < w7.heap.size := by omega
              have ka := kp_new w7 (.cells #[.int .u8 (k.toNat : Int), .slice A7 l7 c7] 35)
              have kb := kp_new (w7.alloc (.cells #[.int .u8 (k.toNat : Int), .slice A7 l7 c7] 35)) (.cells #[.int .u8 (k.toNat : Int), .slice A l c] 35)
              have kc := kp_new ((w7.alloc (.cells #[.int .u8 (k.toNat : Int), .slice A7 l7 c7] 35)).alloc (.cells #[.int .u8 (k.toNat : Int), .slice A l c] 35)) (.cells #[.int .u8 (k.toNat : Int), .slice A7 l7 c7] 35)
              have kabc := kp_trans ka (kp_trans kb kc)
              have rb := (rdn (w7.alloc (.cells #[.int .u8 (k.toNat : Int), .slice A7 l7 c7] 35)) 35 (w7.heap.size + 1) (by simp) [.int .u8 (k.toNat : Int), .slice A l c]).nx kc
              have rc := rdn ((w7.alloc (.cells #[.int .u8 (k.toNat : Int), .slice A7 l7 c7] 35)).alloc (.cells #[.int .u8 (k.toNat : Int), .slice A l c] 35)) 35 (w7.heap.size + 1 + 1) (by simp) [.int .u8 (k.toNat : Int), .slice A7 l7 c7]
              have hsA := (((hrb.below kr (Nat.le_refl _)).more (by omega : bM ≤ wr.heap.size)).next k7).next kabc
              have hsm := rsame_kp _ _ _ _ _ 1 _ 1 _ (fr1 k A l c bs rb hsA) (fr1 k A7 l7 c7 bs rc (ho7.sl.next kabc)) (by omega) (by simp; omega) true (Lib.hid (by simp [says, Rep.says]))
              have HSM := Lib.hid hsm
              have k7c := kp_trans k7 kabc
              clear hsm rb rc kb kc hsA
              go_wp2_with fail
              refine HSM.out.mono ?_
              rintro e w9 ⟨rfl, k9⟩
              have k79 := kp_trans k7c k9
              obtain ⟨u0, u1, u2, _, _, _⟩ := three_cells ((k79.block bM (by omega)).trans HMr.out)
              obtain ⟨v0, v1, v2, f0, f1, f2⟩ := three_cells ((k79.block _ y7).trans BRr.out)
              have hm9 := hMO.next k79
              clear x0 x1 HSM
              go_wp2_with fail
              refine bodyPost_ret (v := .tuple #[.agg #[.int .i64 (k.toNat : Int), .slice A2 (nums k.toNat) c2, .slice A6 n6 c6], .int .i64 0]) ?_ rfl ⟨⟨(k.toNat : Int), A2, nums k.toNat, c2, done, A6, n6, c6, done2⟩, rfl, rfl, ?_, ?_⟩
              · rw [results_cell_tmp rfl]
                go_simp
              · exact (((hm9.setCell (a := ⟨w.heap.size + 1, 0, none⟩) (by simp only; omega) _).setCell (a := ⟨w.heap.size + 1, 1, none⟩) (by simp only; omega) _).setCell (a := ⟨w.heap.size + 1, 2, none⟩) (by simp only; omega) _).base (by omega)
              · exact KZ.out _ (kp_trans kwr k79) _ _ _
            · have hRs : none = R := by rw [hR, if_neg h00]
              subst hRs
              have HF := Lib.hid hF
              generalize frameF (k.toNat : Int) done done2 = r at *
              obtain ⟨rk, rb, re⟩ := r
              simp only at h00 HF
              have hne : (re != 0) = true := by simpa using h00
              clear hF hR hfr2 hx h00 hMr hslr
              go_wp2_with fail
              refine HF.out.mono ?_
              rintro e w7 ⟨A7, l7, c7, rfl, ho7, k7⟩
              have y7 : w.heap.size + 1 < wr.heap.size := by omega
              have y77 : w.heap.size + 1 < w7.heap.size := Nat.lt_of_lt_of_le y7 k7.size
              obtain ⟨v0, v1, v2, f0, f1, f2⟩ := three_cells ((k7.block _ y7).trans BRr.out)
              go_wp2_with fail
              refine bodyPost_ret (v := .tuple #[Mg.zero.v, .int .i64 2]) ?_ rfl ⟨Mg.zero, rfl, rfl, MO.zero _ _, ?_⟩
              · rw [results_cell_tmp rfl]
                unfold Mg.v Mg.zero
                go_simp
              · first
                  | exact kp_alloc (KZ.out _ (kp_trans kwr k7) _ _ _) _
                  | exact KZ.out _ (kp_alloc (kp_trans kwr k7) _) _ _ _
          have hp : (0 : Int) < (lr : Int) := by omega
          have y7 : w.heap.size + 1 < wr.heap.size := by omega
          by_cases h2 : lr < 2
          · have hAP : none = AP := by
              rw [← hx.out, textsF_few (by intro h; rw [h] at hlen2; have := hlen2.out; simp at this; omega) (by rw [hlen2.out]; exact h2)]
              rfl
            subst hAP
            have hR : none = R := by have := HOF.out; simpa using this.symm
            subst hR
            obtain ⟨v0, v1, v2, f0, f1, f2⟩ := three_cells BRr.out
            clear hx hMr
            go_wp2_with fail
            refine (rtakeText_few Ar lr cr wr h2).mono ?_
            rintro e w' ⟨rfl, rfl⟩
            go_wp2_with fail
            refine bodyPost_ret (v := .tuple #[Mg.zero.v, .int .i64 2]) ?_ rfl ⟨Mg.zero, rfl, rfl, MO.zero _ _, ?_⟩
            · rw [results_cell_tmp rfl]
              unfold Mg.v Mg.zero
              go_simp
            · exact KZ.out _ kwr _ _ _
          by_cases h3 : lr < 2 + val (rr.take 2)
          · have hAP : none = AP := by
              rw [← hx.out, textsF_short (by rw [hlen2.out]; omega) (by rw [hlen2.out]; exact h3)]
              rfl
            subst hAP
            have hR : none = R := by have := HOF.out; simpa using this.symm
            subst hR
            clear hx hMr
            go_wp2_with fail
            refine (rtakeText_short Ar rr lr cr wr hslr (by omega) (by omega) h3).mono ?_
            rintro e w5 ⟨rfl, k5⟩
            obtain ⟨v0, v1, v2, f0, f1, f2⟩ := three_cells ((k5.block _ y7).trans BRr.out)
            go_wp2_with fail
            refine bodyPost_ret (v := .tuple #[Mg.zero.v, .int .i64 2]) ?_ rfl ⟨Mg.zero, rfl, rfl, MO.zero _ _, ?_⟩
            · rw [results_cell_tmp rfl]
              unfold Mg.v Mg.zero
              go_simp
            · exact KZ.out _ (kp_trans kwr k5) _ _ _
          · have hstep := textsF_step (bs := rr) (by rw [hlen2.out]; omega) (by rw [hlen2.out]; omega)
            rw [hstep] at hx
            have hT := rtakeText_own Ar rr lr cr wr hslr (by omega) (by omega) _ (Lib.hid rfl) _ (Lib.hid rfl) (by omega)
            have HT := Lib.hid hT
            clear hT hstep
            generalize hv : val (rr.take 2) = v at *
            generalize hs : (⟨((rr.take (2 + v)).drop 2).toArray⟩ : ByteArray) = s at *
            have hdl : (rr.drop (2 + v)).length = lr - (2 + v) := by rw [List.length_drop, hlen2.out]
            have HD := Lib.hid hdl
            have HX : Hid ((textsF (rr.drop (2 + v))).map (fun ts => (done, (done2 ++ [s]) ++ ts)) = AP) := Lib.hid (by rw [← hx.out]; cases textsF (rr.drop (2 + v)) <;> simp)
            generalize rr.drop (2 + v) = rr2 at *
            have HMr := Lib.hid hMr
            clear hdl hv hs hx hMr
            go_wp2_with fail
            refine HT.out.mono ?_
            rintro e w5 ⟨A5, l5, c5, rfl, ho5, k5⟩
            obtain rfl : l5 = lr - (2 + v) := by rw [← HD.out]; exact ho5.len.symm
            have hf5 := own_fresh ho5.own
            have hM5 := (k5.block bM (by omega)).trans HMr.out
            obtain ⟨q0, q1, q2, f0, f1, f2⟩ := three_cells hM5
            have ho65 := ho6.next k5
            have hou5 := hou.next k5
            have hz5 := k5.size
            have HM5 := Lib.hid hM5
            have hbw5 : bM + 1 ≤ w5.heap.size := by omega
            clear hM5
            go_wp2_with (at_builtin; refine wpList_append_rd rfl (.tmp 72) (.tmp 74) _ rfl (bM + 1) 9 i0 _ 16 Tryd.underlying23 hi hz0 hz1 hz2 rfl _ n6 _ rfl (ho65.next (kp_new _ _)).own (w5.heap.size + 1) _ _ _ [_] rfl rfl (Rd.new _ _ _) (by simp [Value.oneCell']) (by unfold maxLen; omega) (by omega) (by simp; omega) ?_; intro v6 w6 hown6 hg6; obtain ⟨A9, c9, rfl, ho9⟩ := Og.mk' hown6; have hb6 : Below (bM + 1) w5 w6 := ((Below.refl _ _).alloc hbw5 _).trans (below_own (ho65.next (kp_new _ _)).own hg6 (by simp; omega)); obtain ⟨u0, u1, u2, g0, g1, g2⟩ := three_cells ((hb6.block bM (by omega)).trans HM5.out))
            have hM6 := (hb6.block bM (by omega)).trans HM5.out
            have hou6 : Og 63 w6 (bM + 1) A2 (nums k.toNat) c2 (uvs done) := ⟨own_apart (hou5.next (kp_new w5 _)).own (ho65.next (kp_new w5 _)).own (by decide) hg6, hou.cap⟩
            have hsl6 : Sl w6 w6.heap.size A5 (lr - (2 + v)) c5 rr2 := ((ho5.sl.next (kp_new w5 _)).grown (Nat.le_refl _) hg6 (fun ad e h => by have h1 := hf5 ad e; have h2 := (ho6.own.lt _ h.symm).2; omega)).more hg6.size
            have hsl7 := (hsl6.setCell ⟨bM, 2, none⟩ (.slice A9 (n6 + 1) c9) (fun ad e => by have := hf5 ad e; simp only; omega)).more (by simp [World.setCell] : w6.heap.size ≤ (w6.setCell ⟨bM, 2, none⟩ (.slice A9 (n6 + 1) c9)).heap.size)
            have hM7 := (three_set hM6 (.slice A9 (n6 + 1) c9)).2.2
            have ho7 := ho9.setCell (a := ⟨bM, 2, none⟩) (Nat.lt_succ_self _) (.slice A9 (n6 + 1) c9)
            have hou7 := hou6.setCell (a := ⟨bM, 2, none⟩) (Nat.lt_succ_self _) (.slice A9 (n6 + 1) c9)
            have kr7 : Below bM w3 (w6.setCell ⟨bM, 2, none⟩ (.slice A9 (n6 + 1) c9)) := ((kr.trans (k5.mono (by omega))).trans (hb6.mono (Nat.le_succ _))).setCell (Nat.le_refl _) _
            clear hM6 hsl6 hou6 u0 u1 u2 g0 g1 g2 q0 q1 q2 f0 f1 f2
            generalize w6.setCell ⟨bM, 2, none⟩ (.slice A9 (n6 + 1) c9) = w7 at *
            go_roundw
            case rel => exact ⟨A5, lr - (2 + v), c5, rr2, A9, n6 + 1, c9, done2 ++ [s], rfl, hM7, by omega, hsl7, by simpa [svs] using ho7, hou7, HX, kr7⟩
            case measure => simp [lenS]; omega
  · have hO : ofF k bs = none := by rw [ofF, if_neg (fun h => hk h.1)]
    have hR : R = none := by rw [← hO0, hO]
    subst hR
    have HS := Lib.hid (rsizes_no (k.toNat : Int) ((w.alloc (.cells #[.int .u8 (k.toNat : Int), .slice A l c] 35)).alloc (.cells #[.int .i64 0, .slice none 0 0, .slice none 0 0] 31)) (by omega))
    clear hk hO hO0 hofr
    go_enter Tryd.func13, Tryd.ntmps13
    go_wp2_with fail
    refine HS.out.mono ?_
    rintro e w' ⟨rfl, rfl⟩
    go_wp2_with fail
    refine bodyPost_ret (v := .tuple #[Mg.zero.v, .int .i64 2]) ?_ rfl ⟨Mg.zero, rfl, rfl, MO.zero _ _, ?_⟩
    · rw [results_cell_tmp rfl]
      unfold Mg.v Mg.zero
      go_simp
    · exact k1
end Go.Proofs.YtmklmakcampbbaaDoor
