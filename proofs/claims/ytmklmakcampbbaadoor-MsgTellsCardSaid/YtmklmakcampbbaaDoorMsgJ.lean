/-
  A message's frame and bytes, by the document (Frame, Bytes of its layer 3): contracts.
-/
import Derived.Test.YtmklmakcampbbaaDoorMsgI
import Derived.Test.YtmklmakcampbbaaDoorMsgM
namespace Go.Proofs.YtmklmakcampbbaaDoor
open Go.RowKit
set_option maxRecDepth 100000

def owStb (base m : Nat) (bs : List UInt8) : Stb := ⟨fun v u => ∃ A c, v = .slice A m c ∧ Ow u base A m c bs, fun _ _ _ ⟨A, c, h, ho⟩ hb => ⟨A, c, h, ho.next hb⟩⟩
def tupOw (base m : Nat) (bs : List UInt8) : Stb := ⟨fun v u => ∃ A c, v = .tuple #[.slice A m c, .int .i64 0] ∧ Ow u base A m c bs, fun _ _ _ ⟨A, c, h, ho⟩ hb => ⟨A, c, h, ho.next hb⟩⟩

set_option maxHeartbeats 4000000 in
theorem rframe_any (m : Mg) (w : World) (hm : MR w m) (hL : m.l ≤ 1000000) (hL' : m.l' ≤ 1000000) : AnsM 9 #[m.v] w (frameF m.k m.ns m.ts) := by
  obtain ⟨mk, A, l, c, ns, A', l', c', ts⟩ := m
  simp only at hL hL' ⊢
  have hv : Mg.v ⟨mk, A, l, c, ns, A', l', c', ts⟩ = .agg #[.int .i64 mk, .slice A l c, .slice A' l' c'] := rfl
  rw [hv]
  unfold AnsM frameF
  have k1 : Below w.heap.size w ((w.alloc (.cells #[.int .i64 mk, .slice A l c, .slice A' l' c'] 31)).alloc (.cells #[.int .u8 0, .slice none 0 0] 35)) := kp_alloc (kp_new _ _) _
  obtain ⟨b0, b1⟩ := alloc2 w (.cells #[.int .i64 mk, .slice A l c, .slice A' l' c'] 31) (.cells #[.int .u8 0, .slice none 0 0] 35)
  have z1 : w.heap.size + 2 = ((w.alloc (.cells #[.int .i64 mk, .slice A l c, .slice A' l' c'] 31)).alloc (.cells #[.int .u8 0, .slice none 0 0] 35)).heap.size := by simp
  cases hr : rightF mk ns ts
  · rw [if_pos rfl]
    simp only
    have hR := fun w1 (k : Below w.heap.size w w1) => rright_any ⟨mk, A, l, c, ns, A', l', c', ts⟩ w1 (hm.next k) hL hL' false (Lib.hid hr)
    have HR := Lib.hid (hR _ k1)
    have HB := Lib.hid b1
    have HZ := Lib.hid z1
    clear hR b0 b1 z1
    go_enter Tryd.func9, Tryd.ntmps9
    go_wp2_with fail
    refine HR.out.mono ?_
    rintro e w2 ⟨rfl, k2⟩
    obtain ⟨c0, c1, f0, f1⟩ := two_cells ((k2.block (w.heap.size + 1) (by rw [← HZ.out]; omega)).trans HB.out)
    go_wp2_with fail
    refine bodyPost_ret (v := .tuple #[frV 0 none 0 0, .int .i64 1]) ?_ rfl ⟨none, 0, 0, rfl, Ow.nil _ _, ?_⟩
    · rw [results_cell_tmp rfl]
      unfold frV
      go_simp
    · exact ((kp_trans k1 k2).setCell (Nat.le_succ _) _).setCell (Nat.le_succ _) _
  · rw [if_neg (by decide)]
    have hrr := hr
    unfold rightF at hrr
    simp only [Bool.and_eq_true, decide_eq_true_eq] at hrr
    obtain ⟨⟨g1, g2⟩, hfn, hok⟩ := hrr
    obtain ⟨k, rfl⟩ := Int.eq_ofNat_of_zero_le (by omega : 0 ≤ mk)
    rw [Int.toNat_natCast] at hfn hok ⊢
    have hk15 : k < 15 := by omega
    obtain ⟨hts, hct⟩ := okT_parts hok
    have h20 := fitT_most hk15 hct
    have hR := fun w1 (k1 : Below w.heap.size w w1) => rright_any ⟨k, A, l, c, ns, A', l', c', ts⟩ w1 (hm.next k1) hL hL' true (Lib.hid hr)
    have HR := Lib.hid (hR _ k1)
    have HB0 := Lib.hid b0
    have HB := Lib.hid b1
    have HZ := Lib.hid z1
    have hln := Lib.hid hm.ln
    have hlt' := Lib.hid hm.lt
    have hl3 : l ≤ 3 := by have := szs_len k hk15; have := fitN_len hfn; have := hln.out; simp only at this; omega
    have hl20 : l' ≤ 20 := by have := hlt'.out; simp only at this; omega
    have HLN : Hid (l = nums k) := Lib.hid (by rw [← szs_nums, ← fitN_len hfn]; exact hln.out.symm)
    have HF := Lib.hid ((fitN_iff (fitN_len hfn)).1 hfn)
    have HT := Lib.hid hts
    have hm1 := hm.next k1
    have hkk : (((UInt8.ofNat k).toNat : Nat) : Int) = k := by simp only [UInt8.toNat_ofNat']; omega
    have hkw : (k : Int) % 256 = k := by omega
    have HK := Lib.hid hkk
    clear hR b0 b1 z1 hfn hok hts hct h20 hr hkk hm
    obtain ⟨body, hlay⟩ : ∃ body, Hid (layF k ns ts = body) := ⟨_, Lib.hid rfl⟩
    rw [hlay.out]
    generalize hif : (if 300 < body.length then ((0 : UInt8), ([] : List UInt8), (4 : Int)) else (UInt8.ofNat k, body, 0)) = r
    obtain ⟨rk, rb, re⟩ := r
    simp only
    have HIF := Lib.hid hif
    clear hif
    go_enter Tryd.func9, Tryd.ntmps9
    go_wp2_with fail
    refine HR.out.mono ?_
    rintro e w2 ⟨rfl, k2⟩
    have b2 := (k2.block w.heap.size (by rw [← HZ.out]; omega)).trans HB0.out
    have B3 := Lib.hid ((k2.block (w.heap.size + 1) (by rw [← HZ.out]; omega)).trans HB.out)
    obtain ⟨x0, x1, x2, _, _, _⟩ := three_cells b2
    have y2 : w.heap.size + 1 < w2.heap.size := (Array.getElem?_eq_some_iff.1 B3.out).1
    have B2 := Lib.hid b2
    have kw2 := kp_trans k1 k2
    have hm2 := hm1.next k2
    clear HR HB0 HB HZ k1 k2 hm1 b2
    go_wp2_with fail
    refine (rsizes_ok k w2 (by omega)).mono ?_
    rintro e w3 ⟨A3, c3, rfl, hs3, k3⟩
    have hm3 := hm2.next k3
    have B4 := (k3.block _ (by omega)).trans B2.out
    have B5 := Lib.hid ((k3.block _ y2).trans B3.out)
    have y3 : w.heap.size + 1 < w3.heap.size := Nat.lt_of_lt_of_le y2 k3.size
    have kw3 := kp_trans kw2 k3
    have ho0 : Ow (w3.alloc (.cells #[] 5)) w3.heap.size (some ⟨w3.heap.size, 0, none⟩) 0 0 [] := Ow.new w3 w3.heap.size (Nat.le_refl _) [] (by simp)
    have k4 := kp_new w3 (.cells #[] 5)
    clear x0 x1 x2 B2 B3 y2 kw2 hm2 k3
    obtain ⟨x0, x1, x2, _, _, _⟩ := three_cells B4
    have B4 := Lib.hid B4
    go_wp2_with fail
    go_loopw [6, 7] (fun v i wr => ∃ (j : Nat) (A2 : Option Addr) (L2 c2 : Nat), j ≤ nums k ∧ i = .int .i64 j ∧ v = .slice A2 L2 c2 ∧ L2 ≤ 4 * j ∧ Ow wr w3.heap.size A2 L2 c2 (layN ((szs k).take j) (ns.take j)) ∧ Below w3.heap.size w3 wr) (fun _ i _ => nums k - (intOf i).toNat)
    case atStart => exact ⟨0, _, 0, 0, Nat.zero_le _, rfl, rfl, Nat.zero_le _, ho0, k4⟩
    case round =>
      obtain ⟨j, A2, L2, c2, hj, rfl, rfl, hL2, ho2, kr⟩ := hrel
      by_cases hlt : j < nums k
      · have hjn : j < ns.length := by rw [hln.out, HLN.out]; exact hlt
        obtain ⟨hs, hs1, hs4, hj3⟩ := szs_at k hk15 j hlt
        have hmr := hm3.next kr
        obtain ⟨am, rfl, hbm, hcm⟩ := hmr.num.at_ (uvs_at hjn)
        have hsr := hs3.next kr
        obtain ⟨ad, rfl, hbd, hcd⟩ := hsr.at_ (ivs_at hs)
        have hb3 : w.heap.size < w3.heap.size := by omega
        have y0 := (kr.cell hb3).trans x0
        have y1 := (kr.cell hb3).trans x1
        have y2 := (kr.cell hb3).trans x2
        have hi1 : (j : Int) < (nums k : Int) := by omega
        have hi2 : (j : Int) < (l : Int) := by have := HLN.out; omega
        have hns : ns[j]? = some ns[j] := List.getElem?_eq_getElem hjn
        have hn64 := hm3.u64 _ (List.getElem_mem hjn)
        have hfit := HF.out j _ _ hs hns
        have hyn := layN_next hs hns
        generalize ns[j] = nj at *
        have hput := fun (u : World) (h : Sl u u.heap.size A2 L2 c2 (layN ((szs k).take j) (ns.take j))) => rput_ok A2 _ L2 c2 (sz k j) nj u h (by omega) hs1 (by omega) hn64 (Lib.hid (decide_eq_true hfit)) _ rfl
        rw [← hyn] at hput
        generalize hM2 : L2 + sz k j = M2 at *
        generalize hbd2 : layN ((szs k).take (j + 1)) (ns.take (j + 1)) = body2 at *
        have HY := Lib.hid hbd2
        have HP := Lib.hid hput
        have HCD := Lib.hid hcd
        have HCM := Lib.hid hcm
        have z3 : w.heap.size < wr.heap.size := Nat.lt_of_lt_of_le hb3 kr.size
        have hBB := kr.size
        clear hs hns hcd hcm hmr hsr x0 x1 x2 hput hfit hbd2 hyn hb3
        go_wp2_with fail
        refine wp_region_specs (S := fun u => Below wr.heap.size wr u) (Sp := [(27, Stb.eq (.slice A2 L2 c2)), (28, Stb.eq (.slice (some ad) (nums k) c3)), (29, Stb.eq (.int .i64 (j : Int))), (30, Stb.eq (.pointer (some (ad.add j)))), (31, Stb.eq (.int .i64 (sz k j : Int))), (32, Stb.eq (.pointer (some ⟨w.heap.size, 1, none⟩))), (33, Stb.eq (.slice (some am) l c)), (34, Stb.eq (.int .i64 (j : Int))), (35, Stb.eq (.pointer (some (am.add j)))), (36, Stb.eq (.int .u64 (nj : Int))), (37, tupOw w3.heap.size M2 body2), (26, tupOw w3.heap.size M2 body2), (38, owStb w3.heap.size M2 body2), (39, Stb.eq (.int .i64 0)), (6, owStb w3.heap.size M2 body2)]) (by kernel_rfl) (by kernel_rfl) (kp_drewN _ 1) ?_ ?_
        · refine EachOp.cons ?_ ?_
          · intro a u hst hS hdep
            have h6 : a.tmps.getD 6 undef = .slice A2 L2 c2 := hst.old 6 (by kernel_rfl)
            refine ⟨trivial, ?_⟩
            have g6 := gd h6
            go_simp
            exact Goes.same hS rfl
          refine EachOp.cons ?_ ?_
          · intro a u hst hS hdep
            have h4 : a.tmps.getD 4 undef = .slice (some ad) (nums k) c3 := hst.out 4 (by kernel_rfl)
            refine ⟨trivial, ?_⟩
            have g4 := gd h4
            go_simp
            exact Goes.same hS rfl
          refine EachOp.cons ?_ ?_
          · intro a u hst hS hdep
            have h7 : a.tmps.getD 7 undef = .int .i64 (j : Int) := hst.out 7 (by kernel_rfl)
            refine ⟨trivial, ?_⟩
            have g7 := gd h7
            go_simp
            exact Goes.same hS rfl
          refine EachOp.cons ?_ ?_
          · intro a u hst hS hdep
            have h28 : a.tmps.getD 28 undef = .slice (some ad) (nums k) c3 := hdep 28 (by kernel_rfl)
            have h29 : a.tmps.getD 29 undef = .int .i64 (j : Int) := hdep 29 (by kernel_rfl)
            refine ⟨trivial, ?_⟩
            have g28 := gd h28
            have g29 := gd h29
            go_simp
            exact Goes.same hS rfl
          refine EachOp.cons ?_ ?_
          · intro a u hst hS hdep
            have h30 : a.tmps.getD 30 undef = .pointer (some (ad.add j)) := hdep 30 (by kernel_rfl)
            refine ⟨trivial, ?_⟩
            have g30 := gd h30
            have c31 := (hS.cell (p := ad.add j) (by rw [add_block]; exact hbd)).trans HCD.out
            go_simp
            exact Goes.same hS rfl
          refine EachOp.cons ?_ ?_
          · intro a u hst hS hdep
            have h1 : a.tmps.getD 1 undef = .pointer (some ⟨w.heap.size, 0, none⟩) := hst.out 1 (by kernel_rfl)
            refine ⟨trivial, ?_⟩
            have g1 := gd h1
            go_simp
            exact Goes.same hS rfl
          refine EachOp.cons ?_ ?_
          · intro a u hst hS hdep
            have h32 : a.tmps.getD 32 undef = .pointer (some ⟨w.heap.size, 1, none⟩) := hdep 32 (by kernel_rfl)
            refine ⟨trivial, ?_⟩
            have g32 := gd h32
            have c33 := (hS.cell z3).trans y1
            go_simp
            exact Goes.same hS rfl
          refine EachOp.cons ?_ ?_
          · intro a u hst hS hdep
            have h7 : a.tmps.getD 7 undef = .int .i64 (j : Int) := hst.out 7 (by kernel_rfl)
            refine ⟨trivial, ?_⟩
            have g7 := gd h7
            go_simp
            exact Goes.same hS rfl
          refine EachOp.cons ?_ ?_
          · intro a u hst hS hdep
            have h33 : a.tmps.getD 33 undef = .slice (some am) l c := hdep 33 (by kernel_rfl)
            have h34 : a.tmps.getD 34 undef = .int .i64 (j : Int) := hdep 34 (by kernel_rfl)
            refine ⟨trivial, ?_⟩
            have g33 := gd h33
            have g34 := gd h34
            go_simp
            exact Goes.same hS rfl
          refine EachOp.cons ?_ ?_
          · intro a u hst hS hdep
            have h35 : a.tmps.getD 35 undef = .pointer (some (am.add j)) := hdep 35 (by kernel_rfl)
            refine ⟨trivial, ?_⟩
            have g35 := gd h35
            have c36 := (hS.cell (p := am.add j) (by rw [add_block]; exact hbm)).trans HCM.out
            go_simp
            exact Goes.same hS rfl
          refine EachOp.cons ?_ ?_
          · intro a u hst hS hdep
            have h27 : a.tmps.getD 27 undef = .slice A2 L2 c2 := hdep 27 (by kernel_rfl)
            have h31 : a.tmps.getD 31 undef = .int .i64 (sz k j : Int) := hdep 31 (by kernel_rfl)
            have h36 : a.tmps.getD 36 undef = .int .u64 (nj : Int) := hdep 36 (by kernel_rfl)
            refine ⟨trivial, ?_⟩
            have g27 := gd h27
            have g31 := gd h31
            have g36 := gd h36
            go_simp
            refine (HP.out u (ho2.next hS).sl).mono ?_
            rintro e' u' ⟨A9, c9, rfl, ho9, hb'⟩
            exact Goes.next (kp_trans hS hb') hb' ⟨_, _, rfl, ho9.base (Nat.le_trans hBB hS.size)⟩
          refine EachOp.cons ?_ ?_
          · intro a u hst hS hdep
            obtain ⟨A37, c37, h37, r37⟩ := hdep 37 (by kernel_rfl)
            refine ⟨trivial, ?_⟩
            have g37 := gd h37
            go_simp
            exact Goes.same hS ⟨_, _, rfl, r37⟩
          refine EachOp.cons ?_ ?_
          · intro a u hst hS hdep
            obtain ⟨A26, c26, h26, r26⟩ := hdep 26 (by kernel_rfl)
            refine ⟨trivial, ?_⟩
            have g26 := gd h26
            go_simp
            exact Goes.same hS ⟨_, _, rfl, r26⟩
          refine EachOp.cons ?_ ?_
          · intro a u hst hS hdep
            obtain ⟨A26, c26, h26, r26⟩ := hdep 26 (by kernel_rfl)
            refine ⟨trivial, ?_⟩
            have g26 := gd h26
            go_simp
            exact Goes.same hS rfl
          refine EachOp.cons ?_ ?_
          · intro a u hst hS hdep
            obtain ⟨A38, c38, h38, r38⟩ := hdep 38 (by kernel_rfl)
            refine ⟨trivial, ?_⟩
            have g38 := gd h38
            go_simp
            exact Goes.same hS ⟨_, _, rfl, r38⟩
          exact EachOp.nil
        · intro a u hst hS hdep
          have h27 : a.tmps.getD 27 undef = .slice A2 L2 c2 := hdep 27 (by kernel_rfl)
          have h28 : a.tmps.getD 28 undef = .slice (some ad) (nums k) c3 := hdep 28 (by kernel_rfl)
          have h29 : a.tmps.getD 29 undef = .int .i64 (j : Int) := hdep 29 (by kernel_rfl)
          have h30 : a.tmps.getD 30 undef = .pointer (some (ad.add j)) := hdep 30 (by kernel_rfl)
          have h31 : a.tmps.getD 31 undef = .int .i64 (sz k j : Int) := hdep 31 (by kernel_rfl)
          have h32 : a.tmps.getD 32 undef = .pointer (some ⟨w.heap.size, 1, none⟩) := hdep 32 (by kernel_rfl)
          have h33 : a.tmps.getD 33 undef = .slice (some am) l c := hdep 33 (by kernel_rfl)
          have h34 : a.tmps.getD 34 undef = .int .i64 (j : Int) := hdep 34 (by kernel_rfl)
          have h35 : a.tmps.getD 35 undef = .pointer (some (am.add j)) := hdep 35 (by kernel_rfl)
          have h36 : a.tmps.getD 36 undef = .int .u64 (nj : Int) := hdep 36 (by kernel_rfl)
          obtain ⟨A37, c37, h37, r37⟩ := hdep 37 (by kernel_rfl)
          obtain ⟨A26, c26, h26, r26⟩ := hdep 26 (by kernel_rfl)
          obtain ⟨A38, c38, h38, r38⟩ := hdep 38 (by kernel_rfl)
          have h39 : a.tmps.getD 39 undef = .int .i64 0 := hdep 39 (by kernel_rfl)
          obtain ⟨A6, c6, h6, r6⟩ := hdep 6 (by kernel_rfl)
          have hfr := hst.frame [(27, .slice A2 L2 c2), (28, .slice (some ad) (nums k) c3), (29, .int .i64 (j : Int)), (30, .pointer (some (ad.add j))), (31, .int .i64 (sz k j : Int)), (32, .pointer (some ⟨w.heap.size, 1, none⟩)), (33, .slice (some am) l c), (34, .int .i64 (j : Int)), (35, .pointer (some (am.add j))), (36, .int .u64 (nj : Int)), (37, .tuple #[.slice A37 M2 c37, .int .i64 0]), (26, .tuple #[.slice A26 M2 c26, .int .i64 0]), (38, .slice A38 M2 c38), (39, .int .i64 0), (6, .slice A6 M2 c6)] (by kernel_rfl) ⟨h27, h28, h29, h30, h31, h32, h33, h34, h35, h36, h37, h26, h38, h39, h6, trivial⟩
          clear hst hdep h27 h28 h29 h30 h31 h32 h33 h34 h35 h36 h37 h26 h38 h39 h6
          subst hfr
          simp only [List.foldl_cons, List.foldl_nil, List.setIfInBounds_toArray, List.set_cons_zero, List.set_cons_succ]
          have kru := kp_trans kr hS
          go_wp2_with fail
          go_roundw
          case rel => exact ⟨j + 1, A6, M2, c6, by omega, by go_num, rfl, by omega, by rw [HY.out]; exact r6, kru⟩
          case measure => simp [intOf]; omega
      · obtain rfl : j = nums k := by omega
        have e1 : (szs k).take (nums k) = szs k := List.take_of_length_le (by rw [szs_nums]; exact Nat.le_refl _)
        have e2 : ns.take (nums k) = ns := List.take_of_length_le (by rw [hln.out, HLN.out]; exact Nat.le_refl _)
        rw [e1, e2] at ho2
        have hL12 : L2 ≤ 12 := by have := HLN.out; omega
        have hb3 : w.heap.size < w3.heap.size := by omega
        have y0 := (kr.cell hb3).trans x0
        have y1 := (kr.cell hb3).trans x1
        have y2 := (kr.cell hb3).trans x2
        have hmo := hm3.next kr
        have B6 := Lib.hid ((kr.block _ y3).trans B5.out)
        have B7 := Lib.hid ((kr.block _ hb3).trans B4.out)
        have y4 : w.heap.size + 1 < wr.heap.size := Nat.lt_of_lt_of_le y3 kr.size
        have hzo := kr.size
        have kwo := kp_trans kw3 kr
        obtain ⟨wo, hwo⟩ : ∃ x, x = wr := ⟨_, rfl⟩
        subst hwo
        clear e1 e2 x0 x1 x2 hm3 kr hs3 B4 B5 k4 ho0
        have hb4 : w.heap.size < wo.heap.size := by omega
        go_wp2_with fail
        go_loopw [6, 8] (fun v i wr => ∃ (q : Nat) (A4 : Option Addr) (L4 c4 : Nat), q ≤ l' ∧ i = .int .i64 q ∧ v = .slice A4 L4 c4 ∧ L4 ≤ 12 + 202 * q ∧ Ow wr w3.heap.size A4 L4 c4 (layN (szs k) ns ++ layT (ts.take q)) ∧ Below wo.heap.size wo wr) (fun _ i _ => l' - (intOf i).toNat)
        case atStart => exact ⟨0, A2, L2, c2, Nat.zero_le _, rfl, rfl, by omega, by simpa [layT] using ho2, Below.refl _ _⟩
        case round =>
          obtain ⟨q, A4, L4, c4, hq, rfl, rfl, hL4, ho4, kr⟩ := hrel
          have u0 := (kr.cell hb4).trans y0
          have u2 := (kr.cell hb4).trans y2
          by_cases hlq : q < l'
          · have hqn : q < ts.length := by rw [hlt'.out]; exact hlq
            have hmr := hmo.next kr
            obtain ⟨ad, rfl, hb, hc⟩ := hmr.txt.at_ (svs_at hqn)
            have hi : (q : Int) < (l' : Int) := by omega
            have HY := Lib.hid (layT_next ts q hqn)
            have hsz := HT.out _ (List.getElem_mem hqn)
            generalize ts[q] = t at *
            have hput := rputText_ok A4 _ L4 c4 t wr ho4.sl (by omega) (by omega)
            have hol := ho4.len
            have HOL := Lib.hid hol
            have HP := Lib.hid hput
            have hz4 := Nat.le_trans hzo kr.size
            clear hput y0 y1 y2 hmr hmo hol
            go_wp2_with fail
            refine HP.out.mono ?_
            rintro e w5 ⟨A5, l5, c5, rfl, ho5, k5⟩
            have hl5 : l5 = L4 + 2 + t.size := by
              rw [← ho5.len, List.length_append, List.length_append, HOL.out, be_length, Array.length_toList]
              rfl
            go_wp2_with fail
            go_roundw
            case rel => exact ⟨q + 1, A5, _, c5, by omega, by go_num, rfl, by omega, by rw [HY.out, txtB, ← List.append_assoc, ← List.append_assoc, ← hl5]; exact ho5.base hz4, kp_trans kr k5⟩
            case measure => simp [intOf]; omega
          · obtain rfl : q = l' := by omega
            have e2 : ts.take q = ts := List.take_of_length_le (by rw [hlt'.out]; exact Nat.le_refl _)
            have hbody : layN (szs k) ns ++ layT ts = body := hlay.out
            rw [e2, hbody] at ho4
            have hol := ho4.len
            have kwr := kp_trans kwo kr
            have hz4 := Nat.le_trans hzo kr.size
            have hz5 : w.heap.size ≤ w3.heap.size := by omega
            obtain ⟨c0, c1, f0, f1⟩ := two_cells ((kr.block _ y4).trans B6.out)
            clear e2 hbody y0 y1 y2 hmo
            by_cases h300 : 300 < body.length
            · have hif := HIF.out
              rw [if_pos h300] at hif
              simp only [Prod.mk.injEq] at hif
              obtain ⟨rfl, rfl, rfl⟩ := hif
              have hd : decide ((300 : Int) < (L4 : Int)) = true := by simp; omega
              go_wp2_with fail
              refine bodyPost_ret (v := .tuple #[frV 0 none 0 0, .int .i64 4]) ?_ rfl ⟨none, 0, 0, rfl, Ow.nil _ _, ?_⟩
              · rw [results_cell_tmp rfl]
                unfold frV
                go_simp
              · exact (kwr.setCell (Nat.le_succ _) _).setCell (Nat.le_succ _) _
            · have hif := HIF.out
              rw [if_neg h300] at hif
              simp only [Prod.mk.injEq] at hif
              obtain ⟨rfl, rfl, rfl⟩ := hif
              have hd : decide ((300 : Int) < (L4 : Int)) = false := by simp; omega
              go_wp2_with fail
              refine bodyPost_ret (v := .tuple #[frV (UInt8.ofNat k) A4 L4 c4, .int .i64 0]) ?_ rfl ⟨A4, L4, c4, rfl, ?_, ?_⟩
              · rw [results_cell_tmp rfl]
                unfold frV
                rw [HK.out]
                go_simp
              · exact ((ho4.setCell (a := ⟨w.heap.size + 1, 0, none⟩) y3 _).setCell (a := ⟨w.heap.size + 1, 1, none⟩) y3 _).base hz5
              · exact (kwr.setCell (Nat.le_succ _) _).setCell (Nat.le_succ _) _

set_option maxHeartbeats 1000000 in
theorem rmbytes_any (m : Mg) (w : World) (hm : MR w m) (hL : m.l ≤ 1000000) (hL' : m.l' ≤ 1000000) : AnsY 11 #[m.v] w (msgB m.k m.ns m.ts) := by
  obtain ⟨mk, A, l, c, ns, A', l', c', ts⟩ := m
  simp only at hL hL' ⊢
  have hv : Mg.v ⟨mk, A, l, c, ns, A', l', c', ts⟩ = .agg #[.int .i64 mk, .slice A l c, .slice A' l' c'] := rfl
  rw [hv]
  unfold AnsY msgB
  have k1 : Below w.heap.size w (w.alloc (.cells #[.int .i64 mk, .slice A l c, .slice A' l' c'] 31)) := kp_new _ _
  have hF := rframe_any ⟨mk, A, l, c, ns, A', l', c', ts⟩ _ (hm.next k1) hL hL'
  unfold AnsM at hF
  simp only at hF
  generalize frameF mk ns ts = r at *
  obtain ⟨rk, rb, re⟩ := r
  simp only at hF ⊢
  rw [hv] at hF
  unfold frV at hF
  have HF := Lib.hid hF
  clear hF
  by_cases he : re = 0
  · subst he
    rw [if_pos rfl]
    have hY := fun w2 A2 l2 c2 (h : Sl w2 w2.heap.size A2 l2 c2 rb) => rbytes_any rk A2 rb l2 c2 w2 h
    unfold AnsY frV at hY
    generalize bytesF rk rb = y at *
    obtain ⟨yb, ye⟩ := y
    simp only at hY ⊢
    have HY := Lib.hid hY
    clear hY
    go_enter Tryd.func11, Tryd.ntmps11
    go_wp2_with fail
    refine HF.out.mono ?_
    rintro e w2 ⟨A2, l2, c2, rfl, ho2, k2⟩
    go_wp2_with fail
    refine (HY.out _ A2 l2 c2 (ho2.sl.next (kp_new _ _))).mono ?_
    rintro e w3 ⟨A3, l3, c3, rfl, ho3, k3⟩
    have kk := kp_trans (kp_trans k1 k2) (kp_trans (kp_new w2 (.cells #[.int .u8 (rk.toNat : Int), .slice A2 l2 c2] 35)) k3)
    go_wp2_with fail
    go_ret2
    exact ⟨A3, l3, c3, rfl, ho3.base (by have := k1.size; have := k2.size; simp; omega), kk⟩
  · rw [if_neg he]
    have hne : (re != 0) = true := by simpa using he
    go_enter Tryd.func11, Tryd.ntmps11
    go_wp2_with fail
    refine HF.out.mono ?_
    rintro e w2 ⟨A2, l2, c2, rfl, ho2, k2⟩
    have kk := kp_trans (kp_trans k1 k2) (kp_new w2 (.cells #[.int .u8 (rk.toNat : Int), .slice A2 l2 c2] 35))
    go_wp2_with fail
    go_ret2
    exact ⟨none, 0, 0, rfl, Ow.nil _ _, kk⟩
end Go.Proofs.YtmklmakcampbbaaDoor
