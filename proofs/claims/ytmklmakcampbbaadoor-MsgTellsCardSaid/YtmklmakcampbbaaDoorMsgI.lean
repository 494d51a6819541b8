/-
  Which messages may be, by the document (Right of its layer 3): a contract.
-/
import Derived.Test.YtmklmakcampbbaaDoorMsgH
import Derived.Test.YtmklmakcampbbaaDoorRefC
import Derived.Test.YtmklmakcampbbaaDoorFrameS
namespace Go.Proofs.YtmklmakcampbbaaDoor
open Go.RowKit
set_option maxRecDepth 100000

def tupStb (e : Int) : Stb := ⟨fun v _ => ∃ A l c, v = .tuple #[.slice A l c, .int .i64 e], fun _ _ _ h _ => h⟩
def sliStb : Stb := ⟨fun v _ => ∃ A l c, v = .slice A l c, fun _ _ _ h _ => h⟩

set_option maxHeartbeats 2000000 in
theorem rright_any (m : Mg) (w : World) (hm : MR w m) (hL : m.l ≤ 1000000) (hL' : m.l' ≤ 1000000) (b : Bool) (hb0 : Hid (rightF m.k m.ns m.ts = b)) :
    Calls Tryd.prog 15 #[m.v] w fun e w' => e = .returned (.bool b) ∧ Below w.heap.size w w' := by
  have h0 := hb0.out
  clear hb0
  obtain ⟨mk, A, l, c, ns, A', l', c', ts⟩ := m
  simp only at hL hL'
  have hv : Mg.v ⟨mk, A, l, c, ns, A', l', c', ts⟩ = .agg #[.int .i64 mk, .slice A l c, .slice A' l' c'] := rfl
  rw [hv]
  have hln := Lib.hid hm.ln
  have hlt' := Lib.hid hm.lt
  have k1 : Below w.heap.size w (w.alloc (.cells #[.int .i64 mk, .slice A l c, .slice A' l' c'] 31)) := kp_new _ _
  by_cases hk : 1 ≤ mk ∧ mk ≤ 14
  · obtain ⟨k, rfl⟩ := Int.eq_ofNat_of_zero_le (by omega : 0 ≤ mk)
    have hk15 : k < 15 := by omega
    have e0 : decide (1 ≤ (k : Int) ∧ (k : Int) ≤ 14) = true := decide_eq_true hk
    unfold rightF at h0
    simp only [e0, Bool.true_and, Int.toNat_natCast] at h0
    have HB := Lib.hid h0
    have HS := Lib.hid (rsizes_ok k (w.alloc (.cells #[.int .i64 (k : Int), .slice A l c, .slice A' l' c'] 31)) (by omega))
    clear h0 e0
    have hm1 := hm.next k1
    have b1 := heap_alloc_new w (.cells #[.int .i64 (k : Int), .slice A l c, .slice A' l' c'] 31)
    have z1 : w.heap.size < (w.alloc (.cells #[.int .i64 (k : Int), .slice A l c, .slice A' l' c'] 31)).heap.size := by simp
    have HB1 := Lib.hid b1
    have Z1 := Lib.hid z1
    clear hm b1 z1
    go_enter Tryd.func15, Tryd.ntmps15
    go_wp2_with fail
    refine HS.out.mono ?_
    rintro e w2 ⟨A3, c3, rfl, hs3, k2⟩
    generalize hw1 : w.alloc (.cells #[.int .i64 (k : Int), .slice A l c, .slice A' l' c'] 31) = w1 at *
    have b2 := (k2.block _ Z1.out).trans HB1.out
    have z2 : w.heap.size < w2.heap.size := Nat.lt_of_lt_of_le Z1.out k2.size
    obtain ⟨x0, x1, x2, _, _, _⟩ := three_cells b2
    have hm2 := hm1.next k2
    have kw2 := kp_trans k1 k2
    clear HS hw1 HB1 Z1 hm1 b2 k1 k2
    by_cases hlen : l = nums k
    · have e1 : ((l : Int) != (nums k : Int)) = false := by rw [hlen]; simp
      have HI := Lib.hid (fitN_iff (ss := szs k) (ns := ns) (by rw [szs_nums, hln.out, hlen]))
      have HL := Lib.hid hlen
      have hn3 : nums k ≤ 3 := by rw [← szs_nums]; exact szs_len k hk15
      clear hlen
      go_wp2_with fail
      go_loopw [5] (fun i wr => ∃ j : Nat, j ≤ nums k ∧ i = .int .i64 j ∧ Hid (∀ (q s n : Nat), q < j → (szs k)[q]? = some s → ns[q]? = some n → n < 256 ^ s) ∧ Below w2.heap.size w2 wr) (fun i _ => nums k - (intOf i).toNat)
      case atStart => exact ⟨0, Nat.zero_le _, rfl, Lib.hid (fun q _ _ h => by omega), Below.refl _ _⟩
      case round =>
        obtain ⟨j, hj, rfl, hfit, kr⟩ := hrel
        by_cases hlt : j < nums k
        · have hjn : j < ns.length := by rw [hln.out, HL.out]; exact hlt
          obtain ⟨hs, hs1, hs4, hj3⟩ := szs_at k hk15 j hlt
          have hmr := hm2.next kr
          obtain ⟨am, rfl, hbm, hcm⟩ := hmr.num.at_ (uvs_at hjn)
          have hsr := hs3.next kr
          obtain ⟨ad, rfl, hbd, hcd⟩ := hsr.at_ (ivs_at hs)
          have y0 := (kr.cell z2).trans x0
          have y1 := (kr.cell z2).trans x1
          have y2 := (kr.cell z2).trans x2
          have hi1 : (j : Int) < (nums k : Int) := by omega
          have hi2 : (j : Int) < (l : Int) := by have := HL.out; omega
          have hns : ns[j]? = some ns[j] := List.getElem?_eq_getElem hjn
          have hn64 := hm2.u64 _ (List.getElem_mem hjn)
          generalize ns[j] = nj at *
          obtain ⟨ee, hee, HP⟩ : ∃ ee : Int, Hid (ee = 0 ↔ nj < 256 ^ sz k j) ∧ Hid (∀ u : World, Calls Tryd.prog 26 #[.slice none 0 0, .int .i64 (sz k j : Int), .int .u64 (nj : Int)] u fun e' u' => (∃ A9 l9 c9, e' = .returned (.tuple #[.slice A9 l9 c9, .int .i64 ee])) ∧ Below u.heap.size u u') := by
            by_cases hf : nj < 256 ^ sz k j
            · exact ⟨0, Lib.hid ⟨fun _ => hf, fun _ => rfl⟩, Lib.hid fun u => (rput_ok none [] 0 0 (sz k j) nj u (Sl.nil _ _) (by omega) hs1 (by omega) hn64 (Lib.hid (decide_eq_true hf)) _ rfl).mono fun e' u' ⟨A9, c9, he, _, hk9⟩ => ⟨⟨_, _, _, he⟩, hk9⟩⟩
            · exact ⟨1, Lib.hid ⟨fun h => absurd h (by decide), fun h => absurd h hf⟩, Lib.hid fun u => (rput_no none 0 0 (sz k j) nj u hn64 (.inr ⟨⟨by omega, by omega⟩, by simpa using hf⟩)).mono fun e' u' ⟨he, hw⟩ => ⟨⟨_, _, _, he⟩, by rw [hw]; exact Below.refl _ _⟩⟩
          have HSZ := Lib.hid hs
          have HNJ := Lib.hid hns
          have HCD := Lib.hid hcd
          have HCM := Lib.hid hcm
          have z3 : w.heap.size < wr.heap.size := Nat.lt_of_lt_of_le z2 kr.size
          clear hs hns hcd hcm hmr hsr x0 x1 x2
          go_wp2_with fail
          refine wp_region_specs (S := fun u => Below wr.heap.size wr u) (Sp := [(32, Stb.eq (.slice (some ad) (nums k) c3)), (33, Stb.eq (.int .i64 (j : Int))), (34, Stb.eq (.pointer (some (ad.add j)))), (35, Stb.eq (.int .i64 (sz k j : Int))), (36, Stb.eq (.pointer (some ⟨w.heap.size, 1, none⟩))), (37, Stb.eq (.slice (some am) l c)), (38, Stb.eq (.int .i64 (j : Int))), (39, Stb.eq (.pointer (some (am.add j)))), (40, Stb.eq (.int .u64 (nj : Int))), (41, tupStb ee), (31, tupStb ee), (42, sliStb), (43, Stb.eq (.int .i64 ee)), (6, sliStb), (7, Stb.eq (.int .i64 ee))]) (by kernel_rfl) (by kernel_rfl) (kp_drewN _ 1) ?_ ?_
          · refine EachOp.cons ?_ ?_
            · intro a u hst hS hdep
              have h3 : a.tmps.getD 3 undef = .slice (some ad) (nums k) c3 := hst.out 3 (by kernel_rfl)
              refine ⟨trivial, ?_⟩
              have g3 := gd h3
              go_simp
              exact Goes.same hS rfl
            refine EachOp.cons ?_ ?_
            · intro a u hst hS hdep
              have h5 : a.tmps.getD 5 undef = .int .i64 (j : Int) := hst.out 5 (by kernel_rfl)
              refine ⟨trivial, ?_⟩
              have g5 := gd h5
              go_simp
              exact Goes.same hS rfl
            refine EachOp.cons ?_ ?_
            · intro a u hst hS hdep
              have h32 : a.tmps.getD 32 undef = .slice (some ad) (nums k) c3 := hdep 32 (by kernel_rfl)
              have h33 : a.tmps.getD 33 undef = .int .i64 (j : Int) := hdep 33 (by kernel_rfl)
              refine ⟨trivial, ?_⟩
              have g32 := gd h32
              have g33 := gd h33
              go_simp
              exact Goes.same hS rfl
            refine EachOp.cons ?_ ?_
            · intro a u hst hS hdep
              have h34 : a.tmps.getD 34 undef = .pointer (some (ad.add j)) := hdep 34 (by kernel_rfl)
              refine ⟨trivial, ?_⟩
              have g34 := gd h34
              have c35 := (hS.cell (p := ad.add j) (by rw [add_block]; exact hbd)).trans HCD.out
              go_simp
              exact Goes.same hS rfl
            refine EachOp.cons ?_ ?_
            · intro a u hst hS hdep
              have h1 : a.tmps.getD 1 undef = .pointer (some ⟨w.heap.size, 0, none⟩) := hst.out 1 (by kernel_rfl)
              refine ⟨trivial, ?_⟩
              have g1 := gd h1
              go_simp
              exact Goes.same hS rfl
            refine EachOp.cons ?_ ?_
            · intro a u hst hS hdep
              have h36 : a.tmps.getD 36 undef = .pointer (some ⟨w.heap.size, 1, none⟩) := hdep 36 (by kernel_rfl)
              refine ⟨trivial, ?_⟩
              have g36 := gd h36
              have c37 := (hS.cell z3).trans y1
              go_simp
              exact Goes.same hS rfl
            refine EachOp.cons ?_ ?_
            · intro a u hst hS hdep
              have h5 : a.tmps.getD 5 undef = .int .i64 (j : Int) := hst.out 5 (by kernel_rfl)
              refine ⟨trivial, ?_⟩
              have g5 := gd h5
              go_simp
              exact Goes.same hS rfl
            refine EachOp.cons ?_ ?_
            · intro a u hst hS hdep
              have h37 : a.tmps.getD 37 undef = .slice (some am) l c := hdep 37 (by kernel_rfl)
              have h38 : a.tmps.getD 38 undef = .int .i64 (j : Int) := hdep 38 (by kernel_rfl)
              refine ⟨trivial, ?_⟩
              have g37 := gd h37
              have g38 := gd h38
              go_simp
              exact Goes.same hS rfl
            refine EachOp.cons ?_ ?_
            · intro a u hst hS hdep
              have h39 : a.tmps.getD 39 undef = .pointer (some (am.add j)) := hdep 39 (by kernel_rfl)
              refine ⟨trivial, ?_⟩
              have g39 := gd h39
              have c40 := (hS.cell (p := am.add j) (by rw [add_block]; exact hbm)).trans HCM.out
              go_simp
              exact Goes.same hS rfl
            refine EachOp.cons ?_ ?_
            · intro a u hst hS hdep
              have h35 : a.tmps.getD 35 undef = .int .i64 (sz k j : Int) := hdep 35 (by kernel_rfl)
              have h40 : a.tmps.getD 40 undef = .int .u64 (nj : Int) := hdep 40 (by kernel_rfl)
              refine ⟨trivial, ?_⟩
              have g35 := gd h35
              have g40 := gd h40
              go_simp
              refine (HP.out u).mono ?_
              rintro e' u' ⟨⟨A9, l9, c9, rfl⟩, hb'⟩
              exact Goes.next (kp_trans hS hb') hb' ⟨_, _, _, rfl⟩
            refine EachOp.cons ?_ ?_
            · intro a u hst hS hdep
              obtain ⟨A41, l41, c41, h41⟩ := hdep 41 (by kernel_rfl)
              refine ⟨trivial, ?_⟩
              have g41 := gd h41
              go_simp
              exact Goes.same hS ⟨_, _, _, rfl⟩
            refine EachOp.cons ?_ ?_
            · intro a u hst hS hdep
              obtain ⟨A31, l31, c31, h31⟩ := hdep 31 (by kernel_rfl)
              refine ⟨trivial, ?_⟩
              have g31 := gd h31
              go_simp
              exact Goes.same hS ⟨_, _, _, rfl⟩
            refine EachOp.cons ?_ ?_
            · intro a u hst hS hdep
              obtain ⟨A31, l31, c31, h31⟩ := hdep 31 (by kernel_rfl)
              refine ⟨trivial, ?_⟩
              have g31 := gd h31
              go_simp
              exact Goes.same hS rfl
            refine EachOp.cons ?_ ?_
            · intro a u hst hS hdep
              obtain ⟨A42, l42, c42, h42⟩ := hdep 42 (by kernel_rfl)
              refine ⟨trivial, ?_⟩
              have g42 := gd h42
              go_simp
              exact Goes.same hS ⟨_, _, _, rfl⟩
            refine EachOp.cons ?_ ?_
            · intro a u hst hS hdep
              have h43 : a.tmps.getD 43 undef = .int .i64 ee := hdep 43 (by kernel_rfl)
              refine ⟨trivial, ?_⟩
              have g43 := gd h43
              go_simp
              exact Goes.same hS rfl
            exact EachOp.nil
          · intro a u hst hS hdep
            have h32 : a.tmps.getD 32 undef = .slice (some ad) (nums k) c3 := hdep 32 (by kernel_rfl)
            have h33 : a.tmps.getD 33 undef = .int .i64 (j : Int) := hdep 33 (by kernel_rfl)
            have h34 : a.tmps.getD 34 undef = .pointer (some (ad.add j)) := hdep 34 (by kernel_rfl)
            have h35 : a.tmps.getD 35 undef = .int .i64 (sz k j : Int) := hdep 35 (by kernel_rfl)
            have h36 : a.tmps.getD 36 undef = .pointer (some ⟨w.heap.size, 1, none⟩) := hdep 36 (by kernel_rfl)
            have h37 : a.tmps.getD 37 undef = .slice (some am) l c := hdep 37 (by kernel_rfl)
            have h38 : a.tmps.getD 38 undef = .int .i64 (j : Int) := hdep 38 (by kernel_rfl)
            have h39 : a.tmps.getD 39 undef = .pointer (some (am.add j)) := hdep 39 (by kernel_rfl)
            have h40 : a.tmps.getD 40 undef = .int .u64 (nj : Int) := hdep 40 (by kernel_rfl)
            obtain ⟨A41, l41, c41, h41⟩ := hdep 41 (by kernel_rfl)
            obtain ⟨A31, l31, c31, h31⟩ := hdep 31 (by kernel_rfl)
            obtain ⟨A42, l42, c42, h42⟩ := hdep 42 (by kernel_rfl)
            have h43 : a.tmps.getD 43 undef = .int .i64 ee := hdep 43 (by kernel_rfl)
            obtain ⟨A6, l6, c6, h6⟩ := hdep 6 (by kernel_rfl)
            have h7 : a.tmps.getD 7 undef = .int .i64 ee := hdep 7 (by kernel_rfl)
            have hfr := hst.frame [(32, .slice (some ad) (nums k) c3), (33, .int .i64 (j : Int)), (34, .pointer (some (ad.add j))), (35, .int .i64 (sz k j : Int)), (36, .pointer (some ⟨w.heap.size, 1, none⟩)), (37, .slice (some am) l c), (38, .int .i64 (j : Int)), (39, .pointer (some (am.add j))), (40, .int .u64 (nj : Int)), (41, .tuple #[.slice A41 l41 c41, .int .i64 ee]), (31, .tuple #[.slice A31 l31 c31, .int .i64 ee]), (42, .slice A42 l42 c42), (43, .int .i64 ee), (6, .slice A6 l6 c6), (7, .int .i64 ee)] (by kernel_rfl) ⟨h32, h33, h34, h35, h36, h37, h38, h39, h40, h41, h31, h42, h43, h6, h7, trivial⟩
            clear hst hdep h32 h33 h34 h35 h36 h37 h38 h39 h40 h41 h31 h42 h43 h6 h7
            subst hfr
            simp only [List.foldl_cons, List.foldl_nil, List.setIfInBounds_toArray, List.set_cons_zero, List.set_cons_succ]
            have kru := kp_trans kr hS
            by_cases hz : ee = 0
            · subst hz
              have HF : Hid (∀ (q s n : Nat), q < j + 1 → (szs k)[q]? = some s → ns[q]? = some n → n < 256 ^ s) := Lib.hid fun q s n' hq h1 h2 => by
                rcases Nat.lt_or_ge q j with h | h
                · exact hfit.out q s n' h h1 h2
                · obtain rfl : q = j := by omega
                  rw [HSZ.out] at h1
                  rw [HNJ.out] at h2
                  injection h1 with h1; injection h2 with h2
                  subst h1 h2
                  exact hee.out.1 rfl
              go_wp2_with fail
              go_roundw
              case rel => exact ⟨j + 1, by omega, by go_num, HF, kru⟩
              case measure => simp [intOf]; omega
            · have hne : (ee != 0) = true := by simpa using hz
              have hbf : b = false := by
                rw [← HB.out, Bool.and_eq_false_iff]
                left
                rw [← Bool.not_eq_true]
                intro hh
                exact hz (hee.out.2 (HI.out.1 hh j _ nj HSZ.out HNJ.out))
              subst hbf
              go_wp2_with fail
              go_ret
              exact ⟨rfl, kp_trans kw2 kru⟩
        · obtain rfl : j = nums k := by omega
          have hfn : fitN (szs k) ns = true := by
            rw [HI.out]
            intro q s n h1 h2
            exact hfit.out q s n (by have := (List.getElem?_eq_some_iff.1 h2).1; rw [hln.out] at this; have := HL.out; omega) h1 h2
          have hok : okT k ts = b := by rw [← HB.out, hfn, Bool.true_and]
          have HOK := Lib.hid hok
          have kw := kp_trans kw2 kr
          have z3 : w.heap.size < wr.heap.size := Nat.lt_of_lt_of_le z2 kr.size
          have y0 := (kr.cell z2).trans x0
          have y1 := (kr.cell z2).trans x1
          have y2 := (kr.cell z2).trans x2
          have hmo := hm2.next kr
          obtain ⟨wo, hwo⟩ : ∃ x, x = wr := ⟨_, rfl⟩
          subst hwo
          clear hfn hok hfit HI HB x0 x1 x2 hm2 kr kw2 z2 hs3
          go_wp2_with fail
          go_loopw [8] (fun i wr => ∃ q : Nat, q ≤ l' ∧ i = .int .i64 q ∧ Hid ((ts.take q).all (fun t => decide (t.size ≤ 200)) = true) ∧ Below wo.heap.size wo wr) (fun i _ => l' - (intOf i).toNat)
          case atStart => exact ⟨0, Nat.zero_le _, rfl, Lib.hid (by simp), Below.refl _ _⟩
          case round =>
            obtain ⟨q, hq, rfl, hall, kr⟩ := hrel
            have u0 := (kr.cell z3).trans y0
            have u2 := (kr.cell z3).trans y2
            by_cases hlq : q < l'
            · have hqn : q < ts.length := by rw [hlt'.out]; exact hlq
              have hmr := hmo.next kr
              obtain ⟨ad, rfl, hb, hc⟩ := hmr.txt.at_ (svs_at hqn)
              have hi : (q : Int) < (l' : Int) := by omega
              have HT : Hid (ts.take (q + 1) = ts.take q ++ [ts[q]]) := Lib.hid (List.take_succ_eq_append_getElem hqn)
              have HM : Hid (ts[q] ∈ ts) := Lib.hid (List.getElem_mem hqn)
              generalize ht : ts[q] = t at *
              clear y0 y1 y2 hmr hmo ht
              by_cases hs : t.size ≤ 200
              · have hd : decide ((200 : Int) < (t.size : Int)) = false := by simp; omega
                have HA : Hid ((ts.take (q + 1)).all (fun t => decide (t.size ≤ 200)) = true) := Lib.hid (by rw [HT.out, List.all_append, hall.out]; simpa using hs)
                go_wp2_with fail
                go_roundw
                case rel => exact ⟨q + 1, by omega, by go_num, HA, kr⟩
                case measure => simp [intOf]; omega
              · have hd : decide ((200 : Int) < (t.size : Int)) = true := by simp; omega
                have hbf : b = false := by
                  rw [← HOK.out, okT, Bool.and_eq_false_iff]
                  right
                  rw [← Bool.not_eq_true]
                  intro hh
                  exact hs (by simpa using List.all_eq_true.1 hh t HM.out)
                subst hbf
                go_wp2_with fail
                go_ret
                exact ⟨rfl, kp_trans kw kr⟩
            · have htx : fitT l' (tx k) = b := by
                have h1 := hall.out
                rw [List.take_of_length_le (by rw [hlt'.out]; omega)] at h1
                rw [← HOK.out, okT, h1, Bool.and_true, hlt'.out]
              clear y0 y1 y2 hmo hall HOK
              have kwr := kp_trans kw kr
              rcases (by omega : k = 1 ∨ k = 2 ∨ k = 3 ∨ k = 4 ∨ k = 5 ∨ k = 6 ∨ k = 7 ∨ k = 8 ∨ k = 9 ∨ k = 10 ∨ k = 11 ∨ k = 12 ∨ k = 13 ∨ k = 14) with rfl | rfl | rfl | rfl | rfl | rfl | rfl | rfl | rfl | rfl | rfl | rfl | rfl | rfl
              all_goals
                first
                  | (have e : decide ((l' : Int) ≤ 20) = b := by
                      rw [← htx]
                      show _ = fitT l' (-1)
                      rw [fitT, if_pos rfl]
                      rw [Bool.eq_iff_iff]; simp; omega
                     clear htx
                     go_wp2_with fail
                     go_ret
                     exact ⟨rfl, kwr⟩)
                  | (have e : ((l' : Int) == 1) = b := by
                      rw [← htx]
                      show _ = fitT l' 1
                      rw [fitT, if_neg (by decide)]
                      rw [Bool.eq_iff_iff]; simp
                     clear htx
                     go_wp2_with fail
                     go_ret
                     exact ⟨rfl, kwr⟩)
                  | (have e : ((l' : Int) == 0) = b := by
                      rw [← htx]
                      show _ = fitT l' 0
                      rw [fitT, if_neg (by decide)]
                      rw [Bool.eq_iff_iff]; simp
                     clear htx
                     go_wp2_with fail
                     go_ret
                     exact ⟨rfl, kwr⟩)
    · have e1 : ((l : Int) != (nums k : Int)) = true := by rw [bne_iff_ne]; omega
      have hbf : b = false := by
        rw [← HB.out, Bool.and_eq_false_iff]
        left
        rw [← Bool.not_eq_true]
        intro hh
        have := fitN_len hh
        rw [hln.out, szs_nums] at this
        omega
      subst hbf
      go_wp2_with fail
      go_ret
      exact ⟨rfl, kw2⟩
  · have e0 : decide (1 ≤ mk ∧ mk ≤ 14) = false := decide_eq_false hk
    have hbf : b = false := by rw [← h0]; unfold rightF; simp only [e0, Bool.false_and]
    subst hbf
    have HS := Lib.hid (rsizes_no mk (w.alloc (.cells #[.int .i64 mk, .slice A l c, .slice A' l' c'] 31)) (by omega))
    clear h0 e0 hk
    go_enter Tryd.func15, Tryd.ntmps15
    go_wp2_with fail
    refine HS.out.mono ?_
    rintro e w' ⟨rfl, rfl⟩
    go_wp2_with fail
    go_ret
    exact ⟨rfl, k1⟩
end Go.Proofs.YtmklmakcampbbaaDoor
