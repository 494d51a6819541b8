/-
  Contracts and plain functions that the law stands on, part 19 of 19.
-/
import Derived.Test.YtdhnpmagapbmhaaGreatDoorQA18
import Derived.Deep.DeepCutAuto
namespace Go.Proofs.YtdhnpmagapbmhaaGreatDoor
/- ClusterKeeps, of layer 16: the walk. -/
section
open Go.RowKit
set_option maxRecDepth 100000

/-- a slice of known length, where a truth holds -/
def slA17 (n : Nat) : Stl KeepT := ⟨fun _ v _ => ∃ A d, v = .slice A n d, fun _ _ _ _ _ _ h _ => h⟩
def ptA17 : Stl KeepT := ⟨fun _ v _ => ∃ p, v = .pointer (some p), fun _ _ _ _ _ _ h _ => h⟩
def oneA17 : Stl KeepT := ⟨fun _ v _ => ∃ g, v = .slice (some ⟨g, 0, none⟩) 1 1, fun _ _ _ _ _ _ h _ => h⟩
/-- within region 17: what is told so far -/
def SK17 (W : World) (X Y : Thing) (l : List (Nat × Obj)) (o : Obj) (lg : List Lg) (la yi : Nat) (F : Value → World → Prop) (L : Nat → Bool) (T : Nat → Value) (u : World) : Prop :=
  bif L 20 then F (T 7) u
  else bif L 19 then F (T 118) u
  else bif L 18 then ∃ g, T 117 = .slice (some ⟨g, 0, none⟩) 1 1 ∧ St15 W X Y [] ((g, o) :: l) [] [] u
  else bif L 10 then St15 W X Y [] l [] [] u
  else bif L 9 then ∃ ad, T 108 = .pointer (some (ad.add (yi * 2))) ∧ St15 W X Y [] l [(some ad, la, lg)] [] u
  else bif L 4 then ∃ A d, T 103 = .slice A la d ∧ St15 W X Y [] l [(A, la, lg)] [] u
  else St15 W X Y [] l [] [] u
theorem SK17.st {W : World} {X Y : Thing} {l : List (Nat × Obj)} {o : Obj} {lg : List Lg} {la yi : Nat} {F : Value → World → Prop} {L : Nat → Bool} {T : Nat → Value} {u : World} (h : SK17 W X Y l o lg la yi F L T u) (h20 : L 20 = false) (h19 : L 19 = false) : St15 W X Y [] l [] [] u := by
  unfold SK17 at h
  cases h18 : L 18 with
  | true =>
    rw [h20, h19, h18] at h
    obtain ⟨_, _, h⟩ := h
    exact h.less (fun _ h => h) (fun _ h => .tail _ h) (fun _ h => h) (fun _ h => h)
  | false =>
  cases h10 : L 10 with
  | true => rw [h20, h19, h18, h10] at h; exact h
  | false =>
  cases h9 : L 9 with
  | true =>
    rw [h20, h19, h18, h10, h9] at h
    obtain ⟨_, _, h⟩ := h
    exact h.less (fun _ h => h) (fun _ h => h) (fun _ h => nomatch h) (fun _ h => h)
  | false =>
  cases h4 : L 4 with
  | true =>
    rw [h20, h19, h18, h10, h9, h4] at h
    obtain ⟨_, _, _, h⟩ := h
    exact h.less (fun _ h => h) (fun _ h => h) (fun _ h => nomatch h) (fun _ h => h)
  | false => rw [h20, h19, h18, h10, h9, h4] at h; exact h
theorem Rd.of_blks {u : World} {g : Nat} {xs : List Value} {t : TypeId} (h : u.heap[g]? = some (.cells xs.toArray t (0, 0))) : Rd u (g + 1) (some ⟨g, 0, none⟩) xs := .inr ⟨_, rfl, Nat.lt_succ_self _, fun j x hx => by
  rw [show (⟨g, 0, none⟩ : Addr).add j = ⟨g, j, none⟩ from by unfold Addr.add; split <;> simp_all, cell_of_row _ _ j xs.toArray t (0, 0) h]
  simpa using hx⟩
def lenSlB (g : Bool) (n : Nat) : Stl KeepT := ⟨fun _ v _ => ∃ v', v = v' ∧ (bif g then ∃ A d, v' = .slice A n d else v' = undef), fun _ _ _ _ _ _ h _ => h⟩
section
variable {w0 w : World} {X Z B : Thing} {l : List (Nat × Obj)} {rs : List (Option Addr × Nat × List Lg)} {T : TypeId} {z n c : Nat} {A : Option Addr} {vs : List Value}
theorem St15.rowp (h : St15 w0 X (Two Z (Two (RowT T z A n c vs) B)) [] l rs [] w) : w.ownsRow 0 T z (.slice A n c) n vs := by
  obtain ⟨_, _, _, _, ⟨_, _, h1, _⟩, _⟩ := h.snd
  exact h1.1
theorem St15.roww (h : St15 w0 X (Two Z (Two B (RowT T z A n c vs))) [] l rs [] w) : w.ownsRow 0 T z (.slice A n c) n vs := by
  obtain ⟨_, _, _, _, ⟨_, _, _, h1, _⟩, _⟩ := h.snd
  exact h1.1
variable {w' : World} {A' : Option Addr} {n' c' : Nat} {vs' : List Value}
theorem St15.pushp (h : St15 w0 X (Two Z (Two (RowT T z A n c vs) B)) [] l rs [] w) (ho : w'.ownsRow 0 T z (.slice A' n' c') n' vs') (hg : w.grownBy w' (Value.slice A n c).ownBlock)
    (hw : (Value.slice A' n' c').ownBlock = (Value.slice A n c).ownBlock ∨ ∃ g, (Value.slice A' n' c').ownBlock = some g ∧ w.heap.size ≤ g) : St15 w0 X (Two Z (Two (RowT T z A' n' c' vs') B)) [] l rs [] w' :=
  h.turnr fun _ hS => Two.snd hS fun _ h2 => Two.fst h2 fun _ h3 => RowT.turn h3 ho hg hw
theorem St15.pushw (h : St15 w0 X (Two Z (Two B (RowT T z A n c vs))) [] l rs [] w) (ho : w'.ownsRow 0 T z (.slice A' n' c') n' vs') (hg : w.grownBy w' (Value.slice A n c).ownBlock)
    (hw : (Value.slice A' n' c').ownBlock = (Value.slice A n c).ownBlock ∨ ∃ g, (Value.slice A' n' c').ownBlock = some g ∧ w.heap.size ≤ g) : St15 w0 X (Two Z (Two B (RowT T z A' n' c' vs'))) [] l rs [] w' :=
  h.turnr fun _ hS => Two.snd hS fun _ h2 => Two.snd h2 fun _ h3 => RowT.turn h3 ho hg hw
theorem St15.push17 {g : Nat} {y : Lg} {rp pl : Int} {ws : List Wr16} (h : St15 w0 X (Two Z (Two B (RowT 71 4 A n c (ws.flatMap wrC1)))) [] ((g, .cells #[.int .u64 y.e, .string y.t, .int .u64 rp, .int .u64 pl] 71 (0, 0)) :: l) rs [] w) (hn : n + 1 ≤ 10000) :
    ∃ A' c' w', (Builtin.append_ #[63, 63] 63 #[.slice A n c, .slice (some ⟨g, 0, none⟩) 1 1]).run Tryz.prog w = .ok (.slice A' (n + 1) c') w' ∧ St15 w0 X (Two Z (Two B (RowT 71 4 A' (n + 1) c' ((ws ++ [(⟨y, rp, pl⟩ : Wr16)]).flatMap wrC1)))) [] [] [] [] w' := by
  obtain ⟨j0, hj, hj0, hj1, hj2⟩ := info_parts wrinfo16
  have mg := h.at_ (.head _)
  obtain ⟨A5, c5, u', hrun, hown', hg', hwh⟩ := run_append_wide (P := Tryz.prog) 63 63 71 j0 _ 4 40 Tryz.underlying63 hj hj0 hj1 hj2 rfl (by omega) h.roww _ _ 1 [.int .u64 y.e, .string y.t, .int .u64 rp, .int .u64 pl] rfl (Rd.of_blks (xs := [.int .u64 y.e, .string y.t, .int .u64 rp, .int .u64 pl]) mg) (by simp [Value.oneCell']) hn (by omega)
  have hp := h.pushw hown' hg' hwh
  refine ⟨A5, c5, u', hrun, ?_⟩
  rw [List.flatMap_append]
  exact hp.less (fun _ h => h) (fun _ h => nomatch h) (fun _ h => nomatch h) (fun _ h => h)
end
section
variable {X : Nat → Cu → Thing}
set_option maxHeartbeats 32000000 in
theorem clusterkeeps_walk (C : ClusterC X) (N : Int) (A1 : Option Addr) (l1 c1 : Nat) (ts : List Ac7) (W : World) (hN : I64n N) (r1 : AG W A1 l1 ts) (hF : ∀ t ∈ ts, t.Fine) (hL : Lw W) :
    Calls Tryz.prog 5 #[.int .i64 N, .slice A1 l1 c1] W fun e w' => e = .returned (.bool true) ∧ Below W.heap.size W w' := by
  have HAW := Lib.hid (awake16_ok C hL)
  have R1 := Lib.hid r1
  have HN1 := Lib.hid r1.len
  have HFX := Lib.hid hF
  have HC := Lib.hid C
  have HLW := Lib.hid hL
  have HNN := Lib.hid hN
  clear r1 hF C hL hN
  go_enter Tryz.func5, Tryz.ntmps5
  go_wp2_with fail
  refine HAW.out.mono ?_
  rintro e w1 ⟨rfl, k1⟩
  have HK1 := Lib.hid k1
  clear HAW k1
  by_cases hNN : 1 ≤ N ∧ N ≤ 6
  rotate_left
  · have HNo := Lib.hid fun w => HC.out.no N w HNN.out hNN
    clear hNN
    go_wp2_with fail
    refine (HNo.out w1).mono ?_
    rintro e w3 ⟨rfl, k3⟩
    have HK3 := Lib.hid (HK1.out.trans (k3.mono HK1.out.size))
    clear k3
    go_wp2_with fail
    go_ret
    exact ⟨rfl, HK3.out⟩
  have HNew := Lib.hid fun w hw => HC.out.new N w hw hNN.1 hNN.2
  have HI0 : Hid (CuI 0 (newCu N.toNat)) := Lib.hid (CuI.new (by omega) (by omega))
  have HNt : Hid (((N.toNat : Nat) : Int) = N) := Lib.hid (by omega)
  have hN1 := hNN.1
  have hN6 := hNN.2
  clear hNN
  go_wp2_with fail
  refine (HNew.out w1 (HLW.out.next HK1.out)).mono ?_
  rintro e w3 ⟨bc, rfl, ⟨S3, x3, y3⟩, k3⟩
  have H2 : Hid (St15 W (X bc (newCu N.toNat)) T0 [] [] [] [] w3) := Lib.hid (St15.alone HK1.out x3 y3 k3)
  have HK3 := Lib.hid (HK1.out.trans (k3.mono HK1.out.size))
  clear x3 y3 k3 HNew
  obtain ⟨c0, hc0⟩ : ∃ c, newCu N.toNat = c := ⟨_, rfl⟩
  have HC0 := Lib.hid hc0
  have HCN : Hid (((c0.n : Nat) : Int) = N) := Lib.hid (by rw [← hc0]; exact HNt.out)
  rw [hc0] at H2 HI0
  clear hc0
  have HLG := Lib.hid (llarge16_ok A1 l1 c1 ts w3 (R1.out.next HK3.out))
  go_wp2_with fail
  refine HLG.out.mono ?_
  rintro e w4 ⟨bg, rfl, hbg, k4⟩
  have H3 := Lib.hid (H2.out.next k4)
  clear HLG k4 H2
  cases bg with
  | true =>
    clear hbg
    have HF := Lib.hid H3.out.low
    go_wp2_with fail
    go_ret
    exact ⟨rfl, HF.out⟩
  | false =>
  obtain ⟨hl60, hsm⟩ := hbg rfl
  have HSM := Lib.hid hsm
  have HKI0 : Hid (KI c0 [] []) := Lib.hid (by rw [← HC0.out]; exact KI.new _)
  clear hbg hsm HC0
  have HCT := Lib.hid (newCT_ok w4)
  go_wp2_with fail
  refine HCT.out.mono ?_
  rintro e w5 ⟨rfl, x5, k5⟩
  obtain ⟨cb, hcb⟩ : ∃ y, w4.heap.size = y := ⟨_, rfl⟩
  have H5 : Hid (St15 W (X bc c0) (Two (CT cb) (Two (RowT 45 3 none 0 0 ([].flatMap prC1)) (RowT 71 4 none 0 0 ([].flatMap wrC1)))) [] [] [] [] w5) := Lib.hid (by
    rw [← hcb]
    exact H3.out.newr (Two.make x5 (Two.make (RowT.none 45 3 w5) (RowT.none 71 4 w5) (Below.refl _ _) (fun _ h => h.elim)) (Below.refl _ _) (fun k hk => by rcases hk with h | h <;> exact h.elim)) (fun k hk => by
      rcases hk with h | h | h
      · omega
      · exact h.elim
      · exact h.elim) k5)
  rw [hcb]
  clear hcb x5 k5 H3 HCT
  go_wp2_with fail
  go_loopw [7, 8, 36] (fun ow op i wr => ∃ (k : Nat) (c : Cu) (ps : List Pr16) (ws : List Wr16) (Ap Aw : Option Addr) (np cp nw cw : Nat), k ≤ l1 ∧ ow = .slice Aw nw cw ∧ op = .slice Ap np cp ∧ i = .int .i64 k ∧ Hid (CuI k c) ∧ Hid (((c.n : Nat) : Int) = N) ∧ Hid (KI c ps ws) ∧ Hid (ps.length = np ∧ np ≤ k ∧ ws.length = nw ∧ nw ≤ k) ∧ Hid (St15 W (X bc c) (Two (CT cb) (Two (RowT 45 3 Ap np cp (ps.flatMap prC1)) (RowT 71 4 Aw nw cw (ws.flatMap wrC1)))) [] [] [] [] wr)) (fun _ _ i _ => l1 - (intOf i).toNat)
  case atStart => exact ⟨0, c0, [], [], none, none, 0, 0, 0, 0, Nat.zero_le _, rfl, rfl, rfl, HI0, HCN, HKI0, Lib.hid ⟨rfl, Nat.le_refl _, rfl, Nat.le_refl _⟩, H5⟩
  case round =>
    obtain ⟨k, c, ps, ws, Ap, Aw, np, cp, nw, cw, hk, rfl, rfl, rfl, HI, HCN, HKI, HLS, hD⟩ := hrel
    clear HI0 H5 HKI0
    by_cases hlt : k < l1
    · have hkl : k < ts.length := by rw [HN1.out]; exact hlt
      obtain ⟨ad, rfl, _, hcc⟩ := R1.out.at_ hkl
      obtain ⟨x0, x1, x2, x3, x4, x5, x6⟩ := hcc wr (hD.out.low)
      have HXF := Lib.hid (HFX.out _ (List.getElem_mem hkl))
      have HXS := Lib.hid (HSM.out _ (List.getElem_mem hkl))
      clear hcc
      generalize ts[k] = x at *
      obtain ⟨wx, hwx⟩ : ∃ u, wr.alloc (.cells #[.int .i64 x.d, .int .i64 x.nd, .int .i64 x.c, .int .i64 x.m, .int .u64 x.e, .bool x.rd, .string x.t] 34) = u := ⟨_, rfl⟩
      obtain ⟨t6, ht6⟩ : ∃ y, wr.heap.size = y := ⟨_, rfl⟩
      have H1 := Lib.hid ((hD.out).mark (.cells #[.int .i64 x.d, .int .i64 x.nd, .int .i64 x.c, .int .i64 x.m, .int .u64 x.e, .bool x.rd, .string x.t] 34) hwx ht6)
      have HWX := Lib.hid hwx
      have HT6 := Lib.hid ht6
      have m6 := H1.out.at_ (.head _)
      obtain ⟨y0, _⟩ := cellsAt m6 0 (v := .int .i64 x.d) rfl
      obtain ⟨y1, _⟩ := cellsAt m6 1 (v := .int .i64 x.nd) rfl
      obtain ⟨y2, _⟩ := cellsAt m6 2 (v := .int .i64 x.c) rfl
      obtain ⟨y3, _⟩ := cellsAt m6 3 (v := .int .i64 x.m) rfl
      obtain ⟨y4, _⟩ := cellsAt m6 4 (v := .int .u64 x.e) rfl
      obtain ⟨y5, _⟩ := cellsAt m6 5 (v := .bool x.rd) rfl
      obtain ⟨y6, _⟩ := cellsAt m6 6 (v := .string x.t) rfl
      have HQ := Lib.hid (H1.out.cact HC.out HLW.out HI.out (by omega) HXF.out HXS.out)
      have HIN := Lib.hid (HI.out.act (by omega) HXF.out HXS.out)
      have HCN2 : Hid ((((actCu c x).2.n : Nat) : Int) = N) := Lib.hid (by rw [act_n]; exact HCN.out)
      have HK2 := Lib.hid fun h => HKI.out.act2 HI.out (x := x) h
      have HK0 := Lib.hid (HKI.out.act0 HI.out (x := x))
      have HKW := Lib.hid fun h0 he hc (y : Lg) => HKI.out.actw HI.out (x := x) h0 he hc (y := y)
      obtain ⟨R, hR⟩ : ∃ R, actCu c x = R := ⟨_, rfl⟩
      rw [hR] at HQ HIN HCN2 HK2 HK0 HKW
      have hls0 := HLS.out
      clear hwx ht6 hD m6 hR HI HCN HKI
      go_wp2_with fail
      rw [HWX.out, HT6.out]
      refine HQ.out.mono ?_
      rintro e w5 ⟨A5, m5, d5, rfl, h5⟩
      have H5 := Lib.hid (h5.less (xs' := []) (fun _ h => h) (fun _ h => h) (fun _ h => h) (fun _ h => nomatch h))
      clear h5 HQ x0 x1 x2 x3 x4 x5 x6 y0 y1 y2 y3 y4 y5 y6 H1 HWX HT6
      unfold toV16
      generalize R.2 = c at *
      obtain ⟨re, hre⟩ : ∃ z, R.1.r.e = z := ⟨_, rfl⟩
      obtain ⟨rp, hrp⟩ : ∃ z, R.1.r.ep = z := ⟨_, rfl⟩
      obtain ⟨pl, hpl⟩ : ∃ z, R.1.r.pl = z := ⟨_, rfl⟩
      obtain ⟨te, hte⟩ : ∃ z, R.1.e = z := ⟨_, rfl⟩
      rw [hre, hrp, hpl] at HKW
      rw [hte] at HK2 HK0
      rw [hre, hrp, hpl, hte]
      clear hre hrp hpl hte
      obtain ⟨pe, pp, pc, hpm⟩ : ∃ a b d, c.pm = ⟨a, b, d⟩ := ⟨_, _, _, rfl⟩
      have HPM := Lib.hid hpm
      rw [hpm] at HK2
      obtain ⟨w6, hw6⟩ : ∃ u, w5.alloc (.cells #[.int .i64 re, .int .u64 rp, .int .u64 pl, .slice A5 m5 d5, .bool R.1.is, .int .u64 R.1.p.e, .int .i64 R.1.p.p, .int .u64 R.1.p.c, .int .i64 te, .int .i64 R.1.many] 41) = u := ⟨_, rfl⟩
      obtain ⟨t12, ht12⟩ : ∃ y, w5.heap.size = y := ⟨_, rfl⟩
      have H6 := Lib.hid (H5.out.mark _ hw6 ht12)
      have m5 := H5.out.at_ (.head _)
      have m12 := H6.out.at_ (.head _)
      have HW6 := Lib.hid hw6
      have HT12 := Lib.hid ht12
      have hnp : np + 1 ≤ 10000 := by have := hls0.2.1; omega
      clear hpm hw6 ht12 m5 H5
      go_upto_region 13 with fail
      rw [HW6.out, HT12.out]
      obtain ⟨y0, _⟩ := cellsAt (H6.out.at_ (.tail _ (.head _))) 0 (v := .int .i64 x.d) rfl
      obtain ⟨z8, _⟩ := cellsAt m12 8 (v := .int .i64 te) rfl
      go_cut [50] (fun s50 wx => s50 = .bool (decide (x.d = 2 ∧ te = 0)) ∧ wx = w6)
      case first =>
        by_cases hd2 : x.d = 2
        · have e50 : decide (x.d = 2 ∧ te = 0) = (te == 0) := by rw [Bool.eq_iff_iff]; simp [hd2]
          have H50 := Lib.hid e50
          rw [hd2] at y0
          clear e50 hd2 HK2 HK0 HKW
          go_wp2_with fail
          go_meet
          exact ⟨by rw [H50.out], rfl⟩
        · have e50 : decide (x.d = 2 ∧ te = 0) = false := decide_eq_false fun h => hd2 h.1
          have H50 := Lib.hid e50
          have g2 : (x.d == 2) = false := by simpa using hd2
          clear e50 hd2 HK2 HK0 HKW
          go_wp2_with fail
          go_meet
          exact ⟨by rw [H50.out], rfl⟩
      case rest =>
      obtain ⟨rfl, rfl⟩ := hcut
      obtain ⟨pr, hprq⟩ : ∃ z, decide (x.d = 2 ∧ te = 0) = z := ⟨_, rfl⟩
      rw [hprq]
      have HPR := Lib.hid hprq
      clear hprq y0 z8 HW6 HT12
      go_upto_if 50 with fail
      go_cut [8] (fun s8 wx => ∃ (ps2 : List Pr16) (Ap2 : Option Addr) (np2 cp2 : Nat), s8 = .slice Ap2 np2 cp2 ∧ Hid (KI c ps2 ws) ∧ Hid (∀ (y : Lg), x.d = 0 → re = 0 → clsT x.t ≠ 1 → 0 < pl → (lgCu c x.nd)[(pl - 1).toNat]? = some y → KI c ps2 (ws ++ [⟨y, rp, pl⟩])) ∧ Hid (ps2.length = np2 ∧ np2 ≤ k + 1 ∧ ws.length = nw ∧ nw ≤ k) ∧ Hid (St15 W (X bc c) (Two (CT cb) (Two (RowT 45 3 Ap2 np2 cp2 (ps2.flatMap prC1)) (RowT 71 4 Aw nw cw (ws.flatMap wrC1)))) [] [(t12, .cells #[.int .i64 re, .int .u64 rp, .int .u64 pl, .slice A5 m5 d5, .bool R.1.is, .int .u64 R.1.p.e, .int .i64 R.1.p.p, .int .u64 R.1.p.c, .int .i64 te, .int .i64 R.1.many] 41 (0, 0)), (t6, .cells #[.int .i64 x.d, .int .i64 x.nd, .int .i64 x.c, .int .i64 x.m, .int .u64 x.e, .bool x.rd, .string x.t] 34 (0, 0))] [] [] wx))
      case first =>
        cases pr with
        | true =>
          obtain ⟨hd2, hte0⟩ := of_decide_eq_true HPR.out
          have HKP := Lib.hid (HK2.out hd2 hte0)
          have HKW2 : Hid (∀ (y : Lg), x.d = 0 → re = 0 → clsT x.t ≠ 1 → 0 < pl → (lgCu c x.nd)[(pl - 1).toNat]? = some y → KI c (ps ++ [⟨pe, pp, pc⟩]) (ws ++ [⟨y, rp, pl⟩])) := Lib.hid fun y h0 => by omega
          have hq := H6.out.cnew HC.out HIN.out
          rw [HPM.out] at hq
          dsimp only at hq
          have HQ := Lib.hid hq
          clear HK2 HK0 HKW hq m12 hte0 hd2 HPR
          go_wp2_with fail
          refine HQ.out.mono ?_
          rintro e w7 ⟨rfl, h7⟩
          have H7 := Lib.hid (h7.next (kp_new w7 (.cells #[.int .u64 pe, .int .i64 pp, .int .u64 pc] 45)))
          obtain ⟨i0, hi, hz0, hz1, hz2⟩ := info_parts pminfo16
          obtain ⟨Ap2, cp2, w8, hrun, hown, hg8, hwh⟩ := run_append_wide (P := Tryz.prog) 64 64 45 i0 _ 3 24 Tryz.underlying64 hi hz0 hz1 hz2 rfl (by omega) H7.out.rowp _ _ 1 [.int .u64 pe, .int .i64 pp, .int .u64 pc] rfl (Rd.new w7 45 [.int .u64 pe, .int .i64 pp, .int .u64 pc]) (by simp [Value.oneCell']) hnp (by omega)
          have HRN := Lib.hid hrun
          obtain ⟨ps2, hps2⟩ : ∃ z, ps ++ [⟨pe, pp, pc⟩] = z := ⟨_, rfl⟩
          have hown2 : w8.ownsRow 0 45 3 (.slice Ap2 (np + 1) cp2) (np + 1) (ps2.flatMap prC1) := by rw [← hps2, List.flatMap_append]; exact hown
          rw [hps2] at HKP HKW2
          have HLP : Hid (ps2.length = np + 1 ∧ np + 1 ≤ k + 1 ∧ ws.length = nw ∧ nw ≤ k) := Lib.hid ⟨by rw [← hps2, List.length_append, hls0.1]; rfl, by have := hls0.2.1; omega, hls0.2.2.1, hls0.2.2.2⟩
          have HD := Lib.hid (H7.out.pushp hown2 hg8 hwh)
          clear h7 H7 hi hz0 hz1 hz2 hrun hown hg8 hwh hps2 hown2 H6 HQ hls0 hnp
          go_wp2_with (at_builtin; refine wpList_append_run rfl _ _ _ rfl _ _ rfl rfl HRN.out ?_)
          go_meet
          exact ⟨ps2, Ap2, np + 1, cp2, rfl, HKP, HKW2, HLP, HD⟩
        | false =>
          have HKP := Lib.hid (HK0.out (of_decide_eq_false HPR.out))
          have HKW2 : Hid (∀ (y : Lg), x.d = 0 → re = 0 → clsT x.t ≠ 1 → 0 < pl → (lgCu c x.nd)[(pl - 1).toNat]? = some y → KI c ps (ws ++ [⟨y, rp, pl⟩])) := Lib.hid fun y h0 he hc hp hy => HKW.out h0 he hc y hp hy
          have HLP : Hid (ps.length = np ∧ np ≤ k + 1 ∧ ws.length = nw ∧ nw ≤ k) := Lib.hid ⟨hls0.1, by have := hls0.2.1; omega, hls0.2.2⟩
          clear HK2 HK0 HKW m12 hls0 hnp HPR
          go_wp2_with fail
          go_meet
          exact ⟨ps, Ap, np, cp, rfl, HKP, HKW2, HLP, H6⟩
      case rest =>
      clear HK2 HK0 HKW m12 hls0 hnp HPR H6
      obtain ⟨ps2, Ap2, np2, cp2, rfl, HKP, HKW2, HLP, HD⟩ := hcut
      obtain ⟨y8, _⟩ := cellsAt (HD.out.at_ (.tail _ (.head _))) 6 (v := .string x.t) rfl
      go_wp2_with fail
      clear y8
      refine (HD.out.class2 HLW.out x.t (by have := HXS.out; unfold Sm at this; unfold maxLen; omega)).mono ?_
      rintro e w9 ⟨rfl, h9⟩
      obtain ⟨is, his⟩ : ∃ z, clsT x.t = z := ⟨_, rfl⟩
      rw [his] at HKW2
      rw [his]
      obtain ⟨GN, hGN⟩ : ∃ G : World → Prop, ∀ u, G u ↔ St15 W (X bc c) (Two (CT cb) (Two (RowT 45 3 Ap2 np2 cp2 (ps2.flatMap prC1)) (RowT 71 4 Aw nw cw (ws.flatMap wrC1)))) [] [(t12, .cells #[.int .i64 re, .int .u64 rp, .int .u64 pl, .slice A5 m5 d5, .bool R.1.is, .int .u64 R.1.p.e, .int .i64 R.1.p.p, .int .u64 R.1.p.c, .int .i64 te, .int .i64 R.1.many] 41 (0, 0)), (t6, .cells #[.int .i64 x.d, .int .i64 x.nd, .int .i64 x.c, .int .i64 x.m, .int .u64 x.e, .bool x.rd, .string x.t] 34 (0, 0))] [] [] u := ⟨_, fun _ => Iff.rfl⟩
      have HGN := Lib.hid hGN
      have HCE : Hid (∀ u, GN u → (u.cell? ⟨t12, 0, none⟩ = some (.int .i64 re) ∧ u.cell? ⟨t12, 1, none⟩ = some (.int .u64 rp) ∧ u.cell? ⟨t12, 2, none⟩ = some (.int .u64 pl)) ∧ u.cell? ⟨t6, 0, none⟩ = some (.int .i64 x.d) ∧ u.cell? ⟨t6, 1, none⟩ = some (.int .i64 x.nd)) := Lib.hid fun u hu => by
        have m := ((hGN u).1 hu).at_ (.head _)
        have m' := ((hGN u).1 hu).at_ (.tail _ (.head _))
        exact ⟨⟨(cellsAt m 0 rfl).1, (cellsAt m 1 rfl).1, (cellsAt m 2 rfl).1⟩, (cellsAt m' 0 rfl).1, (cellsAt m' 1 rfl).1⟩
      have HG9 : Hid (GN w9) := Lib.hid ((hGN _).2 h9)
      have HKR : Hid (∀ (i : Nat) (u : World), KeepT i u u) := Lib.hid fun _ _ => trivial
      have HLG := Lib.hid fun w Y l rs xs (h : St15 W (X bc c) Y [] l rs xs w) => h.clog HC.out HIN.out x.nd HXF.out.nd
      obtain ⟨la, hla⟩ : ∃ z, (lgCu c x.nd).length = z := ⟨_, rfl⟩
      have hla2 : la ≤ 200 := hla ▸ lg_le HIN.out x.nd
      have HLA := Lib.hid hla
      have hwl : IntKind.u64.wrap (la : Int) = (la : Int) := by rw [IntKind.wrap_u64]; omega
      clear h9 hGN HD hla his
      obtain ⟨ba, ha⟩ : ∃ z, (x.d == 0) = z := ⟨_, rfl⟩
      obtain ⟨bz, hb⟩ : ∃ z, (re == 0) = z := ⟨_, rfl⟩
      obtain ⟨ab, hab⟩ : ∃ z, (ba && bz) = z := ⟨_, rfl⟩
      obtain ⟨i2, hi2⟩ : ∃ z, (is == 2) = z := ⟨_, rfl⟩
      obtain ⟨i7, hi7⟩ : ∃ z, (is == 7) = z := ⟨_, rfl⟩
      obtain ⟨i4, hi4⟩ : ∃ z, (is == 4) = z := ⟨_, rfl⟩
      obtain ⟨j7, hj7⟩ : ∃ z, (i2 || i7) = z := ⟨_, rfl⟩
      obtain ⟨ii, hii⟩ : ∃ z, (j7 || i4) = z := ⟨_, rfl⟩
      obtain ⟨pq, hpq⟩ : ∃ z, (ab && ii) = z := ⟨_, rfl⟩
      obtain ⟨dd, hdd⟩ : ∃ z, decide (0 < pl) = z := ⟨_, rfl⟩
      obtain ⟨pd, hpd⟩ : ∃ z, (pq && dd) = z := ⟨_, rfl⟩
      obtain ⟨ee, hee⟩ : ∃ z, decide (pl ≤ (la : Int)) = z := ⟨_, rfl⟩
      obtain ⟨bb, hbb⟩ : ∃ z, (pd && ee) = z := ⟨_, rfl⟩
      have HA := Lib.hid ha
      have HB := Lib.hid hb
      have HAB := Lib.hid hab
      have HI2 := Lib.hid hi2
      have HI7 := Lib.hid hi7
      have HI4 := Lib.hid hi4
      have HJ7 := Lib.hid hj7
      have HII := Lib.hid hii
      have HPQ := Lib.hid hpq
      have HDD := Lib.hid hdd
      have HPD := Lib.hid hpd
      have HEE := Lib.hid hee
      have HBB := Lib.hid hbb
      clear ha hb hab hi2 hi7 hi4 hj7 hii hpq hdd hpd hee hbb
      go_wp2_with fail
      refine wp_region_specs8q (S := fun _ u => GN u) (Kp := KeepT) (Sp := [(60, Stl.eq (.pointer (some ⟨t6, 0, none⟩))), (61, Stl.eq (.int .i64 x.d)), (62, Stl.eq (.bool ba)), (63, Stl.eq (.bool ba)), (64, Stl.eq ((bif ba then .pointer (some ⟨t12, 0, none⟩) else undef))), (65, Stl.eq ((bif ba then .pointer (some ⟨t12, 0, none⟩) else undef))), (66, Stl.eq ((bif ba then .int .i64 re else undef))), (67, Stl.eq ((bif ba then .bool bz else undef))), (68, Stl.eq (.bool ab)), (69, Stl.eq (.bool ab)), (70, Stl.eq ((bif ab then .int .i64 is else undef))), (71, Stl.eq ((bif ab then .bool i2 else undef))), (72, Stl.eq ((bif ab then .bool i2 else undef))), (73, Stl.eq ((bif ab then (bif i2 then undef else .int .i64 is) else undef))), (74, Stl.eq ((bif ab then (bif i2 then undef else .bool i7) else undef))), (75, Stl.eq ((bif ab then .bool j7 else undef))), (76, Stl.eq ((bif ab then .bool j7 else undef))), (77, Stl.eq ((bif ab then (bif j7 then undef else .int .i64 is) else undef))), (78, Stl.eq ((bif ab then (bif j7 then undef else .bool i4) else undef))), (79, Stl.eq ((bif ab then .bool ii else undef))), (80, Stl.eq (.bool pq)), (81, Stl.eq (.bool pq)), (82, Stl.eq ((bif pq then .pointer (some ⟨t12, 0, none⟩) else undef))), (83, Stl.eq ((bif pq then .pointer (some ⟨t12, 2, none⟩) else undef))), (84, Stl.eq ((bif pq then .int .u64 pl else undef))), (85, Stl.eq ((bif pq then .bool dd else undef))), (86, Stl.eq (.bool pd)), (87, Stl.eq (.bool pd)), (88, Stl.eq ((bif pd then .pointer (some ⟨t12, 0, none⟩) else undef))), (89, Stl.eq ((bif pd then .pointer (some ⟨t12, 2, none⟩) else undef))), (90, Stl.eq ((bif pd then .int .u64 pl else undef))), (91, Stl.eq ((bif pd then .pointer (some ⟨bc, 0, none⟩) else undef))), (92, Stl.eq ((bif pd then .pointer (some ⟨t6, 1, none⟩) else undef))), (93, Stl.eq ((bif pd then .int .i64 x.nd else undef))), (94, lenSlB pd la), (95, Stl.eq ((bif pd then .int .i64 la else undef))), (96, Stl.eq ((bif pd then .int .u64 la else undef))), (97, Stl.eq ((bif pd then .bool ee else undef))), (98, Stl.eq (.bool bb))]) (by kernel_rfl) (by kernel_rfl) ((HGN.out _).2 (((HGN.out _).1 HG9.out).next (kp_drewN w9 1))) ?_ ?_
      · intro QQ
        refine EachOp.cons ?_ ?_
        · intro L a u hL hst hS hdep hq hno
          have h11 : a.tmps.getD 11 undef = .pointer (some ⟨t6, 0, none⟩) := hst.out 11 (by kernel_rfl)
          refine .inl ⟨trivial, ?_⟩
          have g11 := gd h11
          go_simp
          exact Went6.same (HKR.out _ _) hS rfl
        refine EachOp.cons ?_ ?_
        · intro L a u hL hst hS hdep hq hno
          have h60 : a.tmps.getD 60 undef = .pointer (some ⟨t6, 0, none⟩) := hdep 60 (by kernel_rfl)
          refine .inl ⟨trivial, ?_⟩
          have g60 := gd h60
          have yy := (HCE.out u hS).2.1
          go_simp
          exact Went6.same (HKR.out _ _) hS rfl
        refine EachOp.cons ?_ ?_
        · intro L a u hL hst hS hdep hq hno
          cases ba with
          | false =>
            have h61 : a.tmps.getD 61 undef = .int .i64 x.d := hdep 61 (by kernel_rfl)
            refine .inl ⟨trivial, ?_⟩
            have g61 := gd h61
            have yy := HA.out
            go_simp
            exact Went6.same (HKR.out _ _) hS rfl
          | true =>
            have h61 : a.tmps.getD 61 undef = .int .i64 x.d := hdep 61 (by kernel_rfl)
            refine .inl ⟨trivial, ?_⟩
            have g61 := gd h61
            have yy := HA.out
            go_simp
            exact Went6.same (HKR.out _ _) hS rfl
        refine EachOp.cons ?_ ?_
        · intro L a u hL hst hS hdep hq hno
          cases ba with
          | false =>
            have h62 : a.tmps.getD 62 undef = .bool false := hdep 62 (by kernel_rfl)
            refine .inl ⟨trivial, ?_⟩
            have g62 := gd h62
            go_simp
            exact Went6.same (HKR.out _ _) hS rfl
          | true =>
            have h62 : a.tmps.getD 62 undef = .bool true := hdep 62 (by kernel_rfl)
            refine .inl ⟨trivial, ?_⟩
            have g62 := gd h62
            go_simp
            exact Went6.same (HKR.out _ _) hS rfl
        refine EachOp.cons ?_ ?_
        · intro L a u hL hst hS hdep hq hno
          cases ba with
          | false =>
            have h63 : a.tmps.getD 63 undef = .bool false := hdep 63 (by kernel_rfl)
            exact .inr ⟨⟨63, by kernel_rfl, .inl h63⟩, hS, HKR.out _ _, fun t e => by injection e with e; subst e; first | rfl | exact ⟨_, rfl, rfl⟩⟩
          | true =>
            have h12 : a.tmps.getD 12 undef = .pointer (some ⟨t12, 0, none⟩) := hst.out 12 (by kernel_rfl)
            have h63 : a.tmps.getD 63 undef = .bool true := hdep 63 (by kernel_rfl)
            refine .inl ⟨⟨63, by kernel_rfl, h63⟩, ?_⟩
            clear h63
            have g12 := gd h12
            go_simp
            exact Went6.same (HKR.out _ _) hS rfl
        refine EachOp.cons ?_ ?_
        · intro L a u hL hst hS hdep hq hno
          cases ba with
          | false =>
            have h63 : a.tmps.getD 63 undef = .bool false := hdep 63 (by kernel_rfl)
            exact .inr ⟨⟨63, by kernel_rfl, .inl h63⟩, hS, HKR.out _ _, fun t e => by injection e with e; subst e; first | rfl | exact ⟨_, rfl, rfl⟩⟩
          | true =>
            have h64 : a.tmps.getD 64 undef = .pointer (some ⟨t12, 0, none⟩) := hdep 64 (by kernel_rfl)
            have h63 : a.tmps.getD 63 undef = .bool true := hdep 63 (by kernel_rfl)
            refine .inl ⟨⟨63, by kernel_rfl, h63⟩, ?_⟩
            clear h63
            have g64 := gd h64
            go_simp
            exact Went6.same (HKR.out _ _) hS rfl
        refine EachOp.cons ?_ ?_
        · intro L a u hL hst hS hdep hq hno
          cases ba with
          | false =>
            have h63 : a.tmps.getD 63 undef = .bool false := hdep 63 (by kernel_rfl)
            exact .inr ⟨⟨63, by kernel_rfl, .inl h63⟩, hS, HKR.out _ _, fun t e => by injection e with e; subst e; first | rfl | exact ⟨_, rfl, rfl⟩⟩
          | true =>
            have h65 : a.tmps.getD 65 undef = .pointer (some ⟨t12, 0, none⟩) := hdep 65 (by kernel_rfl)
            have h63 : a.tmps.getD 63 undef = .bool true := hdep 63 (by kernel_rfl)
            refine .inl ⟨⟨63, by kernel_rfl, h63⟩, ?_⟩
            clear h63
            have g65 := gd h65
            have yy := (HCE.out u hS).1.1
            go_simp
            exact Went6.same (HKR.out _ _) hS rfl
        refine EachOp.cons ?_ ?_
        · intro L a u hL hst hS hdep hq hno
          cases ba with
          | false =>
            cases bz with
            | false =>
              have h63 : a.tmps.getD 63 undef = .bool false := hdep 63 (by kernel_rfl)
              exact .inr ⟨⟨63, by kernel_rfl, .inl h63⟩, hS, HKR.out _ _, fun t e => by injection e with e; subst e; first | rfl | exact ⟨_, rfl, rfl⟩⟩
            | true =>
              have h63 : a.tmps.getD 63 undef = .bool false := hdep 63 (by kernel_rfl)
              exact .inr ⟨⟨63, by kernel_rfl, .inl h63⟩, hS, HKR.out _ _, fun t e => by injection e with e; subst e; first | rfl | exact ⟨_, rfl, rfl⟩⟩
          | true =>
            cases bz with
            | false =>
              have h66 : a.tmps.getD 66 undef = .int .i64 re := hdep 66 (by kernel_rfl)
              have h63 : a.tmps.getD 63 undef = .bool true := hdep 63 (by kernel_rfl)
              refine .inl ⟨⟨63, by kernel_rfl, h63⟩, ?_⟩
              clear h63
              have g66 := gd h66
              have yy := HB.out
              go_simp
              exact Went6.same (HKR.out _ _) hS rfl
            | true =>
              have h66 : a.tmps.getD 66 undef = .int .i64 re := hdep 66 (by kernel_rfl)
              have h63 : a.tmps.getD 63 undef = .bool true := hdep 63 (by kernel_rfl)
              refine .inl ⟨⟨63, by kernel_rfl, h63⟩, ?_⟩
              clear h63
              have g66 := gd h66
              have yy := HB.out
              go_simp
              exact Went6.same (HKR.out _ _) hS rfl
        refine EachOp.cons ?_ ?_
        · intro L a u hL hst hS hdep hq hno
          cases ba with
          | false =>
            cases bz with
            | false =>
              cases ab with
              | false =>
                have h63 : a.tmps.getD 63 undef = .bool false := hdep 63 (by kernel_rfl)
                have h67 : a.tmps.getD 67 undef = undef := hdep 67 (by kernel_rfl)
                refine .inl ⟨trivial, ?_⟩
                have g63 := gd h63
                have g67 := gd h67
                go_simp
                exact Went6.same (HKR.out _ _) hS rfl
              | true =>
                exact absurd HAB.out (by decide)
            | true =>
              cases ab with
              | false =>
                have h63 : a.tmps.getD 63 undef = .bool false := hdep 63 (by kernel_rfl)
                have h67 : a.tmps.getD 67 undef = undef := hdep 67 (by kernel_rfl)
                refine .inl ⟨trivial, ?_⟩
                have g63 := gd h63
                have g67 := gd h67
                go_simp
                exact Went6.same (HKR.out _ _) hS rfl
              | true =>
                exact absurd HAB.out (by decide)
          | true =>
            cases bz with
            | false =>
              cases ab with
              | false =>
                have h63 : a.tmps.getD 63 undef = .bool true := hdep 63 (by kernel_rfl)
                have h67 : a.tmps.getD 67 undef = .bool false := hdep 67 (by kernel_rfl)
                refine .inl ⟨trivial, ?_⟩
                have g63 := gd h63
                have g67 := gd h67
                go_simp
                exact Went6.same (HKR.out _ _) hS rfl
              | true =>
                exact absurd HAB.out (by decide)
            | true =>
              cases ab with
              | false =>
                exact absurd HAB.out (by decide)
              | true =>
                have h63 : a.tmps.getD 63 undef = .bool true := hdep 63 (by kernel_rfl)
                have h67 : a.tmps.getD 67 undef = .bool true := hdep 67 (by kernel_rfl)
                refine .inl ⟨trivial, ?_⟩
                have g63 := gd h63
                have g67 := gd h67
                go_simp
                exact Went6.same (HKR.out _ _) hS rfl
        refine EachOp.cons ?_ ?_
        · intro L a u hL hst hS hdep hq hno
          cases ab with
          | false =>
            have h68 : a.tmps.getD 68 undef = .bool false := hdep 68 (by kernel_rfl)
            refine .inl ⟨trivial, ?_⟩
            have g68 := gd h68
            go_simp
            exact Went6.same (HKR.out _ _) hS rfl
          | true =>
            have h68 : a.tmps.getD 68 undef = .bool true := hdep 68 (by kernel_rfl)
            refine .inl ⟨trivial, ?_⟩
            have g68 := gd h68
            go_simp
            exact Went6.same (HKR.out _ _) hS rfl
        refine EachOp.cons ?_ ?_
        · intro L a u hL hst hS hdep hq hno
          cases ab with
          | false =>
            have h69 : a.tmps.getD 69 undef = .bool false := hdep 69 (by kernel_rfl)
            exact .inr ⟨⟨69, by kernel_rfl, .inl h69⟩, hS, HKR.out _ _, fun t e => by injection e with e; subst e; first | rfl | exact ⟨_, rfl, rfl⟩⟩
          | true =>
            have h13 : a.tmps.getD 13 undef = .int .i64 is := hst.out 13 (by kernel_rfl)
            have h69 : a.tmps.getD 69 undef = .bool true := hdep 69 (by kernel_rfl)
            refine .inl ⟨⟨69, by kernel_rfl, h69⟩, ?_⟩
            clear h69
            have g13 := gd h13
            go_simp
            exact Went6.same (HKR.out _ _) hS rfl
        refine EachOp.cons ?_ ?_
        · intro L a u hL hst hS hdep hq hno
          cases ab with
          | false =>
            cases i2 with
            | false =>
              have h69 : a.tmps.getD 69 undef = .bool false := hdep 69 (by kernel_rfl)
              exact .inr ⟨⟨69, by kernel_rfl, .inl h69⟩, hS, HKR.out _ _, fun t e => by injection e with e; subst e; first | rfl | exact ⟨_, rfl, rfl⟩⟩
            | true =>
              have h69 : a.tmps.getD 69 undef = .bool false := hdep 69 (by kernel_rfl)
              exact .inr ⟨⟨69, by kernel_rfl, .inl h69⟩, hS, HKR.out _ _, fun t e => by injection e with e; subst e; first | rfl | exact ⟨_, rfl, rfl⟩⟩
          | true =>
            cases i2 with
            | false =>
              have h70 : a.tmps.getD 70 undef = .int .i64 is := hdep 70 (by kernel_rfl)
              have h69 : a.tmps.getD 69 undef = .bool true := hdep 69 (by kernel_rfl)
              refine .inl ⟨⟨69, by kernel_rfl, h69⟩, ?_⟩
              clear h69
              have g70 := gd h70
              have yy := HI2.out
              go_simp
              exact Went6.same (HKR.out _ _) hS rfl
            | true =>
              have h70 : a.tmps.getD 70 undef = .int .i64 is := hdep 70 (by kernel_rfl)
              have h69 : a.tmps.getD 69 undef = .bool true := hdep 69 (by kernel_rfl)
              refine .inl ⟨⟨69, by kernel_rfl, h69⟩, ?_⟩
              clear h69
              have g70 := gd h70
              have yy := HI2.out
              go_simp
              exact Went6.same (HKR.out _ _) hS rfl
        refine EachOp.cons ?_ ?_
        · intro L a u hL hst hS hdep hq hno
          cases ab with
          | false =>
            cases i2 with
            | false =>
              have h69 : a.tmps.getD 69 undef = .bool false := hdep 69 (by kernel_rfl)
              exact .inr ⟨⟨69, by kernel_rfl, .inl h69⟩, hS, HKR.out _ _, fun t e => by injection e with e; subst e; first | rfl | exact ⟨_, rfl, rfl⟩⟩
            | true =>
              have h69 : a.tmps.getD 69 undef = .bool false := hdep 69 (by kernel_rfl)
              exact .inr ⟨⟨69, by kernel_rfl, .inl h69⟩, hS, HKR.out _ _, fun t e => by injection e with e; subst e; first | rfl | exact ⟨_, rfl, rfl⟩⟩
          | true =>
            cases i2 with
            | false =>
              have h71 : a.tmps.getD 71 undef = .bool false := hdep 71 (by kernel_rfl)
              have h69 : a.tmps.getD 69 undef = .bool true := hdep 69 (by kernel_rfl)
              refine .inl ⟨⟨69, by kernel_rfl, h69⟩, ?_⟩
              clear h69
              have g71 := gd h71
              go_simp
              exact Went6.same (HKR.out _ _) hS rfl
            | true =>
              have h71 : a.tmps.getD 71 undef = .bool true := hdep 71 (by kernel_rfl)
              have h69 : a.tmps.getD 69 undef = .bool true := hdep 69 (by kernel_rfl)
              refine .inl ⟨⟨69, by kernel_rfl, h69⟩, ?_⟩
              clear h69
              have g71 := gd h71
              go_simp
              exact Went6.same (HKR.out _ _) hS rfl
        refine EachOp.cons ?_ ?_
        · intro L a u hL hst hS hdep hq hno
          cases ab with
          | false =>
            cases i2 with
            | false =>
              have h72 : a.tmps.getD 72 undef = undef := hdep 72 (by kernel_rfl)
              exact .inr ⟨⟨72, by kernel_rfl, .inr h72⟩, hS, HKR.out _ _, fun t e => by injection e with e; subst e; first | rfl | exact ⟨_, rfl, rfl⟩⟩
            | true =>
              have h72 : a.tmps.getD 72 undef = undef := hdep 72 (by kernel_rfl)
              exact .inr ⟨⟨72, by kernel_rfl, .inr h72⟩, hS, HKR.out _ _, fun t e => by injection e with e; subst e; first | rfl | exact ⟨_, rfl, rfl⟩⟩
          | true =>
            cases i2 with
            | false =>
              have h13 : a.tmps.getD 13 undef = .int .i64 is := hst.out 13 (by kernel_rfl)
              have h72 : a.tmps.getD 72 undef = .bool false := hdep 72 (by kernel_rfl)
              refine .inl ⟨⟨72, by kernel_rfl, h72⟩, ?_⟩
              clear h72
              have g13 := gd h13
              go_simp
              exact Went6.same (HKR.out _ _) hS rfl
            | true =>
              have h72 : a.tmps.getD 72 undef = .bool true := hdep 72 (by kernel_rfl)
              exact .inr ⟨⟨72, by kernel_rfl, .inl h72⟩, hS, HKR.out _ _, fun t e => by injection e with e; subst e; first | rfl | exact ⟨_, rfl, rfl⟩⟩
        refine EachOp.cons ?_ ?_
        · intro L a u hL hst hS hdep hq hno
          cases ab with
          | false =>
            cases i2 with
            | false =>
              cases i7 with
              | false =>
                have h72 : a.tmps.getD 72 undef = undef := hdep 72 (by kernel_rfl)
                exact .inr ⟨⟨72, by kernel_rfl, .inr h72⟩, hS, HKR.out _ _, fun t e => by injection e with e; subst e; first | rfl | exact ⟨_, rfl, rfl⟩⟩
              | true =>
                have h72 : a.tmps.getD 72 undef = undef := hdep 72 (by kernel_rfl)
                exact .inr ⟨⟨72, by kernel_rfl, .inr h72⟩, hS, HKR.out _ _, fun t e => by injection e with e; subst e; first | rfl | exact ⟨_, rfl, rfl⟩⟩
            | true =>
              cases i7 with
              | false =>
                have h72 : a.tmps.getD 72 undef = undef := hdep 72 (by kernel_rfl)
                exact .inr ⟨⟨72, by kernel_rfl, .inr h72⟩, hS, HKR.out _ _, fun t e => by injection e with e; subst e; first | rfl | exact ⟨_, rfl, rfl⟩⟩
              | true =>
                have h72 : a.tmps.getD 72 undef = undef := hdep 72 (by kernel_rfl)
                exact .inr ⟨⟨72, by kernel_rfl, .inr h72⟩, hS, HKR.out _ _, fun t e => by injection e with e; subst e; first | rfl | exact ⟨_, rfl, rfl⟩⟩
          | true =>
            cases i2 with
            | false =>
              cases i7 with
              | false =>
                have h73 : a.tmps.getD 73 undef = .int .i64 is := hdep 73 (by kernel_rfl)
                have h72 : a.tmps.getD 72 undef = .bool false := hdep 72 (by kernel_rfl)
                refine .inl ⟨⟨72, by kernel_rfl, h72⟩, ?_⟩
                clear h72
                have g73 := gd h73
                have yy := HI7.out
                go_simp
                exact Went6.same (HKR.out _ _) hS rfl
              | true =>
                have h73 : a.tmps.getD 73 undef = .int .i64 is := hdep 73 (by kernel_rfl)
                have h72 : a.tmps.getD 72 undef = .bool false := hdep 72 (by kernel_rfl)
                refine .inl ⟨⟨72, by kernel_rfl, h72⟩, ?_⟩
                clear h72
                have g73 := gd h73
                have yy := HI7.out
                go_simp
                exact Went6.same (HKR.out _ _) hS rfl
            | true =>
              cases i7 with
              | false =>
                have h72 : a.tmps.getD 72 undef = .bool true := hdep 72 (by kernel_rfl)
                exact .inr ⟨⟨72, by kernel_rfl, .inl h72⟩, hS, HKR.out _ _, fun t e => by injection e with e; subst e; first | rfl | exact ⟨_, rfl, rfl⟩⟩
              | true =>
                have h72 : a.tmps.getD 72 undef = .bool true := hdep 72 (by kernel_rfl)
                exact .inr ⟨⟨72, by kernel_rfl, .inl h72⟩, hS, HKR.out _ _, fun t e => by injection e with e; subst e; first | rfl | exact ⟨_, rfl, rfl⟩⟩
        refine EachOp.cons ?_ ?_
        · intro L a u hL hst hS hdep hq hno
          cases ab with
          | false =>
            cases i2 with
            | false =>
              cases i7 with
              | false =>
                cases j7 with
                | false =>
                  have h69 : a.tmps.getD 69 undef = .bool false := hdep 69 (by kernel_rfl)
                  exact .inr ⟨⟨69, by kernel_rfl, .inl h69⟩, hS, HKR.out _ _, fun t e => by injection e with e; subst e; first | rfl | exact ⟨_, rfl, rfl⟩⟩
                | true =>
                  exact absurd HJ7.out (by decide)
              | true =>
                cases j7 with
                | false =>
                  exact absurd HJ7.out (by decide)
                | true =>
                  have h69 : a.tmps.getD 69 undef = .bool false := hdep 69 (by kernel_rfl)
                  exact .inr ⟨⟨69, by kernel_rfl, .inl h69⟩, hS, HKR.out _ _, fun t e => by injection e with e; subst e; first | rfl | exact ⟨_, rfl, rfl⟩⟩
            | true =>
              cases i7 with
              | false =>
                cases j7 with
                | false =>
                  exact absurd HJ7.out (by decide)
                | true =>
                  have h69 : a.tmps.getD 69 undef = .bool false := hdep 69 (by kernel_rfl)
                  exact .inr ⟨⟨69, by kernel_rfl, .inl h69⟩, hS, HKR.out _ _, fun t e => by injection e with e; subst e; first | rfl | exact ⟨_, rfl, rfl⟩⟩
              | true =>
                cases j7 with
                | false =>
                  exact absurd HJ7.out (by decide)
                | true =>
                  have h69 : a.tmps.getD 69 undef = .bool false := hdep 69 (by kernel_rfl)
                  exact .inr ⟨⟨69, by kernel_rfl, .inl h69⟩, hS, HKR.out _ _, fun t e => by injection e with e; subst e; first | rfl | exact ⟨_, rfl, rfl⟩⟩
          | true =>
            cases i2 with
            | false =>
              cases i7 with
              | false =>
                cases j7 with
                | false =>
                  have h72 : a.tmps.getD 72 undef = .bool false := hdep 72 (by kernel_rfl)
                  have h74 : a.tmps.getD 74 undef = .bool false := hdep 74 (by kernel_rfl)
                  have h69 : a.tmps.getD 69 undef = .bool true := hdep 69 (by kernel_rfl)
                  refine .inl ⟨⟨69, by kernel_rfl, h69⟩, ?_⟩
                  clear h69
                  have g72 := gd h72
                  have g74 := gd h74
                  go_simp
                  exact Went6.same (HKR.out _ _) hS rfl
                | true =>
                  exact absurd HJ7.out (by decide)
              | true =>
                cases j7 with
                | false =>
                  exact absurd HJ7.out (by decide)
                | true =>
                  have h72 : a.tmps.getD 72 undef = .bool false := hdep 72 (by kernel_rfl)
                  have h74 : a.tmps.getD 74 undef = .bool true := hdep 74 (by kernel_rfl)
                  have h69 : a.tmps.getD 69 undef = .bool true := hdep 69 (by kernel_rfl)
                  refine .inl ⟨⟨69, by kernel_rfl, h69⟩, ?_⟩
                  clear h69
                  have g72 := gd h72
                  have g74 := gd h74
                  go_simp
                  exact Went6.same (HKR.out _ _) hS rfl
            | true =>
              cases i7 with
              | false =>
                cases j7 with
                | false =>
                  exact absurd HJ7.out (by decide)
                | true =>
                  have h72 : a.tmps.getD 72 undef = .bool true := hdep 72 (by kernel_rfl)
                  have h74 : a.tmps.getD 74 undef = undef := hdep 74 (by kernel_rfl)
                  have h69 : a.tmps.getD 69 undef = .bool true := hdep 69 (by kernel_rfl)
                  refine .inl ⟨⟨69, by kernel_rfl, h69⟩, ?_⟩
                  clear h69
                  have g72 := gd h72
                  have g74 := gd h74
                  go_simp
                  exact Went6.same (HKR.out _ _) hS rfl
              | true =>
                cases j7 with
                | false =>
                  exact absurd HJ7.out (by decide)
                | true =>
                  have h72 : a.tmps.getD 72 undef = .bool true := hdep 72 (by kernel_rfl)
                  have h74 : a.tmps.getD 74 undef = undef := hdep 74 (by kernel_rfl)
                  have h69 : a.tmps.getD 69 undef = .bool true := hdep 69 (by kernel_rfl)
                  refine .inl ⟨⟨69, by kernel_rfl, h69⟩, ?_⟩
                  clear h69
                  have g72 := gd h72
                  have g74 := gd h74
                  go_simp
                  exact Went6.same (HKR.out _ _) hS rfl
        refine EachOp.cons ?_ ?_
        · intro L a u hL hst hS hdep hq hno
          cases ab with
          | false =>
            cases j7 with
            | false =>
              have h69 : a.tmps.getD 69 undef = .bool false := hdep 69 (by kernel_rfl)
              exact .inr ⟨⟨69, by kernel_rfl, .inl h69⟩, hS, HKR.out _ _, fun t e => by injection e with e; subst e; first | rfl | exact ⟨_, rfl, rfl⟩⟩
            | true =>
              have h69 : a.tmps.getD 69 undef = .bool false := hdep 69 (by kernel_rfl)
              exact .inr ⟨⟨69, by kernel_rfl, .inl h69⟩, hS, HKR.out _ _, fun t e => by injection e with e; subst e; first | rfl | exact ⟨_, rfl, rfl⟩⟩
          | true =>
            cases j7 with
            | false =>
              have h75 : a.tmps.getD 75 undef = .bool false := hdep 75 (by kernel_rfl)
              have h69 : a.tmps.getD 69 undef = .bool true := hdep 69 (by kernel_rfl)
              refine .inl ⟨⟨69, by kernel_rfl, h69⟩, ?_⟩
              clear h69
              have g75 := gd h75
              go_simp
              exact Went6.same (HKR.out _ _) hS rfl
            | true =>
              have h75 : a.tmps.getD 75 undef = .bool true := hdep 75 (by kernel_rfl)
              have h69 : a.tmps.getD 69 undef = .bool true := hdep 69 (by kernel_rfl)
              refine .inl ⟨⟨69, by kernel_rfl, h69⟩, ?_⟩
              clear h69
              have g75 := gd h75
              go_simp
              exact Went6.same (HKR.out _ _) hS rfl
        refine EachOp.cons ?_ ?_
        · intro L a u hL hst hS hdep hq hno
          cases ab with
          | false =>
            cases j7 with
            | false =>
              have h76 : a.tmps.getD 76 undef = undef := hdep 76 (by kernel_rfl)
              exact .inr ⟨⟨76, by kernel_rfl, .inr h76⟩, hS, HKR.out _ _, fun t e => by injection e with e; subst e; first | rfl | exact ⟨_, rfl, rfl⟩⟩
            | true =>
              have h76 : a.tmps.getD 76 undef = undef := hdep 76 (by kernel_rfl)
              exact .inr ⟨⟨76, by kernel_rfl, .inr h76⟩, hS, HKR.out _ _, fun t e => by injection e with e; subst e; first | rfl | exact ⟨_, rfl, rfl⟩⟩
          | true =>
            cases j7 with
            | false =>
              have h13 : a.tmps.getD 13 undef = .int .i64 is := hst.out 13 (by kernel_rfl)
              have h76 : a.tmps.getD 76 undef = .bool false := hdep 76 (by kernel_rfl)
              refine .inl ⟨⟨76, by kernel_rfl, h76⟩, ?_⟩
              clear h76
              have g13 := gd h13
              go_simp
              exact Went6.same (HKR.out _ _) hS rfl
            | true =>
              have h76 : a.tmps.getD 76 undef = .bool true := hdep 76 (by kernel_rfl)
              exact .inr ⟨⟨76, by kernel_rfl, .inl h76⟩, hS, HKR.out _ _, fun t e => by injection e with e; subst e; first | rfl | exact ⟨_, rfl, rfl⟩⟩
        refine EachOp.cons ?_ ?_
        · intro L a u hL hst hS hdep hq hno
          cases ab with
          | false =>
            cases j7 with
            | false =>
              cases i4 with
              | false =>
                have h76 : a.tmps.getD 76 undef = undef := hdep 76 (by kernel_rfl)
                exact .inr ⟨⟨76, by kernel_rfl, .inr h76⟩, hS, HKR.out _ _, fun t e => by injection e with e; subst e; first | rfl | exact ⟨_, rfl, rfl⟩⟩
              | true =>
                have h76 : a.tmps.getD 76 undef = undef := hdep 76 (by kernel_rfl)
                exact .inr ⟨⟨76, by kernel_rfl, .inr h76⟩, hS, HKR.out _ _, fun t e => by injection e with e; subst e; first | rfl | exact ⟨_, rfl, rfl⟩⟩
            | true =>
              cases i4 with
              | false =>
                have h76 : a.tmps.getD 76 undef = undef := hdep 76 (by kernel_rfl)
                exact .inr ⟨⟨76, by kernel_rfl, .inr h76⟩, hS, HKR.out _ _, fun t e => by injection e with e; subst e; first | rfl | exact ⟨_, rfl, rfl⟩⟩
              | true =>
                have h76 : a.tmps.getD 76 undef = undef := hdep 76 (by kernel_rfl)
                exact .inr ⟨⟨76, by kernel_rfl, .inr h76⟩, hS, HKR.out _ _, fun t e => by injection e with e; subst e; first | rfl | exact ⟨_, rfl, rfl⟩⟩
          | true =>
            cases j7 with
            | false =>
              cases i4 with
              | false =>
                have h77 : a.tmps.getD 77 undef = .int .i64 is := hdep 77 (by kernel_rfl)
                have h76 : a.tmps.getD 76 undef = .bool false := hdep 76 (by kernel_rfl)
                refine .inl ⟨⟨76, by kernel_rfl, h76⟩, ?_⟩
                clear h76
                have g77 := gd h77
                have yy := HI4.out
                go_simp
                exact Went6.same (HKR.out _ _) hS rfl
              | true =>
                have h77 : a.tmps.getD 77 undef = .int .i64 is := hdep 77 (by kernel_rfl)
                have h76 : a.tmps.getD 76 undef = .bool false := hdep 76 (by kernel_rfl)
                refine .inl ⟨⟨76, by kernel_rfl, h76⟩, ?_⟩
                clear h76
                have g77 := gd h77
                have yy := HI4.out
                go_simp
                exact Went6.same (HKR.out _ _) hS rfl
            | true =>
              cases i4 with
              | false =>
                have h76 : a.tmps.getD 76 undef = .bool true := hdep 76 (by kernel_rfl)
                exact .inr ⟨⟨76, by kernel_rfl, .inl h76⟩, hS, HKR.out _ _, fun t e => by injection e with e; subst e; first | rfl | exact ⟨_, rfl, rfl⟩⟩
              | true =>
                have h76 : a.tmps.getD 76 undef = .bool true := hdep 76 (by kernel_rfl)
                exact .inr ⟨⟨76, by kernel_rfl, .inl h76⟩, hS, HKR.out _ _, fun t e => by injection e with e; subst e; first | rfl | exact ⟨_, rfl, rfl⟩⟩
        refine EachOp.cons ?_ ?_
        · intro L a u hL hst hS hdep hq hno
          cases ab with
          | false =>
            cases j7 with
            | false =>
              cases i4 with
              | false =>
                cases ii with
                | false =>
                  have h69 : a.tmps.getD 69 undef = .bool false := hdep 69 (by kernel_rfl)
                  exact .inr ⟨⟨69, by kernel_rfl, .inl h69⟩, hS, HKR.out _ _, fun t e => by injection e with e; subst e; first | rfl | exact ⟨_, rfl, rfl⟩⟩
                | true =>
                  exact absurd HII.out (by decide)
              | true =>
                cases ii with
                | false =>
                  exact absurd HII.out (by decide)
                | true =>
                  have h69 : a.tmps.getD 69 undef = .bool false := hdep 69 (by kernel_rfl)
                  exact .inr ⟨⟨69, by kernel_rfl, .inl h69⟩, hS, HKR.out _ _, fun t e => by injection e with e; subst e; first | rfl | exact ⟨_, rfl, rfl⟩⟩
            | true =>
              cases i4 with
              | false =>
                cases ii with
                | false =>
                  exact absurd HII.out (by decide)
                | true =>
                  have h69 : a.tmps.getD 69 undef = .bool false := hdep 69 (by kernel_rfl)
                  exact .inr ⟨⟨69, by kernel_rfl, .inl h69⟩, hS, HKR.out _ _, fun t e => by injection e with e; subst e; first | rfl | exact ⟨_, rfl, rfl⟩⟩
              | true =>
                cases ii with
                | false =>
                  exact absurd HII.out (by decide)
                | true =>
                  have h69 : a.tmps.getD 69 undef = .bool false := hdep 69 (by kernel_rfl)
                  exact .inr ⟨⟨69, by kernel_rfl, .inl h69⟩, hS, HKR.out _ _, fun t e => by injection e with e; subst e; first | rfl | exact ⟨_, rfl, rfl⟩⟩
          | true =>
            cases j7 with
            | false =>
              cases i4 with
              | false =>
                cases ii with
                | false =>
                  have h76 : a.tmps.getD 76 undef = .bool false := hdep 76 (by kernel_rfl)
                  have h78 : a.tmps.getD 78 undef = .bool false := hdep 78 (by kernel_rfl)
                  have h69 : a.tmps.getD 69 undef = .bool true := hdep 69 (by kernel_rfl)
                  refine .inl ⟨⟨69, by kernel_rfl, h69⟩, ?_⟩
                  clear h69
                  have g76 := gd h76
                  have g78 := gd h78
                  go_simp
                  exact Went6.same (HKR.out _ _) hS rfl
                | true =>
                  exact absurd HII.out (by decide)
              | true =>
                cases ii with
                | false =>
                  exact absurd HII.out (by decide)
                | true =>
                  have h76 : a.tmps.getD 76 undef = .bool false := hdep 76 (by kernel_rfl)
                  have h78 : a.tmps.getD 78 undef = .bool true := hdep 78 (by kernel_rfl)
                  have h69 : a.tmps.getD 69 undef = .bool true := hdep 69 (by kernel_rfl)
                  refine .inl ⟨⟨69, by kernel_rfl, h69⟩, ?_⟩
                  clear h69
                  have g76 := gd h76
                  have g78 := gd h78
                  go_simp
                  exact Went6.same (HKR.out _ _) hS rfl
            | true =>
              cases i4 with
              | false =>
                cases ii with
                | false =>
                  exact absurd HII.out (by decide)
                | true =>
                  have h76 : a.tmps.getD 76 undef = .bool true := hdep 76 (by kernel_rfl)
                  have h78 : a.tmps.getD 78 undef = undef := hdep 78 (by kernel_rfl)
                  have h69 : a.tmps.getD 69 undef = .bool true := hdep 69 (by kernel_rfl)
                  refine .inl ⟨⟨69, by kernel_rfl, h69⟩, ?_⟩
                  clear h69
                  have g76 := gd h76
                  have g78 := gd h78
                  go_simp
                  exact Went6.same (HKR.out _ _) hS rfl
              | true =>
                cases ii with
                | false =>
                  exact absurd HII.out (by decide)
                | true =>
                  have h76 : a.tmps.getD 76 undef = .bool true := hdep 76 (by kernel_rfl)
                  have h78 : a.tmps.getD 78 undef = undef := hdep 78 (by kernel_rfl)
                  have h69 : a.tmps.getD 69 undef = .bool true := hdep 69 (by kernel_rfl)
                  refine .inl ⟨⟨69, by kernel_rfl, h69⟩, ?_⟩
                  clear h69
                  have g76 := gd h76
                  have g78 := gd h78
                  go_simp
                  exact Went6.same (HKR.out _ _) hS rfl
        refine EachOp.cons ?_ ?_
        · intro L a u hL hst hS hdep hq hno
          cases ab with
          | false =>
            cases ii with
            | false =>
              cases pq with
              | false =>
                have h69 : a.tmps.getD 69 undef = .bool false := hdep 69 (by kernel_rfl)
                have h79 : a.tmps.getD 79 undef = undef := hdep 79 (by kernel_rfl)
                refine .inl ⟨trivial, ?_⟩
                have g69 := gd h69
                have g79 := gd h79
                go_simp
                exact Went6.same (HKR.out _ _) hS rfl
              | true =>
                exact absurd HPQ.out (by decide)
            | true =>
              cases pq with
              | false =>
                have h69 : a.tmps.getD 69 undef = .bool false := hdep 69 (by kernel_rfl)
                have h79 : a.tmps.getD 79 undef = undef := hdep 79 (by kernel_rfl)
                refine .inl ⟨trivial, ?_⟩
                have g69 := gd h69
                have g79 := gd h79
                go_simp
                exact Went6.same (HKR.out _ _) hS rfl
              | true =>
                exact absurd HPQ.out (by decide)
          | true =>
            cases ii with
            | false =>
              cases pq with
              | false =>
                have h69 : a.tmps.getD 69 undef = .bool true := hdep 69 (by kernel_rfl)
                have h79 : a.tmps.getD 79 undef = .bool false := hdep 79 (by kernel_rfl)
                refine .inl ⟨trivial, ?_⟩
                have g69 := gd h69
                have g79 := gd h79
                go_simp
                exact Went6.same (HKR.out _ _) hS rfl
              | true =>
                exact absurd HPQ.out (by decide)
            | true =>
              cases pq with
              | false =>
                exact absurd HPQ.out (by decide)
              | true =>
                have h69 : a.tmps.getD 69 undef = .bool true := hdep 69 (by kernel_rfl)
                have h79 : a.tmps.getD 79 undef = .bool true := hdep 79 (by kernel_rfl)
                refine .inl ⟨trivial, ?_⟩
                have g69 := gd h69
                have g79 := gd h79
                go_simp
                exact Went6.same (HKR.out _ _) hS rfl
        refine EachOp.cons ?_ ?_
        · intro L a u hL hst hS hdep hq hno
          cases pq with
          | false =>
            have h80 : a.tmps.getD 80 undef = .bool false := hdep 80 (by kernel_rfl)
            refine .inl ⟨trivial, ?_⟩
            have g80 := gd h80
            go_simp
            exact Went6.same (HKR.out _ _) hS rfl
          | true =>
            have h80 : a.tmps.getD 80 undef = .bool true := hdep 80 (by kernel_rfl)
            refine .inl ⟨trivial, ?_⟩
            have g80 := gd h80
            go_simp
            exact Went6.same (HKR.out _ _) hS rfl
        refine EachOp.cons ?_ ?_
        · intro L a u hL hst hS hdep hq hno
          cases pq with
          | false =>
            have h81 : a.tmps.getD 81 undef = .bool false := hdep 81 (by kernel_rfl)
            exact .inr ⟨⟨81, by kernel_rfl, .inl h81⟩, hS, HKR.out _ _, fun t e => by injection e with e; subst e; first | rfl | exact ⟨_, rfl, rfl⟩⟩
          | true =>
            have h12 : a.tmps.getD 12 undef = .pointer (some ⟨t12, 0, none⟩) := hst.out 12 (by kernel_rfl)
            have h81 : a.tmps.getD 81 undef = .bool true := hdep 81 (by kernel_rfl)
            refine .inl ⟨⟨81, by kernel_rfl, h81⟩, ?_⟩
            clear h81
            have g12 := gd h12
            go_simp
            exact Went6.same (HKR.out _ _) hS rfl
        refine EachOp.cons ?_ ?_
        · intro L a u hL hst hS hdep hq hno
          cases pq with
          | false =>
            have h81 : a.tmps.getD 81 undef = .bool false := hdep 81 (by kernel_rfl)
            exact .inr ⟨⟨81, by kernel_rfl, .inl h81⟩, hS, HKR.out _ _, fun t e => by injection e with e; subst e; first | rfl | exact ⟨_, rfl, rfl⟩⟩
          | true =>
            have h82 : a.tmps.getD 82 undef = .pointer (some ⟨t12, 0, none⟩) := hdep 82 (by kernel_rfl)
            have h81 : a.tmps.getD 81 undef = .bool true := hdep 81 (by kernel_rfl)
            refine .inl ⟨⟨81, by kernel_rfl, h81⟩, ?_⟩
            clear h81
            have g82 := gd h82
            go_simp
            exact Went6.same (HKR.out _ _) hS rfl
        refine EachOp.cons ?_ ?_
        · intro L a u hL hst hS hdep hq hno
          cases pq with
          | false =>
            have h81 : a.tmps.getD 81 undef = .bool false := hdep 81 (by kernel_rfl)
            exact .inr ⟨⟨81, by kernel_rfl, .inl h81⟩, hS, HKR.out _ _, fun t e => by injection e with e; subst e; first | rfl | exact ⟨_, rfl, rfl⟩⟩
          | true =>
            have h83 : a.tmps.getD 83 undef = .pointer (some ⟨t12, 2, none⟩) := hdep 83 (by kernel_rfl)
            have h81 : a.tmps.getD 81 undef = .bool true := hdep 81 (by kernel_rfl)
            refine .inl ⟨⟨81, by kernel_rfl, h81⟩, ?_⟩
            clear h81
            have g83 := gd h83
            have yy := (HCE.out u hS).1.2.2
            go_simp
            exact Went6.same (HKR.out _ _) hS rfl
        refine EachOp.cons ?_ ?_
        · intro L a u hL hst hS hdep hq hno
          cases pq with
          | false =>
            cases dd with
            | false =>
              have h81 : a.tmps.getD 81 undef = .bool false := hdep 81 (by kernel_rfl)
              exact .inr ⟨⟨81, by kernel_rfl, .inl h81⟩, hS, HKR.out _ _, fun t e => by injection e with e; subst e; first | rfl | exact ⟨_, rfl, rfl⟩⟩
            | true =>
              have h81 : a.tmps.getD 81 undef = .bool false := hdep 81 (by kernel_rfl)
              exact .inr ⟨⟨81, by kernel_rfl, .inl h81⟩, hS, HKR.out _ _, fun t e => by injection e with e; subst e; first | rfl | exact ⟨_, rfl, rfl⟩⟩
          | true =>
            cases dd with
            | false =>
              have h84 : a.tmps.getD 84 undef = .int .u64 pl := hdep 84 (by kernel_rfl)
              have h81 : a.tmps.getD 81 undef = .bool true := hdep 81 (by kernel_rfl)
              refine .inl ⟨⟨81, by kernel_rfl, h81⟩, ?_⟩
              clear h81
              have g84 := gd h84
              go_simp
              first | exact Went6.same (HKR.out _ _) hS rfl | exact Went6.same (HKR.out _ _) hS (congrArg Value.bool HDD.out)
            | true =>
              have h84 : a.tmps.getD 84 undef = .int .u64 pl := hdep 84 (by kernel_rfl)
              have h81 : a.tmps.getD 81 undef = .bool true := hdep 81 (by kernel_rfl)
              refine .inl ⟨⟨81, by kernel_rfl, h81⟩, ?_⟩
              clear h81
              have g84 := gd h84
              go_simp
              first | exact Went6.same (HKR.out _ _) hS rfl | exact Went6.same (HKR.out _ _) hS (congrArg Value.bool HDD.out)
        refine EachOp.cons ?_ ?_
        · intro L a u hL hst hS hdep hq hno
          cases pq with
          | false =>
            cases dd with
            | false =>
              cases pd with
              | false =>
                have h81 : a.tmps.getD 81 undef = .bool false := hdep 81 (by kernel_rfl)
                have h85 : a.tmps.getD 85 undef = undef := hdep 85 (by kernel_rfl)
                refine .inl ⟨trivial, ?_⟩
                have g81 := gd h81
                have g85 := gd h85
                go_simp
                exact Went6.same (HKR.out _ _) hS rfl
              | true =>
                exact absurd HPD.out (by decide)
            | true =>
              cases pd with
              | false =>
                have h81 : a.tmps.getD 81 undef = .bool false := hdep 81 (by kernel_rfl)
                have h85 : a.tmps.getD 85 undef = undef := hdep 85 (by kernel_rfl)
                refine .inl ⟨trivial, ?_⟩
                have g81 := gd h81
                have g85 := gd h85
                go_simp
                exact Went6.same (HKR.out _ _) hS rfl
              | true =>
                exact absurd HPD.out (by decide)
          | true =>
            cases dd with
            | false =>
              cases pd with
              | false =>
                have h81 : a.tmps.getD 81 undef = .bool true := hdep 81 (by kernel_rfl)
                have h85 : a.tmps.getD 85 undef = .bool false := hdep 85 (by kernel_rfl)
                refine .inl ⟨trivial, ?_⟩
                have g81 := gd h81
                have g85 := gd h85
                go_simp
                exact Went6.same (HKR.out _ _) hS rfl
              | true =>
                exact absurd HPD.out (by decide)
            | true =>
              cases pd with
              | false =>
                exact absurd HPD.out (by decide)
              | true =>
                have h81 : a.tmps.getD 81 undef = .bool true := hdep 81 (by kernel_rfl)
                have h85 : a.tmps.getD 85 undef = .bool true := hdep 85 (by kernel_rfl)
                refine .inl ⟨trivial, ?_⟩
                have g81 := gd h81
                have g85 := gd h85
                go_simp
                exact Went6.same (HKR.out _ _) hS rfl
        refine EachOp.cons ?_ ?_
        · intro L a u hL hst hS hdep hq hno
          cases pd with
          | false =>
            have h86 : a.tmps.getD 86 undef = .bool false := hdep 86 (by kernel_rfl)
            refine .inl ⟨trivial, ?_⟩
            have g86 := gd h86
            go_simp
            exact Went6.same (HKR.out _ _) hS rfl
          | true =>
            have h86 : a.tmps.getD 86 undef = .bool true := hdep 86 (by kernel_rfl)
            refine .inl ⟨trivial, ?_⟩
            have g86 := gd h86
            go_simp
            exact Went6.same (HKR.out _ _) hS rfl
        refine EachOp.cons ?_ ?_
        · intro L a u hL hst hS hdep hq hno
          cases pd with
          | false =>
            have h87 : a.tmps.getD 87 undef = .bool false := hdep 87 (by kernel_rfl)
            exact .inr ⟨⟨87, by kernel_rfl, .inl h87⟩, hS, HKR.out _ _, fun t e => by injection e with e; subst e; first | rfl | exact ⟨_, rfl, rfl⟩⟩
          | true =>
            have h12 : a.tmps.getD 12 undef = .pointer (some ⟨t12, 0, none⟩) := hst.out 12 (by kernel_rfl)
            have h87 : a.tmps.getD 87 undef = .bool true := hdep 87 (by kernel_rfl)
            refine .inl ⟨⟨87, by kernel_rfl, h87⟩, ?_⟩
            clear h87
            have g12 := gd h12
            go_simp
            exact Went6.same (HKR.out _ _) hS rfl
        refine EachOp.cons ?_ ?_
        · intro L a u hL hst hS hdep hq hno
          cases pd with
          | false =>
            have h87 : a.tmps.getD 87 undef = .bool false := hdep 87 (by kernel_rfl)
            exact .inr ⟨⟨87, by kernel_rfl, .inl h87⟩, hS, HKR.out _ _, fun t e => by injection e with e; subst e; first | rfl | exact ⟨_, rfl, rfl⟩⟩
          | true =>
            have h88 : a.tmps.getD 88 undef = .pointer (some ⟨t12, 0, none⟩) := hdep 88 (by kernel_rfl)
            have h87 : a.tmps.getD 87 undef = .bool true := hdep 87 (by kernel_rfl)
            refine .inl ⟨⟨87, by kernel_rfl, h87⟩, ?_⟩
            clear h87
            have g88 := gd h88
            go_simp
            exact Went6.same (HKR.out _ _) hS rfl
        refine EachOp.cons ?_ ?_
        · intro L a u hL hst hS hdep hq hno
          cases pd with
          | false =>
            have h87 : a.tmps.getD 87 undef = .bool false := hdep 87 (by kernel_rfl)
            exact .inr ⟨⟨87, by kernel_rfl, .inl h87⟩, hS, HKR.out _ _, fun t e => by injection e with e; subst e; first | rfl | exact ⟨_, rfl, rfl⟩⟩
          | true =>
            have h89 : a.tmps.getD 89 undef = .pointer (some ⟨t12, 2, none⟩) := hdep 89 (by kernel_rfl)
            have h87 : a.tmps.getD 87 undef = .bool true := hdep 87 (by kernel_rfl)
            refine .inl ⟨⟨87, by kernel_rfl, h87⟩, ?_⟩
            clear h87
            have g89 := gd h89
            have yy := (HCE.out u hS).1.2.2
            go_simp
            exact Went6.same (HKR.out _ _) hS rfl
        refine EachOp.cons ?_ ?_
        · intro L a u hL hst hS hdep hq hno
          cases pd with
          | false =>
            have h87 : a.tmps.getD 87 undef = .bool false := hdep 87 (by kernel_rfl)
            exact .inr ⟨⟨87, by kernel_rfl, .inl h87⟩, hS, HKR.out _ _, fun t e => by injection e with e; subst e; first | rfl | exact ⟨_, rfl, rfl⟩⟩
          | true =>
            have h5 : a.tmps.getD 5 undef = .pointer (some ⟨bc, 0, none⟩) := hst.out 5 (by kernel_rfl)
            have h87 : a.tmps.getD 87 undef = .bool true := hdep 87 (by kernel_rfl)
            refine .inl ⟨⟨87, by kernel_rfl, h87⟩, ?_⟩
            clear h87
            have g5 := gd h5
            go_simp
            exact Went6.same (HKR.out _ _) hS rfl
        refine EachOp.cons ?_ ?_
        · intro L a u hL hst hS hdep hq hno
          cases pd with
          | false =>
            have h87 : a.tmps.getD 87 undef = .bool false := hdep 87 (by kernel_rfl)
            exact .inr ⟨⟨87, by kernel_rfl, .inl h87⟩, hS, HKR.out _ _, fun t e => by injection e with e; subst e; first | rfl | exact ⟨_, rfl, rfl⟩⟩
          | true =>
            have h11 : a.tmps.getD 11 undef = .pointer (some ⟨t6, 0, none⟩) := hst.out 11 (by kernel_rfl)
            have h87 : a.tmps.getD 87 undef = .bool true := hdep 87 (by kernel_rfl)
            refine .inl ⟨⟨87, by kernel_rfl, h87⟩, ?_⟩
            clear h87
            have g11 := gd h11
            go_simp
            exact Went6.same (HKR.out _ _) hS rfl
        refine EachOp.cons ?_ ?_
        · intro L a u hL hst hS hdep hq hno
          cases pd with
          | false =>
            have h87 : a.tmps.getD 87 undef = .bool false := hdep 87 (by kernel_rfl)
            exact .inr ⟨⟨87, by kernel_rfl, .inl h87⟩, hS, HKR.out _ _, fun t e => by injection e with e; subst e; first | rfl | exact ⟨_, rfl, rfl⟩⟩
          | true =>
            have h92 : a.tmps.getD 92 undef = .pointer (some ⟨t6, 1, none⟩) := hdep 92 (by kernel_rfl)
            have h87 : a.tmps.getD 87 undef = .bool true := hdep 87 (by kernel_rfl)
            refine .inl ⟨⟨87, by kernel_rfl, h87⟩, ?_⟩
            clear h87
            have g92 := gd h92
            have yy := (HCE.out u hS).2.2
            go_simp
            exact Went6.same (HKR.out _ _) hS rfl
        refine EachOp.cons ?_ ?_
        · intro L a u hL hst hS hdep hq hno
          cases pd with
          | false =>
            have h87 : a.tmps.getD 87 undef = .bool false := hdep 87 (by kernel_rfl)
            exact .inr ⟨⟨87, by kernel_rfl, .inl h87⟩, hS, HKR.out _ _, fun t e => by injection e with e; subst e; first | rfl | exact ⟨_, rfl, rfl⟩⟩
          | true =>
            have h91 : a.tmps.getD 91 undef = .pointer (some ⟨bc, 0, none⟩) := hdep 91 (by kernel_rfl)
            have h93 : a.tmps.getD 93 undef = .int .i64 x.nd := hdep 93 (by kernel_rfl)
            have h87 : a.tmps.getD 87 undef = .bool true := hdep 87 (by kernel_rfl)
            refine .inl ⟨⟨87, by kernel_rfl, h87⟩, ?_⟩
            clear h87
            have g91 := gd h91
            have g93 := gd h93
            go_simp
            refine (HLG.out _ _ _ _ _ ((HGN.out u).1 hS)).mono ?_
            rintro e' u' ⟨A, m, d, ⟨rfl, _⟩, h2⟩
            have hm : m = la := (h2.lr (.head _)).len.symm.trans HLA.out
            subst hm
            exact Went6.next ((HGN.out _).2 (h2.less (fun _ h => h) (fun _ h => h) (fun _ h => .tail _ h) (fun _ h => h))) trivial ⟨_, rfl, A, d, rfl⟩
        refine EachOp.cons ?_ ?_
        · intro L a u hL hst hS hdep hq hno
          cases pd with
          | false =>
            have h87 : a.tmps.getD 87 undef = .bool false := hdep 87 (by kernel_rfl)
            exact .inr ⟨⟨87, by kernel_rfl, .inl h87⟩, hS, HKR.out _ _, fun t e => by injection e with e; subst e; first | rfl | exact ⟨_, rfl, rfl⟩⟩
          | true =>
            obtain ⟨V94, h94, A94, d94, rfl⟩ := hdep 94 (by kernel_rfl)
            have h87 : a.tmps.getD 87 undef = .bool true := hdep 87 (by kernel_rfl)
            refine .inl ⟨⟨87, by kernel_rfl, h87⟩, ?_⟩
            clear h87
            have g94 := gd h94
            go_simp
            exact Went6.same (HKR.out _ _) hS rfl
        refine EachOp.cons ?_ ?_
        · intro L a u hL hst hS hdep hq hno
          cases pd with
          | false =>
            have h87 : a.tmps.getD 87 undef = .bool false := hdep 87 (by kernel_rfl)
            exact .inr ⟨⟨87, by kernel_rfl, .inl h87⟩, hS, HKR.out _ _, fun t e => by injection e with e; subst e; first | rfl | exact ⟨_, rfl, rfl⟩⟩
          | true =>
            have h95 : a.tmps.getD 95 undef = .int .i64 la := hdep 95 (by kernel_rfl)
            have h87 : a.tmps.getD 87 undef = .bool true := hdep 87 (by kernel_rfl)
            refine .inl ⟨⟨87, by kernel_rfl, h87⟩, ?_⟩
            clear h87
            have g95 := gd h95
            have yy := hwl
            go_simp
            exact Went6.same (HKR.out _ _) hS rfl
        refine EachOp.cons ?_ ?_
        · intro L a u hL hst hS hdep hq hno
          cases pd with
          | false =>
            cases ee with
            | false =>
              have h87 : a.tmps.getD 87 undef = .bool false := hdep 87 (by kernel_rfl)
              exact .inr ⟨⟨87, by kernel_rfl, .inl h87⟩, hS, HKR.out _ _, fun t e => by injection e with e; subst e; first | rfl | exact ⟨_, rfl, rfl⟩⟩
            | true =>
              have h87 : a.tmps.getD 87 undef = .bool false := hdep 87 (by kernel_rfl)
              exact .inr ⟨⟨87, by kernel_rfl, .inl h87⟩, hS, HKR.out _ _, fun t e => by injection e with e; subst e; first | rfl | exact ⟨_, rfl, rfl⟩⟩
          | true =>
            cases ee with
            | false =>
              have h90 : a.tmps.getD 90 undef = .int .u64 pl := hdep 90 (by kernel_rfl)
              have h96 : a.tmps.getD 96 undef = .int .u64 la := hdep 96 (by kernel_rfl)
              have h87 : a.tmps.getD 87 undef = .bool true := hdep 87 (by kernel_rfl)
              refine .inl ⟨⟨87, by kernel_rfl, h87⟩, ?_⟩
              clear h87
              have g90 := gd h90
              have g96 := gd h96
              go_simp
              first | exact Went6.same (HKR.out _ _) hS rfl | exact Went6.same (HKR.out _ _) hS (congrArg Value.bool HEE.out)
            | true =>
              have h90 : a.tmps.getD 90 undef = .int .u64 pl := hdep 90 (by kernel_rfl)
              have h96 : a.tmps.getD 96 undef = .int .u64 la := hdep 96 (by kernel_rfl)
              have h87 : a.tmps.getD 87 undef = .bool true := hdep 87 (by kernel_rfl)
              refine .inl ⟨⟨87, by kernel_rfl, h87⟩, ?_⟩
              clear h87
              have g90 := gd h90
              have g96 := gd h96
              go_simp
              first | exact Went6.same (HKR.out _ _) hS rfl | exact Went6.same (HKR.out _ _) hS (congrArg Value.bool HEE.out)
        refine EachOp.cons ?_ ?_
        · intro L a u hL hst hS hdep hq hno
          cases pd with
          | false =>
            cases ee with
            | false =>
              cases bb with
              | false =>
                have h87 : a.tmps.getD 87 undef = .bool false := hdep 87 (by kernel_rfl)
                have h97 : a.tmps.getD 97 undef = undef := hdep 97 (by kernel_rfl)
                refine .inl ⟨trivial, ?_⟩
                have g87 := gd h87
                have g97 := gd h97
                go_simp
                exact Went6.same (HKR.out _ _) hS rfl
              | true =>
                exact absurd HBB.out (by decide)
            | true =>
              cases bb with
              | false =>
                have h87 : a.tmps.getD 87 undef = .bool false := hdep 87 (by kernel_rfl)
                have h97 : a.tmps.getD 97 undef = undef := hdep 97 (by kernel_rfl)
                refine .inl ⟨trivial, ?_⟩
                have g87 := gd h87
                have g97 := gd h97
                go_simp
                exact Went6.same (HKR.out _ _) hS rfl
              | true =>
                exact absurd HBB.out (by decide)
          | true =>
            cases ee with
            | false =>
              cases bb with
              | false =>
                have h87 : a.tmps.getD 87 undef = .bool true := hdep 87 (by kernel_rfl)
                have h97 : a.tmps.getD 97 undef = .bool false := hdep 97 (by kernel_rfl)
                refine .inl ⟨trivial, ?_⟩
                have g87 := gd h87
                have g97 := gd h97
                go_simp
                exact Went6.same (HKR.out _ _) hS rfl
              | true =>
                exact absurd HBB.out (by decide)
            | true =>
              cases bb with
              | false =>
                exact absurd HBB.out (by decide)
              | true =>
                have h87 : a.tmps.getD 87 undef = .bool true := hdep 87 (by kernel_rfl)
                have h97 : a.tmps.getD 97 undef = .bool true := hdep 97 (by kernel_rfl)
                refine .inl ⟨trivial, ?_⟩
                have g87 := gd h87
                have g97 := gd h97
                go_simp
                exact Went6.same (HKR.out _ _) hS rfl
        exact EachOp.nil
      · intro L a u hLs hst hS hdep
        have h60 : a.tmps.getD 60 undef = .pointer (some ⟨t6, 0, none⟩) := hdep 60 (by kernel_rfl)
        have h61 : a.tmps.getD 61 undef = .int .i64 x.d := hdep 61 (by kernel_rfl)
        have h62 : a.tmps.getD 62 undef = .bool ba := hdep 62 (by kernel_rfl)
        have h63 : a.tmps.getD 63 undef = .bool ba := hdep 63 (by kernel_rfl)
        have h64 : a.tmps.getD 64 undef = (bif ba then .pointer (some ⟨t12, 0, none⟩) else undef) := hdep 64 (by kernel_rfl)
        have h65 : a.tmps.getD 65 undef = (bif ba then .pointer (some ⟨t12, 0, none⟩) else undef) := hdep 65 (by kernel_rfl)
        have h66 : a.tmps.getD 66 undef = (bif ba then .int .i64 re else undef) := hdep 66 (by kernel_rfl)
        have h67 : a.tmps.getD 67 undef = (bif ba then .bool bz else undef) := hdep 67 (by kernel_rfl)
        have h68 : a.tmps.getD 68 undef = .bool ab := hdep 68 (by kernel_rfl)
        have h69 : a.tmps.getD 69 undef = .bool ab := hdep 69 (by kernel_rfl)
        have h70 : a.tmps.getD 70 undef = (bif ab then .int .i64 is else undef) := hdep 70 (by kernel_rfl)
        have h71 : a.tmps.getD 71 undef = (bif ab then .bool i2 else undef) := hdep 71 (by kernel_rfl)
        have h72 : a.tmps.getD 72 undef = (bif ab then .bool i2 else undef) := hdep 72 (by kernel_rfl)
        have h73 : a.tmps.getD 73 undef = (bif ab then (bif i2 then undef else .int .i64 is) else undef) := hdep 73 (by kernel_rfl)
        have h74 : a.tmps.getD 74 undef = (bif ab then (bif i2 then undef else .bool i7) else undef) := hdep 74 (by kernel_rfl)
        have h75 : a.tmps.getD 75 undef = (bif ab then .bool j7 else undef) := hdep 75 (by kernel_rfl)
        have h76 : a.tmps.getD 76 undef = (bif ab then .bool j7 else undef) := hdep 76 (by kernel_rfl)
        have h77 : a.tmps.getD 77 undef = (bif ab then (bif j7 then undef else .int .i64 is) else undef) := hdep 77 (by kernel_rfl)
        have h78 : a.tmps.getD 78 undef = (bif ab then (bif j7 then undef else .bool i4) else undef) := hdep 78 (by kernel_rfl)
        have h79 : a.tmps.getD 79 undef = (bif ab then .bool ii else undef) := hdep 79 (by kernel_rfl)
        have h80 : a.tmps.getD 80 undef = .bool pq := hdep 80 (by kernel_rfl)
        have h81 : a.tmps.getD 81 undef = .bool pq := hdep 81 (by kernel_rfl)
        have h82 : a.tmps.getD 82 undef = (bif pq then .pointer (some ⟨t12, 0, none⟩) else undef) := hdep 82 (by kernel_rfl)
        have h83 : a.tmps.getD 83 undef = (bif pq then .pointer (some ⟨t12, 2, none⟩) else undef) := hdep 83 (by kernel_rfl)
        have h84 : a.tmps.getD 84 undef = (bif pq then .int .u64 pl else undef) := hdep 84 (by kernel_rfl)
        have h85 : a.tmps.getD 85 undef = (bif pq then .bool dd else undef) := hdep 85 (by kernel_rfl)
        have h86 : a.tmps.getD 86 undef = .bool pd := hdep 86 (by kernel_rfl)
        have h87 : a.tmps.getD 87 undef = .bool pd := hdep 87 (by kernel_rfl)
        have h88 : a.tmps.getD 88 undef = (bif pd then .pointer (some ⟨t12, 0, none⟩) else undef) := hdep 88 (by kernel_rfl)
        have h89 : a.tmps.getD 89 undef = (bif pd then .pointer (some ⟨t12, 2, none⟩) else undef) := hdep 89 (by kernel_rfl)
        have h90 : a.tmps.getD 90 undef = (bif pd then .int .u64 pl else undef) := hdep 90 (by kernel_rfl)
        have h91 : a.tmps.getD 91 undef = (bif pd then .pointer (some ⟨bc, 0, none⟩) else undef) := hdep 91 (by kernel_rfl)
        have h92 : a.tmps.getD 92 undef = (bif pd then .pointer (some ⟨t6, 1, none⟩) else undef) := hdep 92 (by kernel_rfl)
        have h93 : a.tmps.getD 93 undef = (bif pd then .int .i64 x.nd else undef) := hdep 93 (by kernel_rfl)
        obtain ⟨V94, h94, _⟩ := hdep 94 (by kernel_rfl)
        have h95 : a.tmps.getD 95 undef = (bif pd then .int .i64 la else undef) := hdep 95 (by kernel_rfl)
        have h96 : a.tmps.getD 96 undef = (bif pd then .int .u64 la else undef) := hdep 96 (by kernel_rfl)
        have h97 : a.tmps.getD 97 undef = (bif pd then .bool ee else undef) := hdep 97 (by kernel_rfl)
        have h98 : a.tmps.getD 98 undef = .bool bb := hdep 98 (by kernel_rfl)
        have hfr := hst.frame [(60, .pointer (some ⟨t6, 0, none⟩)), (61, .int .i64 x.d), (62, .bool ba), (63, .bool ba), (64, (bif ba then .pointer (some ⟨t12, 0, none⟩) else undef)), (65, (bif ba then .pointer (some ⟨t12, 0, none⟩) else undef)), (66, (bif ba then .int .i64 re else undef)), (67, (bif ba then .bool bz else undef)), (68, .bool ab), (69, .bool ab), (70, (bif ab then .int .i64 is else undef)), (71, (bif ab then .bool i2 else undef)), (72, (bif ab then .bool i2 else undef)), (73, (bif ab then (bif i2 then undef else .int .i64 is) else undef)), (74, (bif ab then (bif i2 then undef else .bool i7) else undef)), (75, (bif ab then .bool j7 else undef)), (76, (bif ab then .bool j7 else undef)), (77, (bif ab then (bif j7 then undef else .int .i64 is) else undef)), (78, (bif ab then (bif j7 then undef else .bool i4) else undef)), (79, (bif ab then .bool ii else undef)), (80, .bool pq), (81, .bool pq), (82, (bif pq then .pointer (some ⟨t12, 0, none⟩) else undef)), (83, (bif pq then .pointer (some ⟨t12, 2, none⟩) else undef)), (84, (bif pq then .int .u64 pl else undef)), (85, (bif pq then .bool dd else undef)), (86, .bool pd), (87, .bool pd), (88, (bif pd then .pointer (some ⟨t12, 0, none⟩) else undef)), (89, (bif pd then .pointer (some ⟨t12, 2, none⟩) else undef)), (90, (bif pd then .int .u64 pl else undef)), (91, (bif pd then .pointer (some ⟨bc, 0, none⟩) else undef)), (92, (bif pd then .pointer (some ⟨t6, 1, none⟩) else undef)), (93, (bif pd then .int .i64 x.nd else undef)), (94, V94), (95, (bif pd then .int .i64 la else undef)), (96, (bif pd then .int .u64 la else undef)), (97, (bif pd then .bool ee else undef)), (98, .bool bb)] (by kernel_rfl) ⟨h60, h61, h62, h63, h64, h65, h66, h67, h68, h69, h70, h71, h72, h73, h74, h75, h76, h77, h78, h79, h80, h81, h82, h83, h84, h85, h86, h87, h88, h89, h90, h91, h92, h93, h94, h95, h96, h97, h98, trivial⟩
        clear hst hdep h60 h61 h62 h63 h64 h65 h66 h67 h68 h69 h70 h71 h72 h73 h74 h75 h76 h77 h78 h79 h80 h81 h82 h83 h84 h85 h86 h87 h88 h89 h90 h91 h92 h93 h94 h95 h96 h97 h98
        subst hfr
        simp only [List.foldl_cons, List.foldl_nil, List.setIfInBounds_toArray, List.set_cons_zero, List.set_cons_succ]
        have H10 := Lib.hid hS
        clear hS hLs
        go_upto_if 98 with fail
        go_cut [7] (fun s7 wx => ∃ (ws2 : List Wr16) (Aw2 : Option Addr) (nw2 cw2 : Nat), s7 = .slice Aw2 nw2 cw2 ∧ Hid (KI c ps2 ws2) ∧ Hid (ps2.length = np2 ∧ np2 ≤ k + 1 ∧ ws2.length = nw2 ∧ nw2 ≤ k + 1) ∧ Hid (St15 W (X bc c) (Two (CT cb) (Two (RowT 45 3 Ap2 np2 cp2 (ps2.flatMap prC1)) (RowT 71 4 Aw2 nw2 cw2 (ws2.flatMap wrC1)))) [] [] [] [] wx))
        case first =>
          cases bb with
          | true =>
            obtain ⟨rfl, rfl⟩ : pd = true ∧ ee = true := by simpa using HBB.out
            obtain ⟨rfl, rfl⟩ : pq = true ∧ dd = true := by simpa using HPD.out
            obtain ⟨rfl, rfl⟩ : ab = true ∧ ii = true := by simpa using HPQ.out
            obtain ⟨rfl, rfl⟩ : ba = true ∧ bz = true := by simpa using HAB.out
            have hd0 : x.d = 0 := by simpa using HA.out
            have hre0 : re = 0 := by simpa using HB.out
            have hpl0 : 0 < pl := by simpa using HDD.out
            have hpla : pl ≤ (la : Int) := by simpa using HEE.out
            have hisn : is ≠ 1 := fun e => by
              subst e
              have h2 : i2 = false := HI2.out.symm
              have h7 : i7 = false := HI7.out.symm
              have h4 : i4 = false := HI4.out.symm
              have h := HII.out
              rw [← HJ7.out, h2, h7, h4] at h
              cases h
            obtain ⟨yi, hyi⟩ : ∃ z, (pl - 1).toNat = z := ⟨_, rfl⟩
            have hyl : yi < (lgCu c x.nd).length := by rw [HLA.out]; omega
            have hyl2 : (yi : Int) < (la : Int) := by omega
            have hwy : IntKind.u64.wrap (pl - 1) = (yi : Int) := by rw [IntKind.wrap_u64]; omega
            obtain ⟨y, hy⟩ : ∃ z, (lgCu c x.nd)[yi] = z := ⟨_, rfl⟩
            have HYE := Lib.hid hy
            have HKI2 : Hid (KI c ps2 (ws ++ [(⟨y, rp, pl⟩ : Wr16)])) := Lib.hid (HKW2.out y hd0 hre0 hisn hpl0 (by rw [hyi, List.getElem?_eq_getElem hyl, hy]))
            obtain ⟨F17, hF17⟩ : ∃ F : Value → World → Prop, ∀ v u, F v u ↔ ∃ A d, v = .slice A (nw + 1) d ∧ St15 W (X bc c) (Two (CT cb) (Two (RowT 45 3 Ap2 np2 cp2 (ps2.flatMap prC1)) (RowT 71 4 A (nw + 1) d ((ws ++ [(⟨y, rp, pl⟩ : Wr16)]).flatMap wrC1)))) [] [] [] [] u := ⟨_, fun _ _ => Iff.rfl⟩
            have HF17 := Lib.hid hF17
            have HD17 := Lib.hid ((HGN.out _).1 H10.out)
            obtain ⟨j0, hj, hj0, hj1, hj2⟩ := info_parts wrinfo16
            have hnw1 : nw + 1 ≤ 10000 := by have := HLP.out.2.2.2; omega
            have hd0b : (x.d == 0) = true := by rw [hd0]; rfl
            clear hF17 hy hd0 hre0 hpla hisn hyi HGN HCE HG9 HKW2 HKP H10 HA HB HAB HI2 HI7 HI4 HJ7 HII HPQ HDD HPD HEE HBB
            go_wp2_with fail
            refine wp_region_specs7 (S := SK17 W (X bc c) (Two (CT cb) (Two (RowT 45 3 Ap2 np2 cp2 (ps2.flatMap prC1)) (RowT 71 4 Aw nw cw (ws.flatMap wrC1)))) [(t12, .cells #[.int .i64 re, .int .u64 rp, .int .u64 pl, .slice A5 m5 d5, .bool R.1.is, .int .u64 R.1.p.e, .int .i64 R.1.p.p, .int .u64 R.1.p.c, .int .i64 te, .int .i64 R.1.many] 41 (0, 0)), (t6, .cells #[.int .i64 x.d, .int .i64 x.nd, .int .i64 x.c, .int .i64 x.m, .int .u64 x.e, .bool x.rd, .string x.t] 34 (0, 0))] (.cells #[.int .u64 y.e, .string y.t, .int .u64 rp, .int .u64 pl] 71 (0, 0)) (lgCu c x.nd) la yi F17) (Kp := KeepT) (Sp := [(99, Stl.eq (.slice Aw nw cw)), (100, Stl.eq (.pointer (some ⟨bc, 0, none⟩))), (101, Stl.eq (.pointer (some ⟨t6, 1, none⟩))), (102, Stl.eq (.int .i64 x.nd)), (103, slA17 la), (104, Stl.eq (.pointer (some ⟨t12, 0, none⟩))), (105, Stl.eq (.pointer (some ⟨t12, 2, none⟩))), (106, Stl.eq (.int .u64 pl)), (107, Stl.eq (.int .u64 yi)), (108, ptA17), (109, Stl.eq (.agg #[.int .u64 y.e, .string y.t])), (110, Stl.eq (.pointer (some ⟨t12, 0, none⟩))), (111, Stl.eq (.pointer (some ⟨t12, 1, none⟩))), (112, Stl.eq (.int .u64 rp)), (113, Stl.eq (.pointer (some ⟨t12, 0, none⟩))), (114, Stl.eq (.pointer (some ⟨t12, 2, none⟩))), (115, Stl.eq (.int .u64 pl)), (116, Stl.eq (.agg #[.int .u64 y.e, .string y.t, .int .u64 rp, .int .u64 pl])), (117, oneA17), (118, slA17 (nw + 1)), (7, slA17 (nw + 1))]) (by kernel_rfl) (by kernel_rfl) ((by unfold SK17; exact HD17.out.next (kp_drewN u 1))) ?_ ?_
            · refine EachOp.cons ?_ ?_
              · intro L a u hL hst hS hdep hq hno
                have h7 : a.tmps.getD 7 undef = .slice Aw nw cw := hst.old 7 (by kernel_rfl)
                refine .inl ⟨trivial, ?_⟩
                have g7 := gd h7
                go_simp
                exact Went7.same (HKR.out _ _) (by have h := hS; unfold SK17 at h ⊢; rw [slots_ne (d := 99) (t := 7) rfl, slots_ne (d := 99) (t := 103) rfl, slots_ne (d := 99) (t := 108) rfl, slots_ne (d := 99) (t := 117) rfl, slots_ne (d := 99) (t := 118) rfl]; exact h) rfl
              refine EachOp.cons ?_ ?_
              · intro L a u hL hst hS hdep hq hno
                have h5 : a.tmps.getD 5 undef = .pointer (some ⟨bc, 0, none⟩) := hst.out 5 (by kernel_rfl)
                refine .inl ⟨trivial, ?_⟩
                have g5 := gd h5
                go_simp
                exact Went7.same (HKR.out _ _) (by have h := hS; unfold SK17 at h ⊢; rw [slots_ne (d := 100) (t := 7) rfl, slots_ne (d := 100) (t := 103) rfl, slots_ne (d := 100) (t := 108) rfl, slots_ne (d := 100) (t := 117) rfl, slots_ne (d := 100) (t := 118) rfl]; exact h) rfl
              refine EachOp.cons ?_ ?_
              · intro L a u hL hst hS hdep hq hno
                have h11 : a.tmps.getD 11 undef = .pointer (some ⟨t6, 0, none⟩) := hst.out 11 (by kernel_rfl)
                refine .inl ⟨trivial, ?_⟩
                have g11 := gd h11
                go_simp
                exact Went7.same (HKR.out _ _) (by have h := hS; unfold SK17 at h ⊢; rw [slots_ne (d := 101) (t := 7) rfl, slots_ne (d := 101) (t := 103) rfl, slots_ne (d := 101) (t := 108) rfl, slots_ne (d := 101) (t := 117) rfl, slots_ne (d := 101) (t := 118) rfl]; exact h) rfl
              refine EachOp.cons ?_ ?_
              · intro L a u hL hst hS hdep hq hno
                have h101 : a.tmps.getD 101 undef = .pointer (some ⟨t6, 1, none⟩) := hdep 101 (by kernel_rfl)
                refine .inl ⟨trivial, ?_⟩
                have g101 := gd h101
                obtain ⟨m6, _⟩ := cellsAt ((hS.st (hno 12 20 (by kernel_rfl)) (hno 12 19 (by kernel_rfl))).at_ (.tail _ (.head _))) 1 (v := .int .i64 x.nd) rfl
                go_simp
                exact Went7.same (HKR.out _ _) (by have h := hS; unfold SK17 at h ⊢; rw [slots_ne (d := 102) (t := 7) rfl, slots_ne (d := 102) (t := 103) rfl, slots_ne (d := 102) (t := 108) rfl, slots_ne (d := 102) (t := 117) rfl, slots_ne (d := 102) (t := 118) rfl]; exact h) rfl
              refine EachOp.cons ?_ ?_
              · intro L a u hL hst hS hdep hq hno
                have h100 : a.tmps.getD 100 undef = .pointer (some ⟨bc, 0, none⟩) := hdep 100 (by kernel_rfl)
                have h102 : a.tmps.getD 102 undef = .int .i64 x.nd := hdep 102 (by kernel_rfl)
                refine .inl ⟨trivial, ?_⟩
                have g100 := gd h100
                have g102 := gd h102
                go_simp
                have c20 : L 20 = false := hno 12 20 (by kernel_rfl)
                have c19 : L 19 = false := hno 12 19 (by kernel_rfl)
                have c18 : L 18 = false := hno 12 18 (by kernel_rfl)
                have c10 : L 10 = false := hno 12 10 (by kernel_rfl)
                have c9 : L 9 = false := hno 12 9 (by kernel_rfl)
                have c4 : L 4 = false := hL
                have hs0 := hS
                unfold SK17 at hs0
                simp only [c20, c19, c18, c10, c9, c4, cond_false] at hs0
                refine (HLG.out _ _ _ _ _ hs0).mono ?_
                rintro e' u' ⟨A, m, d, ⟨rfl, _⟩, h2⟩
                have hm : m = la := (h2.lr (.head _)).len.symm.trans HLA.out
                subst hm
                refine Went7.next ?_ trivial ⟨A, d, rfl⟩
                have d20 : doneB L 4 20 = false := c20
                have d19 : doneB L 4 19 = false := c19
                have d18 : doneB L 4 18 = false := c18
                have d10 : doneB L 4 10 = false := c10
                have d9 : doneB L 4 9 = false := c9
                have d4 : doneB L 4 4 = true := done_same
                have hsz : 103 < a.tmps.size := by rw [hst.size]; exact Nat.le_of_ble_eq_true (by kernel_rfl)
                unfold SK17
                simp only [d20, d19, d18, d10, d9, d4, cond_true, cond_false]
                exact ⟨A, d, slots_eq hsz, h2⟩
              refine EachOp.cons ?_ ?_
              · intro L a u hL hst hS hdep hq hno
                have h12 : a.tmps.getD 12 undef = .pointer (some ⟨t12, 0, none⟩) := hst.out 12 (by kernel_rfl)
                refine .inl ⟨trivial, ?_⟩
                have g12 := gd h12
                go_simp
                exact Went7.same (HKR.out _ _) (by have h := hS; unfold SK17 at h ⊢; rw [slots_ne (d := 104) (t := 7) rfl, slots_ne (d := 104) (t := 103) rfl, slots_ne (d := 104) (t := 108) rfl, slots_ne (d := 104) (t := 117) rfl, slots_ne (d := 104) (t := 118) rfl]; exact h) rfl
              refine EachOp.cons ?_ ?_
              · intro L a u hL hst hS hdep hq hno
                have h104 : a.tmps.getD 104 undef = .pointer (some ⟨t12, 0, none⟩) := hdep 104 (by kernel_rfl)
                refine .inl ⟨trivial, ?_⟩
                have g104 := gd h104
                go_simp
                exact Went7.same (HKR.out _ _) (by have h := hS; unfold SK17 at h ⊢; rw [slots_ne (d := 105) (t := 7) rfl, slots_ne (d := 105) (t := 103) rfl, slots_ne (d := 105) (t := 108) rfl, slots_ne (d := 105) (t := 117) rfl, slots_ne (d := 105) (t := 118) rfl]; exact h) rfl
              refine EachOp.cons ?_ ?_
              · intro L a u hL hst hS hdep hq hno
                have h105 : a.tmps.getD 105 undef = .pointer (some ⟨t12, 2, none⟩) := hdep 105 (by kernel_rfl)
                refine .inl ⟨trivial, ?_⟩
                have g105 := gd h105
                obtain ⟨m12, _⟩ := cellsAt ((hS.st (hno 12 20 (by kernel_rfl)) (hno 12 19 (by kernel_rfl))).at_ (.head _)) 2 (v := .int .u64 pl) rfl
                go_simp
                exact Went7.same (HKR.out _ _) (by have h := hS; unfold SK17 at h ⊢; rw [slots_ne (d := 106) (t := 7) rfl, slots_ne (d := 106) (t := 103) rfl, slots_ne (d := 106) (t := 108) rfl, slots_ne (d := 106) (t := 117) rfl, slots_ne (d := 106) (t := 118) rfl]; exact h) rfl
              refine EachOp.cons ?_ ?_
              · intro L a u hL hst hS hdep hq hno
                have h106 : a.tmps.getD 106 undef = .int .u64 pl := hdep 106 (by kernel_rfl)
                refine .inl ⟨trivial, ?_⟩
                have g106 := gd h106
                have yy := hwy
                go_simp
                exact Went7.same (HKR.out _ _) (by have h := hS; unfold SK17 at h ⊢; rw [slots_ne (d := 107) (t := 7) rfl, slots_ne (d := 107) (t := 103) rfl, slots_ne (d := 107) (t := 108) rfl, slots_ne (d := 107) (t := 117) rfl, slots_ne (d := 107) (t := 118) rfl]; exact h) rfl
              refine EachOp.cons ?_ ?_
              · intro L a u hL hst hS hdep hq hno
                obtain ⟨A103, d103, h103⟩ := hdep 103 (by kernel_rfl)
                have h107 : a.tmps.getD 107 undef = .int .u64 yi := hdep 107 (by kernel_rfl)
                refine .inl ⟨trivial, ?_⟩
                have g103 := gd h103
                have g107 := gd h107
                have c20 : L 20 = false := hno 12 20 (by kernel_rfl)
                have c19 : L 19 = false := hno 12 19 (by kernel_rfl)
                have c18 : L 18 = false := hno 12 18 (by kernel_rfl)
                have c10 : L 10 = false := hno 12 10 (by kernel_rfl)
                have c9 : L 9 = false := hL
                have c4 : L 4 = true := hq 12 4 (by kernel_rfl)
                have hs0 := hS
                unfold SK17 at hs0
                simp only [c20, c19, c18, c10, c9, c4, cond_true, cond_false] at hs0
                obtain ⟨A, d, ht, hs1⟩ := hs0
                have hv : Value.slice A103 la d103 = .slice A la d := h103.symm.trans ht
                injection hv with e1 e2 e3
                subst e1 e3
                obtain ⟨ad, hA, _, _⟩ := (hs1.lr (.head _)).at_ hyl
                dsimp only at hA
                subst hA
                have hi0 : (0 : Int) ≤ (yi : Int) := by omega
                have hi1 := hyl2
                go_simp
                refine Went7.next ?_ trivial ⟨_, rfl⟩
                have d20 : doneB L 9 20 = false := c20
                have d19 : doneB L 9 19 = false := c19
                have d18 : doneB L 9 18 = false := c18
                have d10 : doneB L 9 10 = false := c10
                have d9 : doneB L 9 9 = true := done_same
                have hsz : 108 < a.tmps.size := by rw [hst.size]; exact Nat.le_of_ble_eq_true (by kernel_rfl)
                unfold SK17
                simp only [d20, d19, d18, d10, d9, cond_true, cond_false]
                exact ⟨ad, slots_eq hsz, hs1⟩
              refine EachOp.cons ?_ ?_
              · intro L a u hL hst hS hdep hq hno
                obtain ⟨p108, h108⟩ := hdep 108 (by kernel_rfl)
                refine .inl ⟨trivial, ?_⟩
                have g108 := gd h108
                have c20 : L 20 = false := hno 12 20 (by kernel_rfl)
                have c19 : L 19 = false := hno 12 19 (by kernel_rfl)
                have c18 : L 18 = false := hno 12 18 (by kernel_rfl)
                have c10 : L 10 = false := hL
                have c9 : L 9 = true := hq 12 9 (by kernel_rfl)
                have hs0 := hS
                unfold SK17 at hs0
                simp only [c20, c19, c18, c10, c9, cond_true, cond_false] at hs0
                obtain ⟨ad, ht, hs1⟩ := hs0
                have hv : Value.pointer (some p108) = .pointer (some (ad.add (yi * 2))) := h108.symm.trans ht
                injection hv with e1
                injection e1 with e1
                subst e1
                obtain ⟨ad', h1, _, h2⟩ := (hs1.lr (.head _)).at_ hyl
                dsimp only at h1
                injection h1 with h1
                subst h1
                obtain ⟨a1, a2⟩ := h2 u (Below.refl _ _)
                rw [HYE.out] at a1 a2
                go_simp
                refine Went7.next ?_ trivial rfl
                have d20 : doneB L 10 20 = false := c20
                have d19 : doneB L 10 19 = false := c19
                have d18 : doneB L 10 18 = false := c18
                have d10 : doneB L 10 10 = true := done_same
                unfold SK17
                simp only [d20, d19, d18, d10, cond_true, cond_false]
                exact hs1.less (fun _ h => h) (fun _ h => h) (fun _ h => nomatch h) (fun _ h => h)
              refine EachOp.cons ?_ ?_
              · intro L a u hL hst hS hdep hq hno
                have h12 : a.tmps.getD 12 undef = .pointer (some ⟨t12, 0, none⟩) := hst.out 12 (by kernel_rfl)
                refine .inl ⟨trivial, ?_⟩
                have g12 := gd h12
                go_simp
                exact Went7.same (HKR.out _ _) (by have h := hS; unfold SK17 at h ⊢; rw [slots_ne (d := 110) (t := 7) rfl, slots_ne (d := 110) (t := 103) rfl, slots_ne (d := 110) (t := 108) rfl, slots_ne (d := 110) (t := 117) rfl, slots_ne (d := 110) (t := 118) rfl]; exact h) rfl
              refine EachOp.cons ?_ ?_
              · intro L a u hL hst hS hdep hq hno
                have h110 : a.tmps.getD 110 undef = .pointer (some ⟨t12, 0, none⟩) := hdep 110 (by kernel_rfl)
                refine .inl ⟨trivial, ?_⟩
                have g110 := gd h110
                go_simp
                exact Went7.same (HKR.out _ _) (by have h := hS; unfold SK17 at h ⊢; rw [slots_ne (d := 111) (t := 7) rfl, slots_ne (d := 111) (t := 103) rfl, slots_ne (d := 111) (t := 108) rfl, slots_ne (d := 111) (t := 117) rfl, slots_ne (d := 111) (t := 118) rfl]; exact h) rfl
              refine EachOp.cons ?_ ?_
              · intro L a u hL hst hS hdep hq hno
                have h111 : a.tmps.getD 111 undef = .pointer (some ⟨t12, 1, none⟩) := hdep 111 (by kernel_rfl)
                refine .inl ⟨trivial, ?_⟩
                have g111 := gd h111
                obtain ⟨m12, _⟩ := cellsAt ((hS.st (hno 12 20 (by kernel_rfl)) (hno 12 19 (by kernel_rfl))).at_ (.head _)) 1 (v := .int .u64 rp) rfl
                go_simp
                exact Went7.same (HKR.out _ _) (by have h := hS; unfold SK17 at h ⊢; rw [slots_ne (d := 112) (t := 7) rfl, slots_ne (d := 112) (t := 103) rfl, slots_ne (d := 112) (t := 108) rfl, slots_ne (d := 112) (t := 117) rfl, slots_ne (d := 112) (t := 118) rfl]; exact h) rfl
              refine EachOp.cons ?_ ?_
              · intro L a u hL hst hS hdep hq hno
                have h12 : a.tmps.getD 12 undef = .pointer (some ⟨t12, 0, none⟩) := hst.out 12 (by kernel_rfl)
                refine .inl ⟨trivial, ?_⟩
                have g12 := gd h12
                go_simp
                exact Went7.same (HKR.out _ _) (by have h := hS; unfold SK17 at h ⊢; rw [slots_ne (d := 113) (t := 7) rfl, slots_ne (d := 113) (t := 103) rfl, slots_ne (d := 113) (t := 108) rfl, slots_ne (d := 113) (t := 117) rfl, slots_ne (d := 113) (t := 118) rfl]; exact h) rfl
              refine EachOp.cons ?_ ?_
              · intro L a u hL hst hS hdep hq hno
                have h113 : a.tmps.getD 113 undef = .pointer (some ⟨t12, 0, none⟩) := hdep 113 (by kernel_rfl)
                refine .inl ⟨trivial, ?_⟩
                have g113 := gd h113
                go_simp
                exact Went7.same (HKR.out _ _) (by have h := hS; unfold SK17 at h ⊢; rw [slots_ne (d := 114) (t := 7) rfl, slots_ne (d := 114) (t := 103) rfl, slots_ne (d := 114) (t := 108) rfl, slots_ne (d := 114) (t := 117) rfl, slots_ne (d := 114) (t := 118) rfl]; exact h) rfl
              refine EachOp.cons ?_ ?_
              · intro L a u hL hst hS hdep hq hno
                have h114 : a.tmps.getD 114 undef = .pointer (some ⟨t12, 2, none⟩) := hdep 114 (by kernel_rfl)
                refine .inl ⟨trivial, ?_⟩
                have g114 := gd h114
                obtain ⟨m12, _⟩ := cellsAt ((hS.st (hno 12 20 (by kernel_rfl)) (hno 12 19 (by kernel_rfl))).at_ (.head _)) 2 (v := .int .u64 pl) rfl
                go_simp
                exact Went7.same (HKR.out _ _) (by have h := hS; unfold SK17 at h ⊢; rw [slots_ne (d := 115) (t := 7) rfl, slots_ne (d := 115) (t := 103) rfl, slots_ne (d := 115) (t := 108) rfl, slots_ne (d := 115) (t := 117) rfl, slots_ne (d := 115) (t := 118) rfl]; exact h) rfl
              refine EachOp.cons ?_ ?_
              · intro L a u hL hst hS hdep hq hno
                have h109 : a.tmps.getD 109 undef = .agg #[.int .u64 y.e, .string y.t] := hdep 109 (by kernel_rfl)
                have h112 : a.tmps.getD 112 undef = .int .u64 rp := hdep 112 (by kernel_rfl)
                have h115 : a.tmps.getD 115 undef = .int .u64 pl := hdep 115 (by kernel_rfl)
                refine .inl ⟨trivial, ?_⟩
                have g109 := gd h109
                have g112 := gd h112
                have g115 := gd h115
                go_simp
                exact Went7.same (HKR.out _ _) (by have h := hS; unfold SK17 at h ⊢; rw [slots_ne (d := 116) (t := 7) rfl, slots_ne (d := 116) (t := 103) rfl, slots_ne (d := 116) (t := 108) rfl, slots_ne (d := 116) (t := 117) rfl, slots_ne (d := 116) (t := 118) rfl]; exact h) rfl
              refine EachOp.cons ?_ ?_
              · intro L a u hL hst hS hdep hq hno
                have h116 : a.tmps.getD 116 undef = .agg #[.int .u64 y.e, .string y.t, .int .u64 rp, .int .u64 pl] := hdep 116 (by kernel_rfl)
                refine .inl ⟨trivial, ?_⟩
                have g116 := gd h116
                go_simp
                have c20 : L 20 = false := hno 12 20 (by kernel_rfl)
                have c19 : L 19 = false := hno 12 19 (by kernel_rfl)
                have c18 : L 18 = false := hL
                have c10 : L 10 = true := hq 12 10 (by kernel_rfl)
                have hs0 := hS
                unfold SK17 at hs0
                simp only [c20, c19, c18, c10, cond_true, cond_false] at hs0
                refine Went7.next ?_ trivial ⟨_, rfl⟩
                have d20 : doneB L 18 20 = false := c20
                have d19 : doneB L 18 19 = false := c19
                have d18 : doneB L 18 18 = true := done_same
                have hsz : 117 < a.tmps.size := by rw [hst.size]; exact Nat.le_of_ble_eq_true (by kernel_rfl)
                unfold SK17
                simp only [d20, d19, d18, cond_true, cond_false]
                exact ⟨u.heap.size, slots_eq hsz, hs0.mark _ rfl rfl⟩
              refine EachOp.cons ?_ ?_
              · intro L a u hL hst hS hdep hq hno
                have h99 : a.tmps.getD 99 undef = .slice Aw nw cw := hdep 99 (by kernel_rfl)
                obtain ⟨z117, h117⟩ := hdep 117 (by kernel_rfl)
                refine .inl ⟨trivial, ?_⟩
                have g99 := gd h99
                have g117 := gd h117
                have c20 : L 20 = false := hno 12 20 (by kernel_rfl)
                have c19 : L 19 = false := hL
                have c18 : L 18 = true := hq 12 18 (by kernel_rfl)
                have hs0 := hS
                unfold SK17 at hs0
                simp only [c20, c19, c18, cond_true, cond_false] at hs0
                obtain ⟨g, ht, hs1⟩ := hs0
                have hv : Value.slice (some ⟨z117, 0, none⟩) 1 1 = .slice (some ⟨g, 0, none⟩) 1 1 := h117.symm.trans ht
                injection hv with e1
                injection e1 with e1
                injection e1 with e1
                subst e1
                obtain ⟨A5, c5, u', hrun, hp⟩ := hs1.push17 hnw1
                refine wp_append_run rfl h99 h117 hrun ?_
                refine Went7.next (t := 118) ?_ trivial ⟨A5, c5, rfl⟩
                have d20 : doneB L 19 20 = false := c20
                have d19 : doneB L 19 19 = true := done_same
                have hsz : 118 < a.tmps.size := by rw [hst.size]; exact Nat.le_of_ble_eq_true (by kernel_rfl)
                unfold SK17
                simp only [d20, d19, cond_true, cond_false]
                rw [slots_eq hsz]
                exact (HF17.out _ _).2 ⟨A5, c5, rfl, hp⟩
              refine EachOp.cons ?_ ?_
              · intro L a u hL hst hS hdep hq hno
                obtain ⟨A118, d118, h118⟩ := hdep 118 (by kernel_rfl)
                refine .inl ⟨trivial, ?_⟩
                have g118 := gd h118
                go_simp
                have c20 : L 20 = false := hL
                have c19 : L 19 = true := hq 12 19 (by kernel_rfl)
                have hs0 := hS
                unfold SK17 at hs0
                simp only [c20, c19, cond_true, cond_false] at hs0
                refine Went7.next ?_ trivial ⟨_, _, rfl⟩
                have d20 : doneB L 20 20 = true := done_same
                have hsz : 7 < a.tmps.size := by rw [hst.size]; exact Nat.le_of_ble_eq_true (by kernel_rfl)
                unfold SK17
                simp only [d20, cond_true]
                rw [slots_eq hsz]
                have he : slotsOf a 118 = .slice A118 (nw + 1) d118 := h118
                rw [he] at hs0
                exact hs0
              exact EachOp.nil
            · intro L a u hLs hst hS hdep
              have h99 : a.tmps.getD 99 undef = .slice Aw nw cw := hdep 99 (by kernel_rfl)
              have h100 : a.tmps.getD 100 undef = .pointer (some ⟨bc, 0, none⟩) := hdep 100 (by kernel_rfl)
              have h101 : a.tmps.getD 101 undef = .pointer (some ⟨t6, 1, none⟩) := hdep 101 (by kernel_rfl)
              have h102 : a.tmps.getD 102 undef = .int .i64 x.nd := hdep 102 (by kernel_rfl)
              obtain ⟨A103, d103, h103⟩ := hdep 103 (by kernel_rfl)
              have h104 : a.tmps.getD 104 undef = .pointer (some ⟨t12, 0, none⟩) := hdep 104 (by kernel_rfl)
              have h105 : a.tmps.getD 105 undef = .pointer (some ⟨t12, 2, none⟩) := hdep 105 (by kernel_rfl)
              have h106 : a.tmps.getD 106 undef = .int .u64 pl := hdep 106 (by kernel_rfl)
              have h107 : a.tmps.getD 107 undef = .int .u64 yi := hdep 107 (by kernel_rfl)
              obtain ⟨p108, h108⟩ := hdep 108 (by kernel_rfl)
              have h109 : a.tmps.getD 109 undef = .agg #[.int .u64 y.e, .string y.t] := hdep 109 (by kernel_rfl)
              have h110 : a.tmps.getD 110 undef = .pointer (some ⟨t12, 0, none⟩) := hdep 110 (by kernel_rfl)
              have h111 : a.tmps.getD 111 undef = .pointer (some ⟨t12, 1, none⟩) := hdep 111 (by kernel_rfl)
              have h112 : a.tmps.getD 112 undef = .int .u64 rp := hdep 112 (by kernel_rfl)
              have h113 : a.tmps.getD 113 undef = .pointer (some ⟨t12, 0, none⟩) := hdep 113 (by kernel_rfl)
              have h114 : a.tmps.getD 114 undef = .pointer (some ⟨t12, 2, none⟩) := hdep 114 (by kernel_rfl)
              have h115 : a.tmps.getD 115 undef = .int .u64 pl := hdep 115 (by kernel_rfl)
              have h116 : a.tmps.getD 116 undef = .agg #[.int .u64 y.e, .string y.t, .int .u64 rp, .int .u64 pl] := hdep 116 (by kernel_rfl)
              obtain ⟨z117, h117⟩ := hdep 117 (by kernel_rfl)
              obtain ⟨A118, d118, h118⟩ := hdep 118 (by kernel_rfl)
              obtain ⟨A7, d7, h7⟩ := hdep 7 (by kernel_rfl)
              have hfin := hS
              unfold SK17 at hfin
              rw [hLs 20 (by kernel_rfl)] at hfin
              obtain ⟨Aw2, cw2, he17, hd17⟩ := (HF17.out _ _).1 hfin
              have HD := Lib.hid hd17
              have hv17 : Value.slice A7 (nw + 1) d7 = .slice Aw2 (nw + 1) cw2 := h7.symm.trans he17
              injection hv17 with e1 e2 e3
              subst e1 e3
              clear hfin he17 hd17
              have hfr := hst.frame [(99, .slice Aw nw cw), (100, .pointer (some ⟨bc, 0, none⟩)), (101, .pointer (some ⟨t6, 1, none⟩)), (102, .int .i64 x.nd), (103, .slice A103 la d103), (104, .pointer (some ⟨t12, 0, none⟩)), (105, .pointer (some ⟨t12, 2, none⟩)), (106, .int .u64 pl), (107, .int .u64 yi), (108, .pointer (some p108)), (109, .agg #[.int .u64 y.e, .string y.t]), (110, .pointer (some ⟨t12, 0, none⟩)), (111, .pointer (some ⟨t12, 1, none⟩)), (112, .int .u64 rp), (113, .pointer (some ⟨t12, 0, none⟩)), (114, .pointer (some ⟨t12, 2, none⟩)), (115, .int .u64 pl), (116, .agg #[.int .u64 y.e, .string y.t, .int .u64 rp, .int .u64 pl]), (117, .slice (some ⟨z117, 0, none⟩) 1 1), (118, .slice A118 (nw + 1) d118), (7, .slice A7 (nw + 1) d7)] (by kernel_rfl) ⟨h99, h100, h101, h102, h103, h104, h105, h106, h107, h108, h109, h110, h111, h112, h113, h114, h115, h116, h117, h118, h7, trivial⟩
              clear hst hdep h99 h100 h101 h102 h103 h104 h105 h106 h107 h108 h109 h110 h111 h112 h113 h114 h115 h116 h117 h118 h7
              subst hfr
              simp only [List.foldl_cons, List.foldl_nil, List.setIfInBounds_toArray, List.set_cons_zero, List.set_cons_succ]
              clear hS hLs
              have HLS2 : Hid (ps2.length = np2 ∧ np2 ≤ k + 1 ∧ (ws ++ [(⟨y, rp, pl⟩ : Wr16)]).length = nw + 1 ∧ nw + 1 ≤ k + 1) := Lib.hid ⟨HLP.out.1, HLP.out.2.1, by rw [List.length_append, HLP.out.2.2.1]; rfl, by have := HLP.out.2.2.2; omega⟩
              clear HLP HLG HLA HF17 HD17 HYE hwl hyl hyl2 hwy hpl0 hj hj0 hj1 hj2 hnw1 hd0b
              go_wp2_with fail
              go_meet
              exact ⟨_, A7, nw + 1, d7, rfl, HKI2, HLS2, HD⟩
          | false =>
            have HKI2 := HKP
            have HLS2 : Hid (ps2.length = np2 ∧ np2 ≤ k + 1 ∧ ws.length = nw ∧ nw ≤ k + 1) := Lib.hid ⟨HLP.out.1, HLP.out.2.1, HLP.out.2.2.1, by have := HLP.out.2.2.2; omega⟩
            have HD := Lib.hid (((HGN.out _).1 H10.out).less (l' := []) (fun _ h => h) (fun _ h => nomatch h) (fun _ h => h) (fun _ h => h))
            clear HGN HCE HG9 HLG HLA HKP HLP HKW2 H10 hwl HA HB HAB HI2 HI7 HI4 HJ7 HII HPQ HDD HPD HEE HBB
            go_wp2_with fail
            go_meet
            exact ⟨ws, Aw, nw, cw, rfl, HKI2, HLS2, HD⟩
        case rest =>
        clear HGN HCE HG9 HLG HLA HKP HLP HKW2 H10 hwl HA HB HAB HI2 HI7 HI4 HJ7 HII HPQ HDD HPD HEE HBB
        obtain ⟨ws2, Aw2, nw2, cw2, rfl, HKI2, HLS2, HD⟩ := hcut
        have hq := HD.out.cnew HC.out HIN.out
        rw [HPM.out] at hq
        dsimp only at hq
        have HQ := Lib.hid hq
        clear hq
        go_wp2_with fail
        refine HQ.out.mono ?_
        rintro e v1 ⟨rfl, h1⟩
        have H1 := Lib.hid h1
        have HIp : Hid (I64n pp) := Lib.hid (by have := HIN.out.is.1; have := HIN.out.is.2; have := HIN.out.n6; rw [HPM.out] at *; unfold I64n; dsimp only at *; omega)
        have HQ2 := Lib.hid (H1.out.clog HC.out HIN.out pp HIp.out)
        clear h1 HQ HD
        dsimp only
        have hfld := fldp16 pe pp pc v1
        go_wp2_with fail
        clear hfld
        refine HQ2.out.mono ?_
        rintro e v2 ⟨Af, lf, df, ⟨rfl, hlfd⟩, h2⟩
        have hlr : LR v2 Af lf (lgCu c pp) := h2.lr (.head _)
        have hfl : (lgCu c pp).length = lf := hlr.len
        have hfirst : lgCu c pp = c.first.lg := by
          have h := HIN.out.is
          rw [HPM.out] at h
          unfold lgCu Cu.first
          rw [if_pos h, HPM.out]
        have hlf : lf ≤ 200 := by rw [← hfl]; exact lg_le HIN.out pp
        rw [hfirst] at h2 hfl
        have HFL := Lib.hid hfl
        have hwlf : IntKind.u64.wrap (lf : Int) = (lf : Int) := by rw [IntKind.wrap_u64]; omega
        obtain ⟨G2, hG2⟩ : ∃ G : World → Prop, ∀ u, G u ↔ St15 W (X bc c) (Two (CT cb) (Two (RowT 45 3 Ap2 np2 cp2 (ps2.flatMap prC1)) (RowT 71 4 Aw2 nw2 cw2 (ws2.flatMap wrC1)))) [] [] [(Af, lf, c.first.lg)] [] u := ⟨_, fun _ => Iff.rfl⟩
        have HG2 := Lib.hid hG2
        have HG0 : Hid (G2 v2) := Lib.hid ((hG2 _).2 h2)
        have HTL : Hid (∀ y ∈ ws2, cutF ps2 y = false → c.first.lg[(y.p - 1).toNat]? = some y.x ∧ 1 ≤ y.p) := Lib.hid fun y hy hc => ⟨HKI2.out.tells HIN.out hy (cutF_no hc), (HKI2.out.w y hy).2.1⟩
        clear h2 hlr hfirst hfl hG2 HQ2 H1
        go_wp2_with fail
        go_loopw [126] (fun i wr => ∃ j : Nat, j ≤ nw2 ∧ i = .int .i64 j ∧ Hid (G2 wr)) (fun i _ => nw2 - (intOf i).toNat)
        case atStart => exact ⟨0, Nat.zero_le _, rfl, HG0⟩
        case round =>
          obtain ⟨j, hj, rfl, hg⟩ := hrel
          clear HG0
          by_cases hjl : j < nw2
          · have hls2 := HLS2.out
            have hjs : j < ws2.length := by rw [hls2.2.2.1]; exact hjl
            have hnw : nw2 ≤ 100 := by omega
            have hg1 := (HG2.out wr).1 hg.out
            obtain ⟨ad3, hA3, _, hc3, ha3⟩ := row_at (f := wrC1) (fun _ => rfl) hg1.roww hls2.2.2.1 hjs
            have z0 := hc3 0 (.int .u64 ws2[j].x.e) rfl wr (Below.refl _ _)
            have z1 := hc3 1 (.string ws2[j].x.t) rfl wr (Below.refl _ _)
            have z2 := hc3 2 (.int .u64 ws2[j].e) rfl wr (Below.refl _ _)
            have z3 := hc3 3 (.int .u64 ws2[j].p) rfl wr (Below.refl _ _)
            rw [Nat.add_zero] at z0
            rw [← ha3 1 (by decide)] at z1
            rw [← ha3 2 (by decide)] at z2
            rw [← ha3 3 (by decide)] at z3
            have HTY := Lib.hid (HTL.out _ (List.getElem_mem hjs))
            clear hc3 ha3
            generalize ws2[j] = y at *
            subst hA3
            obtain ⟨w16, hw16⟩ : ∃ u, wr.alloc (.cells #[.int .u64 y.x.e, .string y.x.t, .int .u64 y.e, .int .u64 y.p] 71) = u := ⟨_, rfl⟩
            obtain ⟨t16, ht16⟩ : ∃ z, wr.heap.size = z := ⟨_, rfl⟩
            have h16 := hg1.mark _ hw16 ht16
            have HW16 := Lib.hid hw16
            have HT16 := Lib.hid ht16
            obtain ⟨G3, hG3⟩ : ∃ G : World → Prop, ∀ u, G u ↔ St15 W (X bc c) (Two (CT cb) (Two (RowT 45 3 Ap2 np2 cp2 (ps2.flatMap prC1)) (RowT 71 4 (some ad3) nw2 cw2 (ws2.flatMap wrC1)))) [] [(t16, .cells #[.int .u64 y.x.e, .string y.x.t, .int .u64 y.e, .int .u64 y.p] 71 (0, 0))] [(Af, lf, c.first.lg)] [] u := ⟨_, fun _ => Iff.rfl⟩
            have HG3 := Lib.hid hG3
            have HC3 : Hid (∀ u, G3 u → u.cell? ⟨t16, 0, none⟩ = some (.int .u64 y.x.e) ∧ u.cell? ⟨t16, 1, none⟩ = some (.string y.x.t) ∧ u.cell? ⟨t16, 2, none⟩ = some (.int .u64 y.e) ∧ u.cell? ⟨t16, 3, none⟩ = some (.int .u64 y.p) ∧ t16 < u.heap.size) := Lib.hid fun u hu => by
              have m := ((hG3 u).1 hu).at_ (.head _)
              exact ⟨(cellsAt m 0 rfl).1, (cellsAt m 1 rfl).1, (cellsAt m 2 rfl).1, (cellsAt m 3 rfl).1, (Array.getElem?_eq_some_iff.1 m).1⟩
            have HG30 : Hid (G3 w16) := Lib.hid ((hG3 _).2 h16)
            clear hg hg1 hw16 ht16 h16 hG3
            go_wp2_with fail
            rw [HW16.out, HT16.out]
            clear z0 z1 z2 z3 HW16 HT16
            go_loopw [17, 132] (fun cu i wr => ∃ (q : Nat) (v : Bool), q ≤ np2 ∧ i = .int .i64 q ∧ cu = .bool v ∧ Hid (cutF (ps2.take q) y = v) ∧ Hid (G3 wr)) (fun _ i _ => np2 - (intOf i).toNat)
            case atStart => exact ⟨0, false, Nat.zero_le _, rfl, rfl, Lib.hid rfl, HG30⟩
            case round =>
              obtain ⟨q, v, hq, rfl, rfl, HV, hg⟩ := hrel
              clear HG30
              by_cases hql : q < np2
              · have hqs : q < ps2.length := by rw [hls2.1]; exact hql
                have hnp2 : np2 ≤ 100 := by omega
                have hg1 := (HG3.out wr).1 hg.out
                obtain ⟨ad4, hA4, _, hc4, ha4⟩ := row_at (f := prC1) (fun _ => rfl) hg1.rowp hls2.1 hqs
                have z0 := hc4 0 (.int .u64 ps2[q].e) rfl wr (Below.refl _ _)
                have z1 := hc4 1 (.int .i64 ps2[q].p) rfl wr (Below.refl _ _)
                have z2 := hc4 2 (.int .u64 ps2[q].c) rfl wr (Below.refl _ _)
                rw [Nat.add_zero] at z0
                rw [← ha4 1 (by decide)] at z1
                rw [← ha4 2 (by decide)] at z2
                have HTK := Lib.hid (cutF_take ps2 y hqs)
                rw [HV.out] at HTK
                have HNX : Hid (∀ o, G3 (wr.alloc o)) := Lib.hid fun o => (HG3.out _).2 (hg1.next (kp_new wr o))
                obtain ⟨c0, c1, c2, c3, c4⟩ := HC3.out wr hg.out
                clear hc4 ha4 hg hg1 HV
                generalize ps2[q] = p at *
                subst hA4
                obtain ⟨b1, hb1⟩ : ∃ z, decide (y.e < p.e) = z := ⟨_, rfl⟩
                obtain ⟨b2, hb2⟩ : ∃ z, decide (p.c < y.p) = z := ⟨_, rfl⟩
                rw [hb1, hb2] at HTK
                cases v with
                | true =>
                  clear hb1 hb2
                  go_wp2_with fail
                  go_roundw
                  case rel => exact ⟨q + 1, true, by omega, by go_num, rfl, Lib.hid (by rw [HTK.out]; rfl), Lib.hid (HNX.out _)⟩
                  case measure => simp [intOf]; omega
                | false =>
                  cases b1 with
                  | false =>
                    clear hb2
                    go_wp2_with fail
                    go_roundw
                    case rel => exact ⟨q + 1, false, by omega, by go_num, rfl, Lib.hid (by rw [HTK.out]; rfl), Lib.hid (HNX.out _)⟩
                    case measure => simp [intOf]; omega
                  | true =>
                    go_wp2_with fail
                    go_roundw
                    case rel => exact ⟨q + 1, b2, by omega, by go_num, rfl, Lib.hid (by rw [HTK.out]; simp), Lib.hid (HNX.out _)⟩
                    case measure => simp [intOf]; omega
              · have hv : cutF ps2 y = v := by rw [← HV.out, List.take_of_length_le (by rw [hls2.1]; omega)]
                clear HV
                have HKR : Hid (∀ (i : Nat) (u : World), KeepT i u u) := Lib.hid fun _ _ => trivial
                cases v with
                | true =>
                  clear hv HTY
                  go_wp2_with fail
                  refine wp_region_specs8q (S := fun _ u => G3 u) (Kp := KeepT) (Sp := [(152, Stl.eq (.bool true)), (153, Stl.eq (.bool false)), (154, Stl.eq (.bool false)), (155, Stl.eq (undef)), (156, Stl.eq (undef)), (157, Stl.eq (undef)), (158, Stl.eq (undef)), (159, Stl.eq (undef)), (160, Stl.eq (undef)), (161, Stl.eq (undef)), (162, Stl.eq (undef)), (163, Stl.eq (undef)), (164, Stl.eq (undef)), (165, Stl.eq (undef)), (166, Stl.eq (undef)), (167, Stl.eq (undef)), (168, Stl.eq (undef)), (169, Stl.eq (undef)), (170, Stl.eq (undef)), (171, Stl.eq (undef)), (172, Stl.eq (.bool false))]) (by kernel_rfl) (by kernel_rfl) ((HG3.out _).2 (((HG3.out _).1 hg.out).next (kp_drewN wr 1))) ?_ ?_
                  · intro QQ
                    refine EachOp.cons ?_ ?_
                    · intro L a u hL hst hS hdep hq hno
                      have h17 : a.tmps.getD 17 undef = .bool true := hst.out 17 (by kernel_rfl)
                      refine .inl ⟨trivial, ?_⟩
                      have g17 := gd h17
                      go_simp
                      exact Went6.same (HKR.out _ _) hS rfl
                    refine EachOp.cons ?_ ?_
                    · intro L a u hL hst hS hdep hq hno
                      have h152 : a.tmps.getD 152 undef = .bool true := hdep 152 (by kernel_rfl)
                      refine .inl ⟨trivial, ?_⟩
                      have g152 := gd h152
                      go_simp
                      exact Went6.same (HKR.out _ _) hS rfl
                    refine EachOp.cons ?_ ?_
                    · intro L a u hL hst hS hdep hq hno
                      have h153 : a.tmps.getD 153 undef = .bool false := hdep 153 (by kernel_rfl)
                      refine .inl ⟨trivial, ?_⟩
                      have g153 := gd h153
                      go_simp
                      exact Went6.same (HKR.out _ _) hS rfl
                    refine EachOp.cons ?_ ?_
                    · intro L a u hL hst hS hdep hq hno
                      have h154 : a.tmps.getD 154 undef = .bool false := hdep 154 (by kernel_rfl)
                      exact .inr ⟨⟨154, by kernel_rfl, .inl h154⟩, hS, HKR.out _ _, fun t e => by injection e with e; subst e; rfl⟩
                    refine EachOp.cons ?_ ?_
                    · intro L a u hL hst hS hdep hq hno
                      have h154 : a.tmps.getD 154 undef = .bool false := hdep 154 (by kernel_rfl)
                      exact .inr ⟨⟨154, by kernel_rfl, .inl h154⟩, hS, HKR.out _ _, fun t e => by injection e with e; subst e; rfl⟩
                    refine EachOp.cons ?_ ?_
                    · intro L a u hL hst hS hdep hq hno
                      have h154 : a.tmps.getD 154 undef = .bool false := hdep 154 (by kernel_rfl)
                      exact .inr ⟨⟨154, by kernel_rfl, .inl h154⟩, hS, HKR.out _ _, fun t e => by injection e with e; subst e; rfl⟩
                    refine EachOp.cons ?_ ?_
                    · intro L a u hL hst hS hdep hq hno
                      have h154 : a.tmps.getD 154 undef = .bool false := hdep 154 (by kernel_rfl)
                      exact .inr ⟨⟨154, by kernel_rfl, .inl h154⟩, hS, HKR.out _ _, fun t e => by injection e with e; subst e; rfl⟩
                    refine EachOp.cons ?_ ?_
                    · intro L a u hL hst hS hdep hq hno
                      have h154 : a.tmps.getD 154 undef = .bool false := hdep 154 (by kernel_rfl)
                      exact .inr ⟨⟨154, by kernel_rfl, .inl h154⟩, hS, HKR.out _ _, fun t e => by injection e with e; subst e; rfl⟩
                    refine EachOp.cons ?_ ?_
                    · intro L a u hL hst hS hdep hq hno
                      have h154 : a.tmps.getD 154 undef = .bool false := hdep 154 (by kernel_rfl)
                      exact .inr ⟨⟨154, by kernel_rfl, .inl h154⟩, hS, HKR.out _ _, fun t e => by injection e with e; subst e; rfl⟩
                    refine EachOp.cons ?_ ?_
                    · intro L a u hL hst hS hdep hq hno
                      have h154 : a.tmps.getD 154 undef = .bool false := hdep 154 (by kernel_rfl)
                      exact .inr ⟨⟨154, by kernel_rfl, .inl h154⟩, hS, HKR.out _ _, fun t e => by injection e with e; subst e; rfl⟩
                    refine EachOp.cons ?_ ?_
                    · intro L a u hL hst hS hdep hq hno
                      have h161 : a.tmps.getD 161 undef = undef := hdep 161 (by kernel_rfl)
                      exact .inr ⟨⟨161, by kernel_rfl, .inr h161⟩, hS, HKR.out _ _, fun t e => by injection e with e; subst e; rfl⟩
                    refine EachOp.cons ?_ ?_
                    · intro L a u hL hst hS hdep hq hno
                      have h161 : a.tmps.getD 161 undef = undef := hdep 161 (by kernel_rfl)
                      exact .inr ⟨⟨161, by kernel_rfl, .inr h161⟩, hS, HKR.out _ _, fun t e => by injection e with e; subst e; rfl⟩
                    refine EachOp.cons ?_ ?_
                    · intro L a u hL hst hS hdep hq hno
                      have h161 : a.tmps.getD 161 undef = undef := hdep 161 (by kernel_rfl)
                      exact .inr ⟨⟨161, by kernel_rfl, .inr h161⟩, hS, HKR.out _ _, fun t e => by injection e with e; subst e; rfl⟩
                    refine EachOp.cons ?_ ?_
                    · intro L a u hL hst hS hdep hq hno
                      have h161 : a.tmps.getD 161 undef = undef := hdep 161 (by kernel_rfl)
                      exact .inr ⟨⟨161, by kernel_rfl, .inr h161⟩, hS, HKR.out _ _, fun t e => by injection e with e; subst e; rfl⟩
                    refine EachOp.cons ?_ ?_
                    · intro L a u hL hst hS hdep hq hno
                      have h161 : a.tmps.getD 161 undef = undef := hdep 161 (by kernel_rfl)
                      exact .inr ⟨⟨161, by kernel_rfl, .inr h161⟩, hS, HKR.out _ _, fun t e => by injection e with e; subst e; rfl⟩
                    refine EachOp.cons ?_ ?_
                    · intro L a u hL hst hS hdep hq hno
                      have h161 : a.tmps.getD 161 undef = undef := hdep 161 (by kernel_rfl)
                      exact .inr ⟨⟨161, by kernel_rfl, .inr h161⟩, hS, HKR.out _ _, fun t e => by injection e with e; subst e; rfl⟩
                    refine EachOp.cons ?_ ?_
                    · intro L a u hL hst hS hdep hq hno
                      have h161 : a.tmps.getD 161 undef = undef := hdep 161 (by kernel_rfl)
                      exact .inr ⟨⟨161, by kernel_rfl, .inr h161⟩, hS, HKR.out _ _, fun t e => by injection e with e; subst e; rfl⟩
                    refine EachOp.cons ?_ ?_
                    · intro L a u hL hst hS hdep hq hno
                      have h161 : a.tmps.getD 161 undef = undef := hdep 161 (by kernel_rfl)
                      exact .inr ⟨⟨161, by kernel_rfl, .inr h161⟩, hS, HKR.out _ _, fun t e => by injection e with e; subst e; rfl⟩
                    refine EachOp.cons ?_ ?_
                    · intro L a u hL hst hS hdep hq hno
                      have h161 : a.tmps.getD 161 undef = undef := hdep 161 (by kernel_rfl)
                      exact .inr ⟨⟨161, by kernel_rfl, .inr h161⟩, hS, HKR.out _ _, fun t e => by injection e with e; subst e; rfl⟩
                    refine EachOp.cons ?_ ?_
                    · intro L a u hL hst hS hdep hq hno
                      have h154 : a.tmps.getD 154 undef = .bool false := hdep 154 (by kernel_rfl)
                      exact .inr ⟨⟨154, by kernel_rfl, .inl h154⟩, hS, HKR.out _ _, fun t e => by injection e with e; subst e; rfl⟩
                    refine EachOp.cons ?_ ?_
                    · intro L a u hL hst hS hdep hq hno
                      have h154 : a.tmps.getD 154 undef = .bool false := hdep 154 (by kernel_rfl)
                      have h171 : a.tmps.getD 171 undef = undef := hdep 171 (by kernel_rfl)
                      refine .inl ⟨trivial, ?_⟩
                      have g154 := gd h154
                      have g171 := gd h171
                      go_simp
                      exact Went6.same (HKR.out _ _) hS rfl
                    exact EachOp.nil
                  · intro L a u hLs hst hS hdep
                    have h152 : a.tmps.getD 152 undef = .bool true := hdep 152 (by kernel_rfl)
                    have h153 : a.tmps.getD 153 undef = .bool false := hdep 153 (by kernel_rfl)
                    have h154 : a.tmps.getD 154 undef = .bool false := hdep 154 (by kernel_rfl)
                    have h155 : a.tmps.getD 155 undef = undef := hdep 155 (by kernel_rfl)
                    have h156 : a.tmps.getD 156 undef = undef := hdep 156 (by kernel_rfl)
                    have h157 : a.tmps.getD 157 undef = undef := hdep 157 (by kernel_rfl)
                    have h158 : a.tmps.getD 158 undef = undef := hdep 158 (by kernel_rfl)
                    have h159 : a.tmps.getD 159 undef = undef := hdep 159 (by kernel_rfl)
                    have h160 : a.tmps.getD 160 undef = undef := hdep 160 (by kernel_rfl)
                    have h161 : a.tmps.getD 161 undef = undef := hdep 161 (by kernel_rfl)
                    have h162 : a.tmps.getD 162 undef = undef := hdep 162 (by kernel_rfl)
                    have h163 : a.tmps.getD 163 undef = undef := hdep 163 (by kernel_rfl)
                    have h164 : a.tmps.getD 164 undef = undef := hdep 164 (by kernel_rfl)
                    have h165 : a.tmps.getD 165 undef = undef := hdep 165 (by kernel_rfl)
                    have h166 : a.tmps.getD 166 undef = undef := hdep 166 (by kernel_rfl)
                    have h167 : a.tmps.getD 167 undef = undef := hdep 167 (by kernel_rfl)
                    have h168 : a.tmps.getD 168 undef = undef := hdep 168 (by kernel_rfl)
                    have h169 : a.tmps.getD 169 undef = undef := hdep 169 (by kernel_rfl)
                    have h170 : a.tmps.getD 170 undef = undef := hdep 170 (by kernel_rfl)
                    have h171 : a.tmps.getD 171 undef = undef := hdep 171 (by kernel_rfl)
                    have h172 : a.tmps.getD 172 undef = .bool false := hdep 172 (by kernel_rfl)
                    have hfr := hst.frame [(152, .bool true), (153, .bool false), (154, .bool false), (155, undef), (156, undef), (157, undef), (158, undef), (159, undef), (160, undef), (161, undef), (162, undef), (163, undef), (164, undef), (165, undef), (166, undef), (167, undef), (168, undef), (169, undef), (170, undef), (171, undef), (172, .bool false)] (by kernel_rfl) ⟨h152, h153, h154, h155, h156, h157, h158, h159, h160, h161, h162, h163, h164, h165, h166, h167, h168, h169, h170, h171, h172, trivial⟩
                    clear hst hdep h152 h153 h154 h155 h156 h157 h158 h159 h160 h161 h162 h163 h164 h165 h166 h167 h168 h169 h170 h171 h172
                    subst hfr
                    simp only [List.foldl_cons, List.foldl_nil, List.setIfInBounds_toArray, List.set_cons_zero, List.set_cons_succ]
                    have H9 := Lib.hid ((HG2.out _).2 (((HG3.out _).1 hS).less (l' := []) (fun _ h => h) (fun _ h => nomatch h) (fun _ h => h) (fun _ h => h)))
                    clear hS hLs
                    go_wp2_with fail
                    go_roundw
                    case rel => exact ⟨j + 1, by omega, by go_num, H9⟩
                    case measure => simp [intOf]; omega
                | false =>
                  obtain ⟨hy1, hy2⟩ := HTY.out hv
                  obtain ⟨yi, hyi⟩ : ∃ z, (y.p - 1).toNat = z := ⟨_, rfl⟩
                  rw [hyi] at hy1
                  obtain ⟨hyn, hye⟩ := List.getElem?_eq_some_iff.1 hy1
                  have hyl : (yi : Int) < (lf : Int) := by have := HFL.out; omega
                  have hyp : y.p ≤ (lf : Int) := by omega
                  have hwy : IntKind.u64.wrap (y.p - 1) = (yi : Int) := by rw [IntKind.wrap_u64]; omega
                  obtain ⟨ad5, hA5, hx5, hx6⟩ := (((HG3.out wr).1 hg.out).lr (.head _)).at_ hyn
                  have HL5 : Hid (∀ u, G3 u → u.cell? (ad5.add (yi * 2)) = some (.int .u64 y.x.e) ∧ u.cell? ⟨(ad5.add (yi * 2)).block, (ad5.add (yi * 2)).off + 1, none⟩ = some (.string y.x.t)) := Lib.hid fun u hu => by
                    obtain ⟨ad', h1, _, h2⟩ := (((HG3.out u).1 hu).lr (.head _)).at_ hyn
                    rw [hA5] at h1
                    injection h1 with h1
                    subst h1
                    obtain ⟨a1, a2⟩ := h2 u (Below.refl _ _)
                    rw [hye] at a1 a2
                    exact ⟨a1, a2⟩
                  dsimp only at hA5
                  subst hA5
                  clear hv HTY hy1 hx5 hx6 hyi hyn hye
                  go_wp2_with fail
                  refine wp_region_specs8q (S := fun _ u => G3 u) (Kp := KeepT) (Sp := [(152, Stl.eq (.bool false)), (153, Stl.eq (.bool true)), (154, Stl.eq (.bool true)), (155, Stl.eq (.pointer (some ⟨t16, 3, none⟩))), (156, Stl.eq (.int .u64 y.p)), (157, Stl.eq (.slice (some ad5) lf df)), (158, Stl.eq (.int .i64 lf)), (159, Stl.eq (.int .u64 lf)), (160, Stl.eq (.bool false)), (161, Stl.eq (.bool false)), (162, Stl.eq (.slice (some ad5) lf df)), (163, Stl.eq (.pointer (some ⟨t16, 3, none⟩))), (164, Stl.eq (.int .u64 y.p)), (165, Stl.eq (.int .u64 yi)), (166, Stl.eq (.pointer (some (ad5.add (yi * 2))))), (167, Stl.eq (.agg #[.int .u64 y.x.e, .string y.x.t])), (168, Stl.eq (.pointer (some ⟨t16, 0, none⟩))), (169, Stl.eq (.agg #[.int .u64 y.x.e, .string y.x.t])), (170, Stl.eq (.bool false)), (171, Stl.eq (.bool false)), (172, Stl.eq (.bool false))]) (by kernel_rfl) (by kernel_rfl) ((HG3.out _).2 (((HG3.out _).1 hg.out).next (kp_drewN wr 1))) ?_ ?_
                  · intro QQ
                    refine EachOp.cons ?_ ?_
                    · intro L a u hL hst hS hdep hq hno
                      have h17 : a.tmps.getD 17 undef = .bool false := hst.out 17 (by kernel_rfl)
                      refine .inl ⟨trivial, ?_⟩
                      have g17 := gd h17
                      go_simp
                      exact Went6.same (HKR.out _ _) hS rfl
                    refine EachOp.cons ?_ ?_
                    · intro L a u hL hst hS hdep hq hno
                      have h152 : a.tmps.getD 152 undef = .bool false := hdep 152 (by kernel_rfl)
                      refine .inl ⟨trivial, ?_⟩
                      have g152 := gd h152
                      go_simp
                      exact Went6.same (HKR.out _ _) hS rfl
                    refine EachOp.cons ?_ ?_
                    · intro L a u hL hst hS hdep hq hno
                      have h153 : a.tmps.getD 153 undef = .bool true := hdep 153 (by kernel_rfl)
                      refine .inl ⟨trivial, ?_⟩
                      have g153 := gd h153
                      go_simp
                      exact Went6.same (HKR.out _ _) hS rfl
                    refine EachOp.cons ?_ ?_
                    · intro L a u hL hst hS hdep hq hno
                      have h16 : a.tmps.getD 16 undef = .pointer (some ⟨t16, 0, none⟩) := hst.out 16 (by kernel_rfl)
                      have h154 : a.tmps.getD 154 undef = .bool true := hdep 154 (by kernel_rfl)
                      refine .inl ⟨⟨154, by kernel_rfl, h154⟩, ?_⟩
                      clear h154
                      have g16 := gd h16
                      go_simp
                      exact Went6.same (HKR.out _ _) hS rfl
                    refine EachOp.cons ?_ ?_
                    · intro L a u hL hst hS hdep hq hno
                      have h155 : a.tmps.getD 155 undef = .pointer (some ⟨t16, 3, none⟩) := hdep 155 (by kernel_rfl)
                      have h154 : a.tmps.getD 154 undef = .bool true := hdep 154 (by kernel_rfl)
                      refine .inl ⟨⟨154, by kernel_rfl, h154⟩, ?_⟩
                      clear h154
                      have g155 := gd h155
                      have yy := (HC3.out u hS).2.2.2.1
                      go_simp
                      exact Went6.same (HKR.out _ _) hS rfl
                    refine EachOp.cons ?_ ?_
                    · intro L a u hL hst hS hdep hq hno
                      have h14 : a.tmps.getD 14 undef = .slice (some ad5) lf df := hst.out 14 (by kernel_rfl)
                      have h154 : a.tmps.getD 154 undef = .bool true := hdep 154 (by kernel_rfl)
                      refine .inl ⟨⟨154, by kernel_rfl, h154⟩, ?_⟩
                      clear h154
                      have g14 := gd h14
                      go_simp
                      exact Went6.same (HKR.out _ _) hS rfl
                    refine EachOp.cons ?_ ?_
                    · intro L a u hL hst hS hdep hq hno
                      have h157 : a.tmps.getD 157 undef = .slice (some ad5) lf df := hdep 157 (by kernel_rfl)
                      have h154 : a.tmps.getD 154 undef = .bool true := hdep 154 (by kernel_rfl)
                      refine .inl ⟨⟨154, by kernel_rfl, h154⟩, ?_⟩
                      clear h154
                      have g157 := gd h157
                      go_simp
                      exact Went6.same (HKR.out _ _) hS rfl
                    refine EachOp.cons ?_ ?_
                    · intro L a u hL hst hS hdep hq hno
                      have h158 : a.tmps.getD 158 undef = .int .i64 lf := hdep 158 (by kernel_rfl)
                      have h154 : a.tmps.getD 154 undef = .bool true := hdep 154 (by kernel_rfl)
                      refine .inl ⟨⟨154, by kernel_rfl, h154⟩, ?_⟩
                      clear h154
                      have g158 := gd h158
                      have yy := hwlf
                      go_simp
                      exact Went6.same (HKR.out _ _) hS rfl
                    refine EachOp.cons ?_ ?_
                    · intro L a u hL hst hS hdep hq hno
                      have h156 : a.tmps.getD 156 undef = .int .u64 y.p := hdep 156 (by kernel_rfl)
                      have h159 : a.tmps.getD 159 undef = .int .u64 lf := hdep 159 (by kernel_rfl)
                      have h154 : a.tmps.getD 154 undef = .bool true := hdep 154 (by kernel_rfl)
                      refine .inl ⟨⟨154, by kernel_rfl, h154⟩, ?_⟩
                      clear h154
                      have g156 := gd h156
                      have g159 := gd h159
                      go_simp
                      first | exact Went6.same (HKR.out _ _) hS rfl | exact Went6.same (HKR.out _ _) hS (congrArg Value.bool (decide_eq_false (by omega)))
                    refine EachOp.cons ?_ ?_
                    · intro L a u hL hst hS hdep hq hno
                      have h160 : a.tmps.getD 160 undef = .bool false := hdep 160 (by kernel_rfl)
                      have h154 : a.tmps.getD 154 undef = .bool true := hdep 154 (by kernel_rfl)
                      refine .inl ⟨⟨154, by kernel_rfl, h154⟩, ?_⟩
                      clear h154
                      have g160 := gd h160
                      go_simp
                      exact Went6.same (HKR.out _ _) hS rfl
                    refine EachOp.cons ?_ ?_
                    · intro L a u hL hst hS hdep hq hno
                      have h14 : a.tmps.getD 14 undef = .slice (some ad5) lf df := hst.out 14 (by kernel_rfl)
                      have h161 : a.tmps.getD 161 undef = .bool false := hdep 161 (by kernel_rfl)
                      refine .inl ⟨⟨161, by kernel_rfl, h161⟩, ?_⟩
                      clear h161
                      have g14 := gd h14
                      go_simp
                      exact Went6.same (HKR.out _ _) hS rfl
                    refine EachOp.cons ?_ ?_
                    · intro L a u hL hst hS hdep hq hno
                      have h16 : a.tmps.getD 16 undef = .pointer (some ⟨t16, 0, none⟩) := hst.out 16 (by kernel_rfl)
                      have h161 : a.tmps.getD 161 undef = .bool false := hdep 161 (by kernel_rfl)
                      refine .inl ⟨⟨161, by kernel_rfl, h161⟩, ?_⟩
                      clear h161
                      have g16 := gd h16
                      go_simp
                      exact Went6.same (HKR.out _ _) hS rfl
                    refine EachOp.cons ?_ ?_
                    · intro L a u hL hst hS hdep hq hno
                      have h163 : a.tmps.getD 163 undef = .pointer (some ⟨t16, 3, none⟩) := hdep 163 (by kernel_rfl)
                      have h161 : a.tmps.getD 161 undef = .bool false := hdep 161 (by kernel_rfl)
                      refine .inl ⟨⟨161, by kernel_rfl, h161⟩, ?_⟩
                      clear h161
                      have g163 := gd h163
                      have yy := (HC3.out u hS).2.2.2.1
                      go_simp
                      exact Went6.same (HKR.out _ _) hS rfl
                    refine EachOp.cons ?_ ?_
                    · intro L a u hL hst hS hdep hq hno
                      have h164 : a.tmps.getD 164 undef = .int .u64 y.p := hdep 164 (by kernel_rfl)
                      have h161 : a.tmps.getD 161 undef = .bool false := hdep 161 (by kernel_rfl)
                      refine .inl ⟨⟨161, by kernel_rfl, h161⟩, ?_⟩
                      clear h161
                      have g164 := gd h164
                      have yy := hwy
                      go_simp
                      exact Went6.same (HKR.out _ _) hS rfl
                    refine EachOp.cons ?_ ?_
                    · intro L a u hL hst hS hdep hq hno
                      have h162 : a.tmps.getD 162 undef = .slice (some ad5) lf df := hdep 162 (by kernel_rfl)
                      have h165 : a.tmps.getD 165 undef = .int .u64 yi := hdep 165 (by kernel_rfl)
                      have h161 : a.tmps.getD 161 undef = .bool false := hdep 161 (by kernel_rfl)
                      refine .inl ⟨⟨161, by kernel_rfl, h161⟩, ?_⟩
                      clear h161
                      have g162 := gd h162
                      have g165 := gd h165
                      have hi0 : (0 : Int) ≤ (yi : Int) := by omega
                      have hi1 := hyl
                      go_simp
                      exact Went6.same (HKR.out _ _) hS rfl
                    refine EachOp.cons ?_ ?_
                    · intro L a u hL hst hS hdep hq hno
                      have h166 : a.tmps.getD 166 undef = .pointer (some (ad5.add (yi * 2))) := hdep 166 (by kernel_rfl)
                      have h161 : a.tmps.getD 161 undef = .bool false := hdep 161 (by kernel_rfl)
                      refine .inl ⟨⟨161, by kernel_rfl, h161⟩, ?_⟩
                      clear h161
                      have g166 := gd h166
                      obtain ⟨yy, y2⟩ := HL5.out u hS
                      go_simp
                      exact Went6.same (HKR.out _ _) hS rfl
                    refine EachOp.cons ?_ ?_
                    · intro L a u hL hst hS hdep hq hno
                      have h16 : a.tmps.getD 16 undef = .pointer (some ⟨t16, 0, none⟩) := hst.out 16 (by kernel_rfl)
                      have h161 : a.tmps.getD 161 undef = .bool false := hdep 161 (by kernel_rfl)
                      refine .inl ⟨⟨161, by kernel_rfl, h161⟩, ?_⟩
                      clear h161
                      have g16 := gd h16
                      go_simp
                      exact Went6.same (HKR.out _ _) hS rfl
                    refine EachOp.cons ?_ ?_
                    · intro L a u hL hst hS hdep hq hno
                      have h168 : a.tmps.getD 168 undef = .pointer (some ⟨t16, 0, none⟩) := hdep 168 (by kernel_rfl)
                      have h161 : a.tmps.getD 161 undef = .bool false := hdep 161 (by kernel_rfl)
                      refine .inl ⟨⟨161, by kernel_rfl, h161⟩, ?_⟩
                      clear h161
                      have g168 := gd h168
                      have yy := (HC3.out u hS).1
                      have y2 := (HC3.out u hS).2.1
                      go_simp
                      exact Went6.same (HKR.out _ _) hS rfl
                    refine EachOp.cons ?_ ?_
                    · intro L a u hL hst hS hdep hq hno
                      have h167 : a.tmps.getD 167 undef = .agg #[.int .u64 y.x.e, .string y.x.t] := hdep 167 (by kernel_rfl)
                      have h169 : a.tmps.getD 169 undef = .agg #[.int .u64 y.x.e, .string y.x.t] := hdep 169 (by kernel_rfl)
                      have h161 : a.tmps.getD 161 undef = .bool false := hdep 161 (by kernel_rfl)
                      refine .inl ⟨⟨161, by kernel_rfl, h161⟩, ?_⟩
                      clear h161
                      have g167 := gd h167
                      have g169 := gd h169
                      have yy := neq_went 69 rfl y.x.e y.x.e y.x.t y.x.t u
                      rw [decide_eq_true rfl] at yy
                      go_simp
                      exact Went6.same (HKR.out _ _) hS rfl
                    refine EachOp.cons ?_ ?_
                    · intro L a u hL hst hS hdep hq hno
                      have h161 : a.tmps.getD 161 undef = .bool false := hdep 161 (by kernel_rfl)
                      have h170 : a.tmps.getD 170 undef = .bool false := hdep 170 (by kernel_rfl)
                      have h154 : a.tmps.getD 154 undef = .bool true := hdep 154 (by kernel_rfl)
                      refine .inl ⟨⟨154, by kernel_rfl, h154⟩, ?_⟩
                      clear h154
                      have g161 := gd h161
                      have g170 := gd h170
                      go_simp
                      exact Went6.same (HKR.out _ _) hS rfl
                    refine EachOp.cons ?_ ?_
                    · intro L a u hL hst hS hdep hq hno
                      have h154 : a.tmps.getD 154 undef = .bool true := hdep 154 (by kernel_rfl)
                      have h171 : a.tmps.getD 171 undef = .bool false := hdep 171 (by kernel_rfl)
                      refine .inl ⟨trivial, ?_⟩
                      have g154 := gd h154
                      have g171 := gd h171
                      go_simp
                      exact Went6.same (HKR.out _ _) hS rfl
                    exact EachOp.nil
                  · intro L a u hLs hst hS hdep
                    have h152 : a.tmps.getD 152 undef = .bool false := hdep 152 (by kernel_rfl)
                    have h153 : a.tmps.getD 153 undef = .bool true := hdep 153 (by kernel_rfl)
                    have h154 : a.tmps.getD 154 undef = .bool true := hdep 154 (by kernel_rfl)
                    have h155 : a.tmps.getD 155 undef = .pointer (some ⟨t16, 3, none⟩) := hdep 155 (by kernel_rfl)
                    have h156 : a.tmps.getD 156 undef = .int .u64 y.p := hdep 156 (by kernel_rfl)
                    have h157 : a.tmps.getD 157 undef = .slice (some ad5) lf df := hdep 157 (by kernel_rfl)
                    have h158 : a.tmps.getD 158 undef = .int .i64 lf := hdep 158 (by kernel_rfl)
                    have h159 : a.tmps.getD 159 undef = .int .u64 lf := hdep 159 (by kernel_rfl)
                    have h160 : a.tmps.getD 160 undef = .bool false := hdep 160 (by kernel_rfl)
                    have h161 : a.tmps.getD 161 undef = .bool false := hdep 161 (by kernel_rfl)
                    have h162 : a.tmps.getD 162 undef = .slice (some ad5) lf df := hdep 162 (by kernel_rfl)
                    have h163 : a.tmps.getD 163 undef = .pointer (some ⟨t16, 3, none⟩) := hdep 163 (by kernel_rfl)
                    have h164 : a.tmps.getD 164 undef = .int .u64 y.p := hdep 164 (by kernel_rfl)
                    have h165 : a.tmps.getD 165 undef = .int .u64 yi := hdep 165 (by kernel_rfl)
                    have h166 : a.tmps.getD 166 undef = .pointer (some (ad5.add (yi * 2))) := hdep 166 (by kernel_rfl)
                    have h167 : a.tmps.getD 167 undef = .agg #[.int .u64 y.x.e, .string y.x.t] := hdep 167 (by kernel_rfl)
                    have h168 : a.tmps.getD 168 undef = .pointer (some ⟨t16, 0, none⟩) := hdep 168 (by kernel_rfl)
                    have h169 : a.tmps.getD 169 undef = .agg #[.int .u64 y.x.e, .string y.x.t] := hdep 169 (by kernel_rfl)
                    have h170 : a.tmps.getD 170 undef = .bool false := hdep 170 (by kernel_rfl)
                    have h171 : a.tmps.getD 171 undef = .bool false := hdep 171 (by kernel_rfl)
                    have h172 : a.tmps.getD 172 undef = .bool false := hdep 172 (by kernel_rfl)
                    have hfr := hst.frame [(152, .bool false), (153, .bool true), (154, .bool true), (155, .pointer (some ⟨t16, 3, none⟩)), (156, .int .u64 y.p), (157, .slice (some ad5) lf df), (158, .int .i64 lf), (159, .int .u64 lf), (160, .bool false), (161, .bool false), (162, .slice (some ad5) lf df), (163, .pointer (some ⟨t16, 3, none⟩)), (164, .int .u64 y.p), (165, .int .u64 yi), (166, .pointer (some (ad5.add (yi * 2)))), (167, .agg #[.int .u64 y.x.e, .string y.x.t]), (168, .pointer (some ⟨t16, 0, none⟩)), (169, .agg #[.int .u64 y.x.e, .string y.x.t]), (170, .bool false), (171, .bool false), (172, .bool false)] (by kernel_rfl) ⟨h152, h153, h154, h155, h156, h157, h158, h159, h160, h161, h162, h163, h164, h165, h166, h167, h168, h169, h170, h171, h172, trivial⟩
                    clear hst hdep h152 h153 h154 h155 h156 h157 h158 h159 h160 h161 h162 h163 h164 h165 h166 h167 h168 h169 h170 h171 h172
                    subst hfr
                    simp only [List.foldl_cons, List.foldl_nil, List.setIfInBounds_toArray, List.set_cons_zero, List.set_cons_succ]
                    have H9 := Lib.hid ((HG2.out _).2 (((HG3.out _).1 hS).less (l' := []) (fun _ h => h) (fun _ h => nomatch h) (fun _ h => h) (fun _ h => h)))
                    clear hS hLs
                    go_wp2_with fail
                    go_roundw
                    case rel => exact ⟨j + 1, by omega, by go_num, H9⟩
                    case measure => simp [intOf]; omega
          · have HE := Lib.hid (((HG2.out wr).1 hg.out).less (rs' := []) (fun _ h => h) (fun _ h => h) (fun _ h => nomatch h) (fun _ h => h))
            clear hg
            go_wp2_with fail
            go_roundw
            case rel => exact ⟨k + 1, c, ps2, ws2, Ap2, Aw2, np2, cp2, nw2, cw2, by omega, rfl, rfl, by go_num, HIN, HCN2, HKI2, HLS2, HE⟩
            case measure => simp [intOf]; omega
    · have HF := Lib.hid hD.out.low
      clear hD
      go_wp2_with fail
      go_ret
      exact ⟨rfl, HF.out⟩
end
end
end Go.Proofs.YtdhnpmagapbmhaaGreatDoor
