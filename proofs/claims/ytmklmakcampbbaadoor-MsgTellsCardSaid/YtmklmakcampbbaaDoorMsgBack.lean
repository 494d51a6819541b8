/-
  MsgBack answers true for every input: any message comes back from its frame, and any frame from its message. No condition beyond the row's own (the table of package msg as the program's text lays it).
-/
import Derived.Test.YtmklmakcampbbaaDoorAwake3
import Derived.Test.YtmklmakcampbbaaDoorMsgG
import Derived.Test.YtmklmakcampbbaaDoorMsgM
import Derived.Test.YtmklmakcampbbaaDoorOpenM
import Derived.Test.YtmklmakcampbbaaDoorCards
import Derived.Test.YtmklmakcampbbaaDoorTie
import Derived.SevenTiedAt
import Derived.Stop.Joined
namespace Go.Proofs.YtmklmakcampbbaaDoor
open Go.RowKit
set_option maxRecDepth 100000

theorem largeF_no {ns : List Nat} {ts : List ByteArray} (h : largeF ns ts = false) : ns.length ≤ 100 ∧ ts.length ≤ 100 ∧ ∀ t ∈ ts, t.size ≤ 2000 := by
  unfold largeF at h
  simp only [Bool.or_eq_false_iff, decide_eq_false_iff_not, List.any_eq_false, decide_eq_true_eq] at h
  exact ⟨by omega, by omega, fun t ht => by have := h.2.2 t ht; omega⟩

set_option maxHeartbeats 2000000 in
theorem msgBack_any (m : Mg) (k : UInt8) (A : Option Addr) (bs : List UInt8) (l c : Nat) (w : World) (hm : MR w m) (hr : Sl w w.heap.size A l c bs) (_ : c ≤ 140737488351232) (hL : Lay w) :
    Calls Tryd.prog 4 #[m.v, frV k A l c] w fun e w' => e = .returned (.bool true) ∧ Below w.heap.size w w' := by
  obtain ⟨mk, B, n, d, ns, B', n', d', ts⟩ := m
  have hln := hm.ln
  have hlt := hm.lt
  simp only at hln hlt
  have hlen := hr.len
  have k0 : Below w.heap.size w ((w.alloc (.cells #[.int .i64 mk, .slice B n d, .slice B' n' d'] 25)).alloc (.cells #[.int .u8 (k.toNat : Int), .slice A l c] 28)) := kp_alloc (kp_new _ _) _
  obtain ⟨b0, b1⟩ := alloc2 w (.cells #[.int .i64 mk, .slice B n d, .slice B' n' d'] 25) (.cells #[.int .u8 (k.toNat : Int), .slice A l c] 28)
  have hA := awake3 _ (hL.next k0)
  have HA := Lib.hid hA
  have HB0 := Lib.hid b0
  have HB1 := Lib.hid b1
  have z0 := Lib.hid (show w.heap.size + 2 = ((w.alloc (.cells #[.int .i64 mk, .slice B n d, .slice B' n' d'] 25)).alloc (.cells #[.int .u8 (k.toNat : Int), .slice A l c] 28)).heap.size by simp)
  clear hA b0 b1
  unfold Mg.v frV
  simp only
  go_enter Tryd.func4, Tryd.ntmps4
  go_wp2_with fail
  refine HA.out.mono ?_
  rintro e w1 ⟨rfl, k1⟩
  have M1 := (k1.block w.heap.size (by rw [← z0.out]; omega)).trans HB0.out
  have F1 := (k1.block (w.heap.size + 1) (by rw [← z0.out]; omega)).trans HB1.out
  have kw1 := kp_trans k0 k1
  have y1 : w.heap.size + 1 < w1.heap.size := by have := k1.size; rw [← z0.out] at this; omega
  clear HA HB0 HB1 z0 k0 k1
  have hG := large_any ⟨mk, B, n, d, ns, B', n', d', ts⟩ w1 (hm.next kw1) _ (Lib.hid rfl)
  unfold Mg.v at hG
  simp only at hG
  cases hlg : largeF ns ts
  focus
    rw [hlg] at hG
    have HG := Lib.hid hG
    clear hG
    obtain ⟨x0, x1, x2, _, _, _⟩ := three_cells M1
    go_wp2_with fail
    refine HG.out.mono ?_
    rintro e w2 ⟨rfl, k2⟩
    have M2 := (k2.block _ (by omega)).trans M1
    have F2 := (k2.block _ y1).trans F1
    have kw2 := kp_trans kw1 k2
    have y2 : w.heap.size + 1 < w2.heap.size := Nat.lt_of_lt_of_le y1 k2.size
    clear M1 F1 kw1 k2 y1 x0 x1 x2 HG
    by_cases h2000 : 2000 < l
    · have e1 : decide ((2000 : Int) < (l : Int)) = true := by simp; omega
      obtain ⟨f0, f1, _, _⟩ := two_cells F2
      go_wp2_with fail
      go_ret
      exact ⟨rfl, kw2⟩
    · have e1 : decide ((2000 : Int) < (l : Int)) = false := by simp; omega
      obtain ⟨f0, f1, _, _⟩ := two_cells F2
      obtain ⟨x0, x1, x2, _, _, _⟩ := three_cells M2
      obtain ⟨gn, gt, _⟩ := largeF_no hlg
      have hF := frame_any ⟨mk, B, n, d, ns, B', n', d', ts⟩ w2 (hm.next kw2) (hL.next kw2) (by simp only; omega) (by simp only; omega)
      unfold AnsM Mg.v frV at hF
      simp only at hF
      have hRt := fun w4 (kk : Below w2.heap.size w2 w4) => right_any ⟨mk, B, n, d, ns, B', n', d', ts⟩ w4 ((hm.next kw2).next kk) ((hL.next kw2).next kk) (by simp only; omega) (by simp only; omega) _ (Lib.hid rfl)
      unfold Mg.v at hRt
      simp only at hRt
      have HM2 := Lib.hid M2
      have HF2 := Lib.hid F2
      have e0 : ((0 : UInt8).toNat : Int) = 0 := rfl
      rcases frameF_cases mk ns ts with ⟨hri, hfr⟩ | ⟨hri, hl3, hfr⟩ | ⟨hri, hl3, hfr⟩
      focus
        rw [hri] at hRt
        rw [hfr] at hF
        simp only [e0] at hF
        have HF := Lib.hid hF
        have HRt := Lib.hid hRt
        clear hF hRt hfr hri
        go_wp2_with fail
        refine HF.out.mono ?_
        rintro e w3 ⟨A3, l3, c3, rfl, ho3, k3⟩
        have M3 := (k3.block _ (by omega)).trans HM2.out
        obtain ⟨q0, q1, q2, _, _, _⟩ := three_cells M3
        have y3 : w.heap.size < w3.heap.size := by have := k3.size; omega
        clear x0 x1 x2 f0 f1 M3 HF
        go_wp2_with fail
        refine (HRt.out _ (kp_alloc k3 _)).mono ?_
        rintro e w4 ⟨rfl, k4⟩
        have k24 := kp_trans (kp_alloc k3 (.cells #[.int .u8 0, .slice A3 l3 c3] 28)) k4
        have F4 := (k24.block _ y2).trans HF2.out
        obtain ⟨f0, f1, _, _⟩ := two_cells F4
        clear q0 q1 q2 k3 k4 HRt ho3
        have kz := k24
        have yz : w.heap.size + 1 < w4.heap.size := Nat.lt_of_lt_of_le y2 k24.size
        have FZ := Lib.hid F4
        clear k24 F4
        obtain ⟨wz, hwz⟩ : ∃ x, x = w4 := ⟨_, rfl⟩
        subst hwz
        go_wp2_with fail
      rotate_left
      focus
        rw [hri] at hRt
        rw [hfr] at hF
        simp only [e0] at hF
        have HF := Lib.hid hF
        have HRt := Lib.hid hRt
        clear hF hRt hfr hri hl3
        go_wp2_with fail
        refine HF.out.mono ?_
        rintro e w3 ⟨A3, l3, c3, rfl, ho3, k3⟩
        have M3 := (k3.block _ (by omega)).trans HM2.out
        obtain ⟨q0, q1, q2, _, _, _⟩ := three_cells M3
        have y3 : w.heap.size < w3.heap.size := by have := k3.size; omega
        clear x0 x1 x2 f0 f1 M3 HF
        go_wp2_with fail
        refine (HRt.out _ (kp_alloc k3 _)).mono ?_
        rintro e w4 ⟨rfl, k4⟩
        have k24 := kp_trans (kp_alloc k3 (.cells #[.int .u8 0, .slice A3 l3 c3] 28)) k4
        have F4 := (k24.block _ y2).trans HF2.out
        obtain ⟨f0, f1, _, _⟩ := two_cells F4
        clear q0 q1 q2 k3 k4 HRt ho3
        have kz := k24
        have yz : w.heap.size + 1 < w4.heap.size := Nat.lt_of_lt_of_le y2 k24.size
        have FZ := Lib.hid F4
        clear k24 F4
        obtain ⟨wz, hwz⟩ : ∃ x, x = w4 := ⟨_, rfl⟩
        subst hwz
        go_wp2_with fail
      rotate_left
      focus
        obtain ⟨hof, hgk⟩ := ofF_back hri hl3
        rw [hri] at hRt
        rw [hfr] at hF
        simp only at hF
        generalize UInt8.ofNat mk.toNat = g8 at *
        generalize layF mk.toNat ns ts = body at *
        have HF := Lib.hid hF
        have HRt := Lib.hid hRt
        have HOF := Lib.hid hof
        have HL3 := Lib.hid hl3
        have HGK := Lib.hid hgk
        clear hF hRt hfr hri hl3 hof hgk
        go_wp2_with fail
        refine HF.out.mono ?_
        rintro e w3 ⟨A3, l3, c3, rfl, ho3, k3⟩
        have M3 := (k3.block _ (by omega)).trans HM2.out
        obtain ⟨q0, q1, q2, _, _, _⟩ := three_cells M3
        have y3 : w.heap.size < w3.heap.size := by have := k3.size; omega
        clear x0 x1 x2 f0 f1 HF
        go_wp2_with fail
        refine (HRt.out _ (kp_alloc k3 _)).mono ?_
        rintro e w4 ⟨rfl, k4⟩
        have k34 := kp_trans (kp_new w3 (.cells #[.int .u8 (g8.toNat : Int), .slice A3 l3 c3] 28)) k4
        have k24 := kp_trans k3 k34
        have G4 := (k4.block w3.heap.size (by simp)).trans (heap_alloc_new w3 (.cells #[.int .u8 (g8.toNat : Int), .slice A3 l3 c3] 28))
        obtain ⟨g0, g1, _, _⟩ := two_cells G4
        have ho4 := ho3.next k34
        have M4 := (k24.block _ (by omega)).trans HM2.out
        have F4 := (k24.block _ y2).trans HF2.out
        have y4 : w.heap.size + 1 < w4.heap.size := Nat.lt_of_lt_of_le y2 k24.size
        have hO := of_any g8 A3 body l3 c3 w4 ho4.sl (by have := ho4.len; have := HL3.out; omega) ((hL.next kw2).next k24)
        rw [HOF.out] at hO
        unfold AnsO frV at hO
        have HO := Lib.hid hO
        clear q0 q1 q2 k3 k4 HRt ho3 hO M3 G4 y3
        go_wp2_with fail
        refine HO.out.mono ?_
        rintro e w5 ⟨⟨q5, A5, l5, c5, ns5, D5, m5, d5, ts5⟩, rfl, hs5, hm5, k5⟩
        simp only [saysO, Prod.mk.injEq] at hs5
        obtain ⟨rfl, rfl, rfl⟩ := hs5
        simp only [Mg.v, Option.isSome_some, if_true]
        have M5 := Lib.hid ((k5.block _ (by omega)).trans M4)
        have F5 := Lib.hid ((k5.block _ y4).trans F4)
        have k25 := kp_trans k24 k5
        have y5 : w.heap.size + 1 < w5.heap.size := Nat.lt_of_lt_of_le y4 k5.size
        have kn5 := kp_new w5 (.cells #[.int .i64 (g8.toNat : Int), .slice A5 l5 c5, .slice D5 m5 d5] 25)
        have hS := msame_any ⟨(g8.toNat : Int), A5, l5, c5, ns5, D5, m5, d5, ts5⟩ ⟨mk, B, n, d, ns5, B', n', d', ts5⟩ _ (hm5.mr.next kn5) (((hm.next kw2).next k25).next kn5) (by have := hm5.mr.ln; simp only at this ⊢; omega) (by have := hm5.mr.lt; simp only at this ⊢; omega) true (Lib.hid (by simp [Mg.says, HGK.out]))
        unfold Mg.v at hS
        simp only at hS
        have HS := Lib.hid hS
        have hM5 := M5.out
        obtain ⟨q0, q1, q2, _, _, _⟩ := three_cells hM5
        have y5' : w.heap.size < w5.heap.size := by omega
        clear hS g0 g1 M4 F4 k24 k5 HO ho4 hm5 y4 k34 hM5
        go_wp2_with fail
        refine HS.out.mono ?_
        rintro e w6 ⟨rfl, k6⟩
        have k26 := kp_trans (kp_trans k25 kn5) k6
        have F6 := ((kp_trans kn5 k6).block _ y5).trans F5.out
        obtain ⟨f0, f1, _, _⟩ := two_cells F6
        clear q0 q1 q2 k25 kn5 k6 M5 F5 y5 y5' HS
        have kz := k26
        have yz : w.heap.size + 1 < w6.heap.size := Nat.lt_of_lt_of_le y2 k26.size
        have FZ := Lib.hid F6
        clear k26 F6
        obtain ⟨wz, hwz⟩ : ∃ x, x = w6 := ⟨_, rfl⟩
        subst hwz
        go_wp2_with fail
      rotate_left
      all_goals
        have kwz := kp_trans kw2 kz
        have hO := of_any k A bs l c wz (hr.next kwz) (by omega) (hL.next kwz)
        have hnf := fun x => @frameF_back k bs x
        unfold AnsO frV at hO
        have HNF := Lib.hid hnf
        clear f0 f1 hnf
        rcases hq : ofF k bs with _ | ⟨ms, us⟩
        · rw [hq] at hO
          have HO := Lib.hid hO
          clear hO hq
          refine HO.out.mono ?_
          rintro e wa ⟨⟨qa, Aa, la, ca, nsa, Da, ma, da, tsa⟩, rfl, hsa, hma, ka⟩
          simp only [saysO, Prod.mk.injEq] at hsa
          obtain ⟨rfl, rfl, rfl⟩ := hsa
          obtain rfl : la = 0 := by have := hma.mr.ln; simpa using this.symm
          obtain rfl : ma = 0 := by have := hma.mr.lt; simpa using this.symm
          simp only [Mg.v, Option.isSome_none, Bool.false_eq_true, if_false]
          go_wp2_with fail
          go_ret
          exact ⟨rfl, kp_alloc (kp_trans kwz ka) _⟩
        · obtain ⟨hri', hfr'⟩ := HNF.out _ hq
          obtain ⟨lna, lta⟩ := ofF_len hq
          rw [hq] at hO
          have HO := Lib.hid hO
          clear hO hq
          refine HO.out.mono ?_
          rintro e wa ⟨⟨qa, Aa, la, ca, nsa, Da, ma, da, tsa⟩, rfl, hsa, hma, ka⟩
          simp only [saysO, Prod.mk.injEq] at hsa
          obtain ⟨rfl, rfl, rfl⟩ := hsa
          simp only [Mg.v, Option.isSome_some, if_true]
          have kna := kp_new wa (.cells #[.int .i64 (k.toNat : Int), .slice Aa la ca, .slice Da ma da] 25)
          have hla : la ≤ 100000 := by have := hma.mr.ln; simp only at this lna; omega
          have hma' : ma ≤ 100000 := by have := hma.mr.lt; simp only at this lta; omega
          have hFa := frame_any ⟨(k.toNat : Int), Aa, la, ca, nsa, Da, ma, da, tsa⟩ _ (hma.mr.next kna) ((hL.next (kp_trans kwz ka)).next kna) (by simp only; omega) (by simp only; omega)
          unfold AnsM Mg.v frV at hFa
          simp only [hfr'] at hFa
          have HFa := Lib.hid hFa
          have FA := Lib.hid ((ka.block _ yz).trans FZ.out)
          have ya : w.heap.size + 1 < wa.heap.size := Nat.lt_of_lt_of_le yz ka.size
          have hra := hr.next (kp_trans kwz ka)
          have HRI := Lib.hid hri'
          have hLa := hL.next (kp_trans kwz ka)
          have kwa := kp_trans kwz ka
          clear hFa HO ka kz kwz FZ hri' hfr'
          go_wp2_with fail
          refine HFa.out.mono ?_
          rintro e wb ⟨Ab, lb, cb, rfl, hob, kb⟩
          have kab := kp_trans kna kb
          have NB := (kb.block wa.heap.size (by simp)).trans (heap_alloc_new wa (.cells #[.int .i64 (k.toNat : Int), .slice Aa la ca, .slice Da ma da] 25))
          have FB := (kab.block _ ya).trans FA.out
          have yb : w.heap.size + 1 < wb.heap.size := Nat.lt_of_lt_of_le ya kab.size
          have yna : wa.heap.size < wb.heap.size := (Array.getElem?_eq_some_iff.1 NB).1
          obtain ⟨f0, f1, _, _⟩ := two_cells FB
          have knb := kp_new wb (.cells #[.int .u8 (k.toNat : Int), .slice Ab lb cb] 28)
          have hsm := fsame_any k k Ab A bs bs lb cb l c _ (hob.sl.next knb) ((hra.next kab).next knb) true (Lib.hid (by simp))
          unfold frV at hsm
          have HSM := Lib.hid hsm
          have HNB := Lib.hid NB
          clear hsm HFa FA NB FB hob
          go_wp2_with fail
          refine HSM.out.mono ?_
          rintro e wc ⟨rfl, kc⟩
          have kbc := kp_trans knb kc
          obtain ⟨n0, n1, n2, _, _, _⟩ := three_cells ((kbc.block _ yna).trans HNB.out)
          have kac := kp_trans kab kbc
          have hRc := right_any ⟨(k.toNat : Int), Aa, la, ca, nsa, Da, ma, da, tsa⟩ wc (hma.mr.next kac) (hLa.next kac) (by simp only; omega) (by simp only; omega) true HRI
          unfold Mg.v at hRc
          simp only at hRc
          have HRc := Lib.hid hRc
          clear hRc HSM f0 f1 HNB
          go_wp2_with fail
          refine HRc.out.mono ?_
          rintro e wd ⟨rfl, kd⟩
          go_wp2_with fail
          go_ret
          exact ⟨rfl, kp_trans kwa (kp_trans kac kd)⟩
  focus
    rw [hlg] at hG
    have HG := Lib.hid hG
    clear hG
    obtain ⟨x0, x1, x2, _, _, _⟩ := three_cells M1
    go_wp2_with fail
    refine HG.out.mono ?_
    rintro e w2 ⟨rfl, k2⟩
    go_wp2_with fail
    go_ret
    exact ⟨rfl, kp_trans kw1 k2⟩

namespace MsgBack
open Go.ChangeShapes Go.WideShapes Go.ChangeAt
open Go.ChangeMaps (open_string)

theorem contract (H : Type) (enc : TypeId × Value → H) (W : World) (base : Nat) (args : Array Value) (ds gs : List (DataW H)) (before : List MemPlace)
    (hval : ∀ (j : Nat) t v, Tryd.f4.params[j]? = some t → args[j]? = some v → Value.okWide Tryd.prog W .any base t v)
    (hW : DataW.Whole enc Tryd.prog Tryd.f4.params.toList Rows.msgBackSpec.vars false W args.toList ds gs before)
    (hsz0 : (DataW.weightsEach Tryd.prog (Tryd.f4.params.toList ++ Rows.msgBackSpec.plain.varTypes Tryd.prog) (ds ++ gs)).all (· ≤ reachBytes) = true) (hlaid : laidMetH Tryd.prog laidM W) :
    Calls Tryd.prog 4 args W fun e W' => ∃ v, e = .returned v ∧ Rows.msgBackSpec.post enc Tryd.prog Tryd.f4 false true false false W args v W' := by
  have hW' := hW
  obtain ⟨p, q, hA0, hV, rfl, _, _⟩ := hW
  have hA : DataW.TrodAll enc Tryd.prog W 0 (fun _ => true) true Tryd.f4.params.toList args.toList ds p := hA0
  have hsz : (DataW.weightsEach Tryd.prog (Tryd.f4.params.toList ++ Rows.msgBackSpec.plain.varTypes Tryd.prog) (ds ++ gs)).all (· ≤ reachBytes) = true := hsz0
  clear hsz0
  rw [Tryd.params4] at hA hval hsz
  obtain ⟨v0, vs0, d0, ds0, p0, q0, hargs, rfl, rfl, h0, t0⟩ := trodAll_cons hA
  obtain ⟨v1, vs1, d1, ds1, p1, q1, rfl, rfl, rfl, h1, t1⟩ := trodAll_cons t0
  obtain ⟨rfl, rfl, rfl⟩ := trodAll_nil t1
  obtain rfl : args = #[v0, v1] := by cases args; simp_all
  obtain ⟨rfl, rfl⟩ := trodVars_none hV
  obtain ⟨m0, rfl, r0, g0⟩ := open_msg (hval 0 25 v0 rfl rfl) h0 (light_of hsz (j := 0) rfl rfl)
  obtain ⟨k1, A1, l1, c1, bs1, rfl, r1, g1⟩ := open_frame (hval 1 28 v1 rfl rfl) h1 (light_of hsz (j := 1) rfl rfl)
  have hLay := lay_of_laid hlaid
  clear hlaid
  refine (msgBack_any m0 k1 A1 bs1 l1 c1 W r0 r1 g1 hLay).mono fun e W' ⟨he, hb⟩ => ⟨_, he, ?_⟩
  exact law_post laid0 (by rw [Tryd.params4]; decide +kernel) rfl (by kernel_rfl) Tryd.underlying4 hW' rfl hb

set_option maxRecDepth 100000 in
theorem lifted (os : Os) (started : os.Started) (H : Type) (enc : TypeId × Value → H) :
    ReturnsInHanded {} Tryd.checked os 4 .any (fun w args => (Rows.msgBackSpec.pre enc Tryd.prog Tryd.f4 [] false w args ∧ laidMetH Tryd.prog laidM w) ∧ sizedMet enc Tryd.prog Tryd.f4 (OpenSpec.ofChange Rows.msgBackSpec) false w args) (Rows.msgBackSpec.post enc Tryd.prog Tryd.f4 false true false false) := by
  refine returnsInHanded_of_change_and (C := Tryd.checked) (X := fun w _ => laidMetH Tryd.prog laidM w) (fun _ _ _ hh h => h.of_heap hh) own0 started (by kernel_rfl) Tryd.func4
    (ChangeSpec.witness_shaped (enc := enc) (C := Tryd.checked) (os := os) (X := fun w _ => laidMetH Tryd.prog laidM w) false (World.doorLaid Tryd.prog 2000 os) #[.agg #[.int .i64 0, .slice none 0 0, .slice none 0 0], .agg #[.int .u8 0, .slice none 0 0]] 8 rfl (World.shaped_of_RefB (by kernel_rfl) (by kernel_rfl)) (by kernel_rfl) (by kernel_rfl) (by kernel_rfl) (door_met os _)) ?_
  intro W base args ds gs before hval hW _ hsz hL _
  exact contract H enc W base args ds gs before hval hW hsz hL

theorem row_holds : Rows.MsgBackSaid :=
  OpenClaim.holds_of_wide 4 Tryd.f4 rfl rfl rfl rfl rfl rfl rfl ⟨rfl, rfl, rfl, rfl, rfl⟩ rfl rfl rfl rfl rfl (by kernel_rfl) Tryd.func4 (by kernel_rfl)
    (of_decide_eq_true (by kernel_rfl)) (by unfold Func.isWrapper; first | (rw [if_pos (by decide +kernel)]; kernel_rfl) | (rw [if_neg (by decide +kernel)]; exact ⟨rfl, rfl⟩))
    (fun os started H enc _ => lifted os started H enc)

/-- the tied card: the row's listed variables tied to the program's text -/
theorem card_holds : Rows.MsgBackCardSaid :=
  Claim7.holds_tied_plain_at .later [] [.data] true _ false
    row_holds (fun _ h => by cases h) (by kernel_rfl) (fun _ h => by cases h) msgBack_row_tie rfl ⟨rfl, rfl⟩ (by kernel_rfl) rfl
    (fun f fn hf hfn => by
      obtain rfl : f = 4 := Option.some.inj ((show Tryd.prog.funcNamed "signalman/signalmanlaw03.MsgBack" = some 4 by kernel_rfl).symm.trans hf) |>.symm
      obtain rfl : fn = Tryd.f4 := (Option.some.inj (Tryd.func4.symm.trans hfn)).symm
      exact ⟨by kernel_rfl, fun j t ht => by
        have hm : t ∈ Tryd.f4.params.toList := Array.mem_toList_iff.2 (Array.mem_of_getElem? ht)
        have hall : (Tryd.f4.params.toList.all fun u => !Tryd.prog.wantsStandIn u) = true := by kernel_rfl
        exact (show Tryd.prog.wantsStandIn t = false by simpa using List.all_eq_true.1 hall t hm)⟩)
    (by kernel_rfl)
end MsgBack
end Go.Proofs.YtmklmakcampbbaaDoor
