/-
  MsgTells answers true for every input: the frame and the bytes of any message, the message of any frame, whether any may be, and whether two are the same, are as the document's own functions say. No condition beyond the row's own (the table of package msg as the program's text lays it).
-/
import Derived.Test.YtmklmakcampbbaaDoorMsgBack
import Derived.Test.YtmklmakcampbbaaDoorMsgK
import Derived.Test.YtmklmakcampbbaaDoorMsgL
import Derived.Test.YtmklmakcampbbaaDoorFrameS
import Derived.Test.YtmklmakcampbbaaDoorFrameM
namespace Go.Proofs.YtmklmakcampbbaaDoor
open Go.RowKit
set_option maxRecDepth 100000

theorem alloc3' (w : World) (o o' o'' : Obj) {w2 : World} (k : Below (((w.alloc o).alloc o').alloc o'').heap.size (((w.alloc o).alloc o').alloc o'') w2) : w2.heap[w.heap.size]? = some o ∧ w2.heap[w.heap.size + 1]? = some o' ∧ w2.heap[w.heap.size + 1 + 1]? = some o'' := by
  obtain ⟨h0, h1, h2⟩ := alloc3 w o o' o''
  exact ⟨(k.block _ (by simp <;> omega)).trans h0, (k.block _ (by simp <;> omega)).trans h1, (k.block _ (by simp <;> omega)).trans h2⟩

set_option maxHeartbeats 8000000 in
theorem msgTells_walk (m n : Mg) (k : UInt8) (A : Option Addr) (bs : List UInt8) (l c : Nat) (w : World) (hm : MR w m) (hn : MR w n) (hr : Sl w w.heap.size A l c bs) (hL : Lay w) :
    Calls Tryd.prog 3 #[m.v, n.v, frV k A l c] w fun e w' => e = .returned (.bool true) ∧ Below w.heap.size w w' := by
  obtain ⟨mk, B, p, d, ns, B', p', d', ts⟩ := m
  obtain ⟨nk, D, q, g, ms, D', q', g', us⟩ := n
  have hln := hm.ln
  have hlt := hm.lt
  have hqn := hn.ln
  have hqt := hn.lt
  simp only at hln hlt hqn hqt
  have hlen := hr.len
  have k0 : Below w.heap.size w (((w.alloc (.cells #[.int .i64 mk, .slice B p d, .slice B' p' d'] 25)).alloc (.cells #[.int .i64 nk, .slice D q g, .slice D' q' g'] 25)).alloc (.cells #[.int .u8 (k.toNat : Int), .slice A l c] 28)) := kp_alloc (kp_alloc (kp_new _ _) _) _
  have HA := Lib.hid (awake3 _ (hL.next k0))
  have hal := fun w2 => @alloc3' w (.cells #[.int .i64 mk, .slice B p d, .slice B' p' d'] 25) (.cells #[.int .i64 nk, .slice D q g, .slice D' q' g'] 25) (.cells #[.int .u8 (k.toNat : Int), .slice A l c] 28) w2
  have HAL := Lib.hid hal
  clear hal
  unfold Mg.v frV
  simp only
  go_enter Tryd.func3, Tryd.ntmps3
  go_wp2_with fail
  refine HA.out.mono ?_
  rintro e w1 ⟨rfl, k1⟩
  obtain ⟨M1, N1, F1⟩ := HAL.out w1 k1
  have kw1 := kp_trans k0 k1
  have y1 : w.heap.size + 1 + 1 < w1.heap.size := (Array.getElem?_eq_some_iff.1 F1).1
  clear HA HAL k0 k1
  have hG := large_any ⟨mk, B, p, d, ns, B', p', d', ts⟩ w1 (hm.next kw1) _ (Lib.hid rfl)
  unfold Mg.v at hG
  simp only at hG
  cases hlg : largeF ns ts
  focus
    rw [hlg] at hG
    obtain ⟨gn, gt, _⟩ := largeF_no hlg
    have HG := Lib.hid hG
    obtain ⟨x0, x1, x2, _, _, _⟩ := three_cells M1
    clear hG hlg
    go_wp2_with fail
    refine HG.out.mono ?_
    rintro e w2 ⟨rfl, k2⟩
    have M2 := (k2.block _ (by omega)).trans M1
    have N2 := (k2.block _ (by omega)).trans N1
    have F2 := (k2.block _ y1).trans F1
    have kw2 := kp_trans kw1 k2
    have y2 : w.heap.size + 1 + 1 < w2.heap.size := Nat.lt_of_lt_of_le y1 k2.size
    clear M1 N1 F1 kw1 k2 y1 x0 x1 x2 HG
    have hG := large_any ⟨nk, D, q, g, ms, D', q', g', us⟩ w2 (hn.next kw2) _ (Lib.hid rfl)
    unfold Mg.v at hG
    simp only at hG
    cases hlg : largeF ms us
    focus
      rw [hlg] at hG
      obtain ⟨gn', gt', _⟩ := largeF_no hlg
      have HG := Lib.hid hG
      obtain ⟨x0, x1, x2, _, _, _⟩ := three_cells N2
      clear hG hlg
      go_wp2_with fail
      refine HG.out.mono ?_
      rintro e w3 ⟨rfl, k3⟩
      have M3 := (k3.block _ (by omega)).trans M2
      have N3 := Lib.hid ((k3.block _ (by omega)).trans N2)
      have F3 := (k3.block _ y2).trans F2
      have kw3 := kp_trans kw2 k3
      have y3 : w.heap.size + 1 + 1 < w3.heap.size := Nat.lt_of_lt_of_le y2 k3.size
      clear M2 N2 F2 kw2 k3 y2 x0 x1 x2 HG
      obtain ⟨f0, f1, _, _⟩ := two_cells F3
      by_cases h2000 : 2000 < l
      · have e1 : decide ((2000 : Int) < (l : Int)) = true := by simp; omega
        go_wp2_with fail
        go_ret
        exact ⟨rfl, kw3⟩
      · have e1 : decide ((2000 : Int) < (l : Int)) = false := by simp; omega
        obtain ⟨x0, x1, x2, _, _, _⟩ := three_cells M3
        have hF := frame_any ⟨mk, B, p, d, ns, B', p', d', ts⟩ w3 (hm.next kw3) (hL.next kw3) (by simp only; omega) (by simp only; omega)
        unfold AnsM Mg.v frV at hF
        simp only at hF
        generalize hfr : frameF mk ns ts = fr at *
        obtain ⟨fk, fb, fe⟩ := fr
        simp only at hF
        have HFR := Lib.hid hfr
        have HF := Lib.hid hF
        have M3 := Lib.hid M3
        have F3 := Lib.hid F3
        clear hF hfr
        go_wp2_with fail
        refine HF.out.mono ?_
        rintro e w4 ⟨A4, l4, c4, rfl, ho4, k4⟩
        have K4 := kp_trans k4 (kp_new w4 (.cells #[.int .u8 (fk.toNat : Int), .slice A4 l4 c4] 28))
        have y4 : w.heap.size + 1 + 1 < w4.heap.size := Nat.lt_of_lt_of_le y3 k4.size
        have y4' : w.heap.size < w4.heap.size := by omega
        have M4 := (k4.block _ (by omega)).trans M3.out
        obtain ⟨q0, q1, q2, _, _, _⟩ := three_cells M4
        have hQ := rframe_any ⟨mk, B, p, d, ns, B', p', d', ts⟩ _ ((hm.next kw3).next K4) (by simp only; omega) (by simp only; omega)
        unfold AnsM Mg.v frV at hQ
        simp only [HFR.out] at hQ
        have HQ := Lib.hid hQ
        clear hQ x0 x1 x2 f0 f1 HF
        go_wp2_with fail
        refine HQ.out.mono ?_
        rintro e w5 ⟨A5, l5, c5, rfl, ho5, k5⟩
        have P5 := (k5.block w4.heap.size (by simp)).trans (heap_alloc_new w4 (.cells #[.int .u8 (fk.toNat : Int), .slice A4 l4 c4] 28))
        have K5 := kp_trans k5 (kp_new w5 (.cells #[.int .u8 (fk.toNat : Int), .slice A5 l5 c5] 35))
        have k35 := kp_trans K4 k5
        have K35 := kp_trans K4 K5
        have y5 : w.heap.size + 1 + 1 < w5.heap.size := Nat.lt_of_lt_of_le y3 k35.size
        have y5' : w.heap.size < w5.heap.size := by omega
        have M5 := (k35.block _ (by omega)).trans M3.out
        have hY := mbytes_any ⟨mk, B, p, d, ns, B', p', d', ts⟩ _ ((hm.next kw3).next K35) ((hL.next kw3).next K35) (by simp only; omega) (by simp only; omega)
        unfold AnsY Mg.v at hY
        simp only at hY
        generalize hmb : msgB mk ns ts = mb at *
        obtain ⟨yb, ye⟩ := mb
        simp only at hY
        have HMB := Lib.hid hmb
        have HY := Lib.hid hY
        clear hY q0 q1 q2 HQ hmb M4
        obtain ⟨q0, q1, q2, _, _, _⟩ := three_cells M5
        go_wp2_with fail
        refine HY.out.mono ?_
        rintro e w6 ⟨A6, l6, c6, rfl, ho6, k6⟩
        have Q6 := (k6.block w5.heap.size (by simp)).trans (heap_alloc_new w5 (.cells #[.int .u8 (fk.toNat : Int), .slice A5 l5 c5] 35))
        have K36 := kp_trans K35 k6
        have M6 := (K36.block _ (by omega)).trans M3.out
        have hZ := rmbytes_any ⟨mk, B, p, d, ns, B', p', d', ts⟩ _ ((hm.next kw3).next K36) (by simp only; omega) (by simp only; omega)
        unfold AnsY Mg.v at hZ
        simp only [HMB.out] at hZ
        have HZ := Lib.hid hZ
        clear hZ q0 q1 q2 HY M5
        obtain ⟨q0, q1, q2, _, _, _⟩ := three_cells M6
        go_wp2_with fail
        refine HZ.out.mono ?_
        rintro e w7 ⟨A7, l7, c7, rfl, ho7, k7⟩
        have K37 := kp_trans K36 k7
        have F7 := (K37.block _ y3).trans F3.out
        have hO := of_any k A bs l c _ ((hr.next kw3).next K37) (by omega) ((hL.next kw3).next K37)
        unfold AnsO frV at hO
        generalize hof : ofF k bs = ob at *
        generalize hoe : (if ob.isSome = true then (0 : Int) else 2) = oe at *
        have HOE := Lib.hid hoe
        have HOF := Lib.hid hof
        have HO := Lib.hid hO
        clear hO q0 q1 q2 HZ M6 hof hoe
        obtain ⟨f0, f1, _, _⟩ := two_cells F7
        go_wp2_with fail
        refine HO.out.mono ?_
        rintro e w8 ⟨⟨q8, A8, l8, c8, ns8, D8, m8, d8, ts8⟩, rfl, hs8, hm8, k8⟩
        have K8 := kp_trans k8 (kp_new w8 (.cells #[.int .i64 q8, .slice A8 l8 c8, .slice D8 m8 d8] 25))
        have K38 := kp_trans K37 K8
        have y8 : w.heap.size + 1 + 1 < w8.heap.size := Nat.lt_of_lt_of_le y3 (kp_trans K37 k8).size
        have F8 := ((kp_trans K37 k8).block _ y3).trans F3.out
        have hO := rof_any k A bs l c _ ((hr.next kw3).next K38) (by omega)
        unfold AnsO frV at hO
        simp only [HOF.out, HOE.out] at hO
        have HRO := Lib.hid hO
        clear hO f0 f1 HO F7
        obtain ⟨f0, f1, _, _⟩ := two_cells F8
        simp only [Mg.v]
        go_wp2_with fail
        refine HRO.out.mono ?_
        rintro e w9 ⟨⟨q9, A9, l9, c9, ns9, D9, m9, d9, ts9⟩, rfl, hs9, hm9, k9⟩
        simp only [Mg.v]
        clear f0 f1 HRO F8
        go_wp2_with fail
        have kn9 := kp_new w9 (.cells #[.int .i64 q9, .slice A9 l9 c9, .slice D9 m9 d9] 31)
        have kn8 := kp_new w8 (.cells #[.int .i64 q8, .slice A8 l8 c8, .slice D8 m8 d8] 25)
        have kn5 := kp_new w5 (.cells #[.int .u8 (fk.toNat : Int), .slice A5 l5 c5] 35)
        have kn4 := kp_new w4 (.cells #[.int .u8 (fk.toNat : Int), .slice A4 l4 c4] 28)
        have X8 := heap_alloc_new w8 (.cells #[.int .i64 q8, .slice A8 l8 c8, .slice D8 m8 d8] 25)
        have Y9 := heap_alloc_new w9 (.cells #[.int .i64 q9, .slice A9 l9 c9, .slice D9 m9 d9] 31)
        have zx8 : w8.heap.size < (w8.alloc (.cells #[.int .i64 q8, .slice A8 l8 c8, .slice D8 m8 d8] 25)).heap.size := by simp
        generalize hwz : w9.alloc (.cells #[.int .i64 q9, .slice A9 l9 c9, .slice D9 m9 d9] 31) = wz at *
        have Kc9 := kp_trans k9 kn9
        have K8z := kp_trans K8 Kc9
        have K6z := kp_trans k7 K8z
        have K5z := kp_trans (kp_trans kn5 k6) K6z
        have K4z := kp_trans kn4 (kp_trans k5 K5z)
        have K3z := kp_trans k4 K4z
        have K88 := kp_trans kn8 Kc9
        have zM := (K3z.block _ (by omega)).trans M3.out
        have zN := (K3z.block _ (by omega)).trans N3.out
        have zP := (K5z.block w4.heap.size (Array.getElem?_eq_some_iff.1 P5).1).trans P5
        have zQ := (K6z.block w5.heap.size (Array.getElem?_eq_some_iff.1 Q6).1).trans Q6
        have zX := (Kc9.block w8.heap.size zx8).trans X8
        have z4 := ho4.next K4z
        have z5 := ho5.next K5z
        have z6 := ho6.next K6z
        have z7 := ho7.next K8z
        have z8 := hm8.next K88
        have z9 := hm9.next kn9
        have hmz := (hm.next kw3).next K3z
        have hnz := (hn.next kw3).next K3z
        have hLz := (hL.next kw3).next K3z
        have HK : Hid (∀ u, Below wz.heap.size wz u → (u.cell? ⟨w.heap.size, 0, none⟩ = some (.int .i64 mk) ∧ u.cell? ⟨w.heap.size, 1, none⟩ = some (.slice B p d) ∧ u.cell? ⟨w.heap.size, 2, none⟩ = some (.slice B' p' d')) ∧
            (u.cell? ⟨w.heap.size + 1, 0, none⟩ = some (.int .i64 nk) ∧ u.cell? ⟨w.heap.size + 1, 1, none⟩ = some (.slice D q g) ∧ u.cell? ⟨w.heap.size + 1, 2, none⟩ = some (.slice D' q' g')) ∧
            (u.cell? ⟨w4.heap.size, 0, none⟩ = some (.int .u8 (fk.toNat : Int)) ∧ u.cell? ⟨w4.heap.size, 1, none⟩ = some (.slice A4 l4 c4)) ∧
            (u.cell? ⟨w5.heap.size, 0, none⟩ = some (.int .u8 (fk.toNat : Int)) ∧ u.cell? ⟨w5.heap.size, 1, none⟩ = some (.slice A5 l5 c5)) ∧
            (u.cell? ⟨w8.heap.size, 0, none⟩ = some (.int .i64 q8) ∧ u.cell? ⟨w8.heap.size, 1, none⟩ = some (.slice A8 l8 c8) ∧ u.cell? ⟨w8.heap.size, 2, none⟩ = some (.slice D8 m8 d8)) ∧
            (u.cell? ⟨w9.heap.size, 0, none⟩ = some (.int .i64 q9) ∧ u.cell? ⟨w9.heap.size, 1, none⟩ = some (.slice A9 l9 c9) ∧ u.cell? ⟨w9.heap.size, 2, none⟩ = some (.slice D9 m9 d9))) := Lib.hid fun u hu => by
          have at3 : ∀ {b : Nat} {x y z : Value} {t : TypeId}, wz.heap[b]? = some (.cells #[x, y, z] t (0, 0)) → u.cell? ⟨b, 0, none⟩ = some x ∧ u.cell? ⟨b, 1, none⟩ = some y ∧ u.cell? ⟨b, 2, none⟩ = some z := fun h => by
            obtain ⟨h0, h1, h2, _⟩ := three_cells ((hu.block _ (Array.getElem?_eq_some_iff.1 h).1).trans h)
            exact ⟨h0, h1, h2⟩
          have at2 : ∀ {b : Nat} {x y : Value} {t : TypeId}, wz.heap[b]? = some (.cells #[x, y] t (0, 0)) → u.cell? ⟨b, 0, none⟩ = some x ∧ u.cell? ⟨b, 1, none⟩ = some y := fun h => by
            obtain ⟨h0, h1, _⟩ := two_cells ((hu.block _ (Array.getElem?_eq_some_iff.1 h).1).trans h)
            exact ⟨h0, h1⟩
          exact ⟨at3 zM, at3 zN, at2 zP, at2 zQ, at3 zX, at3 Y9⟩
        obtain ⟨rr, hrr⟩ : ∃ rr, Hid (rightF mk ns ts = rr) := ⟨_, Lib.hid rfl⟩
        obtain ⟨ss, hss⟩ : ∃ ss, Hid (decide ((Mg.says ⟨mk, B, p, d, ns, B', p', d', ts⟩) = Mg.says ⟨nk, D, q, g, ms, D', q', g', us⟩) = ss) := ⟨_, Lib.hid rfl⟩
        have hR1 := fun u (hu : Below wz.heap.size wz u) => right_any ⟨mk, B, p, d, ns, B', p', d', ts⟩ u (hmz.next hu) (hLz.next hu) (by simp only; omega) (by simp only; omega) rr hrr
        have hR2 := fun u (hu : Below wz.heap.size wz u) => rright_any ⟨mk, B, p, d, ns, B', p', d', ts⟩ u (hmz.next hu) (by simp only; omega) (by simp only; omega) rr hrr
        have hS1 := fun u (hu : Below wz.heap.size wz u) => msame_any ⟨mk, B, p, d, ns, B', p', d', ts⟩ ⟨nk, D, q, g, ms, D', q', g', us⟩ u (hmz.next hu) (hnz.next hu) (by simp only; omega) (by simp only; omega) ss hss
        have hS2 := fun u (hu : Below wz.heap.size wz u) => rmsame_any ⟨mk, B, p, d, ns, B', p', d', ts⟩ ⟨nk, D, q, g, ms, D', q', g', us⟩ u (hmz.next hu) (hnz.next hu) (by simp only; omega) (by simp only; omega) ss hss
        have hl8 : ns8.length ≤ 3 ∧ ts8.length ≤ 300 := by
          cases ob with
          | none =>
            simp only [saysO, Prod.mk.injEq] at hs8
            rw [hs8.2.1, hs8.2.2]; simp
          | some x =>
            simp only [saysO, Prod.mk.injEq] at hs8
            rw [hs8.2.1, hs8.2.2]
            exact ofF_len HOF.out
        have hX1 := fun u (hu : Below wz.heap.size wz u) => rmsame_any ⟨q8, A8, l8, c8, ns8, D8, m8, d8, ts8⟩ ⟨q9, A9, l9, c9, ns9, D9, m9, d9, ts9⟩ u (z8.mr.next hu) (z9.mr.next hu) (by have := z8.mr.ln; simp only at this ⊢; omega) (by have := z8.mr.lt; simp only at this ⊢; omega) true (Lib.hid (decide_eq_true (hs8.trans hs9.symm)))
        unfold Mg.v at hR1 hR2 hS1 hS2 hX1
        simp only at hR1 hR2 hS1 hS2 hX1
        have HRight := Lib.hid hR1
        have HRRight := Lib.hid hR2
        have HSame := Lib.hid hS1
        have HRSame := Lib.hid hS2
        have HX := Lib.hid hX1
        have HFB : Hid (fb.length ≤ 1000000) := Lib.hid (by
          rcases frameF_cases mk ns ts with ⟨_, h⟩ | ⟨_, _, h⟩ | ⟨_, h2, h⟩
          · rw [HFR.out] at h; simp only [Prod.mk.injEq] at h; rw [h.2.1]; simp
          · rw [HFR.out] at h; simp only [Prod.mk.injEq] at h; rw [h.2.1]; simp
          · rw [HFR.out] at h; simp only [Prod.mk.injEq] at h; rw [h.2.1]; omega)
        have HL6 : Hid (l6 ≤ 1000000) := Lib.hid (by
          have h1 := z6.len
          have h2 : yb.length ≤ 303 := by
            have h3 : yb = (msgB mk ns ts).1 := by rw [HMB.out]
            rw [h3, msgB]
            split
            · exact bytesF_len _ _
            · simp
          omega)
        clear hR1 hR2 hS1 hS2 hX1 zM zN zP zQ zX X8 Y9 zx8 P5 Q6 hs8 hs9 hm8 hm9 ho4 ho5 ho6 ho7 z8 z9 hmz hnz hLz kn9 kn8 kn5 kn4 Kc9 K8z K6z K5z K4z K88 k4 K4 k5 K5 k35 K35 k6 K36 k7 K37 k8 K8 K38 k9 hwz M3 N3 F3 hm hn hr hL
        refine wp_region_specs (S := fun u => Below wz.heap.size wz u) (Sp := [(63, Stb.eq (.agg #[.int .i64 mk, .slice B p d, .slice B' p' d'])), (64, Stb.eq (.bool rr)), (65, Stb.eq (.agg #[.int .i64 mk, .slice B p d, .slice B' p' d'])), (66, Stb.eq (.bool rr)), (67, Stb.eq (.bool true)), (68, Stb.eq (.bool true)), (69, Stb.eq (.agg #[.int .u8 (fk.toNat : Int), .slice A4 l4 c4])), (70, rowStb ([.int .u8 (fk.toNat : Int), .slice A4 l4 c4])), (71, Stb.eq (.agg #[.int .u8 (fk.toNat : Int), .slice A5 l5 c5])), (72, rowStb ([.int .u8 (fk.toNat : Int), .slice A5 l5 c5])), (73, Stb.eq (.bool true)), (74, Stb.eq (.bool true)), (75, Stb.eq (.bool true)), (76, Stb.eq (.int .i64 fe)), (77, Stb.eq (.int .i64 fe)), (78, Stb.eq (.bool true)), (79, Stb.eq (.bool true)), (80, Stb.eq (.bool true)), (81, Stb.eq (.slice A6 l6 c6)), (82, Stb.eq (.slice A7 l7 c7)), (83, Stb.eq (.bool true)), (84, Stb.eq (.bool true)), (85, Stb.eq (.bool true)), (86, Stb.eq (.int .i64 ye)), (87, Stb.eq (.int .i64 ye)), (88, Stb.eq (.bool true)), (89, Stb.eq (.bool true)), (90, Stb.eq (.bool true)), (91, Stb.eq (.agg #[.int .i64 q8, .slice A8 l8 c8, .slice D8 m8 d8])), (92, Stb.eq (.agg #[.int .i64 q9, .slice A9 l9 c9, .slice D9 m9 d9])), (93, Stb.eq (.bool true)), (94, Stb.eq (.bool true)), (95, Stb.eq (.bool true)), (96, Stb.eq (.int .i64 oe)), (97, Stb.eq (.int .i64 oe)), (98, Stb.eq (.bool true)), (99, Stb.eq (.bool true)), (100, Stb.eq (.bool true)), (101, Stb.eq (.agg #[.int .i64 mk, .slice B p d, .slice B' p' d'])), (102, Stb.eq (.agg #[.int .i64 nk, .slice D q g, .slice D' q' g'])), (103, Stb.eq (.bool ss)), (104, Stb.eq (.agg #[.int .i64 mk, .slice B p d, .slice B' p' d'])), (105, Stb.eq (.agg #[.int .i64 nk, .slice D q g, .slice D' q' g'])), (106, Stb.eq (.bool ss)), (107, Stb.eq (.bool true)), (108, Stb.eq (.bool true)), (6, Stb.eq (.bool true))]) (by kernel_rfl) (by kernel_rfl) (kp_drewN _ 1) ?_ ?_
        · refine EachOp.cons ?_ ?_
          · intro a u hst hS hdep
            have h3 : a.tmps.getD 3 undef = .pointer (some ⟨w.heap.size, 0, none⟩) := hst.out 3 (by kernel_rfl)
            refine ⟨trivial, ?_⟩
            have g3 := gd h3
            obtain ⟨⟨m0, m1, m2⟩, ⟨n0, n1, n2⟩, ⟨p0, p1⟩, ⟨v0, v1⟩, ⟨r0, r1, r2⟩, ⟨s0, s1, s2⟩⟩ := HK.out u hS
            go_simp
            exact Goes.same hS rfl
          refine EachOp.cons ?_ ?_
          · intro a u hst hS hdep
            have h63 : a.tmps.getD 63 undef = .agg #[.int .i64 mk, .slice B p d, .slice B' p' d'] := hdep 63 (by kernel_rfl)
            refine ⟨trivial, ?_⟩
            have g63 := gd h63
            go_simp
            refine (HRight.out u hS).mono ?_
            rintro e u' ⟨rfl, hb'⟩
            exact Goes.next (kp_trans hS hb') hb' rfl
          refine EachOp.cons ?_ ?_
          · intro a u hst hS hdep
            have h3 : a.tmps.getD 3 undef = .pointer (some ⟨w.heap.size, 0, none⟩) := hst.out 3 (by kernel_rfl)
            refine ⟨trivial, ?_⟩
            have g3 := gd h3
            obtain ⟨⟨m0, m1, m2⟩, ⟨n0, n1, n2⟩, ⟨p0, p1⟩, ⟨v0, v1⟩, ⟨r0, r1, r2⟩, ⟨s0, s1, s2⟩⟩ := HK.out u hS
            go_simp
            exact Goes.same hS rfl
          refine EachOp.cons ?_ ?_
          · intro a u hst hS hdep
            have h65 : a.tmps.getD 65 undef = .agg #[.int .i64 mk, .slice B p d, .slice B' p' d'] := hdep 65 (by kernel_rfl)
            refine ⟨trivial, ?_⟩
            have g65 := gd h65
            go_simp
            refine (HRRight.out u hS).mono ?_
            rintro e u' ⟨rfl, hb'⟩
            exact Goes.next (kp_trans hS hb') hb' rfl
          refine EachOp.cons ?_ ?_
          · intro a u hst hS hdep
            have h64 : a.tmps.getD 64 undef = .bool rr := hdep 64 (by kernel_rfl)
            have h66 : a.tmps.getD 66 undef = .bool rr := hdep 66 (by kernel_rfl)
            refine ⟨trivial, ?_⟩
            have g64 := gd h64
            have g66 := gd h66
            go_simp
            exact Goes.same hS rfl
          refine EachOp.cons ?_ ?_
          · intro a u hst hS hdep
            have h67 : a.tmps.getD 67 undef = .bool true := hdep 67 (by kernel_rfl)
            refine ⟨trivial, ?_⟩
            have g67 := gd h67
            go_simp
            exact Goes.same hS rfl
          refine EachOp.cons ?_ ?_
          · intro a u hst hS hdep
            have h7 : a.tmps.getD 7 undef = .pointer (some ⟨w4.heap.size, 0, none⟩) := hst.out 7 (by kernel_rfl)
            have h68 : a.tmps.getD 68 undef = .bool true := hdep 68 (by kernel_rfl)
            refine ⟨⟨68, by kernel_rfl, h68⟩, ?_⟩
            clear h68
            have g7 := gd h7
            obtain ⟨⟨m0, m1, m2⟩, ⟨n0, n1, n2⟩, ⟨p0, p1⟩, ⟨v0, v1⟩, ⟨r0, r1, r2⟩, ⟨s0, s1, s2⟩⟩ := HK.out u hS
            go_simp
            exact Goes.same hS rfl
          refine EachOp.cons ?_ ?_
          · intro a u hst hS hdep
            have h69 : a.tmps.getD 69 undef = .agg #[.int .u8 (fk.toNat : Int), .slice A4 l4 c4] := hdep 69 (by kernel_rfl)
            have h68 : a.tmps.getD 68 undef = .bool true := hdep 68 (by kernel_rfl)
            refine ⟨⟨68, by kernel_rfl, h68⟩, ?_⟩
            clear h68
            have g69 := gd h69
            go_simp
            refine Goes.next (kp_alloc hS _) (kp_new _ _) ?_; exact ⟨_, rfl, rdn u 35 _ rfl [.int .u8 (fk.toNat : Int), .slice A4 l4 c4]⟩
          refine EachOp.cons ?_ ?_
          · intro a u hst hS hdep
            have h9 : a.tmps.getD 9 undef = .pointer (some ⟨w5.heap.size, 0, none⟩) := hst.out 9 (by kernel_rfl)
            have h68 : a.tmps.getD 68 undef = .bool true := hdep 68 (by kernel_rfl)
            refine ⟨⟨68, by kernel_rfl, h68⟩, ?_⟩
            clear h68
            have g9 := gd h9
            obtain ⟨⟨m0, m1, m2⟩, ⟨n0, n1, n2⟩, ⟨p0, p1⟩, ⟨v0, v1⟩, ⟨r0, r1, r2⟩, ⟨s0, s1, s2⟩⟩ := HK.out u hS
            go_simp
            exact Goes.same hS rfl
          refine EachOp.cons ?_ ?_
          · intro a u hst hS hdep
            have h71 : a.tmps.getD 71 undef = .agg #[.int .u8 (fk.toNat : Int), .slice A5 l5 c5] := hdep 71 (by kernel_rfl)
            have h68 : a.tmps.getD 68 undef = .bool true := hdep 68 (by kernel_rfl)
            refine ⟨⟨68, by kernel_rfl, h68⟩, ?_⟩
            clear h68
            have g71 := gd h71
            go_simp
            refine Goes.next (kp_alloc hS _) (kp_new _ _) ?_; exact ⟨_, rfl, rdn u 35 _ rfl [.int .u8 (fk.toNat : Int), .slice A5 l5 c5]⟩
          refine EachOp.cons ?_ ?_
          · intro a u hst hS hdep
            obtain ⟨n70, h70, r70⟩ := hdep 70 (by kernel_rfl)
            obtain ⟨n72, h72, r72⟩ := hdep 72 (by kernel_rfl)
            have h68 : a.tmps.getD 68 undef = .bool true := hdep 68 (by kernel_rfl)
            refine ⟨⟨68, by kernel_rfl, h68⟩, ?_⟩
            clear h68
            have g70 := gd h70
            have g72 := gd h72
            go_simp
            refine (rsame_kp _ _ [⟨fk, ⟨A4, l4, c4, fb⟩⟩] [⟨fk, ⟨A5, l5, c5, fb⟩⟩] _ _ _ _ _ (fr1 fk A4 l4 c4 fb r70 (z4.sl.next hS)) (fr1 fk A5 l5 c5 fb r72 (z5.sl.next hS)) (by omega) (by simpa using HFB.out) true (Lib.hid (by simp [says, Rep.says]))).mono ?_
            rintro e u' ⟨rfl, hb'⟩
            exact Goes.next (kp_trans hS hb') hb' rfl
          refine EachOp.cons ?_ ?_
          · intro a u hst hS hdep
            have h68 : a.tmps.getD 68 undef = .bool true := hdep 68 (by kernel_rfl)
            have h73 : a.tmps.getD 73 undef = .bool true := hdep 73 (by kernel_rfl)
            refine ⟨trivial, ?_⟩
            have g68 := gd h68
            have g73 := gd h73
            go_simp
            exact Goes.same hS rfl
          refine EachOp.cons ?_ ?_
          · intro a u hst hS hdep
            have h74 : a.tmps.getD 74 undef = .bool true := hdep 74 (by kernel_rfl)
            refine ⟨trivial, ?_⟩
            have g74 := gd h74
            go_simp
            exact Goes.same hS rfl
          refine EachOp.cons ?_ ?_
          · intro a u hst hS hdep
            have h8 : a.tmps.getD 8 undef = .int .i64 fe := hst.out 8 (by kernel_rfl)
            have h75 : a.tmps.getD 75 undef = .bool true := hdep 75 (by kernel_rfl)
            refine ⟨⟨75, by kernel_rfl, h75⟩, ?_⟩
            clear h75
            have g8 := gd h8
            go_simp
            exact Goes.same hS rfl
          refine EachOp.cons ?_ ?_
          · intro a u hst hS hdep
            have h10 : a.tmps.getD 10 undef = .int .i64 fe := hst.out 10 (by kernel_rfl)
            have h75 : a.tmps.getD 75 undef = .bool true := hdep 75 (by kernel_rfl)
            refine ⟨⟨75, by kernel_rfl, h75⟩, ?_⟩
            clear h75
            have g10 := gd h10
            go_simp
            exact Goes.same hS rfl
          refine EachOp.cons ?_ ?_
          · intro a u hst hS hdep
            have h76 : a.tmps.getD 76 undef = .int .i64 fe := hdep 76 (by kernel_rfl)
            have h77 : a.tmps.getD 77 undef = .int .i64 fe := hdep 77 (by kernel_rfl)
            have h75 : a.tmps.getD 75 undef = .bool true := hdep 75 (by kernel_rfl)
            refine ⟨⟨75, by kernel_rfl, h75⟩, ?_⟩
            clear h75
            have g76 := gd h76
            have g77 := gd h77
            go_simp
            exact Goes.same hS rfl
          refine EachOp.cons ?_ ?_
          · intro a u hst hS hdep
            have h75 : a.tmps.getD 75 undef = .bool true := hdep 75 (by kernel_rfl)
            have h78 : a.tmps.getD 78 undef = .bool true := hdep 78 (by kernel_rfl)
            refine ⟨trivial, ?_⟩
            have g75 := gd h75
            have g78 := gd h78
            go_simp
            exact Goes.same hS rfl
          refine EachOp.cons ?_ ?_
          · intro a u hst hS hdep
            have h79 : a.tmps.getD 79 undef = .bool true := hdep 79 (by kernel_rfl)
            refine ⟨trivial, ?_⟩
            have g79 := gd h79
            go_simp
            exact Goes.same hS rfl
          refine EachOp.cons ?_ ?_
          · intro a u hst hS hdep
            have h11 : a.tmps.getD 11 undef = .slice A6 l6 c6 := hst.out 11 (by kernel_rfl)
            have h80 : a.tmps.getD 80 undef = .bool true := hdep 80 (by kernel_rfl)
            refine ⟨⟨80, by kernel_rfl, h80⟩, ?_⟩
            clear h80
            have g11 := gd h11
            go_simp
            exact Goes.same hS rfl
          refine EachOp.cons ?_ ?_
          · intro a u hst hS hdep
            have h13 : a.tmps.getD 13 undef = .slice A7 l7 c7 := hst.out 13 (by kernel_rfl)
            have h80 : a.tmps.getD 80 undef = .bool true := hdep 80 (by kernel_rfl)
            refine ⟨⟨80, by kernel_rfl, h80⟩, ?_⟩
            clear h80
            have g13 := gd h13
            go_simp
            exact Goes.same hS rfl
          refine EachOp.cons ?_ ?_
          · intro a u hst hS hdep
            have h81 : a.tmps.getD 81 undef = .slice A6 l6 c6 := hdep 81 (by kernel_rfl)
            have h82 : a.tmps.getD 82 undef = .slice A7 l7 c7 := hdep 82 (by kernel_rfl)
            have h80 : a.tmps.getD 80 undef = .bool true := hdep 80 (by kernel_rfl)
            refine ⟨⟨80, by kernel_rfl, h80⟩, ?_⟩
            clear h80
            have g81 := gd h81
            have g82 := gd h82
            go_simp
            refine (same_kp _ _ yb yb _ _ _ _ _ _ _ (z6.sl.next hS) (z7.sl.next hS) HL6.out true (Lib.hid (by simp))).mono ?_
            rintro e u' ⟨rfl, hb'⟩
            exact Goes.next (kp_trans hS hb') hb' rfl
          refine EachOp.cons ?_ ?_
          · intro a u hst hS hdep
            have h80 : a.tmps.getD 80 undef = .bool true := hdep 80 (by kernel_rfl)
            have h83 : a.tmps.getD 83 undef = .bool true := hdep 83 (by kernel_rfl)
            refine ⟨trivial, ?_⟩
            have g80 := gd h80
            have g83 := gd h83
            go_simp
            exact Goes.same hS rfl
          refine EachOp.cons ?_ ?_
          · intro a u hst hS hdep
            have h84 : a.tmps.getD 84 undef = .bool true := hdep 84 (by kernel_rfl)
            refine ⟨trivial, ?_⟩
            have g84 := gd h84
            go_simp
            exact Goes.same hS rfl
          refine EachOp.cons ?_ ?_
          · intro a u hst hS hdep
            have h12 : a.tmps.getD 12 undef = .int .i64 ye := hst.out 12 (by kernel_rfl)
            have h85 : a.tmps.getD 85 undef = .bool true := hdep 85 (by kernel_rfl)
            refine ⟨⟨85, by kernel_rfl, h85⟩, ?_⟩
            clear h85
            have g12 := gd h12
            go_simp
            exact Goes.same hS rfl
          refine EachOp.cons ?_ ?_
          · intro a u hst hS hdep
            have h14 : a.tmps.getD 14 undef = .int .i64 ye := hst.out 14 (by kernel_rfl)
            have h85 : a.tmps.getD 85 undef = .bool true := hdep 85 (by kernel_rfl)
            refine ⟨⟨85, by kernel_rfl, h85⟩, ?_⟩
            clear h85
            have g14 := gd h14
            go_simp
            exact Goes.same hS rfl
          refine EachOp.cons ?_ ?_
          · intro a u hst hS hdep
            have h86 : a.tmps.getD 86 undef = .int .i64 ye := hdep 86 (by kernel_rfl)
            have h87 : a.tmps.getD 87 undef = .int .i64 ye := hdep 87 (by kernel_rfl)
            have h85 : a.tmps.getD 85 undef = .bool true := hdep 85 (by kernel_rfl)
            refine ⟨⟨85, by kernel_rfl, h85⟩, ?_⟩
            clear h85
            have g86 := gd h86
            have g87 := gd h87
            go_simp
            exact Goes.same hS rfl
          refine EachOp.cons ?_ ?_
          · intro a u hst hS hdep
            have h85 : a.tmps.getD 85 undef = .bool true := hdep 85 (by kernel_rfl)
            have h88 : a.tmps.getD 88 undef = .bool true := hdep 88 (by kernel_rfl)
            refine ⟨trivial, ?_⟩
            have g85 := gd h85
            have g88 := gd h88
            go_simp
            exact Goes.same hS rfl
          refine EachOp.cons ?_ ?_
          · intro a u hst hS hdep
            have h89 : a.tmps.getD 89 undef = .bool true := hdep 89 (by kernel_rfl)
            refine ⟨trivial, ?_⟩
            have g89 := gd h89
            go_simp
            exact Goes.same hS rfl
          refine EachOp.cons ?_ ?_
          · intro a u hst hS hdep
            have h15 : a.tmps.getD 15 undef = .pointer (some ⟨w8.heap.size, 0, none⟩) := hst.out 15 (by kernel_rfl)
            have h90 : a.tmps.getD 90 undef = .bool true := hdep 90 (by kernel_rfl)
            refine ⟨⟨90, by kernel_rfl, h90⟩, ?_⟩
            clear h90
            have g15 := gd h15
            obtain ⟨⟨m0, m1, m2⟩, ⟨n0, n1, n2⟩, ⟨p0, p1⟩, ⟨v0, v1⟩, ⟨r0, r1, r2⟩, ⟨s0, s1, s2⟩⟩ := HK.out u hS
            go_simp
            exact Goes.same hS rfl
          refine EachOp.cons ?_ ?_
          · intro a u hst hS hdep
            have h17 : a.tmps.getD 17 undef = .pointer (some ⟨w9.heap.size, 0, none⟩) := hst.out 17 (by kernel_rfl)
            have h90 : a.tmps.getD 90 undef = .bool true := hdep 90 (by kernel_rfl)
            refine ⟨⟨90, by kernel_rfl, h90⟩, ?_⟩
            clear h90
            have g17 := gd h17
            obtain ⟨⟨m0, m1, m2⟩, ⟨n0, n1, n2⟩, ⟨p0, p1⟩, ⟨v0, v1⟩, ⟨r0, r1, r2⟩, ⟨s0, s1, s2⟩⟩ := HK.out u hS
            go_simp
            exact Goes.same hS rfl
          refine EachOp.cons ?_ ?_
          · intro a u hst hS hdep
            have h91 : a.tmps.getD 91 undef = .agg #[.int .i64 q8, .slice A8 l8 c8, .slice D8 m8 d8] := hdep 91 (by kernel_rfl)
            have h92 : a.tmps.getD 92 undef = .agg #[.int .i64 q9, .slice A9 l9 c9, .slice D9 m9 d9] := hdep 92 (by kernel_rfl)
            have h90 : a.tmps.getD 90 undef = .bool true := hdep 90 (by kernel_rfl)
            refine ⟨⟨90, by kernel_rfl, h90⟩, ?_⟩
            clear h90
            have g91 := gd h91
            have g92 := gd h92
            go_simp
            refine (HX.out u hS).mono ?_
            rintro e u' ⟨rfl, hb'⟩
            exact Goes.next (kp_trans hS hb') hb' rfl
          refine EachOp.cons ?_ ?_
          · intro a u hst hS hdep
            have h90 : a.tmps.getD 90 undef = .bool true := hdep 90 (by kernel_rfl)
            have h93 : a.tmps.getD 93 undef = .bool true := hdep 93 (by kernel_rfl)
            refine ⟨trivial, ?_⟩
            have g90 := gd h90
            have g93 := gd h93
            go_simp
            exact Goes.same hS rfl
          refine EachOp.cons ?_ ?_
          · intro a u hst hS hdep
            have h94 : a.tmps.getD 94 undef = .bool true := hdep 94 (by kernel_rfl)
            refine ⟨trivial, ?_⟩
            have g94 := gd h94
            go_simp
            exact Goes.same hS rfl
          refine EachOp.cons ?_ ?_
          · intro a u hst hS hdep
            have h16 : a.tmps.getD 16 undef = .int .i64 oe := hst.out 16 (by kernel_rfl)
            have h95 : a.tmps.getD 95 undef = .bool true := hdep 95 (by kernel_rfl)
            refine ⟨⟨95, by kernel_rfl, h95⟩, ?_⟩
            clear h95
            have g16 := gd h16
            go_simp
            exact Goes.same hS rfl
          refine EachOp.cons ?_ ?_
          · intro a u hst hS hdep
            have h18 : a.tmps.getD 18 undef = .int .i64 oe := hst.out 18 (by kernel_rfl)
            have h95 : a.tmps.getD 95 undef = .bool true := hdep 95 (by kernel_rfl)
            refine ⟨⟨95, by kernel_rfl, h95⟩, ?_⟩
            clear h95
            have g18 := gd h18
            go_simp
            exact Goes.same hS rfl
          refine EachOp.cons ?_ ?_
          · intro a u hst hS hdep
            have h96 : a.tmps.getD 96 undef = .int .i64 oe := hdep 96 (by kernel_rfl)
            have h97 : a.tmps.getD 97 undef = .int .i64 oe := hdep 97 (by kernel_rfl)
            have h95 : a.tmps.getD 95 undef = .bool true := hdep 95 (by kernel_rfl)
            refine ⟨⟨95, by kernel_rfl, h95⟩, ?_⟩
            clear h95
            have g96 := gd h96
            have g97 := gd h97
            go_simp
            exact Goes.same hS rfl
          refine EachOp.cons ?_ ?_
          · intro a u hst hS hdep
            have h95 : a.tmps.getD 95 undef = .bool true := hdep 95 (by kernel_rfl)
            have h98 : a.tmps.getD 98 undef = .bool true := hdep 98 (by kernel_rfl)
            refine ⟨trivial, ?_⟩
            have g95 := gd h95
            have g98 := gd h98
            go_simp
            exact Goes.same hS rfl
          refine EachOp.cons ?_ ?_
          · intro a u hst hS hdep
            have h99 : a.tmps.getD 99 undef = .bool true := hdep 99 (by kernel_rfl)
            refine ⟨trivial, ?_⟩
            have g99 := gd h99
            go_simp
            exact Goes.same hS rfl
          refine EachOp.cons ?_ ?_
          · intro a u hst hS hdep
            have h3 : a.tmps.getD 3 undef = .pointer (some ⟨w.heap.size, 0, none⟩) := hst.out 3 (by kernel_rfl)
            have h100 : a.tmps.getD 100 undef = .bool true := hdep 100 (by kernel_rfl)
            refine ⟨⟨100, by kernel_rfl, h100⟩, ?_⟩
            clear h100
            have g3 := gd h3
            obtain ⟨⟨m0, m1, m2⟩, ⟨n0, n1, n2⟩, ⟨p0, p1⟩, ⟨v0, v1⟩, ⟨r0, r1, r2⟩, ⟨s0, s1, s2⟩⟩ := HK.out u hS
            go_simp
            exact Goes.same hS rfl
          refine EachOp.cons ?_ ?_
          · intro a u hst hS hdep
            have h4 : a.tmps.getD 4 undef = .pointer (some ⟨w.heap.size + 1, 0, none⟩) := hst.out 4 (by kernel_rfl)
            have h100 : a.tmps.getD 100 undef = .bool true := hdep 100 (by kernel_rfl)
            refine ⟨⟨100, by kernel_rfl, h100⟩, ?_⟩
            clear h100
            have g4 := gd h4
            obtain ⟨⟨m0, m1, m2⟩, ⟨n0, n1, n2⟩, ⟨p0, p1⟩, ⟨v0, v1⟩, ⟨r0, r1, r2⟩, ⟨s0, s1, s2⟩⟩ := HK.out u hS
            go_simp
            exact Goes.same hS rfl
          refine EachOp.cons ?_ ?_
          · intro a u hst hS hdep
            have h101 : a.tmps.getD 101 undef = .agg #[.int .i64 mk, .slice B p d, .slice B' p' d'] := hdep 101 (by kernel_rfl)
            have h102 : a.tmps.getD 102 undef = .agg #[.int .i64 nk, .slice D q g, .slice D' q' g'] := hdep 102 (by kernel_rfl)
            have h100 : a.tmps.getD 100 undef = .bool true := hdep 100 (by kernel_rfl)
            refine ⟨⟨100, by kernel_rfl, h100⟩, ?_⟩
            clear h100
            have g101 := gd h101
            have g102 := gd h102
            go_simp
            refine (HSame.out u hS).mono ?_
            rintro e u' ⟨rfl, hb'⟩
            exact Goes.next (kp_trans hS hb') hb' rfl
          refine EachOp.cons ?_ ?_
          · intro a u hst hS hdep
            have h3 : a.tmps.getD 3 undef = .pointer (some ⟨w.heap.size, 0, none⟩) := hst.out 3 (by kernel_rfl)
            have h100 : a.tmps.getD 100 undef = .bool true := hdep 100 (by kernel_rfl)
            refine ⟨⟨100, by kernel_rfl, h100⟩, ?_⟩
            clear h100
            have g3 := gd h3
            obtain ⟨⟨m0, m1, m2⟩, ⟨n0, n1, n2⟩, ⟨p0, p1⟩, ⟨v0, v1⟩, ⟨r0, r1, r2⟩, ⟨s0, s1, s2⟩⟩ := HK.out u hS
            go_simp
            exact Goes.same hS rfl
          refine EachOp.cons ?_ ?_
          · intro a u hst hS hdep
            have h4 : a.tmps.getD 4 undef = .pointer (some ⟨w.heap.size + 1, 0, none⟩) := hst.out 4 (by kernel_rfl)
            have h100 : a.tmps.getD 100 undef = .bool true := hdep 100 (by kernel_rfl)
            refine ⟨⟨100, by kernel_rfl, h100⟩, ?_⟩
            clear h100
            have g4 := gd h4
            obtain ⟨⟨m0, m1, m2⟩, ⟨n0, n1, n2⟩, ⟨p0, p1⟩, ⟨v0, v1⟩, ⟨r0, r1, r2⟩, ⟨s0, s1, s2⟩⟩ := HK.out u hS
            go_simp
            exact Goes.same hS rfl
          refine EachOp.cons ?_ ?_
          · intro a u hst hS hdep
            have h104 : a.tmps.getD 104 undef = .agg #[.int .i64 mk, .slice B p d, .slice B' p' d'] := hdep 104 (by kernel_rfl)
            have h105 : a.tmps.getD 105 undef = .agg #[.int .i64 nk, .slice D q g, .slice D' q' g'] := hdep 105 (by kernel_rfl)
            have h100 : a.tmps.getD 100 undef = .bool true := hdep 100 (by kernel_rfl)
            refine ⟨⟨100, by kernel_rfl, h100⟩, ?_⟩
            clear h100
            have g104 := gd h104
            have g105 := gd h105
            go_simp
            refine (HRSame.out u hS).mono ?_
            rintro e u' ⟨rfl, hb'⟩
            exact Goes.next (kp_trans hS hb') hb' rfl
          refine EachOp.cons ?_ ?_
          · intro a u hst hS hdep
            have h103 : a.tmps.getD 103 undef = .bool ss := hdep 103 (by kernel_rfl)
            have h106 : a.tmps.getD 106 undef = .bool ss := hdep 106 (by kernel_rfl)
            have h100 : a.tmps.getD 100 undef = .bool true := hdep 100 (by kernel_rfl)
            refine ⟨⟨100, by kernel_rfl, h100⟩, ?_⟩
            clear h100
            have g103 := gd h103
            have g106 := gd h106
            go_simp
            exact Goes.same hS rfl
          refine EachOp.cons ?_ ?_
          · intro a u hst hS hdep
            have h100 : a.tmps.getD 100 undef = .bool true := hdep 100 (by kernel_rfl)
            have h107 : a.tmps.getD 107 undef = .bool true := hdep 107 (by kernel_rfl)
            refine ⟨trivial, ?_⟩
            have g100 := gd h100
            have g107 := gd h107
            go_simp
            exact Goes.same hS rfl
          refine EachOp.cons ?_ ?_
          · intro a u hst hS hdep
            have h108 : a.tmps.getD 108 undef = .bool true := hdep 108 (by kernel_rfl)
            refine ⟨trivial, ?_⟩
            have g108 := gd h108
            go_simp
            exact Goes.same hS rfl
          exact EachOp.nil
        · intro a u hst hS hdep
          have h6 : a.tmps.getD 6 undef = .bool true := hdep 6 (by kernel_rfl)
          have hsz : a.tmps.size = 109 := hst.size
          go_wp2_with fail
          exact bodyPost_ret ((results_tmp rfl _ _ _).trans (by rw [h6])) hst.defers ⟨rfl, kp_trans (kp_trans kw3 K3z) hS⟩
    focus
      rw [hlg] at hG
      have HG := Lib.hid hG
      clear hG
      obtain ⟨x0, x1, x2, _, _, _⟩ := three_cells N2
      go_wp2_with fail
      refine HG.out.mono ?_
      rintro e w3 ⟨rfl, k3⟩
      go_wp2_with fail
      go_ret
      exact ⟨rfl, kp_trans kw2 k3⟩
  focus
    rw [hlg] at hG
    have HG := Lib.hid hG
    clear hG
    obtain ⟨x0, x1, x2, _, _, _⟩ := three_cells M1
    go_wp2_with fail
    refine HG.out.mono ?_
    rintro e w2 ⟨rfl, k2⟩
    go_wp2_with fail
    go_ret
    exact ⟨rfl, kp_trans kw1 k2⟩

theorem msgTells_any (m n : Mg) (k : UInt8) (A : Option Addr) (bs : List UInt8) (l c : Nat) (w : World) (hm : MR w m) (hn : MR w n) (hr : Sl w w.heap.size A l c bs) (_ : c ≤ 140737488351232) (hL : Lay w) :
    Calls Tryd.prog 3 #[m.v, n.v, frV k A l c] w fun e w' => e = .returned (.bool true) ∧ Below w.heap.size w w' := msgTells_walk m n k A bs l c w hm hn hr hL

namespace MsgTells
open Go.ChangeShapes Go.WideShapes Go.ChangeAt
open Go.ChangeMaps (open_string)

theorem contract (H : Type) (enc : TypeId × Value → H) (W : World) (base : Nat) (args : Array Value) (ds gs : List (DataW H)) (before : List MemPlace)
    (hval : ∀ (j : Nat) t v, Tryd.f3.params[j]? = some t → args[j]? = some v → Value.okWide Tryd.prog W .any base t v)
    (hW : DataW.Whole enc Tryd.prog Tryd.f3.params.toList Rows.msgTellsSpec.vars false W args.toList ds gs before)
    (hsz0 : (DataW.weightsEach Tryd.prog (Tryd.f3.params.toList ++ Rows.msgTellsSpec.plain.varTypes Tryd.prog) (ds ++ gs)).all (· ≤ reachBytes) = true) (hlaid : laidMetH Tryd.prog laidM W) :
    Calls Tryd.prog 3 args W fun e W' => ∃ v, e = .returned v ∧ Rows.msgTellsSpec.post enc Tryd.prog Tryd.f3 false true false false W args v W' := by
  have hW' := hW
  obtain ⟨p, q, hA0, hV, rfl, _, _⟩ := hW
  have hA : DataW.TrodAll enc Tryd.prog W 0 (fun _ => true) true Tryd.f3.params.toList args.toList ds p := hA0
  have hsz : (DataW.weightsEach Tryd.prog (Tryd.f3.params.toList ++ Rows.msgTellsSpec.plain.varTypes Tryd.prog) (ds ++ gs)).all (· ≤ reachBytes) = true := hsz0
  clear hsz0
  rw [Tryd.params3] at hA hval hsz
  obtain ⟨v0, vs0, d0, ds0, p0, q0, hargs, rfl, rfl, h0, t0⟩ := trodAll_cons hA
  obtain ⟨v1, vs1, d1, ds1, p1, q1, rfl, rfl, rfl, h1, t1⟩ := trodAll_cons t0
  obtain ⟨v2, vs2, d2, ds2, p2, q2, rfl, rfl, rfl, h2, t2⟩ := trodAll_cons t1
  obtain ⟨rfl, rfl, rfl⟩ := trodAll_nil t2
  obtain rfl : args = #[v0, v1, v2] := by cases args; simp_all
  obtain ⟨rfl, rfl⟩ := trodVars_none hV
  obtain ⟨m0, rfl, r0, g0⟩ := open_msg (hval 0 25 v0 rfl rfl) h0 (light_of hsz (j := 0) rfl rfl)
  obtain ⟨m1, rfl, r1, g1⟩ := open_msg (hval 1 25 v1 rfl rfl) h1 (light_of hsz (j := 1) rfl rfl)
  obtain ⟨k2, A2, l2, c2, bs2, rfl, r2, g2⟩ := open_frame (hval 2 28 v2 rfl rfl) h2 (light_of hsz (j := 2) rfl rfl)
  have hLay := lay_of_laid hlaid
  clear hlaid
  refine (msgTells_any m0 m1 k2 A2 bs2 l2 c2 W r0 r1 r2 g2 hLay).mono fun e W' ⟨he, hb⟩ => ⟨_, he, ?_⟩
  exact law_post laid0 (by rw [Tryd.params3]; decide +kernel) rfl (by kernel_rfl) Tryd.underlying4 hW' rfl hb

set_option maxRecDepth 100000 in
theorem lifted (os : Os) (started : os.Started) (H : Type) (enc : TypeId × Value → H) :
    ReturnsInHanded {} Tryd.checked os 3 .any (fun w args => (Rows.msgTellsSpec.pre enc Tryd.prog Tryd.f3 [] false w args ∧ laidMetH Tryd.prog laidM w) ∧ sizedMet enc Tryd.prog Tryd.f3 (OpenSpec.ofChange Rows.msgTellsSpec) false w args) (Rows.msgTellsSpec.post enc Tryd.prog Tryd.f3 false true false false) := by
  refine returnsInHanded_of_change_and (C := Tryd.checked) (X := fun w _ => laidMetH Tryd.prog laidM w) (fun _ _ _ hh h => h.of_heap hh) own0 started (by kernel_rfl) Tryd.func3
    (ChangeSpec.witness_shaped (enc := enc) (C := Tryd.checked) (os := os) (X := fun w _ => laidMetH Tryd.prog laidM w) false (World.doorLaid Tryd.prog 2000 os) #[.agg #[.int .i64 0, .slice none 0 0, .slice none 0 0], .agg #[.int .i64 0, .slice none 0 0, .slice none 0 0], .agg #[.int .u8 0, .slice none 0 0]] 8 rfl (World.shaped_of_RefB (by kernel_rfl) (by kernel_rfl)) (by kernel_rfl) (by kernel_rfl) (by kernel_rfl) (door_met os _)) ?_
  intro W base args ds gs before hval hW _ hsz hL _
  exact contract H enc W base args ds gs before hval hW hsz hL

theorem row_holds : Rows.MsgTellsSaid :=
  OpenClaim.holds_of_wide 3 Tryd.f3 rfl rfl rfl rfl rfl rfl rfl ⟨rfl, rfl, rfl, rfl, rfl⟩ rfl rfl rfl rfl rfl (by kernel_rfl) Tryd.func3 (by kernel_rfl)
    (of_decide_eq_true (by kernel_rfl)) (by unfold Func.isWrapper; first | (rw [if_pos (by decide +kernel)]; kernel_rfl) | (rw [if_neg (by decide +kernel)]; exact ⟨rfl, rfl⟩))
    (fun os started H enc _ => lifted os started H enc)

/-- the tied card: the row's listed variables tied to the program's text -/
theorem card_holds : Rows.MsgTellsCardSaid :=
  Claim7.holds_tied_plain_at .later [] [.data] true _ false
    row_holds (fun _ h => by cases h) (by kernel_rfl) (fun _ h => by cases h) msgTells_row_tie rfl ⟨rfl, rfl⟩ (by kernel_rfl) rfl
    (fun f fn hf hfn => by
      obtain rfl : f = 3 := Option.some.inj ((show Tryd.prog.funcNamed "signalman/signalmanlaw03.MsgTells" = some 3 by kernel_rfl).symm.trans hf) |>.symm
      obtain rfl : fn = Tryd.f3 := (Option.some.inj (Tryd.func3.symm.trans hfn)).symm
      exact ⟨by kernel_rfl, fun j t ht => by
        have hm : t ∈ Tryd.f3.params.toList := Array.mem_toList_iff.2 (Array.mem_of_getElem? ht)
        have hall : (Tryd.f3.params.toList.all fun u => !Tryd.prog.wantsStandIn u) = true := by kernel_rfl
        exact (show Tryd.prog.wantsStandIn t = false by simpa using List.all_eq_true.1 hall t hm)⟩)
    (by kernel_rfl)
end MsgTells
end Go.Proofs.YtmklmakcampbbaaDoor
