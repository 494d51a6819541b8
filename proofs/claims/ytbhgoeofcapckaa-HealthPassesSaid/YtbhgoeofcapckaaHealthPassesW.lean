/-
  HealthPasses, of layer 12: the walk, out of what the laws ask of the project's health.
-/
import Derived.Test.YtbhgoeofcapckaaHeL
namespace Go.Proofs.Ytbhgoeofcapckaa
open Go.RowKit
set_option maxRecDepth 100000

/-- behind so many that have no answer -/
def failHe (c : HCf) (k : Nat) : HSt := if (k : Int) = c.f then ⟨2, 0⟩ else ⟨1, k⟩
theorem failHe_step {c : HCf} {k : Nat} (hk : (k : Int) < c.f) : failHe c k = ⟨1, k⟩ ∧ stepHe c ⟨1, k⟩ ⟨false, 0⟩ = failHe c (k + 1) := by
  refine ⟨by unfold failHe; rw [if_neg (by omega)], ?_⟩
  rw [step_fail 0 hk]
  unfold failHe
  by_cases e : (k : Int) + 1 = c.f
  · rw [if_pos e, if_pos (by omega)]
  · rw [if_neg e, if_neg (by omega)]

set_option maxHeartbeats 16000000 in
theorem healthpasses_walk (K : HealthK) (c : HCf) (A1 : Option Addr) (n1 c1 : Nat) (ps : List HPr) (A2 : Option Addr) (n2 c2 : Nat) (gs : List Int) (W : World) (hl0 : 0 ≤ c.l) (r1 : HQ W A1 n1 ps) (r2 : UR W A2 n2 gs) :
    Calls Try.prog 4 #[.agg #[.int .i64 c.f, .int .i64 c.p, .int .u64 c.l], .slice A1 n1 c1, .slice A2 n2 c2] W fun e w' => e = .returned (.bool true) ∧ Below W.heap.size W w' := by
  obtain ⟨w0, hw0⟩ : ∃ u, W.alloc (cfO c) = u := ⟨_, rfl⟩
  have k0 : Below W.heap.size W w0 := hw0 ▸ kp_new _ _
  have b0 : w0.heap[W.heap.size]? = some (cfO c) := by rw [← hw0]; exact heap_alloc_new W _
  have HAW := Lib.hid (K.aw w0)
  have HK := Lib.hid K
  have R1 := Lib.hid r1
  have R2 := Lib.hid r2
  have HN1 := Lib.hid r1.len
  have HN2 := Lib.hid r2.len
  have hz0 : W.heap.size < w0.heap.size := (Array.getElem?_eq_some_iff.1 b0).1
  have HW := Lib.hid hw0
  have HK0 := Lib.hid k0
  clear K hw0 k0 r1 r2
  unfold cfO at HW
  go_enter Try.func4, Try.ntmps4
  go_wp2_with fail
  rw [HW.out]
  refine HAW.out.mono ?_
  rintro e w1 ⟨rfl, k1⟩
  have HK1 := Lib.hid (HK0.out.trans (k1.mono HK0.out.size))
  have b1 := (k1.block _ hz0).trans b0
  have hz1 : W.heap.size < w1.heap.size := Nat.lt_of_lt_of_le hz0 k1.size
  obtain ⟨x0, x1, x2⟩ : w1.cell? ⟨W.heap.size, 0, none⟩ = some (.int .i64 c.f) ∧ w1.cell? ⟨W.heap.size, 1, none⟩ = some (.int .i64 c.p) ∧ w1.cell? ⟨W.heap.size, 2, none⟩ = some (.int .u64 c.l) := ⟨(cellsAt b1 0 rfl).1, (cellsAt b1 1 rfl).1, (cellsAt b1 2 rfl).1⟩
  obtain ⟨bo, hbo⟩ : ∃ b, rightHe c = b := ⟨_, rfl⟩
  have HR := Lib.hid (rrighthe_ok c w1)
  rw [hbo] at HR
  unfold HCf.v at HR
  have HBO := Lib.hid hbo
  clear hbo HAW HW k1 b0 hz0 HK0
  go_wp2_with fail
  refine HR.out.mono ?_
  rintro e w2 ⟨rfl, k2⟩
  have HK2 := Lib.hid (HK1.out.trans (k2.mono HK1.out.size))
  have b2 := (k2.block _ hz1).trans b1
  have hz2 : W.heap.size < w2.heap.size := Nat.lt_of_lt_of_le hz1 k2.size
  obtain ⟨y0, y1, y2⟩ : w2.cell? ⟨W.heap.size, 0, none⟩ = some (.int .i64 c.f) ∧ w2.cell? ⟨W.heap.size, 1, none⟩ = some (.int .i64 c.p) ∧ w2.cell? ⟨W.heap.size, 2, none⟩ = some (.int .u64 c.l) := ⟨(cellsAt b2 0 rfl).1, (cellsAt b2 1 rfl).1, (cellsAt b2 2 rfl).1⟩
  clear HR k2 b1 hz1 x0 x1 x2 HK1
  cases bo with
  | false =>
    go_wp2_with fail
    go_ret
    exact ⟨rfl, HK2.out⟩
  | true =>
  by_cases h1 : 300 < n1
  · have h1' : (300 : Int) < (n1 : Int) := by omega
    clear h1
    go_wp2_with fail
    go_ret
    exact ⟨rfl, HK2.out⟩
  have h1' : ¬ (300 : Int) < (n1 : Int) := by omega
  by_cases h2 : 300 < n2
  · have h2' : (300 : Int) < (n2 : Int) := by omega
    clear h2
    go_wp2_with fail
    go_ret
    exact ⟨rfl, HK2.out⟩
  have h2' : ¬ (300 : Int) < (n2 : Int) := by omega
  by_cases h3 : 300 < c.p
  · go_wp2_with fail
    go_ret
    exact ⟨rfl, HK2.out⟩
  by_cases h4 : 300 < c.f
  · go_wp2_with fail
    go_ret
    exact ⟨rfl, HK2.out⟩
  have hcr := of_decide_eq_true HBO.out
  obtain ⟨bs, hbs⟩ : ∃ b, w2.heap.size = b := ⟨_, rfl⟩
  have HBS := Lib.hid hbs
  have HL3 : Hid (HLt W c bs ⟨1, 0⟩ (w2.alloc (.cells #[.int .i64 1, .int .i64 0] 26))) := Lib.hid ⟨kp_alloc HK2.out _, (heap_alloc_old _ _ hz2).trans b2, by rw [← hbs]; exact heap_alloc_new w2 _, by omega⟩
  clear b2 hbs h1 h2
  go_wp2_with fail
  rw [HBS.out] at *
  clear y0 y1 y2
  go_loopw [41] (fun i wr => ∃ (k : Nat) (s : HSt), k ≤ n1 ∧ i = .int .i64 k ∧ Hid (HInv c s) ∧ Hid (HLt W c bs s wr)) (fun i _ => n1 - (intOf i).toNat)
  case atStart => exact ⟨0, _, Nat.zero_le _, rfl, Lib.hid (HInv.new HBO.out), HL3⟩
  case round =>
    obtain ⟨k, s, hk, rfl, hi, hl⟩ := hrel
    clear HL3
    by_cases hlt : k < n1
    · have hkl : k < ps.length := by rw [HN1.out]; exact hlt
      obtain ⟨ad, rfl, _, hcc⟩ := (R1.out.next hl.out.low).at_ hkl
      obtain ⟨p0, p1⟩ := hcc wr (Below.refl _ _)
      clear hcc
      obtain ⟨s', hs'⟩ : ∃ x, stepHe c s ps[k] = x := ⟨_, rfl⟩
      have hi' : Hid (HInv c s') := Lib.hid (hs' ▸ hi.out.step HBO.out _)
      obtain ⟨m0, m1⟩ := hi.out.small HBO.out
      obtain ⟨wx, hwx⟩ : ∃ u, wr.alloc (.cells #[.bool ps[k].o, .int .u64 ps[k].l] 28) = u := ⟨_, rfl⟩
      have hlx := hl.out.next (hwx ▸ kp_new wr _ : Below wr.heap.size wr wx)
      obtain ⟨x0, x1, x2⟩ := hl.out.cfc
      obtain ⟨y0, y1, y2, y3⟩ := hl.out.stc
      obtain ⟨v0, v1⟩ := hl.out.size
      have v2 : W.heap.size < wr.heap.size := Nat.lt_trans hl.out.lt v0
      have HC0 := HK.out.step c s ps[k] wx HBO.out m0 m1
      rw [hs'] at HC0
      unfold HCf.v HSt.v HPr.v at HC0
      have HC := Lib.hid HC0
      have HWX := Lib.hid hwx
      have HLX := Lib.hid hlx
      clear hs' hi hl hlx hwx HC0
      generalize ps[k] = pr at *
      go_wp2_with fail
      rw [HWX.out]
      refine HC.out.mono ?_
      rintro e w4 ⟨rfl, k4⟩
      have hl4 := HLX.out.next k4
      obtain ⟨z0, z1, z2⟩ := hl4.cfc
      obtain ⟨t0, t1, t2, t3⟩ := hl4.stc
      have HL5 := Lib.hid (hl4.set s'.i s'.c)
      have hne : W.heap.size ≠ bs := Nat.ne_of_lt hl4.lt
      obtain ⟨i1, i2, i3, i4⟩ := hi'.out
      clear HC HWX HLX k4 hl4 x0 x1 x2 y0 y1 y2 y3 v0 v1 v2 p0 p1
      have e1 : ¬ s'.i < 1 := by omega
      have e2 : ¬ 3 < s'.i := by omega
      have e3 : ¬ s'.c < 0 := by omega
      by_cases hmx : c.f < c.p
      · have e4 : ¬ c.p ≤ s'.c := by omega
        clear i1 i2 i3 i4
        go_wp2_with fail
        go_roundw
        case rel => exact ⟨k + 1, s', by omega, by go_num, hi', HL5⟩
        case measure => simp [intOf]; omega
      · have e4 : ¬ c.f ≤ s'.c := by omega
        clear i1 i2 i3 i4
        go_wp2_with fail
        go_roundw
        case rel => exact ⟨k + 1, s', by omega, by go_num, hi', HL5⟩
        case measure => simp [intOf]; omega
    · obtain rfl : k = n1 := by omega
      obtain ⟨x0, x1, x2⟩ := hl.out.cfc
      obtain ⟨y0, y1, y2, y3⟩ := hl.out.stc
      obtain ⟨v0, v1⟩ := hl.out.size
      have v2 : W.heap.size < wr.heap.size := Nat.lt_trans hl.out.lt v0
      have HL2 : Hid (HLt W c bs s (wr.alloc (stO s))) := Lib.hid (hl.out.next (kp_new wr _))
      have HB2 : Hid ((wr.alloc (stO s)).heap[wr.heap.size]? = some (stO s)) := Lib.hid (heap_alloc_new wr _)
      obtain ⟨bw, hbw⟩ : ∃ b, wr.heap.size = b := ⟨_, rfl⟩
      have hbw2 : bs < bw := by omega
      have HBW := Lib.hid hbw
      have HP0 := Lib.hid (PassI.zero hi.out)
      rw [hbw] at HB2
      unfold stO at HL2 HB2
      clear hl hk hlt hbw
      go_wp2_with fail
      rw [HBW.out] at *
      obtain ⟨wo, hwo⟩ : ∃ x, x = wr := ⟨wr, rfl⟩
      subst hwo
      go_loopw [76] (fun i wq => ∃ (k : Nat) (t : HSt), (k : Int) ≤ c.p ∧ i = .int .i64 k ∧ Hid (PassI c s k t) ∧ Hid (HLt W c bs t wq) ∧ Hid (wq.heap[bw]? = some (stO s))) (fun i _ => c.p.toNat - (intOf i).toNat)
      case atStart => exact ⟨0, s, by omega, rfl, HP0, HL2, HB2⟩
      case round =>
        obtain ⟨k, t, hk, rfl, hp, hl, hw⟩ := hrel
        clear HL2 HB2 HP0 x0 x1 x2 y0 y1 y2 y3 v0 v1 v2
        obtain ⟨x0, x1, x2⟩ := hl.out.cfc
        obtain ⟨y0, y1, y2, y3⟩ := hl.out.stc
        have hw0 := (cellsAt hw.out 0 (v := .int .i64 s.i) rfl).1
        have v2 : bw < wr.heap.size := (Array.getElem?_eq_some_iff.1 hw.out).1
        by_cases hlt : (k : Int) < c.p
        · obtain ⟨m0, m1⟩ := hp.out.1.small HBO.out
          have hpass : ∀ g : Int, g ≤ c.l → passHe c ⟨true, g⟩ = true := fun g hg => by unfold passHe; simp [hg]
          obtain ⟨t', ht'⟩ : ∃ x, stepHe c t ⟨true, 0⟩ = x := ⟨_, rfl⟩
          have hg0 : (0 : Int) ≤ c.l := hl0
          have hst : ∀ g : Int, g ≤ c.l → stepHe c t ⟨true, g⟩ = t' := fun g hg => by
            rw [← ht']
            unfold stepHe
            rw [hpass g hg, hpass 0 hg0]
          have hp' : Hid (PassI c s (k + 1) t') := Lib.hid (ht' ▸ hp.out.step HBO.out hlt (hpass 0 hg0))
          clear ht' hpass
          by_cases hgn : k < n2
          · have hgl : k < gs.length := by rw [HN2.out]; exact hgn
            have hgn' : (k : Int) < (n2 : Int) := by omega
            have hk0 : (0 : Int) ≤ (k : Int) := by omega
            obtain ⟨ag, rfl, _, hcg⟩ := (R2.out.next hl.out.low).at_ hgl
            have d1 := hcg wr (Below.refl _ _)
            clear hcg
            generalize gs[k] = x at *
            by_cases hxl : c.l < x
            · have hg : c.l ≤ c.l := Int.le_refl _
              go_wp2_with fail
              go_quiet (fail)
              have kd := kp_drewN wr nq
              obtain ⟨wd, hwd⟩ : ∃ u, wr.drewN nq = u := ⟨_, rfl⟩
              rw [hwd] at kd ⊢
              have hw := Lib.hid ((kd.block bw v2).trans hw.out)
              have v2 : bw < wd.heap.size := Nat.lt_of_lt_of_le v2 kd.size
              have hl := Lib.hid (hl.out.next kd)
              obtain ⟨x0, x1, x2⟩ := hl.out.cfc
              obtain ⟨y0, y1, y2, y3⟩ := hl.out.stc
              have hw0 := (cellsAt hw.out 0 (v := .int .i64 s.i) rfl).1
              clear hwd kd
              by_cases hs2 : s.i = 2
              · have ht1 : (t.i == 1) = false := by simpa using (hp.out.2.2 hs2 hlt).1
                have HSV0 := HK.out.serves t wd
                rw [ht1] at HSV0
                unfold HSt.v at HSV0
                have HSV := Lib.hid HSV0
                have hs2' : (s.i == 2) = true := by simpa using hs2
                clear HSV0 ht1 hp hs2
                go_wp2_with fail
                refine HSV.out.mono ?_
                rintro e w4 ⟨rfl, k4⟩
                have HLW := Lib.hid (hl.out.next k4)
                have HWW := Lib.hid ((k4.block bw v2).trans hw.out)
                have HBB := Lib.hid (Nat.lt_of_lt_of_le v2 k4.size)
                obtain ⟨x0, x1, x2⟩ := HLW.out.cfc
                obtain ⟨y0, y1, y2, y3⟩ := HLW.out.stc
                clear HSV k4 hl hw
                have HC0 := HK.out.step c t ⟨true, c.l⟩ w4 HBO.out m0 m1
                rw [hst c.l hg] at HC0
                unfold HCf.v HSt.v HPr.v at HC0
                have HC := Lib.hid HC0
                clear HC0
                go_wp2_with fail
                refine HC.out.mono ?_
                rintro e w5 ⟨rfl, k5⟩
                have hl5 := (HLW.out.next k5)
                have hw5 := (k5.block bw HBB.out).trans HWW.out
                obtain ⟨t0, t1, t2, t3⟩ := hl5.stc
                have HL6 := Lib.hid (hl5.set t'.i t'.c)
                have HW6 : Hid (((w5.setCell ⟨bs, 0, none⟩ (.int .i64 t'.i)).setCell ⟨bs, 1, none⟩ (.int .i64 t'.c)).heap[bw]? = some (stO s)) := Lib.hid ((two_other (by omega) _ _).trans hw5)
                clear HC k5 hl5 hw5
                go_wp2_with fail
                go_roundw
                case rel => exact ⟨k + 1, t', by omega, by go_num, hp', HL6, HW6⟩
                case measure => simp [intOf]; omega
              · have hs2' : (s.i == 2) = false := by simpa using hs2
                have HLW := hl
                have HWW := hw
                have HBB := Lib.hid v2
                clear hl hw hp hs2
                have HC0 := HK.out.step c t ⟨true, c.l⟩ wd HBO.out m0 m1
                rw [hst c.l hg] at HC0
                unfold HCf.v HSt.v HPr.v at HC0
                have HC := Lib.hid HC0
                clear HC0
                go_wp2_with fail
                refine HC.out.mono ?_
                rintro e w5 ⟨rfl, k5⟩
                have hl5 := (HLW.out.next k5)
                have hw5 := (k5.block bw HBB.out).trans HWW.out
                obtain ⟨t0, t1, t2, t3⟩ := hl5.stc
                have HL6 := Lib.hid (hl5.set t'.i t'.c)
                have HW6 : Hid (((w5.setCell ⟨bs, 0, none⟩ (.int .i64 t'.i)).setCell ⟨bs, 1, none⟩ (.int .i64 t'.c)).heap[bw]? = some (stO s)) := Lib.hid ((two_other (by omega) _ _).trans hw5)
                clear HC k5 hl5 hw5
                go_wp2_with fail
                go_roundw
                case rel => exact ⟨k + 1, t', by omega, by go_num, hp', HL6, HW6⟩
                case measure => simp [intOf]; omega
            · have hg : x ≤ c.l := by omega
              go_wp2_with fail
              go_quiet (fail)
              have kd := kp_drewN wr nq
              obtain ⟨wd, hwd⟩ : ∃ u, wr.drewN nq = u := ⟨_, rfl⟩
              rw [hwd] at kd ⊢
              have hw := Lib.hid ((kd.block bw v2).trans hw.out)
              have v2 : bw < wd.heap.size := Nat.lt_of_lt_of_le v2 kd.size
              have hl := Lib.hid (hl.out.next kd)
              obtain ⟨x0, x1, x2⟩ := hl.out.cfc
              obtain ⟨y0, y1, y2, y3⟩ := hl.out.stc
              have hw0 := (cellsAt hw.out 0 (v := .int .i64 s.i) rfl).1
              clear hwd kd
              by_cases hs2 : s.i = 2
              · have ht1 : (t.i == 1) = false := by simpa using (hp.out.2.2 hs2 hlt).1
                have HSV0 := HK.out.serves t wd
                rw [ht1] at HSV0
                unfold HSt.v at HSV0
                have HSV := Lib.hid HSV0
                have hs2' : (s.i == 2) = true := by simpa using hs2
                clear HSV0 ht1 hp hs2
                go_wp2_with fail
                refine HSV.out.mono ?_
                rintro e w4 ⟨rfl, k4⟩
                have HLW := Lib.hid (hl.out.next k4)
                have HWW := Lib.hid ((k4.block bw v2).trans hw.out)
                have HBB := Lib.hid (Nat.lt_of_lt_of_le v2 k4.size)
                obtain ⟨x0, x1, x2⟩ := HLW.out.cfc
                obtain ⟨y0, y1, y2, y3⟩ := HLW.out.stc
                clear HSV k4 hl hw
                have HC0 := HK.out.step c t ⟨true, x⟩ w4 HBO.out m0 m1
                rw [hst x hg] at HC0
                unfold HCf.v HSt.v HPr.v at HC0
                have HC := Lib.hid HC0
                clear HC0
                go_wp2_with fail
                refine HC.out.mono ?_
                rintro e w5 ⟨rfl, k5⟩
                have hl5 := (HLW.out.next k5)
                have hw5 := (k5.block bw HBB.out).trans HWW.out
                obtain ⟨t0, t1, t2, t3⟩ := hl5.stc
                have HL6 := Lib.hid (hl5.set t'.i t'.c)
                have HW6 : Hid (((w5.setCell ⟨bs, 0, none⟩ (.int .i64 t'.i)).setCell ⟨bs, 1, none⟩ (.int .i64 t'.c)).heap[bw]? = some (stO s)) := Lib.hid ((two_other (by omega) _ _).trans hw5)
                clear HC k5 hl5 hw5
                go_wp2_with fail
                go_roundw
                case rel => exact ⟨k + 1, t', by omega, by go_num, hp', HL6, HW6⟩
                case measure => simp [intOf]; omega
              · have hs2' : (s.i == 2) = false := by simpa using hs2
                have HLW := hl
                have HWW := hw
                have HBB := Lib.hid v2
                clear hl hw hp hs2
                have HC0 := HK.out.step c t ⟨true, x⟩ wd HBO.out m0 m1
                rw [hst x hg] at HC0
                unfold HCf.v HSt.v HPr.v at HC0
                have HC := Lib.hid HC0
                clear HC0
                go_wp2_with fail
                refine HC.out.mono ?_
                rintro e w5 ⟨rfl, k5⟩
                have hl5 := (HLW.out.next k5)
                have hw5 := (k5.block bw HBB.out).trans HWW.out
                obtain ⟨t0, t1, t2, t3⟩ := hl5.stc
                have HL6 := Lib.hid (hl5.set t'.i t'.c)
                have HW6 : Hid (((w5.setCell ⟨bs, 0, none⟩ (.int .i64 t'.i)).setCell ⟨bs, 1, none⟩ (.int .i64 t'.c)).heap[bw]? = some (stO s)) := Lib.hid ((two_other (by omega) _ _).trans hw5)
                clear HC k5 hl5 hw5
                go_wp2_with fail
                go_roundw
                case rel => exact ⟨k + 1, t', by omega, by go_num, hp', HL6, HW6⟩
                case measure => simp [intOf]; omega
          · have hg : (0 : Int) ≤ c.l := hg0
            have hgn' : ¬ (k : Int) < (n2 : Int) := by omega
            clear hgn
            by_cases hs2 : s.i = 2
            · have ht1 : (t.i == 1) = false := by simpa using (hp.out.2.2 hs2 hlt).1
              have HSV0 := HK.out.serves t wr
              rw [ht1] at HSV0
              unfold HSt.v at HSV0
              have HSV := Lib.hid HSV0
              have hs2' : (s.i == 2) = true := by simpa using hs2
              clear HSV0 ht1 hp hs2
              go_wp2_with fail
              refine HSV.out.mono ?_
              rintro e w4 ⟨rfl, k4⟩
              have HLW := Lib.hid (hl.out.next k4)
              have HWW := Lib.hid ((k4.block bw v2).trans hw.out)
              have HBB := Lib.hid (Nat.lt_of_lt_of_le v2 k4.size)
              obtain ⟨x0, x1, x2⟩ := HLW.out.cfc
              obtain ⟨y0, y1, y2, y3⟩ := HLW.out.stc
              clear HSV k4 hl hw
              have HC0 := HK.out.step c t ⟨true, 0⟩ w4 HBO.out m0 m1
              rw [hst 0 hg] at HC0
              unfold HCf.v HSt.v HPr.v at HC0
              have HC := Lib.hid HC0
              clear HC0
              go_wp2_with fail
              refine HC.out.mono ?_
              rintro e w5 ⟨rfl, k5⟩
              have hl5 := (HLW.out.next k5)
              have hw5 := (k5.block bw HBB.out).trans HWW.out
              obtain ⟨t0, t1, t2, t3⟩ := hl5.stc
              have HL6 := Lib.hid (hl5.set t'.i t'.c)
              have HW6 : Hid (((w5.setCell ⟨bs, 0, none⟩ (.int .i64 t'.i)).setCell ⟨bs, 1, none⟩ (.int .i64 t'.c)).heap[bw]? = some (stO s)) := Lib.hid ((two_other (by omega) _ _).trans hw5)
              clear HC k5 hl5 hw5
              go_wp2_with fail
              go_roundw
              case rel => exact ⟨k + 1, t', by omega, by go_num, hp', HL6, HW6⟩
              case measure => simp [intOf]; omega
            · have hs2' : (s.i == 2) = false := by simpa using hs2
              have HLW := hl
              have HWW := hw
              have HBB := Lib.hid v2
              clear hl hw hp hs2
              have HC0 := HK.out.step c t ⟨true, 0⟩ wr HBO.out m0 m1
              rw [hst 0 hg] at HC0
              unfold HCf.v HSt.v HPr.v at HC0
              have HC := Lib.hid HC0
              clear HC0
              go_wp2_with fail
              refine HC.out.mono ?_
              rintro e w5 ⟨rfl, k5⟩
              have hl5 := (HLW.out.next k5)
              have hw5 := (k5.block bw HBB.out).trans HWW.out
              obtain ⟨t0, t1, t2, t3⟩ := hl5.stc
              have HL6 := Lib.hid (hl5.set t'.i t'.c)
              have HW6 : Hid (((w5.setCell ⟨bs, 0, none⟩ (.int .i64 t'.i)).setCell ⟨bs, 1, none⟩ (.int .i64 t'.c)).heap[bw]? = some (stO s)) := Lib.hid ((two_other (by omega) _ _).trans hw5)
              clear HC k5 hl5 hw5
              go_wp2_with fail
              go_roundw
              case rel => exact ⟨k + 1, t', by omega, by go_num, hp', HL6, HW6⟩
              case measure => simp [intOf]; omega
        · have hkp : (k : Int) = c.p := by omega
          obtain rfl : t = ⟨1, 0⟩ := hp.out.done HBO.out hkp
          have HSV0 := HK.out.serves ⟨1, 0⟩ wr
          unfold HSt.v at HSV0
          have HSV := Lib.hid HSV0
          clear HSV0 hp hw hw0 hkp
          go_wp2_with fail
          refine HSV.out.mono ?_
          rintro e w4 ⟨rfl, k4⟩
          have h11 : ((1 : Int) == 1) = true := rfl
          have hl4 := hl.out.next k4
          obtain ⟨x0, x1, x2⟩ := hl4.cfc
          obtain ⟨y0, y1, y2, y3⟩ := hl4.stc
          have HL4 : Hid (HLt W c bs (failHe c 0) w4) := Lib.hid (by unfold failHe; rw [if_neg (by omega)]; exact hl4)
          clear HSV k4 hl hl4 v2 y0 y1 y2 y3
          go_wp2_with fail
          go_loopw [108] (fun i wq => ∃ k : Nat, (k : Int) ≤ c.f ∧ i = .int .i64 k ∧ Hid (HLt W c bs (failHe c k) wq)) (fun i _ => c.f.toNat - (intOf i).toNat)
          case atStart => exact ⟨0, by omega, rfl, HL4⟩
          case round =>
            obtain ⟨k3, hk3, rfl, hl⟩ := hrel
            clear HL4 x0 x1 x2
            obtain ⟨x0, x1, x2⟩ := hl.out.cfc
            by_cases hlt3 : (k3 : Int) < c.f
            · obtain ⟨f1, f2⟩ := failHe_step hlt3
              have hl0 := hl.out
              rw [f1] at hl0
              have HL := Lib.hid hl0
              obtain ⟨y0, y1, y2, y3⟩ := hl0.stc
              have HSV0 := HK.out.serves ⟨1, k3⟩ wr
              unfold HSt.v at HSV0
              have HSV := Lib.hid HSV0
              obtain ⟨s', hs'⟩ : ∃ x, failHe c (k3 + 1) = x := ⟨_, rfl⟩
              have HF := Lib.hid (f2.trans hs')
              have HS' := Lib.hid hs'
              have hc0 : (0 : Int) ≤ (k3 : Int) := by omega
              clear HSV0 hl hl0 f1 f2 hs'
              dsimp only at y0 y1
              go_wp2_with fail
              refine HSV.out.mono ?_
              rintro e w5 ⟨rfl, k5⟩
              have HL5 := Lib.hid (HL.out.next k5)
              obtain ⟨z0, z1, z2⟩ := HL5.out.cfc
              obtain ⟨t0, t1, t2, t3⟩ := HL5.out.stc
              have HC0 := HK.out.step c ⟨1, k3⟩ ⟨false, 0⟩ w5 HBO.out hc0 (by show (k3 : Int) ≤ 1000; omega)
              rw [HF.out] at HC0
              unfold HCf.v HSt.v HPr.v at HC0
              have HC := Lib.hid HC0
              clear HSV k5 HC0 y0 y1 y2 y3 x0 x1 x2
              dsimp only at t0 t1
              go_wp2_with fail
              refine HC.out.mono ?_
              rintro e w6 ⟨rfl, k6⟩
              have hl6 := HL5.out.next k6
              obtain ⟨y0, y1, y2, y3⟩ := hl6.stc
              have HL7 : Hid (HLt W c bs (failHe c (k3 + 1)) ((w6.setCell ⟨bs, 0, none⟩ (.int .i64 s'.i)).setCell ⟨bs, 1, none⟩ (.int .i64 s'.c))) := Lib.hid (by rw [HS'.out]; exact hl6.set s'.i s'.c)
              clear HC k6 hl6 z0 z1 z2 t0 t1 t2 t3 HF HS'
              dsimp only at y0 y1
              go_wp2_with fail
              go_roundw
              case rel => exact ⟨k3 + 1, by omega, by go_num, HL7⟩
              case measure => simp [intOf]; omega
            · have hke : (k3 : Int) = c.f := by omega
              have hl0 := hl.out
              unfold failHe at hl0
              rw [if_pos hke] at hl0
              obtain ⟨y0, y1, y2, y3⟩ := hl0.stc
              dsimp only at y0 y1
              have HLW := Lib.hid hl0.low
              clear hl hl0 hke
              go_wp2_with fail
              go_ret
              exact ⟨rfl, HLW.out⟩
end Go.Proofs.Ytbhgoeofcapckaa
