/-
  Contracts and plain functions that the law stands on, part 5 of 5.
-/
import Derived.Test.YtkbaljdpnopbmaaQA4
namespace Go.Proofs.Ytkbaljdpnopbmaa
/- PoolIds, of layer 10: the walk. -/
section
open Go.RowKit
set_option maxRecDepth 100000

/-- none of the first ones: the same id, and epoch -/
def thereF (r : Nat) (l : List Hd) (c : Hd) : Bool := (l.take r).any fun x => decide (x.id = c.id ∧ x.ep = c.ep)
theorem thereF_next {r : Nat} {l : List Hd} {c : Hd} (h : r < l.length) : thereF (r + 1) l c = (thereF r l c || decide (l[r].id = c.id ∧ l[r].ep = c.ep)) := by
  unfold thereF
  rw [List.take_succ_eq_append_getElem h, List.any_append]
  simp

set_option maxHeartbeats 32000000 in
theorem poolids_walk (mo m : Int) (idl : Int) (A1 : Option Addr) (l1 c1 : Nat) (ts : List Act6) (W : World) (r1 : AZ W A1 l1 ts) :
    Calls Try.prog 6 #[.int .i64 mo, .int .i64 m, .int .u64 idl, .slice A1 l1 c1] W fun e w' => e = .returned (.bool true) ∧ Below W.heap.size W w' := by
  have HAW := Lib.hid (awake10_ok W)
  have R1 := Lib.hid r1
  have HN1 := Lib.hid r1.len
  clear r1
  go_enter Try.func6, Try.ntmps6
  go_wp2_with fail
  refine HAW.out.mono ?_
  rintro e w1 ⟨rfl, k1⟩
  have HK1 := Lib.hid k1
  clear HAW k1
  by_cases hg : 1 ≤ mo ∧ mo ≤ 6 ∧ 0 ≤ m ∧ m ≤ 12 ∧ idl ≠ 0
  rotate_left
  · have HB := Lib.hid (ppnew_bad mo m idl w1 hg)
    clear hg
    go_wp2_with fail
    refine HB.out.mono ?_
    rintro e w2 ⟨rfl, rfl⟩
    clear HB
    go_wp2_with fail
    go_ret
    exact ⟨rfl, HK1.out⟩
  obtain ⟨g1, g2, g3, g4, g5⟩ := hg
  have HP1 := Lib.hid (ppnew_good mo m idl w1 g1 g2 g3 g4 g5)
  have HK0 := Lib.hid (KInv.new (mo := mo) (m := m) (by omega) g3)
  clear g5
  go_wp2_with fail
  refine HP1.out.mono ?_
  rintro e w2 ⟨b, S2, rfl, p2, q2, k2⟩
  have HS2 : Hid (Solo W (PP b mo idl m ⟨[], [], 0⟩) noneB w2) := Lib.hid (Solo.make HK1.out p2 q2 k2)
  clear p2 q2 k2 HP1 HK1
  by_cases hbig : 100 < l1
  · have hb : (100 : Int) < (l1 : Int) := by omega
    have HLW := Lib.hid HS2.out.low
    clear hbig HS2
    go_wp2_with fail
    go_ret
    exact ⟨rfl, HLW.out⟩
  have hl1 : l1 ≤ 100 := by omega
  have hbl1 : ¬ (100 : Int) < (l1 : Int) := by omega
  clear hbig
  go_wp2_with fail
  go_loopw [11, 38] (fun la i wr => ∃ (k : Nat) (p : Pl) (z : Int), k ≤ l1 ∧ i = .int .i64 k ∧ la = .int .i64 z ∧ Hid (KInv mo m k p) ∧ Hid (z ≤ p.last) ∧ Hid (Solo W (PP b mo idl m p) noneB wr)) (fun _ i _ => l1 - (intOf i).toNat)
  case atStart => exact ⟨0, _, 0, Nat.zero_le _, rfl, rfl, HK0, Lib.hid (Int.le_refl 0), HS2⟩
  case round =>
    obtain ⟨k, p, z, hk, rfl, rfl, HK, HZ, hD⟩ := hrel
    by_cases hlt : k < l1
    · have hkl : k < ts.length := by rw [HN1.out]; exact hlt
      obtain ⟨ad, rfl, _, hcc⟩ := R1.out.at_ hkl
      obtain ⟨x0, x1, x2, x3, x4, x5⟩ := hcc wr hD.out.low
      clear hcc HK0 HS2
      generalize ts[k] = t at *
      have HST := Lib.hid (IStep.do HK.out.ids (by omega) mo idl m t)
      have HKN := Lib.hid (HK.out.do (by omega) idl t)
      have HLA := Lib.hid (doP_last HK.out (by omega) idl t)
      obtain ⟨d, ss, id, ep, now, n⟩ := t
      dsimp only at x0 x1 x2 x3 x4 x5
      have HDX := Lib.hid (hD.out.mark (.cells #[.int .i64 d, .int .i64 ss, .int .i64 id, .int .u64 ep, .int .u64 now, .int .u64 n] 30))
      have HCN := Lib.hid HDX.out.conns
      have hba := heap_alloc_new wr (.cells #[.int .i64 d, .int .i64 ss, .int .i64 id, .int .u64 ep, .int .u64 now, .int .u64 n] 30)
      have hsa : (wr.alloc (.cells #[.int .i64 d, .int .i64 ss, .int .i64 id, .int .u64 ep, .int .u64 now, .int .u64 n] 30)).heap.size = wr.heap.size + 1 := by simp
      obtain ⟨wx, hwx⟩ : ∃ u, wr.alloc (.cells #[.int .i64 d, .int .i64 ss, .int .i64 id, .int .u64 ep, .int .u64 now, .int .u64 n] 30) = u := ⟨_, rfl⟩
      rw [hwx] at HCN hba hsa
      have HWX := Lib.hid hwx
      have HBA := Lib.hid hba
      have HLX := Lib.hid (show Below W.heap.size W wx from hwx ▸ kp_alloc hD.out.low _)
      clear HDX hwx hba hD
      go_wp2_with fail
      rw [HWX.out]
      refine HCN.out.mono ?_
      rintro e w3 ⟨A3, n3, c3, rfl, hr3, hn3, hb3, hs3⟩
      have HR3 := Lib.hid hr3
      have HDO := Lib.hid (hs3.act (⟨d, ss, id, ep, now, n⟩ : Act6) HK.out (by omega))
      have hx3 := (hb3.block wr.heap.size (by omega)).trans HBA.out
      obtain ⟨y0, _⟩ := cellsAt hx3 0 (v := .int .i64 d) rfl
      obtain ⟨y1, _⟩ := cellsAt hx3 1 (v := .int .i64 ss) rfl
      obtain ⟨y2, _⟩ := cellsAt hx3 2 (v := .int .i64 id) rfl
      obtain ⟨y3, _⟩ := cellsAt hx3 3 (v := .int .u64 ep) rfl
      obtain ⟨y4, _⟩ := cellsAt hx3 4 (v := .int .u64 now) rfl
      obtain ⟨y5, _⟩ := cellsAt hx3 5 (v := .int .u64 n) rfl
      clear hr3 hb3 hs3 hx3 HCN HWX HBA HLX
      dsimp only at HDO
      go_wp2_with fail
      refine HDO.out.mono ?_
      rintro e w4 ⟨rfl, hs4, hk4, hz4⟩
      have HR4 := Lib.hid (HR3.out.kept hz4 fun k hk => hk4 k (.inl hk))
      generalize hp4 : doP mo idl m (⟨d, ss, id, ep, now, n⟩ : Act6) p = p4 at *
      have HCN := Lib.hid hs4.conns
      clear hs4 hk4 hz4 HDO HR3 y0 y1 y2 y3 y4 y5 hp4
      unfold told6V
      go_wp2_with fail
      refine HCN.out.mono ?_
      rintro e w5 ⟨A5, n5, c5, rfl, hr5, hn5, hb5, hs5⟩
      have HR4 := Lib.hid (HR4.out.next hb5)
      have HR5 := Lib.hid hr5
      have HS5 := Lib.hid (hs5.less (N' := noneB) fun _ h => h.elim)
      have HN5 := Lib.hid (show p4.l.length = n5 by have := hr5.len; rwa [List.length_map] at this)
      have HN3 := Lib.hid (show p.l.length = n3 by have := HR4.out.len; rwa [List.length_map] at this)
      clear hr5 hb5 hs5 HCN
      go_wp2_with fail
      go_loopw [11, 50] (fun la i wr2 => ∃ (q : Nat) (z : Int), q ≤ n5 ∧ i = .int .i64 q ∧ la = .int .i64 z ∧ Hid (z ≤ p.last ∨ ∃ j, ∃ hj : j < p4.l.length, j < q ∧ z = p4.l[j].id) ∧ Hid (Below w5.heap.size w5 wr2)) (fun _ i _ => n5 - (intOf i).toNat)
      case atStart => exact ⟨0, z, Nat.zero_le _, rfl, rfl, Lib.hid (.inl HZ.out), Lib.hid (Below.refl _ _)⟩
      case round =>
        obtain ⟨q, z, hq, rfl, rfl, HZQ, hw⟩ := hrel
        obtain ⟨wr2, hwo⟩ : ∃ x, x = wr := ⟨wr, rfl⟩
        subst hwo
        by_cases hltq : q < n5
        · have hql : q < p4.l.length := by rw [HN5.out]; exact hltq
          obtain ⟨ad5, rfl, _, hcc⟩ := HR5.out.at_ (j := q) (by rw [List.length_map]; exact hql)
          obtain ⟨v0, v1, v2, v3, v4, v5⟩ := hcc wr2 hw.out
          simp only [List.getElem_map] at v0 v1 v2 v3 v4 v5
          clear hcc
          -- what is known of it
          have hnew : thereF n3 p.l p4.l[q] = false → z < p4.l[q].id := fun e => by
            rcases HST.out.old p4.l[q] (List.getElem_mem hql) with ⟨x, hx, e1, e2⟩ | hl
            · exfalso
              unfold thereF at e
              rw [List.take_of_length_le (by rw [HN3.out]; exact Nat.le_refl _)] at e
              have := List.any_eq_false.1 e x hx
              exact this (by simp [e1, e2])
            · rcases HZQ.out with h | ⟨j, hj, hjq, h⟩
              · omega
              · have := List.pairwise_iff_getElem.1 HST.out.inv.up j q hj hql hjq
                omega
          have HNEW := Lib.hid hnew
          have HZN : Hid ((max z p4.l[q].id) ≤ p.last ∨ ∃ j, ∃ hj : j < p4.l.length, j < q + 1 ∧ (max z p4.l[q].id) = p4.l[j].id) := Lib.hid (by
            by_cases h : z ≤ p4.l[q].id
            · exact .inr ⟨q, hql, by omega, by omega⟩
            · rcases HZQ.out with h2 | ⟨j, hj, hjq, h2⟩
              · exact .inl (by omega)
              · exact .inr ⟨j, hj, by omega, by omega⟩)
          generalize hc : p4.l[q] = cc at *
          have HTN : Hid (∀ r (h : r < p.l.length), thereF (r + 1) p.l cc = (thereF r p.l cc || decide (p.l[r].id = cc.id ∧ p.l[r].ep = cc.ep))) := Lib.hid fun r h => thereF_next h
          clear hc hnew HZQ
          obtain ⟨mx, hmxe⟩ : ∃ mx : Int, mx = if cc.id > z then cc.id else z := ⟨_, rfl⟩
          have hmx : ∀ (u : World) (ts : Array TypeId) (ty : TypeId), (Builtin.max_ ts ty #[.int .i64 z, .int .i64 cc.id]).run Try.prog u = .ok (.int .i64 mx) u := fun u ts ty => by
            rw [hmxe]; exact run_max_int2 (P := Try.prog) (w := u) ts ty .i64 .i64 z cc.id
          have hmxm : max z cc.id = mx := by rw [hmxe]; split <;> omega
          rw [hmxm] at HZN
          clear hmxe hmxm
          have HW5 := Lib.hid hw
          dsimp only [infoH] at v0 v1 v2 v3 v4 v5
          have hbc := heap_alloc_new wr2 (.cells #[.int .i64 cc.id, .int .i64 cc.c.s, .int .i64 cc.c.o, .int .u64 cc.ep, .int .u64 cc.c.f, .int .u64 cc.t] 39)
          have hsz : (wr2.alloc (.cells #[.int .i64 cc.id, .int .i64 cc.c.s, .int .i64 cc.c.o, .int .u64 cc.ep, .int .u64 cc.c.f, .int .u64 cc.t] 39)).heap.size = wr2.heap.size + 1 := by simp
          have HBC := Lib.hid hbc
          have HSZ := Lib.hid hsz
          have HKA := Lib.hid (kp_alloc HW5.out (.cells #[.int .i64 cc.id, .int .i64 cc.c.s, .int .i64 cc.c.o, .int .u64 cc.ep, .int .u64 cc.c.f, .int .u64 cc.t] 39))
          clear hw hbc hsz
          go_wp2_with fail
          go_loopw [17, 56] (fun fl i wr3 => ∃ (r : Nat), r ≤ n3 ∧ i = .int .i64 r ∧ fl = .bool (thereF r p.l cc) ∧ Hid (Below (wr2.alloc (.cells #[.int .i64 cc.id, .int .i64 cc.c.s, .int .i64 cc.c.o, .int .u64 cc.ep, .int .u64 cc.c.f, .int .u64 cc.t] 39)).heap.size (wr2.alloc (.cells #[.int .i64 cc.id, .int .i64 cc.c.s, .int .i64 cc.c.o, .int .u64 cc.ep, .int .u64 cc.c.f, .int .u64 cc.t] 39)) wr3)) (fun _ i _ => n3 - (intOf i).toNat)
          case atStart => exact ⟨0, Nat.zero_le _, rfl, rfl, Lib.hid (Below.refl _ _)⟩
          case round =>
            obtain ⟨r, hr, rfl, rfl, hv⟩ := hrel
            obtain ⟨wr3, hwo⟩ : ∃ x, x = wr := ⟨wr, rfl⟩
            subst hwo
            have hx16 := (hv.out.block wr2.heap.size (by rw [HSZ.out]; omega)).trans HBC.out
            obtain ⟨y0, _⟩ := cellsAt hx16 0 (v := .int .i64 cc.id) rfl
            obtain ⟨y3, _⟩ := cellsAt hx16 3 (v := .int .u64 cc.ep) rfl
            have hlt16 : wr2.heap.size < wr3.heap.size := by have := hv.out.size; rw [HSZ.out] at this; omega
            clear hx16
            by_cases hltr : r < n3
            · have hrl : r < p.l.length := by rw [HN3.out]; exact hltr
              obtain ⟨ad3, rfl, _, hcc⟩ := HR4.out.at_ (j := r) (by rw [List.length_map]; exact hrl)
              obtain ⟨z0, z1, z2, z3, z4, z5⟩ := hcc wr3 (kp_trans HKA.out hv.out)
              simp only [List.getElem_map] at z0 z1 z2 z3 z4 z5
              dsimp only [infoH] at z0 z1 z2 z3 z4 z5
              have HTR := Lib.hid (HTN.out r hrl)
              clear hcc
              generalize p.l[r] = dd at *
              have HKV := Lib.hid (kp_alloc hv.out (.cells #[.int .i64 dd.id, .int .i64 dd.c.s, .int .i64 dd.c.o, .int .u64 dd.ep, .int .u64 dd.c.f, .int .u64 dd.t] 39))
              generalize hf2e : thereF (r + 1) p.l cc = f2 at *
              have HF2 := Lib.hid hf2e
              clear hf2e
              generalize thereF r p.l cc = f1 at *
              clear hv v0 v1 v2 v3 v4 v5
              cases f1
              · by_cases hid : dd.id = cc.id
                · by_cases hep : dd.ep = cc.ep
                  · have hid2 : (dd.id == cc.id) = true := by simp [hid]
                    have hep2 : (dd.ep == cc.ep) = true := by simp [hep]
                    have hf2 : f2 = true := by rw [HTR.out]; simp [hid, hep]
                    subst hf2
                    clear HTR hid hep
                    go_wp2_with fail
                    go_roundw
                    case rel => exact ⟨r + 1, by omega, by go_num, by rw [HF2.out], HKV⟩
                    case measure => simp [intOf]; omega
                  · have hid2 : (dd.id == cc.id) = true := by simp [hid]
                    have hep2 : (dd.ep == cc.ep) = false := by simp [hep]
                    have hf2 : f2 = false := by rw [HTR.out]; simp [hid, hep]
                    subst hf2
                    clear HTR hid hep
                    go_wp2_with fail
                    go_roundw
                    case rel => exact ⟨r + 1, by omega, by go_num, by rw [HF2.out], HKV⟩
                    case measure => simp [intOf]; omega
                · have hid2 : (dd.id == cc.id) = false := by simp [hid]
                  have hf2 : f2 = false := by rw [HTR.out]; simp [hid]
                  subst hf2
                  clear HTR hid
                  go_wp2_with fail
                  go_roundw
                  case rel => exact ⟨r + 1, by omega, by go_num, by rw [HF2.out], HKV⟩
                  case measure => simp [intOf]; omega
              · have hf2 : f2 = true := by rw [HTR.out]; simp
                subst hf2
                clear HTR
                go_wp2_with fail
                go_roundw
                case rel => exact ⟨r + 1, by omega, by go_num, by rw [HF2.out], HKV⟩
                case measure => simp [intOf]; omega
            · obtain rfl : r = n3 := by omega
              have HKW := Lib.hid (kp_trans HKA.out hv.out)
              clear v0 v1 v2 v3 v4 v5 hv
              generalize thereF r p.l cc = f1 at *
              have hmx2 := hmx wr3
              cases f1
              · have hlt2 : ¬ cc.id ≤ z := by have := HNEW.out rfl; omega
                clear HNEW
                go_wp2_with fail
                go_roundw
                case rel => exact ⟨q + 1, mx, by omega, by go_num, rfl, HZN, HKW⟩
                case measure => simp [intOf]; omega
              · clear HNEW
                go_wp2_with fail
                go_roundw
                case rel => exact ⟨q + 1, mx, by omega, by go_num, rfl, HZN, HKW⟩
                case measure => simp [intOf]; omega
        · obtain rfl : q = n5 := by omega
          have HKZ : Hid (Solo W (PP b mo idl m p4) noneB wr2) := Lib.hid (HS5.out.next hw.out)
          have HZ4 : Hid (z ≤ p4.last) := Lib.hid (by
            rcases HZQ.out with h | ⟨j, hj, _, h⟩
            · have := HLA.out; omega
            · have := HKN.out.ids.ids _ (List.getElem_mem hj); omega)
          clear hw HZQ
          go_wp2_with fail
          go_roundw
          case rel => exact ⟨k + 1, p4, z, by omega, by go_num, rfl, HKN, HZ4, HKZ⟩
          case measure => simp [intOf]; omega
    · have HLW := Lib.hid hD.out.low
      clear hD
      go_wp2_with fail
      go_ret
      exact ⟨rfl, HLW.out⟩
end
end Go.Proofs.Ytkbaljdpnopbmaa
