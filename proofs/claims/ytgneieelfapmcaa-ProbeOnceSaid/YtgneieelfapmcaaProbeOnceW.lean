/-
  ProbeOnce, of layer 13: the walk, out of what is asked of the project's plan of probes.
-/
import Derived.Test.YtgneieelfapmcaaPrA
import Derived.Test.YtgneieelfapmcaaPrO
namespace Go.Proofs.Ytgneieelfapmcaa
open Go.RowKit
set_option maxRecDepth 100000

theorem cntO_next {l : List Nw} {i : Nat} (h : i < l.length) : cntO (l.take (i + 1)) = cntO (l.take i) + (if l[i].o = 0 then 0 else 1) := by
  rw [List.take_succ_eq_append_getElem h]
  unfold cntO
  rw [List.filter_append, List.length_append]
  by_cases e : l[i].o = 0
  · simp [e]
  · simp [e]
/-- when each was asked, as it lies -/
def aqO (aq : List Int) : Obj := .cells (uvs aq).toArray 51 (0, 0)
theorem aqO_cell {w : World} {ab : Nat} {aq : List Int} (h : w.heap[ab]? = some (aqO aq)) {j : Nat} (hj : j < aq.length) : w.cell? ⟨ab, j, none⟩ = some (.int .u64 aq[j]) ∧ w.frozen? ⟨ab, j, none⟩ = false := cellsAt h j (by simp [uvs, hj])
theorem aqO_set {w : World} {ab : Nat} {aq : List Int} (h : w.heap[ab]? = some (aqO aq)) (j : Nat) (v : Int) : (w.setCell ⟨ab, j, none⟩ (.int .u64 v)).heap[ab]? = some (aqO (aq.set j v)) := by
  have := heap_setCell_same w ab j _ _ (.int .u64 v) h
  unfold aqO
  rw [uvs_set]
  simpa [Array.set!_eq_setIfInBounds] using this

theorem ansC_length (p : Pb) (i n : Int) : (ansC p i n).l.length = p.l.length := by
  unfold ansC
  cases ansB p i n with
  | false => rfl
  | true => exact List.length_modify _ _ _
theorem ansC_ev (p : Pb) (i n : Int) : (ansC p i n).ev = p.ev ∧ (ansC p i n).last = p.last := by
  unfold ansC
  cases ansB p i n <;> exact ⟨rfl, rfl⟩

set_option maxHeartbeats 64000000 in
theorem probeonce_walk {X : Nat → Pb → Thing} (C : ProbeC X) (n ev la : Int) (A1 : Option Addr) (l1 c1 : Nat) (ts : List Ac3) (W : World) (hn : I64 n) (hev : U64 ev) (hla : U64 la) (r1 : AP W A1 l1 ts) (hy0 : ∀ x ∈ ts, I64 x.x ∧ U64 x.y) :
    Calls Try.prog 4 #[.int .i64 n, .int .u64 ev, .int .u64 la, .slice A1 l1 c1] W fun e w' => e = .returned (.bool true) ∧ Below W.heap.size W w' := by
  have HC := Lib.hid C
  have HAW := Lib.hid (awake13_ok C W)
  have R1 := Lib.hid r1
  have HN1 := Lib.hid r1.len
  have HY0 := Lib.hid hy0
  clear r1 C hy0
  go_enter Try.func4, Try.ntmps4
  go_wp2_with fail
  refine HAW.out.mono ?_
  rintro e w1 ⟨rfl, k1⟩
  have HK1 := Lib.hid k1
  clear HAW k1
  by_cases hok : newOk13 n ev la
  rotate_left
  · have HB := Lib.hid (HC.out.bad n ev la w1 hn hev hla hok)
    go_wp2_with fail
    refine HB.out.mono ?_
    rintro e w3 ⟨rfl, k3⟩
    have HK3 := Lib.hid (HK1.out.trans (k3.mono HK1.out.size))
    clear HB k3 HK1 hok
    go_wp2_with fail
    go_ret
    exact ⟨rfl, HK3.out⟩
  have HG := Lib.hid (HC.out.good n ev la w1 hok)
  obtain ⟨m, hm⟩ : ∃ m : Nat, n = m := ⟨n.toNat, by unfold newOk13 at hok; omega⟩
  have HL0 : Hid ((newPb n ev la).l.length = m) := Lib.hid (by simp [newPb, hm])
  have HP0 := Lib.hid (PrI.new hok)
  have hm6 : m ≤ 6 := by unfold newOk13 at hok; omega
  have HEV : Hid ((newPb n ev la).ev = ev) := Lib.hid rfl
  have hC0 : cntO (newPb n ev la).l = 0 := by
    unfold cntO newPb
    rw [List.filter_eq_nil_iff.2 fun x hx => by
      obtain ⟨j, _, rfl⟩ := List.mem_map.1 hx
      simp]
    rfl
  have hL0 : (newPb n ev la).last = 0 := rfl
  have HQ0 := Lib.hid (AqI.new n ev la)
  subst hm
  clear hok
  obtain ⟨p0, hp0⟩ : ∃ p, newPb m ev la = p := ⟨_, rfl⟩
  rw [hp0] at HG HL0 HP0 HEV hC0 hL0 HQ0
  have HC0 := Lib.hid hC0
  have HLA := Lib.hid hL0
  clear hp0 hC0 hL0
  go_wp2_with fail
  refine HG.out.mono ?_
  rintro e w3 ⟨b, rfl, ⟨S3, x3, y3⟩, k3⟩
  have HS3 : Hid (Solo W (X b p0) noneB w3) := Lib.hid (Solo.make HK1.out x3 y3 k3)
  obtain ⟨bo, hbo⟩ : ∃ x, (!fineA ts) = x := ⟨_, rfl⟩
  have HLG := Lib.hid (llarge_ok A1 l1 c1 ts w3 (R1.out.next HS3.out.low) bo (Lib.hid hbo))
  have HBO := Lib.hid hbo
  clear HG x3 y3 k3 HK1 hbo
  go_wp2_with fail
  refine HLG.out.mono ?_
  rintro e w4 ⟨rfl, k4⟩
  have HS4 := Lib.hid (HS3.out.next k4)
  clear HLG k4 HS3
  cases bo with
  | true =>
    go_wp2_with fail
    go_ret
    exact ⟨rfl, HS4.out.low⟩
  | false =>
  obtain ⟨hl200, hfine⟩ := fineA_at.1 (by simpa using HBO.out)
  have HFI := Lib.hid hfine
  have hl2 : l1 ≤ 200 := by rw [← HN1.out]; exact hl200
  have hs5 := HS4.out.mark (aqO [0, 0, 0, 0, 0, 0])
  have hb5 := heap_alloc_new w4 (aqO [0, 0, 0, 0, 0, 0])
  have hW4 := HS4.out.low.size
  obtain ⟨ab, hab⟩ : ∃ b, w4.heap.size = b := ⟨_, rfl⟩
  have HAE := Lib.hid hab
  rw [hab] at hs5 hb5 hW4
  have HS5 := Lib.hid hs5
  have HB5 := Lib.hid hb5
  clear hl200 hfine hs5 hb5 HS4 hab
  go_wp2_with fail
  rw [HAE.out]
  go_loopw [11, 12, 14, 45] (fun nv lv ov i wr => ∃ (k : Nat) (now : Int) (p : Pb) (aq : List Int), k ≤ l1 ∧ i = .int .i64 k ∧ nv = .int .u64 now ∧ lv = .int .u64 p.last ∧ ov = .int .i64 (cntO p.l) ∧ 0 ≤ now ∧ now ≤ (k : Int) * 1048576 ∧ Hid (PrI now k p) ∧ Hid (p.l.length = m ∧ p.ev = ev) ∧ Hid (AqI now p aq) ∧ Hid (Solo W (X b p) (fun k => k = ab ∨ noneB k) wr) ∧ Hid (wr.heap[ab]? = some (aqO aq))) (fun _ _ _ i _ => l1 - (intOf i).toNat)
  case atStart => exact ⟨0, 0, p0, _, Nat.zero_le _, rfl, rfl, by rw [HLA.out], by rw [HC0.out], Int.le_refl _, by omega, HP0, Lib.hid ⟨HL0.out, HEV.out⟩, HQ0, HS5, HB5⟩
  case round =>
    obtain ⟨k, now, p, aq, hk, rfl, rfl, rfl, rfl, hn0, hnk, HP, HLE, HQ, hS, hAB⟩ := hrel
    clear HP0 HL0 HEV HQ0 HS5 HB5 HC0 HLA
    by_cases hlt : k < l1
    · have hkl : k < ts.length := by rw [HN1.out]; exact hlt
      obtain ⟨ad, rfl, _, hcc⟩ := R1.out.at_ hkl
      obtain ⟨x0, x1, x2⟩ := hcc wr hS.out.low
      have hfi := HFI.out k hkl
      obtain ⟨htx, hty0⟩ := HY0.out ts[k] (List.getElem_mem hkl)
      have hty := hty0.1
      clear hcc
      generalize ts[k] = t at *
      have HTX := Lib.hid htx
      have HTY := Lib.hid hty0
      clear htx hty0
      have hsx := hS.out.mark (.cells #[.int .i64 t.d, .int .i64 t.x, .int .u64 t.y] 34)
      have hba := heap_alloc_new wr (.cells #[.int .i64 t.d, .int .i64 t.x, .int .u64 t.y] 34)
      have haz := (Array.getElem?_eq_some_iff.1 hAB.out).1
      have hax := (heap_alloc_old wr (.cells #[.int .i64 t.d, .int .i64 t.x, .int .u64 t.y] 34) haz).trans hAB.out
      obtain ⟨wx, hwx⟩ : ∃ u, wr.alloc (.cells #[.int .i64 t.d, .int .i64 t.x, .int .u64 t.y] 34) = u := ⟨_, rfl⟩
      rw [hwx] at hsx hba hax
      obtain ⟨xb, hX⟩ : ∃ X, X = wr.heap.size := ⟨_, rfl⟩
      rw [← hX] at hsx hba haz
      have HX := Lib.hid hX
      have HWX := Lib.hid hwx
      have HXA := Lib.hid hba
      have HAX := Lib.hid hax
      have HSX := Lib.hid hsx
      clear hsx hba hax hwx hS hAB hX
      by_cases hd0 : t.d = 0
      · have hd0' : (t.d != 0) = false := by simpa using hd0
        have hle : t.y ≤ 1048576 := by have := fun h => hfi ⟨hd0, h⟩; omega
        have hw : IntKind.u64.wrap (now + t.y) = now + t.y := by rw [IntKind.wrap_u64]; omega
        have HT := Lib.hid (HSX.out.tick HC.out HP.out (now := now + t.y) (by omega) (by omega) (by omega))
        have hcn0 := cntO_nonneg p.l
        have hcn1 := cntO_le p.l
        rw [HLE.out.1] at hcn1
        have hp0 := HP.out.n0
        have hpm := HP.out.nm
        have HCT := Lib.hid (cntO_tick (p := p) (now + t.y) hp0)
        have HP40 := HP.out.tick (now := now + t.y) (by omega)
        have HQ40 := HQ.out.tick HP.out (now := now + t.y) (by omega)
        have HL40 : (tickC p (now + t.y)).l.length = m := by
          refine Eq.trans ?_ HLE.out.1
          show (runF _ _ _ _).length = _
          rw [runF_length]
          simp
        have HE40 : (tickC p (now + t.y)).ev = ev := HLE.out.2
        have HLT0 : (tickC p (now + t.y)).last = p.last + (tickA p (now + t.y)).length := by unfold tickA; rw [askF_length]; rfl
        obtain ⟨co, hco⟩ : ∃ x, cntO p.l = x := ⟨_, rfl⟩
        rw [hco] at hcn0 hcn1 HCT ⊢
        clear hd0 hfi hco
        go_wp2_with fail
        rw [HWX.out, ← HX.out]
        refine HT.out.mono ?_
        rintro e w5 ⟨A, n5, c5, B, m5, d5, rfl, ha, hb, hs5, hq5, hz5, hr5⟩
        have HAX5 := Lib.hid ((hq5 ab (.inr (.inl rfl))).trans HAX.out)
        have hazx := (Array.getElem?_eq_some_iff.1 HAX.out).1
        have HRA : Hid (∀ ad, A = some ad → ad.block ≠ ab) := Lib.hid fun ad hA e => by have := hr5 ab (.inl ⟨ad, hA, e⟩); omega
        have HRB : Hid (∀ ad, B = some ad → ad.block ≠ ab) := Lib.hid fun ad hA e => by have := hr5 ab (.inr ⟨ad, hA, e⟩); omega
        have hn5 : (tickA p (now + t.y)).length = n5 := ha.len
        have hm5 : (tickL p (now + t.y)).length = m5 := hb.len
        have hn6 : n5 ≤ 6 := by
          have h1 := askF_length (now + t.y) p.last 0 (p.l.map (dropN p.la (now + t.y)))
          have h2 := cntF_le (now + t.y) (p.l.map (dropN p.la (now + t.y)))
          rw [List.length_map, HLE.out.1] at h2
          rw [← hn5]
          unfold tickA
          omega
        have hm7 : m5 ≤ 6 := by
          rw [← hm5]
          have h1 := lateF_length p.la (now + t.y) 0 p.l
          rw [HLE.out.1] at h1
          unfold tickL
          omega
        rw [hn5] at HCT HQ40 HLT0
        rw [hm5] at HCT
        have hlx := hs5.less (N' := (fun k => k = xb ∨ k = ab ∨ noneB k)) fun k hk => .inr hk
        obtain ⟨p4, hp4⟩ : ∃ y, tickC p (now + t.y) = y := ⟨_, rfl⟩
        rw [hp4] at HP40 HQ40 HL40 HE40 HLT0 HCT hlx
        have HP4 := Lib.hid HP40
        have HQ4 := Lib.hid HQ40
        have HL4 := Lib.hid HL40
        have HE4 := Lib.hid HE40
        have HLT4 := Lib.hid HLT0
        have HOP4 := HCT
        have HSA := Lib.hid hlx
        have HA5 := Lib.hid ha
        have HB5 := Lib.hid hb
        have HAX5' : Hid (w5.heap[ab]? = some (aqO (aqQ (now + t.y) (p.l.map (dropN p.la (now + t.y))) aq 0))) := Lib.hid (by rw [aqQ_zero]; exact HAX5.out)
        have HN5 := Lib.hid hn5
        have HM5 := Lib.hid hm5
        have hwo : IntKind.i64.wrap (co - (m5 : Int)) = co - m5 := by rw [IntKind.wrap_i64]; omega
        have ht0 := HP.out.t0
        clear HT HP40 HQ40 HL40 HE40 HLT0 HCT hp4 ha hb hs5 hq5 hz5 hr5 hlx HAX5 hazx hn5 hm5 HSX HXA HAX HWX HX x0 x1 x2
        go_wp2_with fail
        obtain ⟨wo, hwo'⟩ : ∃ x, x = wr := ⟨wr, rfl⟩
        subst hwo'
        go_loopw [12, 14, 98] (fun lv ov i wi => ∃ q : Nat, q ≤ n5 ∧ i = .int .i64 q ∧ lv = .int .u64 (p.last + q) ∧ ov = .int .i64 (co - m5 + q) ∧ Hid (Solo W (X b p4) (fun k => k = xb ∨ k = ab ∨ noneB k) wi) ∧ Hid (wi.heap[ab]? = some (aqO (aqQ (now + t.y) (p.l.map (dropN p.la (now + t.y))) aq q))) ∧ Hid (AK wi A n5 (tickA p (now + t.y))) ∧ Hid (NR wi B m5 (tickL p (now + t.y)))) (fun _ _ i _ => n5 - (intOf i).toNat)
        case atStart => exact ⟨0, Nat.zero_le _, rfl, by simp, by simp, HSA, HAX5', HA5, HB5⟩
        case round =>
          obtain ⟨q, hq, rfl, rfl, rfl, hs, hab, hra, hrb⟩ := hrel
          clear HSA HAX5' HA5 HB5
          by_cases hltq : q < n5
          · obtain ⟨j, hjl, hget, hj6, hnext, hfit⟩ := ask_fits HQ.out HP.out (now := now + t.y) q (by rw [HN5.out]; exact hltq)
            have hja : j < aq.length := by rw [HQ.out.len]; exact hj6
            obtain ⟨hv1, hv2⟩ := hfit hja
            obtain ⟨ad, hA, _, hc⟩ := hra.out.at_ (j := q) (by rw [HN5.out]; exact hltq)
            obtain ⟨d1, d2⟩ := hc wr (Below.refl _ _)
            rw [hget] at d1 d2
            dsimp only at d1 d2
            obtain ⟨v1, v2⟩ := aqO_cell hab.out (j := j) (by rw [aqQ_length]; exact hja)
            rw [hv1] at v1
            obtain ⟨lo1, lo2⟩ := HQ.out.lo j hja
            rw [HLE.out.2] at hv2
            have hazw := (Array.getElem?_eq_some_iff.1 hab.out).1
            have hjm : (j : Int) < (m : Int) := by have := HLE.out.1; omega
            have hj0 : ¬ (j : Int) < 0 := by omega
            have hjn : ¬ (m : Int) ≤ (j : Int) := by omega
            have hj6' : (j : Int) < 6 := by omega
            have hj0' : (0 : Int) ≤ (j : Int) := by omega
            have hwl : IntKind.u64.wrap (p.last + (q : Int) + 1) = p.last + q + 1 := by rw [IntKind.wrap_u64]; omega
            have hwo2 : IntKind.i64.wrap (co - (m5 : Int) + q + 1) = co - m5 + q + 1 := by rw [IntKind.wrap_i64]; omega
            have hwn : IntKind.u64.wrap (now + t.y + 1) = now + t.y + 1 := by rw [IntKind.wrap_u64]; omega
            have kn := kp_new (wr.setCell ⟨ab, j, none⟩ (.int .u64 (now + t.y + 1))) (.cells #[.int .i64 j, .int .u64 (p.last + q + 1)] 53)
            have hab2 := aqO_set hab.out j (now + t.y + 1)
            rw [← hnext] at hab2
            have HS6 := Lib.hid ((hs.out.poke (a := ⟨ab, j, none⟩) (.inr (.inl rfl)) hW4 (.int .u64 (now + t.y + 1))).next kn)
            have HAB6 := Lib.hid ((kn.block ab (Array.getElem?_eq_some_iff.1 hab2).1).trans hab2)
            have HRA6 := Lib.hid ((hra.out.off (w' := wr.setCell ⟨ab, j, none⟩ (.int .u64 (now + t.y + 1))) (by rw [set_size]; exact Nat.le_refl _) fun ad hA => set_other (HRA.out ad hA)).next kn)
            have HRB6 := Lib.hid ((hrb.out.off (w' := wr.setCell ⟨ab, j, none⟩ (.int .u64 (now + t.y + 1))) (by rw [set_size]; exact Nat.le_refl _) fun ad hA => set_other (HRB.out ad hA)).next kn)
            obtain ⟨v, hv⟩ : ∃ x, aq[j] = x := ⟨_, rfl⟩
            rw [hv] at v1 lo1 lo2 hv2
            subst hA
            clear hs hab hra hrb hc hget hnext hfit hv1 kn hab2 hv
            by_cases hv0 : v = 0
            · have hv0' : (v != 0) = false := by simpa using hv0
              clear hv0 hv2 lo1 lo2
              go_wp2_with fail
              go_roundw
              case rel => exact ⟨q + 1, by omega, by go_num, by go_num, by go_num, HS6, HAB6, HRA6, HRB6⟩
              case measure => simp [intOf]; omega
            · have hv0' : (v != 0) = true := by simpa using hv0
              have hv3 := hv2 hv0
              have hws : IntKind.u64.wrap (v - 1) = v - 1 := by rw [IntKind.wrap_u64]; omega
              have hwt : IntKind.u64.wrap (now + t.y - (v - 1)) = now + t.y - (v - 1) := by rw [IntKind.wrap_u64]; omega
              have hv4 : ¬ now + t.y - (v - 1) < ev := by omega
              clear hv0 hv2 lo1 lo2 hv3
              go_wp2_with fail
              go_roundw
              case rel => exact ⟨q + 1, by omega, by go_num, by go_num, by go_num, HS6, HAB6, HRA6, HRB6⟩
              case measure => simp [intOf]; omega
          · obtain rfl : q = n5 := by omega
            obtain ⟨wv, hwv⟩ : ∃ x, x = wr := ⟨wr, rfl⟩
            subst hwv
            clear hra hltq hq
            go_wp2_with fail
            go_loopw [147] (fun i wi => ∃ z : Nat, z ≤ m5 ∧ i = .int .i64 z ∧ wv = wi) (fun i _ => m5 - (intOf i).toNat)
            case atStart => exact ⟨0, Nat.zero_le _, rfl, rfl⟩
            case round =>
              obtain ⟨z, hz, rfl, rfl⟩ := hrel
              by_cases hltz : z < m5
              · obtain ⟨j, hjl, hget, hj6, hne⟩ := late_fits HQ.out HP.out (now := now + t.y) (by omega) z (by rw [HM5.out]; exact hltz) q
                have hja : j < aq.length := by rw [HQ.out.len]; exact hj6
                have hne := hne hja
                obtain ⟨ad, hB, _, hc⟩ := hrb.out.at_ (j := z) (by rw [HM5.out]; exact hltz)
                have d1 := hc _ (Below.refl _ _)
                rw [hget] at d1
                obtain ⟨v1, v2⟩ := aqO_cell hab.out (j := j) (by rw [aqQ_length]; exact hja)
                obtain ⟨v, hv⟩ : ∃ x, (aqQ (now + t.y) (p.l.map (dropN p.la (now + t.y))) aq q)[j]'(by rw [aqQ_length]; exact hja) = x := ⟨_, rfl⟩
                rw [hv] at v1 hne
                have hv0 : (v == 0) = false := by simpa using hne
                have hjm : (j : Int) < (m : Int) := by have := HLE.out.1; omega
                have hj0 : ¬ (j : Int) < 0 := by omega
                have hjn : ¬ (m : Int) ≤ (j : Int) := by omega
                have hj6' : (j : Int) < 6 := by omega
                have hj0' : (0 : Int) ≤ (j : Int) := by omega
                subst hB
                clear hc hget hne hv v2
                go_wp2_with fail
                go_roundw
                case rel => exact ⟨z + 1, by omega, by go_num, trivial⟩
                case measure => simp [intOf]; omega
              · obtain rfl : z = m5 := by omega
                obtain ⟨aq4, haq4⟩ : ∃ x, aqQ (now + t.y) (p.l.map (dropN p.la (now + t.y))) aq q = x := ⟨_, rfl⟩
                rw [haq4] at hab HQ4
                have HSY := hs
                have HAB := hab
                clear hs hab hrb haq4 hltz hz HP HQ
                go_wp2_with fail
                go_loopw [26, 166] (fun o i wi => ∃ j : Nat, j ≤ m ∧ i = .int .i64 j ∧ o = .int .i64 (cntO (p4.l.take j)) ∧ Hid (Solo W (X b p4) (fun k => k = xb ∨ k = ab ∨ noneB k) wi) ∧ Hid (wi.heap[ab]? = some (aqO aq4))) (fun _ i _ => m - (intOf i).toNat)
                case atStart => exact ⟨0, Nat.zero_le _, rfl, rfl, HSY, HAB⟩
                case round =>
                  obtain ⟨i, hi, rfl, rfl, hs, hab⟩ := hrel
                  clear HSY HAB
                  have hc0 := cntO_nonneg (p4.l.take i)
                  have hc1 := cntO_le (p4.l.take i)
                  rw [List.length_take] at hc1
                  by_cases hlt : i < m
                  · have hil : i < p4.l.length := by rw [HL4.out]; exact hlt
                    obtain ⟨no, hno⟩ : ∃ x, p4.l[i].o = x := ⟨_, rfl⟩
                    have ho1 : outP p4 (i : Int) = no := (outP_at (i := (i : Int)) (by omega) (by simpa using hil)).trans hno
                    have hnx : cntO (p4.l.take (i + 1)) = cntO (p4.l.take i) + (if no = 0 then 0 else 1) := by rw [← hno]; exact cntO_next hil
                    have HO := hs.out.out HC.out HP4.out (i : Int) ⟨by omega, by omega⟩
                    rw [ho1] at HO
                    have HO := Lib.hid HO
                    have HNX := Lib.hid hnx
                    clear hno ho1 hnx
                    obtain ⟨cn, hcn⟩ : ∃ x, cntO (p4.l.take i) = x := ⟨_, rfl⟩
                    rw [hcn] at hc0 hc1 HNX ⊢
                    go_wp2_with fail
                    refine HO.out.mono ?_
                    rintro e w8 ⟨rfl, s8, k8⟩
                    have HS8 := Lib.hid s8
                    have HA8 := Lib.hid ((k8.block ab (Array.getElem?_eq_some_iff.1 hab.out).1).trans hab.out)
                    clear HO s8 k8 hs hab
                    by_cases hz : no = 0
                    · have hz' : (no != 0) = false := by simpa using hz
                      rw [if_pos hz, Int.add_zero] at HNX
                      clear hz
                      go_wp2_with fail
                      go_roundw
                      case rel => exact ⟨i + 1, by omega, by go_num, by rw [HNX.out], HS8, HA8⟩
                      case measure => simp [intOf]; omega
                    · have hz' : (no != 0) = true := by simpa using hz
                      rw [if_neg hz] at HNX
                      have hw1 : IntKind.i64.wrap (cn + 1) = cn + 1 := by rw [IntKind.wrap_i64]; omega
                      clear hz
                      go_wp2_with fail
                      go_roundw
                      case rel => exact ⟨i + 1, by omega, by go_num, by rw [HNX.out], HS8, HA8⟩
                      case measure => simp [intOf]; omega
                  · obtain rfl : i = m := by omega
                    rw [List.take_of_length_le (by rw [HL4.out]; exact Nat.le_refl _)]
                    rw [HOP4.out]
                    have HSZ : Hid (Solo W (X b p4) (fun k => k = ab ∨ noneB k) wr) := Lib.hid (hs.out.less fun k hk => .inr hk)
                    clear hs
                    go_wp2_with fail
                    go_roundw
                    case rel => exact ⟨k + 1, (now + t.y), p4, aq4, by omega, by go_num, by go_num, by rw [HLT4.out], by rw [HOP4.out], by omega, by omega, HP4, Lib.hid ⟨HL4.out, HE4.out⟩, HQ4, HSZ, hab⟩
                    case measure => simp [intOf]; omega
      · have hd0' : (t.d != 0) = true := by simpa using hd0
        obtain ⟨on, hon⟩ : ∃ y, outP p t.x = y := ⟨_, rfl⟩
        have HOU := Lib.hid (hon ▸ HP.out.outU (by omega) t.x : U64 on)
        have HO0 := HSX.out.out HC.out HP.out t.x HTX.out
        rw [hon] at HO0
        have HO := Lib.hid HO0
        have HON := Lib.hid hon
        clear HO0 hon hd0 hfi hty
        go_wp2_with fail
        rw [HWX.out, ← HX.out]
        refine HO.out.mono ?_
        rintro e w5 ⟨rfl, s5, k5⟩
        have hx5 := (k5.block xb (Array.getElem?_eq_some_iff.1 HXA.out).1).trans HXA.out
        have HAX := Lib.hid ((k5.block ab (Array.getElem?_eq_some_iff.1 HAX.out).1).trans HAX.out)
        have HXA := Lib.hid hx5
        have HSX := Lib.hid s5
        obtain ⟨y0, _⟩ := cellsAt hx5 0 (v := .int .i64 t.d) rfl
        obtain ⟨y1, _⟩ := cellsAt hx5 1 (v := .int .i64 t.x) rfl
        obtain ⟨y2, _⟩ := cellsAt hx5 2 (v := .int .u64 t.y) rfl
        have HO0 := HSX.out.out HC.out HP.out t.x HTX.out
        rw [HON.out] at HO0
        have HO := Lib.hid HO0
        clear s5 k5 hx5 HWX HX HO0 x0 x1 x2
        by_cases hd1 : t.d = 1
        · have hd1' : (t.d == 1) = true := by simpa using hd1
          clear hd1
          go_wp2_with fail
          refine HO.out.mono ?_
          rintro e w6 ⟨rfl, s6, k6⟩
          have hx6 := (k6.block xb (Array.getElem?_eq_some_iff.1 HXA.out).1).trans HXA.out
          have HAX := Lib.hid ((k6.block ab (Array.getElem?_eq_some_iff.1 HAX.out).1).trans HAX.out)
          have HXA := Lib.hid hx6
          have HSX := Lib.hid s6
          clear y0 y1 y2
          obtain ⟨y1, _⟩ := cellsAt hx6 1 (v := .int .i64 t.x) rfl
          clear s6 k6 hx6 HO
          obtain ⟨p4, hp4⟩ : ∃ y, ansC p t.x t.y = y := ⟨_, rfl⟩
          obtain ⟨av, hav⟩ : ∃ y, ansB p t.x t.y = y := ⟨_, rfl⟩
          have HAN0 := HSX.out.answer HC.out HP.out t.x t.y HTX.out HTY.out
          have HP40 := (HP.out.ans t.x t.y).more (Nat.le_succ k)
          have HL40 := (ansC_length p t.x t.y).trans HLE.out.1
          have HE40 := (ansC_ev p t.x t.y).1.trans HLE.out.2
          have HT40 := (ansC_ev p t.x t.y).2
          have HQ40 := HQ.out.ans t.x t.y
          have HO40 := cntO_ans p t.x t.y
          have hab0 : av = true ↔ (t.y ≠ 0 ∧ on = t.y) := by rw [← hav]; unfold ansB; rw [decide_eq_true_iff, HON.out]
          rw [hp4, hav] at HAN0
          rw [hp4] at HP40 HL40 HE40 HT40 HQ40
          rw [hp4, hav] at HO40
          have HAN := Lib.hid HAN0
          have HP4 := Lib.hid HP40
          have HL4 := Lib.hid HL40
          have HE4 := Lib.hid HE40
          have HLT4 := Lib.hid HT40
          have HQ4 := Lib.hid HQ40
          have hcn0 := cntO_nonneg p.l
          have hcn1 := cntO_le p.l
          rw [HLE.out.1] at hcn1
          clear HAN0 HP40 HL40 HE40 HT40 HQ40 hp4 hav HSX
          obtain ⟨co, hco⟩ : ∃ x, cntO p.l = x := ⟨_, rfl⟩
          rw [hco] at HO40 hcn0 hcn1 ⊢
          go_wp2_with fail
          refine HAN.out.mono ?_
          rintro e w7 ⟨rfl, s7, q7⟩
          have HSY := Lib.hid s7
          have HAB := Lib.hid ((q7 ab (.inr (.inl rfl))).trans HAX.out)
          clear HAN s7 q7 HAX HXA HP HLE HQ hco
          cases av with
          | true =>
            obtain ⟨h1, h2⟩ := hab0.1 rfl
            have e1 : (t.y != 0) = true := by simpa using h1
            have e2 : (t.y == on) = true := by simpa using h2.symm
            have hw4 : IntKind.i64.wrap (co - 1) = co - 1 := by rw [IntKind.wrap_i64]; omega
            have HOP4 : Hid (cntO p4.l = co - 1) := Lib.hid (by rw [HO40]; rfl)
            clear hab0 h1 h2 HO40
            go_wp2_with fail
            go_loopw [26, 166] (fun o i wi => ∃ j : Nat, j ≤ m ∧ i = .int .i64 j ∧ o = .int .i64 (cntO (p4.l.take j)) ∧ Hid (Solo W (X b p4) (fun k => k = xb ∨ k = ab ∨ noneB k) wi) ∧ Hid (wi.heap[ab]? = some (aqO aq))) (fun _ i _ => m - (intOf i).toNat)
            case atStart => exact ⟨0, Nat.zero_le _, rfl, rfl, HSY, HAB⟩
            case round =>
              obtain ⟨i, hi, rfl, rfl, hs, hab⟩ := hrel
              clear HSY HAB
              have hc0 := cntO_nonneg (p4.l.take i)
              have hc1 := cntO_le (p4.l.take i)
              rw [List.length_take] at hc1
              by_cases hlt : i < m
              · have hil : i < p4.l.length := by rw [HL4.out]; exact hlt
                obtain ⟨no, hno⟩ : ∃ x, p4.l[i].o = x := ⟨_, rfl⟩
                have ho1 : outP p4 (i : Int) = no := (outP_at (i := (i : Int)) (by omega) (by simpa using hil)).trans hno
                have hnx : cntO (p4.l.take (i + 1)) = cntO (p4.l.take i) + (if no = 0 then 0 else 1) := by rw [← hno]; exact cntO_next hil
                have HO := hs.out.out HC.out HP4.out (i : Int) ⟨by omega, by omega⟩
                rw [ho1] at HO
                have HO := Lib.hid HO
                have HNX := Lib.hid hnx
                clear hno ho1 hnx
                obtain ⟨cn, hcn⟩ : ∃ x, cntO (p4.l.take i) = x := ⟨_, rfl⟩
                rw [hcn] at hc0 hc1 HNX ⊢
                go_wp2_with fail
                refine HO.out.mono ?_
                rintro e w8 ⟨rfl, s8, k8⟩
                have HS8 := Lib.hid s8
                have HA8 := Lib.hid ((k8.block ab (Array.getElem?_eq_some_iff.1 hab.out).1).trans hab.out)
                clear HO s8 k8 hs hab
                by_cases hz : no = 0
                · have hz' : (no != 0) = false := by simpa using hz
                  rw [if_pos hz, Int.add_zero] at HNX
                  clear hz
                  go_wp2_with fail
                  go_roundw
                  case rel => exact ⟨i + 1, by omega, by go_num, by rw [HNX.out], HS8, HA8⟩
                  case measure => simp [intOf]; omega
                · have hz' : (no != 0) = true := by simpa using hz
                  rw [if_neg hz] at HNX
                  have hw1 : IntKind.i64.wrap (cn + 1) = cn + 1 := by rw [IntKind.wrap_i64]; omega
                  clear hz
                  go_wp2_with fail
                  go_roundw
                  case rel => exact ⟨i + 1, by omega, by go_num, by rw [HNX.out], HS8, HA8⟩
                  case measure => simp [intOf]; omega
              · obtain rfl : i = m := by omega
                rw [List.take_of_length_le (by rw [HL4.out]; exact Nat.le_refl _)]
                rw [HOP4.out]
                have HSZ : Hid (Solo W (X b p4) (fun k => k = ab ∨ noneB k) wr) := Lib.hid (hs.out.less fun k hk => .inr hk)
                clear hs
                go_wp2_with fail
                go_roundw
                case rel => exact ⟨k + 1, now, p4, aq, by omega, by go_num, by go_num, by rw [HLT4.out], by rw [HOP4.out], by omega, by omega, HP4, Lib.hid ⟨HL4.out, HE4.out⟩, HQ4, HSZ, hab⟩
                case measure => simp [intOf]; omega
          | false =>
            have HOP4 : Hid (cntO p4.l = co) := Lib.hid (by rw [HO40]; simp)
            by_cases h1 : t.y = 0
            · have e1 : (t.y != 0) = false := by simpa using h1
              clear hab0 h1 HO40
              go_wp2_with fail
              go_loopw [26, 166] (fun o i wi => ∃ j : Nat, j ≤ m ∧ i = .int .i64 j ∧ o = .int .i64 (cntO (p4.l.take j)) ∧ Hid (Solo W (X b p4) (fun k => k = xb ∨ k = ab ∨ noneB k) wi) ∧ Hid (wi.heap[ab]? = some (aqO aq))) (fun _ i _ => m - (intOf i).toNat)
              case atStart => exact ⟨0, Nat.zero_le _, rfl, rfl, HSY, HAB⟩
              case round =>
                obtain ⟨i, hi, rfl, rfl, hs, hab⟩ := hrel
                clear HSY HAB
                have hc0 := cntO_nonneg (p4.l.take i)
                have hc1 := cntO_le (p4.l.take i)
                rw [List.length_take] at hc1
                by_cases hlt : i < m
                · have hil : i < p4.l.length := by rw [HL4.out]; exact hlt
                  obtain ⟨no, hno⟩ : ∃ x, p4.l[i].o = x := ⟨_, rfl⟩
                  have ho1 : outP p4 (i : Int) = no := (outP_at (i := (i : Int)) (by omega) (by simpa using hil)).trans hno
                  have hnx : cntO (p4.l.take (i + 1)) = cntO (p4.l.take i) + (if no = 0 then 0 else 1) := by rw [← hno]; exact cntO_next hil
                  have HO := hs.out.out HC.out HP4.out (i : Int) ⟨by omega, by omega⟩
                  rw [ho1] at HO
                  have HO := Lib.hid HO
                  have HNX := Lib.hid hnx
                  clear hno ho1 hnx
                  obtain ⟨cn, hcn⟩ : ∃ x, cntO (p4.l.take i) = x := ⟨_, rfl⟩
                  rw [hcn] at hc0 hc1 HNX ⊢
                  go_wp2_with fail
                  refine HO.out.mono ?_
                  rintro e w8 ⟨rfl, s8, k8⟩
                  have HS8 := Lib.hid s8
                  have HA8 := Lib.hid ((k8.block ab (Array.getElem?_eq_some_iff.1 hab.out).1).trans hab.out)
                  clear HO s8 k8 hs hab
                  by_cases hz : no = 0
                  · have hz' : (no != 0) = false := by simpa using hz
                    rw [if_pos hz, Int.add_zero] at HNX
                    clear hz
                    go_wp2_with fail
                    go_roundw
                    case rel => exact ⟨i + 1, by omega, by go_num, by rw [HNX.out], HS8, HA8⟩
                    case measure => simp [intOf]; omega
                  · have hz' : (no != 0) = true := by simpa using hz
                    rw [if_neg hz] at HNX
                    have hw1 : IntKind.i64.wrap (cn + 1) = cn + 1 := by rw [IntKind.wrap_i64]; omega
                    clear hz
                    go_wp2_with fail
                    go_roundw
                    case rel => exact ⟨i + 1, by omega, by go_num, by rw [HNX.out], HS8, HA8⟩
                    case measure => simp [intOf]; omega
                · obtain rfl : i = m := by omega
                  rw [List.take_of_length_le (by rw [HL4.out]; exact Nat.le_refl _)]
                  rw [HOP4.out]
                  have HSZ : Hid (Solo W (X b p4) (fun k => k = ab ∨ noneB k) wr) := Lib.hid (hs.out.less fun k hk => .inr hk)
                  clear hs
                  go_wp2_with fail
                  go_roundw
                  case rel => exact ⟨k + 1, now, p4, aq, by omega, by go_num, by go_num, by rw [HLT4.out], by rw [HOP4.out], by omega, by omega, HP4, Lib.hid ⟨HL4.out, HE4.out⟩, HQ4, HSZ, hab⟩
                  case measure => simp [intOf]; omega
            · have e1 : (t.y != 0) = true := by simpa using h1
              have e2 : (t.y == on) = false := by
                have : ¬ on = t.y := fun h => by have := hab0.2 ⟨h1, h⟩; cases this
                simpa using fun h : t.y = on => this h.symm
              clear hab0 h1 HO40
              go_wp2_with fail
              go_loopw [26, 166] (fun o i wi => ∃ j : Nat, j ≤ m ∧ i = .int .i64 j ∧ o = .int .i64 (cntO (p4.l.take j)) ∧ Hid (Solo W (X b p4) (fun k => k = xb ∨ k = ab ∨ noneB k) wi) ∧ Hid (wi.heap[ab]? = some (aqO aq))) (fun _ i _ => m - (intOf i).toNat)
              case atStart => exact ⟨0, Nat.zero_le _, rfl, rfl, HSY, HAB⟩
              case round =>
                obtain ⟨i, hi, rfl, rfl, hs, hab⟩ := hrel
                clear HSY HAB
                have hc0 := cntO_nonneg (p4.l.take i)
                have hc1 := cntO_le (p4.l.take i)
                rw [List.length_take] at hc1
                by_cases hlt : i < m
                · have hil : i < p4.l.length := by rw [HL4.out]; exact hlt
                  obtain ⟨no, hno⟩ : ∃ x, p4.l[i].o = x := ⟨_, rfl⟩
                  have ho1 : outP p4 (i : Int) = no := (outP_at (i := (i : Int)) (by omega) (by simpa using hil)).trans hno
                  have hnx : cntO (p4.l.take (i + 1)) = cntO (p4.l.take i) + (if no = 0 then 0 else 1) := by rw [← hno]; exact cntO_next hil
                  have HO := hs.out.out HC.out HP4.out (i : Int) ⟨by omega, by omega⟩
                  rw [ho1] at HO
                  have HO := Lib.hid HO
                  have HNX := Lib.hid hnx
                  clear hno ho1 hnx
                  obtain ⟨cn, hcn⟩ : ∃ x, cntO (p4.l.take i) = x := ⟨_, rfl⟩
                  rw [hcn] at hc0 hc1 HNX ⊢
                  go_wp2_with fail
                  refine HO.out.mono ?_
                  rintro e w8 ⟨rfl, s8, k8⟩
                  have HS8 := Lib.hid s8
                  have HA8 := Lib.hid ((k8.block ab (Array.getElem?_eq_some_iff.1 hab.out).1).trans hab.out)
                  clear HO s8 k8 hs hab
                  by_cases hz : no = 0
                  · have hz' : (no != 0) = false := by simpa using hz
                    rw [if_pos hz, Int.add_zero] at HNX
                    clear hz
                    go_wp2_with fail
                    go_roundw
                    case rel => exact ⟨i + 1, by omega, by go_num, by rw [HNX.out], HS8, HA8⟩
                    case measure => simp [intOf]; omega
                  · have hz' : (no != 0) = true := by simpa using hz
                    rw [if_neg hz] at HNX
                    have hw1 : IntKind.i64.wrap (cn + 1) = cn + 1 := by rw [IntKind.wrap_i64]; omega
                    clear hz
                    go_wp2_with fail
                    go_roundw
                    case rel => exact ⟨i + 1, by omega, by go_num, by rw [HNX.out], HS8, HA8⟩
                    case measure => simp [intOf]; omega
                · obtain rfl : i = m := by omega
                  rw [List.take_of_length_le (by rw [HL4.out]; exact Nat.le_refl _)]
                  rw [HOP4.out]
                  have HSZ : Hid (Solo W (X b p4) (fun k => k = ab ∨ noneB k) wr) := Lib.hid (hs.out.less fun k hk => .inr hk)
                  clear hs
                  go_wp2_with fail
                  go_roundw
                  case rel => exact ⟨k + 1, now, p4, aq, by omega, by go_num, by go_num, by rw [HLT4.out], by rw [HOP4.out], by omega, by omega, HP4, Lib.hid ⟨HL4.out, HE4.out⟩, HQ4, HSZ, hab⟩
                  case measure => simp [intOf]; omega
        · have hd1' : (t.d == 1) = false := by simpa using hd1
          clear hd1
          go_wp2_with fail
          refine HO.out.mono ?_
          rintro e w6 ⟨rfl, s6, k6⟩
          have hx6 := (k6.block xb (Array.getElem?_eq_some_iff.1 HXA.out).1).trans HXA.out
          have HAX := Lib.hid ((k6.block ab (Array.getElem?_eq_some_iff.1 HAX.out).1).trans HAX.out)
          have HXA := Lib.hid hx6
          have HSX := Lib.hid s6
          clear y0 y1 y2
          obtain ⟨y1, _⟩ := cellsAt hx6 1 (v := .int .i64 t.x) rfl
          clear s6 k6 hx6 HO
          obtain ⟨p4, hp4⟩ : ∃ y, ansC p t.x on = y := ⟨_, rfl⟩
          obtain ⟨av, hav⟩ : ∃ y, ansB p t.x on = y := ⟨_, rfl⟩
          have HAN0 := HSX.out.answer HC.out HP.out t.x on HTX.out HOU.out
          have HP40 := (HP.out.ans t.x on).more (Nat.le_succ k)
          have HL40 := (ansC_length p t.x on).trans HLE.out.1
          have HE40 := (ansC_ev p t.x on).1.trans HLE.out.2
          have HT40 := (ansC_ev p t.x on).2
          have HQ40 := HQ.out.ans t.x on
          have HO40 := cntO_ans p t.x on
          have hab0 : av = true ↔ (on ≠ 0 ∧ on = on) := by rw [← hav]; unfold ansB; rw [decide_eq_true_iff, HON.out]
          rw [hp4, hav] at HAN0
          rw [hp4] at HP40 HL40 HE40 HT40 HQ40
          rw [hp4, hav] at HO40
          have HAN := Lib.hid HAN0
          have HP4 := Lib.hid HP40
          have HL4 := Lib.hid HL40
          have HE4 := Lib.hid HE40
          have HLT4 := Lib.hid HT40
          have HQ4 := Lib.hid HQ40
          have hcn0 := cntO_nonneg p.l
          have hcn1 := cntO_le p.l
          rw [HLE.out.1] at hcn1
          clear HAN0 HP40 HL40 HE40 HT40 HQ40 hp4 hav HSX
          obtain ⟨co, hco⟩ : ∃ x, cntO p.l = x := ⟨_, rfl⟩
          rw [hco] at HO40 hcn0 hcn1 ⊢
          go_wp2_with fail
          refine HAN.out.mono ?_
          rintro e w7 ⟨rfl, s7, q7⟩
          have HSY := Lib.hid s7
          have HAB := Lib.hid ((q7 ab (.inr (.inl rfl))).trans HAX.out)
          clear HAN s7 q7 HAX HXA HP HLE HQ hco
          cases av with
          | true =>
            obtain ⟨h1, h2⟩ := hab0.1 rfl
            have e1 : (on != 0) = true := by simpa using h1
            have e2 : (on == on) = true := by simp
            have hw4 : IntKind.i64.wrap (co - 1) = co - 1 := by rw [IntKind.wrap_i64]; omega
            have HOP4 : Hid (cntO p4.l = co - 1) := Lib.hid (by rw [HO40]; rfl)
            clear hab0 h1 h2 HO40
            go_wp2_with fail
            go_loopw [26, 166] (fun o i wi => ∃ j : Nat, j ≤ m ∧ i = .int .i64 j ∧ o = .int .i64 (cntO (p4.l.take j)) ∧ Hid (Solo W (X b p4) (fun k => k = xb ∨ k = ab ∨ noneB k) wi) ∧ Hid (wi.heap[ab]? = some (aqO aq))) (fun _ i _ => m - (intOf i).toNat)
            case atStart => exact ⟨0, Nat.zero_le _, rfl, rfl, HSY, HAB⟩
            case round =>
              obtain ⟨i, hi, rfl, rfl, hs, hab⟩ := hrel
              clear HSY HAB
              have hc0 := cntO_nonneg (p4.l.take i)
              have hc1 := cntO_le (p4.l.take i)
              rw [List.length_take] at hc1
              by_cases hlt : i < m
              · have hil : i < p4.l.length := by rw [HL4.out]; exact hlt
                obtain ⟨no, hno⟩ : ∃ x, p4.l[i].o = x := ⟨_, rfl⟩
                have ho1 : outP p4 (i : Int) = no := (outP_at (i := (i : Int)) (by omega) (by simpa using hil)).trans hno
                have hnx : cntO (p4.l.take (i + 1)) = cntO (p4.l.take i) + (if no = 0 then 0 else 1) := by rw [← hno]; exact cntO_next hil
                have HO := hs.out.out HC.out HP4.out (i : Int) ⟨by omega, by omega⟩
                rw [ho1] at HO
                have HO := Lib.hid HO
                have HNX := Lib.hid hnx
                clear hno ho1 hnx
                obtain ⟨cn, hcn⟩ : ∃ x, cntO (p4.l.take i) = x := ⟨_, rfl⟩
                rw [hcn] at hc0 hc1 HNX ⊢
                go_wp2_with fail
                refine HO.out.mono ?_
                rintro e w8 ⟨rfl, s8, k8⟩
                have HS8 := Lib.hid s8
                have HA8 := Lib.hid ((k8.block ab (Array.getElem?_eq_some_iff.1 hab.out).1).trans hab.out)
                clear HO s8 k8 hs hab
                by_cases hz : no = 0
                · have hz' : (no != 0) = false := by simpa using hz
                  rw [if_pos hz, Int.add_zero] at HNX
                  clear hz
                  go_wp2_with fail
                  go_roundw
                  case rel => exact ⟨i + 1, by omega, by go_num, by rw [HNX.out], HS8, HA8⟩
                  case measure => simp [intOf]; omega
                · have hz' : (no != 0) = true := by simpa using hz
                  rw [if_neg hz] at HNX
                  have hw1 : IntKind.i64.wrap (cn + 1) = cn + 1 := by rw [IntKind.wrap_i64]; omega
                  clear hz
                  go_wp2_with fail
                  go_roundw
                  case rel => exact ⟨i + 1, by omega, by go_num, by rw [HNX.out], HS8, HA8⟩
                  case measure => simp [intOf]; omega
              · obtain rfl : i = m := by omega
                rw [List.take_of_length_le (by rw [HL4.out]; exact Nat.le_refl _)]
                rw [HOP4.out]
                have HSZ : Hid (Solo W (X b p4) (fun k => k = ab ∨ noneB k) wr) := Lib.hid (hs.out.less fun k hk => .inr hk)
                clear hs
                go_wp2_with fail
                go_roundw
                case rel => exact ⟨k + 1, now, p4, aq, by omega, by go_num, by go_num, by rw [HLT4.out], by rw [HOP4.out], by omega, by omega, HP4, Lib.hid ⟨HL4.out, HE4.out⟩, HQ4, HSZ, hab⟩
                case measure => simp [intOf]; omega
          | false =>
            have HOP4 : Hid (cntO p4.l = co) := Lib.hid (by rw [HO40]; simp)
            have h1 : on = 0 := Classical.byContradiction fun h => by have := hab0.2 ⟨h, by simp⟩; cases this
            have e1 : (on != 0) = false := by simpa using h1
            clear hab0 h1 HO40
            go_wp2_with fail
            go_loopw [26, 166] (fun o i wi => ∃ j : Nat, j ≤ m ∧ i = .int .i64 j ∧ o = .int .i64 (cntO (p4.l.take j)) ∧ Hid (Solo W (X b p4) (fun k => k = xb ∨ k = ab ∨ noneB k) wi) ∧ Hid (wi.heap[ab]? = some (aqO aq))) (fun _ i _ => m - (intOf i).toNat)
            case atStart => exact ⟨0, Nat.zero_le _, rfl, rfl, HSY, HAB⟩
            case round =>
              obtain ⟨i, hi, rfl, rfl, hs, hab⟩ := hrel
              clear HSY HAB
              have hc0 := cntO_nonneg (p4.l.take i)
              have hc1 := cntO_le (p4.l.take i)
              rw [List.length_take] at hc1
              by_cases hlt : i < m
              · have hil : i < p4.l.length := by rw [HL4.out]; exact hlt
                obtain ⟨no, hno⟩ : ∃ x, p4.l[i].o = x := ⟨_, rfl⟩
                have ho1 : outP p4 (i : Int) = no := (outP_at (i := (i : Int)) (by omega) (by simpa using hil)).trans hno
                have hnx : cntO (p4.l.take (i + 1)) = cntO (p4.l.take i) + (if no = 0 then 0 else 1) := by rw [← hno]; exact cntO_next hil
                have HO := hs.out.out HC.out HP4.out (i : Int) ⟨by omega, by omega⟩
                rw [ho1] at HO
                have HO := Lib.hid HO
                have HNX := Lib.hid hnx
                clear hno ho1 hnx
                obtain ⟨cn, hcn⟩ : ∃ x, cntO (p4.l.take i) = x := ⟨_, rfl⟩
                rw [hcn] at hc0 hc1 HNX ⊢
                go_wp2_with fail
                refine HO.out.mono ?_
                rintro e w8 ⟨rfl, s8, k8⟩
                have HS8 := Lib.hid s8
                have HA8 := Lib.hid ((k8.block ab (Array.getElem?_eq_some_iff.1 hab.out).1).trans hab.out)
                clear HO s8 k8 hs hab
                by_cases hz : no = 0
                · have hz' : (no != 0) = false := by simpa using hz
                  rw [if_pos hz, Int.add_zero] at HNX
                  clear hz
                  go_wp2_with fail
                  go_roundw
                  case rel => exact ⟨i + 1, by omega, by go_num, by rw [HNX.out], HS8, HA8⟩
                  case measure => simp [intOf]; omega
                · have hz' : (no != 0) = true := by simpa using hz
                  rw [if_neg hz] at HNX
                  have hw1 : IntKind.i64.wrap (cn + 1) = cn + 1 := by rw [IntKind.wrap_i64]; omega
                  clear hz
                  go_wp2_with fail
                  go_roundw
                  case rel => exact ⟨i + 1, by omega, by go_num, by rw [HNX.out], HS8, HA8⟩
                  case measure => simp [intOf]; omega
              · obtain rfl : i = m := by omega
                rw [List.take_of_length_le (by rw [HL4.out]; exact Nat.le_refl _)]
                rw [HOP4.out]
                have HSZ : Hid (Solo W (X b p4) (fun k => k = ab ∨ noneB k) wr) := Lib.hid (hs.out.less fun k hk => .inr hk)
                clear hs
                go_wp2_with fail
                go_roundw
                case rel => exact ⟨k + 1, now, p4, aq, by omega, by go_num, by go_num, by rw [HLT4.out], by rw [HOP4.out], by omega, by omega, HP4, Lib.hid ⟨HL4.out, HE4.out⟩, HQ4, HSZ, hab⟩
                case measure => simp [intOf]; omega
    · have HLW := Lib.hid hS.out.low
      clear hS
      go_wp2_with fail
      go_ret
      exact ⟨rfl, HLW.out⟩
end Go.Proofs.Ytgneieelfapmcaa
