/-
  Contracts and plain functions that the law stands on, part 5 of 5.
-/
import Derived.Test.YtkbaljdpnopbmaaQC4
namespace Go.Proofs.Ytkbaljdpnopbmaa
/- The law's infos, of layer 10: contract. -/
section
open Go.RowKit
set_option maxRecDepth 100000

set_option maxHeartbeats 4000000 in
theorem infos_ok (A : Option Addr) (n c : Nat) (xs : List Inf) (w : World) (hx : IR w A n xs) (hn : n ≤ 1000) :
    Calls Try.prog 18 #[.slice A n c] w fun e w' => ∃ B d, e = .returned (.slice B n d) ∧ w'.ownsRow w.heap.size 79 6 (.slice B n d) n (inC xs) ∧ Below w.heap.size w w' := by
  have HX := Lib.hid hx
  have HL := Lib.hid hx.len
  have kw := Lib.hid (kp_new w (.cells #[] 79))
  have HO0 : Hid ((w.alloc (.cells #[] 79)).ownsRow w.heap.size 79 6 (.slice (some ⟨w.heap.size, 0, none⟩) 0 0) 0 (inC (xs.take 0))) := Lib.hid (own_new_s w w.heap.size 6 79 0 [] rfl (Nat.le_refl _) (Nat.zero_le _))
  obtain ⟨i0, hi, hz0, hz1, hz2⟩ := info_parts rinfinfo
  clear hx
  go_enter Try.func18, Try.ntmps18
  go_wp2_with fail
  go_loopw [3, 9] (fun o i wr => ∃ (k e : Nat) (D : Option Addr), k ≤ n ∧ i = .int .i64 k ∧ o = .slice D k e ∧ Hid (wr.ownsRow w.heap.size 79 6 (.slice D k e) k (inC (xs.take k))) ∧ Hid (Below w.heap.size w wr)) (fun _ i _ => n - (intOf i).toNat)
  case atStart => exact ⟨0, 0, _, Nat.zero_le _, rfl, rfl, HO0, kw⟩
  case round =>
    obtain ⟨k, e, D, hk, rfl, rfl, ho, hb⟩ := hrel
    have hwr : w.heap.size ≤ wr.heap.size := hb.out.size
    by_cases hlt : k < n
    · have hkl : k < xs.length := by rw [HL.out]; exact hlt
      obtain ⟨ad, rfl, _, hc⟩ := HX.out.at_ hkl
      obtain ⟨x0, x1, x2, x3, x4, x5⟩ := hc wr hb.out
      have HNX := Lib.hid (inC_next xs k hkl)
      clear hc
      generalize xs[k] = hd at *
      obtain ⟨id, s, o, ep, f, t⟩ := hd
      dsimp only at x0 x1 x2 x3 x4 x5
      have HI : Hid ((⟨id, s, o, ep, f, t⟩ : Inf).cells = [.int .i64 id, .int .i64 s, .int .i64 o, .int .u64 ep, .int .u64 f, .int .u64 t]) := Lib.hid rfl
      have HO1 := Lib.hid ((ho.out.alloc (.cells #[.int .i64 id, .int .i64 s, .int .i64 o, .int .u64 ep, .int .u64 f, .int .u64 t] 39)).alloc (.cells #[.int .i64 id, .int .i64 s, .int .i64 o, .int .u64 ep, .int .u64 f, .int .u64 t] 79))
      have HSRC : Hid (Rd ((wr.alloc (.cells #[.int .i64 id, .int .i64 s, .int .i64 o, .int .u64 ep, .int .u64 f, .int .u64 t] 39)).alloc (.cells #[.int .i64 id, .int .i64 s, .int .i64 o, .int .u64 ep, .int .u64 f, .int .u64 t] 79)) (wr.heap.size + 1 + 1) (some ⟨wr.heap.size + 1, 0, none⟩) [.int .i64 id, .int .i64 s, .int .i64 o, .int .u64 ep, .int .u64 f, .int .u64 t]) := Lib.hid (by
        have h0 := Rd.new (wr.alloc (.cells #[.int .i64 id, .int .i64 s, .int .i64 o, .int .u64 ep, .int .u64 f, .int .u64 t] 39)) 79 [.int .i64 id, .int .i64 s, .int .i64 o, .int .u64 ep, .int .u64 f, .int .u64 t]
        have e0 : (wr.alloc (.cells #[.int .i64 id, .int .i64 s, .int .i64 o, .int .u64 ep, .int .u64 f, .int .u64 t] 39)).heap.size = wr.heap.size + 1 := by simp
        rw [e0] at h0
        exact h0)
      have KA := Lib.hid (kp_alloc (kp_alloc hb.out (.cells #[.int .i64 id, .int .i64 s, .int .i64 o, .int .u64 ep, .int .u64 f, .int .u64 t] 39)) (.cells #[.int .i64 id, .int .i64 s, .int .i64 o, .int .u64 ep, .int .u64 f, .int .u64 t] 79))
      have HSW := Lib.hid KA.out.size
      clear ho
      go_wp2_with (at_builtin; refine wpList_append_rds rfl _ _ _ rfl w.heap.size 79 i0 _ 6 48 Try.underlying48 hi hz0 hz1 hz2 rfl (by omega) _ k _ rfl HO1.out _ _ _ _ [.int .i64 id, .int .i64 s, .int .i64 o, .int .u64 ep, .int .u64 f, .int .u64 t] rfl rfl HSRC.out (by simp [Value.oneCell']) (by unfold maxLen; omega) (by omega) HSW.out ?_; intro v3 w3 hown3 hg3; obtain ⟨D3, e3, rfl, _, _⟩ := own_form_s hown3; have HO3 := Lib.hid hown3; have HK3 := Lib.hid (KA.out.trans (below_own_s HO1.out hg3 HSW.out)); clear hown3 hg3)
      go_roundw
      case rel =>
        refine ⟨k + 1, e3, D3, by omega, by go_num, rfl, Lib.hid ?_, HK3⟩
        rw [HNX.out, HI.out]
        exact HO3.out
      case measure => simp [intOf]; omega
    · obtain rfl : k = n := by omega
      rw [List.take_of_length_le (by rw [HL.out]; exact Nat.le_refl _)] at ho
      go_wp2_with fail
      go_ret
      exact ⟨D, e, rfl, ho.out, hb.out⟩
end

/- The document's layer 8: Same: contract; the calls whose answers the document fixes. -/
section
open Go.RowKit
set_option maxRecDepth 100000

set_option maxHeartbeats 4000000 in
theorem wsame_ok (A B : Option Addr) (n k c d : Nat) (xs ys : List Int) (w : World) (hx : NR w A n xs) (hy : NR w B k ys) (hn : n ≤ 1000) (hk : k ≤ 1000) (bo : Bool) (hbo : Hid (decide (xs = ys) = bo)) :
    Calls Try.prog 13 #[.slice A n c, .slice B k d] w fun e w' => e = .returned (.bool bo) ∧ w'.heap = w.heap ∧ Below w.heap.size w w' := by
  have HX := Lib.hid hx
  have HY := Lib.hid hy
  have hlx := hx.len
  have hly := hy.len
  clear hx hy
  by_cases hnk : n = k
  · subst hnk
    have HLX := Lib.hid hlx
    have HLY := Lib.hid hly
    clear hlx hly
    go_enter Try.func13, Try.ntmps13
    go_wp2_with fail
    go_loopw [5] (fun i wr => ∃ q : Nat, q ≤ n ∧ i = .int .i64 q ∧ Hid (∀ j (hj : j < xs.length) (hj2 : j < ys.length), j < q → xs[j] = ys[j]) ∧ Hid (wr.heap = w.heap ∧ Below w.heap.size w wr)) (fun i _ => n - (intOf i).toNat)
    case atStart => exact ⟨0, Nat.zero_le _, rfl, Lib.hid (fun j _ _ h => absurd h (Nat.not_lt_zero _)), Lib.hid ⟨rfl, Below.refl _ _⟩⟩
    case round =>
      obtain ⟨q, hq, rfl, he, hw⟩ := hrel
      by_cases hlt : q < n
      · have hqx : q < xs.length := by rw [HLX.out]; exact hlt
        have hqy : q < ys.length := by rw [HLY.out]; exact hlt
        obtain ⟨ax, rfl, _, cx⟩ := HX.out.at_ hqx
        obtain ⟨ay, rfl, _, cy⟩ := HY.out.at_ hqy
        have d1 := cx wr hw.out.2
        have d2 := cy wr hw.out.2
        clear cx cy
        have hi0 : (0 : Int) ≤ (q : Int) := by omega
        have hi1 : (q : Int) < (n : Int) := by omega
        by_cases hxy : xs[q] = ys[q]
        · have hq1 : (xs[q] == ys[q]) = true := by rw [hxy]; simp
          have he2 : Hid (∀ j (hj : j < xs.length) (hj2 : j < ys.length), j < q + 1 → xs[j] = ys[j]) := Lib.hid fun j hj hj2 hjq => by
            by_cases h : j = q
            · subst h; exact hxy
            · exact he.out j hj hj2 (by omega)
          clear he hxy
          generalize xs[q] = x at *
          generalize ys[q] = y at *
          go_wp2_with fail
          go_quiet (fail)
          go_wp2_with fail
          go_roundw
          case rel => exact ⟨q + 1, by omega, by go_num, he2, Lib.hid ⟨hw.out.1, kp_trans hw.out.2 (kp_drewN _ _)⟩⟩
          case measure => simp [intOf]; omega
        · have hq1 : (xs[q] == ys[q]) = false := by simpa using hxy
          have hb : bo = false := by
            rw [← hbo.out]
            exact decide_eq_false fun h => hxy (by subst h; rfl)
          subst hb
          clear he hxy
          generalize xs[q] = x at *
          generalize ys[q] = y at *
          go_wp2_with fail
          go_quiet (fail)
          go_wp2_with fail
          go_ret
          exact ⟨rfl, hw.out.1, kp_trans hw.out.2 (kp_drewN _ _)⟩
      · obtain rfl : q = n := by omega
        have hb : bo = true := by
          rw [← hbo.out]
          exact decide_eq_true (List.ext_getElem (by rw [HLX.out, HLY.out]) fun j h1 h2 => he.out j h1 h2 (by have := HLX.out; omega))
        subst hb
        clear he
        go_wp2_with fail
        go_ret
        exact ⟨rfl, hw.out.1, hw.out.2⟩
  · have hb : bo = false := by
      rw [← hbo.out]
      exact decide_eq_false fun h => hnk (by subst h; omega)
    subst hb
    have hne : ((n : Int) == (k : Int)) = false := by simp; omega
    clear hlx hly hbo
    go_enter Try.func13, Try.ntmps13
    go_wp2_with fail
    go_ret
    exact ⟨rfl, rfl, Below.refl _ _⟩
end

/- PoolReaps, of layer 10: the walk. -/
section
open Go.RowKit
set_option maxRecDepth 100000

set_option maxHeartbeats 32000000 in
theorem poolreaps_walk (mo m idl : Int) (A1 : Option Addr) (l1 c1 : Nat) (ts : List Act6) (tn : Int) (W : World) (r1 : AZ W A1 l1 ts) :
    Calls Try.prog 7 #[.int .i64 mo, .int .i64 m, .int .u64 idl, .slice A1 l1 c1, .int .u64 tn] W fun e w' => e = .returned (.bool true) ∧ Below W.heap.size W w' := by
  have HAW := Lib.hid (awake10_ok W)
  have R1 := Lib.hid r1
  have HN1 := Lib.hid r1.len
  clear r1
  go_enter Try.func7, Try.ntmps7
  go_wp2_with fail
  refine HAW.out.mono ?_
  rintro e w1 ⟨rfl, k1⟩
  have HK1 := Lib.hid k1
  clear HAW k1
  by_cases hg : 1 ≤ mo ∧ mo ≤ 6 ∧ 0 ≤ m ∧ m ≤ 12 ∧ idl ≠ 0
  rotate_left
  · have HB := Lib.hid (ppnew_bad mo m idl w1 hg)
    clear hg
    go_wp2_with fail
    refine HB.out.mono ?_
    rintro e w2 ⟨rfl, rfl⟩
    clear HB
    go_wp2_with fail
    go_ret
    exact ⟨rfl, HK1.out⟩
  obtain ⟨g1, g2, g3, g4, g5⟩ := hg
  have HP1 := Lib.hid (ppnew_good mo m idl w1 g1 g2 g3 g4 g5)
  have HK0 := Lib.hid (KInv.new (mo := mo) (m := m) (by omega) g3)
  clear g5
  go_wp2_with fail
  refine HP1.out.mono ?_
  rintro e w2 ⟨b, S2, rfl, p2, q2, k2⟩
  have HS2 : Hid (Solo W (PP b mo idl m ⟨[], [], 0⟩) noneB w2) := Lib.hid (Solo.make HK1.out p2 q2 k2)
  clear p2 q2 k2 HP1 HK1
  by_cases hbig : 100 < l1
  · have hb : (100 : Int) < (l1 : Int) := by omega
    have HLW := Lib.hid HS2.out.low
    clear hbig HS2
    go_wp2_with fail
    go_ret
    exact ⟨rfl, HLW.out⟩
  have hl1 : l1 ≤ 100 := by omega
  have hbl1 : ¬ (100 : Int) < (l1 : Int) := by omega
  clear hbig
  obtain ⟨i0, hi, hz0, hz1, hz2⟩ := info_parts pinfinfo
  go_wp2_with fail
  go_loopw [38] (fun i wr => ∃ (k : Nat) (p : Pl), k ≤ l1 ∧ i = .int .i64 k ∧ Hid (KInv mo m k p) ∧ Hid (Solo W (PP b mo idl m p) noneB wr)) (fun i _ => l1 - (intOf i).toNat)
  case atStart => exact ⟨0, _, Nat.zero_le _, rfl, HK0, HS2⟩
  case round =>
    obtain ⟨k, p, hk, rfl, HK, hD⟩ := hrel
    by_cases hlt : k < l1
    · clear HK0 HS2
      have hkl : k < ts.length := by rw [HN1.out]; exact hlt
      obtain ⟨ad, rfl, _, hcc⟩ := R1.out.at_ hkl
      obtain ⟨x0, x1, x2, x3, x4, x5⟩ := hcc wr hD.out.low
      clear hcc
      generalize ts[k] = t at *
      have HKN := Lib.hid (HK.out.do (by omega) idl t)
      obtain ⟨d, ss, id, ep, now, n⟩ := t
      dsimp only at x0 x1 x2 x3 x4 x5
      have HDX := Lib.hid (hD.out.mark (.cells #[.int .i64 d, .int .i64 ss, .int .i64 id, .int .u64 ep, .int .u64 now, .int .u64 n] 30))
      have HDO := Lib.hid (HDX.out.act (⟨d, ss, id, ep, now, n⟩ : Act6) HK.out (by omega))
      dsimp only at HDO
      clear HDX hD
      go_wp2_with fail
      refine HDO.out.mono ?_
      rintro e w4 ⟨rfl, hs4, hk4, hz4⟩
      have HS4 := Lib.hid (hs4.less (N' := noneB) fun _ h => h.elim)
      clear hs4 hk4 hz4 HDO
      go_wp2_with fail
      go_roundw
      case rel => exact ⟨k + 1, _, by omega, by go_num, HKN, HS4⟩
      case measure => simp [intOf]; omega
    · have HD := hD
      clear hD HK0 HS2
      have HCN := Lib.hid HD.out.conns
      clear HD
      go_wp2_with fail
      refine HCN.out.mono ?_
      rintro e w5 ⟨A5, n5, c5, rfl, hr5, hn5, hb5, hs5⟩
      have HR5 := Lib.hid hr5
      have HS5 := Lib.hid (hs5.less (N' := noneB) fun _ h => h.elim)
      have HN5 := Lib.hid (show p.l.length = n5 by have := hr5.len; rwa [List.length_map] at this)
      have HO0 : Hid (w5.ownsRow w5.heap.size 39 6 (.slice none 0 0) 0 (inC (((p.l.take 0).filter fun x => !isOld idl tn x).map infoH))) := Lib.hid (World.ownsRow_nil w5 w5.heap.size _ 6)
      clear hr5 hb5 hs5 HCN
      go_wp2_with fail
      go_loopw [15, 16, 49] (fun o z i wr => ∃ (r n e : Nat) (D : Option Addr) (y : Nat), r ≤ n5 ∧ i = .int .i64 r ∧ z = .int .i64 y ∧ o = .slice D n e ∧ n ≤ r ∧ y ≤ r ∧ Hid (((p.l.take r).filter (isOld idl tn)).length = y) ∧ Hid (wr.ownsRow w5.heap.size 39 6 (.slice D n e) n (inC (((p.l.take r).filter fun x => !isOld idl tn x).map infoH))) ∧ Hid (Below w5.heap.size w5 wr)) (fun _ _ i _ => n5 - (intOf i).toNat)
      case atStart => exact ⟨0, 0, 0, none, 0, Nat.zero_le _, rfl, rfl, rfl, Nat.le_refl _, Nat.le_refl _, Lib.hid rfl, HO0, Lib.hid (Below.refl _ _)⟩
      case round =>
        obtain ⟨r, nn, ee, D, y, hr, rfl, rfl, rfl, hnr, hyr, HY, HO, hw⟩ := hrel
        clear HO0
        have hwz : w5.heap.size ≤ wr.heap.size := hw.out.size
        by_cases hltr : r < n5
        · have hrl : r < p.l.length := by rw [HN5.out]; exact hltr
          obtain ⟨ad5, rfl, _, hcc⟩ := HR5.out.at_ (j := r) (by rw [List.length_map]; exact hrl)
          obtain ⟨v0, v1, v2, v3, v4, v5⟩ := hcc wr hw.out
          simp only [List.getElem_map] at v0 v1 v2 v3 v4 v5
          dsimp only [infoH] at v0 v1 v2 v3 v4 v5
          have HY1 := Lib.hid (filt_next (isOld idl tn) hrl)
          have HK1 := Lib.hid (filt_next (fun x => !isOld idl tn x) hrl)
          have HOL : Hid (isOld idl tn p.l[r] = (p.l[r].c.s == 1 && decide (p.l[r].t ≤ tn) && decide (idl ≤ IntKind.u64.wrap (tn - p.l[r].t)))) := Lib.hid rfl
          have HCE : Hid ((infoH p.l[r]).cells = [.int .i64 p.l[r].id, .int .i64 p.l[r].c.s, .int .i64 p.l[r].c.o, .int .u64 p.l[r].ep, .int .u64 p.l[r].c.f, .int .u64 p.l[r].t]) := Lib.hid rfl
          clear hcc
          generalize p.l[r] = cc at *
          have HKW := Lib.hid (kp_alloc hw.out (.cells #[.int .i64 cc.id, .int .i64 cc.c.s, .int .i64 cc.c.o, .int .u64 cc.ep, .int .u64 cc.c.f, .int .u64 cc.t] 39))
          have HO1 := Lib.hid (HO.out.alloc (.cells #[.int .i64 cc.id, .int .i64 cc.c.s, .int .i64 cc.c.o, .int .u64 cc.ep, .int .u64 cc.c.f, .int .u64 cc.t] 39))
          clear hw
          have HOLD : Hid (isOld idl tn cc = true → ((p.l.take (r + 1)).filter (isOld idl tn)).length = y + 1 ∧ ((p.l.take (r + 1)).filter fun x => !isOld idl tn x) = (p.l.take r).filter fun x => !isOld idl tn x) := Lib.hid fun e => by
            rw [HY1.out, HK1.out, e]
            refine ⟨by rw [List.length_append, HY.out]; rfl, by simp⟩
          have HNEW : Hid (isOld idl tn cc = false → ((p.l.take (r + 1)).filter (isOld idl tn)).length = y ∧ inC (((p.l.take (r + 1)).filter fun x => !isOld idl tn x).map infoH) = inC (((p.l.take r).filter fun x => !isOld idl tn x).map infoH) ++ [.int .i64 cc.id, .int .i64 cc.c.s, .int .i64 cc.c.o, .int .u64 cc.ep, .int .u64 cc.c.f, .int .u64 cc.t]) := Lib.hid fun e => by
            rw [HY1.out, HK1.out, e]
            refine ⟨by simp [HY.out], ?_⟩
            simp only [Bool.not_false, if_true, List.map_append, inC_append]
            rw [← HCE.out]
            simp [inC]
          clear HY1 HK1 HCE HY
          by_cases h1 : cc.c.s = 1
          · have e1 : (cc.c.s == 1) = true := by simp [h1]
            by_cases h2 : cc.t ≤ tn
            · have e2 : decide (cc.t ≤ tn) = true := by simp [h2]
              by_cases h3 : idl ≤ IntKind.u64.wrap (tn - cc.t)
              · have e3 : decide (idl ≤ IntKind.u64.wrap (tn - cc.t)) = true := by simp [h3]
                have hold : isOld idl tn cc = true := by rw [HOL.out, e1, e2, e3]; rfl
                obtain ⟨a1, a2⟩ := HOLD.out hold
                have HA1 := Lib.hid a1
                have HA2 := Lib.hid a2
                clear HOLD HNEW HOL hold a1 a2 h1 h2 HO
                go_wp2_with fail
                go_roundw
                case rel => exact ⟨r + 1, nn, ee, D, y + 1, by omega, by go_num, by go_num, rfl, by omega, by omega, HA1, by rw [HA2.out]; exact HO1, HKW⟩
                case measure => simp [intOf]; omega
              · have e3 : decide (idl ≤ IntKind.u64.wrap (tn - cc.t)) = false := by simp [h3]
                have hold : isOld idl tn cc = false := by rw [HOL.out, e1, e2, e3]; rfl
                obtain ⟨a1, a2⟩ := HNEW.out hold
                have HA1 := Lib.hid a1
                have HA2 := Lib.hid a2
                have HO2 := Lib.hid (HO1.out.alloc (.cells #[.int .i64 cc.id, .int .i64 cc.c.s, .int .i64 cc.c.o, .int .u64 cc.ep, .int .u64 cc.c.f, .int .u64 cc.t] 39))
                have HSRC : Hid (Rd ((wr.alloc (.cells #[.int .i64 cc.id, .int .i64 cc.c.s, .int .i64 cc.c.o, .int .u64 cc.ep, .int .u64 cc.c.f, .int .u64 cc.t] 39)).alloc (.cells #[.int .i64 cc.id, .int .i64 cc.c.s, .int .i64 cc.c.o, .int .u64 cc.ep, .int .u64 cc.c.f, .int .u64 cc.t] 39)) (wr.heap.size + 1 + 1) (some ⟨wr.heap.size + 1, 0, none⟩) [.int .i64 cc.id, .int .i64 cc.c.s, .int .i64 cc.c.o, .int .u64 cc.ep, .int .u64 cc.c.f, .int .u64 cc.t]) := Lib.hid (by
                  have h0 := Rd.new (wr.alloc (.cells #[.int .i64 cc.id, .int .i64 cc.c.s, .int .i64 cc.c.o, .int .u64 cc.ep, .int .u64 cc.c.f, .int .u64 cc.t] 39)) 39 [.int .i64 cc.id, .int .i64 cc.c.s, .int .i64 cc.c.o, .int .u64 cc.ep, .int .u64 cc.c.f, .int .u64 cc.t]
                  have e0 : (wr.alloc (.cells #[.int .i64 cc.id, .int .i64 cc.c.s, .int .i64 cc.c.o, .int .u64 cc.ep, .int .u64 cc.c.f, .int .u64 cc.t] 39)).heap.size = wr.heap.size + 1 := by simp
                  rw [e0] at h0
                  exact h0)
                have KA := Lib.hid (HKW.out.alloc (by simp; omega) (.cells #[.int .i64 cc.id, .int .i64 cc.c.s, .int .i64 cc.c.o, .int .u64 cc.ep, .int .u64 cc.c.f, .int .u64 cc.t] 39))
                have HSW := Lib.hid KA.out.size
                clear HOLD HNEW HOL hold a1 a2 h1 h2 h3 HO HO1 HKW
                go_wp2_with (at_builtin; refine wpList_append_rds rfl _ _ _ rfl w5.heap.size 39 i0 _ 6 48 Try.underlying34 hi hz0 hz1 hz2 rfl (by omega) _ nn _ rfl HO2.out _ _ _ _ [.int .i64 cc.id, .int .i64 cc.c.s, .int .i64 cc.c.o, .int .u64 cc.ep, .int .u64 cc.c.f, .int .u64 cc.t] rfl rfl HSRC.out (by simp [Value.oneCell']) (by unfold maxLen; omega) (by omega) HSW.out ?_; intro v3 w3 hown3 hg3; obtain ⟨D3, e3, rfl, _, _⟩ := own_form_s hown3; have HO3 := Lib.hid hown3; have HK3 := Lib.hid (KA.out.trans (below_own_s HO2.out hg3 HSW.out)); clear hown3 hg3)
                go_roundw
                case rel => exact ⟨r + 1, nn + 1, e3, D3, y, by omega, by go_num, rfl, rfl, by omega, by omega, HA1, by rw [HA2.out]; exact HO3, HK3⟩
                case measure => simp [intOf]; omega
            · have e2 : decide (cc.t ≤ tn) = false := by simp [h2]
              have hold : isOld idl tn cc = false := by rw [HOL.out, e1, e2]; rfl
              have h3 := h2
              obtain ⟨a1, a2⟩ := HNEW.out hold
              have HA1 := Lib.hid a1
              have HA2 := Lib.hid a2
              have HO2 := Lib.hid (HO1.out.alloc (.cells #[.int .i64 cc.id, .int .i64 cc.c.s, .int .i64 cc.c.o, .int .u64 cc.ep, .int .u64 cc.c.f, .int .u64 cc.t] 39))
              have HSRC : Hid (Rd ((wr.alloc (.cells #[.int .i64 cc.id, .int .i64 cc.c.s, .int .i64 cc.c.o, .int .u64 cc.ep, .int .u64 cc.c.f, .int .u64 cc.t] 39)).alloc (.cells #[.int .i64 cc.id, .int .i64 cc.c.s, .int .i64 cc.c.o, .int .u64 cc.ep, .int .u64 cc.c.f, .int .u64 cc.t] 39)) (wr.heap.size + 1 + 1) (some ⟨wr.heap.size + 1, 0, none⟩) [.int .i64 cc.id, .int .i64 cc.c.s, .int .i64 cc.c.o, .int .u64 cc.ep, .int .u64 cc.c.f, .int .u64 cc.t]) := Lib.hid (by
                have h0 := Rd.new (wr.alloc (.cells #[.int .i64 cc.id, .int .i64 cc.c.s, .int .i64 cc.c.o, .int .u64 cc.ep, .int .u64 cc.c.f, .int .u64 cc.t] 39)) 39 [.int .i64 cc.id, .int .i64 cc.c.s, .int .i64 cc.c.o, .int .u64 cc.ep, .int .u64 cc.c.f, .int .u64 cc.t]
                have e0 : (wr.alloc (.cells #[.int .i64 cc.id, .int .i64 cc.c.s, .int .i64 cc.c.o, .int .u64 cc.ep, .int .u64 cc.c.f, .int .u64 cc.t] 39)).heap.size = wr.heap.size + 1 := by simp
                rw [e0] at h0
                exact h0)
              have KA := Lib.hid (HKW.out.alloc (by simp; omega) (.cells #[.int .i64 cc.id, .int .i64 cc.c.s, .int .i64 cc.c.o, .int .u64 cc.ep, .int .u64 cc.c.f, .int .u64 cc.t] 39))
              have HSW := Lib.hid KA.out.size
              clear HOLD HNEW HOL hold a1 a2 h1 h2 h3 HO HO1 HKW
              go_wp2_with (at_builtin; refine wpList_append_rds rfl _ _ _ rfl w5.heap.size 39 i0 _ 6 48 Try.underlying34 hi hz0 hz1 hz2 rfl (by omega) _ nn _ rfl HO2.out _ _ _ _ [.int .i64 cc.id, .int .i64 cc.c.s, .int .i64 cc.c.o, .int .u64 cc.ep, .int .u64 cc.c.f, .int .u64 cc.t] rfl rfl HSRC.out (by simp [Value.oneCell']) (by unfold maxLen; omega) (by omega) HSW.out ?_; intro v3 w3 hown3 hg3; obtain ⟨D3, e3, rfl, _, _⟩ := own_form_s hown3; have HO3 := Lib.hid hown3; have HK3 := Lib.hid (KA.out.trans (below_own_s HO2.out hg3 HSW.out)); clear hown3 hg3)
              go_roundw
              case rel => exact ⟨r + 1, nn + 1, e3, D3, y, by omega, by go_num, rfl, rfl, by omega, by omega, HA1, by rw [HA2.out]; exact HO3, HK3⟩
              case measure => simp [intOf]; omega
          · have e1 : (cc.c.s == 1) = false := by simp [h1]
            have hold : isOld idl tn cc = false := by rw [HOL.out, e1]; rfl
            have h2 := h1
            have h3 := h1
            obtain ⟨a1, a2⟩ := HNEW.out hold
            have HA1 := Lib.hid a1
            have HA2 := Lib.hid a2
            have HO2 := Lib.hid (HO1.out.alloc (.cells #[.int .i64 cc.id, .int .i64 cc.c.s, .int .i64 cc.c.o, .int .u64 cc.ep, .int .u64 cc.c.f, .int .u64 cc.t] 39))
            have HSRC : Hid (Rd ((wr.alloc (.cells #[.int .i64 cc.id, .int .i64 cc.c.s, .int .i64 cc.c.o, .int .u64 cc.ep, .int .u64 cc.c.f, .int .u64 cc.t] 39)).alloc (.cells #[.int .i64 cc.id, .int .i64 cc.c.s, .int .i64 cc.c.o, .int .u64 cc.ep, .int .u64 cc.c.f, .int .u64 cc.t] 39)) (wr.heap.size + 1 + 1) (some ⟨wr.heap.size + 1, 0, none⟩) [.int .i64 cc.id, .int .i64 cc.c.s, .int .i64 cc.c.o, .int .u64 cc.ep, .int .u64 cc.c.f, .int .u64 cc.t]) := Lib.hid (by
              have h0 := Rd.new (wr.alloc (.cells #[.int .i64 cc.id, .int .i64 cc.c.s, .int .i64 cc.c.o, .int .u64 cc.ep, .int .u64 cc.c.f, .int .u64 cc.t] 39)) 39 [.int .i64 cc.id, .int .i64 cc.c.s, .int .i64 cc.c.o, .int .u64 cc.ep, .int .u64 cc.c.f, .int .u64 cc.t]
              have e0 : (wr.alloc (.cells #[.int .i64 cc.id, .int .i64 cc.c.s, .int .i64 cc.c.o, .int .u64 cc.ep, .int .u64 cc.c.f, .int .u64 cc.t] 39)).heap.size = wr.heap.size + 1 := by simp
              rw [e0] at h0
              exact h0)
            have KA := Lib.hid (HKW.out.alloc (by simp; omega) (.cells #[.int .i64 cc.id, .int .i64 cc.c.s, .int .i64 cc.c.o, .int .u64 cc.ep, .int .u64 cc.c.f, .int .u64 cc.t] 39))
            have HSW := Lib.hid KA.out.size
            clear HOLD HNEW HOL hold a1 a2 h1 h2 h3 HO HO1 HKW
            go_wp2_with (at_builtin; refine wpList_append_rds rfl _ _ _ rfl w5.heap.size 39 i0 _ 6 48 Try.underlying34 hi hz0 hz1 hz2 rfl (by omega) _ nn _ rfl HO2.out _ _ _ _ [.int .i64 cc.id, .int .i64 cc.c.s, .int .i64 cc.c.o, .int .u64 cc.ep, .int .u64 cc.c.f, .int .u64 cc.t] rfl rfl HSRC.out (by simp [Value.oneCell']) (by unfold maxLen; omega) (by omega) HSW.out ?_; intro v3 w3 hown3 hg3; obtain ⟨D3, e3, rfl, _, _⟩ := own_form_s hown3; have HO3 := Lib.hid hown3; have HK3 := Lib.hid (KA.out.trans (below_own_s HO2.out hg3 HSW.out)); clear hown3 hg3)
            go_roundw
            case rel => exact ⟨r + 1, nn + 1, e3, D3, y, by omega, by go_num, rfl, rfl, by omega, by omega, HA1, by rw [HA2.out]; exact HO3, HK3⟩
            case measure => simp [intOf]; omega
        · obtain rfl : r = n5 := by omega
          rw [List.take_of_length_le (by rw [HN5.out]; exact Nat.le_refl _)] at HY HO
          have hln : (p.l.filter fun x => !isOld idl tn x).length = nn := by
            have := HO.out.1
            rw [inC_length, List.length_map] at this
            omega
          have HLN := Lib.hid hln
          have HWT := Lib.hid (Solo.waiting (HS5.out.besides (N' := rowB D) hw.out fun k hk => HO.out.lt k (rowB_own hk)))
          have HID := Lib.hid (IR.of_own HO.out)
          have HP8 := Lib.hid (HK.out.reaped idl tn)
          have HKR := Lib.hid (HK.out.reap (by omega) idl tn)
          have HP9 := Lib.hid (HK.out.reaped0 idl tn)
          have HR2 : Hid ((reapP idl tn p).2 = (y : Int)) := Lib.hid (by rw [← HY.out]; rfl)
          clear hw HO HR5 HS5 HY hln
          go_wp2_with fail
          refine HWT.out.mono ?_
          rintro e w7 ⟨A7, n7, c7, rfl, hr7, hn7, hb7, hs7⟩
          have HID := Lib.hid (HID.out.next hb7)
          have HN7 := Lib.hid hr7.nr
          have HRP := Lib.hid (hs7.op (Y := PP b mo idl m (reapP idl tn p).1) (Q := fun e w' => e = .returned (.int .i64 y) ∧ w7.heap.size ≤ w'.heap.size) fun S hp => (ppreap_ok tn HK.out hp).mono fun e w' ⟨he, ht⟩ => ⟨⟨by rw [he, HR2.out], ht.off.size⟩, ht⟩)
          clear hr7 hb7 hs7 HWT HR2
          go_wp2_with fail
          refine HRP.out.mono ?_
          rintro e w8 ⟨⟨rfl, hz8⟩, hs8, hk8⟩
          have HID := Lib.hid (HID.out.kept hz8 fun k hk => hk8 k (.inr (.inl hk)))
          have HN7 := Lib.hid (HN7.out.kept hz8 fun k hk => hk8 k (.inl hk))
          have HROW : Hid ((reapP idl tn p).1.row = p.row) := Lib.hid rfl
          generalize (reapP idl tn p).1 = p8 at *
          have HCN := Lib.hid hs8.conns
          clear hs8 hk8 hz8 HRP
          go_wp2_with fail
          refine HCN.out.mono ?_
          rintro e w9 ⟨A9, n9, c9, rfl, hr9, hn9, hb9, hs9⟩
          have HID := Lib.hid (HID.out.next hb9)
          have HN7 := Lib.hid (HN7.out.next hb9)
          have HIA := Lib.hid (infos_ok A9 n9 c9 _ w9 hr9 (by omega))
          have HS9 := Lib.hid hs9
          have hn9 := hn9
          clear hr9 hb9 hs9 HCN
          go_wp2_with fail
          refine HIA.out.mono ?_
          rintro e w10 ⟨B10, d10, rfl, ho10, hb10⟩
          have HID := Lib.hid (HID.out.next hb10)
          have HN7 := Lib.hid (HN7.out.next hb10)
          have HS9 := Lib.hid (HS9.out.next hb10)
          have HI10 := Lib.hid (IR.of_own ho10)
          have HIB := Lib.hid (infos_ok D nn ee _ w10 HID.out (by omega))
          clear ho10 hb10 HIA HID
          go_wp2_with fail
          refine HIB.out.mono ?_
          rintro e w11 ⟨B11, d11, rfl, ho11, hb11⟩
          have HN7 := Lib.hid (HN7.out.next hb11)
          have HS9 := Lib.hid (HS9.out.next hb11)
          have HI10 := Lib.hid (HI10.out.next hb11)
          have HSM := Lib.hid (rsame10_ok B10 B11 n9 nn d10 d11 _ _ w11 HI10.out (IR.of_own ho11) (by omega) (by omega) true (Lib.hid (by rw [HP8.out]; simp)))
          clear ho11 hb11 HIB HI10
          go_wp2_with fail
          refine HSM.out.mono ?_
          rintro e w12 ⟨rfl, hb12⟩
          have HN7 := Lib.hid (HN7.out.next hb12)
          have HS9 := Lib.hid (HS9.out.next hb12)
          have HWT := Lib.hid HS9.out.waiting
          clear hb12 HSM HS9
          go_wp2_with fail
          refine HWT.out.mono ?_
          rintro e w13 ⟨A13, n13, c13, rfl, hr13, hn13, hb13, hs13⟩
          have HN7 := Lib.hid (HN7.out.next hb13)
          have HSM := Lib.hid (wsame_ok A13 A7 n13 n7 c13 c7 _ _ w13 hr13.nr HN7.out (by omega) (by omega) true (Lib.hid (by rw [HROW.out]; simp)))
          have HS13 := Lib.hid hs13
          clear hr13 hb13 hs13 HWT HN7
          go_wp2_with fail
          refine HSM.out.mono ?_
          rintro e w14 ⟨rfl, _, hb14⟩
          have HRP := Lib.hid ((HS13.out.next hb14).op (Y := PP b mo idl m (reapP idl tn p8).1) (Q := fun e w' => e = .returned (.int .i64 0)) fun S hp => (ppreap_ok tn HKR.out hp).mono fun e w' ⟨he, ht⟩ => ⟨by rw [he, HP9.out], ht⟩)
          clear hb14 HSM HS13
          go_wp2_with fail
          refine HRP.out.mono ?_
          rintro e w15 ⟨rfl, hs15, _⟩
          have HLW := Lib.hid hs15.low
          clear hs15 HRP
          go_wp2_with fail
          go_ret
          exact ⟨rfl, HLW.out⟩
end
end Go.Proofs.Ytkbaljdpnopbmaa
