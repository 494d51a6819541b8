/-
  Contracts and plain functions that the law stands on, part 23 of 24.
-/
import Derived.Test.YtaoegiohnebnhaaGreatDoorQD22
namespace Go.Proofs.YtaoegiohnebnhaaGreatDoor
/- NodeDoes, of layer 15: the walk. -/
section
open Go.RowKit
set_option maxRecDepth 100000

def slSr : Stl KeepT := ⟨fun _ v _ => ∃ A m d, v = .slice A m d, fun _ _ _ _ _ _ h _ => h⟩
def ptSr : Stl KeepT := ⟨fun _ v _ => ∃ b, v = .pointer (some ⟨b, 0, none⟩), fun _ _ _ _ _ _ h _ => h⟩
def toSr (t : To15) : Stl KeepT := ⟨fun _ v _ => ∃ A m d, v = .agg #[.int .i64 t.r.e, .int .u64 t.r.ep, .int .u64 t.r.pl, .slice A m d, .bool t.is, .int .i64 t.many], fun _ _ _ _ _ _ h _ => h⟩
/-- within region 19: what is told so far -/
def SD19 (W : World) (X Y : Thing) (ps : List (Nat × (Nat → Nat))) (l : List (Nat × Obj)) (lg : List Lg) (tab : List Kv) (L : Nat → Bool) (T : Nat → Value) (u : World) : Prop :=
  bif L 31 then St15 W X Y ps l [] [] u
  else bif L 30 then ∃ A m d, T 110 = .slice A m d ∧ KR u A m tab ∧ St15 W X Y ps l [] [] u
  else bif L 24 then St15 W X Y ps l [] [] u
  else bif L 19 then ∃ A m d, T 99 = .slice A m d ∧ St15 W X Y ps l [(A, m, lg)] [] u
  else bif L 18 then ∃ A m d, T 98 = .slice A m d ∧ St15 W X Y ps l [(A, m, lg)] [] u
  else St15 W X Y ps l [] [] u
theorem SD19.st {W : World} {X Y : Thing} {ps : List (Nat × (Nat → Nat))} {l : List (Nat × Obj)} {lg : List Lg} {tab : List Kv} {L : Nat → Bool} {T : Nat → Value} {u : World} (h : SD19 W X Y ps l lg tab L T u) : St15 W X Y ps l [] [] u := by
  unfold SD19 at h
  cases h31 : L 31 with
  | true => rw [h31] at h; exact h
  | false =>
  cases h30 : L 30 with
  | true =>
    rw [h31, h30] at h
    obtain ⟨_, _, _, _, _, h⟩ := h
    exact h
  | false =>
  cases h24 : L 24 with
  | true => rw [h31, h30, h24] at h; exact h
  | false =>
  cases h19 : L 19 with
  | true =>
    rw [h31, h30, h24, h19] at h
    obtain ⟨_, _, _, _, h⟩ := h
    exact h.less (fun _ h => h) (fun _ h => h) (fun _ h => nomatch h) fun _ h => h
  | false =>
  cases h18 : L 18 with
  | true =>
    rw [h31, h30, h24, h19, h18] at h
    obtain ⟨_, _, _, _, h⟩ := h
    exact h.less (fun _ h => h) (fun _ h => h) (fun _ h => nomatch h) fun _ h => h
  | false =>
    rw [h31, h30, h24, h19, h18] at h
    exact h
section
variable {X : Nat → Nd → Thing}
set_option maxHeartbeats 32000000 in
theorem nodedoes_walk (C : NodeC X) (A1 : Option Addr) (l1 c1 : Nat) (ts : List Ac8) (W : World) (r1 : AE W A1 l1 ts) (hF : ∀ t ∈ ts, t.Fine) (hL : Lw W) :
    Calls Tryz.prog 3 #[.slice A1 l1 c1] W fun e w' => e = .returned (.bool true) ∧ Below W.heap.size W w' := by
  have HAW := Lib.hid (awake15_ok C hL)
  have R1 := Lib.hid r1
  have HN1 := Lib.hid r1.len
  have HFX := Lib.hid hF
  have HC := Lib.hid C
  have HLW := Lib.hid hL
  clear r1 hF C hL
  go_enter Tryz.func3, Tryz.ntmps3
  go_wp2_with fail
  refine HAW.out.mono ?_
  rintro e w1 ⟨rfl, k1⟩
  have HLG := Lib.hid (llarge15_ok A1 l1 c1 ts w1 (R1.out.next k1))
  have HK1 := Lib.hid k1
  clear HAW k1
  go_wp2_with fail
  refine HLG.out.mono ?_
  rintro e w2 ⟨bg, rfl, hbg, k2⟩
  have HK2 := Lib.hid (HK1.out.trans (k2.mono HK1.out.size))
  clear HLG k2 HK1
  cases bg with
  | true =>
    clear hbg
    go_wp2_with fail
    go_ret
    exact ⟨rfl, HK2.out⟩
  | false =>
  obtain ⟨hl60, hsm⟩ := hbg rfl
  have HSM := Lib.hid hsm
  clear hbg hsm
  obtain ⟨r0, hr0, hrz0, hrz1, hrz2⟩ := info_parts kvinfoR
  go_wp2_with fail
  refine (lnodes_new HC.out (HLW.out.next HK2.out)).mono ?_
  rintro e w3 ⟨ga, ba, rfl, p33, ⟨S3, q3, z3⟩, g3, k3⟩
  have HK3 := Lib.hid (HK2.out.trans (k3.mono HK2.out.size))
  have hga : ga < w3.heap.size := by obtain ⟨ad, h1, h2, _⟩ := p33.at_ (i := 0) (by decide); injection h1 with h1; subst h1; exact h2
  have HX3 := Lib.hid (And.intro p33 (And.intro q3 (And.intro z3 hga)))
  clear p33 q3 z3 k3 hga g3
  go_wp2_with fail
  refine (rnew15_ok w3).mono ?_
  rintro e w4 ⟨rfl, n4, k4⟩
  obtain ⟨b0, hb0⟩ : ∃ y, w3.heap.size = y := ⟨_, rfl⟩
  have HB0 := Lib.hid hb0
  have HN4 := Lib.hid (And.intro n4 k4)
  rw [hb0]
  clear n4 k4 hb0
  go_wp2_with fail
  refine (rnew15_ok w4).mono ?_
  rintro e w5 ⟨rfl, n5, k5⟩
  obtain ⟨b1, hb1⟩ : ∃ y, w4.heap.size = y := ⟨_, rfl⟩
  have HB1 := Lib.hid hb1
  have HN5 := Lib.hid (And.intro n5 k5)
  rw [hb1]
  clear n5 k5 hb1
  go_wp2_with fail
  refine (rnew15_ok w5).mono ?_
  rintro e w6 ⟨rfl, n6, k6⟩
  obtain ⟨b2, hb2⟩ : ∃ y, w5.heap.size = y := ⟨_, rfl⟩
  have HB2 := Lib.hid hb2
  have HN6 := Lib.hid (And.intro n6 k6)
  rw [hb2]
  clear n6 k6 hb2
  obtain ⟨w7, hw7⟩ : ∃ y, w6.alloc (.cells #[.pointer (some ⟨b0, 0, none⟩), .pointer (some ⟨b1, 0, none⟩), .pointer (some ⟨b2, 0, none⟩)] 27) = y := ⟨_, rfl⟩
  obtain ⟨gb, hgb⟩ : ∃ y, w6.heap.size = y := ⟨_, rfl⟩
  obtain ⟨bb, hbb⟩ : ∃ y, pick3 b0 b1 b2 = y := ⟨_, rfl⟩
  have HD7 : Hid (St15 W (Tri X ba fun _ => newNd) (Tri RN bb fun _ => newNd) [(ga, ba), (gb, bb)] [] [] [] w7) := Lib.hid (by
    obtain ⟨p3, q3, z3, hga⟩ := HX3.out
    obtain ⟨n4, k4⟩ := HN4.out
    obtain ⟨n5, k5⟩ := HN5.out
    obtain ⟨n6, k6⟩ := HN6.out
    rw [HB0.out] at n4
    rw [HB1.out] at n5
    rw [HB2.out] at n6
    obtain ⟨⟨Sr, qr, zr⟩, kr⟩ := Tri.new3 n4 (fun k hk => by rw [hk, ← HB0.out]; exact Nat.le_refl _) k4 n5 (fun k hk => by rw [hk, ← HB1.out]; exact Nat.le_refl _) k5 n6 (fun k hk => by rw [hk, ← HB2.out]; exact Nat.le_refl _) k6 (hw7 ▸ kp_new w6 _)
    have p7 : P3 w7 (some ⟨gb, 0, none⟩) bb := by rw [← hw7, ← hgb, ← hbb]; exact P3.new w6 b0 b1 b2 _
    rw [hbb] at qr
    have hk2 := HK2.out.size
    have hk3 := HK3.out.size
    have hkr := kr.size
    have h46 : w3.heap.size ≤ gb := by have := k4.size; have := k5.size; have := k6.size; omega
    have h67 : gb < w7.heap.size := by rw [← hw7, ← hgb]; simp
    refine ⟨fun k => k = ga ∨ k = gb, ⟨⟨S3, Sr, Thing.next q3 kr, qr, fun k h1 h2 => (by have := z3 k h1; have := zr k h2; omega), fun k hk => ?_⟩, HK3.out.trans (kr.mono hk3), fun k hk => (by omega)⟩, (fun _ h => nomatch h), fun q hq => ?_, (fun _ h => nomatch h), fun _ h => nomatch h⟩
    · rcases hk with h1 | h1
      · have := z3 k h1; omega
      · have := zr k h1; omega
    · rcases List.mem_cons.1 hq with rfl | hq
      · exact ⟨p3.next kr, .inl rfl⟩
      · rw [List.mem_singleton.1 hq]
        exact ⟨p7, .inr rfl⟩)
  have HI0 : Hid (∀ i : Nat, NdI 0 ((fun _ => newNd : Nat → Nd) i)) := Lib.hid fun _ => NdI.new
  have HW7 := Lib.hid hw7
  have HGB := Lib.hid hgb
  clear HX3 HK3 HK2 HN4 HN5 HN6 HB0 HB1 HB2 hw7 hgb hbb
  go_wp2_with fail
  rw [HW7.out, HGB.out]
  clear HW7 HGB
  go_loopw [25] (fun i wr => ∃ (k : Nat) (ns : Nat → Nd), k ≤ l1 ∧ i = .int .i64 k ∧ Hid (∀ i : Nat, NdI k (ns i)) ∧ Hid (St15 W (Tri X ba ns) (Tri RN bb ns) [(ga, ba), (gb, bb)] [] [] [] wr)) (fun i _ => l1 - (intOf i).toNat)
  case atStart => exact ⟨0, _, Nat.zero_le _, rfl, HI0, HD7⟩
  case round =>
    obtain ⟨k, ns, hk, rfl, HI, hD⟩ := hrel
    clear HI0 HD7
    by_cases hlt : k < l1
    · have hkl : k < ts.length := by rw [HN1.out]; exact hlt
      obtain ⟨ad, rfl, _, hcc⟩ := R1.out.at_ hkl
      obtain ⟨x0, x1, x2, x3, x4, x5, x6, x7⟩ := hcc wr (hD.out.low)
      have HXF := Lib.hid (HFX.out _ (List.getElem_mem hkl))
      have HXS := Lib.hid (HSM.out _ (List.getElem_mem hkl))
      clear hcc
      generalize ts[k] = x at *
      obtain ⟨wx, hwx⟩ : ∃ u, wr.alloc (.cells #[.int .i64 x.d, .int .i64 x.nd, .int .i64 x.fr, .int .i64 x.c, .int .i64 x.m, .int .u64 x.e, .bool x.rd, .string x.t] 32) = u := ⟨_, rfl⟩
      obtain ⟨t6, ht6⟩ : ∃ y, wr.heap.size = y := ⟨_, rfl⟩
      have H1 := Lib.hid ((hD.out).mark (.cells #[.int .i64 x.d, .int .i64 x.nd, .int .i64 x.fr, .int .i64 x.c, .int .i64 x.m, .int .u64 x.e, .bool x.rd, .string x.t] 32) hwx ht6)
      have HWX := Lib.hid hwx
      have HT6 := Lib.hid ht6
      have HIN : Hid (∀ i : Nat, NdI (k + 1) ((actN ns x).2 i)) := Lib.hid (actN_inv HI.out HXF.out HXS.out)
      obtain ⟨R, hR⟩ : ∃ R, actN ns x = R := ⟨_, rfl⟩
      rw [hR] at HIN
      have HR := Lib.hid hR
      have HOF := Lib.hid fun u => lof3_ok x.nd u
      obtain ⟨i, hi⟩ : ∃ i, of3 x.nd = i := ⟨_, rfl⟩
      have hi3 : i < 3 := hi ▸ of3_lt x.nd
      rw [hi] at HOF
      clear hwx ht6 hD hR hi
      go_wp2_with fail
      rw [HWX.out, HT6.out]
      obtain ⟨wo, hwo⟩ : ∃ z, z = wx := ⟨wx, rfl⟩
      subst hwo
      have HST := H1
      have HKR : Hid (∀ (i : Nat) (u : World), KeepT i u u) := Lib.hid fun _ _ => trivial
      clear H1 HWX HT6 x0 x1 x2 x3 x4 x5 x6 x7
      refine wp_region_specs7 (S := SD W (Tri X ba ns) (Tri X ba R.2) (Tri RN bb ns) (Tri RN bb R.2) [(ga, ba), (gb, bb)] t6 (.cells #[.int .i64 x.d, .int .i64 x.nd, .int .i64 x.fr, .int .i64 x.c, .int .i64 x.m, .int .u64 x.e, .bool x.rd, .string x.t] 32) R.1 31 34 7 8) (Kp := KeepT) (Sp := [(29, Stl.eq (.slice (some ⟨ga, 0, none⟩) 3 3)), (30, Stl.eq (.agg #[.int .i64 x.d, .int .i64 x.nd, .int .i64 x.fr, .int .i64 x.c, .int .i64 x.m, .int .u64 x.e, .bool x.rd, .string x.t])), (31, toSr R.1), (32, Stl.eq (.slice (some ⟨gb, 0, none⟩) 3 3)), (33, Stl.eq (.agg #[.int .i64 x.d, .int .i64 x.nd, .int .i64 x.fr, .int .i64 x.c, .int .i64 x.m, .int .u64 x.e, .bool x.rd, .string x.t])), (34, toSr R.1), (7, ptSr), (8, ptSr)]) (by kernel_rfl) (by kernel_rfl) ((SD.of rfl rfl ⟨[(t6, .cells #[.int .i64 x.d, .int .i64 x.nd, .int .i64 x.fr, .int .i64 x.c, .int .i64 x.m, .int .u64 x.e, .bool x.rd, .string x.t] 32)], [], ⟨HST.out.next (show Below wo.heap.size wo wo.drew from kp_drewN wo 1), .head _, (fun h => by cases h), (fun h => by cases h), (fun h => by cases h), (fun h => by cases h), fun h => by cases h⟩⟩)) ?_ ?_
      · refine EachOp.cons ?_ ?_
        · intro L a u hL hst hS hdep hq hno
          have h3 : a.tmps.getD 3 undef = .slice (some ⟨ga, 0, none⟩) 3 3 := hst.out 3 (by kernel_rfl)
          refine .inl ⟨trivial, ?_⟩
          have g3 := gd h3
          go_simp
          exact Went7.same (HKR.out _ _) (by have h := hS; unfold SD at h ⊢; rw [slots_ne (d := 29) (t := 31) rfl, slots_ne (d := 29) (t := 34) rfl, slots_ne (d := 29) (t := 7) rfl, slots_ne (d := 29) (t := 8) rfl]; exact h) rfl
        refine EachOp.cons ?_ ?_
        · intro L a u hL hst hS hdep hq hno
          have h6 : a.tmps.getD 6 undef = .pointer (some ⟨t6, 0, none⟩) := hst.out 6 (by kernel_rfl)
          refine .inl ⟨trivial, ?_⟩
          have g6 := gd h6
          have c9 : L 9 = false := hno 12 9 (by kernel_rfl)
          have c8 : L 8 = false := hno 12 8 (by kernel_rfl)
          obtain ⟨l0, xs0, hp0⟩ := hS.pre c9 c8
          have m6 := hp0.st.at_ hp0.a6
          obtain ⟨y0, _⟩ := cellsAt m6 0 (v := .int .i64 x.d) rfl
          obtain ⟨y1, _⟩ := cellsAt m6 1 (v := .int .i64 x.nd) rfl
          obtain ⟨y2, _⟩ := cellsAt m6 2 (v := .int .i64 x.fr) rfl
          obtain ⟨y3, _⟩ := cellsAt m6 3 (v := .int .i64 x.c) rfl
          obtain ⟨y4, _⟩ := cellsAt m6 4 (v := .int .i64 x.m) rfl
          obtain ⟨y5, _⟩ := cellsAt m6 5 (v := .int .u64 x.e) rfl
          obtain ⟨y6, _⟩ := cellsAt m6 6 (v := .bool x.rd) rfl
          obtain ⟨y7, _⟩ := cellsAt m6 7 (v := .string x.t) rfl
          clear m6 hp0
          go_simp
          exact Went7.same (HKR.out _ _) (by have h := hS; unfold SD at h ⊢; rw [slots_ne (d := 30) (t := 31) rfl, slots_ne (d := 30) (t := 34) rfl, slots_ne (d := 30) (t := 7) rfl, slots_ne (d := 30) (t := 8) rfl]; exact h) rfl
        refine EachOp.cons ?_ ?_
        · intro L a u hL hst hS hdep hq hno
          have h29 : a.tmps.getD 29 undef = .slice (some ⟨ga, 0, none⟩) 3 3 := hdep 29 (by kernel_rfl)
          have h30 : a.tmps.getD 30 undef = .agg #[.int .i64 x.d, .int .i64 x.nd, .int .i64 x.fr, .int .i64 x.c, .int .i64 x.m, .int .u64 x.e, .bool x.rd, .string x.t] := hdep 30 (by kernel_rfl)
          refine .inl ⟨trivial, ?_⟩
          have g29 := gd h29
          have g30 := gd h30
          go_simp
          have c9 : L 9 = false := hno 12 9 (by kernel_rfl)
          have c8 : L 8 = false := hno 12 8 (by kernel_rfl)
          obtain ⟨l0, xs0, hp0⟩ := hS.pre c9 c8
          have c2 : L 2 = false := hL
          have c5 : L 5 = false := hno 12 5 (by kernel_rfl)
          rw [c2, c5] at hp0
          have hst0 : St15 W (Tri X ba ns) (Tri RN bb ns) [(ga, ba), (gb, bb)] l0 [] xs0 u := hp0.st
          have hk := hst0.act HC.out HLW.out 3 (.head _) HI.out (by omega) HXF.out HXS.out
          rw [HR.out] at hk
          refine hk.mono ?_
          rintro e' u' ⟨A', m', d', rfl, h2⟩
          have hsz : 31 < a.tmps.size := by rw [hst.size]; exact Nat.le_of_ble_eq_true (by kernel_rfl)
          refine Went7.next (SD.of c9 c8 ?_) trivial ⟨A', m', d', rfl⟩
          rw [slots_eq hsz, slots_ne (d := 31) (t := 34) rfl, slots_ne (d := 31) (t := 7) rfl, slots_ne (d := 31) (t := 8) rfl]
          have d2 : doneB L 2 2 = true := done_same
          have d5 : doneB L 2 5 = false := c5
          rw [d2, d5]
          exact ⟨_, _, hp0.do1 h2⟩
        refine EachOp.cons ?_ ?_
        · intro L a u hL hst hS hdep hq hno
          have h4 : a.tmps.getD 4 undef = .slice (some ⟨gb, 0, none⟩) 3 3 := hst.out 4 (by kernel_rfl)
          refine .inl ⟨trivial, ?_⟩
          have g4 := gd h4
          go_simp
          exact Went7.same (HKR.out _ _) (by have h := hS; unfold SD at h ⊢; rw [slots_ne (d := 32) (t := 31) rfl, slots_ne (d := 32) (t := 34) rfl, slots_ne (d := 32) (t := 7) rfl, slots_ne (d := 32) (t := 8) rfl]; exact h) rfl
        refine EachOp.cons ?_ ?_
        · intro L a u hL hst hS hdep hq hno
          have h6 : a.tmps.getD 6 undef = .pointer (some ⟨t6, 0, none⟩) := hst.out 6 (by kernel_rfl)
          refine .inl ⟨trivial, ?_⟩
          have g6 := gd h6
          have c9 : L 9 = false := hno 12 9 (by kernel_rfl)
          have c8 : L 8 = false := hno 12 8 (by kernel_rfl)
          obtain ⟨l0, xs0, hp0⟩ := hS.pre c9 c8
          have m6 := hp0.st.at_ hp0.a6
          obtain ⟨y0, _⟩ := cellsAt m6 0 (v := .int .i64 x.d) rfl
          obtain ⟨y1, _⟩ := cellsAt m6 1 (v := .int .i64 x.nd) rfl
          obtain ⟨y2, _⟩ := cellsAt m6 2 (v := .int .i64 x.fr) rfl
          obtain ⟨y3, _⟩ := cellsAt m6 3 (v := .int .i64 x.c) rfl
          obtain ⟨y4, _⟩ := cellsAt m6 4 (v := .int .i64 x.m) rfl
          obtain ⟨y5, _⟩ := cellsAt m6 5 (v := .int .u64 x.e) rfl
          obtain ⟨y6, _⟩ := cellsAt m6 6 (v := .bool x.rd) rfl
          obtain ⟨y7, _⟩ := cellsAt m6 7 (v := .string x.t) rfl
          clear m6 hp0
          go_simp
          exact Went7.same (HKR.out _ _) (by have h := hS; unfold SD at h ⊢; rw [slots_ne (d := 33) (t := 31) rfl, slots_ne (d := 33) (t := 34) rfl, slots_ne (d := 33) (t := 7) rfl, slots_ne (d := 33) (t := 8) rfl]; exact h) rfl
        refine EachOp.cons ?_ ?_
        · intro L a u hL hst hS hdep hq hno
          have h32 : a.tmps.getD 32 undef = .slice (some ⟨gb, 0, none⟩) 3 3 := hdep 32 (by kernel_rfl)
          have h33 : a.tmps.getD 33 undef = .agg #[.int .i64 x.d, .int .i64 x.nd, .int .i64 x.fr, .int .i64 x.c, .int .i64 x.m, .int .u64 x.e, .bool x.rd, .string x.t] := hdep 33 (by kernel_rfl)
          refine .inl ⟨trivial, ?_⟩
          have g32 := gd h32
          have g33 := gd h33
          go_simp
          have c9 : L 9 = false := hno 12 9 (by kernel_rfl)
          have c8 : L 8 = false := hno 12 8 (by kernel_rfl)
          obtain ⟨l0, xs0, hp0⟩ := hS.pre c9 c8
          have c2 : L 2 = true := hq 12 2 (by kernel_rfl)
          have c5 : L 5 = false := hL
          rw [c2, c5] at hp0
          have hst0 : St15 W (Tri X ba R.2) (Tri RN bb ns) [(ga, ba), (gb, bb)] l0 [] xs0 u := hp0.st
          have hk := hst0.own 3 (.tail _ (.head _)) HI.out (by omega) HXF.out HXS.out
          rw [HR.out] at hk
          refine hk.mono ?_
          rintro e' u' ⟨⟨A', m', d', rfl, h4⟩, h3⟩
          have hsz : 34 < a.tmps.size := by rw [hst.size]; exact Nat.le_of_ble_eq_true (by kernel_rfl)
          refine Went7.next (SD.of c9 c8 ?_) trivial ⟨A', m', d', rfl⟩
          rw [slots_ne (d := 34) (t := 31) rfl, slots_eq hsz, slots_ne (d := 34) (t := 7) rfl, slots_ne (d := 34) (t := 8) rfl]
          have d2 : doneB L 5 2 = true := c2
          have d5 : doneB L 5 5 = true := done_same
          rw [d2, d5]
          exact ⟨_, _, hp0.do2 h3 h4⟩
        refine EachOp.cons ?_ ?_
        · intro L a u hL hst hS hdep hq hno
          refine .inl ⟨trivial, ?_⟩
          go_simp
          have c9 : L 9 = false := hno 12 9 (by kernel_rfl)
          have c8 : L 8 = false := hno 12 8 (by kernel_rfl)
          obtain ⟨l0, xs0, hp0⟩ := hS.pre c9 c8
          have ci : L 6 = false := hL
          rw [ci] at hp0
          have hsz : 7 < a.tmps.size := by rw [hst.size]; exact Nat.le_of_ble_eq_true (by kernel_rfl)
          refine Went7.next (SD.of c9 c8 ?_) trivial ⟨_, rfl⟩
          rw [slots_ne (d := 7) (t := 31) rfl, slots_ne (d := 7) (t := 34) rfl, slots_eq hsz, slots_ne (d := 7) (t := 8) rfl]
          have di : doneB L 6 6 = true := done_same
          rw [di]
          exact ⟨_, _, hp0.al1⟩
        refine EachOp.cons ?_ ?_
        · intro L a u hL hst hS hdep hq hno
          refine .inl ⟨trivial, ?_⟩
          go_simp
          have c9 : L 9 = false := hno 12 9 (by kernel_rfl)
          have c8 : L 8 = false := hno 12 8 (by kernel_rfl)
          obtain ⟨l0, xs0, hp0⟩ := hS.pre c9 c8
          have ci : L 7 = false := hL
          rw [ci] at hp0
          have hsz : 8 < a.tmps.size := by rw [hst.size]; exact Nat.le_of_ble_eq_true (by kernel_rfl)
          refine Went7.next (SD.of c9 c8 ?_) trivial ⟨_, rfl⟩
          rw [slots_ne (d := 8) (t := 31) rfl, slots_ne (d := 8) (t := 34) rfl, slots_ne (d := 8) (t := 7) rfl, slots_eq hsz]
          have di : doneB L 7 7 = true := done_same
          rw [di]
          exact ⟨_, _, hp0.al2⟩
        refine EachOp.cons ?_ ?_
        · intro L a u hL hst hS hdep hq hno
          obtain ⟨b7, h7⟩ := hdep 7 (by kernel_rfl)
          obtain ⟨A31, m31, d31, h31⟩ := hdep 31 (by kernel_rfl)
          refine .inl ⟨trivial, ?_⟩
          have g7 := gd h7
          have g31 := gd h31
          have c9 : L 9 = false := hno 12 9 (by kernel_rfl)
          have c8 : L 8 = false := hL
          obtain ⟨l0, xs0, hp0⟩ := hS.pre c9 c8
          have c2 : L 2 = true := hq 12 2 (by kernel_rfl)
          have c5 : L 5 = true := hq 12 5 (by kernel_rfl)
          have c6 : L 6 = true := hq 12 6 (by kernel_rfl)
          have c7 : L 7 = true := hq 12 7 (by kernel_rfl)
          rw [c2, c5, c6, c7] at hp0
          obtain ⟨b, c, A, m, d, A', m', d', f1, f2, f3, f4, HZC, hw⟩ := hp0.put1 (by unfold toZ; intro h; injection h with _ h; exact absurd h (by decide))
          have hv7 : Value.pointer (some ⟨b7, 0, none⟩) = ptB b := h7.symm.trans f1
          unfold ptB at hv7
          injection hv7 with e1
          injection e1 with e1
          injection e1 with e1
          subst e1
          obtain ⟨k1, k2, k3⟩ := toX_inj (show toX R.1 A31 m31 d31 = toX R.1 A m d from h31.symm.trans f3)
          subst k1 k2 k3
          unfold toZ at HZC
          obtain ⟨g0, p0⟩ := cellsAt HZC 0 (v := .int .i64 0) rfl
          obtain ⟨g1, p1⟩ := cellsAt HZC 1 (v := .int .u64 0) rfl
          obtain ⟨g2, p2⟩ := cellsAt HZC 2 (v := .int .u64 0) rfl
          obtain ⟨g3, p3⟩ := cellsAt HZC 3 (v := .slice none 0 0) rfl
          obtain ⟨g4, p4⟩ := cellsAt HZC 4 (v := .bool false) rfl
          obtain ⟨g5, p5⟩ := cellsAt HZC 5 (v := .int .i64 0) rfl
          clear HZC
          go_simp
          have d9 : doneB L 8 9 = false := c9
          have d8 : doneB L 8 8 = true := done_same
          refine ⟨undef, rfl, ?_, trivial, fun t e => by cases e⟩
          unfold SD
          simp only [d9, d8, cond_true, cond_false]
          obtain ⟨w1, w2, w3, w4, w5, w6⟩ := hw
          exact ⟨b7, c, A31, m31, d31, A', m', d', h7, f2, f4, w1, w2, w3, w4, w5, w6⟩
        refine EachOp.cons ?_ ?_
        · intro L a u hL hst hS hdep hq hno
          obtain ⟨b8, h8⟩ := hdep 8 (by kernel_rfl)
          obtain ⟨A34, m34, d34, h34⟩ := hdep 34 (by kernel_rfl)
          refine .inl ⟨trivial, ?_⟩
          have g8 := gd h8
          have g34 := gd h34
          have c9 : L 9 = false := hL
          have c8 : L 8 = true := hq 12 8 (by kernel_rfl)
          have hs0 := hS
          unfold SD at hs0
          simp only [c9, c8, cond_true, cond_false] at hs0
          obtain ⟨b, c, A, m, d, A', m', d', f1, f2, f4, w1, w2, w3, w4, w5, w6⟩ := hs0
          have hv8 : Value.pointer (some ⟨b8, 0, none⟩) = ptB c := h8.symm.trans f2
          unfold ptB at hv8
          injection hv8 with e1
          injection e1 with e1
          injection e1 with e1
          subst e1
          obtain ⟨k1, k2, k3⟩ := toX_inj (show toX R.1 A34 m34 d34 = toX R.1 A' m' d' from h34.symm.trans f4)
          subst k1 k2 k3
          obtain ⟨HZC, hw⟩ := SD.put2 (A' := A34) (m' := m34) (d' := d34) w1 w2 w3 w4 w5 w6
          unfold toZ at HZC
          obtain ⟨g0, p0⟩ := cellsAt HZC 0 (v := .int .i64 0) rfl
          obtain ⟨g1, p1⟩ := cellsAt HZC 1 (v := .int .u64 0) rfl
          obtain ⟨g2, p2⟩ := cellsAt HZC 2 (v := .int .u64 0) rfl
          obtain ⟨g3, p3⟩ := cellsAt HZC 3 (v := .slice none 0 0) rfl
          obtain ⟨g4, p4⟩ := cellsAt HZC 4 (v := .bool false) rfl
          obtain ⟨g5, p5⟩ := cellsAt HZC 5 (v := .int .i64 0) rfl
          clear HZC
          go_simp
          have d9 : doneB L 9 9 = true := done_same
          refine ⟨undef, rfl, ?_, trivial, fun t e => by cases e⟩
          unfold SD
          simp only [d9, cond_true]
          obtain ⟨v1, v2, v3⟩ := hw
          exact ⟨b, b8, A, m, d, A34, m34, d34, f1, h8, v1, v2, v3⟩
        exact EachOp.nil
      · intro L a u hLs hst hS hdep
        have h29 : a.tmps.getD 29 undef = .slice (some ⟨ga, 0, none⟩) 3 3 := hdep 29 (by kernel_rfl)
        have h30 : a.tmps.getD 30 undef = .agg #[.int .i64 x.d, .int .i64 x.nd, .int .i64 x.fr, .int .i64 x.c, .int .i64 x.m, .int .u64 x.e, .bool x.rd, .string x.t] := hdep 30 (by kernel_rfl)
        obtain ⟨A31, m31, d31, h31⟩ := hdep 31 (by kernel_rfl)
        have h32 : a.tmps.getD 32 undef = .slice (some ⟨gb, 0, none⟩) 3 3 := hdep 32 (by kernel_rfl)
        have h33 : a.tmps.getD 33 undef = .agg #[.int .i64 x.d, .int .i64 x.nd, .int .i64 x.fr, .int .i64 x.c, .int .i64 x.m, .int .u64 x.e, .bool x.rd, .string x.t] := hdep 33 (by kernel_rfl)
        obtain ⟨A34, m34, d34, h34⟩ := hdep 34 (by kernel_rfl)
        obtain ⟨b7, h7⟩ := hdep 7 (by kernel_rfl)
        obtain ⟨b8, h8⟩ := hdep 8 (by kernel_rfl)
        have hs1 := hS
        unfold SD at hs1
        rw [hLs 9 (by kernel_rfl)] at hs1
        obtain ⟨b, c, A, m, d, A', m', d', f1, f2, hsd, hx, hy⟩ := hs1
        have e1 : Value.pointer (some ⟨b7, 0, none⟩) = ptB b := h7.symm.trans f1
        have e2 : Value.pointer (some ⟨b8, 0, none⟩) = ptB c := h8.symm.trans f2
        clear hS hLs f1 f2
        unfold ptB at e1 e2
        injection e1 with e1
        injection e1 with e1
        injection e1 with e1
        injection e2 with e2
        injection e2 with e2
        injection e2 with e2
        subst e1 e2
        have hfr := hst.frame [(29, .slice (some ⟨ga, 0, none⟩) 3 3), (30, .agg #[.int .i64 x.d, .int .i64 x.nd, .int .i64 x.fr, .int .i64 x.c, .int .i64 x.m, .int .u64 x.e, .bool x.rd, .string x.t]), (31, .agg #[.int .i64 R.1.r.e, .int .u64 R.1.r.ep, .int .u64 R.1.r.pl, .slice A31 m31 d31, .bool R.1.is, .int .i64 R.1.many]), (32, .slice (some ⟨gb, 0, none⟩) 3 3), (33, .agg #[.int .i64 x.d, .int .i64 x.nd, .int .i64 x.fr, .int .i64 x.c, .int .i64 x.m, .int .u64 x.e, .bool x.rd, .string x.t]), (34, .agg #[.int .i64 R.1.r.e, .int .u64 R.1.r.ep, .int .u64 R.1.r.pl, .slice A34 m34 d34, .bool R.1.is, .int .i64 R.1.many]), (7, .pointer (some ⟨b7, 0, none⟩)), (8, .pointer (some ⟨b8, 0, none⟩))] (by kernel_rfl) ⟨h29, h30, h31, h32, h33, h34, h7, h8, trivial⟩
        clear hst hdep h29 h30 h31 h32 h33 h34 h7 h8
        subst hfr
        simp only [List.foldl_cons, List.foldl_nil, List.setIfInBounds_toArray, List.set_cons_zero, List.set_cons_succ]
        have H6 := Lib.hid hsd
        have hts := act_ts ns x
        rw [HR.out] at hts
        have HAL := Lib.hid (ralike15_ok R.1.r A A' m m' d d' u hx hy (by have := hx.len; omega) (by have := hy.len; omega))
        have m16 := hsd.at_ (.tail _ (.head _))
        have m17 := hsd.at_ (.head _)
        unfold toB at m16 m17
        obtain ⟨g0, _⟩ := cellsAt m16 0 (v := .int .i64 R.1.r.e) rfl
        obtain ⟨g1, _⟩ := cellsAt m16 1 (v := .int .u64 R.1.r.ep) rfl
        obtain ⟨g2, _⟩ := cellsAt m16 2 (v := .int .u64 R.1.r.pl) rfl
        obtain ⟨g3, _⟩ := cellsAt m16 3 (v := .slice A m d) rfl
        obtain ⟨h0, _⟩ := cellsAt m17 0 (v := .int .i64 R.1.r.e) rfl
        obtain ⟨h1, _⟩ := cellsAt m17 1 (v := .int .u64 R.1.r.ep) rfl
        obtain ⟨h2, _⟩ := cellsAt m17 2 (v := .int .u64 R.1.r.pl) rfl
        obtain ⟨h3, _⟩ := cellsAt m17 3 (v := .slice A' m' d') rfl
        clear m16 m17 hsd hx hy hts HST HKR
        go_wp2_with fail
        refine HAL.out.mono ?_
        rintro e' u2 ⟨rfl, kb⟩
        have H7 := H6.out.next kb
        have m16 := H7.at_ (.tail _ (.head _))
        have m17 := H7.at_ (.head _)
        unfold toB at m16 m17
        obtain ⟨g4, _⟩ := cellsAt m16 4 (v := .bool R.1.is) rfl
        obtain ⟨g5, _⟩ := cellsAt m16 5 (v := .int .i64 R.1.many) rfl
        obtain ⟨h4, _⟩ := cellsAt m17 4 (v := .bool R.1.is) rfl
        obtain ⟨h5, _⟩ := cellsAt m17 5 (v := .int .i64 R.1.many) rfl
        have H8 := Lib.hid (H7.less (l' := [(t6, .cells #[.int .i64 x.d, .int .i64 x.nd, .int .i64 x.fr, .int .i64 x.c, .int .i64 x.m, .int .u64 x.e, .bool x.rd, .string x.t] 32)]) (fun _ h => h) (fun q h => by rw [List.mem_singleton.1 h]; exact .tail _ (.tail _ (.head _))) (fun _ h => h) fun _ h => h)
        clear m16 m17 H7 kb H6 HAL g0 g1 g2 g3 h0 h1 h2 h3
        go_wp2_with fail
        obtain ⟨wo, hwo⟩ : ∃ z, z = u2 := ⟨u2, rfl⟩
        subst hwo
        have HKR : Hid (∀ (i : Nat) (u : World), KeepT i u u) := Lib.hid fun _ _ => trivial
        clear g4 g5 h4 h5
        refine wp_region_specs6 (S := SB wo) (Kp := KeepT) (Sp := [(55, Stl.eq (.slice (some ⟨ga, 0, none⟩) 3 3)), (56, Stl.eq (.pointer (some ⟨t6, 1, none⟩))), (57, Stl.eq (.int .i64 x.nd)), (58, Stl.eq (.int .i64 (i : Nat))), (59, Stl.eq (.pointer (some ⟨ga, i, none⟩))), (60, Stl.eq (.pointer (some ⟨ba i, 0, none⟩))), (61, Stl.eq (.slice (some ⟨gb, 0, none⟩) 3 3)), (62, Stl.eq (.pointer (some ⟨t6, 1, none⟩))), (63, Stl.eq (.int .i64 x.nd)), (64, Stl.eq (.int .i64 (i : Nat))), (65, Stl.eq (.pointer (some ⟨gb, i, none⟩))), (66, Stl.eq (.pointer (some ⟨bb i, 0, none⟩))), (9, Stl.eq (.pointer (some ⟨ba i, 0, none⟩))), (10, Stl.eq (.pointer (some ⟨bb i, 0, none⟩)))]) (by kernel_rfl) (by kernel_rfl) ((kp_drewN wo 1)) ?_ ?_
        · refine EachOp.cons ?_ ?_
          · intro L a u hL hst hS hdep hq hno
            have h3 : a.tmps.getD 3 undef = .slice (some ⟨ga, 0, none⟩) 3 3 := hst.out 3 (by kernel_rfl)
            refine .inl ⟨trivial, ?_⟩
            have g3 := gd h3
            go_simp
            exact Went6.same (HKR.out _ _) hS rfl
          refine EachOp.cons ?_ ?_
          · intro L a u hL hst hS hdep hq hno
            have h6 : a.tmps.getD 6 undef = .pointer (some ⟨t6, 0, none⟩) := hst.out 6 (by kernel_rfl)
            refine .inl ⟨trivial, ?_⟩
            have g6 := gd h6
            go_simp
            exact Went6.same (HKR.out _ _) hS rfl
          refine EachOp.cons ?_ ?_
          · intro L a u hL hst hS hdep hq hno
            have h56 : a.tmps.getD 56 undef = .pointer (some ⟨t6, 1, none⟩) := hdep 56 (by kernel_rfl)
            refine .inl ⟨trivial, ?_⟩
            have g56 := gd h56
            have hB : Below wo.heap.size wo u := hS
            have m6 := (H8.out.next hB).at_ (.head _)
            obtain ⟨y1, _⟩ := cellsAt m6 1 (v := .int .i64 x.nd) rfl
            clear m6
            go_simp
            exact Went6.same (HKR.out _ _) hS rfl
          refine EachOp.cons ?_ ?_
          · intro L a u hL hst hS hdep hq hno
            have h57 : a.tmps.getD 57 undef = .int .i64 x.nd := hdep 57 (by kernel_rfl)
            refine .inl ⟨trivial, ?_⟩
            have g57 := gd h57
            go_simp
            have hB : Below wo.heap.size wo u := hS
            refine (HOF.out u).mono ?_
            rintro e' u' ⟨rfl, rfl⟩
            exact Went6.next hS trivial rfl
          refine EachOp.cons ?_ ?_
          · intro L a u hL hst hS hdep hq hno
            have h55 : a.tmps.getD 55 undef = .slice (some ⟨ga, 0, none⟩) 3 3 := hdep 55 (by kernel_rfl)
            have h58 : a.tmps.getD 58 undef = .int .i64 (i : Nat) := hdep 58 (by kernel_rfl)
            refine .inl ⟨trivial, ?_⟩
            have g55 := gd h55
            have g58 := gd h58
            have hi0 : (0 : Int) ≤ (i : Int) := by omega
            have hi1 : (i : Int) < 3 := by omega
            go_simp
            exact Went6.same (HKR.out _ _) hS rfl
          refine EachOp.cons ?_ ?_
          · intro L a u hL hst hS hdep hq hno
            have h59 : a.tmps.getD 59 undef = .pointer (some ⟨ga, i, none⟩) := hdep 59 (by kernel_rfl)
            refine .inl ⟨trivial, ?_⟩
            have g59 := gd h59
            have hB : Below wo.heap.size wo u := hS
            have yy : u.cell? ⟨ga, i, none⟩ = some (.pointer (some ⟨ba i, 0, none⟩)) := (H8.out.next hB).ptr (.head _) hi3
            go_simp
            exact Went6.same (HKR.out _ _) hS rfl
          refine EachOp.cons ?_ ?_
          · intro L a u hL hst hS hdep hq hno
            have h4 : a.tmps.getD 4 undef = .slice (some ⟨gb, 0, none⟩) 3 3 := hst.out 4 (by kernel_rfl)
            refine .inl ⟨trivial, ?_⟩
            have g4 := gd h4
            go_simp
            exact Went6.same (HKR.out _ _) hS rfl
          refine EachOp.cons ?_ ?_
          · intro L a u hL hst hS hdep hq hno
            have h6 : a.tmps.getD 6 undef = .pointer (some ⟨t6, 0, none⟩) := hst.out 6 (by kernel_rfl)
            refine .inl ⟨trivial, ?_⟩
            have g6 := gd h6
            go_simp
            exact Went6.same (HKR.out _ _) hS rfl
          refine EachOp.cons ?_ ?_
          · intro L a u hL hst hS hdep hq hno
            have h62 : a.tmps.getD 62 undef = .pointer (some ⟨t6, 1, none⟩) := hdep 62 (by kernel_rfl)
            refine .inl ⟨trivial, ?_⟩
            have g62 := gd h62
            have hB : Below wo.heap.size wo u := hS
            have m6 := (H8.out.next hB).at_ (.head _)
            obtain ⟨y1, _⟩ := cellsAt m6 1 (v := .int .i64 x.nd) rfl
            clear m6
            go_simp
            exact Went6.same (HKR.out _ _) hS rfl
          refine EachOp.cons ?_ ?_
          · intro L a u hL hst hS hdep hq hno
            have h63 : a.tmps.getD 63 undef = .int .i64 x.nd := hdep 63 (by kernel_rfl)
            refine .inl ⟨trivial, ?_⟩
            have g63 := gd h63
            go_simp
            have hB : Below wo.heap.size wo u := hS
            refine (HOF.out u).mono ?_
            rintro e' u' ⟨rfl, rfl⟩
            exact Went6.next hS trivial rfl
          refine EachOp.cons ?_ ?_
          · intro L a u hL hst hS hdep hq hno
            have h61 : a.tmps.getD 61 undef = .slice (some ⟨gb, 0, none⟩) 3 3 := hdep 61 (by kernel_rfl)
            have h64 : a.tmps.getD 64 undef = .int .i64 (i : Nat) := hdep 64 (by kernel_rfl)
            refine .inl ⟨trivial, ?_⟩
            have g61 := gd h61
            have g64 := gd h64
            have hi0 : (0 : Int) ≤ (i : Int) := by omega
            have hi1 : (i : Int) < 3 := by omega
            go_simp
            exact Went6.same (HKR.out _ _) hS rfl
          refine EachOp.cons ?_ ?_
          · intro L a u hL hst hS hdep hq hno
            have h65 : a.tmps.getD 65 undef = .pointer (some ⟨gb, i, none⟩) := hdep 65 (by kernel_rfl)
            refine .inl ⟨trivial, ?_⟩
            have g65 := gd h65
            have hB : Below wo.heap.size wo u := hS
            have yy : u.cell? ⟨gb, i, none⟩ = some (.pointer (some ⟨bb i, 0, none⟩)) := (H8.out.next hB).ptr (.tail _ (.head _)) hi3
            go_simp
            exact Went6.same (HKR.out _ _) hS rfl
          refine EachOp.cons ?_ ?_
          · intro L a u hL hst hS hdep hq hno
            have h60 : a.tmps.getD 60 undef = .pointer (some ⟨ba i, 0, none⟩) := hdep 60 (by kernel_rfl)
            refine .inl ⟨trivial, ?_⟩
            have g60 := gd h60
            go_simp
            exact Went6.same (HKR.out _ _) hS rfl
          refine EachOp.cons ?_ ?_
          · intro L a u hL hst hS hdep hq hno
            have h66 : a.tmps.getD 66 undef = .pointer (some ⟨bb i, 0, none⟩) := hdep 66 (by kernel_rfl)
            refine .inl ⟨trivial, ?_⟩
            have g66 := gd h66
            go_simp
            exact Went6.same (HKR.out _ _) hS rfl
          exact EachOp.nil
        · intro L a u hLs hst hS hdep
          have h55 : a.tmps.getD 55 undef = .slice (some ⟨ga, 0, none⟩) 3 3 := hdep 55 (by kernel_rfl)
          have h56 : a.tmps.getD 56 undef = .pointer (some ⟨t6, 1, none⟩) := hdep 56 (by kernel_rfl)
          have h57 : a.tmps.getD 57 undef = .int .i64 x.nd := hdep 57 (by kernel_rfl)
          have h58 : a.tmps.getD 58 undef = .int .i64 (i : Nat) := hdep 58 (by kernel_rfl)
          have h59 : a.tmps.getD 59 undef = .pointer (some ⟨ga, i, none⟩) := hdep 59 (by kernel_rfl)
          have h60 : a.tmps.getD 60 undef = .pointer (some ⟨ba i, 0, none⟩) := hdep 60 (by kernel_rfl)
          have h61 : a.tmps.getD 61 undef = .slice (some ⟨gb, 0, none⟩) 3 3 := hdep 61 (by kernel_rfl)
          have h62 : a.tmps.getD 62 undef = .pointer (some ⟨t6, 1, none⟩) := hdep 62 (by kernel_rfl)
          have h63 : a.tmps.getD 63 undef = .int .i64 x.nd := hdep 63 (by kernel_rfl)
          have h64 : a.tmps.getD 64 undef = .int .i64 (i : Nat) := hdep 64 (by kernel_rfl)
          have h65 : a.tmps.getD 65 undef = .pointer (some ⟨gb, i, none⟩) := hdep 65 (by kernel_rfl)
          have h66 : a.tmps.getD 66 undef = .pointer (some ⟨bb i, 0, none⟩) := hdep 66 (by kernel_rfl)
          have h9 : a.tmps.getD 9 undef = .pointer (some ⟨ba i, 0, none⟩) := hdep 9 (by kernel_rfl)
          have h10 : a.tmps.getD 10 undef = .pointer (some ⟨bb i, 0, none⟩) := hdep 10 (by kernel_rfl)
          have hfr := hst.frame [(55, .slice (some ⟨ga, 0, none⟩) 3 3), (56, .pointer (some ⟨t6, 1, none⟩)), (57, .int .i64 x.nd), (58, .int .i64 (i : Nat)), (59, .pointer (some ⟨ga, i, none⟩)), (60, .pointer (some ⟨ba i, 0, none⟩)), (61, .slice (some ⟨gb, 0, none⟩) 3 3), (62, .pointer (some ⟨t6, 1, none⟩)), (63, .int .i64 x.nd), (64, .int .i64 (i : Nat)), (65, .pointer (some ⟨gb, i, none⟩)), (66, .pointer (some ⟨bb i, 0, none⟩)), (9, .pointer (some ⟨ba i, 0, none⟩)), (10, .pointer (some ⟨bb i, 0, none⟩))] (by kernel_rfl) ⟨h55, h56, h57, h58, h59, h60, h61, h62, h63, h64, h65, h66, h9, h10, trivial⟩
          clear hst hdep h55 h56 h57 h58 h59 h60 h61 h62 h63 h64 h65 h66 h9 h10
          subst hfr
          simp only [List.foldl_cons, List.foldl_nil, List.setIfInBounds_toArray, List.set_cons_zero, List.set_cons_succ]
          have H9 := Lib.hid (H8.out.next (show Below wo.heap.size wo u from hS))
          clear hS hLs H8 HOF HKR
          obtain ⟨w13, hw13⟩ : ∃ z, u.alloc (.cells #[] 49) = z := ⟨_, rfl⟩
          obtain ⟨g0, hg0⟩ : ∃ z, u.heap.size = z := ⟨_, rfl⟩
          have H10 := Lib.hid (H9.out.mark _ hw13 hg0)
          have HW13 := Lib.hid hw13
          have HG0 := Lib.hid hg0
          obtain ⟨tab, htab⟩ : ∃ z, tabN (R.2 i).lg [] = z := ⟨_, rfl⟩
          have HTB := Lib.hid htab
          have htl := tabN_len (R.2 i).lg []
          rw [htab] at htl
          have hlg := (HIN.out i).lg
          have HTL : Hid (tab.length ≤ 200) := Lib.hid (by simp at htl; omega)
          have HTA := Lib.hid (H10.out.table HC.out HLW.out hi3 (HIN.out i))
          rw [htab] at HTA
          clear hw13 hg0 htab htl hlg H9
          go_wp2_with fail
          rw [HW13.out, HG0.out]
          refine HTA.out.mono ?_
          rintro e' w14 ⟨⟨At, mt, dt, rfl, hkt⟩, h11⟩
          have HKT := Lib.hid hkt
          have H11 := Lib.hid h11
          have hmt : mt ≤ 200 := by rw [← hkt.len]; exact HTL.out
          clear hkt h11 HTA H10 HW13 HG0
          go_wp2_with fail
          obtain ⟨wp, hwp⟩ : ∃ z, z = wr := ⟨wr, rfl⟩
          subst hwp
          have HL0 : Hid ((0 = 0 ∧ (some ⟨g0, 0, none⟩ : Option Addr) = some ⟨g0, 0, none⟩ ∧ 0 = 0) ∨ (0 < 0 ∧ w14.ownsRow w14.heap.size 49 2 (.slice (some ⟨g0, 0, none⟩) 0 0) 0 (kvC (tab.take 0)))) := Lib.hid (.inl ⟨rfl, rfl, rfl⟩)
          have HLB : Hid (Below w14.heap.size w14 w14) := Lib.hid (Below.refl _ _)
          go_loopw [11, 71] (fun o j wr => ∃ (q e : Nat) (D : Option Addr), q ≤ mt ∧ j = .int .i64 q ∧ o = .slice D q e ∧ Hid ((q = 0 ∧ D = some ⟨g0, 0, none⟩ ∧ e = 0) ∨ (0 < q ∧ wr.ownsRow w14.heap.size 49 2 (.slice D q e) q (kvC (tab.take q)))) ∧ Hid (Below w14.heap.size w14 wr)) (fun _ j _ => mt - (intOf j).toNat)
          case atStart => exact ⟨0, 0, _, Nat.zero_le _, rfl, rfl, HL0, HLB⟩
          case round =>
            obtain ⟨q, e0, D, hq, rfl, rfl, ho, hb⟩ := hrel
            clear HL0 HLB
            by_cases hql : q < mt
            · have hqt : q < tab.length := by rw [HKT.out.len]; exact hql
              obtain ⟨ad2, rfl, _, hcc⟩ := HKT.out.at_ hqt
              obtain ⟨d1, d2⟩ := hcc wr hb.out
              have HNX : Hid (kvC (tab.take (q + 1)) = kvC (tab.take q) ++ [.string tab[q].k, .string tab[q].v]) := Lib.hid (kvC_next tab q hqt)
              clear hcc
              generalize tab[q].k = kk at *
              generalize tab[q].v = vv at *
              have KA := Lib.hid (kp_alloc (kp_alloc hb.out (.cells #[.string kk, .string vv] 48)) (.cells #[.string kk, .string vv] 49))
              have HSRC : Hid (Rd ((wr.alloc (.cells #[.string kk, .string vv] 48)).alloc (.cells #[.string kk, .string vv] 49)) (wr.heap.size + 1 + 1) (some ⟨wr.heap.size + 1, 0, none⟩) [.string kk, .string vv]) := Lib.hid (by
                have := Rd.new (wr.alloc (.cells #[.string kk, .string vv] 48)) 49 [.string kk, .string vv]
                rwa [World.size_alloc] at this)
              have HSW := Lib.hid KA.out.size
              rcases ho.out with ⟨rfl, rfl, rfl⟩ | ⟨hq0, hown⟩
              · have ha : ad2.add (0 * 2) = ad2 := by unfold Addr.add; rfl
                rw [ha] at d1 d2
                clear ha
                have hg : ((wr.alloc (.cells #[.string kk, .string vv] 48)).alloc (.cells #[.string kk, .string vv] 49)).heap[g0]? = some (.cells #[] 49 (0, 0)) := (KA.out.block g0 (Array.getElem?_eq_some_iff.1 (H11.out.at_ (.head _))).1).trans (H11.out.at_ (.head _))
                obtain ⟨c3, w3', hrun, hown3, hb3⟩ := run_append_first (P := Tryz.prog) (w := ((wr.alloc (.cells #[.string kk, .string vv] 48)).alloc (.cells #[.string kk, .string vv] 49))) 44 44 49 r0 _ 2 32 Tryz.underlying44 hr0 hrz0 hrz1 hrz2 rfl (by omega) g0 (own_zero hg) _ ⟨wr.heap.size + 1, 0, none⟩ 1 [.string kk, .string vv] rfl HSRC.out (by simp [Value.oneCell']) (by omega)
                have HRUN := Lib.hid hrun
                have hsz1 : ((wr.alloc (.cells #[.string kk, .string vv] 48)).alloc (.cells #[.string kk, .string vv] 49)).heap.size = wr.heap.size + 1 + 1 := by rw [World.size_alloc, World.size_alloc]
                have HO3 : Hid ((1 = 0 ∧ (some ⟨wr.heap.size + 1 + 1, 0, none⟩ : Option Addr) = some ⟨g0, 0, none⟩ ∧ c3 = 0) ∨ (0 < 1 ∧ w3'.ownsRow w14.heap.size 49 2 (.slice (some ⟨wr.heap.size + 1 + 1, 0, none⟩) 1 c3) 1 (kvC (tab.take 1)))) := Lib.hid (.inr ⟨by omega, by
                  have h3 := own_rebase hown3 HSW.out
                  rw [hsz1] at h3
                  have h4 : kvC (tab.take 1) = [.string kk, .string vv] := HNX.out
                  rw [h4]
                  exact h3⟩)
                have HK3 := Lib.hid (KA.out.trans (hb3.mono HSW.out))
                clear hg hrun hown3 hb3 ho hsz1
                go_wp2_with (at_builtin; refine wpList_append_run rfl _ _ _ rfl _ _ rfl rfl HRUN.out ?_)
                go_roundw
                case rel => exact ⟨1, c3, _, by omega, by go_num, rfl, HO3, HK3⟩
                case measure => simp [intOf]; omega
              · have HO1 := Lib.hid ((hown.alloc (.cells #[.string kk, .string vv] 48)).alloc (.cells #[.string kk, .string vv] 49))
                clear ho hown
                go_wp2_with (at_builtin; refine wpList_append_rds rfl _ _ _ rfl w14.heap.size 49 r0 _ 2 32 Tryz.underlying44 hr0 hrz0 hrz1 hrz2 rfl (by omega) _ q _ rfl HO1.out _ _ 1 _ [.string kk, .string vv] rfl rfl HSRC.out (by simp [Value.oneCell']) (by unfold maxLen; omega) (by omega) HSW.out ?_; intro v3 w3' hown3 hg3; obtain ⟨D3, e3, rfl, _, _⟩ := own_form_s hown3; have HO3 : Hid ((q + 1 = 0 ∧ D3 = some ⟨g0, 0, none⟩ ∧ e3 = 0) ∨ (0 < q + 1 ∧ w3'.ownsRow w14.heap.size 49 2 (.slice D3 (q + 1) e3) (q + 1) (kvC (tab.take (q + 1))))) := Lib.hid (.inr ⟨by omega, by rw [HNX.out]; exact hown3⟩); have HK3 := Lib.hid (KA.out.trans (below_own_s HO1.out hg3 HSW.out)); clear hown3 hg3)
                go_roundw
                case rel => exact ⟨q + 1, e3, D3, by omega, by go_num, rfl, HO3, HK3⟩
                case measure => simp [intOf]; omega
            · obtain rfl : q = mt := by omega
              obtain ⟨l', hst', hkl⟩ : ∃ l', St15 W (Tri X ba R.2) (Tri RN bb R.2) [(ga, ba), (gb, bb)] l' [] [] wr ∧ ∀ z, (∀ q ∈ l', z.heap[q.1]? = some q.2) → KR z D q tab := by
                rcases ho.out with ⟨rfl, rfl, rfl⟩ | ⟨_, hown⟩
                · have ht : tab = [] := List.eq_nil_of_length_eq_zero HKT.out.len
                  exact ⟨_, H11.out.next hb.out, fun z _ => ⟨by rw [ht]; rfl, .inl (by rw [ht]; rfl)⟩⟩
                · rw [List.take_of_length_le (by rw [HKT.out.len]; exact Nat.le_refl _)] at hown
                  obtain ⟨l', h1, _, h3⟩ := H11.out.krow hb.out hown
                  exact ⟨l', h1, h3⟩
              obtain ⟨AL, nl, cl, v3, hpin⟩ := hst'.pin hi3
              obtain ⟨wo, hwo⟩ : ∃ z, z = wr := ⟨wr, rfl⟩
              subst hwo
              obtain ⟨lt, hlt'⟩ : ∃ z, z = l' := ⟨l', rfl⟩
              subst hlt'
              obtain ⟨Dt, hDt⟩ : ∃ z, z = D := ⟨D, rfl⟩
              subst hDt
              obtain ⟨et, het⟩ : ∃ z, z = e0 := ⟨e0, rfl⟩
              subst het
              obtain ⟨mt, hmt'⟩ : ∃ z, z = q := ⟨q, rfl⟩
              subst hmt'
              obtain ⟨ep, hep⟩ : ∃ z, (R.2 i).ep = z := ⟨_, rfl⟩
              obtain ⟨ldv, hld⟩ : ∃ z, (R.2 i).ld = z := ⟨_, rfl⟩
              have HVep := Lib.hid hep
              have HVld := Lib.hid hld
              have HST := Lib.hid hpin
              have HKL := Lib.hid hkl
              have HKR : Hid (∀ (i : Nat) (u : World), KeepT i u u) := Lib.hid fun _ _ => trivial
              clear hst' hkl hpin hep hld ho hb H11 HKT HTL
              go_wp2_with fail
              refine wp_region_specs7 (S := SD19 W (Tri X ba R.2) (TP bb R.2 i AL nl cl v3) [(ga, ba), (gb, bb)] lt (R.2 i).lg tab) (Kp := KeepT) (Sp := [(80, Stl.eq (.pointer (some ⟨ba i, 0, none⟩))), (81, Stl.eq (.int .u64 ep)), (82, Stl.eq (.pointer (some ⟨bb i, 0, none⟩))), (83, Stl.eq (.pointer (some ⟨bb i, 0, none⟩))), (84, Stl.eq (.pointer (some ⟨bb i, 0, none⟩))), (85, Stl.eq (.int .u64 ep)), (86, Stl.eq (.bool false)), (87, Stl.eq (.bool false)), (88, Stl.eq (.pointer (some ⟨ba i, 0, none⟩))), (89, Stl.eq (.bool ldv)), (90, Stl.eq (.pointer (some ⟨bb i, 0, none⟩))), (91, Stl.eq (.pointer (some ⟨bb i, 0, none⟩))), (92, Stl.eq (.pointer (some ⟨bb i, 1, none⟩))), (93, Stl.eq (.bool ldv)), (94, Stl.eq (.bool false)), (95, Stl.eq (.bool false)), (96, Stl.eq (.bool false)), (97, Stl.eq (.pointer (some ⟨ba i, 0, none⟩))), (98, slSr), (99, slSr), (100, Stl.eq (.pointer (some ⟨bb i, 0, none⟩))), (101, Stl.eq (.pointer (some ⟨bb i, 0, none⟩))), (102, Stl.eq (.pointer (some ⟨bb i, 2, none⟩))), (103, Stl.eq (.slice AL nl cl)), (104, Stl.eq (.bool true)), (105, Stl.eq (.bool false)), (106, Stl.eq (.bool false)), (107, Stl.eq (.bool false)), (108, Stl.eq (.slice Dt mt et)), (109, Stl.eq (.pointer (some ⟨bb i, 0, none⟩))), (110, slSr), (111, Stl.eq (.bool true)), (112, Stl.eq (.bool false)), (113, Stl.eq (.bool false))]) (by kernel_rfl) (by kernel_rfl) ((by unfold SD19; exact HST.out.next (kp_drewN _ 1))) ?_ ?_
              · refine EachOp.cons ?_ ?_
                · intro L a u hL hst hS hdep hq hno
                  have h9 : a.tmps.getD 9 undef = .pointer (some ⟨ba i, 0, none⟩) := hst.out 9 (by kernel_rfl)
                  refine .inl ⟨trivial, ?_⟩
                  have g9 := gd h9
                  go_simp
                  exact Went7.same (HKR.out _ _) (by have h := hS; unfold SD19 at h ⊢; rw [slots_ne (d := 80) (t := 98) rfl, slots_ne (d := 80) (t := 99) rfl, slots_ne (d := 80) (t := 110) rfl]; exact h) rfl
                refine EachOp.cons ?_ ?_
                · intro L a u hL hst hS hdep hq hno
                  have h80 : a.tmps.getD 80 undef = .pointer (some ⟨ba i, 0, none⟩) := hdep 80 (by kernel_rfl)
                  refine .inl ⟨trivial, ?_⟩
                  have g80 := gd h80
                  go_simp
                  have c31 : L 31 = false := hno 12 31 (by kernel_rfl)
                  have c30 : L 30 = false := hno 12 30 (by kernel_rfl)
                  have c24 : L 24 = false := hno 12 24 (by kernel_rfl)
                  have c19 : L 19 = false := hno 12 19 (by kernel_rfl)
                  have c18 : L 18 = false := hno 12 18 (by kernel_rfl)
                  have hs0 := hS
                  unfold SD19 at hs0
                  simp only [c31, c30, c24, c19, c18, cond_false] at hs0
                  have hk := hs0.ep HC.out hi3 (HIN.out i)
                  rw [HVep.out] at hk
                  refine hk.mono ?_
                  rintro e' u' ⟨rfl, hs'⟩
                  refine Went7.next ?_ trivial rfl
                  have d31 : doneB L 1 31 = false := c31
                  have d30 : doneB L 1 30 = false := c30
                  have d24 : doneB L 1 24 = false := c24
                  have d19 : doneB L 1 19 = false := c19
                  have d18 : doneB L 1 18 = false := c18
                  unfold SD19
                  simp only [d31, d30, d24, d19, d18, cond_false]
                  exact hs'
                refine EachOp.cons ?_ ?_
                · intro L a u hL hst hS hdep hq hno
                  have h10 : a.tmps.getD 10 undef = .pointer (some ⟨bb i, 0, none⟩) := hst.out 10 (by kernel_rfl)
                  refine .inl ⟨trivial, ?_⟩
                  have g10 := gd h10
                  go_simp
                  exact Went7.same (HKR.out _ _) (by have h := hS; unfold SD19 at h ⊢; rw [slots_ne (d := 82) (t := 98) rfl, slots_ne (d := 82) (t := 99) rfl, slots_ne (d := 82) (t := 110) rfl]; exact h) rfl
                refine EachOp.cons ?_ ?_
                · intro L a u hL hst hS hdep hq hno
                  have h82 : a.tmps.getD 82 undef = .pointer (some ⟨bb i, 0, none⟩) := hdep 82 (by kernel_rfl)
                  refine .inl ⟨trivial, ?_⟩
                  have g82 := gd h82
                  go_simp
                  exact Went7.same (HKR.out _ _) (by have h := hS; unfold SD19 at h ⊢; rw [slots_ne (d := 83) (t := 98) rfl, slots_ne (d := 83) (t := 99) rfl, slots_ne (d := 83) (t := 110) rfl]; exact h) rfl
                refine EachOp.cons ?_ ?_
                · intro L a u hL hst hS hdep hq hno
                  have h83 : a.tmps.getD 83 undef = .pointer (some ⟨bb i, 0, none⟩) := hdep 83 (by kernel_rfl)
                  refine .inl ⟨trivial, ?_⟩
                  have g83 := gd h83
                  go_simp
                  exact Went7.same (HKR.out _ _) (by have h := hS; unfold SD19 at h ⊢; rw [slots_ne (d := 84) (t := 98) rfl, slots_ne (d := 84) (t := 99) rfl, slots_ne (d := 84) (t := 110) rfl]; exact h) rfl
                refine EachOp.cons ?_ ?_
                · intro L a u hL hst hS hdep hq hno
                  have h84 : a.tmps.getD 84 undef = .pointer (some ⟨bb i, 0, none⟩) := hdep 84 (by kernel_rfl)
                  refine .inl ⟨trivial, ?_⟩
                  have g84 := gd h84
                  have mb := hS.st.pinned.1
                  obtain ⟨yy, _⟩ := cellsAt mb 0 (v := .int .u64 (R.2 i).ep) rfl
                  clear mb
                  rw [HVep.out] at yy
                  go_simp
                  exact Went7.same (HKR.out _ _) (by have h := hS; unfold SD19 at h ⊢; rw [slots_ne (d := 85) (t := 98) rfl, slots_ne (d := 85) (t := 99) rfl, slots_ne (d := 85) (t := 110) rfl]; exact h) rfl
                refine EachOp.cons ?_ ?_
                · intro L a u hL hst hS hdep hq hno
                  have h81 : a.tmps.getD 81 undef = .int .u64 ep := hdep 81 (by kernel_rfl)
                  have h85 : a.tmps.getD 85 undef = .int .u64 ep := hdep 85 (by kernel_rfl)
                  refine .inl ⟨trivial, ?_⟩
                  have g81 := gd h81
                  have g85 := gd h85
                  go_simp
                  exact Went7.same (HKR.out _ _) (by have h := hS; unfold SD19 at h ⊢; rw [slots_ne (d := 86) (t := 98) rfl, slots_ne (d := 86) (t := 99) rfl, slots_ne (d := 86) (t := 110) rfl]; exact h) rfl
                refine EachOp.cons ?_ ?_
                · intro L a u hL hst hS hdep hq hno
                  have h86 : a.tmps.getD 86 undef = .bool false := hdep 86 (by kernel_rfl)
                  refine .inl ⟨trivial, ?_⟩
                  have g86 := gd h86
                  go_simp
                  exact Went7.same (HKR.out _ _) (by have h := hS; unfold SD19 at h ⊢; rw [slots_ne (d := 87) (t := 98) rfl, slots_ne (d := 87) (t := 99) rfl, slots_ne (d := 87) (t := 110) rfl]; exact h) rfl
                refine EachOp.cons ?_ ?_
                · intro L a u hL hst hS hdep hq hno
                  have h9 : a.tmps.getD 9 undef = .pointer (some ⟨ba i, 0, none⟩) := hst.out 9 (by kernel_rfl)
                  have h87 : a.tmps.getD 87 undef = .bool false := hdep 87 (by kernel_rfl)
                  refine .inl ⟨⟨87, by kernel_rfl, h87⟩, ?_⟩
                  clear h87
                  have g9 := gd h9
                  go_simp
                  exact Went7.same (HKR.out _ _) (by have h := hS; unfold SD19 at h ⊢; rw [slots_ne (d := 88) (t := 98) rfl, slots_ne (d := 88) (t := 99) rfl, slots_ne (d := 88) (t := 110) rfl]; exact h) rfl
                refine EachOp.cons ?_ ?_
                · intro L a u hL hst hS hdep hq hno
                  have h88 : a.tmps.getD 88 undef = .pointer (some ⟨ba i, 0, none⟩) := hdep 88 (by kernel_rfl)
                  have h87 : a.tmps.getD 87 undef = .bool false := hdep 87 (by kernel_rfl)
                  refine .inl ⟨⟨87, by kernel_rfl, h87⟩, ?_⟩
                  clear h87
                  have g88 := gd h88
                  go_simp
                  have c31 : L 31 = false := hno 12 31 (by kernel_rfl)
                  have c30 : L 30 = false := hno 12 30 (by kernel_rfl)
                  have c24 : L 24 = false := hno 12 24 (by kernel_rfl)
                  have c19 : L 19 = false := hno 12 19 (by kernel_rfl)
                  have c18 : L 18 = false := hno 12 18 (by kernel_rfl)
                  have hs0 := hS
                  unfold SD19 at hs0
                  simp only [c31, c30, c24, c19, c18, cond_false] at hs0
                  have hk := hs0.ld HC.out hi3 (HIN.out i)
                  rw [HVld.out] at hk
                  refine hk.mono ?_
                  rintro e' u' ⟨rfl, hs'⟩
                  refine Went7.next ?_ trivial rfl
                  have d31 : doneB L 9 31 = false := c31
                  have d30 : doneB L 9 30 = false := c30
                  have d24 : doneB L 9 24 = false := c24
                  have d19 : doneB L 9 19 = false := c19
                  have d18 : doneB L 9 18 = false := c18
                  unfold SD19
                  simp only [d31, d30, d24, d19, d18, cond_false]
                  exact hs'
                refine EachOp.cons ?_ ?_
                · intro L a u hL hst hS hdep hq hno
                  have h10 : a.tmps.getD 10 undef = .pointer (some ⟨bb i, 0, none⟩) := hst.out 10 (by kernel_rfl)
                  have h87 : a.tmps.getD 87 undef = .bool false := hdep 87 (by kernel_rfl)
                  refine .inl ⟨⟨87, by kernel_rfl, h87⟩, ?_⟩
                  clear h87
                  have g10 := gd h10
                  go_simp
                  exact Went7.same (HKR.out _ _) (by have h := hS; unfold SD19 at h ⊢; rw [slots_ne (d := 90) (t := 98) rfl, slots_ne (d := 90) (t := 99) rfl, slots_ne (d := 90) (t := 110) rfl]; exact h) rfl
                refine EachOp.cons ?_ ?_
                · intro L a u hL hst hS hdep hq hno
                  have h90 : a.tmps.getD 90 undef = .pointer (some ⟨bb i, 0, none⟩) := hdep 90 (by kernel_rfl)
                  have h87 : a.tmps.getD 87 undef = .bool false := hdep 87 (by kernel_rfl)
                  refine .inl ⟨⟨87, by kernel_rfl, h87⟩, ?_⟩
                  clear h87
                  have g90 := gd h90
                  go_simp
                  exact Went7.same (HKR.out _ _) (by have h := hS; unfold SD19 at h ⊢; rw [slots_ne (d := 91) (t := 98) rfl, slots_ne (d := 91) (t := 99) rfl, slots_ne (d := 91) (t := 110) rfl]; exact h) rfl
                refine EachOp.cons ?_ ?_
                · intro L a u hL hst hS hdep hq hno
                  have h91 : a.tmps.getD 91 undef = .pointer (some ⟨bb i, 0, none⟩) := hdep 91 (by kernel_rfl)
                  have h87 : a.tmps.getD 87 undef = .bool false := hdep 87 (by kernel_rfl)
                  refine .inl ⟨⟨87, by kernel_rfl, h87⟩, ?_⟩
                  clear h87
                  have g91 := gd h91
                  go_simp
                  exact Went7.same (HKR.out _ _) (by have h := hS; unfold SD19 at h ⊢; rw [slots_ne (d := 92) (t := 98) rfl, slots_ne (d := 92) (t := 99) rfl, slots_ne (d := 92) (t := 110) rfl]; exact h) rfl
                refine EachOp.cons ?_ ?_
                · intro L a u hL hst hS hdep hq hno
                  have h92 : a.tmps.getD 92 undef = .pointer (some ⟨bb i, 1, none⟩) := hdep 92 (by kernel_rfl)
                  have h87 : a.tmps.getD 87 undef = .bool false := hdep 87 (by kernel_rfl)
                  refine .inl ⟨⟨87, by kernel_rfl, h87⟩, ?_⟩
                  clear h87
                  have g92 := gd h92
                  have mb := hS.st.pinned.1
                  obtain ⟨yy, _⟩ := cellsAt mb 1 (v := .bool (R.2 i).ld) rfl
                  clear mb
                  rw [HVld.out] at yy
                  go_simp
                  exact Went7.same (HKR.out _ _) (by have h := hS; unfold SD19 at h ⊢; rw [slots_ne (d := 93) (t := 98) rfl, slots_ne (d := 93) (t := 99) rfl, slots_ne (d := 93) (t := 110) rfl]; exact h) rfl
                refine EachOp.cons ?_ ?_
                · intro L a u hL hst hS hdep hq hno
                  have h89 : a.tmps.getD 89 undef = .bool ldv := hdep 89 (by kernel_rfl)
                  have h93 : a.tmps.getD 93 undef = .bool ldv := hdep 93 (by kernel_rfl)
                  have h87 : a.tmps.getD 87 undef = .bool false := hdep 87 (by kernel_rfl)
                  refine .inl ⟨⟨87, by kernel_rfl, h87⟩, ?_⟩
                  clear h87
                  have g89 := gd h89
                  have g93 := gd h93
                  go_simp
                  exact Went7.same (HKR.out _ _) (by have h := hS; unfold SD19 at h ⊢; rw [slots_ne (d := 94) (t := 98) rfl, slots_ne (d := 94) (t := 99) rfl, slots_ne (d := 94) (t := 110) rfl]; exact h) rfl
                refine EachOp.cons ?_ ?_
                · intro L a u hL hst hS hdep hq hno
                  have h87 : a.tmps.getD 87 undef = .bool false := hdep 87 (by kernel_rfl)
                  have h94 : a.tmps.getD 94 undef = .bool false := hdep 94 (by kernel_rfl)
                  refine .inl ⟨trivial, ?_⟩
                  have g87 := gd h87
                  have g94 := gd h94
                  go_simp
                  exact Went7.same (HKR.out _ _) (by have h := hS; unfold SD19 at h ⊢; rw [slots_ne (d := 95) (t := 98) rfl, slots_ne (d := 95) (t := 99) rfl, slots_ne (d := 95) (t := 110) rfl]; exact h) rfl
                refine EachOp.cons ?_ ?_
                · intro L a u hL hst hS hdep hq hno
                  have h95 : a.tmps.getD 95 undef = .bool false := hdep 95 (by kernel_rfl)
                  refine .inl ⟨trivial, ?_⟩
                  have g95 := gd h95
                  go_simp
                  exact Went7.same (HKR.out _ _) (by have h := hS; unfold SD19 at h ⊢; rw [slots_ne (d := 96) (t := 98) rfl, slots_ne (d := 96) (t := 99) rfl, slots_ne (d := 96) (t := 110) rfl]; exact h) rfl
                refine EachOp.cons ?_ ?_
                · intro L a u hL hst hS hdep hq hno
                  have h9 : a.tmps.getD 9 undef = .pointer (some ⟨ba i, 0, none⟩) := hst.out 9 (by kernel_rfl)
                  have h96 : a.tmps.getD 96 undef = .bool false := hdep 96 (by kernel_rfl)
                  refine .inl ⟨⟨96, by kernel_rfl, h96⟩, ?_⟩
                  clear h96
                  have g9 := gd h9
                  go_simp
                  exact Went7.same (HKR.out _ _) (by have h := hS; unfold SD19 at h ⊢; rw [slots_ne (d := 97) (t := 98) rfl, slots_ne (d := 97) (t := 99) rfl, slots_ne (d := 97) (t := 110) rfl]; exact h) rfl
                refine EachOp.cons ?_ ?_
                · intro L a u hL hst hS hdep hq hno
                  have h97 : a.tmps.getD 97 undef = .pointer (some ⟨ba i, 0, none⟩) := hdep 97 (by kernel_rfl)
                  have h96 : a.tmps.getD 96 undef = .bool false := hdep 96 (by kernel_rfl)
                  refine .inl ⟨⟨96, by kernel_rfl, h96⟩, ?_⟩
                  clear h96
                  have g97 := gd h97
                  go_simp
                  have c31 : L 31 = false := hno 12 31 (by kernel_rfl)
                  have c30 : L 30 = false := hno 12 30 (by kernel_rfl)
                  have c24 : L 24 = false := hno 12 24 (by kernel_rfl)
                  have c19 : L 19 = false := hno 12 19 (by kernel_rfl)
                  have c18 : L 18 = false := hL
                  have hs0 := hS
                  unfold SD19 at hs0
                  simp only [c31, c30, c24, c19, c18, cond_false] at hs0
                  refine (hs0.log HC.out hi3 (HIN.out i)).mono ?_
                  rintro e' u' ⟨A, m, d, ⟨rfl, _⟩, h2⟩
                  refine Went7.next ?_ trivial ⟨A, m, d, rfl⟩
                  have d31 : doneB L 18 31 = false := c31
                  have d30 : doneB L 18 30 = false := c30
                  have d24 : doneB L 18 24 = false := c24
                  have d19 : doneB L 18 19 = false := c19
                  have d18 : doneB L 18 18 = true := done_same
                  have hsz : 98 < a.tmps.size := by rw [hst.size]; exact Nat.le_of_ble_eq_true (by kernel_rfl)
                  unfold SD19
                  simp only [d31, d30, d24, d19, d18, cond_true, cond_false]
                  exact ⟨A, m, d, slots_eq hsz, h2⟩
                refine EachOp.cons ?_ ?_
                · intro L a u hL hst hS hdep hq hno
                  obtain ⟨A98, m98, d98, h98⟩ := hdep 98 (by kernel_rfl)
                  have h96 : a.tmps.getD 96 undef = .bool false := hdep 96 (by kernel_rfl)
                  refine .inl ⟨⟨96, by kernel_rfl, h96⟩, ?_⟩
                  clear h96
                  have g98 := gd h98
                  go_simp
                  have c31 : L 31 = false := hno 12 31 (by kernel_rfl)
                  have c30 : L 30 = false := hno 12 30 (by kernel_rfl)
                  have c24 : L 24 = false := hno 12 24 (by kernel_rfl)
                  have c19 : L 19 = false := hL
                  have c18 : L 18 = true := hq 12 18 (by kernel_rfl)
                  have hs0 := hS
                  unfold SD19 at hs0
                  simp only [c31, c30, c24, c19, c18, cond_true, cond_false] at hs0
                  obtain ⟨A, m, d, ht, hs1⟩ := hs0
                  have hv98 : Value.slice A98 m98 d98 = .slice A m d := h98.symm.trans ht
                  injection hv98 with e1 e2 e3
                  subst e1 e2 e3
                  have hlr := hs1.lr (.head _)
                  have hm : m98 ≤ 1000 := by have h1 : (R.2 i).lg.length = m98 := hlr.len; have h2 := (HIN.out i).lg; omega
                  refine (lentries_new _ m98 d98 _ u hlr hm).mono ?_
                  rintro e' u' ⟨A', c', rfl, hl, hn, hb⟩
                  have h2 := (hs1.row hb hl hn).less (rs' := [(A', m98, (R.2 i).lg)]) (fun _ h => h) (fun _ h => h) (fun q h => by rw [List.mem_singleton.1 h]; exact .head _) fun _ h => h
                  refine Went7.next ?_ trivial ⟨A', m98, c', rfl⟩
                  have d31 : doneB L 19 31 = false := c31
                  have d30 : doneB L 19 30 = false := c30
                  have d24 : doneB L 19 24 = false := c24
                  have d19 : doneB L 19 19 = true := done_same
                  have hsz : 99 < a.tmps.size := by rw [hst.size]; exact Nat.le_of_ble_eq_true (by kernel_rfl)
                  unfold SD19
                  simp only [d31, d30, d24, d19, cond_true, cond_false]
                  exact ⟨A', m98, c', slots_eq hsz, h2⟩
                refine EachOp.cons ?_ ?_
                · intro L a u hL hst hS hdep hq hno
                  have h10 : a.tmps.getD 10 undef = .pointer (some ⟨bb i, 0, none⟩) := hst.out 10 (by kernel_rfl)
                  have h96 : a.tmps.getD 96 undef = .bool false := hdep 96 (by kernel_rfl)
                  refine .inl ⟨⟨96, by kernel_rfl, h96⟩, ?_⟩
                  clear h96
                  have g10 := gd h10
                  go_simp
                  exact Went7.same (HKR.out _ _) (by have h := hS; unfold SD19 at h ⊢; rw [slots_ne (d := 100) (t := 98) rfl, slots_ne (d := 100) (t := 99) rfl, slots_ne (d := 100) (t := 110) rfl]; exact h) rfl
                refine EachOp.cons ?_ ?_
                · intro L a u hL hst hS hdep hq hno
                  have h100 : a.tmps.getD 100 undef = .pointer (some ⟨bb i, 0, none⟩) := hdep 100 (by kernel_rfl)
                  have h96 : a.tmps.getD 96 undef = .bool false := hdep 96 (by kernel_rfl)
                  refine .inl ⟨⟨96, by kernel_rfl, h96⟩, ?_⟩
                  clear h96
                  have g100 := gd h100
                  go_simp
                  exact Went7.same (HKR.out _ _) (by have h := hS; unfold SD19 at h ⊢; rw [slots_ne (d := 101) (t := 98) rfl, slots_ne (d := 101) (t := 99) rfl, slots_ne (d := 101) (t := 110) rfl]; exact h) rfl
                refine EachOp.cons ?_ ?_
                · intro L a u hL hst hS hdep hq hno
                  have h101 : a.tmps.getD 101 undef = .pointer (some ⟨bb i, 0, none⟩) := hdep 101 (by kernel_rfl)
                  have h96 : a.tmps.getD 96 undef = .bool false := hdep 96 (by kernel_rfl)
                  refine .inl ⟨⟨96, by kernel_rfl, h96⟩, ?_⟩
                  clear h96
                  have g101 := gd h101
                  go_simp
                  exact Went7.same (HKR.out _ _) (by have h := hS; unfold SD19 at h ⊢; rw [slots_ne (d := 102) (t := 98) rfl, slots_ne (d := 102) (t := 99) rfl, slots_ne (d := 102) (t := 110) rfl]; exact h) rfl
                refine EachOp.cons ?_ ?_
                · intro L a u hL hst hS hdep hq hno
                  have h102 : a.tmps.getD 102 undef = .pointer (some ⟨bb i, 2, none⟩) := hdep 102 (by kernel_rfl)
                  have h96 : a.tmps.getD 96 undef = .bool false := hdep 96 (by kernel_rfl)
                  refine .inl ⟨⟨96, by kernel_rfl, h96⟩, ?_⟩
                  clear h96
                  have g102 := gd h102
                  have mb := hS.st.pinned.1
                  obtain ⟨yy, _⟩ := cellsAt mb 2 (v := .slice AL nl cl) rfl
                  clear mb
                  go_simp
                  exact Went7.same (HKR.out _ _) (by have h := hS; unfold SD19 at h ⊢; rw [slots_ne (d := 103) (t := 98) rfl, slots_ne (d := 103) (t := 99) rfl, slots_ne (d := 103) (t := 110) rfl]; exact h) rfl
                refine EachOp.cons ?_ ?_
                · intro L a u hL hst hS hdep hq hno
                  obtain ⟨A99, m99, d99, h99⟩ := hdep 99 (by kernel_rfl)
                  have h103 : a.tmps.getD 103 undef = .slice AL nl cl := hdep 103 (by kernel_rfl)
                  have h96 : a.tmps.getD 96 undef = .bool false := hdep 96 (by kernel_rfl)
                  refine .inl ⟨⟨96, by kernel_rfl, h96⟩, ?_⟩
                  clear h96
                  have g99 := gd h99
                  have g103 := gd h103
                  go_simp
                  have c31 : L 31 = false := hno 12 31 (by kernel_rfl)
                  have c30 : L 30 = false := hno 12 30 (by kernel_rfl)
                  have c24 : L 24 = false := hL
                  have c19 : L 19 = true := hq 12 19 (by kernel_rfl)
                  have hs0 := hS
                  unfold SD19 at hs0
                  simp only [c31, c30, c24, c19, cond_true, cond_false] at hs0
                  obtain ⟨A, m, d, ht, hs1⟩ := hs0
                  have hv99 : Value.slice A99 m99 d99 = .slice A m d := h99.symm.trans ht
                  injection hv99 with e1 e2 e3
                  subst e1 e2 e3
                  have hlr := hs1.lr (.head _)
                  have hm : m99 ≤ 1000000 := by have h1 : (R.2 i).lg.length = m99 := hlr.len; have h2 := (HIN.out i).lg; omega
                  have hpl := hs1.pinned.2
                  have hm2 : nl ≤ 1000000 := by have h1 : (R.2 i).lg.length = nl := hpl.len; have h2 := (HIN.out i).lg; omega
                  refine (rsame15_ok _ _ m99 nl d99 cl _ _ u hlr hpl hm hm2 true (Lib.hid (by simp))).mono ?_
                  rintro e' u' ⟨rfl, nn, hu'⟩
                  have h2 := (hs1.next (show Below u.heap.size u u' from hu' ▸ kp_drewN _ _)).less (rs' := []) (fun _ h => h) (fun _ h => h) (fun _ h => nomatch h) fun _ h => h
                  refine Went7.next ?_ trivial rfl
                  have d31 : doneB L 24 31 = false := c31
                  have d30 : doneB L 24 30 = false := c30
                  have d24 : doneB L 24 24 = true := done_same
                  unfold SD19
                  simp only [d31, d30, d24, cond_true, cond_false]
                  exact h2
                refine EachOp.cons ?_ ?_
                · intro L a u hL hst hS hdep hq hno
                  have h104 : a.tmps.getD 104 undef = .bool true := hdep 104 (by kernel_rfl)
                  have h96 : a.tmps.getD 96 undef = .bool false := hdep 96 (by kernel_rfl)
                  refine .inl ⟨⟨96, by kernel_rfl, h96⟩, ?_⟩
                  clear h96
                  have g104 := gd h104
                  go_simp
                  exact Went7.same (HKR.out _ _) (by have h := hS; unfold SD19 at h ⊢; rw [slots_ne (d := 105) (t := 98) rfl, slots_ne (d := 105) (t := 99) rfl, slots_ne (d := 105) (t := 110) rfl]; exact h) rfl
                refine EachOp.cons ?_ ?_
                · intro L a u hL hst hS hdep hq hno
                  have h96 : a.tmps.getD 96 undef = .bool false := hdep 96 (by kernel_rfl)
                  have h105 : a.tmps.getD 105 undef = .bool false := hdep 105 (by kernel_rfl)
                  refine .inl ⟨trivial, ?_⟩
                  have g96 := gd h96
                  have g105 := gd h105
                  go_simp
                  exact Went7.same (HKR.out _ _) (by have h := hS; unfold SD19 at h ⊢; rw [slots_ne (d := 106) (t := 98) rfl, slots_ne (d := 106) (t := 99) rfl, slots_ne (d := 106) (t := 110) rfl]; exact h) rfl
                refine EachOp.cons ?_ ?_
                · intro L a u hL hst hS hdep hq hno
                  have h106 : a.tmps.getD 106 undef = .bool false := hdep 106 (by kernel_rfl)
                  refine .inl ⟨trivial, ?_⟩
                  have g106 := gd h106
                  go_simp
                  exact Went7.same (HKR.out _ _) (by have h := hS; unfold SD19 at h ⊢; rw [slots_ne (d := 107) (t := 98) rfl, slots_ne (d := 107) (t := 99) rfl, slots_ne (d := 107) (t := 110) rfl]; exact h) rfl
                refine EachOp.cons ?_ ?_
                · intro L a u hL hst hS hdep hq hno
                  have h11 : a.tmps.getD 11 undef = .slice Dt mt et := hst.out 11 (by kernel_rfl)
                  have h107 : a.tmps.getD 107 undef = .bool false := hdep 107 (by kernel_rfl)
                  refine .inl ⟨⟨107, by kernel_rfl, h107⟩, ?_⟩
                  clear h107
                  have g11 := gd h11
                  go_simp
                  exact Went7.same (HKR.out _ _) (by have h := hS; unfold SD19 at h ⊢; rw [slots_ne (d := 108) (t := 98) rfl, slots_ne (d := 108) (t := 99) rfl, slots_ne (d := 108) (t := 110) rfl]; exact h) rfl
                refine EachOp.cons ?_ ?_
                · intro L a u hL hst hS hdep hq hno
                  have h10 : a.tmps.getD 10 undef = .pointer (some ⟨bb i, 0, none⟩) := hst.out 10 (by kernel_rfl)
                  have h107 : a.tmps.getD 107 undef = .bool false := hdep 107 (by kernel_rfl)
                  refine .inl ⟨⟨107, by kernel_rfl, h107⟩, ?_⟩
                  clear h107
                  have g10 := gd h10
                  go_simp
                  exact Went7.same (HKR.out _ _) (by have h := hS; unfold SD19 at h ⊢; rw [slots_ne (d := 109) (t := 98) rfl, slots_ne (d := 109) (t := 99) rfl, slots_ne (d := 109) (t := 110) rfl]; exact h) rfl
                refine EachOp.cons ?_ ?_
                · intro L a u hL hst hS hdep hq hno
                  have h109 : a.tmps.getD 109 undef = .pointer (some ⟨bb i, 0, none⟩) := hdep 109 (by kernel_rfl)
                  have h107 : a.tmps.getD 107 undef = .bool false := hdep 107 (by kernel_rfl)
                  refine .inl ⟨⟨107, by kernel_rfl, h107⟩, ?_⟩
                  clear h107
                  have g109 := gd h109
                  go_simp
                  have c31 : L 31 = false := hno 12 31 (by kernel_rfl)
                  have c30 : L 30 = false := hL
                  have c24 : L 24 = true := hq 12 24 (by kernel_rfl)
                  have hs0 := hS
                  unfold SD19 at hs0
                  simp only [c31, c30, c24, cond_true, cond_false] at hs0
                  have hk := hs0.rtable hi3 (HIN.out i)
                  rw [HTB.out] at hk
                  refine hk.mono ?_
                  rintro e' u' ⟨A, m, d, rfl, hkr, hb⟩
                  refine Went7.next ?_ trivial ⟨A, m, d, rfl⟩
                  have d31 : doneB L 30 31 = false := c31
                  have d30 : doneB L 30 30 = true := done_same
                  have hsz : 110 < a.tmps.size := by rw [hst.size]; exact Nat.le_of_ble_eq_true (by kernel_rfl)
                  unfold SD19
                  simp only [d31, d30, cond_true, cond_false]
                  exact ⟨A, m, d, slots_eq hsz, hkr, hs0.next hb⟩
                refine EachOp.cons ?_ ?_
                · intro L a u hL hst hS hdep hq hno
                  have h108 : a.tmps.getD 108 undef = .slice Dt mt et := hdep 108 (by kernel_rfl)
                  obtain ⟨A110, m110, d110, h110⟩ := hdep 110 (by kernel_rfl)
                  have h107 : a.tmps.getD 107 undef = .bool false := hdep 107 (by kernel_rfl)
                  refine .inl ⟨⟨107, by kernel_rfl, h107⟩, ?_⟩
                  clear h107
                  have g108 := gd h108
                  have g110 := gd h110
                  go_simp
                  have c31 : L 31 = false := hL
                  have c30 : L 30 = true := hq 12 30 (by kernel_rfl)
                  have hs0 := hS
                  unfold SD19 at hs0
                  simp only [c31, c30, cond_true, cond_false] at hs0
                  obtain ⟨A, m, d, ht, hkr, hs1⟩ := hs0
                  have hv110 : Value.slice A110 m110 d110 = .slice A m d := h110.symm.trans ht
                  injection hv110 with e1 e2 e3
                  subst e1 e2 e3
                  have hk0 := HKL.out u fun q hq => hs1.at_ hq
                  have hm1 : mt ≤ 1000000 := by have := hmt; omega
                  have hm2 : m110 ≤ 1000000 := by have h1 : tab.length = m110 := hkr.len; have h2 : tab.length = mt := hk0.len; omega
                  refine (psame_ok _ _ mt m110 et d110 tab tab u hk0 hkr hm1 hm2 true (Lib.hid (by simp))).mono ?_
                  rintro e' u' ⟨rfl, nn, hu'⟩
                  refine Went7.next ?_ trivial rfl
                  have d31 : doneB L 31 31 = true := done_same
                  unfold SD19
                  simp only [d31, cond_true]
                  exact hs1.next (show Below u.heap.size u u' from hu' ▸ kp_drewN _ _)
                refine EachOp.cons ?_ ?_
                · intro L a u hL hst hS hdep hq hno
                  have h111 : a.tmps.getD 111 undef = .bool true := hdep 111 (by kernel_rfl)
                  have h107 : a.tmps.getD 107 undef = .bool false := hdep 107 (by kernel_rfl)
                  refine .inl ⟨⟨107, by kernel_rfl, h107⟩, ?_⟩
                  clear h107
                  have g111 := gd h111
                  go_simp
                  exact Went7.same (HKR.out _ _) (by have h := hS; unfold SD19 at h ⊢; rw [slots_ne (d := 112) (t := 98) rfl, slots_ne (d := 112) (t := 99) rfl, slots_ne (d := 112) (t := 110) rfl]; exact h) rfl
                refine EachOp.cons ?_ ?_
                · intro L a u hL hst hS hdep hq hno
                  have h107 : a.tmps.getD 107 undef = .bool false := hdep 107 (by kernel_rfl)
                  have h112 : a.tmps.getD 112 undef = .bool false := hdep 112 (by kernel_rfl)
                  refine .inl ⟨trivial, ?_⟩
                  have g107 := gd h107
                  have g112 := gd h112
                  go_simp
                  exact Went7.same (HKR.out _ _) (by have h := hS; unfold SD19 at h ⊢; rw [slots_ne (d := 113) (t := 98) rfl, slots_ne (d := 113) (t := 99) rfl, slots_ne (d := 113) (t := 110) rfl]; exact h) rfl
                exact EachOp.nil
              · intro L a u hLs hst hS hdep
                have h80 : a.tmps.getD 80 undef = .pointer (some ⟨ba i, 0, none⟩) := hdep 80 (by kernel_rfl)
                have h81 : a.tmps.getD 81 undef = .int .u64 ep := hdep 81 (by kernel_rfl)
                have h82 : a.tmps.getD 82 undef = .pointer (some ⟨bb i, 0, none⟩) := hdep 82 (by kernel_rfl)
                have h83 : a.tmps.getD 83 undef = .pointer (some ⟨bb i, 0, none⟩) := hdep 83 (by kernel_rfl)
                have h84 : a.tmps.getD 84 undef = .pointer (some ⟨bb i, 0, none⟩) := hdep 84 (by kernel_rfl)
                have h85 : a.tmps.getD 85 undef = .int .u64 ep := hdep 85 (by kernel_rfl)
                have h86 : a.tmps.getD 86 undef = .bool false := hdep 86 (by kernel_rfl)
                have h87 : a.tmps.getD 87 undef = .bool false := hdep 87 (by kernel_rfl)
                have h88 : a.tmps.getD 88 undef = .pointer (some ⟨ba i, 0, none⟩) := hdep 88 (by kernel_rfl)
                have h89 : a.tmps.getD 89 undef = .bool ldv := hdep 89 (by kernel_rfl)
                have h90 : a.tmps.getD 90 undef = .pointer (some ⟨bb i, 0, none⟩) := hdep 90 (by kernel_rfl)
                have h91 : a.tmps.getD 91 undef = .pointer (some ⟨bb i, 0, none⟩) := hdep 91 (by kernel_rfl)
                have h92 : a.tmps.getD 92 undef = .pointer (some ⟨bb i, 1, none⟩) := hdep 92 (by kernel_rfl)
                have h93 : a.tmps.getD 93 undef = .bool ldv := hdep 93 (by kernel_rfl)
                have h94 : a.tmps.getD 94 undef = .bool false := hdep 94 (by kernel_rfl)
                have h95 : a.tmps.getD 95 undef = .bool false := hdep 95 (by kernel_rfl)
                have h96 : a.tmps.getD 96 undef = .bool false := hdep 96 (by kernel_rfl)
                have h97 : a.tmps.getD 97 undef = .pointer (some ⟨ba i, 0, none⟩) := hdep 97 (by kernel_rfl)
                obtain ⟨A98, m98, d98, h98⟩ := hdep 98 (by kernel_rfl)
                obtain ⟨A99, m99, d99, h99⟩ := hdep 99 (by kernel_rfl)
                have h100 : a.tmps.getD 100 undef = .pointer (some ⟨bb i, 0, none⟩) := hdep 100 (by kernel_rfl)
                have h101 : a.tmps.getD 101 undef = .pointer (some ⟨bb i, 0, none⟩) := hdep 101 (by kernel_rfl)
                have h102 : a.tmps.getD 102 undef = .pointer (some ⟨bb i, 2, none⟩) := hdep 102 (by kernel_rfl)
                have h103 : a.tmps.getD 103 undef = .slice AL nl cl := hdep 103 (by kernel_rfl)
                have h104 : a.tmps.getD 104 undef = .bool true := hdep 104 (by kernel_rfl)
                have h105 : a.tmps.getD 105 undef = .bool false := hdep 105 (by kernel_rfl)
                have h106 : a.tmps.getD 106 undef = .bool false := hdep 106 (by kernel_rfl)
                have h107 : a.tmps.getD 107 undef = .bool false := hdep 107 (by kernel_rfl)
                have h108 : a.tmps.getD 108 undef = .slice Dt mt et := hdep 108 (by kernel_rfl)
                have h109 : a.tmps.getD 109 undef = .pointer (some ⟨bb i, 0, none⟩) := hdep 109 (by kernel_rfl)
                obtain ⟨A110, m110, d110, h110⟩ := hdep 110 (by kernel_rfl)
                have h111 : a.tmps.getD 111 undef = .bool true := hdep 111 (by kernel_rfl)
                have h112 : a.tmps.getD 112 undef = .bool false := hdep 112 (by kernel_rfl)
                have h113 : a.tmps.getD 113 undef = .bool false := hdep 113 (by kernel_rfl)
                have hfr := hst.frame [(80, .pointer (some ⟨ba i, 0, none⟩)), (81, .int .u64 ep), (82, .pointer (some ⟨bb i, 0, none⟩)), (83, .pointer (some ⟨bb i, 0, none⟩)), (84, .pointer (some ⟨bb i, 0, none⟩)), (85, .int .u64 ep), (86, .bool false), (87, .bool false), (88, .pointer (some ⟨ba i, 0, none⟩)), (89, .bool ldv), (90, .pointer (some ⟨bb i, 0, none⟩)), (91, .pointer (some ⟨bb i, 0, none⟩)), (92, .pointer (some ⟨bb i, 1, none⟩)), (93, .bool ldv), (94, .bool false), (95, .bool false), (96, .bool false), (97, .pointer (some ⟨ba i, 0, none⟩)), (98, .slice A98 m98 d98), (99, .slice A99 m99 d99), (100, .pointer (some ⟨bb i, 0, none⟩)), (101, .pointer (some ⟨bb i, 0, none⟩)), (102, .pointer (some ⟨bb i, 2, none⟩)), (103, .slice AL nl cl), (104, .bool true), (105, .bool false), (106, .bool false), (107, .bool false), (108, .slice Dt mt et), (109, .pointer (some ⟨bb i, 0, none⟩)), (110, .slice A110 m110 d110), (111, .bool true), (112, .bool false), (113, .bool false)] (by kernel_rfl) ⟨h80, h81, h82, h83, h84, h85, h86, h87, h88, h89, h90, h91, h92, h93, h94, h95, h96, h97, h98, h99, h100, h101, h102, h103, h104, h105, h106, h107, h108, h109, h110, h111, h112, h113, trivial⟩
                clear hst hdep h80 h81 h82 h83 h84 h85 h86 h87 h88 h89 h90 h91 h92 h93 h94 h95 h96 h97 h98 h99 h100 h101 h102 h103 h104 h105 h106 h107 h108 h109 h110 h111 h112 h113
                subst hfr
                simp only [List.foldl_cons, List.foldl_nil, List.setIfInBounds_toArray, List.set_cons_zero, List.set_cons_succ]
                have H5 := Lib.hid (hS.st.unpin.less (l' := []) (fun _ h => h) (fun _ h => nomatch h) (fun _ h => h) fun _ h => h)
                clear hS hLs HST HKL HTB HVep HVld
                go_wp2_with fail
                go_roundw
                case rel => exact ⟨k + 1, R.2, by omega, by go_num, HIN, H5⟩
                case measure => simp [intOf]; omega
    · have HLO := Lib.hid hD.out.low
      clear hD
      go_wp2_with fail
      go_ret
      exact ⟨rfl, HLO.out⟩
end
end
end Go.Proofs.YtaoegiohnebnhaaGreatDoor
