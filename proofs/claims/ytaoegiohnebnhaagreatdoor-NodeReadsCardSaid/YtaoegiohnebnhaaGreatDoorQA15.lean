/-
  Contracts and plain functions that the law stands on, part 15 of 16.
-/
import Derived.Test.YtaoegiohnebnhaaGreatDoorQA14
namespace Go.Proofs.YtaoegiohnebnhaaGreatDoor
/- NodeCopies, of layer 15: the walk. -/
section
open Go.RowKit
set_option maxRecDepth 100000

def slSti : Stl KeepT := ⟨fun _ v _ => ∃ A m d, v = .slice A m d, fun _ _ _ _ _ _ h _ => h⟩
/-- within region 25: what is told so far -/
def SC25 (W : World) (X : Nat → Nd → Thing) (bs : Nat → Nat) (g : Nat) (ms ms' : Nat → Nd) (lg : List Lg) (L : Nat → Bool) (T : Nat → Value) (u : World) : Prop :=
  bif L 28 then St15 W (Tri X bs ms') T0 [(g, bs)] [] [] [] u
  else bif L 20 then St15 W (Tri X bs ms) T0 [(g, bs)] [] [] [] u
  else bif L 19 then ∃ A m d A' m' d', T 129 = .slice A m d ∧ T 134 = .slice A' m' d' ∧ St15 W (Tri X bs ms) T0 [(g, bs)] [] [(A', m', lg), (A, m, lg)] [] u
  else bif L 18 then ∃ A m d A' m' d', T 129 = .slice A m d ∧ T 133 = .slice A' m' d' ∧ St15 W (Tri X bs ms) T0 [(g, bs)] [] [(A', m', lg), (A, m, lg)] [] u
  else bif L 14 then ∃ A m d, T 129 = .slice A m d ∧ St15 W (Tri X bs ms) T0 [(g, bs)] [] [(A, m, lg)] [] u
  else bif L 13 then ∃ A m d, T 128 = .slice A m d ∧ St15 W (Tri X bs ms) T0 [(g, bs)] [] [(A, m, lg)] [] u
  else St15 W (Tri X bs ms) T0 [(g, bs)] [] [] [] u
theorem SC25.st {W : World} {X : Nat → Nd → Thing} {bs : Nat → Nat} {g : Nat} {ms ms' : Nat → Nd} {lg : List Lg} {L : Nat → Bool} {T : Nat → Value} {u : World} (h : SC25 W X bs g ms ms' lg L T u) (h28 : L 28 = false) : St15 W (Tri X bs ms) T0 [(g, bs)] [] [] [] u := by
  unfold SC25 at h
  rw [h28] at h
  cases h20 : L 20 with
  | true => rw [h20] at h; exact h
  | false =>
  cases h19 : L 19 with
  | true =>
    rw [h20, h19] at h
    obtain ⟨_, _, _, _, _, _, _, _, h⟩ := h
    exact h.less (fun _ h => h) (fun _ h => h) (fun _ h => nomatch h) fun _ h => h
  | false =>
  cases h18 : L 18 with
  | true =>
    rw [h20, h19, h18] at h
    obtain ⟨_, _, _, _, _, _, _, _, h⟩ := h
    exact h.less (fun _ h => h) (fun _ h => h) (fun _ h => nomatch h) fun _ h => h
  | false =>
  cases h14 : L 14 with
  | true =>
    rw [h20, h19, h18, h14] at h
    obtain ⟨_, _, _, _, h⟩ := h
    exact h.less (fun _ h => h) (fun _ h => h) (fun _ h => nomatch h) fun _ h => h
  | false =>
  cases h13 : L 13 with
  | true =>
    rw [h20, h19, h18, h14, h13] at h
    obtain ⟨_, _, _, _, h⟩ := h
    exact h.less (fun _ h => h) (fun _ h => h) (fun _ h => nomatch h) fun _ h => h
  | false =>
    rw [h20, h19, h18, h14, h13] at h
    exact h
section
variable {X : Nat → Nd → Thing}
set_option maxHeartbeats 32000000 in
theorem nodecopies_walk (C : NodeC X) (A1 : Option Addr) (l1 c1 : Nat) (ts : List Ac8) (A2 : Option Addr) (l2 c2 : Nat) (zs : List Int) (W : World) (r1 : AE W A1 l1 ts) (hF : ∀ t ∈ ts, t.Fine) (r2 : NR W A2 l2 zs) (h2 : ∀ z ∈ zs, I64n z) (hL : Lw W) :
    Calls Tryz.prog 6 #[.slice A1 l1 c1, .slice A2 l2 c2] W fun e w' => e = .returned (.bool true) ∧ Below W.heap.size W w' := by
  have HAW := Lib.hid (awake15_ok C hL)
  have R2 := Lib.hid r2
  have HZS := Lib.hid h2
  have HN2 := Lib.hid r2.len
  clear r2 h2
  have R1 := Lib.hid r1
  have HN1 := Lib.hid r1.len
  have HFX := Lib.hid hF
  have HC := Lib.hid C
  have HLW := Lib.hid hL
  clear r1 hF C hL
  go_enter Tryz.func6, Tryz.ntmps6
  go_wp2_with fail
  refine HAW.out.mono ?_
  rintro e w1 ⟨rfl, k1⟩
  have HLG := Lib.hid (llarge15_ok A1 l1 c1 ts w1 (R1.out.next k1))
  have HK1 := Lib.hid k1
  clear HAW k1
  go_wp2_with fail
  refine HLG.out.mono ?_
  rintro e w2 ⟨bg, rfl, hbg, k2⟩
  have HK2 := Lib.hid (HK1.out.trans (k2.mono HK1.out.size))
  clear HLG k2 HK1
  cases bg with
  | true =>
    clear hbg
    go_wp2_with fail
    go_ret
    exact ⟨rfl, HK2.out⟩
  | false =>
  obtain ⟨hl60, hsm⟩ := hbg rfl
  have HSM := Lib.hid hsm
  clear hbg hsm
  by_cases hp60 : (60 : Int) < (l2 : Int)
  · go_wp2_with fail
    go_ret
    exact ⟨rfl, HK2.out⟩
  go_wp2_with fail
  refine (lnodes_ok HC.out (HLW.out.next HK2.out)).mono ?_
  clear hp60
  rintro e w3 ⟨g, bs, rfl, p33, ⟨S3, q3, z3⟩, k3⟩
  have HD3 : Hid (St15 W (Tri X bs fun _ => newNd) T0 [(g, bs)] [] [] [] w3) := Lib.hid (by
    have hg3 : g < w3.heap.size := by obtain ⟨ad, h1, h2, _⟩ := p33.at_ (i := 0) (by decide); injection h1 with h1; subst h1; exact h2
    have hk2 := HK2.out.size
    exact ⟨fun k => k = g, ⟨⟨S3, noneB, q3, T0.none _, (fun _ _ h => h), fun k hk => hk.elim (fun h1 => (by have := z3 k h1; omega)) fun h1 => h1.elim⟩, HK2.out.trans (k3.mono hk2), fun k hk => (by omega)⟩, (fun _ h => nomatch h), (fun q hq => (List.mem_singleton.1 hq) ▸ ⟨p33, rfl⟩), (fun _ h => nomatch h), fun _ h => nomatch h⟩)
  have HI0 : Hid (∀ i : Nat, NdI 0 ((fun _ => newNd : Nat → Nd) i)) := Lib.hid fun _ => NdI.new
  have HE0 : Hid (∀ i : Nat, 1 ≤ ((fun _ => newNd : Nat → Nd) i).ep) := Lib.hid fun _ => (show (1 : Int) ≤ newNd.ep by decide)
  clear p33 q3 z3 k3 HK2
  go_wp2_with fail
  go_loopw [25] (fun i wr => ∃ (k : Nat) (ns : Nat → Nd), k ≤ l1 ∧ i = .int .i64 k ∧ Hid (∀ i : Nat, NdI k (ns i)) ∧ Hid (∀ i : Nat, 1 ≤ (ns i).ep) ∧ Hid (St15 W (Tri X bs ns) T0 [(g, bs)] [] [] [] wr)) (fun i _ => l1 - (intOf i).toNat)
  case atStart => exact ⟨0, _, Nat.zero_le _, rfl, HI0, HE0, HD3⟩
  case round =>
    obtain ⟨k, ns, hk, rfl, HI, HE, hD⟩ := hrel
    clear HI0 HD3 HE0
    by_cases hlt : k < l1
    · have hkl : k < ts.length := by rw [HN1.out]; exact hlt
      obtain ⟨ad, rfl, _, hcc⟩ := R1.out.at_ hkl
      obtain ⟨x0, x1, x2, x3, x4, x5, x6, x7⟩ := hcc wr (hD.out.low)
      have HXF := Lib.hid (HFX.out _ (List.getElem_mem hkl))
      have HXS := Lib.hid (HSM.out _ (List.getElem_mem hkl))
      clear hcc
      generalize ts[k] = x at *
      obtain ⟨wx, hwx⟩ : ∃ u, wr.alloc (.cells #[.int .i64 x.d, .int .i64 x.nd, .int .i64 x.fr, .int .i64 x.c, .int .i64 x.m, .int .u64 x.e, .bool x.rd, .string x.t] 32) = u := ⟨_, rfl⟩
      obtain ⟨t6, ht6⟩ : ∃ y, wr.heap.size = y := ⟨_, rfl⟩
      have H1 := Lib.hid ((hD.out).mark (.cells #[.int .i64 x.d, .int .i64 x.nd, .int .i64 x.fr, .int .i64 x.c, .int .i64 x.m, .int .u64 x.e, .bool x.rd, .string x.t] 32) hwx ht6)
      have HWX := Lib.hid hwx
      have HT6 := Lib.hid ht6
      have HIN : Hid (∀ i : Nat, NdI (k + 1) ((actN ns x).2 i)) := Lib.hid (actN_inv HI.out HXF.out HXS.out)
      have HEN : Hid (∀ i : Nat, 1 ≤ ((actN ns x).2 i).ep) := Lib.hid fun i => Int.le_trans (HE.out i) (act_eps ns x i)
      have m6 := H1.out.at_ (.head _)
      obtain ⟨y0, _⟩ := cellsAt m6 0 (v := .int .i64 x.d) rfl
      obtain ⟨y1, _⟩ := cellsAt m6 1 (v := .int .i64 x.nd) rfl
      obtain ⟨y2, _⟩ := cellsAt m6 2 (v := .int .i64 x.fr) rfl
      obtain ⟨y3, _⟩ := cellsAt m6 3 (v := .int .i64 x.c) rfl
      obtain ⟨y4, _⟩ := cellsAt m6 4 (v := .int .i64 x.m) rfl
      obtain ⟨y5, _⟩ := cellsAt m6 5 (v := .int .u64 x.e) rfl
      obtain ⟨y6, _⟩ := cellsAt m6 6 (v := .bool x.rd) rfl
      obtain ⟨y7, _⟩ := cellsAt m6 7 (v := .string x.t) rfl
      clear hwx ht6 hD m6
      go_wp2_with fail
      rw [HWX.out, HT6.out]
      refine (H1.out.act HC.out HLW.out 3 (.head _) HI.out (by omega) HXF.out HXS.out).mono ?_
      rintro e u4 ⟨A', m', d', rfl, h5⟩
      have H5 := Lib.hid (h5.less (l' := []) (xs' := []) (fun _ h => h) (fun _ h => nomatch h) (fun _ h => h) fun _ h => nomatch h)
      clear h5 H1 HWX HT6
      go_wp2_with fail
      go_roundw
      case rel => exact ⟨k + 1, _, by omega, by go_num, HIN, HEN, H5⟩
      case measure => simp [intOf]; omega
    · obtain rfl : k = l1 := by omega
      obtain ⟨wo, hwo⟩ : ∃ z, z = wr := ⟨wr, rfl⟩
      subst hwo
      have HST := hD
      clear hD
      obtain ⟨e0, he0⟩ : ∃ e, (ns 0).ep = e := ⟨_, rfl⟩
      obtain ⟨e1, he1⟩ : ∃ e, (ns 1).ep = e := ⟨_, rfl⟩
      obtain ⟨e2, he2⟩ : ∃ e, (ns 2).ep = e := ⟨_, rfl⟩
      have b0 := HE.out 0
      have b1 := HE.out 1
      have b2 := HE.out 2
      have c0 := (HI.out 0).eu
      have c1 := (HI.out 1).eu
      have c2 := (HI.out 2).eu
      obtain ⟨M, hmx, hM⟩ : ∃ M : Int, (∀ (u : World) (ts : Array TypeId) (ty : TypeId), (Builtin.max_ ts ty #[.int .u64 e0, .int .u64 e1, .int .u64 e2]).run Tryz.prog u = .ok (.int .u64 M) u) ∧ M = (if e2 > (if e1 > e0 then e1 else e0) then e2 else (if e1 > e0 then e1 else e0)) := ⟨_, fun u ts ty => run_max_int3 (P := Tryz.prog) (w := u) ts ty .u64 .u64 .u64 e0 e1 e2, rfl⟩
      have HM4 : Hid (e0 ≤ M ∧ e1 ≤ M ∧ e2 ≤ M ∧ (M = e0 ∨ M = e1 ∨ M = e2)) := Lib.hid (by rw [hM]; split <;> split <;> omega)
      clear hM
      obtain ⟨E, hE⟩ : ∃ E, IntKind.u64.wrap (M + 1) = E := ⟨_, rfl⟩
      have hE2 := hE
      rw [IntKind.wrap_u64] at hE2
      obtain ⟨ok, hok⟩ : ∃ b, decide (e0 ≤ E) = b := ⟨_, rfl⟩
      obtain ⟨nok, hnok⟩ : ∃ b, (!ok) = b := ⟨_, rfl⟩
      have HNK := Lib.hid hnok
      clear hnok
      have HLE : Hid (∀ u, Below wo.heap.size wo u → Calls Tryz.prog 27 #[.pointer (some ⟨bs 0, 0, none⟩), .int .u64 E] u fun e' w' => e' = .returned (.bool ok) ∧ St15 W (Tri X bs (upd3 ns 0 (leadNd (ns 0) E))) T0 [(g, bs)] [] [] [] w') := Lib.hid fun u hu => by
        have := (HST.out.next hu).lead HC.out (i := 0) (by decide) (HI.out 0) E (by unfold U64n; omega)
        rw [he0, hok] at this
        exact this
      have HEP : Hid (∀ (j : Nat) (u : World), Below wo.heap.size wo u → j < 3 → Calls Tryz.prog 17 #[.pointer (some ⟨bs j, 0, none⟩)] u fun e w' => e = .returned (.int .u64 (ns j).ep) ∧ Below u.heap.size u w') := Lib.hid fun j u hu hj => by
        obtain ⟨N, ⟨⟨S, T, h1, _⟩, _⟩, _⟩ := HST.out.next hu
        exact Tri.ask (Q := fun e _ => e = .returned (.int .u64 (ns j).ep)) h1 hj fun S' hS' => HC.out.epoch (bs j) (ns j) k S' u hS' (HI.out j)
      obtain ⟨GN, hGN⟩ : ∃ G : World → Prop, ∀ z, G z ↔ (St15 W (Tri X bs (upd3 ns 0 (leadNd (ns 0) E))) T0 [(g, bs)] [] [] []) z := ⟨_, fun _ => Iff.rfl⟩
      have HGN := Lib.hid hGN
      have HV0 := Lib.hid he0
      have HV1 := Lib.hid he1
      have HV2 := Lib.hid he2
      have HMX := Lib.hid hmx
      have HWE := Lib.hid hE
      have HKR : Hid (∀ (i : Nat) (u : World), KeepT i u u) := Lib.hid fun _ _ => trivial
      clear hGN hmx hE
      go_wp2_with fail
      refine wp_region_specs6 (S := SL1 17 wo GN) (Kp := KeepT) (Sp := [(33, Stl.eq (.slice (some ⟨g, 0, none⟩) 3 3)), (34, Stl.eq (.pointer (some ⟨g, 0, none⟩))), (35, Stl.eq (.pointer (some ⟨bs 0, 0, none⟩))), (36, Stl.eq (.slice (some ⟨g, 0, none⟩) 3 3)), (37, Stl.eq (.pointer (some ⟨g, 0, none⟩))), (38, Stl.eq (.pointer (some ⟨bs 0, 0, none⟩))), (39, Stl.eq (.int .u64 e0)), (40, Stl.eq (.slice (some ⟨g, 0, none⟩) 3 3)), (41, Stl.eq (.pointer (some ⟨g, 1, none⟩))), (42, Stl.eq (.pointer (some ⟨bs 1, 0, none⟩))), (43, Stl.eq (.int .u64 e1)), (44, Stl.eq (.slice (some ⟨g, 0, none⟩) 3 3)), (45, Stl.eq (.pointer (some ⟨g, 2, none⟩))), (46, Stl.eq (.pointer (some ⟨bs 2, 0, none⟩))), (47, Stl.eq (.int .u64 e2)), (48, Stl.eq (.int .u64 M)), (49, Stl.eq (.int .u64 E)), (50, Stl.eq (.bool ok)), (51, Stl.eq (.bool nok))]) (by kernel_rfl) (by kernel_rfl) (SL1.of rfl (kp_drewN _ 1)) ?_ ?_
      · refine EachOp.cons ?_ ?_
        · intro L a u hL hst hS hdep hq hno
          have h5 : a.tmps.getD 5 undef = .slice (some ⟨g, 0, none⟩) 3 3 := hst.out 5 (by kernel_rfl)
          refine .inl ⟨trivial, ?_⟩
          have g5 := gd h5
          go_simp
          exact Went6.same (HKR.out _ _) hS rfl
        refine EachOp.cons ?_ ?_
        · intro L a u hL hst hS hdep hq hno
          have h33 : a.tmps.getD 33 undef = .slice (some ⟨g, 0, none⟩) 3 3 := hdep 33 (by kernel_rfl)
          refine .inl ⟨trivial, ?_⟩
          have g33 := gd h33
          go_simp
          exact Went6.same (HKR.out _ _) hS rfl
        refine EachOp.cons ?_ ?_
        · intro L a u hL hst hS hdep hq hno
          have h34 : a.tmps.getD 34 undef = .pointer (some ⟨g, 0, none⟩) := hdep 34 (by kernel_rfl)
          refine .inl ⟨trivial, ?_⟩
          have g34 := gd h34
          have ha : L 17 = false := hno 12 17 (by kernel_rfl)
          have hB : Below wo.heap.size wo u := SL1.ahead hS ha
          have yy : u.cell? ⟨g, 0, none⟩ = some (.pointer (some ⟨bs 0, 0, none⟩)) := (HST.out.next hB).ptr (.head _) (i := 0) (by decide)
          go_simp
          exact Went6.same (HKR.out _ _) hS rfl
        refine EachOp.cons ?_ ?_
        · intro L a u hL hst hS hdep hq hno
          have h5 : a.tmps.getD 5 undef = .slice (some ⟨g, 0, none⟩) 3 3 := hst.out 5 (by kernel_rfl)
          refine .inl ⟨trivial, ?_⟩
          have g5 := gd h5
          go_simp
          exact Went6.same (HKR.out _ _) hS rfl
        refine EachOp.cons ?_ ?_
        · intro L a u hL hst hS hdep hq hno
          have h36 : a.tmps.getD 36 undef = .slice (some ⟨g, 0, none⟩) 3 3 := hdep 36 (by kernel_rfl)
          refine .inl ⟨trivial, ?_⟩
          have g36 := gd h36
          go_simp
          exact Went6.same (HKR.out _ _) hS rfl
        refine EachOp.cons ?_ ?_
        · intro L a u hL hst hS hdep hq hno
          have h37 : a.tmps.getD 37 undef = .pointer (some ⟨g, 0, none⟩) := hdep 37 (by kernel_rfl)
          refine .inl ⟨trivial, ?_⟩
          have g37 := gd h37
          have ha : L 17 = false := hno 12 17 (by kernel_rfl)
          have hB : Below wo.heap.size wo u := SL1.ahead hS ha
          have yy : u.cell? ⟨g, 0, none⟩ = some (.pointer (some ⟨bs 0, 0, none⟩)) := (HST.out.next hB).ptr (.head _) (i := 0) (by decide)
          go_simp
          exact Went6.same (HKR.out _ _) hS rfl
        refine EachOp.cons ?_ ?_
        · intro L a u hL hst hS hdep hq hno
          have h38 : a.tmps.getD 38 undef = .pointer (some ⟨bs 0, 0, none⟩) := hdep 38 (by kernel_rfl)
          refine .inl ⟨trivial, ?_⟩
          have g38 := gd h38
          go_simp
          have ha : L 17 = false := hno 12 17 (by kernel_rfl)
          have hB : Below wo.heap.size wo u := SL1.ahead hS ha
          refine (HEP.out 0 u hB (by decide)).mono ?_
          rw [HV0.out]
          rintro e' u' ⟨rfl, hb'⟩
          exact Went6.next (SL1.of ha (hB.trans (hb'.mono hB.size))) trivial rfl
        refine EachOp.cons ?_ ?_
        · intro L a u hL hst hS hdep hq hno
          have h5 : a.tmps.getD 5 undef = .slice (some ⟨g, 0, none⟩) 3 3 := hst.out 5 (by kernel_rfl)
          refine .inl ⟨trivial, ?_⟩
          have g5 := gd h5
          go_simp
          exact Went6.same (HKR.out _ _) hS rfl
        refine EachOp.cons ?_ ?_
        · intro L a u hL hst hS hdep hq hno
          have h40 : a.tmps.getD 40 undef = .slice (some ⟨g, 0, none⟩) 3 3 := hdep 40 (by kernel_rfl)
          refine .inl ⟨trivial, ?_⟩
          have g40 := gd h40
          go_simp
          exact Went6.same (HKR.out _ _) hS rfl
        refine EachOp.cons ?_ ?_
        · intro L a u hL hst hS hdep hq hno
          have h41 : a.tmps.getD 41 undef = .pointer (some ⟨g, 1, none⟩) := hdep 41 (by kernel_rfl)
          refine .inl ⟨trivial, ?_⟩
          have g41 := gd h41
          have ha : L 17 = false := hno 12 17 (by kernel_rfl)
          have hB : Below wo.heap.size wo u := SL1.ahead hS ha
          have yy : u.cell? ⟨g, 1, none⟩ = some (.pointer (some ⟨bs 1, 0, none⟩)) := (HST.out.next hB).ptr (.head _) (i := 1) (by decide)
          go_simp
          exact Went6.same (HKR.out _ _) hS rfl
        refine EachOp.cons ?_ ?_
        · intro L a u hL hst hS hdep hq hno
          have h42 : a.tmps.getD 42 undef = .pointer (some ⟨bs 1, 0, none⟩) := hdep 42 (by kernel_rfl)
          refine .inl ⟨trivial, ?_⟩
          have g42 := gd h42
          go_simp
          have ha : L 17 = false := hno 12 17 (by kernel_rfl)
          have hB : Below wo.heap.size wo u := SL1.ahead hS ha
          refine (HEP.out 1 u hB (by decide)).mono ?_
          rw [HV1.out]
          rintro e' u' ⟨rfl, hb'⟩
          exact Went6.next (SL1.of ha (hB.trans (hb'.mono hB.size))) trivial rfl
        refine EachOp.cons ?_ ?_
        · intro L a u hL hst hS hdep hq hno
          have h5 : a.tmps.getD 5 undef = .slice (some ⟨g, 0, none⟩) 3 3 := hst.out 5 (by kernel_rfl)
          refine .inl ⟨trivial, ?_⟩
          have g5 := gd h5
          go_simp
          exact Went6.same (HKR.out _ _) hS rfl
        refine EachOp.cons ?_ ?_
        · intro L a u hL hst hS hdep hq hno
          have h44 : a.tmps.getD 44 undef = .slice (some ⟨g, 0, none⟩) 3 3 := hdep 44 (by kernel_rfl)
          refine .inl ⟨trivial, ?_⟩
          have g44 := gd h44
          go_simp
          exact Went6.same (HKR.out _ _) hS rfl
        refine EachOp.cons ?_ ?_
        · intro L a u hL hst hS hdep hq hno
          have h45 : a.tmps.getD 45 undef = .pointer (some ⟨g, 2, none⟩) := hdep 45 (by kernel_rfl)
          refine .inl ⟨trivial, ?_⟩
          have g45 := gd h45
          have ha : L 17 = false := hno 12 17 (by kernel_rfl)
          have hB : Below wo.heap.size wo u := SL1.ahead hS ha
          have yy : u.cell? ⟨g, 2, none⟩ = some (.pointer (some ⟨bs 2, 0, none⟩)) := (HST.out.next hB).ptr (.head _) (i := 2) (by decide)
          go_simp
          exact Went6.same (HKR.out _ _) hS rfl
        refine EachOp.cons ?_ ?_
        · intro L a u hL hst hS hdep hq hno
          have h46 : a.tmps.getD 46 undef = .pointer (some ⟨bs 2, 0, none⟩) := hdep 46 (by kernel_rfl)
          refine .inl ⟨trivial, ?_⟩
          have g46 := gd h46
          go_simp
          have ha : L 17 = false := hno 12 17 (by kernel_rfl)
          have hB : Below wo.heap.size wo u := SL1.ahead hS ha
          refine (HEP.out 2 u hB (by decide)).mono ?_
          rw [HV2.out]
          rintro e' u' ⟨rfl, hb'⟩
          exact Went6.next (SL1.of ha (hB.trans (hb'.mono hB.size))) trivial rfl
        refine EachOp.cons ?_ ?_
        · intro L a u hL hst hS hdep hq hno
          have h39 : a.tmps.getD 39 undef = .int .u64 e0 := hdep 39 (by kernel_rfl)
          have h43 : a.tmps.getD 43 undef = .int .u64 e1 := hdep 43 (by kernel_rfl)
          have h47 : a.tmps.getD 47 undef = .int .u64 e2 := hdep 47 (by kernel_rfl)
          refine .inl ⟨trivial, ?_⟩
          have g39 := gd h39
          have g43 := gd h43
          have g47 := gd h47
          have hmx := HMX.out
          go_simp
          exact Went6.same (HKR.out _ _) hS rfl
        refine EachOp.cons ?_ ?_
        · intro L a u hL hst hS hdep hq hno
          have h48 : a.tmps.getD 48 undef = .int .u64 M := hdep 48 (by kernel_rfl)
          refine .inl ⟨trivial, ?_⟩
          have g48 := gd h48
          have hwe := HWE.out
          go_simp
          exact Went6.same (HKR.out _ _) hS rfl
        refine EachOp.cons ?_ ?_
        · intro L a u hL hst hS hdep hq hno
          have h35 : a.tmps.getD 35 undef = .pointer (some ⟨bs 0, 0, none⟩) := hdep 35 (by kernel_rfl)
          have h49 : a.tmps.getD 49 undef = .int .u64 E := hdep 49 (by kernel_rfl)
          refine .inl ⟨trivial, ?_⟩
          have g35 := gd h35
          have g49 := gd h49
          go_simp
          have hB : Below wo.heap.size wo u := SL1.ahead hS hL
          refine (HLE.out u hB).mono ?_
          rintro e' u' ⟨rfl, hs'⟩
          exact Went6.next (SL1.now done_same ((HGN.out _).2 hs')) trivial rfl
        refine EachOp.cons ?_ ?_
        · intro L a u hL hst hS hdep hq hno
          have h50 : a.tmps.getD 50 undef = .bool ok := hdep 50 (by kernel_rfl)
          refine .inl ⟨trivial, ?_⟩
          have g50 := gd h50
          have hnk := HNK.out
          go_simp
          exact Went6.same (HKR.out _ _) hS rfl
        exact EachOp.nil
      · intro L a u hLs hst hS hdep
        have h33 : a.tmps.getD 33 undef = .slice (some ⟨g, 0, none⟩) 3 3 := hdep 33 (by kernel_rfl)
        have h34 : a.tmps.getD 34 undef = .pointer (some ⟨g, 0, none⟩) := hdep 34 (by kernel_rfl)
        have h35 : a.tmps.getD 35 undef = .pointer (some ⟨bs 0, 0, none⟩) := hdep 35 (by kernel_rfl)
        have h36 : a.tmps.getD 36 undef = .slice (some ⟨g, 0, none⟩) 3 3 := hdep 36 (by kernel_rfl)
        have h37 : a.tmps.getD 37 undef = .pointer (some ⟨g, 0, none⟩) := hdep 37 (by kernel_rfl)
        have h38 : a.tmps.getD 38 undef = .pointer (some ⟨bs 0, 0, none⟩) := hdep 38 (by kernel_rfl)
        have h39 : a.tmps.getD 39 undef = .int .u64 e0 := hdep 39 (by kernel_rfl)
        have h40 : a.tmps.getD 40 undef = .slice (some ⟨g, 0, none⟩) 3 3 := hdep 40 (by kernel_rfl)
        have h41 : a.tmps.getD 41 undef = .pointer (some ⟨g, 1, none⟩) := hdep 41 (by kernel_rfl)
        have h42 : a.tmps.getD 42 undef = .pointer (some ⟨bs 1, 0, none⟩) := hdep 42 (by kernel_rfl)
        have h43 : a.tmps.getD 43 undef = .int .u64 e1 := hdep 43 (by kernel_rfl)
        have h44 : a.tmps.getD 44 undef = .slice (some ⟨g, 0, none⟩) 3 3 := hdep 44 (by kernel_rfl)
        have h45 : a.tmps.getD 45 undef = .pointer (some ⟨g, 2, none⟩) := hdep 45 (by kernel_rfl)
        have h46 : a.tmps.getD 46 undef = .pointer (some ⟨bs 2, 0, none⟩) := hdep 46 (by kernel_rfl)
        have h47 : a.tmps.getD 47 undef = .int .u64 e2 := hdep 47 (by kernel_rfl)
        have h48 : a.tmps.getD 48 undef = .int .u64 M := hdep 48 (by kernel_rfl)
        have h49 : a.tmps.getD 49 undef = .int .u64 E := hdep 49 (by kernel_rfl)
        have h50 : a.tmps.getD 50 undef = .bool ok := hdep 50 (by kernel_rfl)
        have h51 : a.tmps.getD 51 undef = .bool nok := hdep 51 (by kernel_rfl)
        have hfr := hst.frame [(33, .slice (some ⟨g, 0, none⟩) 3 3), (34, .pointer (some ⟨g, 0, none⟩)), (35, .pointer (some ⟨bs 0, 0, none⟩)), (36, .slice (some ⟨g, 0, none⟩) 3 3), (37, .pointer (some ⟨g, 0, none⟩)), (38, .pointer (some ⟨bs 0, 0, none⟩)), (39, .int .u64 e0), (40, .slice (some ⟨g, 0, none⟩) 3 3), (41, .pointer (some ⟨g, 1, none⟩)), (42, .pointer (some ⟨bs 1, 0, none⟩)), (43, .int .u64 e1), (44, .slice (some ⟨g, 0, none⟩) 3 3), (45, .pointer (some ⟨g, 2, none⟩)), (46, .pointer (some ⟨bs 2, 0, none⟩)), (47, .int .u64 e2), (48, .int .u64 M), (49, .int .u64 E), (50, .bool ok), (51, .bool nok)] (by kernel_rfl) ⟨h33, h34, h35, h36, h37, h38, h39, h40, h41, h42, h43, h44, h45, h46, h47, h48, h49, h50, h51, trivial⟩
        clear hst hdep h33 h34 h35 h36 h37 h38 h39 h40 h41 h42 h43 h44 h45 h46 h47 h48 h49 h50 h51
        subst hfr
        simp only [List.foldl_cons, List.foldl_nil, List.setIfInBounds_toArray, List.set_cons_zero, List.set_cons_succ]
        have H4 := Lib.hid ((HGN.out u).1 (SL1.done hS (hLs 17 (by kernel_rfl))))
        clear hS hLs
        cases nok with
        | true =>
          have hok : decide (e0 ≤ E) = false := by have := HNK.out; rw [hok]; simpa using this
          have hgt : ¬ e0 ≤ E := of_decide_eq_false hok
          have hM4 := HM4.out
          have htop : M = 18446744073709551615 := by omega
          have hl : leadNd (ns 0) E = ns 0 := by unfold leadNd; rw [if_pos (by omega)]
          rw [hl, upd3_self] at H4
          have z0 : u.cell? ⟨g, 0, none⟩ = some (.pointer (some ⟨bs 0, 0, none⟩)) := H4.out.ptr (.head _) (i := 0) (by decide)
          have HE0 := Lib.hid (H4.out.ep HC.out (i := 0) (by decide) (HI.out 0))
          rw [HV0.out] at HE0
          clear hl hE2 hok hgt
          by_cases t0 : e0 = 18446744073709551615
          · have g0 : (e0 == 18446744073709551615) = true := by simpa using t0
            clear t0 htop hM4
            go_wp2_with fail
            refine HE0.out.mono ?_
            rintro e' u2 ⟨rfl, hs2⟩
            have HLO := Lib.hid hs2.low
            clear hs2 HE0
            go_wp2_with fail
            go_ret
            exact ⟨rfl, HLO.out⟩
          have g0 : (e0 == 18446744073709551615) = false := by simpa using t0
          by_cases t1 : e1 = 18446744073709551615
          · have g1 : (e1 == 18446744073709551615) = true := by simpa using t1
            clear t0 t1 htop hM4
            go_wp2_with fail
            refine HE0.out.mono ?_
            rintro e' u2 ⟨rfl, hs2⟩
            have H5 := Lib.hid hs2
            have z1 : u2.cell? ⟨g, 1, none⟩ = some (.pointer (some ⟨bs 1, 0, none⟩)) := hs2.ptr (.head _) (i := 1) (by decide)
            have HE1 := Lib.hid (H5.out.ep HC.out (i := 1) (by decide) (HI.out 1))
            rw [HV1.out] at HE1
            clear hs2 HE0 z0
            go_wp2_with fail
            refine HE1.out.mono ?_
            rintro e' u3 ⟨rfl, hs3⟩
            have HLO := Lib.hid hs3.low
            clear hs3 HE1
            go_wp2_with fail
            go_ret
            exact ⟨rfl, HLO.out⟩
          have g1 : (e1 == 18446744073709551615) = false := by simpa using t1
          have g2 : (e2 == 18446744073709551615) = true := by
            have : e2 = 18446744073709551615 := by omega
            simpa using this
          clear t0 t1 htop hM4
          go_wp2_with fail
          refine HE0.out.mono ?_
          rintro e' u2 ⟨rfl, hs2⟩
          have H5 := Lib.hid hs2
          have z1 : u2.cell? ⟨g, 1, none⟩ = some (.pointer (some ⟨bs 1, 0, none⟩)) := hs2.ptr (.head _) (i := 1) (by decide)
          have HE1 := Lib.hid (H5.out.ep HC.out (i := 1) (by decide) (HI.out 1))
          rw [HV1.out] at HE1
          clear hs2 HE0 z0
          go_wp2_with fail
          refine HE1.out.mono ?_
          rintro e' u3 ⟨rfl, hs3⟩
          have H6 := Lib.hid hs3
          have z2 : u3.cell? ⟨g, 2, none⟩ = some (.pointer (some ⟨bs 2, 0, none⟩)) := hs3.ptr (.head _) (i := 2) (by decide)
          have HE2 := Lib.hid (H6.out.ep HC.out (i := 2) (by decide) (HI.out 2))
          rw [HV2.out] at HE2
          clear hs3 HE1 z1
          go_wp2_with fail
          refine HE2.out.mono ?_
          rintro e' u4 ⟨rfl, hs4⟩
          have HLO := Lib.hid hs4.low
          clear hs4 HE2
          go_wp2_with fail
          go_ret
          exact ⟨rfl, HLO.out⟩
        | false =>
          have hok : decide (e0 ≤ E) = true := by have := HNK.out; rw [hok]; simpa using this
          have hge : e0 ≤ E := of_decide_eq_true hok
          have hM4 := HM4.out
          have hE3 : E = M + 1 := by omega
          have hl : leadNd (ns 0) E = ⟨E, true, (ns 0).lg, []⟩ := by unfold leadNd; rw [if_neg (by omega)]
          rw [hl] at H4
          obtain ⟨n0, hn0⟩ : ∃ n, (⟨E, true, (ns 0).lg, []⟩ : Nd) = n := ⟨_, rfl⟩
          have HN0 : Hid (n0 = ⟨E, true, (ns 0).lg, []⟩) := Lib.hid hn0.symm
          have HLG : Hid ((ns 0).lg.length ≤ 200) := Lib.hid (HI.out 0).lg
          obtain ⟨lg, hlg⟩ : ∃ l, (ns 0).lg = l := ⟨_, rfl⟩
          have HLL := Lib.hid hlg
          clear hlg
          rw [hn0] at H4
          have HB0 : Hid ((upd3 ns 0 n0) 0 = n0 ∧ Behind E ((upd3 ns 0 n0) 1) ∧ Behind E ((upd3 ns 0 n0) 2) ∧ ∀ i : Nat, NdI k ((upd3 ns 0 n0) i)) := Lib.hid ⟨upd3_at _ _ _, .inl (by rw [upd3_ne _ _ (by decide)]; omega), .inl (by rw [upd3_ne _ _ (by decide)]; omega), fun i => by
            by_cases hi : i = 0
            · subst hi
              rw [upd3_at, HN0.out, ← hl]
              exact (HI.out 0).lead (by omega) (by omega)
            · rw [upd3_ne _ _ hi]
              exact HI.out i⟩
          clear hl hge hM4 hE3 hok hE2 hn0 b0 b1 b2 c0 c1 c2 HMX HWE HLE HEP HGN
          go_wp2_with fail
          go_loopw [73] (fun i wr => ∃ (q : Nat) (ms : Nat → Nd), q ≤ l2 ∧ i = .int .i64 q ∧ Hid (ms 0 = n0 ∧ Behind E (ms 1) ∧ Behind E (ms 2) ∧ ∀ i : Nat, NdI k (ms i)) ∧ Hid (St15 W (Tri X bs ms) T0 [(g, bs)] [] [] [] wr)) (fun i _ => l2 - (intOf i).toNat)
          case atStart => exact ⟨0, _, Nat.zero_le _, rfl, HB0, H4⟩
          case round =>
            obtain ⟨q, ms, hq, rfl, HB, hD⟩ := hrel
            clear HB0 H4
            obtain ⟨wo, hwo⟩ : ∃ z, z = wr := ⟨wr, rfl⟩
            subst hwo
            have HST := hD
            clear hD
            by_cases hql : q < l2
            · have hqz : q < zs.length := by rw [HN2.out]; exact hql
              obtain ⟨ad, rfl, _, hcc⟩ := R2.out.at_ hqz
              have v0 := hcc wo HST.out.low
              have HZ := Lib.hid (HZS.out _ (List.getElem_mem hqz))
              clear hcc
              generalize zs[q] = z at *
              obtain ⟨cp, hcp⟩ : ∃ c, copyNd (ms 1) (ms 0) z = c := ⟨_, rfl⟩
              have HCP := Lib.hid hcp
              obtain ⟨GN, hGN⟩ : ∃ G : World → Prop, ∀ z, G z ↔ St15 W (Tri X bs (upd3 ms 1 cp.2)) T0 [(g, bs)] [] [] [] z := ⟨_, fun _ => Iff.rfl⟩
              have HGN := Lib.hid hGN
              have HKR : Hid (∀ (i : Nat) (u : World), KeepT i u u) := Lib.hid fun _ _ => trivial
              clear hGN
              have hcb := copy_behind (L := (ns 0).lg) HB.out.2.1 z
              rw [← HN0.out, ← HB.out.1, hcp] at hcb
              obtain ⟨k0, k1, k2, k3, k4, k5⟩ := hcb
              clear k4 k5
              obtain ⟨mz, hmz, hmzv⟩ : ∃ M : Int, (∀ (u : World) (ts : Array TypeId) (ty : TypeId), (Builtin.max_ ts ty #[.int .i64 z, .int .i64 0]).run Tryz.prog u = .ok (.int .i64 M) u) ∧ M = (if 0 > z then 0 else z) := ⟨_, fun u ts ty => run_max_int2 (P := Tryz.prog) (w := u) ts ty .i64 .i64 z 0, rfl⟩
              have f0 : ¬ cp.1 < 0 := by omega
              have f1 : ¬ mz < cp.1 := by rw [hmzv]; split <;> omega
              have HNX : Hid ((upd3 ms 1 cp.2) 0 = n0 ∧ Behind E ((upd3 ms 1 cp.2) 1) ∧ Behind E ((upd3 ms 1 cp.2) 2) ∧ ∀ i : Nat, NdI k ((upd3 ms 1 cp.2) i)) := Lib.hid ⟨by rw [upd3_ne _ _ (by decide)]; exact HB.out.1, .inr (by rw [upd3_at]; exact ⟨k2, k3⟩), by rw [upd3_ne _ _ (by decide)]; exact HB.out.2.2.1, fun i => by
                by_cases hi : i = 1
                · subst hi
                  rw [upd3_at, ← hcp]
                  exact (HB.out.2.2.2 1).copy (HB.out.2.2.2 0) z
                · rw [upd3_ne _ _ hi]
                  exact HB.out.2.2.2 i⟩
              clear k0 k1 k2 k3 hmzv hcp
              go_wp2_with fail
              refine wp_region_specs6 (S := SL1 7 wo GN) (Kp := KeepT) (Sp := [(77, Stl.eq (.slice (some ⟨g, 0, none⟩) 3 3)), (78, Stl.eq (.pointer (some ⟨g, 1, none⟩))), (79, Stl.eq (.pointer (some ⟨bs 1, 0, none⟩))), (80, Stl.eq (.slice (some ⟨g, 0, none⟩) 3 3)), (81, Stl.eq (.pointer (some ⟨g, 0, none⟩))), (82, Stl.eq (.pointer (some ⟨bs 0, 0, none⟩))), (83, Stl.eq (.int .i64 z)), (84, Stl.eq (.int .i64 cp.1)), (10, Stl.eq (.int .i64 cp.1))]) (by kernel_rfl) (by kernel_rfl) (SL1.of rfl (kp_drewN _ 1)) ?_ ?_
              · refine EachOp.cons ?_ ?_
                · intro L a u hL hst hS hdep hq hno
                  have h5 : a.tmps.getD 5 undef = .slice (some ⟨g, 0, none⟩) 3 3 := hst.out 5 (by kernel_rfl)
                  refine .inl ⟨trivial, ?_⟩
                  have g5 := gd h5
                  go_simp
                  exact Went6.same (HKR.out _ _) hS rfl
                refine EachOp.cons ?_ ?_
                · intro L a u hL hst hS hdep hq hno
                  have h77 : a.tmps.getD 77 undef = .slice (some ⟨g, 0, none⟩) 3 3 := hdep 77 (by kernel_rfl)
                  refine .inl ⟨trivial, ?_⟩
                  have g77 := gd h77
                  go_simp
                  exact Went6.same (HKR.out _ _) hS rfl
                refine EachOp.cons ?_ ?_
                · intro L a u hL hst hS hdep hq hno
                  have h78 : a.tmps.getD 78 undef = .pointer (some ⟨g, 1, none⟩) := hdep 78 (by kernel_rfl)
                  refine .inl ⟨trivial, ?_⟩
                  have g78 := gd h78
                  have ha : L 7 = false := hno 12 7 (by kernel_rfl)
                  have hB : Below wo.heap.size wo u := SL1.ahead hS ha
                  have yy : u.cell? ⟨g, 1, none⟩ = some (.pointer (some ⟨bs 1, 0, none⟩)) := (HST.out.next hB).ptr (.head _) (i := 1) (by decide)
                  go_simp
                  exact Went6.same (HKR.out _ _) hS rfl
                refine EachOp.cons ?_ ?_
                · intro L a u hL hst hS hdep hq hno
                  have h5 : a.tmps.getD 5 undef = .slice (some ⟨g, 0, none⟩) 3 3 := hst.out 5 (by kernel_rfl)
                  refine .inl ⟨trivial, ?_⟩
                  have g5 := gd h5
                  go_simp
                  exact Went6.same (HKR.out _ _) hS rfl
                refine EachOp.cons ?_ ?_
                · intro L a u hL hst hS hdep hq hno
                  have h80 : a.tmps.getD 80 undef = .slice (some ⟨g, 0, none⟩) 3 3 := hdep 80 (by kernel_rfl)
                  refine .inl ⟨trivial, ?_⟩
                  have g80 := gd h80
                  go_simp
                  exact Went6.same (HKR.out _ _) hS rfl
                refine EachOp.cons ?_ ?_
                · intro L a u hL hst hS hdep hq hno
                  have h81 : a.tmps.getD 81 undef = .pointer (some ⟨g, 0, none⟩) := hdep 81 (by kernel_rfl)
                  refine .inl ⟨trivial, ?_⟩
                  have g81 := gd h81
                  have ha : L 7 = false := hno 12 7 (by kernel_rfl)
                  have hB : Below wo.heap.size wo u := SL1.ahead hS ha
                  have yy : u.cell? ⟨g, 0, none⟩ = some (.pointer (some ⟨bs 0, 0, none⟩)) := (HST.out.next hB).ptr (.head _) (i := 0) (by decide)
                  go_simp
                  exact Went6.same (HKR.out _ _) hS rfl
                refine EachOp.cons ?_ ?_
                · intro L a u hL hst hS hdep hq hno
                  have h9 : a.tmps.getD 9 undef = .int .i64 z := hst.out 9 (by kernel_rfl)
                  refine .inl ⟨trivial, ?_⟩
                  have g9 := gd h9
                  go_simp
                  exact Went6.same (HKR.out _ _) hS rfl
                refine EachOp.cons ?_ ?_
                · intro L a u hL hst hS hdep hq hno
                  have h79 : a.tmps.getD 79 undef = .pointer (some ⟨bs 1, 0, none⟩) := hdep 79 (by kernel_rfl)
                  have h82 : a.tmps.getD 82 undef = .pointer (some ⟨bs 0, 0, none⟩) := hdep 82 (by kernel_rfl)
                  have h83 : a.tmps.getD 83 undef = .int .i64 z := hdep 83 (by kernel_rfl)
                  refine .inl ⟨trivial, ?_⟩
                  have g79 := gd h79
                  have g82 := gd h82
                  have g83 := gd h83
                  go_simp
                  have hB : Below wo.heap.size wo u := SL1.ahead hS hL
                  refine ((HST.out.next hB).copy HC.out (i := 1) (j := 0) (by decide) (by decide) (by decide) (HB.out.2.2.2 1) (HB.out.2.2.2 0) z HZ.out).mono ?_
                  rw [HCP.out]
                  rintro e' u' ⟨rfl, hs'⟩
                  exact Went6.next (SL1.now done_same ((HGN.out _).2 hs')) trivial rfl
                refine EachOp.cons ?_ ?_
                · intro L a u hL hst hS hdep hq hno
                  have h84 : a.tmps.getD 84 undef = .int .i64 cp.1 := hdep 84 (by kernel_rfl)
                  refine .inl ⟨trivial, ?_⟩
                  have g84 := gd h84
                  go_simp
                  exact Went6.same (HKR.out _ _) hS rfl
                exact EachOp.nil
              · intro L a u hLs hst hS hdep
                have h77 : a.tmps.getD 77 undef = .slice (some ⟨g, 0, none⟩) 3 3 := hdep 77 (by kernel_rfl)
                have h78 : a.tmps.getD 78 undef = .pointer (some ⟨g, 1, none⟩) := hdep 78 (by kernel_rfl)
                have h79 : a.tmps.getD 79 undef = .pointer (some ⟨bs 1, 0, none⟩) := hdep 79 (by kernel_rfl)
                have h80 : a.tmps.getD 80 undef = .slice (some ⟨g, 0, none⟩) 3 3 := hdep 80 (by kernel_rfl)
                have h81 : a.tmps.getD 81 undef = .pointer (some ⟨g, 0, none⟩) := hdep 81 (by kernel_rfl)
                have h82 : a.tmps.getD 82 undef = .pointer (some ⟨bs 0, 0, none⟩) := hdep 82 (by kernel_rfl)
                have h83 : a.tmps.getD 83 undef = .int .i64 z := hdep 83 (by kernel_rfl)
                have h84 : a.tmps.getD 84 undef = .int .i64 cp.1 := hdep 84 (by kernel_rfl)
                have h10 : a.tmps.getD 10 undef = .int .i64 cp.1 := hdep 10 (by kernel_rfl)
                have hfr := hst.frame [(77, .slice (some ⟨g, 0, none⟩) 3 3), (78, .pointer (some ⟨g, 1, none⟩)), (79, .pointer (some ⟨bs 1, 0, none⟩)), (80, .slice (some ⟨g, 0, none⟩) 3 3), (81, .pointer (some ⟨g, 0, none⟩)), (82, .pointer (some ⟨bs 0, 0, none⟩)), (83, .int .i64 z), (84, .int .i64 cp.1), (10, .int .i64 cp.1)] (by kernel_rfl) ⟨h77, h78, h79, h80, h81, h82, h83, h84, h10, trivial⟩
                clear hst hdep h77 h78 h79 h80 h81 h82 h83 h84 h10
                subst hfr
                simp only [List.foldl_cons, List.foldl_nil, List.setIfInBounds_toArray, List.set_cons_zero, List.set_cons_succ]
                have H5 := Lib.hid ((HGN.out u).1 (SL1.done hS (hLs 7 (by kernel_rfl))))
                clear hS hLs HGN HST HB HCP v0
                go_wp2_with fail
                go_roundw
                case rel => exact ⟨q + 1, _, by omega, by go_num, HNX, H5⟩
                case measure => simp [intOf]; omega
            · obtain rfl : q = l2 := by omega
              obtain ⟨cp, hcp⟩ : ∃ c, copyNd (ms 1) (ms 0) 200 = c := ⟨_, rfl⟩
              have HCP := Lib.hid hcp
              obtain ⟨GN, hGN⟩ : ∃ G : World → Prop, ∀ z, G z ↔ St15 W (Tri X bs (upd3 ms 1 cp.2)) T0 [(g, bs)] [] [] [] z := ⟨_, fun _ => Iff.rfl⟩
              have HGN := Lib.hid hGN
              have HKR : Hid (∀ (i : Nat) (u : World), KeepT i u u) := Lib.hid fun _ _ => trivial
              clear hGN
              have hcb := copy_end HB.out.2.1 HLG.out
              rw [← HN0.out, ← HB.out.1, hcp] at hcb
              have HNX : Hid ((upd3 ms 1 cp.2) 0 = n0 ∧ Behind E ((upd3 ms 1 cp.2) 1) ∧ Behind E ((upd3 ms 1 cp.2) 2) ∧ ∀ i : Nat, NdI k ((upd3 ms 1 cp.2) i)) := Lib.hid ⟨by rw [upd3_ne _ _ (by decide)]; exact HB.out.1, .inr (by rw [upd3_at]; exact ⟨hcb.1, hcb.2.1⟩), by rw [upd3_ne _ _ (by decide)]; exact HB.out.2.2.1, fun i => by
                by_cases hi : i = 1
                · subst hi
                  rw [upd3_at, ← hcp]
                  exact (HB.out.2.2.2 1).copy (HB.out.2.2.2 0) 200
                · rw [upd3_ne _ _ hi]
                  exact HB.out.2.2.2 i⟩
              have HFI : Hid (((upd3 ms 1 cp.2) 1).ep = E ∧ ((upd3 ms 1 cp.2) 1).ld = false ∧ ((upd3 ms 1 cp.2) 1).lg = (ns 0).lg) := Lib.hid (by rw [upd3_at]; exact hcb)
              clear hcb hcp
              go_wp2_with fail
              refine wp_region_specs6 (S := SL1 6 wo GN) (Kp := KeepT) (Sp := [(94, Stl.eq (.slice (some ⟨g, 0, none⟩) 3 3)), (95, Stl.eq (.pointer (some ⟨g, 1, none⟩))), (96, Stl.eq (.pointer (some ⟨bs 1, 0, none⟩))), (97, Stl.eq (.slice (some ⟨g, 0, none⟩) 3 3)), (98, Stl.eq (.pointer (some ⟨g, 0, none⟩))), (99, Stl.eq (.pointer (some ⟨bs 0, 0, none⟩))), (100, Stl.eq (.int .i64 cp.1))]) (by kernel_rfl) (by kernel_rfl) (SL1.of rfl (kp_drewN _ 1)) ?_ ?_
              · refine EachOp.cons ?_ ?_
                · intro L a u hL hst hS hdep hq hno
                  have h5 : a.tmps.getD 5 undef = .slice (some ⟨g, 0, none⟩) 3 3 := hst.out 5 (by kernel_rfl)
                  refine .inl ⟨trivial, ?_⟩
                  have g5 := gd h5
                  go_simp
                  exact Went6.same (HKR.out _ _) hS rfl
                refine EachOp.cons ?_ ?_
                · intro L a u hL hst hS hdep hq hno
                  have h94 : a.tmps.getD 94 undef = .slice (some ⟨g, 0, none⟩) 3 3 := hdep 94 (by kernel_rfl)
                  refine .inl ⟨trivial, ?_⟩
                  have g94 := gd h94
                  go_simp
                  exact Went6.same (HKR.out _ _) hS rfl
                refine EachOp.cons ?_ ?_
                · intro L a u hL hst hS hdep hq hno
                  have h95 : a.tmps.getD 95 undef = .pointer (some ⟨g, 1, none⟩) := hdep 95 (by kernel_rfl)
                  refine .inl ⟨trivial, ?_⟩
                  have g95 := gd h95
                  have ha : L 6 = false := hno 12 6 (by kernel_rfl)
                  have hB : Below wo.heap.size wo u := SL1.ahead hS ha
                  have yy : u.cell? ⟨g, 1, none⟩ = some (.pointer (some ⟨bs 1, 0, none⟩)) := (HST.out.next hB).ptr (.head _) (i := 1) (by decide)
                  go_simp
                  exact Went6.same (HKR.out _ _) hS rfl
                refine EachOp.cons ?_ ?_
                · intro L a u hL hst hS hdep hq hno
                  have h5 : a.tmps.getD 5 undef = .slice (some ⟨g, 0, none⟩) 3 3 := hst.out 5 (by kernel_rfl)
                  refine .inl ⟨trivial, ?_⟩
                  have g5 := gd h5
                  go_simp
                  exact Went6.same (HKR.out _ _) hS rfl
                refine EachOp.cons ?_ ?_
                · intro L a u hL hst hS hdep hq hno
                  have h97 : a.tmps.getD 97 undef = .slice (some ⟨g, 0, none⟩) 3 3 := hdep 97 (by kernel_rfl)
                  refine .inl ⟨trivial, ?_⟩
                  have g97 := gd h97
                  go_simp
                  exact Went6.same (HKR.out _ _) hS rfl
                refine EachOp.cons ?_ ?_
                · intro L a u hL hst hS hdep hq hno
                  have h98 : a.tmps.getD 98 undef = .pointer (some ⟨g, 0, none⟩) := hdep 98 (by kernel_rfl)
                  refine .inl ⟨trivial, ?_⟩
                  have g98 := gd h98
                  have ha : L 6 = false := hno 12 6 (by kernel_rfl)
                  have hB : Below wo.heap.size wo u := SL1.ahead hS ha
                  have yy : u.cell? ⟨g, 0, none⟩ = some (.pointer (some ⟨bs 0, 0, none⟩)) := (HST.out.next hB).ptr (.head _) (i := 0) (by decide)
                  go_simp
                  exact Went6.same (HKR.out _ _) hS rfl
                refine EachOp.cons ?_ ?_
                · intro L a u hL hst hS hdep hq hno
                  have h96 : a.tmps.getD 96 undef = .pointer (some ⟨bs 1, 0, none⟩) := hdep 96 (by kernel_rfl)
                  have h99 : a.tmps.getD 99 undef = .pointer (some ⟨bs 0, 0, none⟩) := hdep 99 (by kernel_rfl)
                  refine .inl ⟨trivial, ?_⟩
                  have g96 := gd h96
                  have g99 := gd h99
                  go_simp
                  have hB : Below wo.heap.size wo u := SL1.ahead hS hL
                  refine ((HST.out.next hB).copy HC.out (i := 1) (j := 0) (by decide) (by decide) (by decide) (HB.out.2.2.2 1) (HB.out.2.2.2 0) 200 (by unfold I64n; decide)).mono ?_
                  rw [HCP.out]
                  rintro e' u' ⟨rfl, hs'⟩
                  exact Went6.next (SL1.now done_same ((HGN.out _).2 hs')) trivial rfl
                exact EachOp.nil
              · intro L a u hLs hst hS hdep
                have h94 : a.tmps.getD 94 undef = .slice (some ⟨g, 0, none⟩) 3 3 := hdep 94 (by kernel_rfl)
                have h95 : a.tmps.getD 95 undef = .pointer (some ⟨g, 1, none⟩) := hdep 95 (by kernel_rfl)
                have h96 : a.tmps.getD 96 undef = .pointer (some ⟨bs 1, 0, none⟩) := hdep 96 (by kernel_rfl)
                have h97 : a.tmps.getD 97 undef = .slice (some ⟨g, 0, none⟩) 3 3 := hdep 97 (by kernel_rfl)
                have h98 : a.tmps.getD 98 undef = .pointer (some ⟨g, 0, none⟩) := hdep 98 (by kernel_rfl)
                have h99 : a.tmps.getD 99 undef = .pointer (some ⟨bs 0, 0, none⟩) := hdep 99 (by kernel_rfl)
                have h100 : a.tmps.getD 100 undef = .int .i64 cp.1 := hdep 100 (by kernel_rfl)
                have hfr := hst.frame [(94, .slice (some ⟨g, 0, none⟩) 3 3), (95, .pointer (some ⟨g, 1, none⟩)), (96, .pointer (some ⟨bs 1, 0, none⟩)), (97, .slice (some ⟨g, 0, none⟩) 3 3), (98, .pointer (some ⟨g, 0, none⟩)), (99, .pointer (some ⟨bs 0, 0, none⟩)), (100, .int .i64 cp.1)] (by kernel_rfl) ⟨h94, h95, h96, h97, h98, h99, h100, trivial⟩
                clear hst hdep h94 h95 h96 h97 h98 h99 h100
                subst hfr
                simp only [List.foldl_cons, List.foldl_nil, List.setIfInBounds_toArray, List.set_cons_zero, List.set_cons_succ]
                have H5 := Lib.hid ((HGN.out u).1 (SL1.done hS (hLs 6 (by kernel_rfl))))
                clear hS hLs HGN HST HB HCP
                generalize upd3 ms 1 cp.2 = ms2 at *
                obtain ⟨ms, hms⟩ : ∃ z, z = ms2 := ⟨ms2, rfl⟩
                subst hms
                obtain ⟨wo, hwo⟩ : ∃ z, z = u := ⟨u, rfl⟩
                subst hwo
                have HST := H5
                have HB := HNX
                have HF1 := HFI
                clear H5 HNX HFI
                obtain ⟨cp, hcp⟩ : ∃ c, copyNd (ms 2) (ms 0) 200 = c := ⟨_, rfl⟩
                have HCP := Lib.hid hcp
                obtain ⟨GN, hGN⟩ : ∃ G : World → Prop, ∀ z, G z ↔ St15 W (Tri X bs (upd3 ms 2 cp.2)) T0 [(g, bs)] [] [] [] z := ⟨_, fun _ => Iff.rfl⟩
                have HGN := Lib.hid hGN
                have HKR : Hid (∀ (i : Nat) (u : World), KeepT i u u) := Lib.hid fun _ _ => trivial
                clear hGN
                have hcb := copy_end HB.out.2.2.1 HLG.out
                rw [← HN0.out, ← HB.out.1, hcp] at hcb
                have HNX : Hid ((upd3 ms 2 cp.2) 0 = n0 ∧ Behind E ((upd3 ms 2 cp.2) 1) ∧ Behind E ((upd3 ms 2 cp.2) 2) ∧ ∀ i : Nat, NdI k ((upd3 ms 2 cp.2) i)) := Lib.hid ⟨by rw [upd3_ne _ _ (by decide)]; exact HB.out.1, by rw [upd3_ne _ _ (by decide)]; exact HB.out.2.1, .inr (by rw [upd3_at]; exact ⟨hcb.1, hcb.2.1⟩), fun i => by
                  by_cases hi : i = 2
                  · subst hi
                    rw [upd3_at, ← hcp]
                    exact (HB.out.2.2.2 2).copy (HB.out.2.2.2 0) 200
                  · rw [upd3_ne _ _ hi]
                    exact HB.out.2.2.2 i⟩
                have HFI : Hid (((upd3 ms 2 cp.2) 2).ep = E ∧ ((upd3 ms 2 cp.2) 2).ld = false ∧ ((upd3 ms 2 cp.2) 2).lg = (ns 0).lg) := Lib.hid (by rw [upd3_at]; exact hcb)
                have HF2 : Hid (((upd3 ms 2 cp.2) 1).ep = E ∧ ((upd3 ms 2 cp.2) 1).ld = false ∧ ((upd3 ms 2 cp.2) 1).lg = (ns 0).lg) := Lib.hid (by rw [upd3_ne _ _ (by decide)]; exact HF1.out)
                clear hcb hcp HF1
                go_wp2_with fail
                refine wp_region_specs6 (S := SL1 6 wo GN) (Kp := KeepT) (Sp := [(101, Stl.eq (.slice (some ⟨g, 0, none⟩) 3 3)), (102, Stl.eq (.pointer (some ⟨g, 2, none⟩))), (103, Stl.eq (.pointer (some ⟨bs 2, 0, none⟩))), (104, Stl.eq (.slice (some ⟨g, 0, none⟩) 3 3)), (105, Stl.eq (.pointer (some ⟨g, 0, none⟩))), (106, Stl.eq (.pointer (some ⟨bs 0, 0, none⟩))), (107, Stl.eq (.int .i64 cp.1))]) (by kernel_rfl) (by kernel_rfl) (SL1.of rfl (kp_drewN _ 1)) ?_ ?_
                · refine EachOp.cons ?_ ?_
                  · intro L a u hL hst hS hdep hq hno
                    have h5 : a.tmps.getD 5 undef = .slice (some ⟨g, 0, none⟩) 3 3 := hst.out 5 (by kernel_rfl)
                    refine .inl ⟨trivial, ?_⟩
                    have g5 := gd h5
                    go_simp
                    exact Went6.same (HKR.out _ _) hS rfl
                  refine EachOp.cons ?_ ?_
                  · intro L a u hL hst hS hdep hq hno
                    have h101 : a.tmps.getD 101 undef = .slice (some ⟨g, 0, none⟩) 3 3 := hdep 101 (by kernel_rfl)
                    refine .inl ⟨trivial, ?_⟩
                    have g101 := gd h101
                    go_simp
                    exact Went6.same (HKR.out _ _) hS rfl
                  refine EachOp.cons ?_ ?_
                  · intro L a u hL hst hS hdep hq hno
                    have h102 : a.tmps.getD 102 undef = .pointer (some ⟨g, 2, none⟩) := hdep 102 (by kernel_rfl)
                    refine .inl ⟨trivial, ?_⟩
                    have g102 := gd h102
                    have ha : L 6 = false := hno 12 6 (by kernel_rfl)
                    have hB : Below wo.heap.size wo u := SL1.ahead hS ha
                    have yy : u.cell? ⟨g, 2, none⟩ = some (.pointer (some ⟨bs 2, 0, none⟩)) := (HST.out.next hB).ptr (.head _) (i := 2) (by decide)
                    go_simp
                    exact Went6.same (HKR.out _ _) hS rfl
                  refine EachOp.cons ?_ ?_
                  · intro L a u hL hst hS hdep hq hno
                    have h5 : a.tmps.getD 5 undef = .slice (some ⟨g, 0, none⟩) 3 3 := hst.out 5 (by kernel_rfl)
                    refine .inl ⟨trivial, ?_⟩
                    have g5 := gd h5
                    go_simp
                    exact Went6.same (HKR.out _ _) hS rfl
                  refine EachOp.cons ?_ ?_
                  · intro L a u hL hst hS hdep hq hno
                    have h104 : a.tmps.getD 104 undef = .slice (some ⟨g, 0, none⟩) 3 3 := hdep 104 (by kernel_rfl)
                    refine .inl ⟨trivial, ?_⟩
                    have g104 := gd h104
                    go_simp
                    exact Went6.same (HKR.out _ _) hS rfl
                  refine EachOp.cons ?_ ?_
                  · intro L a u hL hst hS hdep hq hno
                    have h105 : a.tmps.getD 105 undef = .pointer (some ⟨g, 0, none⟩) := hdep 105 (by kernel_rfl)
                    refine .inl ⟨trivial, ?_⟩
                    have g105 := gd h105
                    have ha : L 6 = false := hno 12 6 (by kernel_rfl)
                    have hB : Below wo.heap.size wo u := SL1.ahead hS ha
                    have yy : u.cell? ⟨g, 0, none⟩ = some (.pointer (some ⟨bs 0, 0, none⟩)) := (HST.out.next hB).ptr (.head _) (i := 0) (by decide)
                    go_simp
                    exact Went6.same (HKR.out _ _) hS rfl
                  refine EachOp.cons ?_ ?_
                  · intro L a u hL hst hS hdep hq hno
                    have h103 : a.tmps.getD 103 undef = .pointer (some ⟨bs 2, 0, none⟩) := hdep 103 (by kernel_rfl)
                    have h106 : a.tmps.getD 106 undef = .pointer (some ⟨bs 0, 0, none⟩) := hdep 106 (by kernel_rfl)
                    refine .inl ⟨trivial, ?_⟩
                    have g103 := gd h103
                    have g106 := gd h106
                    go_simp
                    have hB : Below wo.heap.size wo u := SL1.ahead hS hL
                    refine ((HST.out.next hB).copy HC.out (i := 2) (j := 0) (by decide) (by decide) (by decide) (HB.out.2.2.2 2) (HB.out.2.2.2 0) 200 (by unfold I64n; decide)).mono ?_
                    rw [HCP.out]
                    rintro e' u' ⟨rfl, hs'⟩
                    exact Went6.next (SL1.now done_same ((HGN.out _).2 hs')) trivial rfl
                  exact EachOp.nil
                · intro L a u hLs hst hS hdep
                  have h101 : a.tmps.getD 101 undef = .slice (some ⟨g, 0, none⟩) 3 3 := hdep 101 (by kernel_rfl)
                  have h102 : a.tmps.getD 102 undef = .pointer (some ⟨g, 2, none⟩) := hdep 102 (by kernel_rfl)
                  have h103 : a.tmps.getD 103 undef = .pointer (some ⟨bs 2, 0, none⟩) := hdep 103 (by kernel_rfl)
                  have h104 : a.tmps.getD 104 undef = .slice (some ⟨g, 0, none⟩) 3 3 := hdep 104 (by kernel_rfl)
                  have h105 : a.tmps.getD 105 undef = .pointer (some ⟨g, 0, none⟩) := hdep 105 (by kernel_rfl)
                  have h106 : a.tmps.getD 106 undef = .pointer (some ⟨bs 0, 0, none⟩) := hdep 106 (by kernel_rfl)
                  have h107 : a.tmps.getD 107 undef = .int .i64 cp.1 := hdep 107 (by kernel_rfl)
                  have hfr := hst.frame [(101, .slice (some ⟨g, 0, none⟩) 3 3), (102, .pointer (some ⟨g, 2, none⟩)), (103, .pointer (some ⟨bs 2, 0, none⟩)), (104, .slice (some ⟨g, 0, none⟩) 3 3), (105, .pointer (some ⟨g, 0, none⟩)), (106, .pointer (some ⟨bs 0, 0, none⟩)), (107, .int .i64 cp.1)] (by kernel_rfl) ⟨h101, h102, h103, h104, h105, h106, h107, trivial⟩
                  clear hst hdep h101 h102 h103 h104 h105 h106 h107
                  subst hfr
                  simp only [List.foldl_cons, List.foldl_nil, List.setIfInBounds_toArray, List.set_cons_zero, List.set_cons_succ]
                  have H5 := Lib.hid ((HGN.out u).1 (SL1.done hS (hLs 6 (by kernel_rfl))))
                  clear hS hLs HGN HST HB HCP
                  generalize upd3 ms 2 cp.2 = ms2 at *
                  go_wp2_with fail
                  
                  have HB0 : Hid (ms2 0 = n0 ∧ (∀ j, j = 1 ∨ j = 2 → (ms2 j).ep = E ∧ (ms2 j).ld = false ∧ (ms2 j).lg = lg) ∧ ∀ i : Nat, NdI k (ms2 i)) := Lib.hid ⟨HNX.out.1, fun j hj => by rcases hj with rfl | rfl <;> rw [← HLL.out] <;> first | exact HF2.out | exact HFI.out, HNX.out.2.2.2⟩
                  rw [HLL.out] at HN0 HLG
                  clear HNX HF2 HFI
                  go_loopw [111] (fun i wr => ∃ (q : Nat) (ms : Nat → Nd), q ≤ 2 ∧ i = .int .i64 q ∧ Hid (ms 0 = n0 ∧ (∀ j, j = 1 ∨ j = 2 → (ms j).ep = E ∧ (ms j).ld = false ∧ (ms j).lg = lg) ∧ ∀ i : Nat, NdI k (ms i)) ∧ Hid (St15 W (Tri X bs ms) T0 [(g, bs)] [] [] [] wr)) (fun i _ => 2 - (intOf i).toNat)
                  case atStart => exact ⟨0, _, Nat.zero_le _, rfl, HB0, H5⟩
                  case round =>
                    obtain ⟨q, ms, hq, rfl, HB, hD⟩ := hrel
                    clear HB0 H5
                    obtain ⟨wo, hwo⟩ : ∃ z, z = wr := ⟨wr, rfl⟩
                    subst hwo
                    have HST := hD
                    clear hD
                    rcases (by omega : q = 0 ∨ q = 1 ∨ q = 2) with rfl | rfl | rfl
                    · have z1 : wo.cell? ⟨g, 1, none⟩ = some (.pointer (some ⟨bs 1, 0, none⟩)) := HST.out.ptr (.head _) (i := 1) (by decide)
                      have HVJep1 : Hid ((ms 1).ep = E) := Lib.hid (HB.out.2.1 1 (by decide)).1
                      have HVJld1 : Hid ((ms 1).ld = false) := Lib.hid (HB.out.2.1 1 (by decide)).2.1
                      have HVJlg1 : Hid ((ms 1).lg = lg) := Lib.hid (HB.out.2.1 1 (by decide)).2.2
                      have HVJep0 : Hid ((ms 0).ep = E) := Lib.hid (by rw [HB.out.1, HN0.out])
                      have HVJlg0 : Hid ((ms 0).lg = lg) := Lib.hid (by rw [HB.out.1, HN0.out])
                      obtain ⟨cp, hcp⟩ : ∃ c, copyNd (ms 1) (ms 0) 200 = c := ⟨_, rfl⟩
                      have hbe : Behind E (ms 1) := .inr ⟨HVJep1.out, HVJld1.out⟩
                      have hce := copy_end (L := lg) hbe HLG.out
                      have hcm := copy_more (L := lg) hbe HVJlg1.out
                      rw [← HN0.out, ← HB.out.1, hcp] at hce hcm
                      have HCP : Hid (copyNd (ms 1) (ms 0) 200 = (0, cp.2)) := Lib.hid (by rw [hcp, ← hcm])
                      have HNX : Hid ((upd3 ms 1 cp.2) 0 = n0 ∧ (∀ j, j = 1 ∨ j = 2 → ((upd3 ms 1 cp.2) j).ep = E ∧ ((upd3 ms 1 cp.2) j).ld = false ∧ ((upd3 ms 1 cp.2) j).lg = lg) ∧ ∀ i : Nat, NdI k ((upd3 ms 1 cp.2) i)) := Lib.hid ⟨by rw [upd3_ne _ _ (by decide)]; exact HB.out.1, fun j hj => by
                        by_cases hi : j = 1
                        · subst hi
                          rw [upd3_at]
                          exact hce
                        · rw [upd3_ne _ _ hi]
                          exact HB.out.2.1 j hj, fun i => by
                        by_cases hi : i = 1
                        · subst hi
                          rw [upd3_at, ← hcp]
                          exact (HB.out.2.2 1).copy (HB.out.2.2 0) 200
                        · rw [upd3_ne _ _ hi]
                          exact HB.out.2.2 i⟩
                      have HKR : Hid (∀ (i : Nat) (u : World), KeepT i u u) := Lib.hid fun _ _ => trivial
                      clear hcp hbe hce hcm
                      go_wp2_with fail
                      refine wp_region_specs7 (S := SC25 W X bs g ms (upd3 ms 1 cp.2) lg) (Kp := KeepT) (Sp := [(115, Stl.eq (.pointer (some ⟨bs 1, 0, none⟩))), (116, Stl.eq (.int .u64 E)), (117, Stl.eq (.slice (some ⟨g, 0, none⟩) 3 3)), (118, Stl.eq (.pointer (some ⟨g, 0, none⟩))), (119, Stl.eq (.pointer (some ⟨bs 0, 0, none⟩))), (120, Stl.eq (.int .u64 E)), (121, Stl.eq (.bool false)), (122, Stl.eq (.bool false)), (123, Stl.eq (.pointer (some ⟨bs 1, 0, none⟩))), (124, Stl.eq (.bool false)), (125, Stl.eq (.bool false)), (126, Stl.eq (.bool false)), (127, Stl.eq (.pointer (some ⟨bs 1, 0, none⟩))), (128, slSti), (129, slSti), (130, Stl.eq (.slice (some ⟨g, 0, none⟩) 3 3)), (131, Stl.eq (.pointer (some ⟨g, 0, none⟩))), (132, Stl.eq (.pointer (some ⟨bs 0, 0, none⟩))), (133, slSti), (134, slSti), (135, Stl.eq (.bool true)), (136, Stl.eq (.bool false)), (137, Stl.eq (.bool false)), (138, Stl.eq (.bool false)), (139, Stl.eq (.pointer (some ⟨bs 1, 0, none⟩))), (140, Stl.eq (.slice (some ⟨g, 0, none⟩) 3 3)), (141, Stl.eq (.pointer (some ⟨g, 0, none⟩))), (142, Stl.eq (.pointer (some ⟨bs 0, 0, none⟩))), (143, Stl.eq (.int .i64 0)), (144, Stl.eq (.bool false)), (145, Stl.eq (.bool false))]) (by kernel_rfl) (by kernel_rfl) ((by unfold SC25; exact HST.out.next (kp_drewN _ 1))) ?_ ?_
                      · refine EachOp.cons ?_ ?_
                        · intro L a u hL hst hS hdep hq hno
                          have h12 : a.tmps.getD 12 undef = .pointer (some ⟨bs 1, 0, none⟩) := hst.out 12 (by kernel_rfl)
                          refine .inl ⟨trivial, ?_⟩
                          have g12 := gd h12
                          go_simp
                          exact Went7.same (HKR.out _ _) (by have h := hS; unfold SC25 at h ⊢; rw [slots_ne (d := 115) (t := 128) rfl, slots_ne (d := 115) (t := 129) rfl, slots_ne (d := 115) (t := 133) rfl, slots_ne (d := 115) (t := 134) rfl]; exact h) rfl
                        refine EachOp.cons ?_ ?_
                        · intro L a u hL hst hS hdep hq hno
                          have h115 : a.tmps.getD 115 undef = .pointer (some ⟨bs 1, 0, none⟩) := hdep 115 (by kernel_rfl)
                          refine .inl ⟨trivial, ?_⟩
                          have g115 := gd h115
                          go_simp
                          have c28 : L 28 = false := hno 12 28 (by kernel_rfl)
                          have c20 : L 20 = false := hno 12 20 (by kernel_rfl)
                          have c19 : L 19 = false := hno 12 19 (by kernel_rfl)
                          have c18 : L 18 = false := hno 12 18 (by kernel_rfl)
                          have c14 : L 14 = false := hno 12 14 (by kernel_rfl)
                          have c13 : L 13 = false := hno 12 13 (by kernel_rfl)
                          have hs0 := hS
                          unfold SC25 at hs0
                          simp only [c28, c20, c19, c18, c14, c13, cond_false] at hs0
                          have hk := hs0.ep HC.out (i := 1) (by decide) (HB.out.2.2 1)
                          rw [HVJep1.out] at hk
                          refine hk.mono ?_
                          rintro e' u' ⟨rfl, hs'⟩
                          refine Went7.next ?_ trivial rfl
                          have d28 : doneB L 1 28 = false := c28
                          have d20 : doneB L 1 20 = false := c20
                          have d19 : doneB L 1 19 = false := c19
                          have d18 : doneB L 1 18 = false := c18
                          have d14 : doneB L 1 14 = false := c14
                          have d13 : doneB L 1 13 = false := c13
                          unfold SC25
                          simp only [d28, d20, d19, d18, d14, d13, cond_false]
                          exact hs'
                        refine EachOp.cons ?_ ?_
                        · intro L a u hL hst hS hdep hq hno
                          have h5 : a.tmps.getD 5 undef = .slice (some ⟨g, 0, none⟩) 3 3 := hst.out 5 (by kernel_rfl)
                          refine .inl ⟨trivial, ?_⟩
                          have g5 := gd h5
                          go_simp
                          exact Went7.same (HKR.out _ _) (by have h := hS; unfold SC25 at h ⊢; rw [slots_ne (d := 117) (t := 128) rfl, slots_ne (d := 117) (t := 129) rfl, slots_ne (d := 117) (t := 133) rfl, slots_ne (d := 117) (t := 134) rfl]; exact h) rfl
                        refine EachOp.cons ?_ ?_
                        · intro L a u hL hst hS hdep hq hno
                          have h117 : a.tmps.getD 117 undef = .slice (some ⟨g, 0, none⟩) 3 3 := hdep 117 (by kernel_rfl)
                          refine .inl ⟨trivial, ?_⟩
                          have g117 := gd h117
                          go_simp
                          exact Went7.same (HKR.out _ _) (by have h := hS; unfold SC25 at h ⊢; rw [slots_ne (d := 118) (t := 128) rfl, slots_ne (d := 118) (t := 129) rfl, slots_ne (d := 118) (t := 133) rfl, slots_ne (d := 118) (t := 134) rfl]; exact h) rfl
                        refine EachOp.cons ?_ ?_
                        · intro L a u hL hst hS hdep hq hno
                          have h118 : a.tmps.getD 118 undef = .pointer (some ⟨g, 0, none⟩) := hdep 118 (by kernel_rfl)
                          refine .inl ⟨trivial, ?_⟩
                          have g118 := gd h118
                          have c28 : L 28 = false := hno 12 28 (by kernel_rfl)
                          have yy : u.cell? ⟨g, 0, none⟩ = some (.pointer (some ⟨bs 0, 0, none⟩)) := (hS.st c28).ptr (.head _) (i := 0) (by decide)
                          go_simp
                          exact Went7.same (HKR.out _ _) (by have h := hS; unfold SC25 at h ⊢; rw [slots_ne (d := 119) (t := 128) rfl, slots_ne (d := 119) (t := 129) rfl, slots_ne (d := 119) (t := 133) rfl, slots_ne (d := 119) (t := 134) rfl]; exact h) rfl
                        refine EachOp.cons ?_ ?_
                        · intro L a u hL hst hS hdep hq hno
                          have h119 : a.tmps.getD 119 undef = .pointer (some ⟨bs 0, 0, none⟩) := hdep 119 (by kernel_rfl)
                          refine .inl ⟨trivial, ?_⟩
                          have g119 := gd h119
                          go_simp
                          have c28 : L 28 = false := hno 12 28 (by kernel_rfl)
                          have c20 : L 20 = false := hno 12 20 (by kernel_rfl)
                          have c19 : L 19 = false := hno 12 19 (by kernel_rfl)
                          have c18 : L 18 = false := hno 12 18 (by kernel_rfl)
                          have c14 : L 14 = false := hno 12 14 (by kernel_rfl)
                          have c13 : L 13 = false := hno 12 13 (by kernel_rfl)
                          have hs0 := hS
                          unfold SC25 at hs0
                          simp only [c28, c20, c19, c18, c14, c13, cond_false] at hs0
                          have hk := hs0.ep HC.out (i := 0) (by decide) (HB.out.2.2 0)
                          rw [HVJep0.out] at hk
                          refine hk.mono ?_
                          rintro e' u' ⟨rfl, hs'⟩
                          refine Went7.next ?_ trivial rfl
                          have d28 : doneB L 5 28 = false := c28
                          have d20 : doneB L 5 20 = false := c20
                          have d19 : doneB L 5 19 = false := c19
                          have d18 : doneB L 5 18 = false := c18
                          have d14 : doneB L 5 14 = false := c14
                          have d13 : doneB L 5 13 = false := c13
                          unfold SC25
                          simp only [d28, d20, d19, d18, d14, d13, cond_false]
                          exact hs'
                        refine EachOp.cons ?_ ?_
                        · intro L a u hL hst hS hdep hq hno
                          have h116 : a.tmps.getD 116 undef = .int .u64 E := hdep 116 (by kernel_rfl)
                          have h120 : a.tmps.getD 120 undef = .int .u64 E := hdep 120 (by kernel_rfl)
                          refine .inl ⟨trivial, ?_⟩
                          have g116 := gd h116
                          have g120 := gd h120
                          go_simp
                          exact Went7.same (HKR.out _ _) (by have h := hS; unfold SC25 at h ⊢; rw [slots_ne (d := 121) (t := 128) rfl, slots_ne (d := 121) (t := 129) rfl, slots_ne (d := 121) (t := 133) rfl, slots_ne (d := 121) (t := 134) rfl]; exact h) rfl
                        refine EachOp.cons ?_ ?_
                        · intro L a u hL hst hS hdep hq hno
                          have h121 : a.tmps.getD 121 undef = .bool false := hdep 121 (by kernel_rfl)
                          refine .inl ⟨trivial, ?_⟩
                          have g121 := gd h121
                          go_simp
                          exact Went7.same (HKR.out _ _) (by have h := hS; unfold SC25 at h ⊢; rw [slots_ne (d := 122) (t := 128) rfl, slots_ne (d := 122) (t := 129) rfl, slots_ne (d := 122) (t := 133) rfl, slots_ne (d := 122) (t := 134) rfl]; exact h) rfl
                        refine EachOp.cons ?_ ?_
                        · intro L a u hL hst hS hdep hq hno
                          have h12 : a.tmps.getD 12 undef = .pointer (some ⟨bs 1, 0, none⟩) := hst.out 12 (by kernel_rfl)
                          have h122 : a.tmps.getD 122 undef = .bool false := hdep 122 (by kernel_rfl)
                          refine .inl ⟨⟨122, by kernel_rfl, h122⟩, ?_⟩
                          clear h122
                          have g12 := gd h12
                          go_simp
                          exact Went7.same (HKR.out _ _) (by have h := hS; unfold SC25 at h ⊢; rw [slots_ne (d := 123) (t := 128) rfl, slots_ne (d := 123) (t := 129) rfl, slots_ne (d := 123) (t := 133) rfl, slots_ne (d := 123) (t := 134) rfl]; exact h) rfl
                        refine EachOp.cons ?_ ?_
                        · intro L a u hL hst hS hdep hq hno
                          have h123 : a.tmps.getD 123 undef = .pointer (some ⟨bs 1, 0, none⟩) := hdep 123 (by kernel_rfl)
                          have h122 : a.tmps.getD 122 undef = .bool false := hdep 122 (by kernel_rfl)
                          refine .inl ⟨⟨122, by kernel_rfl, h122⟩, ?_⟩
                          clear h122
                          have g123 := gd h123
                          go_simp
                          have c28 : L 28 = false := hno 12 28 (by kernel_rfl)
                          have c20 : L 20 = false := hno 12 20 (by kernel_rfl)
                          have c19 : L 19 = false := hno 12 19 (by kernel_rfl)
                          have c18 : L 18 = false := hno 12 18 (by kernel_rfl)
                          have c14 : L 14 = false := hno 12 14 (by kernel_rfl)
                          have c13 : L 13 = false := hno 12 13 (by kernel_rfl)
                          have hs0 := hS
                          unfold SC25 at hs0
                          simp only [c28, c20, c19, c18, c14, c13, cond_false] at hs0
                          have hk := hs0.ld HC.out (i := 1) (by decide) (HB.out.2.2 1)
                          rw [HVJld1.out] at hk
                          refine hk.mono ?_
                          rintro e' u' ⟨rfl, hs'⟩
                          refine Went7.next ?_ trivial rfl
                          have d28 : doneB L 9 28 = false := c28
                          have d20 : doneB L 9 20 = false := c20
                          have d19 : doneB L 9 19 = false := c19
                          have d18 : doneB L 9 18 = false := c18
                          have d14 : doneB L 9 14 = false := c14
                          have d13 : doneB L 9 13 = false := c13
                          unfold SC25
                          simp only [d28, d20, d19, d18, d14, d13, cond_false]
                          exact hs'
                        refine EachOp.cons ?_ ?_
                        · intro L a u hL hst hS hdep hq hno
                          have h122 : a.tmps.getD 122 undef = .bool false := hdep 122 (by kernel_rfl)
                          have h124 : a.tmps.getD 124 undef = .bool false := hdep 124 (by kernel_rfl)
                          refine .inl ⟨trivial, ?_⟩
                          have g122 := gd h122
                          have g124 := gd h124
                          go_simp
                          exact Went7.same (HKR.out _ _) (by have h := hS; unfold SC25 at h ⊢; rw [slots_ne (d := 125) (t := 128) rfl, slots_ne (d := 125) (t := 129) rfl, slots_ne (d := 125) (t := 133) rfl, slots_ne (d := 125) (t := 134) rfl]; exact h) rfl
                        refine EachOp.cons ?_ ?_
                        · intro L a u hL hst hS hdep hq hno
                          have h125 : a.tmps.getD 125 undef = .bool false := hdep 125 (by kernel_rfl)
                          refine .inl ⟨trivial, ?_⟩
                          have g125 := gd h125
                          go_simp
                          exact Went7.same (HKR.out _ _) (by have h := hS; unfold SC25 at h ⊢; rw [slots_ne (d := 126) (t := 128) rfl, slots_ne (d := 126) (t := 129) rfl, slots_ne (d := 126) (t := 133) rfl, slots_ne (d := 126) (t := 134) rfl]; exact h) rfl
                        refine EachOp.cons ?_ ?_
                        · intro L a u hL hst hS hdep hq hno
                          have h12 : a.tmps.getD 12 undef = .pointer (some ⟨bs 1, 0, none⟩) := hst.out 12 (by kernel_rfl)
                          have h126 : a.tmps.getD 126 undef = .bool false := hdep 126 (by kernel_rfl)
                          refine .inl ⟨⟨126, by kernel_rfl, h126⟩, ?_⟩
                          clear h126
                          have g12 := gd h12
                          go_simp
                          exact Went7.same (HKR.out _ _) (by have h := hS; unfold SC25 at h ⊢; rw [slots_ne (d := 127) (t := 128) rfl, slots_ne (d := 127) (t := 129) rfl, slots_ne (d := 127) (t := 133) rfl, slots_ne (d := 127) (t := 134) rfl]; exact h) rfl
                        refine EachOp.cons ?_ ?_
                        · intro L a u hL hst hS hdep hq hno
                          have h127 : a.tmps.getD 127 undef = .pointer (some ⟨bs 1, 0, none⟩) := hdep 127 (by kernel_rfl)
                          have h126 : a.tmps.getD 126 undef = .bool false := hdep 126 (by kernel_rfl)
                          refine .inl ⟨⟨126, by kernel_rfl, h126⟩, ?_⟩
                          clear h126
                          have g127 := gd h127
                          go_simp
                          have c28 : L 28 = false := hno 12 28 (by kernel_rfl)
                          have c20 : L 20 = false := hno 12 20 (by kernel_rfl)
                          have c19 : L 19 = false := hno 12 19 (by kernel_rfl)
                          have c18 : L 18 = false := hno 12 18 (by kernel_rfl)
                          have c14 : L 14 = false := hno 12 14 (by kernel_rfl)
                          have c13 : L 13 = false := hL
                          have hs0 := hS
                          unfold SC25 at hs0
                          simp only [c28, c20, c19, c18, c14, c13, cond_false] at hs0
                          have hk := hs0.log HC.out (i := 1) (by decide) (HB.out.2.2 1)
                          rw [HVJlg1.out] at hk
                          refine hk.mono ?_
                          rintro e' u' ⟨A, m, d, ⟨rfl, _⟩, h2⟩
                          refine Went7.next ?_ trivial ⟨A, m, d, rfl⟩
                          have d28 : doneB L 13 28 = false := c28
                          have d20 : doneB L 13 20 = false := c20
                          have d19 : doneB L 13 19 = false := c19
                          have d18 : doneB L 13 18 = false := c18
                          have d14 : doneB L 13 14 = false := c14
                          have d13 : doneB L 13 13 = true := done_same
                          have hsz : 128 < a.tmps.size := by rw [hst.size]; exact Nat.le_of_ble_eq_true (by kernel_rfl)
                          unfold SC25
                          simp only [d28, d20, d19, d18, d14, d13, cond_true, cond_false]
                          exact ⟨A, m, d, slots_eq hsz, h2⟩
                        refine EachOp.cons ?_ ?_
                        · intro L a u hL hst hS hdep hq hno
                          obtain ⟨A128, m128, d128, h128⟩ := hdep 128 (by kernel_rfl)
                          have h126 : a.tmps.getD 126 undef = .bool false := hdep 126 (by kernel_rfl)
                          refine .inl ⟨⟨126, by kernel_rfl, h126⟩, ?_⟩
                          clear h126
                          have g128 := gd h128
                          go_simp
                          have c28 : L 28 = false := hno 12 28 (by kernel_rfl)
                          have c20 : L 20 = false := hno 12 20 (by kernel_rfl)
                          have c19 : L 19 = false := hno 12 19 (by kernel_rfl)
                          have c18 : L 18 = false := hno 12 18 (by kernel_rfl)
                          have c14 : L 14 = false := hL
                          have c13 : L 13 = true := hq 12 13 (by kernel_rfl)
                          have hs0 := hS
                          unfold SC25 at hs0
                          simp only [c28, c20, c19, c18, c14, c13, cond_true, cond_false] at hs0
                          obtain ⟨A, m, d, ht, hs1⟩ := hs0
                          have hv128 : Value.slice A128 m128 d128 = .slice A m d := h128.symm.trans ht
                          injection hv128 with e1 e2 e3
                          subst e1 e2 e3
                          have hlr := hs1.lr (.head _)
                          have hm : m128 ≤ 1000 := by have h1 : lg.length = m128 := hlr.len; have h2 := HLG.out; omega
                          refine (lentries_new _ m128 d128 lg u hlr hm).mono ?_
                          rintro e' u' ⟨A', c', rfl, hl, hn, hb⟩
                          have h2 := (hs1.row hb hl hn).less (rs' := [(A', m128, lg)]) (fun _ h => h) (fun _ h => h) (fun q h => by rw [List.mem_singleton.1 h]; exact .head _) fun _ h => h
                          refine Went7.next ?_ trivial ⟨A', m128, c', rfl⟩
                          have d28 : doneB L 14 28 = false := c28
                          have d20 : doneB L 14 20 = false := c20
                          have d19 : doneB L 14 19 = false := c19
                          have d18 : doneB L 14 18 = false := c18
                          have d14 : doneB L 14 14 = true := done_same
                          have hsz : 129 < a.tmps.size := by rw [hst.size]; exact Nat.le_of_ble_eq_true (by kernel_rfl)
                          unfold SC25
                          simp only [d28, d20, d19, d18, d14, cond_true, cond_false]
                          exact ⟨A', m128, c', slots_eq hsz, h2⟩
                        refine EachOp.cons ?_ ?_
                        · intro L a u hL hst hS hdep hq hno
                          have h5 : a.tmps.getD 5 undef = .slice (some ⟨g, 0, none⟩) 3 3 := hst.out 5 (by kernel_rfl)
                          have h126 : a.tmps.getD 126 undef = .bool false := hdep 126 (by kernel_rfl)
                          refine .inl ⟨⟨126, by kernel_rfl, h126⟩, ?_⟩
                          clear h126
                          have g5 := gd h5
                          go_simp
                          exact Went7.same (HKR.out _ _) (by have h := hS; unfold SC25 at h ⊢; rw [slots_ne (d := 130) (t := 128) rfl, slots_ne (d := 130) (t := 129) rfl, slots_ne (d := 130) (t := 133) rfl, slots_ne (d := 130) (t := 134) rfl]; exact h) rfl
                        refine EachOp.cons ?_ ?_
                        · intro L a u hL hst hS hdep hq hno
                          have h130 : a.tmps.getD 130 undef = .slice (some ⟨g, 0, none⟩) 3 3 := hdep 130 (by kernel_rfl)
                          have h126 : a.tmps.getD 126 undef = .bool false := hdep 126 (by kernel_rfl)
                          refine .inl ⟨⟨126, by kernel_rfl, h126⟩, ?_⟩
                          clear h126
                          have g130 := gd h130
                          go_simp
                          exact Went7.same (HKR.out _ _) (by have h := hS; unfold SC25 at h ⊢; rw [slots_ne (d := 131) (t := 128) rfl, slots_ne (d := 131) (t := 129) rfl, slots_ne (d := 131) (t := 133) rfl, slots_ne (d := 131) (t := 134) rfl]; exact h) rfl
                        refine EachOp.cons ?_ ?_
                        · intro L a u hL hst hS hdep hq hno
                          have h131 : a.tmps.getD 131 undef = .pointer (some ⟨g, 0, none⟩) := hdep 131 (by kernel_rfl)
                          have h126 : a.tmps.getD 126 undef = .bool false := hdep 126 (by kernel_rfl)
                          refine .inl ⟨⟨126, by kernel_rfl, h126⟩, ?_⟩
                          clear h126
                          have g131 := gd h131
                          have c28 : L 28 = false := hno 12 28 (by kernel_rfl)
                          have yy : u.cell? ⟨g, 0, none⟩ = some (.pointer (some ⟨bs 0, 0, none⟩)) := (hS.st c28).ptr (.head _) (i := 0) (by decide)
                          go_simp
                          exact Went7.same (HKR.out _ _) (by have h := hS; unfold SC25 at h ⊢; rw [slots_ne (d := 132) (t := 128) rfl, slots_ne (d := 132) (t := 129) rfl, slots_ne (d := 132) (t := 133) rfl, slots_ne (d := 132) (t := 134) rfl]; exact h) rfl
                        refine EachOp.cons ?_ ?_
                        · intro L a u hL hst hS hdep hq hno
                          have h132 : a.tmps.getD 132 undef = .pointer (some ⟨bs 0, 0, none⟩) := hdep 132 (by kernel_rfl)
                          have h126 : a.tmps.getD 126 undef = .bool false := hdep 126 (by kernel_rfl)
                          refine .inl ⟨⟨126, by kernel_rfl, h126⟩, ?_⟩
                          clear h126
                          have g132 := gd h132
                          go_simp
                          have c28 : L 28 = false := hno 12 28 (by kernel_rfl)
                          have c20 : L 20 = false := hno 12 20 (by kernel_rfl)
                          have c19 : L 19 = false := hno 12 19 (by kernel_rfl)
                          have c18 : L 18 = false := hL
                          have c14 : L 14 = true := hq 12 14 (by kernel_rfl)
                          have hs0 := hS
                          unfold SC25 at hs0
                          simp only [c28, c20, c19, c18, c14, cond_true, cond_false] at hs0
                          obtain ⟨A, m, d, ht, hs1⟩ := hs0
                          have hk := hs1.log HC.out (i := 0) (by decide) (HB.out.2.2 0)
                          rw [HVJlg0.out] at hk
                          refine hk.mono ?_
                          rintro e' u' ⟨A', m', d', ⟨rfl, _⟩, h2⟩
                          refine Went7.next ?_ trivial ⟨A', m', d', rfl⟩
                          have d28 : doneB L 18 28 = false := c28
                          have d20 : doneB L 18 20 = false := c20
                          have d19 : doneB L 18 19 = false := c19
                          have d18 : doneB L 18 18 = true := done_same
                          have hsz : 133 < a.tmps.size := by rw [hst.size]; exact Nat.le_of_ble_eq_true (by kernel_rfl)
                          unfold SC25
                          simp only [d28, d20, d19, d18, cond_true, cond_false]
                          exact ⟨A, m, d, A', m', d', (slots_ne (d := 133) (t := 129) rfl).trans ht, slots_eq hsz, h2⟩
                        refine EachOp.cons ?_ ?_
                        · intro L a u hL hst hS hdep hq hno
                          obtain ⟨A133, m133, d133, h133⟩ := hdep 133 (by kernel_rfl)
                          have h126 : a.tmps.getD 126 undef = .bool false := hdep 126 (by kernel_rfl)
                          refine .inl ⟨⟨126, by kernel_rfl, h126⟩, ?_⟩
                          clear h126
                          have g133 := gd h133
                          go_simp
                          have c28 : L 28 = false := hno 12 28 (by kernel_rfl)
                          have c20 : L 20 = false := hno 12 20 (by kernel_rfl)
                          have c19 : L 19 = false := hL
                          have c18 : L 18 = true := hq 12 18 (by kernel_rfl)
                          have hs0 := hS
                          unfold SC25 at hs0
                          simp only [c28, c20, c19, c18, cond_true, cond_false] at hs0
                          obtain ⟨B, mb, db, A, m, d, htb, ht, hs1⟩ := hs0
                          have hv133 : Value.slice A133 m133 d133 = .slice A m d := h133.symm.trans ht
                          injection hv133 with e1 e2 e3
                          subst e1 e2 e3
                          have hlr := hs1.lr (.head _)
                          have hm : m133 ≤ 1000 := by have h1 : lg.length = m133 := hlr.len; have h2 := HLG.out; omega
                          refine (lentries_new _ m133 d133 lg u hlr hm).mono ?_
                          rintro e' u' ⟨A', c', rfl, hl, hn, hb⟩
                          have h2 := (hs1.row hb hl hn).less (rs' := [(A', m133, lg), (B, mb, lg)]) (fun _ h => h) (fun _ h => h) (fun q h => (List.mem_cons.1 h).elim (fun e => by rw [e]; exact .head _) fun h => by rw [List.mem_singleton.1 h]; exact .tail _ (.tail _ (.head _))) fun _ h => h
                          refine Went7.next ?_ trivial ⟨A', m133, c', rfl⟩
                          have d28 : doneB L 19 28 = false := c28
                          have d20 : doneB L 19 20 = false := c20
                          have d19 : doneB L 19 19 = true := done_same
                          have hsz : 134 < a.tmps.size := by rw [hst.size]; exact Nat.le_of_ble_eq_true (by kernel_rfl)
                          unfold SC25
                          simp only [d28, d20, d19, cond_true, cond_false]
                          exact ⟨B, mb, db, A', m133, c', (slots_ne (d := 134) (t := 129) rfl).trans htb, slots_eq hsz, h2⟩
                        refine EachOp.cons ?_ ?_
                        · intro L a u hL hst hS hdep hq hno
                          obtain ⟨A129, m129, d129, h129⟩ := hdep 129 (by kernel_rfl)
                          obtain ⟨A134, m134, d134, h134⟩ := hdep 134 (by kernel_rfl)
                          have h126 : a.tmps.getD 126 undef = .bool false := hdep 126 (by kernel_rfl)
                          refine .inl ⟨⟨126, by kernel_rfl, h126⟩, ?_⟩
                          clear h126
                          have g129 := gd h129
                          have g134 := gd h134
                          go_simp
                          have c28 : L 28 = false := hno 12 28 (by kernel_rfl)
                          have c20 : L 20 = false := hL
                          have c19 : L 19 = true := hq 12 19 (by kernel_rfl)
                          have hs0 := hS
                          unfold SC25 at hs0
                          simp only [c28, c20, c19, cond_true, cond_false] at hs0
                          obtain ⟨B, mb, db, A, m, d, htb, ht, hs1⟩ := hs0
                          have hv134 : Value.slice A134 m134 d134 = .slice A m d := h134.symm.trans ht
                          injection hv134 with e1 e2 e3
                          subst e1 e2 e3
                          have hv129 : Value.slice A129 m129 d129 = .slice B mb db := h129.symm.trans htb
                          injection hv129 with e1 e2 e3
                          subst e1 e2 e3
                          have hlr := hs1.lr (.head _)
                          have hlb := hs1.lr (.tail _ (.head _))
                          have hm : m134 ≤ 1000000 := by have h1 : lg.length = m134 := hlr.len; have h2 := HLG.out; omega
                          have hm2 : m129 ≤ 1000000 := by have h1 : lg.length = m129 := hlb.len; have h2 := HLG.out; omega
                          refine (rsame15_ok _ _ m129 m134 d129 d134 lg lg u hlb hlr hm2 hm true (Lib.hid (by simp))).mono ?_
                          rintro e' u' ⟨rfl, nn, hu'⟩
                          have h2 := (hs1.next (show Below u.heap.size u u' from hu' ▸ kp_drewN _ _)).less (rs' := []) (fun _ h => h) (fun _ h => h) (fun _ h => nomatch h) fun _ h => h
                          refine Went7.next ?_ trivial rfl
                          have d28 : doneB L 20 28 = false := c28
                          have d20 : doneB L 20 20 = true := done_same
                          unfold SC25
                          simp only [d28, d20, cond_true, cond_false]
                          exact h2
                        refine EachOp.cons ?_ ?_
                        · intro L a u hL hst hS hdep hq hno
                          have h135 : a.tmps.getD 135 undef = .bool true := hdep 135 (by kernel_rfl)
                          have h126 : a.tmps.getD 126 undef = .bool false := hdep 126 (by kernel_rfl)
                          refine .inl ⟨⟨126, by kernel_rfl, h126⟩, ?_⟩
                          clear h126
                          have g135 := gd h135
                          go_simp
                          exact Went7.same (HKR.out _ _) (by have h := hS; unfold SC25 at h ⊢; rw [slots_ne (d := 136) (t := 128) rfl, slots_ne (d := 136) (t := 129) rfl, slots_ne (d := 136) (t := 133) rfl, slots_ne (d := 136) (t := 134) rfl]; exact h) rfl
                        refine EachOp.cons ?_ ?_
                        · intro L a u hL hst hS hdep hq hno
                          have h126 : a.tmps.getD 126 undef = .bool false := hdep 126 (by kernel_rfl)
                          have h136 : a.tmps.getD 136 undef = .bool false := hdep 136 (by kernel_rfl)
                          refine .inl ⟨trivial, ?_⟩
                          have g126 := gd h126
                          have g136 := gd h136
                          go_simp
                          exact Went7.same (HKR.out _ _) (by have h := hS; unfold SC25 at h ⊢; rw [slots_ne (d := 137) (t := 128) rfl, slots_ne (d := 137) (t := 129) rfl, slots_ne (d := 137) (t := 133) rfl, slots_ne (d := 137) (t := 134) rfl]; exact h) rfl
                        refine EachOp.cons ?_ ?_
                        · intro L a u hL hst hS hdep hq hno
                          have h137 : a.tmps.getD 137 undef = .bool false := hdep 137 (by kernel_rfl)
                          refine .inl ⟨trivial, ?_⟩
                          have g137 := gd h137
                          go_simp
                          exact Went7.same (HKR.out _ _) (by have h := hS; unfold SC25 at h ⊢; rw [slots_ne (d := 138) (t := 128) rfl, slots_ne (d := 138) (t := 129) rfl, slots_ne (d := 138) (t := 133) rfl, slots_ne (d := 138) (t := 134) rfl]; exact h) rfl
                        refine EachOp.cons ?_ ?_
                        · intro L a u hL hst hS hdep hq hno
                          have h12 : a.tmps.getD 12 undef = .pointer (some ⟨bs 1, 0, none⟩) := hst.out 12 (by kernel_rfl)
                          have h138 : a.tmps.getD 138 undef = .bool false := hdep 138 (by kernel_rfl)
                          refine .inl ⟨⟨138, by kernel_rfl, h138⟩, ?_⟩
                          clear h138
                          have g12 := gd h12
                          go_simp
                          exact Went7.same (HKR.out _ _) (by have h := hS; unfold SC25 at h ⊢; rw [slots_ne (d := 139) (t := 128) rfl, slots_ne (d := 139) (t := 129) rfl, slots_ne (d := 139) (t := 133) rfl, slots_ne (d := 139) (t := 134) rfl]; exact h) rfl
                        refine EachOp.cons ?_ ?_
                        · intro L a u hL hst hS hdep hq hno
                          have h5 : a.tmps.getD 5 undef = .slice (some ⟨g, 0, none⟩) 3 3 := hst.out 5 (by kernel_rfl)
                          have h138 : a.tmps.getD 138 undef = .bool false := hdep 138 (by kernel_rfl)
                          refine .inl ⟨⟨138, by kernel_rfl, h138⟩, ?_⟩
                          clear h138
                          have g5 := gd h5
                          go_simp
                          exact Went7.same (HKR.out _ _) (by have h := hS; unfold SC25 at h ⊢; rw [slots_ne (d := 140) (t := 128) rfl, slots_ne (d := 140) (t := 129) rfl, slots_ne (d := 140) (t := 133) rfl, slots_ne (d := 140) (t := 134) rfl]; exact h) rfl
                        refine EachOp.cons ?_ ?_
                        · intro L a u hL hst hS hdep hq hno
                          have h140 : a.tmps.getD 140 undef = .slice (some ⟨g, 0, none⟩) 3 3 := hdep 140 (by kernel_rfl)
                          have h138 : a.tmps.getD 138 undef = .bool false := hdep 138 (by kernel_rfl)
                          refine .inl ⟨⟨138, by kernel_rfl, h138⟩, ?_⟩
                          clear h138
                          have g140 := gd h140
                          go_simp
                          exact Went7.same (HKR.out _ _) (by have h := hS; unfold SC25 at h ⊢; rw [slots_ne (d := 141) (t := 128) rfl, slots_ne (d := 141) (t := 129) rfl, slots_ne (d := 141) (t := 133) rfl, slots_ne (d := 141) (t := 134) rfl]; exact h) rfl
                        refine EachOp.cons ?_ ?_
                        · intro L a u hL hst hS hdep hq hno
                          have h141 : a.tmps.getD 141 undef = .pointer (some ⟨g, 0, none⟩) := hdep 141 (by kernel_rfl)
                          have h138 : a.tmps.getD 138 undef = .bool false := hdep 138 (by kernel_rfl)
                          refine .inl ⟨⟨138, by kernel_rfl, h138⟩, ?_⟩
                          clear h138
                          have g141 := gd h141
                          have c28 : L 28 = false := hno 12 28 (by kernel_rfl)
                          have yy : u.cell? ⟨g, 0, none⟩ = some (.pointer (some ⟨bs 0, 0, none⟩)) := (hS.st c28).ptr (.head _) (i := 0) (by decide)
                          go_simp
                          exact Went7.same (HKR.out _ _) (by have h := hS; unfold SC25 at h ⊢; rw [slots_ne (d := 142) (t := 128) rfl, slots_ne (d := 142) (t := 129) rfl, slots_ne (d := 142) (t := 133) rfl, slots_ne (d := 142) (t := 134) rfl]; exact h) rfl
                        refine EachOp.cons ?_ ?_
                        · intro L a u hL hst hS hdep hq hno
                          have h139 : a.tmps.getD 139 undef = .pointer (some ⟨bs 1, 0, none⟩) := hdep 139 (by kernel_rfl)
                          have h142 : a.tmps.getD 142 undef = .pointer (some ⟨bs 0, 0, none⟩) := hdep 142 (by kernel_rfl)
                          have h138 : a.tmps.getD 138 undef = .bool false := hdep 138 (by kernel_rfl)
                          refine .inl ⟨⟨138, by kernel_rfl, h138⟩, ?_⟩
                          clear h138
                          have g139 := gd h139
                          have g142 := gd h142
                          go_simp
                          have c28 : L 28 = false := hL
                          have c20 : L 20 = true := hq 12 20 (by kernel_rfl)
                          have hs0 := hS
                          unfold SC25 at hs0
                          simp only [c28, c20, cond_true, cond_false] at hs0
                          have hk := hs0.copy HC.out (i := 1) (j := 0) (by decide) (by decide) (by decide) (HB.out.2.2 1) (HB.out.2.2 0) 200 (by unfold I64n; decide)
                          rw [HCP.out] at hk
                          refine hk.mono ?_
                          rintro e' u' ⟨rfl, hs'⟩
                          refine Went7.next ?_ trivial rfl
                          have d28 : doneB L 28 28 = true := done_same
                          unfold SC25
                          simp only [d28, cond_true]
                          exact hs'
                        refine EachOp.cons ?_ ?_
                        · intro L a u hL hst hS hdep hq hno
                          have h143 : a.tmps.getD 143 undef = .int .i64 0 := hdep 143 (by kernel_rfl)
                          have h138 : a.tmps.getD 138 undef = .bool false := hdep 138 (by kernel_rfl)
                          refine .inl ⟨⟨138, by kernel_rfl, h138⟩, ?_⟩
                          clear h138
                          have g143 := gd h143
                          go_simp
                          exact Went7.same (HKR.out _ _) (by have h := hS; unfold SC25 at h ⊢; rw [slots_ne (d := 144) (t := 128) rfl, slots_ne (d := 144) (t := 129) rfl, slots_ne (d := 144) (t := 133) rfl, slots_ne (d := 144) (t := 134) rfl]; exact h) rfl
                        refine EachOp.cons ?_ ?_
                        · intro L a u hL hst hS hdep hq hno
                          have h138 : a.tmps.getD 138 undef = .bool false := hdep 138 (by kernel_rfl)
                          have h144 : a.tmps.getD 144 undef = .bool false := hdep 144 (by kernel_rfl)
                          refine .inl ⟨trivial, ?_⟩
                          have g138 := gd h138
                          have g144 := gd h144
                          go_simp
                          exact Went7.same (HKR.out _ _) (by have h := hS; unfold SC25 at h ⊢; rw [slots_ne (d := 145) (t := 128) rfl, slots_ne (d := 145) (t := 129) rfl, slots_ne (d := 145) (t := 133) rfl, slots_ne (d := 145) (t := 134) rfl]; exact h) rfl
                        exact EachOp.nil
                      · intro L a u hLs hst hS hdep
                        have h115 : a.tmps.getD 115 undef = .pointer (some ⟨bs 1, 0, none⟩) := hdep 115 (by kernel_rfl)
                        have h116 : a.tmps.getD 116 undef = .int .u64 E := hdep 116 (by kernel_rfl)
                        have h117 : a.tmps.getD 117 undef = .slice (some ⟨g, 0, none⟩) 3 3 := hdep 117 (by kernel_rfl)
                        have h118 : a.tmps.getD 118 undef = .pointer (some ⟨g, 0, none⟩) := hdep 118 (by kernel_rfl)
                        have h119 : a.tmps.getD 119 undef = .pointer (some ⟨bs 0, 0, none⟩) := hdep 119 (by kernel_rfl)
                        have h120 : a.tmps.getD 120 undef = .int .u64 E := hdep 120 (by kernel_rfl)
                        have h121 : a.tmps.getD 121 undef = .bool false := hdep 121 (by kernel_rfl)
                        have h122 : a.tmps.getD 122 undef = .bool false := hdep 122 (by kernel_rfl)
                        have h123 : a.tmps.getD 123 undef = .pointer (some ⟨bs 1, 0, none⟩) := hdep 123 (by kernel_rfl)
                        have h124 : a.tmps.getD 124 undef = .bool false := hdep 124 (by kernel_rfl)
                        have h125 : a.tmps.getD 125 undef = .bool false := hdep 125 (by kernel_rfl)
                        have h126 : a.tmps.getD 126 undef = .bool false := hdep 126 (by kernel_rfl)
                        have h127 : a.tmps.getD 127 undef = .pointer (some ⟨bs 1, 0, none⟩) := hdep 127 (by kernel_rfl)
                        obtain ⟨A128, m128, d128, h128⟩ := hdep 128 (by kernel_rfl)
                        obtain ⟨A129, m129, d129, h129⟩ := hdep 129 (by kernel_rfl)
                        have h130 : a.tmps.getD 130 undef = .slice (some ⟨g, 0, none⟩) 3 3 := hdep 130 (by kernel_rfl)
                        have h131 : a.tmps.getD 131 undef = .pointer (some ⟨g, 0, none⟩) := hdep 131 (by kernel_rfl)
                        have h132 : a.tmps.getD 132 undef = .pointer (some ⟨bs 0, 0, none⟩) := hdep 132 (by kernel_rfl)
                        obtain ⟨A133, m133, d133, h133⟩ := hdep 133 (by kernel_rfl)
                        obtain ⟨A134, m134, d134, h134⟩ := hdep 134 (by kernel_rfl)
                        have h135 : a.tmps.getD 135 undef = .bool true := hdep 135 (by kernel_rfl)
                        have h136 : a.tmps.getD 136 undef = .bool false := hdep 136 (by kernel_rfl)
                        have h137 : a.tmps.getD 137 undef = .bool false := hdep 137 (by kernel_rfl)
                        have h138 : a.tmps.getD 138 undef = .bool false := hdep 138 (by kernel_rfl)
                        have h139 : a.tmps.getD 139 undef = .pointer (some ⟨bs 1, 0, none⟩) := hdep 139 (by kernel_rfl)
                        have h140 : a.tmps.getD 140 undef = .slice (some ⟨g, 0, none⟩) 3 3 := hdep 140 (by kernel_rfl)
                        have h141 : a.tmps.getD 141 undef = .pointer (some ⟨g, 0, none⟩) := hdep 141 (by kernel_rfl)
                        have h142 : a.tmps.getD 142 undef = .pointer (some ⟨bs 0, 0, none⟩) := hdep 142 (by kernel_rfl)
                        have h143 : a.tmps.getD 143 undef = .int .i64 0 := hdep 143 (by kernel_rfl)
                        have h144 : a.tmps.getD 144 undef = .bool false := hdep 144 (by kernel_rfl)
                        have h145 : a.tmps.getD 145 undef = .bool false := hdep 145 (by kernel_rfl)
                        have hfr := hst.frame [(115, .pointer (some ⟨bs 1, 0, none⟩)), (116, .int .u64 E), (117, .slice (some ⟨g, 0, none⟩) 3 3), (118, .pointer (some ⟨g, 0, none⟩)), (119, .pointer (some ⟨bs 0, 0, none⟩)), (120, .int .u64 E), (121, .bool false), (122, .bool false), (123, .pointer (some ⟨bs 1, 0, none⟩)), (124, .bool false), (125, .bool false), (126, .bool false), (127, .pointer (some ⟨bs 1, 0, none⟩)), (128, .slice A128 m128 d128), (129, .slice A129 m129 d129), (130, .slice (some ⟨g, 0, none⟩) 3 3), (131, .pointer (some ⟨g, 0, none⟩)), (132, .pointer (some ⟨bs 0, 0, none⟩)), (133, .slice A133 m133 d133), (134, .slice A134 m134 d134), (135, .bool true), (136, .bool false), (137, .bool false), (138, .bool false), (139, .pointer (some ⟨bs 1, 0, none⟩)), (140, .slice (some ⟨g, 0, none⟩) 3 3), (141, .pointer (some ⟨g, 0, none⟩)), (142, .pointer (some ⟨bs 0, 0, none⟩)), (143, .int .i64 0), (144, .bool false), (145, .bool false)] (by kernel_rfl) ⟨h115, h116, h117, h118, h119, h120, h121, h122, h123, h124, h125, h126, h127, h128, h129, h130, h131, h132, h133, h134, h135, h136, h137, h138, h139, h140, h141, h142, h143, h144, h145, trivial⟩
                        clear hst hdep h115 h116 h117 h118 h119 h120 h121 h122 h123 h124 h125 h126 h127 h128 h129 h130 h131 h132 h133 h134 h135 h136 h137 h138 h139 h140 h141 h142 h143 h144 h145
                        subst hfr
                        simp only [List.foldl_cons, List.foldl_nil, List.setIfInBounds_toArray, List.set_cons_zero, List.set_cons_succ]
                        have hs1 := hS
                        unfold SC25 at hs1
                        rw [hLs 28 (by kernel_rfl)] at hs1
                        have H5 : Hid (St15 W (Tri X bs (upd3 ms 1 cp.2)) T0 [(g, bs)] [] [] [] u) := Lib.hid hs1
                        clear hS hLs hs1 HST HB HCP
                        go_wp2_with fail
                        go_roundw
                        case rel => exact ⟨1, _, by omega, by go_num, HNX, H5⟩
                        case measure => simp [intOf]
                    · have z1 : wo.cell? ⟨g, 2, none⟩ = some (.pointer (some ⟨bs 2, 0, none⟩)) := HST.out.ptr (.head _) (i := 2) (by decide)
                      have HVJep2 : Hid ((ms 2).ep = E) := Lib.hid (HB.out.2.1 2 (by decide)).1
                      have HVJld2 : Hid ((ms 2).ld = false) := Lib.hid (HB.out.2.1 2 (by decide)).2.1
                      have HVJlg2 : Hid ((ms 2).lg = lg) := Lib.hid (HB.out.2.1 2 (by decide)).2.2
                      have HVJep0 : Hid ((ms 0).ep = E) := Lib.hid (by rw [HB.out.1, HN0.out])
                      have HVJlg0 : Hid ((ms 0).lg = lg) := Lib.hid (by rw [HB.out.1, HN0.out])
                      obtain ⟨cp, hcp⟩ : ∃ c, copyNd (ms 2) (ms 0) 200 = c := ⟨_, rfl⟩
                      have hbe : Behind E (ms 2) := .inr ⟨HVJep2.out, HVJld2.out⟩
                      have hce := copy_end (L := lg) hbe HLG.out
                      have hcm := copy_more (L := lg) hbe HVJlg2.out
                      rw [← HN0.out, ← HB.out.1, hcp] at hce hcm
                      have HCP : Hid (copyNd (ms 2) (ms 0) 200 = (0, cp.2)) := Lib.hid (by rw [hcp, ← hcm])
                      have HNX : Hid ((upd3 ms 2 cp.2) 0 = n0 ∧ (∀ j, j = 1 ∨ j = 2 → ((upd3 ms 2 cp.2) j).ep = E ∧ ((upd3 ms 2 cp.2) j).ld = false ∧ ((upd3 ms 2 cp.2) j).lg = lg) ∧ ∀ i : Nat, NdI k ((upd3 ms 2 cp.2) i)) := Lib.hid ⟨by rw [upd3_ne _ _ (by decide)]; exact HB.out.1, fun j hj => by
                        by_cases hi : j = 2
                        · subst hi
                          rw [upd3_at]
                          exact hce
                        · rw [upd3_ne _ _ hi]
                          exact HB.out.2.1 j hj, fun i => by
                        by_cases hi : i = 2
                        · subst hi
                          rw [upd3_at, ← hcp]
                          exact (HB.out.2.2 2).copy (HB.out.2.2 0) 200
                        · rw [upd3_ne _ _ hi]
                          exact HB.out.2.2 i⟩
                      have HKR : Hid (∀ (i : Nat) (u : World), KeepT i u u) := Lib.hid fun _ _ => trivial
                      clear hcp hbe hce hcm
                      go_wp2_with fail
                      refine wp_region_specs7 (S := SC25 W X bs g ms (upd3 ms 2 cp.2) lg) (Kp := KeepT) (Sp := [(115, Stl.eq (.pointer (some ⟨bs 2, 0, none⟩))), (116, Stl.eq (.int .u64 E)), (117, Stl.eq (.slice (some ⟨g, 0, none⟩) 3 3)), (118, Stl.eq (.pointer (some ⟨g, 0, none⟩))), (119, Stl.eq (.pointer (some ⟨bs 0, 0, none⟩))), (120, Stl.eq (.int .u64 E)), (121, Stl.eq (.bool false)), (122, Stl.eq (.bool false)), (123, Stl.eq (.pointer (some ⟨bs 2, 0, none⟩))), (124, Stl.eq (.bool false)), (125, Stl.eq (.bool false)), (126, Stl.eq (.bool false)), (127, Stl.eq (.pointer (some ⟨bs 2, 0, none⟩))), (128, slSti), (129, slSti), (130, Stl.eq (.slice (some ⟨g, 0, none⟩) 3 3)), (131, Stl.eq (.pointer (some ⟨g, 0, none⟩))), (132, Stl.eq (.pointer (some ⟨bs 0, 0, none⟩))), (133, slSti), (134, slSti), (135, Stl.eq (.bool true)), (136, Stl.eq (.bool false)), (137, Stl.eq (.bool false)), (138, Stl.eq (.bool false)), (139, Stl.eq (.pointer (some ⟨bs 2, 0, none⟩))), (140, Stl.eq (.slice (some ⟨g, 0, none⟩) 3 3)), (141, Stl.eq (.pointer (some ⟨g, 0, none⟩))), (142, Stl.eq (.pointer (some ⟨bs 0, 0, none⟩))), (143, Stl.eq (.int .i64 0)), (144, Stl.eq (.bool false)), (145, Stl.eq (.bool false))]) (by kernel_rfl) (by kernel_rfl) ((by unfold SC25; exact HST.out.next (kp_drewN _ 1))) ?_ ?_
                      · refine EachOp.cons ?_ ?_
                        · intro L a u hL hst hS hdep hq hno
                          have h12 : a.tmps.getD 12 undef = .pointer (some ⟨bs 2, 0, none⟩) := hst.out 12 (by kernel_rfl)
                          refine .inl ⟨trivial, ?_⟩
                          have g12 := gd h12
                          go_simp
                          exact Went7.same (HKR.out _ _) (by have h := hS; unfold SC25 at h ⊢; rw [slots_ne (d := 115) (t := 128) rfl, slots_ne (d := 115) (t := 129) rfl, slots_ne (d := 115) (t := 133) rfl, slots_ne (d := 115) (t := 134) rfl]; exact h) rfl
                        refine EachOp.cons ?_ ?_
                        · intro L a u hL hst hS hdep hq hno
                          have h115 : a.tmps.getD 115 undef = .pointer (some ⟨bs 2, 0, none⟩) := hdep 115 (by kernel_rfl)
                          refine .inl ⟨trivial, ?_⟩
                          have g115 := gd h115
                          go_simp
                          have c28 : L 28 = false := hno 12 28 (by kernel_rfl)
                          have c20 : L 20 = false := hno 12 20 (by kernel_rfl)
                          have c19 : L 19 = false := hno 12 19 (by kernel_rfl)
                          have c18 : L 18 = false := hno 12 18 (by kernel_rfl)
                          have c14 : L 14 = false := hno 12 14 (by kernel_rfl)
                          have c13 : L 13 = false := hno 12 13 (by kernel_rfl)
                          have hs0 := hS
                          unfold SC25 at hs0
                          simp only [c28, c20, c19, c18, c14, c13, cond_false] at hs0
                          have hk := hs0.ep HC.out (i := 2) (by decide) (HB.out.2.2 2)
                          rw [HVJep2.out] at hk
                          refine hk.mono ?_
                          rintro e' u' ⟨rfl, hs'⟩
                          refine Went7.next ?_ trivial rfl
                          have d28 : doneB L 1 28 = false := c28
                          have d20 : doneB L 1 20 = false := c20
                          have d19 : doneB L 1 19 = false := c19
                          have d18 : doneB L 1 18 = false := c18
                          have d14 : doneB L 1 14 = false := c14
                          have d13 : doneB L 1 13 = false := c13
                          unfold SC25
                          simp only [d28, d20, d19, d18, d14, d13, cond_false]
                          exact hs'
                        refine EachOp.cons ?_ ?_
                        · intro L a u hL hst hS hdep hq hno
                          have h5 : a.tmps.getD 5 undef = .slice (some ⟨g, 0, none⟩) 3 3 := hst.out 5 (by kernel_rfl)
                          refine .inl ⟨trivial, ?_⟩
                          have g5 := gd h5
                          go_simp
                          exact Went7.same (HKR.out _ _) (by have h := hS; unfold SC25 at h ⊢; rw [slots_ne (d := 117) (t := 128) rfl, slots_ne (d := 117) (t := 129) rfl, slots_ne (d := 117) (t := 133) rfl, slots_ne (d := 117) (t := 134) rfl]; exact h) rfl
                        refine EachOp.cons ?_ ?_
                        · intro L a u hL hst hS hdep hq hno
                          have h117 : a.tmps.getD 117 undef = .slice (some ⟨g, 0, none⟩) 3 3 := hdep 117 (by kernel_rfl)
                          refine .inl ⟨trivial, ?_⟩
                          have g117 := gd h117
                          go_simp
                          exact Went7.same (HKR.out _ _) (by have h := hS; unfold SC25 at h ⊢; rw [slots_ne (d := 118) (t := 128) rfl, slots_ne (d := 118) (t := 129) rfl, slots_ne (d := 118) (t := 133) rfl, slots_ne (d := 118) (t := 134) rfl]; exact h) rfl
                        refine EachOp.cons ?_ ?_
                        · intro L a u hL hst hS hdep hq hno
                          have h118 : a.tmps.getD 118 undef = .pointer (some ⟨g, 0, none⟩) := hdep 118 (by kernel_rfl)
                          refine .inl ⟨trivial, ?_⟩
                          have g118 := gd h118
                          have c28 : L 28 = false := hno 12 28 (by kernel_rfl)
                          have yy : u.cell? ⟨g, 0, none⟩ = some (.pointer (some ⟨bs 0, 0, none⟩)) := (hS.st c28).ptr (.head _) (i := 0) (by decide)
                          go_simp
                          exact Went7.same (HKR.out _ _) (by have h := hS; unfold SC25 at h ⊢; rw [slots_ne (d := 119) (t := 128) rfl, slots_ne (d := 119) (t := 129) rfl, slots_ne (d := 119) (t := 133) rfl, slots_ne (d := 119) (t := 134) rfl]; exact h) rfl
                        refine EachOp.cons ?_ ?_
                        · intro L a u hL hst hS hdep hq hno
                          have h119 : a.tmps.getD 119 undef = .pointer (some ⟨bs 0, 0, none⟩) := hdep 119 (by kernel_rfl)
                          refine .inl ⟨trivial, ?_⟩
                          have g119 := gd h119
                          go_simp
                          have c28 : L 28 = false := hno 12 28 (by kernel_rfl)
                          have c20 : L 20 = false := hno 12 20 (by kernel_rfl)
                          have c19 : L 19 = false := hno 12 19 (by kernel_rfl)
                          have c18 : L 18 = false := hno 12 18 (by kernel_rfl)
                          have c14 : L 14 = false := hno 12 14 (by kernel_rfl)
                          have c13 : L 13 = false := hno 12 13 (by kernel_rfl)
                          have hs0 := hS
                          unfold SC25 at hs0
                          simp only [c28, c20, c19, c18, c14, c13, cond_false] at hs0
                          have hk := hs0.ep HC.out (i := 0) (by decide) (HB.out.2.2 0)
                          rw [HVJep0.out] at hk
                          refine hk.mono ?_
                          rintro e' u' ⟨rfl, hs'⟩
                          refine Went7.next ?_ trivial rfl
                          have d28 : doneB L 5 28 = false := c28
                          have d20 : doneB L 5 20 = false := c20
                          have d19 : doneB L 5 19 = false := c19
                          have d18 : doneB L 5 18 = false := c18
                          have d14 : doneB L 5 14 = false := c14
                          have d13 : doneB L 5 13 = false := c13
                          unfold SC25
                          simp only [d28, d20, d19, d18, d14, d13, cond_false]
                          exact hs'
                        refine EachOp.cons ?_ ?_
                        · intro L a u hL hst hS hdep hq hno
                          have h116 : a.tmps.getD 116 undef = .int .u64 E := hdep 116 (by kernel_rfl)
                          have h120 : a.tmps.getD 120 undef = .int .u64 E := hdep 120 (by kernel_rfl)
                          refine .inl ⟨trivial, ?_⟩
                          have g116 := gd h116
                          have g120 := gd h120
                          go_simp
                          exact Went7.same (HKR.out _ _) (by have h := hS; unfold SC25 at h ⊢; rw [slots_ne (d := 121) (t := 128) rfl, slots_ne (d := 121) (t := 129) rfl, slots_ne (d := 121) (t := 133) rfl, slots_ne (d := 121) (t := 134) rfl]; exact h) rfl
                        refine EachOp.cons ?_ ?_
                        · intro L a u hL hst hS hdep hq hno
                          have h121 : a.tmps.getD 121 undef = .bool false := hdep 121 (by kernel_rfl)
                          refine .inl ⟨trivial, ?_⟩
                          have g121 := gd h121
                          go_simp
                          exact Went7.same (HKR.out _ _) (by have h := hS; unfold SC25 at h ⊢; rw [slots_ne (d := 122) (t := 128) rfl, slots_ne (d := 122) (t := 129) rfl, slots_ne (d := 122) (t := 133) rfl, slots_ne (d := 122) (t := 134) rfl]; exact h) rfl
                        refine EachOp.cons ?_ ?_
                        · intro L a u hL hst hS hdep hq hno
                          have h12 : a.tmps.getD 12 undef = .pointer (some ⟨bs 2, 0, none⟩) := hst.out 12 (by kernel_rfl)
                          have h122 : a.tmps.getD 122 undef = .bool false := hdep 122 (by kernel_rfl)
                          refine .inl ⟨⟨122, by kernel_rfl, h122⟩, ?_⟩
                          clear h122
                          have g12 := gd h12
                          go_simp
                          exact Went7.same (HKR.out _ _) (by have h := hS; unfold SC25 at h ⊢; rw [slots_ne (d := 123) (t := 128) rfl, slots_ne (d := 123) (t := 129) rfl, slots_ne (d := 123) (t := 133) rfl, slots_ne (d := 123) (t := 134) rfl]; exact h) rfl
                        refine EachOp.cons ?_ ?_
                        · intro L a u hL hst hS hdep hq hno
                          have h123 : a.tmps.getD 123 undef = .pointer (some ⟨bs 2, 0, none⟩) := hdep 123 (by kernel_rfl)
                          have h122 : a.tmps.getD 122 undef = .bool false := hdep 122 (by kernel_rfl)
                          refine .inl ⟨⟨122, by kernel_rfl, h122⟩, ?_⟩
                          clear h122
                          have g123 := gd h123
                          go_simp
                          have c28 : L 28 = false := hno 12 28 (by kernel_rfl)
                          have c20 : L 20 = false := hno 12 20 (by kernel_rfl)
                          have c19 : L 19 = false := hno 12 19 (by kernel_rfl)
                          have c18 : L 18 = false := hno 12 18 (by kernel_rfl)
                          have c14 : L 14 = false := hno 12 14 (by kernel_rfl)
                          have c13 : L 13 = false := hno 12 13 (by kernel_rfl)
                          have hs0 := hS
                          unfold SC25 at hs0
                          simp only [c28, c20, c19, c18, c14, c13, cond_false] at hs0
                          have hk := hs0.ld HC.out (i := 2) (by decide) (HB.out.2.2 2)
                          rw [HVJld2.out] at hk
                          refine hk.mono ?_
                          rintro e' u' ⟨rfl, hs'⟩
                          refine Went7.next ?_ trivial rfl
                          have d28 : doneB L 9 28 = false := c28
                          have d20 : doneB L 9 20 = false := c20
                          have d19 : doneB L 9 19 = false := c19
                          have d18 : doneB L 9 18 = false := c18
                          have d14 : doneB L 9 14 = false := c14
                          have d13 : doneB L 9 13 = false := c13
                          unfold SC25
                          simp only [d28, d20, d19, d18, d14, d13, cond_false]
                          exact hs'
                        refine EachOp.cons ?_ ?_
                        · intro L a u hL hst hS hdep hq hno
                          have h122 : a.tmps.getD 122 undef = .bool false := hdep 122 (by kernel_rfl)
                          have h124 : a.tmps.getD 124 undef = .bool false := hdep 124 (by kernel_rfl)
                          refine .inl ⟨trivial, ?_⟩
                          have g122 := gd h122
                          have g124 := gd h124
                          go_simp
                          exact Went7.same (HKR.out _ _) (by have h := hS; unfold SC25 at h ⊢; rw [slots_ne (d := 125) (t := 128) rfl, slots_ne (d := 125) (t := 129) rfl, slots_ne (d := 125) (t := 133) rfl, slots_ne (d := 125) (t := 134) rfl]; exact h) rfl
                        refine EachOp.cons ?_ ?_
                        · intro L a u hL hst hS hdep hq hno
                          have h125 : a.tmps.getD 125 undef = .bool false := hdep 125 (by kernel_rfl)
                          refine .inl ⟨trivial, ?_⟩
                          have g125 := gd h125
                          go_simp
                          exact Went7.same (HKR.out _ _) (by have h := hS; unfold SC25 at h ⊢; rw [slots_ne (d := 126) (t := 128) rfl, slots_ne (d := 126) (t := 129) rfl, slots_ne (d := 126) (t := 133) rfl, slots_ne (d := 126) (t := 134) rfl]; exact h) rfl
                        refine EachOp.cons ?_ ?_
                        · intro L a u hL hst hS hdep hq hno
                          have h12 : a.tmps.getD 12 undef = .pointer (some ⟨bs 2, 0, none⟩) := hst.out 12 (by kernel_rfl)
                          have h126 : a.tmps.getD 126 undef = .bool false := hdep 126 (by kernel_rfl)
                          refine .inl ⟨⟨126, by kernel_rfl, h126⟩, ?_⟩
                          clear h126
                          have g12 := gd h12
                          go_simp
                          exact Went7.same (HKR.out _ _) (by have h := hS; unfold SC25 at h ⊢; rw [slots_ne (d := 127) (t := 128) rfl, slots_ne (d := 127) (t := 129) rfl, slots_ne (d := 127) (t := 133) rfl, slots_ne (d := 127) (t := 134) rfl]; exact h) rfl
                        refine EachOp.cons ?_ ?_
                        · intro L a u hL hst hS hdep hq hno
                          have h127 : a.tmps.getD 127 undef = .pointer (some ⟨bs 2, 0, none⟩) := hdep 127 (by kernel_rfl)
                          have h126 : a.tmps.getD 126 undef = .bool false := hdep 126 (by kernel_rfl)
                          refine .inl ⟨⟨126, by kernel_rfl, h126⟩, ?_⟩
                          clear h126
                          have g127 := gd h127
                          go_simp
                          have c28 : L 28 = false := hno 12 28 (by kernel_rfl)
                          have c20 : L 20 = false := hno 12 20 (by kernel_rfl)
                          have c19 : L 19 = false := hno 12 19 (by kernel_rfl)
                          have c18 : L 18 = false := hno 12 18 (by kernel_rfl)
                          have c14 : L 14 = false := hno 12 14 (by kernel_rfl)
                          have c13 : L 13 = false := hL
                          have hs0 := hS
                          unfold SC25 at hs0
                          simp only [c28, c20, c19, c18, c14, c13, cond_false] at hs0
                          have hk := hs0.log HC.out (i := 2) (by decide) (HB.out.2.2 2)
                          rw [HVJlg2.out] at hk
                          refine hk.mono ?_
                          rintro e' u' ⟨A, m, d, ⟨rfl, _⟩, h2⟩
                          refine Went7.next ?_ trivial ⟨A, m, d, rfl⟩
                          have d28 : doneB L 13 28 = false := c28
                          have d20 : doneB L 13 20 = false := c20
                          have d19 : doneB L 13 19 = false := c19
                          have d18 : doneB L 13 18 = false := c18
                          have d14 : doneB L 13 14 = false := c14
                          have d13 : doneB L 13 13 = true := done_same
                          have hsz : 128 < a.tmps.size := by rw [hst.size]; exact Nat.le_of_ble_eq_true (by kernel_rfl)
                          unfold SC25
                          simp only [d28, d20, d19, d18, d14, d13, cond_true, cond_false]
                          exact ⟨A, m, d, slots_eq hsz, h2⟩
                        refine EachOp.cons ?_ ?_
                        · intro L a u hL hst hS hdep hq hno
                          obtain ⟨A128, m128, d128, h128⟩ := hdep 128 (by kernel_rfl)
                          have h126 : a.tmps.getD 126 undef = .bool false := hdep 126 (by kernel_rfl)
                          refine .inl ⟨⟨126, by kernel_rfl, h126⟩, ?_⟩
                          clear h126
                          have g128 := gd h128
                          go_simp
                          have c28 : L 28 = false := hno 12 28 (by kernel_rfl)
                          have c20 : L 20 = false := hno 12 20 (by kernel_rfl)
                          have c19 : L 19 = false := hno 12 19 (by kernel_rfl)
                          have c18 : L 18 = false := hno 12 18 (by kernel_rfl)
                          have c14 : L 14 = false := hL
                          have c13 : L 13 = true := hq 12 13 (by kernel_rfl)
                          have hs0 := hS
                          unfold SC25 at hs0
                          simp only [c28, c20, c19, c18, c14, c13, cond_true, cond_false] at hs0
                          obtain ⟨A, m, d, ht, hs1⟩ := hs0
                          have hv128 : Value.slice A128 m128 d128 = .slice A m d := h128.symm.trans ht
                          injection hv128 with e1 e2 e3
                          subst e1 e2 e3
                          have hlr := hs1.lr (.head _)
                          have hm : m128 ≤ 1000 := by have h1 : lg.length = m128 := hlr.len; have h2 := HLG.out; omega
                          refine (lentries_new _ m128 d128 lg u hlr hm).mono ?_
                          rintro e' u' ⟨A', c', rfl, hl, hn, hb⟩
                          have h2 := (hs1.row hb hl hn).less (rs' := [(A', m128, lg)]) (fun _ h => h) (fun _ h => h) (fun q h => by rw [List.mem_singleton.1 h]; exact .head _) fun _ h => h
                          refine Went7.next ?_ trivial ⟨A', m128, c', rfl⟩
                          have d28 : doneB L 14 28 = false := c28
                          have d20 : doneB L 14 20 = false := c20
                          have d19 : doneB L 14 19 = false := c19
                          have d18 : doneB L 14 18 = false := c18
                          have d14 : doneB L 14 14 = true := done_same
                          have hsz : 129 < a.tmps.size := by rw [hst.size]; exact Nat.le_of_ble_eq_true (by kernel_rfl)
                          unfold SC25
                          simp only [d28, d20, d19, d18, d14, cond_true, cond_false]
                          exact ⟨A', m128, c', slots_eq hsz, h2⟩
                        refine EachOp.cons ?_ ?_
                        · intro L a u hL hst hS hdep hq hno
                          have h5 : a.tmps.getD 5 undef = .slice (some ⟨g, 0, none⟩) 3 3 := hst.out 5 (by kernel_rfl)
                          have h126 : a.tmps.getD 126 undef = .bool false := hdep 126 (by kernel_rfl)
                          refine .inl ⟨⟨126, by kernel_rfl, h126⟩, ?_⟩
                          clear h126
                          have g5 := gd h5
                          go_simp
                          exact Went7.same (HKR.out _ _) (by have h := hS; unfold SC25 at h ⊢; rw [slots_ne (d := 130) (t := 128) rfl, slots_ne (d := 130) (t := 129) rfl, slots_ne (d := 130) (t := 133) rfl, slots_ne (d := 130) (t := 134) rfl]; exact h) rfl
                        refine EachOp.cons ?_ ?_
                        · intro L a u hL hst hS hdep hq hno
                          have h130 : a.tmps.getD 130 undef = .slice (some ⟨g, 0, none⟩) 3 3 := hdep 130 (by kernel_rfl)
                          have h126 : a.tmps.getD 126 undef = .bool false := hdep 126 (by kernel_rfl)
                          refine .inl ⟨⟨126, by kernel_rfl, h126⟩, ?_⟩
                          clear h126
                          have g130 := gd h130
                          go_simp
                          exact Went7.same (HKR.out _ _) (by have h := hS; unfold SC25 at h ⊢; rw [slots_ne (d := 131) (t := 128) rfl, slots_ne (d := 131) (t := 129) rfl, slots_ne (d := 131) (t := 133) rfl, slots_ne (d := 131) (t := 134) rfl]; exact h) rfl
                        refine EachOp.cons ?_ ?_
                        · intro L a u hL hst hS hdep hq hno
                          have h131 : a.tmps.getD 131 undef = .pointer (some ⟨g, 0, none⟩) := hdep 131 (by kernel_rfl)
                          have h126 : a.tmps.getD 126 undef = .bool false := hdep 126 (by kernel_rfl)
                          refine .inl ⟨⟨126, by kernel_rfl, h126⟩, ?_⟩
                          clear h126
                          have g131 := gd h131
                          have c28 : L 28 = false := hno 12 28 (by kernel_rfl)
                          have yy : u.cell? ⟨g, 0, none⟩ = some (.pointer (some ⟨bs 0, 0, none⟩)) := (hS.st c28).ptr (.head _) (i := 0) (by decide)
                          go_simp
                          exact Went7.same (HKR.out _ _) (by have h := hS; unfold SC25 at h ⊢; rw [slots_ne (d := 132) (t := 128) rfl, slots_ne (d := 132) (t := 129) rfl, slots_ne (d := 132) (t := 133) rfl, slots_ne (d := 132) (t := 134) rfl]; exact h) rfl
                        refine EachOp.cons ?_ ?_
                        · intro L a u hL hst hS hdep hq hno
                          have h132 : a.tmps.getD 132 undef = .pointer (some ⟨bs 0, 0, none⟩) := hdep 132 (by kernel_rfl)
                          have h126 : a.tmps.getD 126 undef = .bool false := hdep 126 (by kernel_rfl)
                          refine .inl ⟨⟨126, by kernel_rfl, h126⟩, ?_⟩
                          clear h126
                          have g132 := gd h132
                          go_simp
                          have c28 : L 28 = false := hno 12 28 (by kernel_rfl)
                          have c20 : L 20 = false := hno 12 20 (by kernel_rfl)
                          have c19 : L 19 = false := hno 12 19 (by kernel_rfl)
                          have c18 : L 18 = false := hL
                          have c14 : L 14 = true := hq 12 14 (by kernel_rfl)
                          have hs0 := hS
                          unfold SC25 at hs0
                          simp only [c28, c20, c19, c18, c14, cond_true, cond_false] at hs0
                          obtain ⟨A, m, d, ht, hs1⟩ := hs0
                          have hk := hs1.log HC.out (i := 0) (by decide) (HB.out.2.2 0)
                          rw [HVJlg0.out] at hk
                          refine hk.mono ?_
                          rintro e' u' ⟨A', m', d', ⟨rfl, _⟩, h2⟩
                          refine Went7.next ?_ trivial ⟨A', m', d', rfl⟩
                          have d28 : doneB L 18 28 = false := c28
                          have d20 : doneB L 18 20 = false := c20
                          have d19 : doneB L 18 19 = false := c19
                          have d18 : doneB L 18 18 = true := done_same
                          have hsz : 133 < a.tmps.size := by rw [hst.size]; exact Nat.le_of_ble_eq_true (by kernel_rfl)
                          unfold SC25
                          simp only [d28, d20, d19, d18, cond_true, cond_false]
                          exact ⟨A, m, d, A', m', d', (slots_ne (d := 133) (t := 129) rfl).trans ht, slots_eq hsz, h2⟩
                        refine EachOp.cons ?_ ?_
                        · intro L a u hL hst hS hdep hq hno
                          obtain ⟨A133, m133, d133, h133⟩ := hdep 133 (by kernel_rfl)
                          have h126 : a.tmps.getD 126 undef = .bool false := hdep 126 (by kernel_rfl)
                          refine .inl ⟨⟨126, by kernel_rfl, h126⟩, ?_⟩
                          clear h126
                          have g133 := gd h133
                          go_simp
                          have c28 : L 28 = false := hno 12 28 (by kernel_rfl)
                          have c20 : L 20 = false := hno 12 20 (by kernel_rfl)
                          have c19 : L 19 = false := hL
                          have c18 : L 18 = true := hq 12 18 (by kernel_rfl)
                          have hs0 := hS
                          unfold SC25 at hs0
                          simp only [c28, c20, c19, c18, cond_true, cond_false] at hs0
                          obtain ⟨B, mb, db, A, m, d, htb, ht, hs1⟩ := hs0
                          have hv133 : Value.slice A133 m133 d133 = .slice A m d := h133.symm.trans ht
                          injection hv133 with e1 e2 e3
                          subst e1 e2 e3
                          have hlr := hs1.lr (.head _)
                          have hm : m133 ≤ 1000 := by have h1 : lg.length = m133 := hlr.len; have h2 := HLG.out; omega
                          refine (lentries_new _ m133 d133 lg u hlr hm).mono ?_
                          rintro e' u' ⟨A', c', rfl, hl, hn, hb⟩
                          have h2 := (hs1.row hb hl hn).less (rs' := [(A', m133, lg), (B, mb, lg)]) (fun _ h => h) (fun _ h => h) (fun q h => (List.mem_cons.1 h).elim (fun e => by rw [e]; exact .head _) fun h => by rw [List.mem_singleton.1 h]; exact .tail _ (.tail _ (.head _))) fun _ h => h
                          refine Went7.next ?_ trivial ⟨A', m133, c', rfl⟩
                          have d28 : doneB L 19 28 = false := c28
                          have d20 : doneB L 19 20 = false := c20
                          have d19 : doneB L 19 19 = true := done_same
                          have hsz : 134 < a.tmps.size := by rw [hst.size]; exact Nat.le_of_ble_eq_true (by kernel_rfl)
                          unfold SC25
                          simp only [d28, d20, d19, cond_true, cond_false]
                          exact ⟨B, mb, db, A', m133, c', (slots_ne (d := 134) (t := 129) rfl).trans htb, slots_eq hsz, h2⟩
                        refine EachOp.cons ?_ ?_
                        · intro L a u hL hst hS hdep hq hno
                          obtain ⟨A129, m129, d129, h129⟩ := hdep 129 (by kernel_rfl)
                          obtain ⟨A134, m134, d134, h134⟩ := hdep 134 (by kernel_rfl)
                          have h126 : a.tmps.getD 126 undef = .bool false := hdep 126 (by kernel_rfl)
                          refine .inl ⟨⟨126, by kernel_rfl, h126⟩, ?_⟩
                          clear h126
                          have g129 := gd h129
                          have g134 := gd h134
                          go_simp
                          have c28 : L 28 = false := hno 12 28 (by kernel_rfl)
                          have c20 : L 20 = false := hL
                          have c19 : L 19 = true := hq 12 19 (by kernel_rfl)
                          have hs0 := hS
                          unfold SC25 at hs0
                          simp only [c28, c20, c19, cond_true, cond_false] at hs0
                          obtain ⟨B, mb, db, A, m, d, htb, ht, hs1⟩ := hs0
                          have hv134 : Value.slice A134 m134 d134 = .slice A m d := h134.symm.trans ht
                          injection hv134 with e1 e2 e3
                          subst e1 e2 e3
                          have hv129 : Value.slice A129 m129 d129 = .slice B mb db := h129.symm.trans htb
                          injection hv129 with e1 e2 e3
                          subst e1 e2 e3
                          have hlr := hs1.lr (.head _)
                          have hlb := hs1.lr (.tail _ (.head _))
                          have hm : m134 ≤ 1000000 := by have h1 : lg.length = m134 := hlr.len; have h2 := HLG.out; omega
                          have hm2 : m129 ≤ 1000000 := by have h1 : lg.length = m129 := hlb.len; have h2 := HLG.out; omega
                          refine (rsame15_ok _ _ m129 m134 d129 d134 lg lg u hlb hlr hm2 hm true (Lib.hid (by simp))).mono ?_
                          rintro e' u' ⟨rfl, nn, hu'⟩
                          have h2 := (hs1.next (show Below u.heap.size u u' from hu' ▸ kp_drewN _ _)).less (rs' := []) (fun _ h => h) (fun _ h => h) (fun _ h => nomatch h) fun _ h => h
                          refine Went7.next ?_ trivial rfl
                          have d28 : doneB L 20 28 = false := c28
                          have d20 : doneB L 20 20 = true := done_same
                          unfold SC25
                          simp only [d28, d20, cond_true, cond_false]
                          exact h2
                        refine EachOp.cons ?_ ?_
                        · intro L a u hL hst hS hdep hq hno
                          have h135 : a.tmps.getD 135 undef = .bool true := hdep 135 (by kernel_rfl)
                          have h126 : a.tmps.getD 126 undef = .bool false := hdep 126 (by kernel_rfl)
                          refine .inl ⟨⟨126, by kernel_rfl, h126⟩, ?_⟩
                          clear h126
                          have g135 := gd h135
                          go_simp
                          exact Went7.same (HKR.out _ _) (by have h := hS; unfold SC25 at h ⊢; rw [slots_ne (d := 136) (t := 128) rfl, slots_ne (d := 136) (t := 129) rfl, slots_ne (d := 136) (t := 133) rfl, slots_ne (d := 136) (t := 134) rfl]; exact h) rfl
                        refine EachOp.cons ?_ ?_
                        · intro L a u hL hst hS hdep hq hno
                          have h126 : a.tmps.getD 126 undef = .bool false := hdep 126 (by kernel_rfl)
                          have h136 : a.tmps.getD 136 undef = .bool false := hdep 136 (by kernel_rfl)
                          refine .inl ⟨trivial, ?_⟩
                          have g126 := gd h126
                          have g136 := gd h136
                          go_simp
                          exact Went7.same (HKR.out _ _) (by have h := hS; unfold SC25 at h ⊢; rw [slots_ne (d := 137) (t := 128) rfl, slots_ne (d := 137) (t := 129) rfl, slots_ne (d := 137) (t := 133) rfl, slots_ne (d := 137) (t := 134) rfl]; exact h) rfl
                        refine EachOp.cons ?_ ?_
                        · intro L a u hL hst hS hdep hq hno
                          have h137 : a.tmps.getD 137 undef = .bool false := hdep 137 (by kernel_rfl)
                          refine .inl ⟨trivial, ?_⟩
                          have g137 := gd h137
                          go_simp
                          exact Went7.same (HKR.out _ _) (by have h := hS; unfold SC25 at h ⊢; rw [slots_ne (d := 138) (t := 128) rfl, slots_ne (d := 138) (t := 129) rfl, slots_ne (d := 138) (t := 133) rfl, slots_ne (d := 138) (t := 134) rfl]; exact h) rfl
                        refine EachOp.cons ?_ ?_
                        · intro L a u hL hst hS hdep hq hno
                          have h12 : a.tmps.getD 12 undef = .pointer (some ⟨bs 2, 0, none⟩) := hst.out 12 (by kernel_rfl)
                          have h138 : a.tmps.getD 138 undef = .bool false := hdep 138 (by kernel_rfl)
                          refine .inl ⟨⟨138, by kernel_rfl, h138⟩, ?_⟩
                          clear h138
                          have g12 := gd h12
                          go_simp
                          exact Went7.same (HKR.out _ _) (by have h := hS; unfold SC25 at h ⊢; rw [slots_ne (d := 139) (t := 128) rfl, slots_ne (d := 139) (t := 129) rfl, slots_ne (d := 139) (t := 133) rfl, slots_ne (d := 139) (t := 134) rfl]; exact h) rfl
                        refine EachOp.cons ?_ ?_
                        · intro L a u hL hst hS hdep hq hno
                          have h5 : a.tmps.getD 5 undef = .slice (some ⟨g, 0, none⟩) 3 3 := hst.out 5 (by kernel_rfl)
                          have h138 : a.tmps.getD 138 undef = .bool false := hdep 138 (by kernel_rfl)
                          refine .inl ⟨⟨138, by kernel_rfl, h138⟩, ?_⟩
                          clear h138
                          have g5 := gd h5
                          go_simp
                          exact Went7.same (HKR.out _ _) (by have h := hS; unfold SC25 at h ⊢; rw [slots_ne (d := 140) (t := 128) rfl, slots_ne (d := 140) (t := 129) rfl, slots_ne (d := 140) (t := 133) rfl, slots_ne (d := 140) (t := 134) rfl]; exact h) rfl
                        refine EachOp.cons ?_ ?_
                        · intro L a u hL hst hS hdep hq hno
                          have h140 : a.tmps.getD 140 undef = .slice (some ⟨g, 0, none⟩) 3 3 := hdep 140 (by kernel_rfl)
                          have h138 : a.tmps.getD 138 undef = .bool false := hdep 138 (by kernel_rfl)
                          refine .inl ⟨⟨138, by kernel_rfl, h138⟩, ?_⟩
                          clear h138
                          have g140 := gd h140
                          go_simp
                          exact Went7.same (HKR.out _ _) (by have h := hS; unfold SC25 at h ⊢; rw [slots_ne (d := 141) (t := 128) rfl, slots_ne (d := 141) (t := 129) rfl, slots_ne (d := 141) (t := 133) rfl, slots_ne (d := 141) (t := 134) rfl]; exact h) rfl
                        refine EachOp.cons ?_ ?_
                        · intro L a u hL hst hS hdep hq hno
                          have h141 : a.tmps.getD 141 undef = .pointer (some ⟨g, 0, none⟩) := hdep 141 (by kernel_rfl)
                          have h138 : a.tmps.getD 138 undef = .bool false := hdep 138 (by kernel_rfl)
                          refine .inl ⟨⟨138, by kernel_rfl, h138⟩, ?_⟩
                          clear h138
                          have g141 := gd h141
                          have c28 : L 28 = false := hno 12 28 (by kernel_rfl)
                          have yy : u.cell? ⟨g, 0, none⟩ = some (.pointer (some ⟨bs 0, 0, none⟩)) := (hS.st c28).ptr (.head _) (i := 0) (by decide)
                          go_simp
                          exact Went7.same (HKR.out _ _) (by have h := hS; unfold SC25 at h ⊢; rw [slots_ne (d := 142) (t := 128) rfl, slots_ne (d := 142) (t := 129) rfl, slots_ne (d := 142) (t := 133) rfl, slots_ne (d := 142) (t := 134) rfl]; exact h) rfl
                        refine EachOp.cons ?_ ?_
                        · intro L a u hL hst hS hdep hq hno
                          have h139 : a.tmps.getD 139 undef = .pointer (some ⟨bs 2, 0, none⟩) := hdep 139 (by kernel_rfl)
                          have h142 : a.tmps.getD 142 undef = .pointer (some ⟨bs 0, 0, none⟩) := hdep 142 (by kernel_rfl)
                          have h138 : a.tmps.getD 138 undef = .bool false := hdep 138 (by kernel_rfl)
                          refine .inl ⟨⟨138, by kernel_rfl, h138⟩, ?_⟩
                          clear h138
                          have g139 := gd h139
                          have g142 := gd h142
                          go_simp
                          have c28 : L 28 = false := hL
                          have c20 : L 20 = true := hq 12 20 (by kernel_rfl)
                          have hs0 := hS
                          unfold SC25 at hs0
                          simp only [c28, c20, cond_true, cond_false] at hs0
                          have hk := hs0.copy HC.out (i := 2) (j := 0) (by decide) (by decide) (by decide) (HB.out.2.2 2) (HB.out.2.2 0) 200 (by unfold I64n; decide)
                          rw [HCP.out] at hk
                          refine hk.mono ?_
                          rintro e' u' ⟨rfl, hs'⟩
                          refine Went7.next ?_ trivial rfl
                          have d28 : doneB L 28 28 = true := done_same
                          unfold SC25
                          simp only [d28, cond_true]
                          exact hs'
                        refine EachOp.cons ?_ ?_
                        · intro L a u hL hst hS hdep hq hno
                          have h143 : a.tmps.getD 143 undef = .int .i64 0 := hdep 143 (by kernel_rfl)
                          have h138 : a.tmps.getD 138 undef = .bool false := hdep 138 (by kernel_rfl)
                          refine .inl ⟨⟨138, by kernel_rfl, h138⟩, ?_⟩
                          clear h138
                          have g143 := gd h143
                          go_simp
                          exact Went7.same (HKR.out _ _) (by have h := hS; unfold SC25 at h ⊢; rw [slots_ne (d := 144) (t := 128) rfl, slots_ne (d := 144) (t := 129) rfl, slots_ne (d := 144) (t := 133) rfl, slots_ne (d := 144) (t := 134) rfl]; exact h) rfl
                        refine EachOp.cons ?_ ?_
                        · intro L a u hL hst hS hdep hq hno
                          have h138 : a.tmps.getD 138 undef = .bool false := hdep 138 (by kernel_rfl)
                          have h144 : a.tmps.getD 144 undef = .bool false := hdep 144 (by kernel_rfl)
                          refine .inl ⟨trivial, ?_⟩
                          have g138 := gd h138
                          have g144 := gd h144
                          go_simp
                          exact Went7.same (HKR.out _ _) (by have h := hS; unfold SC25 at h ⊢; rw [slots_ne (d := 145) (t := 128) rfl, slots_ne (d := 145) (t := 129) rfl, slots_ne (d := 145) (t := 133) rfl, slots_ne (d := 145) (t := 134) rfl]; exact h) rfl
                        exact EachOp.nil
                      · intro L a u hLs hst hS hdep
                        have h115 : a.tmps.getD 115 undef = .pointer (some ⟨bs 2, 0, none⟩) := hdep 115 (by kernel_rfl)
                        have h116 : a.tmps.getD 116 undef = .int .u64 E := hdep 116 (by kernel_rfl)
                        have h117 : a.tmps.getD 117 undef = .slice (some ⟨g, 0, none⟩) 3 3 := hdep 117 (by kernel_rfl)
                        have h118 : a.tmps.getD 118 undef = .pointer (some ⟨g, 0, none⟩) := hdep 118 (by kernel_rfl)
                        have h119 : a.tmps.getD 119 undef = .pointer (some ⟨bs 0, 0, none⟩) := hdep 119 (by kernel_rfl)
                        have h120 : a.tmps.getD 120 undef = .int .u64 E := hdep 120 (by kernel_rfl)
                        have h121 : a.tmps.getD 121 undef = .bool false := hdep 121 (by kernel_rfl)
                        have h122 : a.tmps.getD 122 undef = .bool false := hdep 122 (by kernel_rfl)
                        have h123 : a.tmps.getD 123 undef = .pointer (some ⟨bs 2, 0, none⟩) := hdep 123 (by kernel_rfl)
                        have h124 : a.tmps.getD 124 undef = .bool false := hdep 124 (by kernel_rfl)
                        have h125 : a.tmps.getD 125 undef = .bool false := hdep 125 (by kernel_rfl)
                        have h126 : a.tmps.getD 126 undef = .bool false := hdep 126 (by kernel_rfl)
                        have h127 : a.tmps.getD 127 undef = .pointer (some ⟨bs 2, 0, none⟩) := hdep 127 (by kernel_rfl)
                        obtain ⟨A128, m128, d128, h128⟩ := hdep 128 (by kernel_rfl)
                        obtain ⟨A129, m129, d129, h129⟩ := hdep 129 (by kernel_rfl)
                        have h130 : a.tmps.getD 130 undef = .slice (some ⟨g, 0, none⟩) 3 3 := hdep 130 (by kernel_rfl)
                        have h131 : a.tmps.getD 131 undef = .pointer (some ⟨g, 0, none⟩) := hdep 131 (by kernel_rfl)
                        have h132 : a.tmps.getD 132 undef = .pointer (some ⟨bs 0, 0, none⟩) := hdep 132 (by kernel_rfl)
                        obtain ⟨A133, m133, d133, h133⟩ := hdep 133 (by kernel_rfl)
                        obtain ⟨A134, m134, d134, h134⟩ := hdep 134 (by kernel_rfl)
                        have h135 : a.tmps.getD 135 undef = .bool true := hdep 135 (by kernel_rfl)
                        have h136 : a.tmps.getD 136 undef = .bool false := hdep 136 (by kernel_rfl)
                        have h137 : a.tmps.getD 137 undef = .bool false := hdep 137 (by kernel_rfl)
                        have h138 : a.tmps.getD 138 undef = .bool false := hdep 138 (by kernel_rfl)
                        have h139 : a.tmps.getD 139 undef = .pointer (some ⟨bs 2, 0, none⟩) := hdep 139 (by kernel_rfl)
                        have h140 : a.tmps.getD 140 undef = .slice (some ⟨g, 0, none⟩) 3 3 := hdep 140 (by kernel_rfl)
                        have h141 : a.tmps.getD 141 undef = .pointer (some ⟨g, 0, none⟩) := hdep 141 (by kernel_rfl)
                        have h142 : a.tmps.getD 142 undef = .pointer (some ⟨bs 0, 0, none⟩) := hdep 142 (by kernel_rfl)
                        have h143 : a.tmps.getD 143 undef = .int .i64 0 := hdep 143 (by kernel_rfl)
                        have h144 : a.tmps.getD 144 undef = .bool false := hdep 144 (by kernel_rfl)
                        have h145 : a.tmps.getD 145 undef = .bool false := hdep 145 (by kernel_rfl)
                        have hfr := hst.frame [(115, .pointer (some ⟨bs 2, 0, none⟩)), (116, .int .u64 E), (117, .slice (some ⟨g, 0, none⟩) 3 3), (118, .pointer (some ⟨g, 0, none⟩)), (119, .pointer (some ⟨bs 0, 0, none⟩)), (120, .int .u64 E), (121, .bool false), (122, .bool false), (123, .pointer (some ⟨bs 2, 0, none⟩)), (124, .bool false), (125, .bool false), (126, .bool false), (127, .pointer (some ⟨bs 2, 0, none⟩)), (128, .slice A128 m128 d128), (129, .slice A129 m129 d129), (130, .slice (some ⟨g, 0, none⟩) 3 3), (131, .pointer (some ⟨g, 0, none⟩)), (132, .pointer (some ⟨bs 0, 0, none⟩)), (133, .slice A133 m133 d133), (134, .slice A134 m134 d134), (135, .bool true), (136, .bool false), (137, .bool false), (138, .bool false), (139, .pointer (some ⟨bs 2, 0, none⟩)), (140, .slice (some ⟨g, 0, none⟩) 3 3), (141, .pointer (some ⟨g, 0, none⟩)), (142, .pointer (some ⟨bs 0, 0, none⟩)), (143, .int .i64 0), (144, .bool false), (145, .bool false)] (by kernel_rfl) ⟨h115, h116, h117, h118, h119, h120, h121, h122, h123, h124, h125, h126, h127, h128, h129, h130, h131, h132, h133, h134, h135, h136, h137, h138, h139, h140, h141, h142, h143, h144, h145, trivial⟩
                        clear hst hdep h115 h116 h117 h118 h119 h120 h121 h122 h123 h124 h125 h126 h127 h128 h129 h130 h131 h132 h133 h134 h135 h136 h137 h138 h139 h140 h141 h142 h143 h144 h145
                        subst hfr
                        simp only [List.foldl_cons, List.foldl_nil, List.setIfInBounds_toArray, List.set_cons_zero, List.set_cons_succ]
                        have hs1 := hS
                        unfold SC25 at hs1
                        rw [hLs 28 (by kernel_rfl)] at hs1
                        have H5 : Hid (St15 W (Tri X bs (upd3 ms 2 cp.2)) T0 [(g, bs)] [] [] [] u) := Lib.hid hs1
                        clear hS hLs hs1 HST HB HCP
                        go_wp2_with fail
                        go_roundw
                        case rel => exact ⟨2, _, by omega, by go_num, HNX, H5⟩
                        case measure => simp [intOf]
                    · obtain ⟨cp, hcp⟩ : ∃ c, copyNd (ms 0) (ms 1) 200 = c := ⟨_, rfl⟩
                      have hcb := copy_back (L := lg) (HB.out.2.1 1 (by decide)).1 200
                      rw [← HN0.out, ← HB.out.1, hcp] at hcb
                      have HCP : Hid (copyNd (ms 0) (ms 1) 200 = (0, cp.2)) := Lib.hid (by rw [hcp, ← hcb])
                      obtain ⟨GN, hGN⟩ : ∃ G : World → Prop, ∀ z, G z ↔ St15 W (Tri X bs (upd3 ms 0 cp.2)) T0 [(g, bs)] [] [] [] z := ⟨_, fun _ => Iff.rfl⟩
                      have HGN := Lib.hid hGN
                      have HKR : Hid (∀ (i : Nat) (u : World), KeepT i u u) := Lib.hid fun _ _ => trivial
                      clear hGN hcb hcp
                      go_wp2_with fail
                      refine wp_region_specs6 (S := SL1 6 wo GN) (Kp := KeepT) (Sp := [(147, Stl.eq (.slice (some ⟨g, 0, none⟩) 3 3)), (148, Stl.eq (.pointer (some ⟨g, 0, none⟩))), (149, Stl.eq (.pointer (some ⟨bs 0, 0, none⟩))), (150, Stl.eq (.slice (some ⟨g, 0, none⟩) 3 3)), (151, Stl.eq (.pointer (some ⟨g, 1, none⟩))), (152, Stl.eq (.pointer (some ⟨bs 1, 0, none⟩))), (153, Stl.eq (.int .i64 0)), (154, Stl.eq (.bool true)), (4, Stl.eq (.bool true))]) (by kernel_rfl) (by kernel_rfl) (SL1.of rfl (kp_drewN _ 1)) ?_ ?_
                      · refine EachOp.cons ?_ ?_
                        · intro L a u hL hst hS hdep hq hno
                          have h5 : a.tmps.getD 5 undef = .slice (some ⟨g, 0, none⟩) 3 3 := hst.out 5 (by kernel_rfl)
                          refine .inl ⟨trivial, ?_⟩
                          have g5 := gd h5
                          go_simp
                          exact Went6.same (HKR.out _ _) hS rfl
                        refine EachOp.cons ?_ ?_
                        · intro L a u hL hst hS hdep hq hno
                          have h147 : a.tmps.getD 147 undef = .slice (some ⟨g, 0, none⟩) 3 3 := hdep 147 (by kernel_rfl)
                          refine .inl ⟨trivial, ?_⟩
                          have g147 := gd h147
                          go_simp
                          exact Went6.same (HKR.out _ _) hS rfl
                        refine EachOp.cons ?_ ?_
                        · intro L a u hL hst hS hdep hq hno
                          have h148 : a.tmps.getD 148 undef = .pointer (some ⟨g, 0, none⟩) := hdep 148 (by kernel_rfl)
                          refine .inl ⟨trivial, ?_⟩
                          have g148 := gd h148
                          have ha : L 6 = false := hno 12 6 (by kernel_rfl)
                          have hB : Below wo.heap.size wo u := SL1.ahead hS ha
                          have yy : u.cell? ⟨g, 0, none⟩ = some (.pointer (some ⟨bs 0, 0, none⟩)) := (HST.out.next hB).ptr (.head _) (i := 0) (by decide)
                          go_simp
                          exact Went6.same (HKR.out _ _) hS rfl
                        refine EachOp.cons ?_ ?_
                        · intro L a u hL hst hS hdep hq hno
                          have h5 : a.tmps.getD 5 undef = .slice (some ⟨g, 0, none⟩) 3 3 := hst.out 5 (by kernel_rfl)
                          refine .inl ⟨trivial, ?_⟩
                          have g5 := gd h5
                          go_simp
                          exact Went6.same (HKR.out _ _) hS rfl
                        refine EachOp.cons ?_ ?_
                        · intro L a u hL hst hS hdep hq hno
                          have h150 : a.tmps.getD 150 undef = .slice (some ⟨g, 0, none⟩) 3 3 := hdep 150 (by kernel_rfl)
                          refine .inl ⟨trivial, ?_⟩
                          have g150 := gd h150
                          go_simp
                          exact Went6.same (HKR.out _ _) hS rfl
                        refine EachOp.cons ?_ ?_
                        · intro L a u hL hst hS hdep hq hno
                          have h151 : a.tmps.getD 151 undef = .pointer (some ⟨g, 1, none⟩) := hdep 151 (by kernel_rfl)
                          refine .inl ⟨trivial, ?_⟩
                          have g151 := gd h151
                          have ha : L 6 = false := hno 12 6 (by kernel_rfl)
                          have hB : Below wo.heap.size wo u := SL1.ahead hS ha
                          have yy : u.cell? ⟨g, 1, none⟩ = some (.pointer (some ⟨bs 1, 0, none⟩)) := (HST.out.next hB).ptr (.head _) (i := 1) (by decide)
                          go_simp
                          exact Went6.same (HKR.out _ _) hS rfl
                        refine EachOp.cons ?_ ?_
                        · intro L a u hL hst hS hdep hq hno
                          have h149 : a.tmps.getD 149 undef = .pointer (some ⟨bs 0, 0, none⟩) := hdep 149 (by kernel_rfl)
                          have h152 : a.tmps.getD 152 undef = .pointer (some ⟨bs 1, 0, none⟩) := hdep 152 (by kernel_rfl)
                          refine .inl ⟨trivial, ?_⟩
                          have g149 := gd h149
                          have g152 := gd h152
                          go_simp
                          have hB : Below wo.heap.size wo u := SL1.ahead hS hL
                          refine ((HST.out.next hB).copy HC.out (i := 0) (j := 1) (by decide) (by decide) (by decide) (HB.out.2.2 0) (HB.out.2.2 1) 200 (by unfold I64n; decide)).mono ?_
                          rw [HCP.out]
                          rintro e' u' ⟨rfl, hs'⟩
                          exact Went6.next (SL1.now done_same ((HGN.out _).2 hs')) trivial rfl
                        refine EachOp.cons ?_ ?_
                        · intro L a u hL hst hS hdep hq hno
                          have h153 : a.tmps.getD 153 undef = .int .i64 0 := hdep 153 (by kernel_rfl)
                          refine .inl ⟨trivial, ?_⟩
                          have g153 := gd h153
                          go_simp
                          exact Went6.same (HKR.out _ _) hS rfl
                        refine EachOp.cons ?_ ?_
                        · intro L a u hL hst hS hdep hq hno
                          have h154 : a.tmps.getD 154 undef = .bool true := hdep 154 (by kernel_rfl)
                          refine .inl ⟨trivial, ?_⟩
                          have g154 := gd h154
                          go_simp
                          exact Went6.same (HKR.out _ _) hS rfl
                        exact EachOp.nil
                      · intro L a u hLs hst hS hdep
                        have h147 : a.tmps.getD 147 undef = .slice (some ⟨g, 0, none⟩) 3 3 := hdep 147 (by kernel_rfl)
                        have h148 : a.tmps.getD 148 undef = .pointer (some ⟨g, 0, none⟩) := hdep 148 (by kernel_rfl)
                        have h149 : a.tmps.getD 149 undef = .pointer (some ⟨bs 0, 0, none⟩) := hdep 149 (by kernel_rfl)
                        have h150 : a.tmps.getD 150 undef = .slice (some ⟨g, 0, none⟩) 3 3 := hdep 150 (by kernel_rfl)
                        have h151 : a.tmps.getD 151 undef = .pointer (some ⟨g, 1, none⟩) := hdep 151 (by kernel_rfl)
                        have h152 : a.tmps.getD 152 undef = .pointer (some ⟨bs 1, 0, none⟩) := hdep 152 (by kernel_rfl)
                        have h153 : a.tmps.getD 153 undef = .int .i64 0 := hdep 153 (by kernel_rfl)
                        have h154 : a.tmps.getD 154 undef = .bool true := hdep 154 (by kernel_rfl)
                        have h4 : a.tmps.getD 4 undef = .bool true := hdep 4 (by kernel_rfl)
                        have hfr := hst.frame [(147, .slice (some ⟨g, 0, none⟩) 3 3), (148, .pointer (some ⟨g, 0, none⟩)), (149, .pointer (some ⟨bs 0, 0, none⟩)), (150, .slice (some ⟨g, 0, none⟩) 3 3), (151, .pointer (some ⟨g, 1, none⟩)), (152, .pointer (some ⟨bs 1, 0, none⟩)), (153, .int .i64 0), (154, .bool true), (4, .bool true)] (by kernel_rfl) ⟨h147, h148, h149, h150, h151, h152, h153, h154, h4, trivial⟩
                        clear hst hdep h147 h148 h149 h150 h151 h152 h153 h154 h4
                        subst hfr
                        simp only [List.foldl_cons, List.foldl_nil, List.setIfInBounds_toArray, List.set_cons_zero, List.set_cons_succ]
                        have HLO := Lib.hid ((HGN.out u).1 (SL1.done hS (hLs 6 (by kernel_rfl)))).low
                        clear hS hLs HGN HST HB HCP
                        go_wp2_with fail
                        go_ret
                        exact ⟨rfl, HLO.out⟩
end
end
end Go.Proofs.YtaoegiohnebnhaaGreatDoor
