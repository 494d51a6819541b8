/-
  HealthLags, of layer 12: the walk, out of what the laws ask of the project's health.
-/
import Derived.Test.YtbhgoeofcapckaaHeL
import Derived.Test.YtbhgoeofcapckaaReg5
namespace Go.Proofs.Ytbhgoeofcapckaa
open Go.RowKit
set_option maxRecDepth 100000


set_option maxHeartbeats 16000000 in
theorem healthlags_walk (K : HealthK) (c : HCf) (A1 : Option Addr) (n1 c1 : Nat) (ps : List HPr) (g : Int) (W : World) (hl0 : 0 ≤ c.l) (r1 : HQ W A1 n1 ps) :
    Calls Try.prog 5 #[.agg #[.int .i64 c.f, .int .i64 c.p, .int .u64 c.l], .slice A1 n1 c1, .int .u64 g] W fun e w' => e = .returned (.bool true) ∧ Below W.heap.size W w' := by
  obtain ⟨w0, hw0⟩ : ∃ u, W.alloc (cfO c) = u := ⟨_, rfl⟩
  have k0 : Below W.heap.size W w0 := hw0 ▸ kp_new _ _
  have b0 : w0.heap[W.heap.size]? = some (cfO c) := by rw [← hw0]; exact heap_alloc_new W _
  have HAW := Lib.hid (K.aw w0)
  have HK := Lib.hid K
  have R1 := Lib.hid r1
  have HN1 := Lib.hid r1.len
  have hz0 : W.heap.size < w0.heap.size := (Array.getElem?_eq_some_iff.1 b0).1
  have HW := Lib.hid hw0
  have HK0 := Lib.hid k0
  clear K hw0 k0 r1
  unfold cfO at HW
  go_enter Try.func5, Try.ntmps5
  go_wp2_with fail
  rw [HW.out]
  refine HAW.out.mono ?_
  rintro e w1 ⟨rfl, k1⟩
  have HK1 := Lib.hid (HK0.out.trans (k1.mono HK0.out.size))
  have b1 := (k1.block _ hz0).trans b0
  have hz1 : W.heap.size < w1.heap.size := Nat.lt_of_lt_of_le hz0 k1.size
  obtain ⟨x0, x1, x2⟩ : w1.cell? ⟨W.heap.size, 0, none⟩ = some (.int .i64 c.f) ∧ w1.cell? ⟨W.heap.size, 1, none⟩ = some (.int .i64 c.p) ∧ w1.cell? ⟨W.heap.size, 2, none⟩ = some (.int .u64 c.l) := ⟨(cellsAt b1 0 rfl).1, (cellsAt b1 1 rfl).1, (cellsAt b1 2 rfl).1⟩
  obtain ⟨bb, hbo⟩ : ∃ b, rightHe c = b := ⟨_, rfl⟩
  have HR := Lib.hid (rrighthe_ok c w1)
  rw [hbo] at HR
  unfold HCf.v at HR
  have HCR := Lib.hid hbo
  clear hbo HAW HW k1 b0 hz0 HK0
  go_wp2_with fail
  refine HR.out.mono ?_
  rintro e w2 ⟨rfl, k2⟩
  have HK2 := Lib.hid (HK1.out.trans (k2.mono HK1.out.size))
  have b2 := (k2.block _ hz1).trans b1
  have hz2 : W.heap.size < w2.heap.size := Nat.lt_of_lt_of_le hz1 k2.size
  clear HR k2 b1 hz1 x0 x1 x2 HK1
  cases bb with
  | false =>
    go_wp2_with fail
    go_ret
    exact ⟨rfl, HK2.out⟩
  | true =>
  by_cases h1 : 300 < n1
  · have h1' : (300 : Int) < (n1 : Int) := by omega
    clear h1
    go_wp2_with fail
    go_ret
    exact ⟨rfl, HK2.out⟩
  have h1' : ¬ (300 : Int) < (n1 : Int) := by omega
  have hcr := of_decide_eq_true HCR.out
  obtain ⟨w3, hw3⟩ : ∃ u, w2.alloc (stO ⟨1, 0⟩) = u := ⟨_, rfl⟩
  obtain ⟨bs, hbs⟩ : ∃ b, w2.heap.size = b := ⟨_, rfl⟩
  have hl3 : HLt W c bs ⟨1, 0⟩ w3 := ⟨hw3 ▸ kp_alloc HK2.out _, hw3 ▸ (heap_alloc_old _ _ hz2).trans b2, by rw [← hw3, ← hbs]; exact heap_alloc_new w2 _, by omega⟩
  have HBS := Lib.hid hbs
  have HL3 := Lib.hid hl3
  have HW3 := Lib.hid hw3
  have HF0 := HK.out.off ⟨1, 0⟩ w3
  unfold HSt.v at HF0
  have HF := Lib.hid HF0
  obtain ⟨y0, y1, y2, y3⟩ := hl3.stc
  unfold stO at HW3
  clear b2 hbs h1 hl3 hw3 HF0
  dsimp only at y0 y1
  go_wp2_with fail
  rw [HBS.out, HW3.out]
  refine HF.out.mono ?_
  rintro e w4 ⟨rfl, k4⟩
  have hl4 := HL3.out.next k4
  have HL5 := Lib.hid (hl4.next (kp_new w4 (stO ⟨4, 0⟩)))
  obtain ⟨bo, hbo⟩ : ∃ b, w4.heap.size = b := ⟨_, rfl⟩
  have HB5 := Lib.hid (heap_alloc_new w4 (stO ⟨4, 0⟩))
  have HBF := Lib.hid hbo
  have hso : bs < bo := by rw [← hbo]; exact hl4.size.1
  rw [hbo] at HB5
  unfold stO at HL5 HB5
  clear HF k4 hl4 HL3 HW3 y0 y1 y2 y3 hbo
  go_wp2_with fail
  rw [HBF.out]
  go_loopw [27] (fun i wr => ∃ (k : Nat) (s : HSt), k ≤ n1 ∧ i = .int .i64 k ∧ Hid (HInv c s) ∧ Hid (HLt W c bs s wr) ∧ Hid (wr.heap[bo]? = some (stO ⟨4, 0⟩))) (fun i _ => n1 - (intOf i).toNat)
  case atStart => exact ⟨0, _, Nat.zero_le _, rfl, Lib.hid (HInv.new HCR.out), HL5, HB5⟩
  case round =>
    obtain ⟨k, s, hk, rfl, hi, hl, hof⟩ := hrel
    clear HL5 HB5
    by_cases hlt : k < n1
    · have hkl : k < ps.length := by rw [HN1.out]; exact hlt
      obtain ⟨ad, rfl, _, hcc⟩ := (R1.out.next hl.out.low).at_ hkl
      obtain ⟨p0, p1⟩ := hcc wr (Below.refl _ _)
      clear hcc
      obtain ⟨s', hs'⟩ : ∃ x, stepHe c s ps[k] = x := ⟨_, rfl⟩
      have hi' : Hid (HInv c s') := Lib.hid (hs' ▸ hi.out.step HCR.out _)
      obtain ⟨m0, m1⟩ := hi.out.small HCR.out
      have hlag : ps[k].o = true → c.l < ps[k].l → s' = ⟨2, 0⟩ := fun h1 h2 => hs' ▸ step_lag hi.out.lo hi.out.hi h1 h2
      generalize ps[k] = pr at *
      have HC : Hid (∀ u, Calls Try.prog 14 #[.agg #[.int .i64 c.f, .int .i64 c.p, .int .u64 c.l], .agg #[.int .i64 s.i, .int .i64 s.c], .agg #[.bool pr.o, .int .u64 pr.l]] u fun e w' => e = .returned (.agg #[.int .i64 s'.i, .int .i64 s'.c]) ∧ Below u.heap.size u w') := Lib.hid fun u => by
        have := HK.out.step c s pr u HCR.out m0 m1
        rw [hs'] at this
        exact this
      have HD : Hid (∀ u, Calls Try.prog 14 #[.agg #[.int .i64 c.f, .int .i64 c.p, .int .u64 c.l], .agg #[.int .i64 4, .int .i64 0], .agg #[.bool pr.o, .int .u64 pr.l]] u fun e w' => e = .returned (.agg #[.int .i64 4, .int .i64 0]) ∧ Below u.heap.size u w') := Lib.hid fun u => by
        have := HK.out.step c ⟨4, 0⟩ pr u HCR.out (by simp) (by simp)
        rw [step_off] at this
        exact this
      obtain ⟨wx, hwx⟩ : ∃ u, wr.alloc (.cells #[.bool pr.o, .int .u64 pr.l] 28) = u := ⟨_, rfl⟩
      obtain ⟨bp, hbp⟩ : ∃ b, wr.heap.size = b := ⟨_, rfl⟩
      have kx : Below wr.heap.size wr wx := hwx ▸ kp_new wr _
      have HLX := Lib.hid (hl.out.next kx)
      have hz := (Array.getElem?_eq_some_iff.1 hof.out).1
      have HBO := Lib.hid ((kx.block _ hz).trans hof.out)
      have HBP : Hid (wx.heap[bp]? = some (.cells #[.bool pr.o, .int .u64 pr.l] 28 (0, 0))) := Lib.hid (by rw [← hbp, ← hwx]; exact heap_alloc_new wr _)
      have hls := hl.out.lt
      have HNE : Hid (bo ≠ bs ∧ bp ≠ bs ∧ bp ≠ bo ∧ W.heap.size < bo ∧ bo < bp) := Lib.hid (by omega)
      have HLG := Lib.hid hlag
      have HKR : Hid (∀ (i : Nat) (u : World), KeepT i u u) := Lib.hid fun _ _ => trivial
      have HWX := Lib.hid hwx
      have HBPE := Lib.hid hbp
      clear hs' hi hl hof hwx hbp kx hz hlag hls
      go_wp2_with fail
      rw [HWX.out, HBPE.out]
      refine wp_region_specs5 (S := fun L u => HLt W c bs (bif L 8 then s' else s) u ∧ u.heap[bo]? = some (stO ⟨4, 0⟩) ∧ u.heap[bp]? = some (.cells #[.bool pr.o, .int .u64 pr.l] 28 (0, 0)) ∧ (L 8 = true → L 1 = true)) (Kp := KeepT) (Sp := [(31, Sti.eq (.agg #[.int .i64 c.f, .int .i64 c.p, .int .u64 c.l])), (32, Sti.eq (.agg #[.int .i64 s.i, .int .i64 s.c])), (33, Sti.eq (.agg #[.bool pr.o, .int .u64 pr.l])), (34, Sti.eq (.agg #[.int .i64 s'.i, .int .i64 s'.c])), (35, Sti.eq (.agg #[.int .i64 c.f, .int .i64 c.p, .int .u64 c.l])), (36, Sti.eq (.agg #[.int .i64 4, .int .i64 0])), (37, Sti.eq (.agg #[.bool pr.o, .int .u64 pr.l])), (38, Sti.eq (.agg #[.int .i64 4, .int .i64 0]))]) (by kernel_rfl) (by kernel_rfl) (by kernel_rfl) (⟨HLX.out.next (kp_drewN _ 1), HBO.out, HBP.out, fun h => by cases h⟩) ?_ ?_
      · refine EachOp.cons ?_ ?_
        · intro L a u hL hst hS hdep hq
          have h3 : a.tmps.getD 3 undef = .pointer (some ⟨W.heap.size, 0, none⟩) := hst.out 3 (by kernel_rfl)
          refine .inl ⟨trivial, ?_⟩
          have g3 := gd h3
          obtain ⟨x0, x1, x2⟩ := hS.1.cfc
          go_simp
          exact Went4.same (HKR.out _ _) hS rfl
        refine EachOp.cons ?_ ?_
        · intro L a u hL hst hS hdep hq
          have h7 : a.tmps.getD 7 undef = .pointer (some ⟨bs, 0, none⟩) := hst.out 7 (by kernel_rfl)
          refine .inl ⟨trivial, ?_⟩
          have g7 := gd h7
          have hn8 : L 8 = false := by
            cases h : L 8 with
            | false => rfl
            | true => have := hS.2.2.2 h; rw [hL] at this; cases this
          have hS1 := hS.1
          rw [hn8] at hS1
          obtain ⟨y0, y1, _, _⟩ := hS1.stc
          dsimp only [cond_false] at y0 y1
          go_simp
          exact Went4.same trivial ⟨hS.1, hS.2.1, hS.2.2.1, fun _ => rfl⟩ rfl
        refine EachOp.cons ?_ ?_
        · intro L a u hL hst hS hdep hq
          have h10 : a.tmps.getD 10 undef = .pointer (some ⟨bp, 0, none⟩) := hst.out 10 (by kernel_rfl)
          refine .inl ⟨trivial, ?_⟩
          have g10 := gd h10
          have q0 := (cellsAt hS.2.2.1 0 (v := .bool pr.o) rfl).1
          have q1 := (cellsAt hS.2.2.1 1 (v := .int .u64 pr.l) rfl).1
          go_simp
          exact Went4.same (HKR.out _ _) hS rfl
        refine EachOp.cons ?_ ?_
        · intro L a u hL hst hS hdep hq
          have h31 : a.tmps.getD 31 undef = .agg #[.int .i64 c.f, .int .i64 c.p, .int .u64 c.l] := hdep 31 (by kernel_rfl)
          have h32 : a.tmps.getD 32 undef = .agg #[.int .i64 s.i, .int .i64 s.c] := hdep 32 (by kernel_rfl)
          have h33 : a.tmps.getD 33 undef = .agg #[.bool pr.o, .int .u64 pr.l] := hdep 33 (by kernel_rfl)
          refine .inl ⟨trivial, ?_⟩
          have g31 := gd h31
          have g32 := gd h32
          have g33 := gd h33
          go_simp
          refine (HC.out u).mono ?_
          rintro e u' ⟨rfl, hb'⟩
          exact Went4.next ⟨hS.1.next hb', (hb'.block _ (Array.getElem?_eq_some_iff.1 hS.2.1).1).trans hS.2.1, (hb'.block _ (Array.getElem?_eq_some_iff.1 hS.2.2.1).1).trans hS.2.2.1, hS.2.2.2⟩ trivial rfl
        refine EachOp.cons ?_ ?_
        · intro L a u hL hst hS hdep hq
          have h3 : a.tmps.getD 3 undef = .pointer (some ⟨W.heap.size, 0, none⟩) := hst.out 3 (by kernel_rfl)
          refine .inl ⟨trivial, ?_⟩
          have g3 := gd h3
          obtain ⟨x0, x1, x2⟩ := hS.1.cfc
          go_simp
          exact Went4.same (HKR.out _ _) hS rfl
        refine EachOp.cons ?_ ?_
        · intro L a u hL hst hS hdep hq
          have h8 : a.tmps.getD 8 undef = .pointer (some ⟨bo, 0, none⟩) := hst.out 8 (by kernel_rfl)
          refine .inl ⟨trivial, ?_⟩
          have g8 := gd h8
          have o0 := (cellsAt hS.2.1 0 (v := .int .i64 4) rfl).1
          have o1 := (cellsAt hS.2.1 1 (v := .int .i64 0) rfl).1
          go_simp
          exact Went4.same (HKR.out _ _) hS rfl
        refine EachOp.cons ?_ ?_
        · intro L a u hL hst hS hdep hq
          have h10 : a.tmps.getD 10 undef = .pointer (some ⟨bp, 0, none⟩) := hst.out 10 (by kernel_rfl)
          refine .inl ⟨trivial, ?_⟩
          have g10 := gd h10
          have q0 := (cellsAt hS.2.2.1 0 (v := .bool pr.o) rfl).1
          have q1 := (cellsAt hS.2.2.1 1 (v := .int .u64 pr.l) rfl).1
          go_simp
          exact Went4.same (HKR.out _ _) hS rfl
        refine EachOp.cons ?_ ?_
        · intro L a u hL hst hS hdep hq
          have h35 : a.tmps.getD 35 undef = .agg #[.int .i64 c.f, .int .i64 c.p, .int .u64 c.l] := hdep 35 (by kernel_rfl)
          have h36 : a.tmps.getD 36 undef = .agg #[.int .i64 4, .int .i64 0] := hdep 36 (by kernel_rfl)
          have h37 : a.tmps.getD 37 undef = .agg #[.bool pr.o, .int .u64 pr.l] := hdep 37 (by kernel_rfl)
          refine .inl ⟨trivial, ?_⟩
          have g35 := gd h35
          have g36 := gd h36
          have g37 := gd h37
          go_simp
          refine (HD.out u).mono ?_
          rintro e u' ⟨rfl, hb'⟩
          exact Went4.next ⟨hS.1.next hb', (hb'.block _ (Array.getElem?_eq_some_iff.1 hS.2.1).1).trans hS.2.1, (hb'.block _ (Array.getElem?_eq_some_iff.1 hS.2.2.1).1).trans hS.2.2.1, hS.2.2.2⟩ trivial rfl
        refine EachOp.cons ?_ ?_
        · intro L a u hL hst hS hdep hq
          have h7 : a.tmps.getD 7 undef = .pointer (some ⟨bs, 0, none⟩) := hst.out 7 (by kernel_rfl)
          have h34 : a.tmps.getD 34 undef = .agg #[.int .i64 s'.i, .int .i64 s'.c] := hdep 34 (by kernel_rfl)
          refine .inl ⟨trivial, ?_⟩
          have g7 := gd h7
          have g34 := gd h34
          have hn8 : L 8 = false := hL
          have hS1 := hS.1
          rw [hn8] at hS1
          obtain ⟨y0, y1, y2, y3⟩ := hS1.stc
          dsimp only [cond_false] at y0 y1
          go_simp
          refine ⟨undef, rfl, ⟨hS1.set s'.i s'.c, (two_other HNE.out.1 _ _).trans hS.2.1, (two_other HNE.out.2.1 _ _).trans hS.2.2.1, fun _ => ?_⟩, trivial, fun t e => by cases e⟩
          exact hq 3 1 (by kernel_rfl)
        refine EachOp.cons ?_ ?_
        · intro L a u hL hst hS hdep hq
          have h8 : a.tmps.getD 8 undef = .pointer (some ⟨bo, 0, none⟩) := hst.out 8 (by kernel_rfl)
          have h38 : a.tmps.getD 38 undef = .agg #[.int .i64 4, .int .i64 0] := hdep 38 (by kernel_rfl)
          refine .inl ⟨trivial, ?_⟩
          have g8 := gd h8
          have g38 := gd h38
          have o0 := (cellsAt hS.2.1 0 (v := .int .i64 4) rfl).1
          have o1 := (cellsAt hS.2.1 1 (v := .int .i64 0) rfl).1
          have o2 := (cellsAt hS.2.1 0 (v := .int .i64 4) rfl).2
          have o3 := (cellsAt hS.2.1 1 (v := .int .i64 0) rfl).2
          go_simp
          have hlt := hS.1.lt
          refine ⟨undef, rfl, ⟨⟨two_below hS.1.low (Nat.le_of_lt HNE.out.2.2.2.1) _ _, (two_other (Nat.ne_of_lt HNE.out.2.2.2.1) _ _).trans hS.1.cf, (two_other HNE.out.1.symm _ _).trans hS.1.st, hlt⟩, two_set hS.2.1 _ _, (two_other HNE.out.2.2.1 _ _).trans hS.2.2.1, hS.2.2.2⟩, trivial, fun t e => by cases e⟩
        exact EachOp.nil
      · intro L a u hLs hst hS hdep
        have h31 : a.tmps.getD 31 undef = .agg #[.int .i64 c.f, .int .i64 c.p, .int .u64 c.l] := hdep 31 (by kernel_rfl)
        have h32 : a.tmps.getD 32 undef = .agg #[.int .i64 s.i, .int .i64 s.c] := hdep 32 (by kernel_rfl)
        have h33 : a.tmps.getD 33 undef = .agg #[.bool pr.o, .int .u64 pr.l] := hdep 33 (by kernel_rfl)
        have h34 : a.tmps.getD 34 undef = .agg #[.int .i64 s'.i, .int .i64 s'.c] := hdep 34 (by kernel_rfl)
        have h35 : a.tmps.getD 35 undef = .agg #[.int .i64 c.f, .int .i64 c.p, .int .u64 c.l] := hdep 35 (by kernel_rfl)
        have h36 : a.tmps.getD 36 undef = .agg #[.int .i64 4, .int .i64 0] := hdep 36 (by kernel_rfl)
        have h37 : a.tmps.getD 37 undef = .agg #[.bool pr.o, .int .u64 pr.l] := hdep 37 (by kernel_rfl)
        have h38 : a.tmps.getD 38 undef = .agg #[.int .i64 4, .int .i64 0] := hdep 38 (by kernel_rfl)
        have hfr := hst.frame [(31, .agg #[.int .i64 c.f, .int .i64 c.p, .int .u64 c.l]), (32, .agg #[.int .i64 s.i, .int .i64 s.c]), (33, .agg #[.bool pr.o, .int .u64 pr.l]), (34, .agg #[.int .i64 s'.i, .int .i64 s'.c]), (35, .agg #[.int .i64 c.f, .int .i64 c.p, .int .u64 c.l]), (36, .agg #[.int .i64 4, .int .i64 0]), (37, .agg #[.bool pr.o, .int .u64 pr.l]), (38, .agg #[.int .i64 4, .int .i64 0])] (by kernel_rfl) ⟨h31, h32, h33, h34, h35, h36, h37, h38, trivial⟩
        clear hst hdep h31 h32 h33 h34 h35 h36 h37 h38
        subst hfr
        simp only [List.foldl_cons, List.foldl_nil, List.setIfInBounds_toArray, List.set_cons_zero, List.set_cons_succ]
        obtain ⟨hS1, hS2, hS3, _⟩ := hS
        rw [hLs 8 (by kernel_rfl)] at hS1
        dsimp only [cond_true] at hS1
        obtain ⟨w6, hw6⟩ : ∃ x, x = u := ⟨u, rfl⟩
        subst hw6
        have HL6 := Lib.hid hS1
        have HB6 := Lib.hid hS2
        obtain ⟨x0, x1, x2⟩ := hS1.cfc
        obtain ⟨y0, y1, y2, y3⟩ := hS1.stc
        have q0 := (cellsAt hS3 0 (v := .bool pr.o) rfl).1
        have q1 := (cellsAt hS3 1 (v := .int .u64 pr.l) rfl).1
        have o0 := (cellsAt hS2 0 (v := .int .i64 4) rfl).1
        have o1 := (cellsAt hS2 1 (v := .int .i64 0) rfl).1
        have hbz := (Array.getElem?_eq_some_iff.1 hS2).1
        clear hLs hS1 hS2 hS3 HLX HBO HBP HC HD HKR HWX HBPE p0 p1
        cases hpo : pr.o with
        | false =>
          go_wp2_with fail
          go_roundw
          case rel => exact ⟨k + 1, s', by omega, by go_num, hi', HL6, HB6⟩
          case measure => simp [intOf]; omega
        | true =>
          by_cases hlg : c.l < pr.l
          · obtain rfl := HLG.out hpo hlg
            have HSV : Hid (∀ u, Calls Try.prog 9 #[.agg #[.int .i64 2, .int .i64 0]] u fun e w' => e = .returned (.bool false) ∧ Below u.heap.size u w') := Lib.hid fun u => HK.out.serves ⟨2, 0⟩ u
            dsimp only at y0 y1
            clear HLG
            go_wp2_with fail
            refine (HSV.out _).mono ?_
            rintro e w7 ⟨rfl, k7⟩
            have HL7 := Lib.hid (HL6.out.next k7)
            have hb7 := (k7.block _ hbz).trans HB6.out
            have HB7 := Lib.hid hb7
            have o0 := (cellsAt hb7 0 (v := .int .i64 4) rfl).1
            have o1 := (cellsAt hb7 1 (v := .int .i64 0) rfl).1
            clear k7 hb7 HSV
            go_wp2_with fail
            go_roundw
            case rel => exact ⟨k + 1, ⟨2, 0⟩, by omega, by go_num, hi', HL7, HB7⟩
            case measure => simp [intOf]; omega
          · clear HLG
            go_wp2_with fail
            go_roundw
            case rel => exact ⟨k + 1, s', by omega, by go_num, hi', HL6, HB6⟩
            case measure => simp [intOf]; omega
    · obtain rfl : k = n1 := by omega
      obtain ⟨x0, x1, x2⟩ := hl.out.cfc
      obtain ⟨y0, y1, y2, y3⟩ := hl.out.stc
      obtain ⟨m0, m1⟩ := hi.out.small HCR.out
      have hwu : IntKind.u64.wrap (c.l + 1) = c.l + 1 := by rw [IntKind.wrap_u64]; omega
      have hbz := (Array.getElem?_eq_some_iff.1 hof.out).1
      have HC : Hid (∀ lg, c.l < lg → Calls Try.prog 14 #[.agg #[.int .i64 c.f, .int .i64 c.p, .int .u64 c.l], .agg #[.int .i64 s.i, .int .i64 s.c], .agg #[.bool true, .int .u64 lg]] wr fun e w' => e = .returned (.agg #[.int .i64 2, .int .i64 0]) ∧ Below wr.heap.size wr w') := Lib.hid fun lg hlg2 => by
        have := HK.out.step c s ⟨true, lg⟩ wr HCR.out m0 m1
        rw [step_lag hi.out.lo hi.out.hi rfl hlg2] at this
        exact this
      have HON : Hid (∀ u, Calls Try.prog 11 #[.agg #[.int .i64 4, .int .i64 0]] u fun e w' => e = .returned (.agg #[.int .i64 2, .int .i64 0]) ∧ Below u.heap.size u w') := Lib.hid fun u => HK.out.on ⟨4, 0⟩ u
      have HSV : Hid (∀ u, Calls Try.prog 9 #[.agg #[.int .i64 2, .int .i64 0]] u fun e w' => e = .returned (.bool false) ∧ Below u.heap.size u w') := Lib.hid fun u => HK.out.serves ⟨2, 0⟩ u
      clear hi
      by_cases hgl : g < c.l + 1
      · go_wp2_with fail
        refine (HC.out _ (by omega)).mono ?_
        rintro e w5 ⟨rfl, k5⟩
        have hl5 := hl.out.next k5
        obtain ⟨t0, t1, t2, t3⟩ := hl5.stc
        have hb5 := (k5.block _ hbz).trans hof.out
        have HL6 := Lib.hid (hl5.set 2 0)
        have HB6 := Lib.hid ((two_other (x' := .int .i64 2) (y' := .int .i64 0) (by omega : bo ≠ bs)).trans hb5)
        have o0 := (cellsAt hb5 0 (v := .int .i64 4) rfl).1
        have o1 := (cellsAt hb5 1 (v := .int .i64 0) rfl).1
        have hne : bo ≠ bs := by omega
        clear k5 hl5 hb5 HC hl hof x0 x1 x2 y0 y1 y2 y3
        go_wp2_with fail
        refine (HON.out _).mono ?_
        rintro e w7 ⟨rfl, k7⟩
        have HL8 := Lib.hid ((HL6.out.next k7).next (kp_new w7 (stO ⟨2, 0⟩)))
        have hs8 := HL8.out.size.1
        have b8 := heap_alloc_new w7 (stO ⟨2, 0⟩)
        obtain ⟨y0, y1, y2, y3⟩ := (HL6.out.next k7).stc
        have v0 := (HL6.out.next k7).size.1
        obtain ⟨z0, z1, _, _⟩ := HL8.out.stc
        unfold stO at HL8 b8 z0 z1
        dsimp only at y0 y1 z0 z1 b8
        clear k7 HON HL6 HB6
        go_wp2_with fail
        refine (HSV.out _).mono ?_
        rintro e w9 ⟨rfl, k9⟩
        have HK9 := Lib.hid (HL8.out.next k9).low
        clear k9 HSV
        go_wp2_with fail
        go_ret
        exact ⟨rfl, HK9.out⟩
      · go_wp2_with fail
        refine (HC.out _ (by omega)).mono ?_
        rintro e w5 ⟨rfl, k5⟩
        have hl5 := hl.out.next k5
        obtain ⟨t0, t1, t2, t3⟩ := hl5.stc
        have hb5 := (k5.block _ hbz).trans hof.out
        have HL6 := Lib.hid (hl5.set 2 0)
        have HB6 := Lib.hid ((two_other (x' := .int .i64 2) (y' := .int .i64 0) (by omega : bo ≠ bs)).trans hb5)
        have o0 := (cellsAt hb5 0 (v := .int .i64 4) rfl).1
        have o1 := (cellsAt hb5 1 (v := .int .i64 0) rfl).1
        have hne : bo ≠ bs := by omega
        clear k5 hl5 hb5 HC hl hof x0 x1 x2 y0 y1 y2 y3
        go_wp2_with fail
        refine (HON.out _).mono ?_
        rintro e w7 ⟨rfl, k7⟩
        have HL8 := Lib.hid ((HL6.out.next k7).next (kp_new w7 (stO ⟨2, 0⟩)))
        have hs8 := HL8.out.size.1
        have b8 := heap_alloc_new w7 (stO ⟨2, 0⟩)
        obtain ⟨y0, y1, y2, y3⟩ := (HL6.out.next k7).stc
        have v0 := (HL6.out.next k7).size.1
        obtain ⟨z0, z1, _, _⟩ := HL8.out.stc
        unfold stO at HL8 b8 z0 z1
        dsimp only at y0 y1 z0 z1 b8
        clear k7 HON HL6 HB6
        go_wp2_with fail
        refine (HSV.out _).mono ?_
        rintro e w9 ⟨rfl, k9⟩
        have HK9 := Lib.hid (HL8.out.next k9).low
        clear k9 HSV
        go_wp2_with fail
        go_ret
        exact ⟨rfl, HK9.out⟩
end Go.Proofs.Ytbhgoeofcapckaa
