/-
  The project's plan of probes: who is asked; Tick: contracts.
-/
import Derived.Test.YtgneieelfapmcaaPrH
namespace Go.Proofs.Ytgneieelfapmcaa
open Go.RowKit
set_option maxRecDepth 100000

theorem paskinfo : (Try.prog.info? 53).map (fun i => (i.zero, i.size, i.bytes)) = some (some (.agg #[.int .i64 0, .int .u64 0]), 2, 16) := by kernel_rfl
/-- within ask: who is asked, so far -/
structure TkF (b : Nat) (q : Pb) (now : Int) (S : Nat → Prop) (w : World) (j : Nat) (A : Option Addr) (n c : Nat) (wr : World) : Prop where
  asks : wr.ownsRow w.heap.size 53 2 (.slice A n c) n (akC (askF now q.last 0 (q.l.take j)))
  pl : PXx b { q with l := midR q.ev now q.last q.l j, last := q.last + cntF now (q.l.take j) } S wr
  off : Off S w wr
section
variable {b : Nat} {q : Pb} {S : Nat → Prop} {w u u' : World} {now : Int} {j : Nat} {A : Option Addr} {n c : Nat}
theorem TkF.ask (hlt : j < q.l.length) (ha : askB now q.l[j] = true) (hS : ∀ k, S k → k < w.heap.size)
    (hp : PXx b { q with l := (midR q.ev now q.last q.l j).set j ⟨now + q.ev, q.last + cntF now (q.l.take j) + 1, now⟩, last := q.last + cntF now (q.l.take j) + 1 } S u) (ho : Off S w u) (hb : Below w.heap.size u u')
    (hr : u'.ownsRow w.heap.size 53 2 (.slice A n c) n (akC (askF now q.last 0 (q.l.take j)) ++ [.int .i64 j, .int .u64 (q.last + cntF now (q.l.take j) + 1)])) : TkF b q now S w (j + 1) A n c u' := by
  refine ⟨?_, ?_, off_low ho hb⟩
  · rw [List.take_succ_eq_append_getElem hlt, askF_snoc, if_pos ha, akC_append]
    simpa [Nat.min_eq_left (Nat.le_of_lt hlt), akC] using hr
  · have h2 := hp.keep (fun k hk => hb.block k (hS k hk)) hb.size
    rw [midR_next hlt, if_pos ha, List.take_succ_eq_append_getElem hlt, cntF_snoc, if_pos ha]
    rw [← Int.add_assoc]
    exact h2
theorem TkF.not (h : TkF b q now S w j A n c u) (hlt : j < q.l.length) (ha : askB now q.l[j] = false) (hb : Below u.heap.size u u') : TkF b q now S w (j + 1) A n c u' := by
  have hat := midR_at (ev := q.ev) (now := now) (n := q.last) hlt
  refine ⟨?_, ?_, h.off.trans (Off.of (fun _ => False) hb) fun _ h => h.elim⟩
  · rw [List.take_succ_eq_append_getElem hlt, askF_snoc, if_neg (by rw [ha]; simp), List.append_nil]
    exact own_below_s h.asks hb (Nat.le_refl _)
  · rw [midR_next hlt, if_neg (by rw [ha]; simp), ← hat, List.set_getElem_self, List.take_succ_eq_append_getElem hlt, cntF_snoc, if_neg (by rw [ha]; simp), Int.add_zero]
    exact h.pl.next hb
/-- a node is written: its two cells -/
theorem PXx.setN {p : Pb} (h : PXx b p S w) {j : Nat} (hj : j < p.l.length) (d o a : Int) : PXx b { p with l := p.l.set j ⟨d, o, a⟩ } S ((w.setCell ⟨b, j * 2, none⟩ (.int .u64 d)).setCell ⟨b, j * 2 + 1, none⟩ (.int .u64 o)) := by
  have h1 := h.setD hj d
  have h2 := h1.setO (j := j) (by simpa using hj) o
  refine h2.ghost (l := p.l.set j ⟨d, o, a⟩) (by simp) fun i h3 h4 => ?_
  simp only [List.getElem_set]
  split
  · exact ⟨rfl, rfl⟩
  · exact ⟨rfl, rfl⟩
set_option maxHeartbeats 16000000 in
theorem pask_ok (now : Int) (h : PXx b q S w) (hn0 : 0 ≤ now) (hnm : now < 1125899906842624) (hev : 1 ≤ q.ev ∧ q.ev ≤ 1000) (hla0 : 0 ≤ q.last) (hlam : q.last < 1125899906842624) :
    Calls Try.prog 23 #[.pointer (some ⟨b, 0, none⟩), .int .u64 now] w fun e w' => ∃ A n c, e = .returned (.slice A n c) ∧ w'.ownsRow w.heap.size 53 2 (.slice A n c) n (akC (askF now q.last 0 q.l)) ∧ Off S w w' ∧ PXx b { q with l := runF q.ev now q.last q.l, last := q.last + cntF now q.l } S w' := by
  have hn6 := h.len
  have HSL : Hid (∀ k, S k → k < w.heap.size) := Lib.hid h.lt
  obtain ⟨s0, si, sz0, sz1, sz2⟩ := info_parts paskinfo
  have HA := Lib.hid (pall_ok h)
  have H := Lib.hid h
  clear h
  go_enter Try.func23, Try.ntmps23
  go_wp2_with fail
  refine HA.out.mono ?_
  rintro e w1 ⟨rfl, k1⟩
  have HT0 : Hid (TkF b q now S w 0 none 0 0 w1) := Lib.hid ⟨⟨by simp [askF, akC], .inl ⟨rfl, rfl⟩⟩, by rw [midR_zero]; simpa [cntF] using H.out.next k1, Off.of _ k1⟩
  clear HA k1
  go_wp2_with fail
  go_loopw [5, 11] (fun o i wr => ∃ (j n c : Nat) (A : Option Addr), j ≤ q.l.length ∧ n ≤ j ∧ i = .int .i64 j ∧ o = .slice A n c ∧ Hid (TkF b q now S w j A n c wr)) (fun _ i _ => q.l.length - (intOf i).toNat)
  case atStart => exact ⟨0, 0, 0, _, Nat.zero_le _, Nat.le_refl _, rfl, rfl, HT0⟩
  case round =>
    obtain ⟨j, n, c, A, hj, hm, rfl, rfl, ht⟩ := hrel
    clear HT0
    by_cases hlt : j < q.l.length
    · have hj0 : (0 : Int) ≤ (j : Int) := by omega
      have hj1 : (j : Int) < (q.l.length : Int) := by omega
      have hj6 : (j : Int) < 6 := by omega
      have hjm : j < (midR q.ev now q.last q.l j).length := by rw [midR_length]; exact hlt
      have hd := ht.out.pl.d j hjm
      have ho := ht.out.pl.o j hjm
      simp only [midR_at hlt] at hd ho
      have hbz := ht.out.pl.lt b ht.out.pl.sb
      have kn := kp_new wr (.cells #[.int .u64 q.l[j].d, .int .u64 q.l[j].o] 58)
      cases hask : askB now q.l[j] with
      | false =>
        have HT2 := Lib.hid (ht.out.not hlt hask kn)
        unfold askB at hask
        obtain ⟨xd, hxd⟩ : ∃ x, q.l[j].d = x := ⟨_, rfl⟩
        obtain ⟨xo, hxo⟩ : ∃ x, q.l[j].o = x := ⟨_, rfl⟩
        rw [hxd, hxo] at hask HT2
        rw [hxd] at hd
        rw [hxo] at ho
        clear ht hxd hxo kn
        cases c1 : (xo == 0) with
        | true =>
          have c2 : ¬ xd ≤ now := fun h => by
            have := of_decide_eq_false hask
            exact this ⟨h, by simpa using c1⟩
          clear hask
          go_wp2_with fail
          go_roundw
          case rel => exact ⟨j + 1, n, c, A, by omega, by omega, by go_num, rfl, HT2⟩
          case measure => simp [intOf]; omega
        | false =>
          clear hask
          go_wp2_with fail
          go_roundw
          case rel => exact ⟨j + 1, n, c, A, by omega, by omega, by go_num, rfl, HT2⟩
          case measure => simp [intOf]; omega
      | true =>
        have HAS := Lib.hid hask
        obtain ⟨c1, c2⟩ := of_decide_eq_true hask
        have c2' : (q.l[j].o == 0) = true := by simpa using c2
        have hcl := cntF_take_le now q.l j
        have hcd := cntF_le now q.l
        have hcn := cntF_nonneg now (q.l.take j)
        obtain ⟨l1, hl1⟩ : ∃ x, q.last + cntF now (q.l.take j) = x := ⟨_, rfl⟩
        have HL1 := Lib.hid hl1
        have hw5 : IntKind.u64.wrap (l1 + 1) = l1 + 1 := by rw [IntKind.wrap_u64]; omega
        have HWE : Hid (IntKind.u64.wrap (now + q.ev) = now + q.ev) := Lib.hid (by rw [IntKind.wrap_u64]; omega)
        have HKR : Hid (∀ (i : Nat) (u : World), KeepT i u u) := Lib.hid fun _ _ => trivial
        have hpl := ht.out.pl
        rw [hl1] at hpl
        have hx5 := hpl.last
        have hzw := hpl.fz 15
        have kn2 := kp_new (wr.setCell ⟨b, 15, none⟩ (.int .u64 (l1 + 1))) (.cells #[.int .u64 q.l[j].d, .int .u64 q.l[j].o] 58)
        have HX0 := Lib.hid ((hpl.setL (l1 + 1)).next kn2)
        have HO0 := Lib.hid (((Off.refl S wr).setCell (p := ⟨b, 15, none⟩) (.inl hpl.sb) (.int .u64 (l1 + 1))).trans (Off.of (fun _ => False) kn2) fun _ h => h.elim)
        have HAK := Lib.hid ht.out.asks
        have HZ := Lib.hid ht.out.off.size
        have HOF0 := Lib.hid ht.out.off
        have HJM := Lib.hid hjm
        generalize hxd : q.l[j].d = xd at hd c1 HX0 HO0
        generalize hxo : q.l[j].o = xo at ho c2' HX0 HO0
        clear ht hask c2 hcl hcd hcn hl1 hpl hjm kn kn2
        clear hxd hxo
        go_wp2_with fail
        obtain ⟨wx, hwx⟩ : ∃ u, (wr.setCell ⟨b, 15, none⟩ (.int .u64 (l1 + 1))).alloc (.cells #[.int .u64 xd, .int .u64 xo] 58) = u := ⟨_, rfl⟩
        rw [hwx] at HX0 HO0 ⊢
        have HX := HX0
        clear HX0 hwx hw5 hd ho hx5 hzw
        refine wp_region_specs5 (S := fun L u => PXx b { q with l := bif L 16 then (midR q.ev now q.last q.l j).set j ⟨now + q.ev, l1 + 1, now⟩ else midR q.ev now q.last q.l j, last := l1 + 1 } S u ∧ Off S wx u) (Kp := KeepT) (Sp := [(32, Sti.eq (.pointer (some ⟨b, 0, none⟩))), (33, Sti.eq (.int .i64 j)), (34, Sti.eq (.int .u64 now)), (35, Sti.eq (.pointer (some ⟨b, 0, none⟩))), (36, Sti.eq (.pointer (some ⟨b, 0, none⟩))), (37, Sti.eq (.pointer (some ⟨b, 13, none⟩))), (38, Sti.eq (.int .u64 q.ev)), (39, Sti.eq (.int .u64 (now + q.ev))), (40, Sti.eq (.pointer (some ⟨b, 0, none⟩))), (41, Sti.eq (.pointer (some ⟨b, 0, none⟩))), (42, Sti.eq (.pointer (some ⟨b, 15, none⟩))), (43, Sti.eq (.int .u64 (l1 + 1))), (44, Sti.eq (.agg #[.int .u64 (now + q.ev), .int .u64 (l1 + 1)])), (45, Sti.eq (.pointer (some ⟨b, 0, none⟩))), (46, Sti.eq (.pointer (some ⟨b, 0, none⟩))), (47, Sti.eq (.pointer (some ⟨b, j * 2, none⟩)))]) (by kernel_rfl) (by kernel_rfl) (by kernel_rfl) (⟨HX.out.keep (fun _ _ => rfl) (Nat.le_refl _), (Off.refl S wx).drew⟩) ?_ ?_
        · refine EachOp.cons ?_ ?_
          · intro L a u hL hst hS hdep hq
            have h0 : a.tmps.getD 0 undef = .pointer (some ⟨b, 0, none⟩) := hst.out 0 (by kernel_rfl)
            refine .inl ⟨trivial, ?_⟩
            have g0 := gd h0
            go_simp
            exact Went4.same (HKR.out _ _) hS rfl
          refine EachOp.cons ?_ ?_
          · intro L a u hL hst hS hdep hq
            have h6 : a.tmps.getD 6 undef = .int .i64 j := hst.out 6 (by kernel_rfl)
            refine .inl ⟨trivial, ?_⟩
            have g6 := gd h6
            go_simp
            exact Went4.same (HKR.out _ _) hS rfl
          refine EachOp.cons ?_ ?_
          · intro L a u hL hst hS hdep hq
            have h1 : a.tmps.getD 1 undef = .int .u64 now := hst.out 1 (by kernel_rfl)
            refine .inl ⟨trivial, ?_⟩
            have g1 := gd h1
            go_simp
            exact Went4.same (HKR.out _ _) hS rfl
          refine EachOp.cons ?_ ?_
          · intro L a u hL hst hS hdep hq
            have h0 : a.tmps.getD 0 undef = .pointer (some ⟨b, 0, none⟩) := hst.out 0 (by kernel_rfl)
            refine .inl ⟨trivial, ?_⟩
            have g0 := gd h0
            go_simp
            exact Went4.same (HKR.out _ _) hS rfl
          refine EachOp.cons ?_ ?_
          · intro L a u hL hst hS hdep hq
            have h35 : a.tmps.getD 35 undef = .pointer (some ⟨b, 0, none⟩) := hdep 35 (by kernel_rfl)
            refine .inl ⟨trivial, ?_⟩
            have g35 := gd h35
            go_simp
            exact Went4.same (HKR.out _ _) hS rfl
          refine EachOp.cons ?_ ?_
          · intro L a u hL hst hS hdep hq
            have h36 : a.tmps.getD 36 undef = .pointer (some ⟨b, 0, none⟩) := hdep 36 (by kernel_rfl)
            refine .inl ⟨trivial, ?_⟩
            have g36 := gd h36
            go_simp
            exact Went4.same (HKR.out _ _) hS rfl
          refine EachOp.cons ?_ ?_
          · intro L a u hL hst hS hdep hq
            have h37 : a.tmps.getD 37 undef = .pointer (some ⟨b, 13, none⟩) := hdep 37 (by kernel_rfl)
            refine .inl ⟨trivial, ?_⟩
            have g37 := gd h37
            have t3 : u.cell? ⟨b, 13, none⟩ = some (.int .u64 q.ev) := hS.1.ev
            go_simp
            exact Went4.same (HKR.out _ _) hS rfl
          refine EachOp.cons ?_ ?_
          · intro L a u hL hst hS hdep hq
            have h34 : a.tmps.getD 34 undef = .int .u64 now := hdep 34 (by kernel_rfl)
            have h38 : a.tmps.getD 38 undef = .int .u64 q.ev := hdep 38 (by kernel_rfl)
            refine .inl ⟨trivial, ?_⟩
            have g34 := gd h34
            have g38 := gd h38
            have hwe := HWE.out
            go_simp
            exact Went4.same (HKR.out _ _) hS rfl
          refine EachOp.cons ?_ ?_
          · intro L a u hL hst hS hdep hq
            have h0 : a.tmps.getD 0 undef = .pointer (some ⟨b, 0, none⟩) := hst.out 0 (by kernel_rfl)
            refine .inl ⟨trivial, ?_⟩
            have g0 := gd h0
            go_simp
            exact Went4.same (HKR.out _ _) hS rfl
          refine EachOp.cons ?_ ?_
          · intro L a u hL hst hS hdep hq
            have h40 : a.tmps.getD 40 undef = .pointer (some ⟨b, 0, none⟩) := hdep 40 (by kernel_rfl)
            refine .inl ⟨trivial, ?_⟩
            have g40 := gd h40
            go_simp
            exact Went4.same (HKR.out _ _) hS rfl
          refine EachOp.cons ?_ ?_
          · intro L a u hL hst hS hdep hq
            have h41 : a.tmps.getD 41 undef = .pointer (some ⟨b, 0, none⟩) := hdep 41 (by kernel_rfl)
            refine .inl ⟨trivial, ?_⟩
            have g41 := gd h41
            go_simp
            exact Went4.same (HKR.out _ _) hS rfl
          refine EachOp.cons ?_ ?_
          · intro L a u hL hst hS hdep hq
            have h42 : a.tmps.getD 42 undef = .pointer (some ⟨b, 15, none⟩) := hdep 42 (by kernel_rfl)
            refine .inl ⟨trivial, ?_⟩
            have g42 := gd h42
            have t5 : u.cell? ⟨b, 15, none⟩ = some (.int .u64 (l1 + 1)) := hS.1.last
            go_simp
            exact Went4.same (HKR.out _ _) hS rfl
          refine EachOp.cons ?_ ?_
          · intro L a u hL hst hS hdep hq
            have h39 : a.tmps.getD 39 undef = .int .u64 (now + q.ev) := hdep 39 (by kernel_rfl)
            have h43 : a.tmps.getD 43 undef = .int .u64 (l1 + 1) := hdep 43 (by kernel_rfl)
            refine .inl ⟨trivial, ?_⟩
            have g39 := gd h39
            have g43 := gd h43
            go_simp
            exact Went4.same (HKR.out _ _) hS rfl
          refine EachOp.cons ?_ ?_
          · intro L a u hL hst hS hdep hq
            have h32 : a.tmps.getD 32 undef = .pointer (some ⟨b, 0, none⟩) := hdep 32 (by kernel_rfl)
            refine .inl ⟨trivial, ?_⟩
            have g32 := gd h32
            go_simp
            exact Went4.same (HKR.out _ _) hS rfl
          refine EachOp.cons ?_ ?_
          · intro L a u hL hst hS hdep hq
            have h45 : a.tmps.getD 45 undef = .pointer (some ⟨b, 0, none⟩) := hdep 45 (by kernel_rfl)
            refine .inl ⟨trivial, ?_⟩
            have g45 := gd h45
            go_simp
            exact Went4.same (HKR.out _ _) hS rfl
          refine EachOp.cons ?_ ?_
          · intro L a u hL hst hS hdep hq
            have h33 : a.tmps.getD 33 undef = .int .i64 j := hdep 33 (by kernel_rfl)
            have h46 : a.tmps.getD 46 undef = .pointer (some ⟨b, 0, none⟩) := hdep 46 (by kernel_rfl)
            refine .inl ⟨trivial, ?_⟩
            have g33 := gd h33
            have g46 := gd h46
            have hj0 : (0 : Int) ≤ (j : Int) := by omega
            have hj6 : (j : Int) < 6 := by omega
            go_simp
            exact Went4.same (HKR.out _ _) hS rfl
          refine EachOp.cons ?_ ?_
          · intro L a u hL hst hS hdep hq
            have h44 : a.tmps.getD 44 undef = .agg #[.int .u64 (now + q.ev), .int .u64 (l1 + 1)] := hdep 44 (by kernel_rfl)
            have h47 : a.tmps.getD 47 undef = .pointer (some ⟨b, j * 2, none⟩) := hdep 47 (by kernel_rfl)
            refine .inl ⟨trivial, ?_⟩
            have g44 := gd h44
            have g47 := gd h47
            have hS1 := hS.1
            rw [hL] at hS1
            dsimp only [cond_false] at hS1
            have y0 := hS1.d j HJM.out
            have y1 := hS1.o j HJM.out
            have z0 := hS1.fz (j * 2)
            have z1 := hS1.fz (j * 2 + 1)
            go_simp
            refine ⟨undef, rfl, ⟨hS1.setN HJM.out (now + q.ev) (l1 + 1) now, (hS.2.setCell (.inl hS1.sb) _).setCell (.inl hS1.sb) _⟩, trivial, fun t e => by cases e⟩
          exact EachOp.nil
        · intro L a u hLs hst hS hdep
          have h32 : a.tmps.getD 32 undef = .pointer (some ⟨b, 0, none⟩) := hdep 32 (by kernel_rfl)
          have h33 : a.tmps.getD 33 undef = .int .i64 j := hdep 33 (by kernel_rfl)
          have h34 : a.tmps.getD 34 undef = .int .u64 now := hdep 34 (by kernel_rfl)
          have h35 : a.tmps.getD 35 undef = .pointer (some ⟨b, 0, none⟩) := hdep 35 (by kernel_rfl)
          have h36 : a.tmps.getD 36 undef = .pointer (some ⟨b, 0, none⟩) := hdep 36 (by kernel_rfl)
          have h37 : a.tmps.getD 37 undef = .pointer (some ⟨b, 13, none⟩) := hdep 37 (by kernel_rfl)
          have h38 : a.tmps.getD 38 undef = .int .u64 q.ev := hdep 38 (by kernel_rfl)
          have h39 : a.tmps.getD 39 undef = .int .u64 (now + q.ev) := hdep 39 (by kernel_rfl)
          have h40 : a.tmps.getD 40 undef = .pointer (some ⟨b, 0, none⟩) := hdep 40 (by kernel_rfl)
          have h41 : a.tmps.getD 41 undef = .pointer (some ⟨b, 0, none⟩) := hdep 41 (by kernel_rfl)
          have h42 : a.tmps.getD 42 undef = .pointer (some ⟨b, 15, none⟩) := hdep 42 (by kernel_rfl)
          have h43 : a.tmps.getD 43 undef = .int .u64 (l1 + 1) := hdep 43 (by kernel_rfl)
          have h44 : a.tmps.getD 44 undef = .agg #[.int .u64 (now + q.ev), .int .u64 (l1 + 1)] := hdep 44 (by kernel_rfl)
          have h45 : a.tmps.getD 45 undef = .pointer (some ⟨b, 0, none⟩) := hdep 45 (by kernel_rfl)
          have h46 : a.tmps.getD 46 undef = .pointer (some ⟨b, 0, none⟩) := hdep 46 (by kernel_rfl)
          have h47 : a.tmps.getD 47 undef = .pointer (some ⟨b, j * 2, none⟩) := hdep 47 (by kernel_rfl)
          have hfr := hst.frame [(32, .pointer (some ⟨b, 0, none⟩)), (33, .int .i64 j), (34, .int .u64 now), (35, .pointer (some ⟨b, 0, none⟩)), (36, .pointer (some ⟨b, 0, none⟩)), (37, .pointer (some ⟨b, 13, none⟩)), (38, .int .u64 q.ev), (39, .int .u64 (now + q.ev)), (40, .pointer (some ⟨b, 0, none⟩)), (41, .pointer (some ⟨b, 0, none⟩)), (42, .pointer (some ⟨b, 15, none⟩)), (43, .int .u64 (l1 + 1)), (44, .agg #[.int .u64 (now + q.ev), .int .u64 (l1 + 1)]), (45, .pointer (some ⟨b, 0, none⟩)), (46, .pointer (some ⟨b, 0, none⟩)), (47, .pointer (some ⟨b, j * 2, none⟩))] (by kernel_rfl) ⟨h32, h33, h34, h35, h36, h37, h38, h39, h40, h41, h42, h43, h44, h45, h46, h47, trivial⟩
          clear hst hdep h32 h33 h34 h35 h36 h37 h38 h39 h40 h41 h42 h43 h44 h45 h46 h47
          subst hfr
          simp only [List.foldl_cons, List.foldl_nil, List.setIfInBounds_toArray, List.set_cons_zero, List.set_cons_succ]
          obtain ⟨hx3, hf3⟩ := hS
          rw [hLs 16 (by kernel_rfl)] at hx3
          dsimp only [cond_true] at hx3
          obtain ⟨w16, hw16⟩ : ∃ x, x = u := ⟨u, rfl⟩
          subst hw16
          have t5 : w16.cell? ⟨b, 15, none⟩ = some (.int .u64 (l1 + 1)) := hx3.last
          have ho16 : Off S wr w16 := HO0.out.trans hf3 fun _ h => .inl h
          have HO1 := Lib.hid ((own_off HAK.out ho16 HSL.out).alloc (.cells #[.int .i64 j, .int .u64 (l1 + 1)] 53))
          have HSRC : Hid (Rd (w16.alloc (.cells #[.int .i64 j, .int .u64 (l1 + 1)] 53)) (w16.heap.size + 1) (some ⟨w16.heap.size, 0, none⟩) [.int .i64 j, .int .u64 (l1 + 1)]) := Lib.hid (Rd.new w16 53 [.int .i64 j, .int .u64 (l1 + 1)])
          have hz16 : w.heap.size ≤ w16.heap.size := Nat.le_trans HZ.out ho16.size
          have HSW : Hid (w.heap.size ≤ (w16.alloc (.cells #[.int .i64 j, .int .u64 (l1 + 1)] 53)).heap.size) := Lib.hid (by rw [World.size_alloc]; omega)
          have HP3 := Lib.hid hx3
          have HOW := Lib.hid (HOF0.out.trans ho16 fun _ h => .inl h)
          have HKA : Hid (Below w.heap.size w16 (w16.alloc (.cells #[.int .i64 j, .int .u64 (l1 + 1)] 53))) := Lib.hid ((kp_new w16 _).mono hz16)
          clear hf3 hLs ho16 hx3 hz16
          go_wp2_with (at_builtin; refine wpList_append_rds rfl _ _ _ rfl w.heap.size 53 s0 _ 2 16 Try.underlying35 si sz0 sz1 sz2 rfl (by omega) _ n _ rfl HO1.out _ _ _ _ [.int .i64 j, .int .u64 (l1 + 1)] rfl rfl HSRC.out (by simp [Value.oneCell']) (by unfold maxLen; omega) (by omega) HSW.out ?_; intro v3 w3 hown3 hg3; obtain ⟨A3, c3, rfl, _, _⟩ := own_form_s hown3; have HA3 := Lib.hid hown3; have HK3 := Lib.hid (below_own_s HO1.out hg3 HSW.out); clear hown3 hg3)
          have HF : Hid (TkF b q now S w (j + 1) A3 (n + 1) c3 w3) := Lib.hid (TkF.ask hlt HAS.out HSL.out (u := w16) (by rw [HL1.out]; exact HP3.out) HOW.out (HKA.out.trans HK3.out) (by rw [HL1.out]; exact HA3.out))
          clear HP3 HOW HKA HK3 HA3 HO1 HSRC HSW t5
          go_roundw
          case rel => exact ⟨j + 1, n + 1, c3, A3, by omega, by omega, by go_num, rfl, HF⟩
          case measure => simp [intOf]; omega
    · obtain rfl : j = q.l.length := by omega
      have hrow := ht.out.asks
      have hpl := ht.out.pl
      rw [List.take_of_length_le (Nat.le_refl _)] at hrow hpl
      rw [midR_done] at hpl
      have HF := Lib.hid (show _ ∧ _ ∧ _ from ⟨hrow, ht.out.off, hpl⟩)
      clear ht hrow hpl
      go_wp2_with fail
      go_ret
      exact ⟨_, _, _, rfl, HF.out⟩
end

end Go.Proofs.Ytgneieelfapmcaa
