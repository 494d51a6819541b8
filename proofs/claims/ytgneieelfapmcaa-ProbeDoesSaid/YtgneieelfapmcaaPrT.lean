/-
  The document's layer 13: Tick: contract.
-/
import Derived.Test.YtgneieelfapmcaaPrR
import Derived.Test.YtgneieelfapmcaaPrQ
import Derived.Test.YtgneieelfapmcaaReg5
namespace Go.Proofs.Ytgneieelfapmcaa
open Go.RowKit
set_option maxRecDepth 100000

theorem intinfo13 : (Try.prog.info? 3).map (fun i => (i.zero, i.size, i.bytes)) = some (some (.int .i64 0), 1, 8) := by kernel_rfl
theorem raskinfo : (Try.prog.info? 55).map (fun i => (i.zero, i.size, i.bytes)) = some (some (.agg #[.int .i64 0, .int .u64 0]), 2, 16) := by kernel_rfl
/-- who is asked, as cells -/
def akC (ts : List (Int × Int)) : List Value := ts.flatMap fun t => [.int .i64 t.1, .int .u64 t.2]
theorem akC_append (a b : List (Int × Int)) : akC (a ++ b) = akC a ++ akC b := by simp [akC]
/-- within Tick: who is late, so far -/
structure TkL (r : Nat) (p : Pb) (now : Int) (q : RPl) (S : Nat → Prop) (w : World) (j : Nat) (D : Option Addr) (m e : Nat) (wr : World) : Prop where
  row : wr.ownsRow w.heap.size 3 1 (.slice D m e) m (ivs (lateF p.la now 0 (p.l.take j)))
  pl : RPx r q p.l.length p.ev p.la p.last ((midL p.la now p.l j).map Nw.d) ((midL p.la now p.l j).map Nw.o) ((midL p.la now p.l j).map Nw.a) S wr
  off : Off S w wr
theorem own_off {w w' : World} {base n size : Nat} {e : TypeId} {v : Value} {xs : List Value} {S : Nat → Prop} (h : w.ownsRow base e size v n xs) (ho : Off S w w') (hS : ∀ k, S k → k < base) : w'.ownsRow base e size v n xs :=
  own_keep h fun g hg => ho.block g (h.lt g hg).2 fun hk => by have := hS g hk; have := (h.lt g hg).1; omega

theorem off_low {S : Nat → Prop} {w u w' : World} (h : Off S w u) (hb : Below w.heap.size u w') : Off S w w' :=
  ⟨hb.os.trans h.os, hb.tape.trans h.tape, hb.output.trans h.output, Nat.le_trans h.size hb.size, fun k hk hn => (hb.block k hk).trans (h.block k hk hn)⟩
theorem map_same {f : Nw → Int} {l : List Nw} {j : Nat} {y : Nw} (h : j < l.length) (he : f y = f l[j]) : (l.set j y).map f = l.map f := by
  rw [List.map_set, he]
  have : (l.map f)[j]'(by simpa using h) = f l[j] := by simp
  rw [← this]
  exact List.set_getElem_self _
/-- the next of who is late -/
theorem TkL.late {r : Nat} {p : Pb} {now : Int} {q : RPl} {S : Nat → Prop} {w u u' : World} {j : Nat} {D : Option Addr} {m e : Nat} (hlt : j < p.l.length) (hl : lateB p.la now p.l[j] = true) (hS : ∀ k, S k → k < w.heap.size)
    (hp : RPx r q p.l.length p.ev p.la p.last ((midL p.la now p.l j).map Nw.d) (((midL p.la now p.l j).map Nw.o).set j 0) ((midL p.la now p.l j).map Nw.a) S u) (ho : Off S w u) (hb : Below w.heap.size u u') (hr : u'.ownsRow w.heap.size 3 1 (.slice D m e) m (ivs (lateF p.la now 0 (p.l.take j)) ++ [.int .i64 j])) : TkL r p now q S w (j + 1) D m e u' := by
  have hml : j < (midL p.la now p.l j).length := by rw [midL_length]; exact hlt
  have hat := midL_at (la := p.la) (now := now) hlt
  have hdr : dropN p.la now p.l[j] = { p.l[j] with o := 0 } := by unfold dropN; rw [hl]; rfl
  refine ⟨?_, ?_, off_low ho hb⟩
  · rw [List.take_succ_eq_append_getElem hlt, lateF_snoc, if_pos hl, ivs_append]
    simpa [Nat.min_eq_left (Nat.le_of_lt hlt), ivs] using hr
  · have h2 := hp.keep (fun k hk => hb.block k (hS k hk)) hb.size
    rw [midL_next hlt, hdr]
    rw [map_same (f := Nw.d) hml (by rw [hat]), map_same (f := Nw.a) hml (by rw [hat]), List.map_set]
    exact h2
/-- the next of who isn't -/
theorem TkL.not {r : Nat} {p : Pb} {now : Int} {q : RPl} {S : Nat → Prop} {w u u' : World} {j : Nat} {D : Option Addr} {m e : Nat} (h : TkL r p now q S w j D m e u) (hlt : j < p.l.length) (hl : lateB p.la now p.l[j] = false) (hb : Below u.heap.size u u') : TkL r p now q S w (j + 1) D m e u' := by
  have hml : j < (midL p.la now p.l j).length := by rw [midL_length]; exact hlt
  have hdr : dropN p.la now p.l[j] = (midL p.la now p.l j)[j] := by rw [midL_at hlt]; unfold dropN; rw [hl]; rfl
  refine ⟨?_, ?_, h.off.trans (Off.of (fun _ => False) hb) fun _ h => h.elim⟩
  · rw [List.take_succ_eq_append_getElem hlt, lateF_snoc, hl, if_neg (by simp), List.append_nil]
    exact own_below_s h.row hb (Nat.le_refl _)
  · rw [midL_next hlt, hdr, List.set_getElem_self]
    exact h.pl.next hb
/-- within Tick: who is asked, so far -/
structure TkR (r : Nat) (p : Pb) (now : Int) (dl : List Nw) (q : RPl) (S : Nat → Prop) (w : World) (D : Option Addr) (m e j : Nat) (A : Option Addr) (n c : Nat) (wr : World) : Prop where
  late : wr.ownsRow w.heap.size 3 1 (.slice D m e) m (ivs (tickL p now))
  asks : wr.ownsRow w.heap.size 55 2 (.slice A n c) n (akC (askF now p.last 0 (dl.take j)))
  pl : RPx r q p.l.length p.ev p.la (p.last + cntF now (dl.take j)) ((midR p.ev now p.last dl j).map Nw.d) ((midR p.ev now p.last dl j).map Nw.o) ((midR p.ev now p.last dl j).map Nw.a) S wr
  off : Off S w wr
theorem TkR.ask {r : Nat} {p : Pb} {now : Int} {dl : List Nw} {q : RPl} {S : Nat → Prop} {w u u' : World} {D : Option Addr} {m e j : Nat} {A : Option Addr} {n c : Nat} (hlt : j < dl.length) (ha : askB now dl[j] = true) (hS : ∀ k, S k → k < w.heap.size)
    (hl : u'.ownsRow w.heap.size 3 1 (.slice D m e) m (ivs (tickL p now)))
    (hp : RPx r q p.l.length p.ev p.la (p.last + cntF now (dl.take j) + 1) (((midR p.ev now p.last dl j).map Nw.d).set j (now + p.ev)) (((midR p.ev now p.last dl j).map Nw.o).set j (p.last + cntF now (dl.take j) + 1)) (((midR p.ev now p.last dl j).map Nw.a).set j now) S u)
    (ho : Off S w u) (hb : Below w.heap.size u u') (hr : u'.ownsRow w.heap.size 55 2 (.slice A n c) n (akC (askF now p.last 0 (dl.take j)) ++ [.int .i64 j, .int .u64 (p.last + cntF now (dl.take j) + 1)])) : TkR r p now dl q S w D m e (j + 1) A n c u' := by
  refine ⟨hl, ?_, ?_, off_low ho hb⟩
  · rw [List.take_succ_eq_append_getElem hlt, askF_snoc, if_pos ha, akC_append]
    simpa [Nat.min_eq_left (Nat.le_of_lt hlt), akC] using hr
  · have h2 := hp.keep (fun k hk => hb.block k (hS k hk)) hb.size
    rw [midR_next hlt, if_pos ha, List.map_set, List.map_set, List.map_set, List.take_succ_eq_append_getElem hlt, cntF_snoc, if_pos ha]
    rw [← Int.add_assoc]
    exact h2
theorem TkR.not {r : Nat} {p : Pb} {now : Int} {dl : List Nw} {q : RPl} {S : Nat → Prop} {w u u' : World} {D : Option Addr} {m e j : Nat} {A : Option Addr} {n c : Nat} (h : TkR r p now dl q S w D m e j A n c u) (hlt : j < dl.length) (ha : askB now dl[j] = false) (hb : Below u.heap.size u u') : TkR r p now dl q S w D m e (j + 1) A n c u' := by
  have hat := midR_at (ev := p.ev) (now := now) (n := p.last) hlt
  refine ⟨own_below_s h.late hb (Nat.le_refl _), ?_, ?_, h.off.trans (Off.of (fun _ => False) hb) fun _ h => h.elim⟩
  · rw [List.take_succ_eq_append_getElem hlt, askF_snoc, if_neg (by rw [ha]; simp), List.append_nil]
    exact own_below_s h.asks hb (Nat.le_refl _)
  · rw [midR_next hlt, if_neg (by rw [ha]; simp), ← hat, List.set_getElem_self, List.take_succ_eq_append_getElem hlt, cntF_snoc, if_neg (by rw [ha]; simp), Int.add_zero]
    exact h.pl.next hb

section
variable {r : Nat} {p : Pb} {S : Nat → Prop} {w : World}
set_option maxHeartbeats 16000000 in
theorem rtick_ok (now : Int) (h : (RPb r p).p S w) (hn6 : p.l.length ≤ 6) (hn0 : 0 ≤ now) (hnm : now < 1125899906842624) (hla : 1 ≤ p.la ∧ p.la ≤ 1000) (hev : 1 ≤ p.ev ∧ p.ev ≤ 1000) (hla0 : 0 ≤ p.last) (hlam : p.last < 1125899906842624) (hat : ∀ x ∈ p.l, 0 ≤ x.a ∧ x.a < 1125899906842624) :
    Calls Try.prog 11 #[.pointer (some ⟨r, 0, none⟩), .int .u64 now] w fun e w' => ∃ A n c B m d, e = .returned (.tuple #[.slice A n c, .slice B m d]) ∧ w'.ownsRow w.heap.size 55 2 (.slice A n c) n (akC (tickA p now)) ∧ w'.ownsRow w.heap.size 3 1 (.slice B m d) m (ivs (tickL p now)) ∧ Off S w w' ∧ (RPb r (tickC p now)).p S w' := by
  obtain ⟨q, hx⟩ := h
  have hSl : ∀ k, S k → k < w.heap.size := hx.lt
  have HSL := Lib.hid hSl
  have HAT := Lib.hid hat
  obtain ⟨i0, hi, hz0, hz1, hz2⟩ := info_parts intinfo13
  obtain ⟨s0, si, sz0, sz1, sz2⟩ := info_parts raskinfo
  have HT0 : Hid (TkL r p now q S w 0 (some ⟨w.heap.size, 0, none⟩) 0 0 (w.alloc (.cells #[] 3))) := Lib.hid ⟨own_new_s w w.heap.size 1 3 0 [] rfl (Nat.le_refl _) (Nat.zero_le _), by rw [midL_zero]; exact hx.next (kp_new w _), Off.of _ (kp_new w _)⟩
  clear hx hSl hat
  go_enter Try.func11, Try.ntmps11
  go_wp2_with fail
  go_loopw [6, 7] (fun o i wr => ∃ (j m e : Nat) (D : Option Addr), j ≤ p.l.length ∧ m ≤ j ∧ i = .int .i64 j ∧ o = .slice D m e ∧ Hid (TkL r p now q S w j D m e wr)) (fun _ i _ => p.l.length - (intOf i).toNat)
  case atStart => exact ⟨0, 0, 0, _, Nat.zero_le _, Nat.le_refl _, rfl, rfl, HT0⟩
  case round =>
    obtain ⟨j, m, e, D, hj, hm, rfl, rfl, ht⟩ := hrel
    clear HT0
    obtain ⟨t0, t1, t2, t3, t4, t5, _⟩ := ht.out.pl.tops
    by_cases hlt : j < p.l.length
    · have hj0 : (0 : Int) ≤ (j : Int) := by omega
      have hj1 : (j : Int) < (p.l.length : Int) := by omega
      obtain ⟨a0, a1⟩ := HAT.out p.l[j] (List.getElem_mem hlt)
      obtain ⟨l1, l2, l3⟩ := ht.out.pl.lens
      have ho := (ht.out.pl.oat (j := j) (by omega)).1
      have ha := (ht.out.pl.aat (j := j) (by omega)).1
      rw [List.getElem_map, midL_at hlt] at ho ha
      have hwa : IntKind.u64.wrap (p.l[j].a + p.la) = p.l[j].a + p.la := by rw [IntKind.wrap_u64]; omega
      clear l1 l2 l3
      cases hlate : lateB p.la now p.l[j] with
      | true =>
        obtain ⟨c1, c2⟩ := of_decide_eq_true hlate
        have c1' : (p.l[j].o != 0) = true := by simpa using c1
        have HLT := Lib.hid hlate
        clear hlate c1
        obtain ⟨xo, hxo⟩ : ∃ x, p.l[j].o = x := ⟨_, rfl⟩
        obtain ⟨xa, hxa⟩ : ∃ x, p.l[j].a = x := ⟨_, rfl⟩
        rw [hxo] at ho c1'
        rw [hxa] at ha hwa c2 a0 a1
        clear hxo hxa
        go_wp2_with fail
        go_quiet (fail)
        have kd := kp_drewN wr nq
        obtain ⟨wd, hwd⟩ : ∃ u, wr.drewN nq = u := ⟨_, rfl⟩
        rw [hwd] at kd ⊢
        have hpl := ht.out.pl.next kd
        obtain ⟨l1, l2, l3⟩ := hpl.lens
        obtain ⟨t0, t1, t2, t3, t4, t5, _⟩ := hpl.tops
        obtain ⟨y0, y1⟩ := hpl.oat (j := j) (by omega)
        have hpl2 := hpl.setO j 0
        have hof := ((Off.of S kd).setCell (p := ⟨q.go, j, none⟩) (.inl hpl.so) (.int .u64 0))
        have hrow := own_off ht.out.row hof HSL.out
        have hz : w.heap.size ≤ (wd.setCell ⟨q.go, j, none⟩ (.int .u64 0)).heap.size := by rw [set_size]; exact Nat.le_trans ht.out.off.size kd.size
        have HO1 := Lib.hid (hrow.alloc (.cells #[.int .i64 j] 3))
        have HSRC : Hid (Rd ((wd.setCell ⟨q.go, j, none⟩ (.int .u64 0)).alloc (.cells #[.int .i64 j] 3)) (wd.heap.size + 1) (some ⟨wd.heap.size, 0, none⟩) [.int .i64 j]) := Lib.hid (by
          have := Rd.new (wd.setCell ⟨q.go, j, none⟩ (.int .u64 0)) 3 [.int .i64 j]
          rwa [set_size] at this)
        have HSW : Hid (w.heap.size ≤ ((wd.setCell ⟨q.go, j, none⟩ (.int .u64 0)).alloc (.cells #[.int .i64 j] 3)).heap.size) := Lib.hid (by rw [World.size_alloc]; omega)
        have HPL := Lib.hid hpl2
        have HZ : Hid (w.heap.size ≤ wd.heap.size) := Lib.hid (by rw [set_size] at hz; exact hz)
        have HOF := Lib.hid (ht.out.off.trans hof fun _ h => .inl h)
        have hgz : q.go < wd.heap.size := hpl.lt _ hpl.so
        clear ht kd hwd hpl hpl2 hof hrow hz ho ha
        go_wp2_with (at_builtin; refine wpList_append_rd rfl _ _ _ rfl w.heap.size 3 i0 _ 8 Try.underlying36 hi hz0 hz1 hz2 rfl _ m _ rfl HO1.out _ _ _ _ [.int .i64 j] rfl rfl HSRC.out (by simp [Value.oneCell']) (by unfold maxLen; omega) (by omega) HSW.out ?_; intro v3 w3 hown3 hg3; obtain ⟨D3, e3, rfl, _, _⟩ := own_form hown3; have HO3 := Lib.hid hown3; have HK3 := Lib.hid (below_own_s HO1.out hg3 HSW.out); have HG3 := Lib.hid hg3; clear hown3 hg3)
        go_roundw
        case rel => exact ⟨j + 1, m + 1, e3, D3, by omega, by omega, by go_num, rfl, Lib.hid (TkL.late hlt HLT.out HSL.out HPL.out HOF.out ((kp_alloc (Below.refl _ _) _).mono (by rw [set_size]; exact HZ.out) |>.trans HK3.out) HO3.out)⟩
        case measure => simp [intOf]; omega
      | false =>
        have HLT := Lib.hid hlate
        obtain ⟨xo, hxo⟩ : ∃ x, p.l[j].o = x := ⟨_, rfl⟩
        obtain ⟨xa, hxa⟩ : ∃ x, p.l[j].a = x := ⟨_, rfl⟩
        unfold lateB at hlate
        rw [hxo, hxa] at hlate
        rw [hxo] at ho
        rw [hxa] at ha hwa a0 a1
        clear hxo hxa
        by_cases c1 : xo = 0
        · have c1' : (xo != 0) = false := by simpa using c1
          clear hlate c1
          go_wp2_with fail
          go_quiet (fail)
          have kd := kp_drewN wr nq
          generalize wr.drewN nq = wd at *
          have HT2 := Lib.hid (ht.out.not hlt HLT.out kd)
          clear ht kd ho ha
          go_wp2_with fail
          go_roundw
          case rel => exact ⟨j + 1, m, e, D, by omega, by omega, by go_num, rfl, HT2⟩
          case measure => simp [intOf]; omega
        · have c1' : (xo != 0) = true := by simpa using c1
          have c2 : ¬ xa + p.la ≤ now := fun h => by
            have := of_decide_eq_false hlate
            exact this ⟨c1, h⟩
          clear hlate c1
          go_wp2_with fail
          go_quiet (fail)
          have kd := kp_drewN wr nq
          generalize wr.drewN nq = wd at *
          have HT2 := Lib.hid (ht.out.not hlt HLT.out kd)
          clear ht kd ho ha
          go_wp2_with fail
          go_roundw
          case rel => exact ⟨j + 1, m, e, D, by omega, by omega, by go_num, rfl, HT2⟩
          case measure => simp [intOf]; omega
    · obtain rfl : j = p.l.length := by omega
      obtain ⟨dl, hdl⟩ : ∃ d, p.l.map (dropN p.la now) = d := ⟨_, rfl⟩
      have hdn : dl.length = p.l.length := by rw [← hdl]; simp
      have hlate := ht.out.row
      have hpl := ht.out.pl
      rw [List.take_of_length_le (Nat.le_refl _)] at hlate
      rw [midL_done, hdl] at hpl
      have HT2 : Hid (TkR r p now dl q S w D m e 0 (some ⟨wr.heap.size, 0, none⟩) 0 0 (wr.alloc (.cells #[] 55))) := Lib.hid ⟨own_below_s hlate (kp_new wr _) (Nat.le_refl _), own_new_s wr w.heap.size 2 55 0 [] rfl ht.out.off.size (Nat.zero_le _), by
        rw [midR_zero]
        simpa [cntF] using hpl.next (kp_new wr _), ht.out.off.trans (Off.of (fun _ => False) (kp_new wr _)) fun _ h => h.elim⟩
      have HDL := Lib.hid hdl
      have hm6 : m ≤ 6 := by omega
      clear ht hlate hpl hdl hj hlt hm
      go_wp2_with fail
      obtain ⟨wo, hwo⟩ : ∃ x, x = wr := ⟨wr, rfl⟩
      subst hwo
      go_loopw [8, 9] (fun o i wr => ∃ (j n c : Nat) (A : Option Addr), j ≤ p.l.length ∧ n ≤ j ∧ i = .int .i64 j ∧ o = .slice A n c ∧ Hid (TkR r p now dl q S w D m e j A n c wr)) (fun _ i _ => p.l.length - (intOf i).toNat)
      case atStart => exact ⟨0, 0, 0, _, Nat.zero_le _, Nat.le_refl _, rfl, rfl, HT2⟩
      case round =>
        obtain ⟨j, n, c, A, hj, hm, rfl, rfl, ht⟩ := hrel
        clear HT2 t0 t1 t2 t3 t4 t5
        obtain ⟨t0, t1, t2, t3, t4, t5, tf⟩ := ht.out.pl.tops
        by_cases hlt : j < p.l.length
        · have hj0 : (0 : Int) ≤ (j : Int) := by omega
          have hj1 : (j : Int) < (p.l.length : Int) := by omega
          have hltd : j < dl.length := by omega
          obtain ⟨l1, l2, l3⟩ := ht.out.pl.lens
          have hd := (ht.out.pl.dat (j := j) (by omega)).1
          have ho := (ht.out.pl.oat (j := j) (by omega)).1
          rw [List.getElem_map, midR_at hltd] at hd ho
          clear l1 l2 l3
          cases hask : askB now dl[j] with
          | false =>
            have HAS := Lib.hid hask
            unfold askB at hask
            obtain ⟨xd, hxd⟩ : ∃ x, dl[j].d = x := ⟨_, rfl⟩
            obtain ⟨xo, hxo⟩ : ∃ x, dl[j].o = x := ⟨_, rfl⟩
            rw [hxd, hxo] at hask
            rw [hxd] at hd
            rw [hxo] at ho
            clear hxd hxo
            have HT3 := Lib.hid (ht.out.not hltd HAS.out (Below.refl _ _))
            clear ht
            by_cases c1 : xd ≤ now
            · have c2 : (xo == 0) = false := by
                have := of_decide_eq_false hask
                simp
                omega
              clear hask
              go_wp2_with fail
              go_roundw
              case rel => exact ⟨j + 1, n, c, A, by omega, by omega, by go_num, rfl, HT3⟩
              case measure => simp [intOf]; omega
            · clear hask
              go_wp2_with fail
              go_roundw
              case rel => exact ⟨j + 1, n, c, A, by omega, by omega, by go_num, rfl, HT3⟩
              case measure => simp [intOf]; omega
          | true =>
            have HAS := Lib.hid hask
            obtain ⟨c1, c2⟩ := of_decide_eq_true hask
            have c2' : (dl[j].o == 0) = true := by simpa using c2
            obtain ⟨xd, hxd⟩ : ∃ x, dl[j].d = x := ⟨_, rfl⟩
            obtain ⟨xo, hxo⟩ : ∃ x, dl[j].o = x := ⟨_, rfl⟩
            rw [hxd] at hd c1
            rw [hxo] at ho c2'
            have hcl := cntF_take_le now dl j
            have hcd := cntF_le now dl
            have hcn := cntF_nonneg now (dl.take j)
            have HX0 := Lib.hid (ht.out.pl.setL (p.last + cntF now (dl.take j) + 1))
            have HO0 := Lib.hid ((Off.refl S wr).setCell (p := ⟨r, 5, none⟩) (.inl ht.out.pl.sr) (.int .u64 (p.last + cntF now (dl.take j) + 1)))
            have HLA := Lib.hid ht.out.late
            have HAK := Lib.hid ht.out.asks
            have HZ := Lib.hid ht.out.off.size
            have HOF0 := Lib.hid ht.out.off
            obtain ⟨l1, hl1⟩ : ∃ x, p.last + cntF now (dl.take j) = x := ⟨_, rfl⟩
            rw [hl1] at HX0 HO0 t5
            have HL1 := Lib.hid hl1
            have hw5 : IntKind.u64.wrap (l1 + 1) = l1 + 1 := by rw [IntKind.wrap_u64]; omega
            have HWE : Hid (IntKind.u64.wrap (now + p.ev) = now + p.ev) := Lib.hid (by rw [IntKind.wrap_u64]; omega)
            have HKR : Hid (∀ (i : Nat) (u : World), KeepT i u u) := Lib.hid fun _ _ => trivial
            clear ht hask c2 hxd hxo hcl hcd hcn hl1
            go_wp2_with fail
            obtain ⟨wx, hwx⟩ : ∃ u, wr.setCell ⟨r, 5, none⟩ (.int .u64 (l1 + 1)) = u := ⟨_, rfl⟩
            rw [hwx] at HX0 HO0 ⊢
            have HX := HX0
            have HWX := Lib.hid hwx
            clear HX0 hwx hw5 t0 t1 t2 t3 t4 t5 tf hd ho
            refine wp_region_specs5 (S := fun L u => RPx r q p.l.length p.ev p.la (l1 + 1) ((midR p.ev now p.last dl j).map Nw.d) (bif L 10 then ((midR p.ev now p.last dl j).map Nw.o).set j (l1 + 1) else ((midR p.ev now p.last dl j).map Nw.o)) ((midR p.ev now p.last dl j).map Nw.a) S u ∧ Off S wx u) (Kp := KeepT) (Sp := [(90, Sti.eq (.pointer (some ⟨r, 0, none⟩))), (91, Sti.eq (.pointer (some ⟨r, 0, none⟩))), (92, Sti.eq (.pointer (some ⟨r, 1, none⟩))), (93, Sti.eq (.slice (some ⟨q.go, 0, none⟩) p.l.length q.co)), (94, Sti.eq (.int .i64 j)), (95, Sti.eq (.pointer (some ⟨r, 0, none⟩))), (96, Sti.eq (.pointer (some ⟨r, 0, none⟩))), (97, Sti.eq (.pointer (some ⟨r, 5, none⟩))), (98, Sti.eq (.int .u64 (l1 + 1))), (99, Sti.eq (.pointer (some ⟨q.go, j, none⟩)))]) (by kernel_rfl) (by kernel_rfl) (by kernel_rfl) (⟨HX.out.keep (fun _ _ => rfl) (Nat.le_refl _), (Off.refl S wx).drew⟩) ?_ ?_
            · refine EachOp.cons ?_ ?_
              · intro L a u hL hst hS hdep hq
                have h0 : a.tmps.getD 0 undef = .pointer (some ⟨r, 0, none⟩) := hst.out 0 (by kernel_rfl)
                refine .inl ⟨trivial, ?_⟩
                have g0 := gd h0
                go_simp
                exact Went4.same (HKR.out _ _) hS rfl
              refine EachOp.cons ?_ ?_
              · intro L a u hL hst hS hdep hq
                have h90 : a.tmps.getD 90 undef = .pointer (some ⟨r, 0, none⟩) := hdep 90 (by kernel_rfl)
                refine .inl ⟨trivial, ?_⟩
                have g90 := gd h90
                go_simp
                exact Went4.same (HKR.out _ _) hS rfl
              refine EachOp.cons ?_ ?_
              · intro L a u hL hst hS hdep hq
                have h91 : a.tmps.getD 91 undef = .pointer (some ⟨r, 0, none⟩) := hdep 91 (by kernel_rfl)
                refine .inl ⟨trivial, ?_⟩
                have g91 := gd h91
                go_simp
                exact Went4.same (HKR.out _ _) hS rfl
              refine EachOp.cons ?_ ?_
              · intro L a u hL hst hS hdep hq
                have h92 : a.tmps.getD 92 undef = .pointer (some ⟨r, 1, none⟩) := hdep 92 (by kernel_rfl)
                refine .inl ⟨trivial, ?_⟩
                have g92 := gd h92
                obtain ⟨t0, t1, t2, t3, t4, t5, _⟩ := hS.1.tops
                go_simp
                exact Went4.same (HKR.out _ _) hS rfl
              refine EachOp.cons ?_ ?_
              · intro L a u hL hst hS hdep hq
                have h9 : a.tmps.getD 9 undef = .int .i64 j := hst.out 9 (by kernel_rfl)
                refine .inl ⟨trivial, ?_⟩
                have g9 := gd h9
                go_simp
                exact Went4.same (HKR.out _ _) hS rfl
              refine EachOp.cons ?_ ?_
              · intro L a u hL hst hS hdep hq
                have h0 : a.tmps.getD 0 undef = .pointer (some ⟨r, 0, none⟩) := hst.out 0 (by kernel_rfl)
                refine .inl ⟨trivial, ?_⟩
                have g0 := gd h0
                go_simp
                exact Went4.same (HKR.out _ _) hS rfl
              refine EachOp.cons ?_ ?_
              · intro L a u hL hst hS hdep hq
                have h95 : a.tmps.getD 95 undef = .pointer (some ⟨r, 0, none⟩) := hdep 95 (by kernel_rfl)
                refine .inl ⟨trivial, ?_⟩
                have g95 := gd h95
                go_simp
                exact Went4.same (HKR.out _ _) hS rfl
              refine EachOp.cons ?_ ?_
              · intro L a u hL hst hS hdep hq
                have h96 : a.tmps.getD 96 undef = .pointer (some ⟨r, 0, none⟩) := hdep 96 (by kernel_rfl)
                refine .inl ⟨trivial, ?_⟩
                have g96 := gd h96
                go_simp
                exact Went4.same (HKR.out _ _) hS rfl
              refine EachOp.cons ?_ ?_
              · intro L a u hL hst hS hdep hq
                have h97 : a.tmps.getD 97 undef = .pointer (some ⟨r, 5, none⟩) := hdep 97 (by kernel_rfl)
                refine .inl ⟨trivial, ?_⟩
                have g97 := gd h97
                obtain ⟨t0, t1, t2, t3, t4, t5, _⟩ := hS.1.tops
                go_simp
                exact Went4.same (HKR.out _ _) hS rfl
              refine EachOp.cons ?_ ?_
              · intro L a u hL hst hS hdep hq
                have h93 : a.tmps.getD 93 undef = .slice (some ⟨q.go, 0, none⟩) p.l.length q.co := hdep 93 (by kernel_rfl)
                have h94 : a.tmps.getD 94 undef = .int .i64 j := hdep 94 (by kernel_rfl)
                refine .inl ⟨trivial, ?_⟩
                have g93 := gd h93
                have g94 := gd h94
                have hj0 : (0 : Int) ≤ (j : Int) := by omega
                have hj1 : (j : Int) < (p.l.length : Int) := by omega
                go_simp
                exact Went4.same (HKR.out _ _) hS rfl
              refine EachOp.cons ?_ ?_
              · intro L a u hL hst hS hdep hq
                have h98 : a.tmps.getD 98 undef = .int .u64 (l1 + 1) := hdep 98 (by kernel_rfl)
                have h99 : a.tmps.getD 99 undef = .pointer (some ⟨q.go, j, none⟩) := hdep 99 (by kernel_rfl)
                refine .inl ⟨trivial, ?_⟩
                have g98 := gd h98
                have g99 := gd h99
                have hS1 := hS.1
                rw [hL] at hS1
                dsimp only [cond_false] at hS1
                obtain ⟨y0, y1⟩ := hS1.oat (j := j) (by have := hS1.lens; omega)
                go_simp
                refine ⟨undef, rfl, ⟨hS1.setO j (l1 + 1), hS.2.setCell (.inl hS1.so) _⟩, trivial, fun t e => by cases e⟩
              exact EachOp.nil
            · intro L a u hLs hst hS hdep
              have h90 : a.tmps.getD 90 undef = .pointer (some ⟨r, 0, none⟩) := hdep 90 (by kernel_rfl)
              have h91 : a.tmps.getD 91 undef = .pointer (some ⟨r, 0, none⟩) := hdep 91 (by kernel_rfl)
              have h92 : a.tmps.getD 92 undef = .pointer (some ⟨r, 1, none⟩) := hdep 92 (by kernel_rfl)
              have h93 : a.tmps.getD 93 undef = .slice (some ⟨q.go, 0, none⟩) p.l.length q.co := hdep 93 (by kernel_rfl)
              have h94 : a.tmps.getD 94 undef = .int .i64 j := hdep 94 (by kernel_rfl)
              have h95 : a.tmps.getD 95 undef = .pointer (some ⟨r, 0, none⟩) := hdep 95 (by kernel_rfl)
              have h96 : a.tmps.getD 96 undef = .pointer (some ⟨r, 0, none⟩) := hdep 96 (by kernel_rfl)
              have h97 : a.tmps.getD 97 undef = .pointer (some ⟨r, 5, none⟩) := hdep 97 (by kernel_rfl)
              have h98 : a.tmps.getD 98 undef = .int .u64 (l1 + 1) := hdep 98 (by kernel_rfl)
              have h99 : a.tmps.getD 99 undef = .pointer (some ⟨q.go, j, none⟩) := hdep 99 (by kernel_rfl)
              have hfr := hst.frame [(90, .pointer (some ⟨r, 0, none⟩)), (91, .pointer (some ⟨r, 0, none⟩)), (92, .pointer (some ⟨r, 1, none⟩)), (93, .slice (some ⟨q.go, 0, none⟩) p.l.length q.co), (94, .int .i64 j), (95, .pointer (some ⟨r, 0, none⟩)), (96, .pointer (some ⟨r, 0, none⟩)), (97, .pointer (some ⟨r, 5, none⟩)), (98, .int .u64 (l1 + 1)), (99, .pointer (some ⟨q.go, j, none⟩))] (by kernel_rfl) ⟨h90, h91, h92, h93, h94, h95, h96, h97, h98, h99, trivial⟩
              clear hst hdep h90 h91 h92 h93 h94 h95 h96 h97 h98 h99
              subst hfr
              simp only [List.foldl_cons, List.foldl_nil, List.setIfInBounds_toArray, List.set_cons_zero, List.set_cons_succ]
              obtain ⟨hx2, hf2⟩ := hS
              rw [hLs 10 (by kernel_rfl)] at hx2
              dsimp only [cond_true] at hx2
              obtain ⟨w14, hw14⟩ : ∃ x, x = u := ⟨u, rfl⟩
              subst hw14
              obtain ⟨t0, t1, t2, t3, t4, t5, tf⟩ := hx2.tops
              obtain ⟨y0, y1⟩ := hx2.aat (j := j) (by have := hx2.lens; omega)
              have HY0 := Lib.hid (hx2.setA j now)
              have HO2 := Lib.hid (((HO0.out.trans hf2 fun _ h => .inl h)).setCell (p := ⟨q.ga, j, none⟩) (.inl hx2.sa) (.int .u64 now))
              clear hf2 hLs
              go_wp2_with fail
              obtain ⟨wy, hwy⟩ : ∃ u, w14.setCell ⟨q.ga, j, none⟩ (.int .u64 now) = u := ⟨_, rfl⟩
              rw [hwy] at HY0 HO2 ⊢
              have HY := HY0
              clear HY0 hwy t0 t1 t2 t3 t4 t5 tf y0 y1 hx2
              refine wp_region_specs5 (S := fun L u => RPx r q p.l.length p.ev p.la (l1 + 1) (bif L 12 then ((midR p.ev now p.last dl j).map Nw.d).set j (now + p.ev) else ((midR p.ev now p.last dl j).map Nw.d)) (((midR p.ev now p.last dl j).map Nw.o).set j (l1 + 1)) (((midR p.ev now p.last dl j).map Nw.a).set j now) S u ∧ Off S wy u) (Kp := KeepT) (Sp := [(107, Sti.eq (.pointer (some ⟨r, 0, none⟩))), (108, Sti.eq (.pointer (some ⟨r, 0, none⟩))), (109, Sti.eq (.pointer (some ⟨r, 0, none⟩))), (110, Sti.eq (.slice (some ⟨q.gd, 0, none⟩) p.l.length q.cd)), (111, Sti.eq (.int .i64 j)), (112, Sti.eq (.int .u64 now)), (113, Sti.eq (.pointer (some ⟨r, 0, none⟩))), (114, Sti.eq (.pointer (some ⟨r, 0, none⟩))), (115, Sti.eq (.pointer (some ⟨r, 3, none⟩))), (116, Sti.eq (.int .u64 p.ev)), (117, Sti.eq (.int .u64 (now + p.ev))), (118, Sti.eq (.pointer (some ⟨q.gd, j, none⟩)))]) (by kernel_rfl) (by kernel_rfl) (by kernel_rfl) (⟨HY.out.keep (fun _ _ => rfl) (Nat.le_refl _), (Off.refl S wy).drew⟩) ?_ ?_
              · refine EachOp.cons ?_ ?_
                · intro L a u hL hst hS hdep hq
                  have h0 : a.tmps.getD 0 undef = .pointer (some ⟨r, 0, none⟩) := hst.out 0 (by kernel_rfl)
                  refine .inl ⟨trivial, ?_⟩
                  have g0 := gd h0
                  go_simp
                  exact Went4.same (HKR.out _ _) hS rfl
                refine EachOp.cons ?_ ?_
                · intro L a u hL hst hS hdep hq
                  have h107 : a.tmps.getD 107 undef = .pointer (some ⟨r, 0, none⟩) := hdep 107 (by kernel_rfl)
                  refine .inl ⟨trivial, ?_⟩
                  have g107 := gd h107
                  go_simp
                  exact Went4.same (HKR.out _ _) hS rfl
                refine EachOp.cons ?_ ?_
                · intro L a u hL hst hS hdep hq
                  have h108 : a.tmps.getD 108 undef = .pointer (some ⟨r, 0, none⟩) := hdep 108 (by kernel_rfl)
                  refine .inl ⟨trivial, ?_⟩
                  have g108 := gd h108
                  go_simp
                  exact Went4.same (HKR.out _ _) hS rfl
                refine EachOp.cons ?_ ?_
                · intro L a u hL hst hS hdep hq
                  have h109 : a.tmps.getD 109 undef = .pointer (some ⟨r, 0, none⟩) := hdep 109 (by kernel_rfl)
                  refine .inl ⟨trivial, ?_⟩
                  have g109 := gd h109
                  obtain ⟨t0, t1, t2, t3, t4, t5, _⟩ := hS.1.tops
                  go_simp
                  exact Went4.same (HKR.out _ _) hS rfl
                refine EachOp.cons ?_ ?_
                · intro L a u hL hst hS hdep hq
                  have h9 : a.tmps.getD 9 undef = .int .i64 j := hst.out 9 (by kernel_rfl)
                  refine .inl ⟨trivial, ?_⟩
                  have g9 := gd h9
                  go_simp
                  exact Went4.same (HKR.out _ _) hS rfl
                refine EachOp.cons ?_ ?_
                · intro L a u hL hst hS hdep hq
                  have h1 : a.tmps.getD 1 undef = .int .u64 now := hst.out 1 (by kernel_rfl)
                  refine .inl ⟨trivial, ?_⟩
                  have g1 := gd h1
                  go_simp
                  exact Went4.same (HKR.out _ _) hS rfl
                refine EachOp.cons ?_ ?_
                · intro L a u hL hst hS hdep hq
                  have h0 : a.tmps.getD 0 undef = .pointer (some ⟨r, 0, none⟩) := hst.out 0 (by kernel_rfl)
                  refine .inl ⟨trivial, ?_⟩
                  have g0 := gd h0
                  go_simp
                  exact Went4.same (HKR.out _ _) hS rfl
                refine EachOp.cons ?_ ?_
                · intro L a u hL hst hS hdep hq
                  have h113 : a.tmps.getD 113 undef = .pointer (some ⟨r, 0, none⟩) := hdep 113 (by kernel_rfl)
                  refine .inl ⟨trivial, ?_⟩
                  have g113 := gd h113
                  go_simp
                  exact Went4.same (HKR.out _ _) hS rfl
                refine EachOp.cons ?_ ?_
                · intro L a u hL hst hS hdep hq
                  have h114 : a.tmps.getD 114 undef = .pointer (some ⟨r, 0, none⟩) := hdep 114 (by kernel_rfl)
                  refine .inl ⟨trivial, ?_⟩
                  have g114 := gd h114
                  go_simp
                  exact Went4.same (HKR.out _ _) hS rfl
                refine EachOp.cons ?_ ?_
                · intro L a u hL hst hS hdep hq
                  have h115 : a.tmps.getD 115 undef = .pointer (some ⟨r, 3, none⟩) := hdep 115 (by kernel_rfl)
                  refine .inl ⟨trivial, ?_⟩
                  have g115 := gd h115
                  obtain ⟨t0, t1, t2, t3, t4, t5, _⟩ := hS.1.tops
                  go_simp
                  exact Went4.same (HKR.out _ _) hS rfl
                refine EachOp.cons ?_ ?_
                · intro L a u hL hst hS hdep hq
                  have h112 : a.tmps.getD 112 undef = .int .u64 now := hdep 112 (by kernel_rfl)
                  have h116 : a.tmps.getD 116 undef = .int .u64 p.ev := hdep 116 (by kernel_rfl)
                  refine .inl ⟨trivial, ?_⟩
                  have g112 := gd h112
                  have g116 := gd h116
                  have hwe := HWE.out
                  go_simp
                  exact Went4.same (HKR.out _ _) hS rfl
                refine EachOp.cons ?_ ?_
                · intro L a u hL hst hS hdep hq
                  have h110 : a.tmps.getD 110 undef = .slice (some ⟨q.gd, 0, none⟩) p.l.length q.cd := hdep 110 (by kernel_rfl)
                  have h111 : a.tmps.getD 111 undef = .int .i64 j := hdep 111 (by kernel_rfl)
                  refine .inl ⟨trivial, ?_⟩
                  have g110 := gd h110
                  have g111 := gd h111
                  have hj0 : (0 : Int) ≤ (j : Int) := by omega
                  have hj1 : (j : Int) < (p.l.length : Int) := by omega
                  go_simp
                  exact Went4.same (HKR.out _ _) hS rfl
                refine EachOp.cons ?_ ?_
                · intro L a u hL hst hS hdep hq
                  have h117 : a.tmps.getD 117 undef = .int .u64 (now + p.ev) := hdep 117 (by kernel_rfl)
                  have h118 : a.tmps.getD 118 undef = .pointer (some ⟨q.gd, j, none⟩) := hdep 118 (by kernel_rfl)
                  refine .inl ⟨trivial, ?_⟩
                  have g117 := gd h117
                  have g118 := gd h118
                  have hS1 := hS.1
                  rw [hL] at hS1
                  dsimp only [cond_false] at hS1
                  obtain ⟨y0, y1⟩ := hS1.dat (j := j) (by have := hS1.lens; omega)
                  go_simp
                  refine ⟨undef, rfl, ⟨hS1.setD j (now + p.ev), hS.2.setCell (.inl hS1.sd) _⟩, trivial, fun t e => by cases e⟩
                exact EachOp.nil
              · intro L a u hLs hst hS hdep
                have h107 : a.tmps.getD 107 undef = .pointer (some ⟨r, 0, none⟩) := hdep 107 (by kernel_rfl)
                have h108 : a.tmps.getD 108 undef = .pointer (some ⟨r, 0, none⟩) := hdep 108 (by kernel_rfl)
                have h109 : a.tmps.getD 109 undef = .pointer (some ⟨r, 0, none⟩) := hdep 109 (by kernel_rfl)
                have h110 : a.tmps.getD 110 undef = .slice (some ⟨q.gd, 0, none⟩) p.l.length q.cd := hdep 110 (by kernel_rfl)
                have h111 : a.tmps.getD 111 undef = .int .i64 j := hdep 111 (by kernel_rfl)
                have h112 : a.tmps.getD 112 undef = .int .u64 now := hdep 112 (by kernel_rfl)
                have h113 : a.tmps.getD 113 undef = .pointer (some ⟨r, 0, none⟩) := hdep 113 (by kernel_rfl)
                have h114 : a.tmps.getD 114 undef = .pointer (some ⟨r, 0, none⟩) := hdep 114 (by kernel_rfl)
                have h115 : a.tmps.getD 115 undef = .pointer (some ⟨r, 3, none⟩) := hdep 115 (by kernel_rfl)
                have h116 : a.tmps.getD 116 undef = .int .u64 p.ev := hdep 116 (by kernel_rfl)
                have h117 : a.tmps.getD 117 undef = .int .u64 (now + p.ev) := hdep 117 (by kernel_rfl)
                have h118 : a.tmps.getD 118 undef = .pointer (some ⟨q.gd, j, none⟩) := hdep 118 (by kernel_rfl)
                have hfr := hst.frame [(107, .pointer (some ⟨r, 0, none⟩)), (108, .pointer (some ⟨r, 0, none⟩)), (109, .pointer (some ⟨r, 0, none⟩)), (110, .slice (some ⟨q.gd, 0, none⟩) p.l.length q.cd), (111, .int .i64 j), (112, .int .u64 now), (113, .pointer (some ⟨r, 0, none⟩)), (114, .pointer (some ⟨r, 0, none⟩)), (115, .pointer (some ⟨r, 3, none⟩)), (116, .int .u64 p.ev), (117, .int .u64 (now + p.ev)), (118, .pointer (some ⟨q.gd, j, none⟩))] (by kernel_rfl) ⟨h107, h108, h109, h110, h111, h112, h113, h114, h115, h116, h117, h118, trivial⟩
                clear hst hdep h107 h108 h109 h110 h111 h112 h113 h114 h115 h116 h117 h118
                subst hfr
                simp only [List.foldl_cons, List.foldl_nil, List.setIfInBounds_toArray, List.set_cons_zero, List.set_cons_succ]
                obtain ⟨hx3, hf3⟩ := hS
                rw [hLs 12 (by kernel_rfl)] at hx3
                dsimp only [cond_true] at hx3
                obtain ⟨w16, hw16⟩ : ∃ x, x = u := ⟨u, rfl⟩
                subst hw16
                obtain ⟨t0, t1, t2, t3, t4, t5, tf⟩ := hx3.tops
                have ho16 : Off S wr w16 := HO2.out.trans hf3 fun _ h => .inl h
                have HLA1 := Lib.hid ((own_off HLA.out ho16 HSL.out).alloc (.cells #[.int .i64 j, .int .u64 (l1 + 1)] 55))
                have HO1 := Lib.hid ((own_off HAK.out ho16 HSL.out).alloc (.cells #[.int .i64 j, .int .u64 (l1 + 1)] 55))
                have HSRC : Hid (Rd (w16.alloc (.cells #[.int .i64 j, .int .u64 (l1 + 1)] 55)) (w16.heap.size + 1) (some ⟨w16.heap.size, 0, none⟩) [.int .i64 j, .int .u64 (l1 + 1)]) := Lib.hid (Rd.new w16 55 [.int .i64 j, .int .u64 (l1 + 1)])
                have hz16 : w.heap.size ≤ w16.heap.size := Nat.le_trans HZ.out ho16.size
                have HSW : Hid (w.heap.size ≤ (w16.alloc (.cells #[.int .i64 j, .int .u64 (l1 + 1)] 55)).heap.size) := Lib.hid (by rw [World.size_alloc]; omega)
                have HP3 := Lib.hid hx3
                have HOW := Lib.hid (HOF0.out.trans ho16 fun _ h => .inl h)
                have HKA : Hid (Below w.heap.size w16 (w16.alloc (.cells #[.int .i64 j, .int .u64 (l1 + 1)] 55))) := Lib.hid ((kp_new w16 _).mono hz16)
                clear hf3 hLs ho16 hx3 hz16
                go_wp2_with (at_builtin; refine wpList_append_rds rfl _ _ _ rfl w.heap.size 55 s0 _ 2 16 Try.underlying39 si sz0 sz1 sz2 rfl (by omega) _ n _ rfl HO1.out _ _ _ _ [.int .i64 j, .int .u64 (l1 + 1)] rfl rfl HSRC.out (by simp [Value.oneCell']) (by unfold maxLen; omega) (by omega) HSW.out ?_; intro v3 w3 hown3 hg3; obtain ⟨A3, c3, rfl, _, _⟩ := own_form_s hown3; have HA3 := Lib.hid hown3; have HK3 := Lib.hid (below_own_s HO1.out hg3 HSW.out); have HL3 := Lib.hid (own_apart HLA1.out HO1.out (by decide) hg3); clear hown3 hg3)
                have HF : Hid (TkR r p now dl q S w D m e (j + 1) A3 (n + 1) c3 w3) := Lib.hid (TkR.ask hltd HAS.out HSL.out HL3.out (u := w16) (by rw [HL1.out]; exact HP3.out) HOW.out (HKA.out.trans HK3.out) (by rw [HL1.out]; exact HA3.out))
                clear HL3 HP3 HOW HKA HK3 HA3 HO1 HLA1 HSRC HSW t0 t1 t2 t3 t4 t5 tf
                go_roundw
                case rel => exact ⟨j + 1, n + 1, c3, A3, by omega, by omega, by go_num, rfl, HF⟩
                case measure => simp [intOf]; omega
        · obtain rfl : j = p.l.length := by omega
          have hlate := ht.out.late
          have hasks := ht.out.asks
          have hpl := ht.out.pl
          have hoff := ht.out.off
          rw [← hdn, List.take_of_length_le (Nat.le_refl _)] at hasks
          rw [← hdn, List.take_of_length_le (Nat.le_refl _), midR_done] at hpl
          have hfin : (RPb r (tickC p now)).p S wr := by
            refine ⟨q, ?_⟩
            have hl : (tickC p now).l = runF p.ev now p.last dl := by rw [← HDL.out]; rfl
            have hla : (tickC p now).last = p.last + cntF now dl := by rw [← HDL.out]; rfl
            rw [hl, hla, runF_length]
            exact hpl
          have HF := Lib.hid hfin
          have HLA := Lib.hid hlate
          have HAK : Hid (wr.ownsRow w.heap.size 55 2 (.slice A n c) n (akC (tickA p now))) := Lib.hid (by unfold tickA; rw [HDL.out]; exact hasks)
          have HOF := Lib.hid hoff
          clear ht hlate hasks hpl hoff hfin
          go_wp2_with fail
          go_ret2
          exact ⟨A, n, c, D, m, e, rfl, HAK.out, HLA.out, HOF.out, HF.out⟩
end
end Go.Proofs.Ytgneieelfapmcaa
