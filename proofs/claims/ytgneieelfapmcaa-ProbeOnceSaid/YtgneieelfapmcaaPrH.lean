/-
  The project's plan of probes: who is late: contract.
-/
import Derived.Test.YtgneieelfapmcaaPrG
namespace Go.Proofs.Ytgneieelfapmcaa
open Go.RowKit
set_option maxRecDepth 100000

/-- within end: who is late, so far -/
structure TkE (b : Nat) (p : Pb) (now : Int) (S : Nat → Prop) (w : World) (j : Nat) (D : Option Addr) (m e : Nat) (wr : World) : Prop where
  row : wr.ownsRow w.heap.size 3 1 (.slice D m e) m (ivs (lateF p.la now 0 (p.l.take j)))
  pl : PXx b { p with l := midL p.la now p.l j } S wr
  off : Off S w wr
section
variable {b : Nat} {p : Pb} {S : Nat → Prop} {w u u' : World} {now : Int} {j : Nat} {D : Option Addr} {m e : Nat}
theorem TkE.late (hlt : j < p.l.length) (hl : lateB p.la now p.l[j] = true) (hS : ∀ k, S k → k < w.heap.size) (hp : PXx b { p with l := (midL p.la now p.l j).set j { p.l[j] with o := 0 } } S u) (ho : Off S w u) (hb : Below w.heap.size u u')
    (hr : u'.ownsRow w.heap.size 3 1 (.slice D m e) m (ivs (lateF p.la now 0 (p.l.take j)) ++ [.int .i64 j])) : TkE b p now S w (j + 1) D m e u' := by
  have hdr : dropN p.la now p.l[j] = { p.l[j] with o := 0 } := by unfold dropN; rw [hl]; rfl
  refine ⟨?_, ?_, off_low ho hb⟩
  · rw [List.take_succ_eq_append_getElem hlt, lateF_snoc, if_pos hl, ivs_append]
    simpa [Nat.min_eq_left (Nat.le_of_lt hlt), ivs] using hr
  · rw [midL_next hlt, hdr]
    exact hp.keep (fun k hk => hb.block k (hS k hk)) hb.size
theorem TkE.not (h : TkE b p now S w j D m e u) (hlt : j < p.l.length) (hl : lateB p.la now p.l[j] = false) (hb : Below u.heap.size u u') : TkE b p now S w (j + 1) D m e u' := by
  have hml : j < (midL p.la now p.l j).length := by rw [midL_length]; exact hlt
  have hdr : dropN p.la now p.l[j] = (midL p.la now p.l j)[j] := by rw [midL_at hlt]; unfold dropN; rw [hl]; rfl
  refine ⟨?_, ?_, h.off.trans (Off.of (fun _ => False) hb) fun _ h => h.elim⟩
  · rw [List.take_succ_eq_append_getElem hlt, lateF_snoc, hl, if_neg (by simp), List.append_nil]
    exact own_below_s h.row hb (Nat.le_refl _)
  · rw [midL_next hlt, hdr, List.set_getElem_self]
    exact h.pl.next hb
set_option maxHeartbeats 16000000 in
theorem pend_ok (now : Int) (B1 : Nat) (h : PXx b p S w) (hB1 : w.cell? ⟨B1, 0, none⟩ = some (.pointer (some ⟨b, 0, none⟩))) (hB2 : w.cell? ⟨B1 + 1, 0, none⟩ = some (.int .u64 now)) (hS : ∀ k, S k → k < B1) (hlt : B1 + 1 < w.heap.size)
    (hat : ∀ x ∈ p.l, (x.o ≠ 0 → x.d = x.a + p.ev) ∧ 0 ≤ x.a ∧ x.a < 1125899906842624) (hla : 1 ≤ p.la ∧ p.la ≤ 1000) :
    Calls Try.prog 21 #[.pointer (some ⟨b, 0, none⟩), .func (.func 25) #[] #[.pointer (some ⟨B1, 0, none⟩), .pointer (some ⟨B1 + 1, 0, none⟩)]] w
      fun e w' => ∃ B m d, e = .returned (.slice B m d) ∧ w'.ownsRow w.heap.size 3 1 (.slice B m d) m (ivs (tickL p now)) ∧ Off S w w' ∧ PXx b { p with l := p.l.map (dropN p.la now) } S w' := by
  have hn6 := h.len
  have HSL : Hid (∀ k, S k → k < w.heap.size) := Lib.hid h.lt
  have HAT := Lib.hid hat
  obtain ⟨i0, hi, hz0, hz1, hz2⟩ := info_parts intinfo13
  have HA := Lib.hid (pall_ok h)
  have HC : Hid (∀ W, Off S w W → W.cell? ⟨B1, 0, none⟩ = some (.pointer (some ⟨b, 0, none⟩)) ∧ W.cell? ⟨B1 + 1, 0, none⟩ = some (.int .u64 now)) := Lib.hid fun W ho =>
    ⟨(World.cell?_of_block (ho.block B1 (by omega) fun hk => by have := hS _ hk; omega)).trans hB1, (World.cell?_of_block (ho.block (B1 + 1) (by omega) fun hk => by have := hS _ hk; omega)).trans hB2⟩
  have H := Lib.hid h
  clear h hat hB1 hB2 hS
  go_enter Try.func21, Try.ntmps21
  go_wp2_with fail
  refine HA.out.mono ?_
  rintro e w1 ⟨rfl, k1⟩
  have HT0 : Hid (TkE b p now S w 0 none 0 0 w1) := Lib.hid ⟨⟨by simp [lateF, ivs], .inl ⟨rfl, rfl⟩⟩, by rw [midL_zero]; exact H.out.next k1, Off.of _ k1⟩
  clear HA k1
  go_wp2_with fail
  go_loopw [5, 11] (fun o i wr => ∃ (j m e : Nat) (D : Option Addr), j ≤ p.l.length ∧ m ≤ j ∧ i = .int .i64 j ∧ o = .slice D m e ∧ Hid (TkE b p now S w j D m e wr)) (fun _ i _ => p.l.length - (intOf i).toNat)
  case atStart => exact ⟨0, 0, 0, _, Nat.zero_le _, Nat.le_refl _, rfl, rfl, HT0⟩
  case round =>
    obtain ⟨j, m, e, D, hj, hm, rfl, rfl, ht⟩ := hrel
    clear HT0
    by_cases hlt : j < p.l.length
    · have hj0 : (0 : Int) ≤ (j : Int) := by omega
      have hj1 : (j : Int) < (p.l.length : Int) := by omega
      have hj6 : (j : Int) < 6 := by omega
      have hjm : j < (midL p.la now p.l j).length := by rw [midL_length]; exact hlt
      have hd := ht.out.pl.d j hjm
      have ho := ht.out.pl.o j hjm
      simp only [midL_at hlt] at hd ho
      have hbz := ht.out.pl.lt b ht.out.pl.sb
      obtain ⟨a0, a1⟩ := HAT.out p.l[j] (List.getElem_mem hlt)
      have kn := kp_new wr (.cells #[.int .u64 p.l[j].d, .int .u64 p.l[j].o] 58)
      have HL : Hid (Calls _ _ _ (wr.alloc (.cells #[.int .u64 p.l[j].d, .int .u64 p.l[j].o] 58)) _) := Lib.hid (plate_ok (ht.out.pl.next kn) p.l[j] now B1 (B1 + 1) ((World.cell?_of_block (kn.block B1 (by have := ht.out.off.size; omega))).trans (HC.out wr ht.out.off).1) ((World.cell?_of_block (kn.block (B1 + 1) (by have := ht.out.off.size; omega))).trans (HC.out wr ht.out.off).2) (by have := ht.out.off.size; simp; omega) (by have := ht.out.off.size; simp; omega) a0 a1 hla)
      clear a0 a1
      cases hlate : lateB p.la now p.l[j] with
      | true =>
        rw [show lateB ({ p with l := midL p.la now p.l j } : Pb).la now p.l[j] = true from hlate] at HL
        have HLT := Lib.hid hlate
        have HML : Hid (∀ W v, PXx b { p with l := midL p.la now p.l j } S W → PXx b { p with l := (midL p.la now p.l j).set j { p.l[j] with o := v } } S (W.setCell ⟨b, j * 2 + 1, none⟩ (.int .u64 v)) ∧ W.cell? ⟨b, j * 2 + 1, none⟩ = some (.int .u64 p.l[j].o)) := Lib.hid fun W v hW => by
          have h1 := hW.setO (j := j) hjm v
          have h2 := hW.o j hjm
          simp only [midL_at hlt] at h1 h2
          exact ⟨h1, h2⟩
        clear hlate
        generalize hxd : p.l[j].d = xd at hd HL kn
        generalize hxo : p.l[j].o = xo at ho HL kn
        clear hxd hxo
        go_wp2_with fail
        refine HL.out.mono ?_
        rintro e w2 ⟨rfl, k2⟩
        have k3 := kp_trans kn k2
        have hpl := ht.out.pl.next k3
        obtain ⟨hpl2, ho2⟩ := HML.out w2 0 hpl
        have hz := hpl.fz (j * 2 + 1)
        have hof := (Off.of S k3).setCell (p := ⟨b, j * 2 + 1, none⟩) (.inl hpl.sb) (.int .u64 0)
        have hrow := own_off ht.out.row hof HSL.out
        have hsz : w.heap.size ≤ w2.heap.size := Nat.le_trans ht.out.off.size k3.size
        have HO1 := Lib.hid (hrow.alloc (.cells #[.int .i64 j] 3))
        have HSRC : Hid (Rd ((w2.setCell ⟨b, j * 2 + 1, none⟩ (.int .u64 0)).alloc (.cells #[.int .i64 j] 3)) (w2.heap.size + 1) (some ⟨w2.heap.size, 0, none⟩) [.int .i64 j]) := Lib.hid (by
          have := Rd.new (w2.setCell ⟨b, j * 2 + 1, none⟩ (.int .u64 0)) 3 [.int .i64 j]
          rwa [set_size] at this)
        have HSW : Hid (w.heap.size ≤ ((w2.setCell ⟨b, j * 2 + 1, none⟩ (.int .u64 0)).alloc (.cells #[.int .i64 j] 3)).heap.size) := Lib.hid (by rw [World.size_alloc, set_size]; omega)
        have HPL := Lib.hid hpl2
        have HZ : Hid (w.heap.size ≤ w2.heap.size) := Lib.hid hsz
        have HOF := Lib.hid (ht.out.off.trans hof fun _ h => .inl h)
        have hgz : b < w2.heap.size := hpl.lt _ hpl.sb
        generalize hxo2 : p.l[j].o = xo2 at ho2
        clear ht kn k2 k3 hpl hpl2 hof hrow hsz hd ho HL hxo2
        go_wp2_with (at_builtin; refine wpList_append_rd rfl _ _ _ rfl w.heap.size 3 i0 _ 8 Try.underlying36 hi hz0 hz1 hz2 rfl _ m _ rfl HO1.out _ _ _ _ [.int .i64 j] rfl rfl HSRC.out (by simp [Value.oneCell']) (by unfold maxLen; omega) (by omega) HSW.out ?_; intro v3 w3 hown3 hg3; obtain ⟨D3, e3, rfl, _, _⟩ := own_form hown3; have HO3 := Lib.hid hown3; have HK3 := Lib.hid (below_own_s HO1.out hg3 HSW.out); have HG3 := Lib.hid hg3; clear hown3 hg3)
        go_roundw
        case rel => exact ⟨j + 1, m + 1, e3, D3, by omega, by omega, by go_num, rfl, Lib.hid (TkE.late hlt HLT.out HSL.out HPL.out HOF.out ((kp_alloc (Below.refl _ _) _).mono (by rw [set_size]; exact HZ.out) |>.trans HK3.out) HO3.out)⟩
        case measure => simp [intOf]; omega
      | false =>
        rw [show lateB ({ p with l := midL p.la now p.l j } : Pb).la now p.l[j] = false from hlate] at HL
        have HLT := Lib.hid hlate
        clear hlate
        generalize hxd : p.l[j].d = xd at hd HL kn
        generalize hxo : p.l[j].o = xo at ho HL kn
        clear hxd hxo
        go_wp2_with fail
        refine HL.out.mono ?_
        rintro e w2 ⟨rfl, k2⟩
        have HT2 := Lib.hid (ht.out.not hlt HLT.out (kp_trans kn k2))
        clear ht kn k2 hd ho HL
        go_wp2_with fail
        go_roundw
        case rel => exact ⟨j + 1, m, e, D, by omega, by omega, by go_num, rfl, HT2⟩
        case measure => simp [intOf]; omega
    · obtain rfl : j = p.l.length := by omega
      have hrow := ht.out.row
      have hpl := ht.out.pl
      rw [List.take_of_length_le (Nat.le_refl _)] at hrow
      rw [midL_done] at hpl
      have HF := Lib.hid (show _ ∧ _ ∧ _ from ⟨hrow, ht.out.off, hpl⟩)
      clear ht hrow hpl
      go_wp2_with fail
      go_ret
      exact ⟨_, _, _, rfl, HF.out⟩
end
end Go.Proofs.Ytgneieelfapmcaa
