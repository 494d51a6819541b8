/-
  The project's plan of probes: whether a node is late (the closure); what is kept of a node; Out, Due, Answer: contracts.
-/
import Derived.Test.YtgneieelfapmcaaPrF
namespace Go.Proofs.Ytgneieelfapmcaa
open Go.RowKit
set_option maxRecDepth 100000

section
variable {b : Nat} {p : Pb} {S : Nat → Prop} {w : World}
set_option maxHeartbeats 4000000 in
theorem plate_ok (h : PXx b p S w) (x : Nw) (now : Int) (B1 B2 : Nat) (h1 : w.cell? ⟨B1, 0, none⟩ = some (.pointer (some ⟨b, 0, none⟩))) (h2 : w.cell? ⟨B2, 0, none⟩ = some (.int .u64 now)) (l1 : B1 < w.heap.size) (l2 : B2 < w.heap.size)
    (hx : x.o ≠ 0 → x.d = x.a + p.ev) (ha : 0 ≤ x.a ∧ x.a < 1125899906842624) (hla : 1 ≤ p.la ∧ p.la ≤ 1000) :
    Calls Try.prog 25 #[.agg #[.int .u64 x.d, .int .u64 x.o], .pointer (some ⟨B1, 0, none⟩), .pointer (some ⟨B2, 0, none⟩)] w fun e w' => e = .returned (.bool (lateB p.la now x)) ∧ Below w.heap.size w w' := by
  have hb := h.lt b h.sb
  have hev := h.ev
  have hlc := h.la
  clear h
  by_cases c1 : x.o = 0
  · have hb' : lateB p.la now x = false := by unfold lateB; simp [c1]
    have c2 : (x.o != 0) = false := by simpa using c1
    rw [hb']
    clear hb' hx c1
    obtain ⟨s, hs⟩ : ∃ s, IntKind.u64.wrap (x.d - p.ev) = s := ⟨_, rfl⟩
    go_enter Try.func25, Try.ntmps25
    have kn := kp_new w (.cells #[.int .u64 x.d, .int .u64 x.o] 58)
    go_wp2_with fail
    go_quiet (fail)
    obtain ⟨n1, hn1⟩ : ∃ n, n = nq := ⟨nq, rfl⟩
    subst hn1
    have k2 := kp_drewN (w.alloc (.cells #[.int .u64 x.d, .int .u64 x.o] 58)) n1
    go_wp2_with fail
    go_quiet (fail)
    have k3 := kp_drewN ((w.alloc (.cells #[.int .u64 x.d, .int .u64 x.o] 58)).drewN n1) nq
    go_wp2_with fail
    go_ret
    exact ⟨rfl, kp_trans (kp_trans kn k2) k3⟩
  · have c2 : (x.o != 0) = true := by simpa using c1
    have hd := hx c1
    have hs : IntKind.u64.wrap (x.d - p.ev) = x.a := by rw [hd, IntKind.wrap_u64]; omega
    have ht : IntKind.u64.wrap (x.a + p.la) = x.a + p.la := by rw [IntKind.wrap_u64]; omega
    have hq : lateB p.la now x = decide (x.a + p.la ≤ now) := by unfold lateB; simp [c1]
    rw [hq]
    clear hq hx c1 hd
    obtain ⟨xd, hxd⟩ : ∃ z, x.d = z := ⟨_, rfl⟩
    obtain ⟨xo, hxo⟩ : ∃ z, x.o = z := ⟨_, rfl⟩
    obtain ⟨xa, hxa⟩ : ∃ z, x.a = z := ⟨_, rfl⟩
    rw [hxd, hxa] at hs
    rw [hxa] at ht
    rw [hxo] at c2
    rw [hxd, hxo, hxa]
    clear hxd hxo hxa
    go_enter Try.func25, Try.ntmps25
    have kn := kp_new w (.cells #[.int .u64 xd, .int .u64 xo] 58)
    go_wp2_with fail
    go_quiet (fail)
    obtain ⟨n1, hn1⟩ : ∃ n, n = nq := ⟨nq, rfl⟩
    subst hn1
    have k2 := kp_drewN (w.alloc (.cells #[.int .u64 xd, .int .u64 xo] 58)) n1
    go_wp2_with fail
    go_quiet (fail)
    have k3 := kp_drewN ((w.alloc (.cells #[.int .u64 xd, .int .u64 xo] 58)).drewN n1) nq
    go_wp2_with fail
    go_ret
    exact ⟨rfl, kp_trans (kp_trans kn k2) k3⟩

set_option maxHeartbeats 4000000 in
/-- what is kept of a node -/
theorem pof_ok (h : PXx b p S w) (i : Int) : Calls Try.prog 24 #[.pointer (some ⟨b, 0, none⟩), .int .i64 i] w fun e w' => e = .returned (.agg #[.int .u64 (dueP p i), .int .u64 (outP p i)]) ∧ Below w.heap.size w w' := by
  have hb := h.lt b h.sb
  have hcn := h.cn
  by_cases c1 : i < 0
  · rw [outP_no (by omega), dueP_no (by omega)]
    clear h
    go_enter Try.func24, Try.ntmps24
    go_wp2_with fail
    refine bodyPost_ret (v := .agg #[.int .u64 0, .int .u64 0]) ?_ rfl ⟨rfl, kp_new w _⟩
    rw [results_cell1 rfl]
    go_simp
  by_cases c2 : (p.l.length : Int) ≤ i
  · rw [outP_no (by omega), dueP_no (by omega)]
    clear h
    go_enter Try.func24, Try.ntmps24
    go_wp2_with fail
    refine bodyPost_ret (v := .agg #[.int .u64 0, .int .u64 0]) ?_ rfl ⟨rfl, kp_new w _⟩
    rw [results_cell1 rfl]
    go_simp
  obtain ⟨j, rfl⟩ : ∃ j : Nat, i = j := ⟨i.toNat, by omega⟩
  have hj : j < p.l.length := by omega
  have hd := h.d j hj
  have ho := h.o j hj
  have hj6 : (j : Int) < 6 := by have := h.len; omega
  rw [outP_at (by omega) (by simpa using hj), dueP_at (by omega) (by simpa using hj)]
  simp only [Int.toNat_natCast]
  clear h
  generalize p.l[j].d = xd at *
  generalize p.l[j].o = xo at *
  go_enter Try.func24, Try.ntmps24
  go_wp2_with fail
  refine bodyPost_ret (v := .agg #[.int .u64 xd, .int .u64 xo]) ?_ rfl ⟨rfl, kp_new w _⟩
  rw [results_cell1 rfl]
  go_simp
theorem field58 (xd xo : Int) (w : World) : (Instr.field 58 (.agg #[.int .u64 xd, .int .u64 xo]) 0).run Try.prog w = .ok (.int .u64 xd) w ∧ (Instr.field 58 (.agg #[.int .u64 xd, .int .u64 xo]) 1).run Try.prog w = .ok (.int .u64 xo) w := ⟨by kernel_rfl, by kernel_rfl⟩
theorem pout_ok (h : PXx b p S w) (i : Int) : Calls Try.prog 17 #[.pointer (some ⟨b, 0, none⟩), .int .i64 i] w fun e w' => e = .returned (.int .u64 (outP p i)) ∧ Below w.heap.size w w' := by
  have H := Lib.hid (pof_ok h i)
  clear h
  generalize outP p i = xo at *
  generalize dueP p i = xd at *
  go_enter Try.func17, Try.ntmps17
  go_wp2_with fail
  refine H.out.mono ?_
  rintro e w1 ⟨rfl, k1⟩
  obtain ⟨f0, f1⟩ := field58 xd xo w1
  go_wp2_with fail
  go_ret
  exact ⟨rfl, k1⟩
theorem pdue_ok (h : PXx b p S w) (i : Int) : Calls Try.prog 18 #[.pointer (some ⟨b, 0, none⟩), .int .i64 i] w fun e w' => e = .returned (.int .u64 (dueP p i)) ∧ Below w.heap.size w w' := by
  have H := Lib.hid (pof_ok h i)
  clear h
  generalize outP p i = xo at *
  generalize dueP p i = xd at *
  go_enter Try.func18, Try.ntmps18
  go_wp2_with fail
  refine H.out.mono ?_
  rintro e w1 ⟨rfl, k1⟩
  obtain ⟨f0, f1⟩ := field58 xd xo w1
  go_wp2_with fail
  go_ret
  exact ⟨rfl, k1⟩
theorem outP_is {p : Pb} {i n : Int} (h : outP p i = n) (hn : n ≠ 0) : 0 ≤ i ∧ i < p.l.length := by
  by_cases c : 0 ≤ i ∧ i < p.l.length
  · exact c
  · rw [outP_no c] at h
    exact absurd h.symm hn
theorem ansC_yes {p : Pb} {j : Nat} {n : Int} (hj : j < p.l.length) (hb : ansB p j n = true) : ansC p j n = { p with l := p.l.set j { p.l[j] with o := 0 } } := by
  unfold ansC
  rw [hb]
  show { p with l := _ } = _
  congr 1
  refine List.ext_getElem (by simp) fun a h1 h2 => ?_
  rw [List.getElem_modify, List.getElem_set]
  by_cases e : j = a
  · subst e; rw [if_pos (by simp), if_pos rfl]
  · rw [if_neg (by simpa using e), if_neg e]
set_option maxHeartbeats 4000000 in
theorem pans_ok (h : PXx b p S w) (i n : Int) : Calls Try.prog 15 #[.pointer (some ⟨b, 0, none⟩), .int .i64 i, .int .u64 n] w fun e w' => e = .returned (.bool (ansB p i n)) ∧ Turn (PX b (ansC p i n)) S w w' := by
  by_cases c1 : n = 0
  · have hb : ansB p i n = false := decide_eq_false fun ⟨h1, _⟩ => h1 c1
    have c2 : (n == 0) = true := by simpa using c1
    rw [hb, ansC_no hb]
    have HT : Hid (Turn (PX b p) S w w) := Lib.hid (Turn.here h)
    clear h hb c1
    go_enter Try.func15, Try.ntmps15
    go_wp2_with fail
    go_ret
    exact ⟨rfl, HT.out⟩
  have c2 : (n == 0) = false := by simpa using c1
  have HO := Lib.hid (pout_ok h i)
  by_cases c3 : outP p i = n
  · obtain ⟨h0, h1⟩ := outP_is c3 c1
    obtain ⟨j, rfl⟩ : ∃ j : Nat, i = j := ⟨i.toNat, by omega⟩
    have hj : j < p.l.length := by omega
    have hj6 : (j : Int) < 6 := by have := h.len; omega
    have hb : ansB p j n = true := decide_eq_true ⟨c1, c3⟩
    rw [hb, ansC_yes hj hb]
    rw [c3] at HO
    have H := Lib.hid h
    have c4 : (n != n) = false := by simp
    clear h hb c1 c3
    go_enter Try.func15, Try.ntmps15
    go_wp2_with fail
    refine HO.out.mono ?_
    rintro e w1 ⟨rfl, k1⟩
    have h1 := H.out.next k1
    have ho := h1.o j hj
    have hz := h1.fz (j * 2 + 1)
    have HT : Hid (Turn (PX b { p with l := p.l.set j { p.l[j] with o := 0 } }) S w (w1.setCell ⟨b, j * 2 + 1, none⟩ (.int .u64 0))) := Lib.hid ⟨⟨S, h1.setO hj 0, fun _ h => .inl h⟩, (Off.of S k1).setCell (.inl H.out.sb) _⟩
    generalize p.l[j].o = xo at *
    clear h1 k1 HO
    go_wp2_with fail
    go_ret
    exact ⟨rfl, HT.out⟩
  · have hb : ansB p i n = false := decide_eq_false fun ⟨_, h1⟩ => c3 h1
    have c4 : (outP p i != n) = true := by simpa using c3
    rw [hb, ansC_no hb]
    have H := Lib.hid h
    clear h hb c1 c3
    generalize outP p i = xo at *
    go_enter Try.func15, Try.ntmps15
    go_wp2_with fail
    refine HO.out.mono ?_
    rintro e w1 ⟨rfl, k1⟩
    have HT : Hid (Turn (PX b p) S w w1) := Lib.hid (Turn.same (X := PX b p) H.out k1)
    clear HO k1
    go_wp2_with fail
    go_ret
    exact ⟨rfl, HT.out⟩
end
end Go.Proofs.Ytgneieelfapmcaa
