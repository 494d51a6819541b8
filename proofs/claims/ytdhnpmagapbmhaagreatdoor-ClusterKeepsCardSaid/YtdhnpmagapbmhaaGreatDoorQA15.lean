/-
  Contracts and plain functions that the law stands on, part 15 of 19.
-/
import Derived.Test.YtdhnpmagapbmhaaGreatDoorQA14
import Derived.ProofKit
import Derived.OpenShut
import Derived.JoinedCond
import Derived.Deep.Slices
import Derived.Lib.SmallJoins
import Derived.SizedLaws
import Derived.Test.YtdhnpmagapbmhaaGreatDoorCards
import Derived.Test.YtdhnpmagapbmhaaGreatDoorTie
import Derived.Shelf.Vars
import Derived.SevenTiedAt
import Derived.Stop.Joined
import Derived.LaidMore
import Derived.Lay
import Derived.Handed
namespace Go.Proofs.YtdhnpmagapbmhaaGreatDoor
/- The landed cluster: Promote: contract. -/
section
open Go.RowKit
set_option maxRecDepth 100000

def prZ : Obj := .cells #[.int .u64 0, .int .i64 0, .int .u64 0] 45 (0, 0)
/-- within Promote: the result's block, and that of the promotion ahead, lie beside the cluster -/
structure ProS (b : Nat) (c : Cu) (S : Nat → Prop) (w : World) (S1 : Nat → Prop) (u : World) : Prop where
  p : (PU b c).p S1 u
  sub : ∀ k, S1 k → S k ∨ w.heap.size + 2 ≤ k
  off : Off S w u
  hz : w.heap.size + 2 ≤ u.heap.size
  rb : u.heap[w.heap.size]? = some prZ
  tb : u.heap[w.heap.size + 1]? = some (.cells #[.int .u64 c.pm.e, .int .i64 c.pm.p, .int .u64 c.pm.c] 45 (0, 0))
section
variable {b : Nat} {c c' : Cu} {S S1 : Nat → Prop} {w u u' : World} {k : Nat} {A : Option Addr}
theorem ProS.beside (h : ProS b c S w S1 u) (hS : ∀ k, S k → k < w.heap.size) {i : Nat} (hi : i < 2) : ¬ S1 (w.heap.size + i) := fun e => by
  rcases h.sub _ e with e | e
  · have := hS _ e; omega
  · omega
theorem ProS.next (h : ProS b c S w S1 u) (hb : Below u.heap.size u u') : ProS b c S w S1 u' :=
  have hz := h.hz
  ⟨Thing.next h.p hb, h.sub, h.off.trans (Off.of S hb) fun _ h => .inl h, Nat.le_trans hz hb.size, (hb.block _ (by omega)).trans h.rb, (hb.block _ (by omega)).trans h.tb⟩
theorem ProS.told (h : ProS b c S w S1 u) (hS : ∀ k, S k → k < w.heap.size) (ht : Told1 (PU b c) S1 A u u') : ∃ S2, ProS b c S w S2 u' ∧ (∀ ad, A = some ad → u.heap.size ≤ ad.block ∧ ad.block < u'.heap.size ∧ ¬ S2 ad.block) ∧ Off S1 u u' := by
  obtain ⟨⟨S2, h1, h2, h3⟩, h4⟩ := ht
  have hz := h.hz
  refine ⟨S2, ⟨h1, fun k e => (h2 k e).elim (fun e => h.sub k e) fun e => .inr (by omega), h.off.trans h4 fun i hi => (h.sub i hi).imp id fun e => by omega, Nat.le_trans hz h4.size, (h4.block _ (by omega) (h.beside hS (i := 0) (by decide))).trans h.rb, (h4.block _ (by omega) (h.beside hS (i := 1) (by decide))).trans h.tb⟩, h3, h4⟩
theorem ProS.turn (h : ProS b c S w S1 u) (hS : ∀ k, S k → k < w.heap.size) (ht : Turn (PU b c') S1 u u') : u'.heap[w.heap.size]? = some prZ ∧ (∃ S2, (PU b c').p S2 u') ∧ ∀ u'', Off (fun k => k = w.heap.size) u' u'' → Turn (PU b c') S w u'' := by
  have hz := h.hz
  have hof := ht.off
  refine ⟨(hof.block _ (by omega) (h.beside hS (i := 0) (by decide))).trans h.rb, ?_, fun u'' ho => ?_⟩
  · obtain ⟨⟨S2, h1, _⟩, _⟩ := ht
    exact ⟨S2, h1⟩
  obtain ⟨⟨S2, h1, h2⟩, _⟩ := ht
  refine ⟨⟨S2, Thing.off h1 ho fun k e e2 => ?_, fun k e => (h2 k e).elim (fun e => (h.sub k e).imp id fun e => by omega) fun e => .inr (by omega)⟩, (h.off.trans hof fun i hi => (h.sub i hi).imp id fun e => by omega).trans ho fun i hi => .inr (Nat.le_of_eq hi.symm)⟩
  subst e2
  rcases h2 _ e with e | e
  · exact h.beside hS (i := 0) (by decide) e
  · omega
theorem ProS.cells (h : ProS b c S w S1 u) : u.cell? ⟨w.heap.size + 1, 0, none⟩ = some (.int .u64 c.pm.e) ∧ u.cell? ⟨w.heap.size + 1, 1, none⟩ = some (.int .i64 c.pm.p) := ⟨(cellsAt h.tb 0 rfl).1, (cellsAt h.tb 1 rfl).1⟩
theorem LR.past1 {l : List Lg} {m : Nat} (h : LR u A m l) (hA : ∀ ad, A = some ad → ad.block < u.heap.size ∧ ¬ S1 ad.block) (ho : Off S1 u u') : LR u' A m l := h.off ho.size fun ad e => ho.block _ (hA ad e).1 (hA ad e).2
set_option maxHeartbeats 8000000 in
theorem ppro16_ok (n : Int) (h : (PU b c).p S w) (hI : CuI k c) (hk : k ≤ 800) :
    Calls Tryz.prog 30 #[.pointer (some ⟨b, 0, none⟩), .int .i64 n] w fun e w' => e = .returned (.tuple #[prP (proCu c n).1.1, .int .i64 (proCu c n).1.2]) ∧ Turn (PU b (proCu c n).2) S w w' := by
  have HT := Lib.hid h
  have HS := Lib.hid fun k => (PU b c).lt h k
  obtain ⟨g, cap, bs, T, hx⟩ := h
  obtain ⟨w1, hw1⟩ : ∃ u, (w.alloc (.cells #[.int .u64 0, .int .i64 0, .int .u64 0] 45)).alloc (.cells #[.int .u64 c.pm.e, .int .i64 c.pm.p, .int .u64 c.pm.c] 45) = u := ⟨_, rfl⟩
  have k1 : Below w.heap.size w w1 := hw1 ▸ kp_alloc (kp_new w _) _
  have b0 : w1.heap[w.heap.size]? = some prZ := hw1 ▸ alloc_keep (alloc_at rfl _ _)
  have b1 : w1.heap[w.heap.size + 1]? = some (.cells #[.int .u64 c.pm.e, .int .i64 c.pm.p, .int .u64 c.pm.c] 45 (0, 0)) := hw1 ▸ alloc_at (by simp) _ _
  have hx1 := hx.later w1 k1
  obtain ⟨_, e1, e2, e3⟩ := (hx.later _ (kp_new w (.cells #[.int .u64 0, .int .i64 0, .int .u64 0] 45))).tops
  have hP1 : ProS b c S w S w1 := ⟨⟨_, _, _, _, hx1⟩, fun _ h => .inl h, Off.of S k1, by rw [← hw1]; simp, b0, b1⟩
  have HIS := Lib.hid (phas_ok n hx1)
  have HW1 := Lib.hid hw1
  have HK1 := Lib.hid k1
  have HB0 := Lib.hid b0
  have HP1 := Lib.hid hP1
  obtain ⟨_, v1⟩ := hP1.cells
  by_cases hn : c.Is n
  rotate_left
  · have hr : proCu c n = ((⟨0, 0, 0⟩, 6), c) := by unfold proCu; rw [if_pos hn]
    rw [hr]
    rw [decide_eq_false hn] at HIS
    unfold prZ at b0
    obtain ⟨s0, q0⟩ := cellsAt b0 0 (v := .int .u64 0) rfl
    obtain ⟨s1, q1⟩ := cellsAt b0 1 (v := .int .i64 0) rfl
    obtain ⟨s2, q2⟩ := cellsAt b0 2 (v := .int .u64 0) rfl
    clear hr k1 hw1 b0 b1 hx1 hx hP1
    go_enter Tryz.func30, Tryz.ntmps30
    go_wp2_with fail
    rw [HW1.out]
    refine HIS.out.mono ?_
    rintro e w2 ⟨rfl, rfl⟩
    go_wp2_with fail
    refine bodyPost_ret (v := .tuple #[prP ⟨0, 0, 0⟩, .int .i64 6]) ?_ rfl ⟨rfl, ?_⟩
    · rw [results_ct16 rfl]
      unfold prP
      go_simp
    · exact Turn.same HT.out (((HK1.out.setCell (Nat.le_refl _) _).setCell (Nat.le_refl _) _).setCell (Nat.le_refl _) _)
  rw [decide_eq_true hn] at HIS
  by_cases hp : n = c.pm.p
  · have hr : proCu c n = ((⟨0, 0, 0⟩, 7), c) := by unfold proCu; rw [if_neg (Decidable.not_not.2 hn), if_pos hp]
    rw [hr]
    unfold prZ at b0
    obtain ⟨s0, q0⟩ := cellsAt b0 0 (v := .int .u64 0) rfl
    obtain ⟨s1, q1⟩ := cellsAt b0 1 (v := .int .i64 0) rfl
    obtain ⟨s2, q2⟩ := cellsAt b0 2 (v := .int .u64 0) rfl
    have hbn : (n == c.pm.p) = true := by simpa using hp
    clear hr k1 hw1 b0 b1 hx1 hx hP1 hp
    go_enter Tryz.func30, Tryz.ntmps30
    go_wp2_with fail
    rw [HW1.out]
    refine HIS.out.mono ?_
    rintro e w2 ⟨rfl, rfl⟩
    go_wp2_with fail
    refine bodyPost_ret (v := .tuple #[prP ⟨0, 0, 0⟩, .int .i64 7]) ?_ rfl ⟨rfl, ?_⟩
    · rw [results_ct16 rfl]
      unfold prP
      go_simp
    · exact Turn.same HT.out (((HK1.out.setCell (Nat.le_refl _) _).setCell (Nat.le_refl _) _).setCell (Nat.le_refl _) _)
  have hr : proCu c n = ((nextPm c n, 0), ⟨c.n, upd3 c.ns n.toNat (leadNd (c.at n) (c.pm.e + 1)), nextPm c n⟩) := by unfold proCu; rw [if_neg (Decidable.not_not.2 hn), if_neg hp]
  rw [hr]
  have hbn : (n == c.pm.p) = false := by simpa using hp
  have hwe : IntKind.u64.wrap (c.pm.e + 1) = c.pm.e + 1 := by have := hI.e1; have := hI.ek; rw [IntKind.wrap_u64]; omega
  obtain ⟨v0, _⟩ := hP1.cells
  have d0 : w1.drew.cell? ⟨w.heap.size + 1, 0, none⟩ = some (.int .u64 c.pm.e) := v0
  have d1 : w1.drew.cell? ⟨w.heap.size + 1, 1, none⟩ = some (.int .i64 c.pm.p) := v1
  have HPD := Lib.hid (hP1.next (kp_drewN w1 1))
  have HL1 : Hid (Calls Tryz.prog 21 #[.pointer (some ⟨b, 0, none⟩), .int .i64 n] w1.drew fun e u' => ∃ A m d S2, e = .returned (.slice A m d) ∧ Hid (ProS b c S w S2 u') ∧ Hid (LR u' A m (c.at n).lg ∧ ∀ ad, A = some ad → ad.block < u'.heap.size ∧ ¬ S2 ad.block)) := Lib.hid ((plog16_ok n HPD.out.p hI).mono fun e u' ⟨A, m, d, he, _, h2, h3⟩ => by
    obtain ⟨S2, k1, k2, _⟩ := HPD.out.told HS.out h3
    refine ⟨A, m, d, S2, he, Lib.hid k1, Lib.hid ⟨?_, fun ad e => (k2 ad e).2⟩⟩
    unfold lgCu at h2
    rw [if_pos hn] at h2
    exact h2)
  have HL2 : Hid (∀ S1 u A1 m1, Hid (ProS b c S w S1 u) → Hid (LR u A1 m1 (c.at n).lg ∧ ∀ ad, A1 = some ad → ad.block < u.heap.size ∧ ¬ S1 ad.block) → Calls Tryz.prog 21 #[.pointer (some ⟨b, 0, none⟩), .int .i64 c.pm.p] u fun e u' => ∃ A m d S2, e = .returned (.slice A m d) ∧ Hid (ProS b c S w S2 u') ∧ Hid (LR u' A1 m1 (c.at n).lg ∧ LR u' A m c.first.lg)) := Lib.hid fun S1 u A1 m1 hp hl => (plog16_ok c.pm.p hp.out.p hI).mono fun e u' ⟨A, m, d, he, _, h2, h3⟩ => by
    obtain ⟨S2, k1, _, k3⟩ := hp.out.told HS.out h3
    refine ⟨A, m, d, S2, he, Lib.hid k1, Lib.hid ⟨hl.out.1.past1 hl.out.2 k3, ?_⟩⟩
    unfold lgCu at h2
    rw [if_pos hI.is] at h2
    exact h2
  have HAL : Hid (∀ u A1 m1 d1 A2 m2 d2, Hid (LR u A1 m1 (c.at n).lg ∧ LR u A2 m2 c.first.lg) → Calls Tryz.prog 58 #[.slice A1 m1 d1, .slice A2 m2 d2] u fun e u' => e = .returned (.int .u64 (sameLg (c.at n).lg c.first.lg)) ∧ Below u.heap.size u u') := Lib.hid fun u A1 m1 d1 A2 m2 d2 hl => (palike16_ok A1 A2 m1 m2 d1 d2 _ _ u hl.out.1 hl.out.2 (by have := hl.out.1.len; have := (hI.nd n.toNat).lg; unfold Cu.at at *; omega)).mono fun _ _ ⟨h1, m, h2⟩ => ⟨h1, h2 ▸ kp_drewN u m⟩
  have HBG : Hid (∀ S1 u, Hid (ProS b c S w S1 u) → Calls Tryz.prog 33 #[.pointer (some ⟨b, 0, none⟩), .agg #[.int .u64 (c.pm.e + 1), .int .i64 n, .int .u64 (sameLg (c.at n).lg c.first.lg)]] u fun e u' => (∃ v, e = .returned v) ∧ Hid (Turn (PU b ⟨c.n, upd3 c.ns n.toNat (leadNd (c.at n) (c.pm.e + 1)), nextPm c n⟩) S1 u u')) := Lib.hid fun S1 u hp => by
    obtain ⟨g, cap, bs, T, hx⟩ := hp.out.p
    exact (pbegin16_ok (nextPm c n) hx hn).mono fun _ _ ⟨h1, h2⟩ => ⟨⟨_, h1⟩, Lib.hid h2⟩
  obtain ⟨sm, hsm⟩ : ∃ z : Nat, sameLg (c.at n).lg c.first.lg = z := ⟨_, rfl⟩
  have hnx : nextPm c n = ⟨c.pm.e + 1, n, sm⟩ := by unfold nextPm; rw [hsm]
  rw [hsm] at HAL HBG
  rw [hnx] at HBG ⊢
  unfold prP
  obtain ⟨ns', hns⟩ : ∃ z, upd3 c.ns n.toNat (leadNd (c.at n) (c.pm.e + 1)) = z := ⟨_, rfl⟩
  rw [hns] at HBG ⊢
  obtain ⟨pe, hpe⟩ : ∃ z, c.pm.e + 1 = z := ⟨_, rfl⟩
  rw [hpe] at HBG ⊢
  have hwe2 : IntKind.u64.wrap (c.pm.e + 1) = pe := hwe.trans hpe
  clear hwe
  clear hr k1 hw1 b0 b1 hx1 hx hP1 hp hsm hnx hns hpe HPD HP1
  go_enter Tryz.func30, Tryz.ntmps30
  go_wp2_with fail
  rw [HW1.out]
  refine HIS.out.mono ?_
  rintro e w2 ⟨rfl, rfl⟩
  go_wp2_with fail
  go_region_law (first
    | (go_simp; go_at_call 21; with_reducible refine HL1.out.mono ?_; rintro e u1 ⟨A1, m1, d1, S1, rfl, HS1, HR1⟩; have HM2 := Lib.hid (HL2.out S1 u1 A1 m1 HS1 HR1); obtain ⟨g0, g1⟩ := HS1.out.cells; clear HL1 HL2 HR1)
    | (go_simp; go_at_call 21; with_reducible refine HM2.out.mono ?_; rintro e u2 ⟨A2, m2, d2, S2, rfl, HS2, HR2⟩; have HMA := Lib.hid (HAL.out u2 A1 m1 d1 A2 m2 d2 HR2); obtain ⟨h0, h1⟩ := HS2.out.cells; clear HM2 HAL HR2 HS1)
    | (go_simp; go_at_call 58; with_reducible refine HMA.out.mono ?_; rintro e u3 ⟨rfl, k3⟩; have HS3 := Lib.hid (HS2.out.next k3); have HMB := Lib.hid (HBG.out S2 u3 HS3); obtain ⟨i0, i1⟩ := HS3.out.cells; clear HMA HBG HS2 k3)
    | (go_simp; go_at_call 33; with_reducible refine HMB.out.mono ?_; rintro e u4 ⟨⟨v, rfl⟩, HT4⟩; clear HMB))
  all_goals
    obtain ⟨j0, ⟨S4, g4, cap4, bs4, T4, hx4⟩, j2⟩ := HS3.out.turn HS.out HT4.out
    have HJ2 := Lib.hid j2
    unfold prZ at j0
    obtain ⟨s0, q0⟩ := cellsAt j0 0 (v := .int .u64 0) rfl
    obtain ⟨s1, q1⟩ := cellsAt j0 1 (v := .int .i64 0) rfl
    obtain ⟨s2, q2⟩ := cellsAt j0 2 (v := .int .u64 0) rfl
    obtain ⟨_, y1, y2, y3⟩ := hx4.tops
    clear j0 j2 hx4
    go_wp2_with fail
    refine bodyPost_ret (v := .tuple #[.agg #[.int .u64 pe, .int .i64 n, .int .u64 sm], .int .i64 0]) ?_ rfl ⟨rfl, ?_⟩
    · rw [results_ct16 rfl]
      go_simp
    · exact HJ2.out _ ((((Off.refl (fun k => k = w.heap.size) u4).setCell (p := ⟨w.heap.size, 0, none⟩) (.inl rfl) _).setCell (p := ⟨w.heap.size, 1, none⟩) (.inl rfl) _).setCell (p := ⟨w.heap.size, 2, none⟩) (.inl rfl) _)
end
end

/- The landed cluster: New: contract. -/
section
open Go.RowKit
set_option maxRecDepth 100000

theorem pptrinfo16 : (Tryz.prog.info? 87).map (fun i => (i.zero, i.size, i.bytes)) = some (some (.pointer none), 1, 8) := by kernel_rfl
/-- within New: q nodes are made -/
structure NewP (w : World) (cb q : Nat) (A : Option Addr) (cap : Nat) (bs : Nat → Nat) (T : Nat → Prop) (wr : World) : Prop where
  top : wr.heap[cb]? = some (.cells #[.slice A q cap, .int .u64 0, .int .i64 0, .int .u64 0] 86 (0, 0))
  own : wr.ownsRow 0 87 1 (.slice A q cap) q (ptC bs q)
  ob : ∀ g, (Value.slice A q cap).ownBlock = some g → cb < g
  nd : (Many PN q bs fun _ => newNd).p T wr
  tt : ∀ k, T k → cb < k ∧ (Value.slice A q cap).ownBlock ≠ some k
  low : Below w.heap.size w wr
section
variable {w wr u0 w2 : World} {cb q : Nat} {A : Option Addr} {cap nb : Nat} {bs : Nat → Nat} {T S2 : Nat → Prop}
theorem NewP.step (h : NewP w cb q A cap bs T wr) (hcb : w.heap.size = cb) (hq : q ≤ 100) (hb0 : Below wr.heap.size wr u0) (hp2 : (PN nb newNd).p S2 w2) (hS2 : ∀ k, S2 k → u0.heap.size ≤ k) (hb2 : Below u0.heap.size u0 w2) :
    ∃ A5 c5 w5, (Builtin.append_ #[84, 84] 84 #[.slice A q cap, .slice (some ⟨w2.heap.size, 0, none⟩) 1 1]).run Tryz.prog (w2.alloc (.cells #[.pointer (some ⟨nb, 0, none⟩)] 87)) = .ok (.slice A5 (q + 1) c5) w5 ∧
      w5.heap[cb]? = some (.cells #[.slice A q cap, .int .u64 0, .int .i64 0, .int .u64 0] 86 (0, 0)) ∧ NewP w cb (q + 1) A5 c5 (upd3 bs q nb) (fun k => T k ∨ S2 k) (w5.setCell ⟨cb, 0, none⟩ (.slice A5 (q + 1) c5)) := by
  obtain ⟨i0, hi, hz0, hz1, hz2⟩ := info_parts pptrinfo16
  have hB2 : Below wr.heap.size wr w2 := hb0.trans (hb2.mono hb0.size)
  have hB3 : Below wr.heap.size wr (w2.alloc (.cells #[.pointer (some ⟨nb, 0, none⟩)] 87)) := kp_alloc hB2 _
  have hz3 : (w2.alloc (.cells #[.pointer (some ⟨nb, 0, none⟩)] 87)).heap.size = w2.heap.size + 1 := by simp
  have hk3 : ∀ k, k < w2.heap.size → (w2.alloc (.cells #[.pointer (some ⟨nb, 0, none⟩)] 87)).heap[k]? = w2.heap[k]? := fun k hk => Below.heap_alloc _ _ k hk
  have hrd : Rd (w2.alloc (.cells #[.pointer (some ⟨nb, 0, none⟩)] 87)) (w2.heap.size + 1) (some ⟨w2.heap.size, 0, none⟩) [.pointer (some ⟨nb, 0, none⟩)] := Rd.new w2 87 [.pointer (some ⟨nb, 0, none⟩)]
  generalize w2.alloc (.cells #[.pointer (some ⟨nb, 0, none⟩)] 87) = w3 at *
  have hrow : ∀ g, (Value.slice A q cap).ownBlock = some g → g < wr.heap.size := fun g e => (h.own.lt g e).2
  have hcbl : cb < wr.heap.size := (Array.getElem?_eq_some_iff.1 h.top).1
  have hown3 : w3.ownsRow 0 87 1 (.slice A q cap) q (ptC bs q) := own_keep h.own fun g hg => hB3.block g (hrow g hg)
  obtain ⟨A5, c5, w5, hrun, hown5, hg5, hwh⟩ := run_append_many (P := Tryz.prog) 84 84 87 i0 _ 1 8 Tryz.underlying84 hi hz0 hz1 hz2 rfl (by omega) hown3 _ _ 1 1 [.pointer (some ⟨nb, 0, none⟩)] rfl hrd (by simp [Value.oneCell']) (by omega) (by omega)
  rw [← ptC_more] at hown5
  have hz2' := hB2.size
  have hzu := hb0.size
  have hk5 : ∀ k, k < w3.heap.size → (Value.slice A q cap).ownBlock ≠ some k → w5.heap[k]? = w3.heap[k]? := fun k hk hne => hg5.block k hk fun e => hne e.symm
  have ht5 : w5.heap[cb]? = some (.cells #[.slice A q cap, .int .u64 0, .int .i64 0, .int .u64 0] 86 (0, 0)) := (hk5 cb (by omega) fun e => by have := h.ob cb e; omega).trans ((hk3 cb (by omega)).trans ((hB2.block cb hcbl).trans h.top))
  have hob5 : ∀ g, (Value.slice A5 (q + 1) c5).ownBlock = some g → cb < g := fun g e => by
    rcases hwh with e2 | ⟨g', e2, hgl⟩
    · rw [e2] at e; exact h.ob g e
    · rw [e2] at e
      injection e with e
      omega
  have hTlt : ∀ k, T k → k < wr.heap.size := fun k hk => (Many PN q bs fun _ => newNd).lt h.nd k hk
  have hSlt : ∀ k, S2 k → k < w2.heap.size := fun k hk => (PN nb newNd).lt hp2 k hk
  have hset : ∀ k, k ≠ cb → (w5.setCell ⟨cb, 0, none⟩ (.slice A5 (q + 1) c5)).heap[k]? = w5.heap[k]? := fun k hk => set_other hk
  have hsz : (w5.setCell ⟨cb, 0, none⟩ (.slice A5 (q + 1) c5)).heap.size = w5.heap.size := set_size _ _ _
  have hz5 := hg5.size
  refine ⟨A5, c5, w5, hrun, ht5, ⟨heap_setCell_same w5 cb 0 _ _ _ ht5, ownsRow_setCell_other (a := ⟨cb, 0, none⟩) hown5 (fun e => Nat.lt_irrefl _ (hob5 cb e)) _, hob5, ?_, ?_, ?_⟩⟩
  · have hm := Many.as (bs' := upd3 bs q nb) (ns' := fun _ => newNd) (Many.more (x := newNd) (b := nb) h.nd hp2 (fun k hk => Nat.le_trans hzu (hS2 k hk)) hB2) (fun _ _ => rfl) fun i _ => by
      by_cases e : i = q
      · subst e; rw [upd3_at]
      · rw [upd3_ne _ _ e]
    refine (Many PN (q + 1) (upd3 bs q nb) fun _ => newNd).keep hm (fun k hk => ?_) (by omega)
    rcases hk with hk | hk
    · have h1 := hTlt k hk
      have h2 := h.tt k hk
      exact (hset k (by omega)).trans ((hk5 k (by omega) h2.2).trans (hk3 k (by omega)))
    · have h1 := hSlt k hk
      have h2 := hS2 k hk
      exact (hset k (by omega)).trans ((hk5 k (by omega) fun e => by have := hrow k e; omega).trans (hk3 k h1))
  · intro k hk
    rcases hk with hk | hk
    · refine ⟨(h.tt k hk).1, fun e => ?_⟩
      have h1 := hTlt k hk
      rcases hwh with e2 | ⟨g', e2, hgl⟩
      · rw [e2] at e; exact (h.tt k hk).2 e
      · rw [e2] at e
        injection e with e
        omega
    · have h1 := hSlt k hk
      have h2 := hS2 k hk
      refine ⟨by omega, fun e => ?_⟩
      rcases hwh with e2 | ⟨g', e2, hgl⟩
      · rw [e2] at e; have := hrow k e; omega
      · rw [e2] at e
        injection e with e
        omega
  · have h1 : Below w.heap.size w w3 := h.low.trans (hB3.mono h.low.size)
    exact (h1.grown hg5 h1.size fun k e => by have := h.ob k e; omega).setCell (by show w.heap.size ≤ cb; omega) _
end
set_option maxHeartbeats 8000000 in
theorem pnew16_ok (n : Int) (w : World) (h1 : 1 ≤ n) (h6 : n ≤ 6) :
    Calls Tryz.prog 10 #[.int .i64 n] w fun e w' => ∃ b, e = .returned (.tuple #[.pointer (some ⟨b, 0, none⟩), .int .i64 0]) ∧ (∃ S, (PU b (newCu n.toNat)).p S w' ∧ ∀ k, S k → w.heap.size ≤ k) ∧ Below w.heap.size w w' := by
  obtain ⟨w1, hw1⟩ : ∃ u, w.alloc (.cells #[.slice none 0 0, .int .u64 0, .int .i64 0, .int .u64 0] 86) = u := ⟨_, rfl⟩
  obtain ⟨cb, hcb⟩ : ∃ z, w.heap.size = z := ⟨_, rfl⟩
  have HN0 : Hid (NewP w cb 0 none 0 (fun _ => 0) (fun _ => False) w1) := Lib.hid ⟨hw1 ▸ alloc_at hcb _ _, World.ownsRow_nil _ _ _ _, fun g e => by simp [Value.ownBlock] at e, Many.none _, fun k e => e.elim, hw1 ▸ kp_new w _⟩
  have HCB := Lib.hid hcb
  have HW1 := Lib.hid hw1
  have HH1 := Lib.hid h1
  have HH6 := Lib.hid h6
  have hc1 : ¬ n < 1 := by omega
  have hc2 : ¬ 6 < n := by omega
  clear hw1 h1 h6 hcb
  go_enter Tryz.func10, Tryz.ntmps10
  go_wp2_with fail
  rw [HW1.out, HCB.out]
  go_loopw [14] (fun i wr => ∃ (q : Nat) (A : Option Addr) (cap : Nat) (bs : Nat → Nat) (T : Nat → Prop), (q : Int) ≤ n ∧ i = .int .i64 q ∧ Hid (NewP w cb q A cap bs T wr)) (fun i _ => n.toNat - (intOf i).toNat)
  case atStart => exact ⟨0, none, 0, _, _, by have := HH1.out; omega, rfl, HN0⟩
  case round =>
    obtain ⟨q, A, cap, bs, T, hq, rfl, hs⟩ := hrel
    clear HN0
    by_cases hlt : (q : Int) < n
    · obtain ⟨y0, _⟩ := cellsAt hs.out.top 0 (v := .slice A q cap) rfl
      have y1 : wr.drew.cell? ⟨cb, 0, none⟩ = some (.slice A q cap) := y0
      have hcl : cb < wr.heap.size := (Array.getElem?_eq_some_iff.1 hs.out.top).1
      have HST : Hid (∀ w2 nb S2, (PN nb newNd).p S2 w2 → (∀ k, S2 k → wr.drew.heap.size ≤ k) → Below wr.drew.heap.size wr.drew w2 → w2.cell? ⟨cb, 0, none⟩ = some (.slice A q cap) ∧ (w2.alloc (.cells #[.pointer (some ⟨nb, 0, none⟩)] 87)).cell? ⟨cb, 0, none⟩ = some (.slice A q cap) ∧ ∃ A5 c5 w5, (Builtin.append_ #[84, 84] 84 #[.slice A q cap, .slice (some ⟨w2.heap.size, 0, none⟩) 1 1]).run Tryz.prog (w2.alloc (.cells #[.pointer (some ⟨nb, 0, none⟩)] 87)) = .ok (.slice A5 (q + 1) c5) w5 ∧
          (w5.cell? ⟨cb, 0, none⟩ = some (.slice A q cap) ∧ w5.frozen? ⟨cb, 0, none⟩ = false) ∧ ∃ bs' T', Hid (NewP w cb (q + 1) A5 c5 bs' T' (w5.setCell ⟨cb, 0, none⟩ (.slice A5 (q + 1) c5)))) := Lib.hid fun w2 nb S2 hp2 hS2 hb2 => by
        obtain ⟨A5, c5, w5, g1, g2, g3⟩ := hs.out.step HCB.out (by have := HH6.out; omega) (kp_drewN wr 1) hp2 hS2 hb2
        have hx2 := (hb2.cell (p := ⟨cb, 0, none⟩) hcl).trans y1
        exact ⟨hx2, ((kp_new w2 _).cell (p := ⟨cb, 0, none⟩) (Nat.lt_of_lt_of_le hcl hb2.size)).trans hx2, A5, c5, w5, g1, cellsAt g2 0 rfl, _, _, Lib.hid g3⟩
      have HNW := Lib.hid fun u => pnew15_ok u
      clear hs hcl
      go_wp2_with fail
      go_region_law (first
        | (refine step_append_run rfl (.tmp 20) (.tmp 22) _ rfl _ _ rfl rfl HRUN.out ?_)
        | (go_simp; go_at_call 32; refine (HNW.out _).mono ?_; rintro e w2 ⟨nb, rfl, ⟨S2, hp2, hS2⟩, hb2⟩; obtain ⟨x2, x3, A5, c5, w5, hrun, ⟨x5, f5⟩, bs5, T5, HN5⟩ := HST.out w2 nb S2 hp2 hS2 hb2; have HRUN := Lib.hid hrun; clear hp2 hS2 hb2 hrun HST HNW))
      all_goals
        go_wp2_with fail
        go_roundw
        case rel => exact ⟨q + 1, A5, c5, bs5, T5, by omega, by go_num, HN5⟩
        case measure => simp [intOf]; omega
    · obtain rfl : (q : Int) = n := by omega
      obtain ⟨g, hA⟩ : ∃ g, A = some ⟨g, 0, none⟩ := by
        have h1 := HH1.out
        rcases hs.out.own.2 with ⟨h2, _⟩ | ⟨g, cap', cur, h2, _⟩
        · injection h2 with _ h2 _
          omega
        · injection h2 with h2 _ _
          exact ⟨g, h2⟩
      subst hA
      have hob := hs.out.ob g rfl
      have hgl := (hs.out.own.lt g rfl).2
      have hcl : cb < wr.heap.size := (Array.getElem?_eq_some_iff.1 hs.out.top).1
      have hz := hs.out.low.size
      have hTl : ∀ k, T k → k < wr.heap.size := fun k hk => (Many PN q bs fun _ => newNd).lt hs.out.nd k hk
      have htb : ¬ T cb := fun e => by have := (hs.out.tt cb e).1; omega
      have hlt3 : ∀ k, (k = cb ∨ k = g ∨ T k) → k < wr.heap.size := fun k e => by
        rcases e with e | e | e
        · omega
        · omega
        · exact hTl k e
      have hpt : ∀ i, i < q → wr.cell? ⟨g, i, none⟩ = some (.pointer (some ⟨bs i, 0, none⟩)) := fun i hi => by
        rw [← show (⟨g, 0, none⟩ : Addr).add i = ⟨g, i, none⟩ from by unfold Addr.add; split <;> simp_all]
        exact hs.out.own.cells (g := g) rfl i _ (ptC_at bs hi)
      have hgb : g ≠ cb := by omega
      have hx : PUx cb ⟨q, fun _ => newNd, ⟨0, 0, 0⟩⟩ g cap bs T (fun k => k = cb ∨ k = g ∨ T k) wr := { top := hs.out.top, pt := hpt, nd := hs.out.nd, sb := .inl rfl, sg := .inr (.inl rfl), gb := hgb, tg := fun e => (hs.out.tt g e).2 rfl, tb := htb, ts := fun k e => .inr (.inr e), lt := hlt3 }
      have HBG := Lib.hid (pbegin16_ok ⟨1, 0, 0⟩ hx (by unfold Cu.Is; have := HH1.out; dsimp only; omega))
      have HLW := Lib.hid hs.out.low
      have HSB : Hid (∀ k, (k = cb ∨ k = g ∨ T k) → w.heap.size ≤ k) := Lib.hid fun k e => by
        have h1 := HCB.out
        rcases e with e | e | e
        · omega
        · omega
        · have := (hs.out.tt k e).1; omega
      clear hx hs hob hgl hcl hz hTl htb hlt3 hpt hgb
      unfold prP at HBG
      go_wp2_with fail
      refine HBG.out.mono ?_
      rintro e w3 ⟨rfl, ht⟩
      have HTU := Lib.hid ht
      clear ht
      go_wp2_with fail
      go_ret2
      obtain ⟨⟨S', h1, h2⟩, h3⟩ := HTU.out
      refine ⟨cb, rfl, ⟨S', h1, fun k e => (h2 k e).elim (HSB.out k) fun e => Nat.le_trans HLW.out.size e⟩, ?_⟩
      exact HLW.out.trans (h3.below HSB.out HLW.out.size)
end

/- The landed cluster does what the laws ask of a cluster. -/
section
open Go.RowKit
set_option maxRecDepth 100000

theorem pnew16_no (n : Int) (w : World) (hn : ¬ (1 ≤ n ∧ n ≤ 6)) :
    Calls Tryz.prog 10 #[.int .i64 n] w fun e w' => e = .returned (.tuple #[.pointer none, .int .i64 1]) ∧ Below w.heap.size w w' := by
  by_cases h1 : n < 1
  · clear hn
    go_enter Tryz.func10, Tryz.ntmps10
    go_wp2_with fail
    go_ret2
    exact ⟨rfl, Below.refl _ _⟩
  · have h2 : 6 < n := by omega
    clear hn
    go_enter Tryz.func10, Tryz.ntmps10
    go_wp2_with fail
    go_ret2
    exact ⟨rfl, Below.refl _ _⟩
theorem clusterc_ok : ClusterC PU where
  new := fun n w _ h1 h6 => pnew16_ok n w h1 h6
  no := fun n w _ hn => pnew16_no n w hn
  nodes := fun _ _ _ _ _ h _ => pnodes16_ok h
  newest := fun _ _ _ _ _ h _ => pnewest16_ok h
  promote := fun _ _ _ n _ _ h hI hk _ => ppro16_ok n h hI hk
  copy := fun _ _ _ n m _ _ h hI _ _ _ => pcopy16_ok n m h hI
  run := fun _ _ _ n cn e rd s _ _ hL h hI hk hs _ hc _ => prun16_ok n cn e rd s hL h hI hk hs hc
  close := fun _ _ _ n cn _ _ h hI _ _ hc => pclose16_ok n cn h hI hc
  epoch := fun _ _ _ n _ _ h _ _ => pepoch16_ok n h
  leads := fun _ _ _ n _ _ h _ _ => pleads16_ok n h
  log := fun _ _ _ n _ _ h hI _ => plog16_ok n h hI
  lag := fun _ _ _ n _ _ h hI _ => plag16_ok n h hI
end

/- Layer 16: promotions that are compared. -/
section
open Go.RowKit
set_option maxRecDepth 100000

theorem eql_prom (k k' p p' q q' : Int) (w : World) : (binOp .eql 45 (.agg #[.int .u64 k, .int .i64 p, .int .u64 q]) (.agg #[.int .u64 k', .int .i64 p', .int .u64 q'])).run Tryz.prog w = .ok (.bool (decide ((⟨k, p, q⟩ : Pr16) = ⟨k', p', q'⟩))) w := by
  have hf : (Tryz.prog.fieldsOf 45) = (match Tryz.prog.underlying 45 with | some (.struct fs) => fs | _ => #[]) := rfl
  have hu := Tryz.underlying45
  rw [hu] at hf
  rw [run_eql_struct, run_equalIn_agg (P := Tryz.prog) w 9999 _ _ _ (by rw [hf]; exact hu) (by kernel_rfl), hf]
  have h9 := Tryz.underlying3
  have hz9 := Tryz.sizeOf3
  have ha9 := Tryz.isAgg3
  have h8 := Tryz.underlying32
  have hz8 := Tryz.sizeOf32
  have ha8 := Tryz.isAgg32
  have p1 : ∀ (x y z : Int) (w : World), (part 32 #[.int .u64 x, .int .i64 y, .int .u64 z] 0).run Tryz.prog w = .ok (.int .u64 x) w := fun x y z w => by simp [part, hz8, ha8]
  have p2 : ∀ (x y z : Int) (w : World), (part 3 #[.int .u64 x, .int .i64 y, .int .u64 z] 1).run Tryz.prog w = .ok (.int .i64 y) w := fun x y z w => by simp [part, hz9, ha9]
  have p3 : ∀ (x y z : Int) (w : World), (part 32 #[.int .u64 x, .int .i64 y, .int .u64 z] 2).run Tryz.prog w = .ok (.int .u64 z) w := fun x y z w => by simp [part, hz8, ha8]
  have e1 : ∀ (x y : Int) (w : World), (Op.equalIn 9999 32 (.int .u64 x) (.int .u64 y)).run Tryz.prog w = .ok (x == y) w := fun x y w => run_equalIn_int w 9998 32 .u64 .u64 x y h8
  have e2 : ∀ (x y : Int) (w : World), (Op.equalIn 9999 3 (.int .i64 x) (.int .i64 y)).run Tryz.prog w = .ok (x == y) w := fun x y w => run_equalIn_int w 9998 3 .i64 .i64 x y h9
  by_cases h1 : k = k'
  · by_cases h2 : p = p'
    · by_cases h3 : q = q'
      · simp [Op.eqFields, p1, p2, p3, e1, e2, h1, h2, h3]
      · simp [Op.eqFields, p1, p2, p3, e1, e2, h1, h2, h3]
    · simp [Op.eqFields, p1, p2, p3, e1, e2, h1, h2]
  · simp [Op.eqFields, p1, p2, p3, e1, e2, h1]
end

/- ClusterCopies, of layer 16: the walk. -/
section
open Go.RowKit
set_option maxRecDepth 100000

section
variable {X : Nat → Cu → Thing}
set_option maxHeartbeats 32000000 in
theorem clustercopies_walk (C : ClusterC X) (N : Int) (A1 : Option Addr) (l1 c1 : Nat) (ts : List Ac7) (n a b : Int) (W : World) (hN0 : I64n N) (r1 : AG W A1 l1 ts) (hF : ∀ t ∈ ts, t.Fine) (hn0 : I64n n) (ha0 : I64n a) (hb0 : I64n b) (hL : Lw W) :
    Calls Tryz.prog 7 #[.int .i64 N, .slice A1 l1 c1, .int .i64 n, .int .i64 a, .int .i64 b] W fun e w' => e = .returned (.bool true) ∧ Below W.heap.size W w' := by
  have HAW := Lib.hid (awake16_ok C hL)
  have hN : I64n N ∧ I64n n ∧ I64n a ∧ I64n b := ⟨hN0, hn0, ha0, hb0⟩
  clear hN0 hn0 ha0 hb0
  have R1 := Lib.hid r1
  have HN1 := Lib.hid r1.len
  have HFX := Lib.hid hF
  have HC := Lib.hid C
  have HLW := Lib.hid hL
  have HNN := Lib.hid hN
  clear r1 hF C hL hN
  go_enter Tryz.func7, Tryz.ntmps7
  go_wp2_with fail
  refine HAW.out.mono ?_
  rintro e w1 ⟨rfl, k1⟩
  have HK1 := Lib.hid k1
  clear HAW k1
  obtain ⟨mx, hmx, hmxe⟩ : ∃ mx : Int, (∀ (u : World) (ts : Array TypeId) (ty : TypeId), (Builtin.max_ ts ty #[.int .i64 a, .int .i64 b]).run Tryz.prog u = .ok (.int .i64 mx) u) ∧ mx = (if b > a then b else a) := ⟨_, fun u ts ty => run_max_int2 (P := Tryz.prog) (w := u) ts ty .i64 .i64 a b, rfl⟩
  obtain ⟨mn, hmn, hmne⟩ : ∃ mn : Int, (∀ (u : World) (ts : Array TypeId) (ty : TypeId), (Builtin.min_ ts ty #[.int .i64 a, .int .i64 b]).run Tryz.prog u = .ok (.int .i64 mn) u) ∧ mn = (if b < a then b else a) := ⟨_, fun u ts ty => run_min_int2 (P := Tryz.prog) (w := u) ts ty .i64 .i64 a b, rfl⟩
  have HMX := Lib.hid hmxe
  have HMN := Lib.hid hmne
  clear hmxe hmne
  have HLG := Lib.hid (llarge16_ok A1 l1 c1 ts w1 (R1.out.next HK1.out))
  go_wp2_with fail
  refine HLG.out.mono ?_
  rintro e w2 ⟨bg, rfl, hbg, k2⟩
  have HK2 := Lib.hid (HK1.out.trans (k2.mono HK1.out.size))
  clear HLG k2
  by_cases hg : bg = false ∧ mx ≤ 300 ∧ 0 ≤ mn
  rotate_left
  · cases bg with
    | true =>
      clear hbg hg
      go_wp2_with fail
      go_ret
      exact ⟨rfl, HK2.out⟩
    | false =>
      clear hbg
      by_cases h3 : mx ≤ 300
      · have h4 : mn < 0 := by
          rcases Int.lt_or_le mn 0 with h | h
          · exact h
          · exact absurd ⟨rfl, h3, h⟩ hg
        clear hg
        go_wp2_with fail
        go_ret
        exact ⟨rfl, HK2.out⟩
      · have h4 : 300 < mx := by omega
        clear hg h3
        go_wp2_with fail
        go_ret
        exact ⟨rfl, HK2.out⟩
  obtain ⟨rfl, hmx3, hmn0⟩ := hg
  obtain ⟨hl60, hsm⟩ := hbg rfl
  have HSM := Lib.hid hsm
  have HAB : Hid (0 ≤ a ∧ a ≤ 300 ∧ 0 ≤ b ∧ b ≤ 300) := Lib.hid (by
    have h1 := HMX.out
    have h2 := HMN.out
    split at h1 <;> split at h2 <;> omega)
  have hab := HAB.out
  have hwab : IntKind.i64.wrap (a + b) = a + b := by rw [IntKind.wrap_i64]; omega
  clear hbg hsm
  by_cases hNN : 1 ≤ N ∧ N ≤ 6
  rotate_left
  · have HNo := Lib.hid fun w => HC.out.no N w HNN.out.1 hNN
    clear hNN hab hwab
    go_wp2_with fail
    refine (HNo.out w2).mono ?_
    rintro e w3 ⟨rfl, k3⟩
    have HK3 := Lib.hid (HK2.out.trans (k3.mono HK2.out.size))
    clear k3
    go_wp2_with fail
    refine (HNo.out w3).mono ?_
    rintro e w4 ⟨rfl, k4⟩
    have HK4 := Lib.hid (HK3.out.trans (k4.mono HK3.out.size))
    clear k4
    go_wp2_with fail
    go_ret
    exact ⟨rfl, HK4.out⟩
  have HNew := Lib.hid fun w hw => HC.out.new N w hw hNN.1 hNN.2
  have HI0 : Hid (CuI 0 (newCu N.toNat)) := Lib.hid (CuI.new (by omega) (by omega))
  have HNt : Hid (((N.toNat : Nat) : Int) = N) := Lib.hid (by omega)
  have hN1 := hNN.1
  have hN6 := hNN.2
  clear hNN
  go_wp2_with fail
  refine (HNew.out w2 (HLW.out.next HK2.out)).mono ?_
  rintro e w3 ⟨bc, rfl, ⟨S3, x3, y3⟩, k3⟩
  have H3 := Lib.hid (Solo.make HK2.out x3 y3 k3)
  have HK3 := Lib.hid (HK2.out.trans (k3.mono HK2.out.size))
  clear x3 y3 k3
  go_wp2_with fail
  refine (HNew.out w3 (HLW.out.next HK3.out)).mono ?_
  rintro e w4 ⟨bd, rfl, ⟨S4, x4, y4⟩, k4⟩
  have H4 : Hid (St15 W (X bc (newCu N.toNat)) (X bd (newCu N.toNat)) [] [] [] [] w4) := Lib.hid (St15.make (H3.out.duo x4 y4 k4))
  clear x4 y4 k4 H3 HNew
  obtain ⟨c0, hc0⟩ : ∃ c, newCu N.toNat = c := ⟨_, rfl⟩
  have HCN : Hid (((c0.n : Nat) : Int) = N) := Lib.hid (by rw [← hc0]; exact HNt.out)
  rw [hc0] at H4 HI0
  clear hc0
  go_wp2_with fail
  go_loopw [53] (fun i wr => ∃ (k : Nat) (c : Cu), k ≤ l1 ∧ i = .int .i64 k ∧ Hid (CuI k c) ∧ Hid (((c.n : Nat) : Int) = N) ∧ Hid (St15 W (X bc c) (X bd c) [] [] [] [] wr)) (fun i _ => l1 - (intOf i).toNat)
  case atStart => exact ⟨0, c0, Nat.zero_le _, rfl, HI0, HCN, H4⟩
  case round =>
    obtain ⟨k, c, hk, rfl, HI, HCN, hD⟩ := hrel
    clear HI0 H4
    by_cases hlt : k < l1
    · have hkl : k < ts.length := by rw [HN1.out]; exact hlt
      obtain ⟨ad, rfl, _, hcc⟩ := R1.out.at_ hkl
      obtain ⟨x0, x1, x2, x3, x4, x5, x6⟩ := hcc wr (hD.out.low)
      have HXF := Lib.hid (HFX.out _ (List.getElem_mem hkl))
      have HXS := Lib.hid (HSM.out _ (List.getElem_mem hkl))
      clear hcc
      generalize ts[k] = x at *
      obtain ⟨wx, hwx⟩ : ∃ u, wr.alloc (.cells #[.int .i64 x.d, .int .i64 x.nd, .int .i64 x.c, .int .i64 x.m, .int .u64 x.e, .bool x.rd, .string x.t] 34) = u := ⟨_, rfl⟩
      obtain ⟨t6, ht6⟩ : ∃ y, wr.heap.size = y := ⟨_, rfl⟩
      have H1 := Lib.hid ((hD.out).mark (.cells #[.int .i64 x.d, .int .i64 x.nd, .int .i64 x.c, .int .i64 x.m, .int .u64 x.e, .bool x.rd, .string x.t] 34) hwx ht6)
      have HWX := Lib.hid hwx
      have HT6 := Lib.hid ht6
      have m6 := H1.out.at_ (.head _)
      obtain ⟨y0, _⟩ := cellsAt m6 0 (v := .int .i64 x.d) rfl
      obtain ⟨y1, _⟩ := cellsAt m6 1 (v := .int .i64 x.nd) rfl
      obtain ⟨y2, _⟩ := cellsAt m6 2 (v := .int .i64 x.c) rfl
      obtain ⟨y3, _⟩ := cellsAt m6 3 (v := .int .i64 x.m) rfl
      obtain ⟨y4, _⟩ := cellsAt m6 4 (v := .int .u64 x.e) rfl
      obtain ⟨y5, _⟩ := cellsAt m6 5 (v := .bool x.rd) rfl
      obtain ⟨y6, _⟩ := cellsAt m6 6 (v := .string x.t) rfl
      have HQ := Lib.hid (H1.out.cact HC.out HLW.out HI.out (by omega) HXF.out HXS.out)
      have HIN := Lib.hid (HI.out.act (by omega) HXF.out HXS.out)
      have HCN2 : Hid ((((actCu c x).2.n : Nat) : Int) = N) := Lib.hid (by rw [act_n]; exact HCN.out)
      obtain ⟨R, hR⟩ : ∃ R, actCu c x = R := ⟨_, rfl⟩
      rw [hR] at HQ HIN HCN2
      have HR := Lib.hid hR
      clear hwx ht6 hD m6 hR
      go_wp2_with fail
      rw [HWX.out, HT6.out]
      refine HQ.out.mono ?_
      rintro e w5 ⟨A5, m5, d5, rfl, h5⟩
      have H5 := Lib.hid (h5.less (ps' := []) (rs' := []) (xs' := []) (fun _ h => h) (fun _ h => h) (fun _ h => nomatch h) (fun _ h => nomatch h)).swap
      have HQ2 := Lib.hid (H5.out.cact HC.out HLW.out HI.out (by omega) HXF.out HXS.out)
      rw [HR.out] at HQ2
      have m6 := H5.out.at_ (.head _)
      clear h5 HQ x0 x1 x2 x3 x4 x5 x6 y0 y1 y2 y3 y4 y5 y6 H1 HWX HT6
      obtain ⟨y0, _⟩ := cellsAt m6 0 (v := .int .i64 x.d) rfl
      obtain ⟨y1, _⟩ := cellsAt m6 1 (v := .int .i64 x.nd) rfl
      obtain ⟨y2, _⟩ := cellsAt m6 2 (v := .int .i64 x.c) rfl
      obtain ⟨y3, _⟩ := cellsAt m6 3 (v := .int .i64 x.m) rfl
      obtain ⟨y4, _⟩ := cellsAt m6 4 (v := .int .u64 x.e) rfl
      obtain ⟨y5, _⟩ := cellsAt m6 5 (v := .bool x.rd) rfl
      obtain ⟨y6, _⟩ := cellsAt m6 6 (v := .string x.t) rfl
      clear m6
      unfold toV16
      go_wp2_with fail
      refine HQ2.out.mono ?_
      rintro e w6 ⟨A6, m6, d6, rfl, h6⟩
      have H6 := Lib.hid (h6.less (ps' := []) (l' := []) (rs' := []) (xs' := []) (fun _ h => h) (fun _ h => nomatch h) (fun _ h => nomatch h) (fun _ h => nomatch h)).swap
      clear h6 HQ2 H5 y0 y1 y2 y3 y4 y5 y6
      unfold toV16
      go_wp2_with fail
      go_roundw
      case rel => exact ⟨k + 1, R.2, by omega, by go_num, HIN, HCN2, H6⟩
      case measure => simp [intOf]; omega
    · have H5 := Lib.hid hD.out
      clear hD
      have hP := copy_cu HI.out n HAB.out.1 HAB.out.2.2.1
      have HQ := Lib.hid (H5.out.ccopy HC.out HI.out (by omega) n a HNN.out.2.1 HNN.out.2.2.1)
      have HIA := Lib.hid (HI.out.copy n a)
      obtain ⟨Ra, hRa⟩ : ∃ R, cpyCu c n a = R := ⟨_, rfl⟩
      rw [hRa] at HQ HIA hP
      have HQ2 := Lib.hid fun w (h : St15 W (X bc Ra.2) (X bd c) [] [] [] [] w) => h.ccopy HC.out HIA.out (by omega) n b HNN.out.2.1 HNN.out.2.2.2
      have HIB := Lib.hid (HIA.out.copy n b)
      obtain ⟨Rb, hRb⟩ : ∃ R, cpyCu Ra.2 n b = R := ⟨_, rfl⟩
      rw [hRb] at HQ2 HIB hP
      obtain ⟨q1, q2, q3, q4⟩ := hP
      have HQ3 := Lib.hid fun w (h : St15 W (X bd c) (X bc Rb.2) [] [] [] [] w) => h.ccopy HC.out HI.out (by omega) n (a + b) HNN.out.2.1 (by unfold I64n; omega)
      obtain ⟨Rc, hRc⟩ : ∃ R, cpyCu c n (a + b) = R := ⟨_, rfl⟩
      rw [hRc] at HQ3 q1 q2 q3 q4
      have hw1 : IntKind.i64.wrap (Ra.1 + Rb.1) = Rc.1 := by rw [q2, IntKind.wrap_i64]; omega
      have g1 : ¬ Rc.1 < 0 := by omega
      have g2 : ¬ a + b < Rc.1 := by omega
      have g3 : (Rc.1 != Rc.1) = false := by simp
      have HCNB : Hid (((Rb.2.n : Nat) : Int) = N) := Lib.hid (by rw [← hRb, cpy_n, ← hRa, cpy_n]; exact HCN.out)
      rw [← q1] at HQ3
      clear hRa hRb hRc q1 q2 q3 q4 HCN
      go_wp2_with fail
      refine HQ.out.mono ?_
      rintro e w5 ⟨rfl, h5⟩
      clear HQ
      have H6 := Lib.hid h5
      clear h5
      go_wp2_with fail
      refine (HQ2.out _ H6.out).mono ?_
      rintro e w6 ⟨rfl, h6⟩
      have H7 := Lib.hid h6.swap
      clear HQ2 h6 H6
      go_wp2_with fail
      refine (HQ3.out _ H7.out).mono ?_
      rintro e w7 ⟨rfl, h7⟩
      have H8 := Lib.hid h7.swap
      clear HQ3 h7 H7
      generalize Rb.2 = c at *
      go_wp2_with fail
      go_loopw [94] (fun i wr => ∃ q : Nat, (q : Int) ≤ N ∧ i = .int .i64 q ∧ Hid (St15 W (X bc c) (X bd c) [] [] [] [] wr)) (fun i _ => N.toNat - (intOf i).toNat)
      case atStart => exact ⟨0, by omega, rfl, H8⟩
      case round =>
        obtain ⟨q, hq, rfl, hD⟩ := hrel
        clear H8
        by_cases hql : (q : Int) < N
        · have HNq : Hid (I64n (q : Int)) := Lib.hid (by unfold I64n; omega)
          have H9 := Lib.hid hD.out
          have HQ := Lib.hid fun w X1 Y1 l rs xs (h : St15 W (X X1 c) Y1 [] l rs xs w) => h.cep HC.out HIB.out q HNq.out
          obtain ⟨ve, hve⟩ : ∃ x, epCu c q = x := ⟨_, rfl⟩
          have g4 : (ve != ve) = false := by simp
          rw [hve] at HQ
          clear hve hD
          go_wp2_with fail
          refine (HQ.out _ _ _ _ _ _ H9.out).mono ?_
          rintro e w9 ⟨rfl, h9⟩
          have H10 := Lib.hid h9.swap
          clear h9 H9
          go_wp2_with fail
          refine (HQ.out _ _ _ _ _ _ H10.out).mono ?_
          rintro e wa ⟨rfl, ha⟩
          have H11 := Lib.hid ha.swap
          have HQ := Lib.hid fun w X1 Y1 l rs xs (h : St15 W (X X1 c) Y1 [] l rs xs w) => h.cld HC.out HIB.out q HNq.out
          obtain ⟨vl, hvl⟩ : ∃ x, ldCu c q = x := ⟨_, rfl⟩
          have g5 : (vl != vl) = false := by simp
          rw [hvl] at HQ
          clear ha H10 hvl
          go_wp2_with fail
          refine (HQ.out _ _ _ _ _ _ H11.out).mono ?_
          rintro e wb ⟨rfl, hb⟩
          have H12 := Lib.hid hb.swap
          clear hb H11
          go_wp2_with fail
          refine (HQ.out _ _ _ _ _ _ H12.out).mono ?_
          rintro e wc ⟨rfl, hc⟩
          have H13 := Lib.hid hc.swap
          have HQ := Lib.hid fun w X1 Y1 l rs xs (h : St15 W (X X1 c) Y1 [] l rs xs w) => h.clog HC.out HIB.out q HNq.out
          obtain ⟨lg, hlg⟩ : ∃ x, lgCu c q = x := ⟨_, rfl⟩
          have HLL : Hid (lg.length ≤ 200) := Lib.hid (by rw [← hlg]; exact lg_le HIB.out q)
          rw [hlg] at HQ
          clear hc H12 hlg
          go_wp2_with fail
          refine (HQ.out _ _ _ _ _ _ H13.out).mono ?_
          rintro e wd ⟨Ad, md, dd, ⟨rfl, _⟩, hd⟩
          have H14 := Lib.hid hd
          have hlr : LR wd Ad md lg := hd.lr (.head _)
          have hmd : md ≤ 200 := by have := hlr.len; have := HLL.out; omega
          have HE := Lib.hid (lentries16_ok Ad md dd lg wd hlr (by omega))
          clear hd hlr H13
          go_wp2_with fail
          refine HE.out.mono ?_
          rintro e we ⟨Ae, ce, rfl, hle, hne, ke⟩
          have H15 := Lib.hid (((H14.out.row ke hle hne).less (rs' := [(Ae, md, lg)]) (fun _ h => h) (fun _ h => h) (fun r h => by rw [List.mem_singleton.1 h]; exact .head _) (fun _ h => h)).swap)
          clear hle hne ke HE H14
          go_wp2_with fail
          refine (HQ.out _ _ _ _ _ _ H15.out).mono ?_
          rintro e wf ⟨Af, mf, df, ⟨rfl, _⟩, hf⟩
          have H16 := Lib.hid hf
          have hlr : LR wf Af mf lg := hf.lr (.head _)
          have hmf : mf ≤ 200 := by have := hlr.len; have := HLL.out; omega
          have HE := Lib.hid (lentries16_ok Af mf df lg wf hlr (by omega))
          clear hf hlr H15 HQ
          go_wp2_with fail
          refine HE.out.mono ?_
          rintro e wg ⟨Ag, cg, rfl, hlg, hng, kg⟩
          have H17 := Lib.hid (H16.out.row kg hlg hng)
          have HS := Lib.hid (rsame15_ok Ae Ag md mf ce cg lg lg wg (H17.out.lr (.tail _ (.tail _ (.head _)))) (H17.out.lr (.head _)) (by omega) (by omega) true (Lib.hid (decide_eq_true rfl)))
          clear hlg hng kg HE H16
          go_wp2_with fail
          refine HS.out.mono ?_
          rintro e wh ⟨rfl, nn, hh⟩
          have H18 := Lib.hid ((H17.out.next (show Below wg.heap.size wg wh from hh ▸ kp_drewN _ _)).less (rs' := []) (fun _ h => h) (fun _ h => h) (fun _ h => nomatch h) (fun _ h => h)).swap
          have HQ := Lib.hid fun w X1 Y1 l rs xs (h : St15 W (X X1 c) Y1 [] l rs xs w) => h.clag HC.out HIB.out q HNq.out
          obtain ⟨va, hva⟩ : ∃ x, lagCu c q = x := ⟨_, rfl⟩
          have g6 : (va != va) = false := by simp
          rw [hva] at HQ
          clear hh H17 HS hva
          go_wp2_with fail
          refine (HQ.out _ _ _ _ _ _ H18.out).mono ?_
          rintro e wi ⟨rfl, hi⟩
          have H19 := Lib.hid hi.swap
          clear hi H18
          go_wp2_with fail
          refine (HQ.out _ _ _ _ _ _ H19.out).mono ?_
          rintro e wj ⟨rfl, hj⟩
          have H20 := Lib.hid hj.swap
          clear hj H19 HQ
          go_wp2_with fail
          go_roundw
          case rel => exact ⟨q + 1, by omega, by go_num, H20⟩
          case measure => simp [intOf]; omega
        · obtain ⟨pe, pp, pc, hpm⟩ : ∃ a b d, c.pm = ⟨a, b, d⟩ := ⟨_, _, _, rfl⟩
          have H9 := Lib.hid hD.out
          have HQ := Lib.hid fun w X1 Y1 X2 (h : St15 W (X X1 c) Y1 [] [] [] [] w) (_ : X2 = X1) => h.cnew HC.out HIB.out
          rw [hpm] at HQ
          have hE := fun u => eql_prom pe pe pp pp pc pc u
          rw [decide_eq_true rfl] at hE
          clear hpm hD
          go_wp2_with fail
          refine (HQ.out _ _ _ _ H9.out rfl).mono ?_
          rintro e w9 ⟨rfl, h9⟩
          have H10 := Lib.hid h9.swap
          clear h9 H9
          dsimp only
          go_wp2_with fail
          refine (HQ.out _ _ _ _ H10.out rfl).mono ?_
          rintro e wa ⟨rfl, ha⟩
          have HF := Lib.hid ha.low
          clear ha H10 HQ
          dsimp only
          go_wp2_with fail
          go_ret
          exact ⟨rfl, HF.out⟩
end
end

/- From a walk to a law's row: arguments opened, and shut behind a call that left alone what was there before it. -/
section
open Go.RowKit Go.ChangeShapes Go.WideShapes Go.ChangeAt

theorem own0 : ownKnob Tryz.prog.godebug = none := by kernel_rfl
theorem laid0 : laidOutB Tryz.prog = true := by kernel_rfl

section
variable {H : Type} {enc : TypeId × Value → H} {P : Program}
theorem trodAll_later {W W' : World} (hl : laidOutB P = true) (hb : Below W.heap.size W W') : ∀ (ts : List TypeId) (vs : List Value) (ds : List (DataW H)) (ps : List MemPlace),
    (∀ t ∈ ts, P.readableRec t = true ∧ t < P.types.size) → DataW.TrodAll enc P W 0 (fun _ => true) true ts vs ds ps → (∀ x ∈ ps, x.block < W.heap.size) →
    DataW.TrodAll enc P W' 0 (fun b => decide (b < W.heap.size)) true ts vs ds ps
  | [], vs, ds, ps, _, h, _ => by
    cases vs <;> cases ds <;> simp [DataW.TrodAll] at h ⊢
    exact h
  | t :: ts, vs, ds, ps, ht, h, hlt => by
    obtain ⟨v, vs', d, ds', p, q, rfl, rfl, rfl, h1, h2⟩ := trodAll_cons h
    have h3 := Below.trod hl (ht t (by simp)).1 (ht t (by simp)).2 h1 hb (fun x hx => hlt x (by simp [hx]))
    have h4 := trodAll_later hl hb ts vs' ds' q (fun u hu => ht u (by simp [hu])) h2 (fun x hx => hlt x (by simp [hx]))
    exact trodAll_cons_mk h3 h4

/-- a law that answers true, and leaves alone what was there -/
theorem law_post {f : Func} {s : ChangeSpec} {tb : TypeId} {W W' : World} {args : Array Value} {ds gs : List (DataW H)} {before : List MemPlace}
    (hl : laidOutB P = true) (hts : ∀ t ∈ f.params.toList, P.readableRec t = true ∧ t < P.types.size) (hv : s.vars = []) (hrt : f.resultTypes = #[tb]) (htb : P.underlying tb = some .bool)
    (hW : DataW.Whole enc P f.params.toList s.vars false W args.toList ds gs before) (hfn : s.fn H (ds ++ gs) = { results := [.lit (.bool true)], args := ds })
    (hb : Below W.heap.size W W') : s.post enc P f false true false false W args (.bool true) W' := by
  have hlt : ∀ p ∈ before, p.block < W.heap.size := fun p hp => hW.lt p hp
  have hW' := hW
  obtain ⟨p, q, hA, hV, rfl, _, _⟩ := hW
  rw [hv] at hV
  obtain ⟨rfl, rfl⟩ := trodVars_none hV
  refine ⟨ds, [], p ++ [], [], p, [], hW', ?_, ?_, ?_, World.keptBut_mono (fun x hx => ⟨hx, .inr (.inl (by simpa using hx))⟩) (hb.frame (· ∈ p ++ [])), fun h => by cases h⟩
  · rw [hfn, hrt]
    exact trodAll_mk1 (shut_bool htb true)
  · rw [hfn]
    exact trodAll_later hl hb _ _ _ _ hts hA (fun x hx => hlt x (by simp [hx]))
  · rw [hfn, hv]
    simp [DataW.TrodVars]

end
theorem wf64 {a : Int} (h : (Lit.int .i64 a).wf = true) : -9223372036854775808 ≤ a ∧ a ≤ 9223372036854775807 := by
  simpa [Lit.wf, IntKind.min, IntKind.max, IntKind.signed, IntKind.bits] using h
theorem wfu64 {a : Int} (h : (Lit.int .u64 a).wf = true) : ∃ n : Nat, a = n ∧ n < 18446744073709551616 := by
  have h2 : 0 ≤ a ∧ a ≤ 18446744073709551615 := by simpa [Lit.wf, IntKind.min, IntKind.max, IntKind.signed, IntKind.bits] using h
  exact ⟨a.toNat, by omega, by omega⟩
end

/- Arguments that are slices of plain data, or structs of them, opened: rows of any elements, and how much they weigh. -/
section
open Go.RowKit Go.ChangeShapes Go.WideShapes Go.ChangeAt
set_option maxRecDepth 100000

section
variable {H : Type} {enc : TypeId × Value → H} {P : Program} {W : World}

/-- what a datum weighs is within reach -/
def Light (P : Program) (t : TypeId) (d : DataW H) : Prop := ∀ n ∈ d.weights P t, n ≤ 140737488351232
theorem light_of {ts : List TypeId} {ds : List (DataW H)} (h : (DataW.weightsEach P ts ds).all (· ≤ reachBytes) = true) {j : Nat} {t : TypeId} {d : DataW H} (ht : ts[j]? = some t) (hd : ds[j]? = some d) : Light P t d := fun n hn => by
  have := List.all_eq_true.1 h _ (DataW.weights_mem_each ht hd n hn)
  have h2 : n ≤ reachBytes := by simpa using this
  exact h2
theorem weightsAll_mem {e : TypeId} {ds : List (DataW H)} {d : DataW H} (h : d ∈ ds) {n : Nat} (hn : n ∈ d.weights P e) : n ∈ DataW.weightsAll P e ds := by
  induction ds with
  | nil => simp at h
  | cons x r ih =>
    simp only [DataW.weightsAll, List.mem_append]
    rcases List.mem_cons.1 h with rfl | h
    · exact .inl hn
    · exact .inr (ih h)
theorem Light.slice {t e : TypeId} {elems spare : List (DataW H)} (ht : P.underlying t = some (.slice e)) (h : Light P t (.slice elems spare)) : (elems.length + spare.length) * P.bytesOf e ≤ 140737488351232 ∧ (∀ d ∈ elems, Light P e d) ∧ ∀ d ∈ spare, Light P e d := by
  unfold Light at *
  simp only [DataW.weights, ht] at h
  refine ⟨h _ (by simp), fun d hd n hn => h n ?_, fun d hd n hn => h n ?_⟩
  · exact List.mem_cons_of_mem _ (List.mem_append_left _ (weightsAll_mem hd hn))
  · exact List.mem_cons_of_mem _ (List.mem_append_right _ (weightsAll_mem hd hn))
/-- cells behind cells are read -/
theorem reads_append {ad : Addr} {xs ys : List Value} (h1 : ∀ j u, xs[j]? = some u → W.cell? (ad.add j) = some u) (h2 : ∀ j u, ys[j]? = some u → W.cell? ((ad.add xs.length).add j) = some u) :
    ∀ j u, (xs ++ ys)[j]? = some u → W.cell? (ad.add j) = some u := by
  intro j u hu
  rcases Nat.lt_or_ge j xs.length with h | h
  · rw [List.getElem?_append_left h] at hu
    exact h1 j u hu
  · rw [List.getElem?_append_right h] at hu
    have := h2 _ u hu
    rwa [add_add, show xs.length + (j - xs.length) = j by omega] at this

/-- a row of elements of any kind, of 'size' cells each -/
theorem open_rows {R : Type} [Inhabited R] {t e : TypeId} {size bytes fuel : Nat} {cs : List Value} {x : DataW H × List MemPlace} {cells : R → List Value} {OK : R → Prop}
    (ht : P.underlying t = some (.slice e)) (hsz : P.cellsOf e = size) (hby : P.bytesOf e = bytes) (hpos : 0 < size)
    (he : ∀ n cs' x', DataW.trod enc P W 0 (fun _ => true) true n e cs' = some x' → Light P e x'.1 → ∃ r, cs' = cells r ∧ OK r)
    (h : DataW.trod enc P W 0 (fun _ => true) true fuel t cs = some x) (hw : Light P t x.1) :
    ∃ A l c, ∃ rs : List R, cs = [.slice A l c] ∧ rs.length = l ∧ Rd W W.heap.size A (rs.flatMap cells) ∧ (∀ r ∈ rs, OK r) ∧ l ≤ c ∧ c * bytes ≤ 140737488351232 := by
  rcases Go.Deep.open_slice ht h with ⟨rfl, _⟩ | ⟨a, len, cap, m, n, D, Pl, rfl, hb, hl, hm, hmm, rfl, hx⟩
  · exact ⟨none, 0, 0, [], rfl, rfl, .inl rfl, fun r hr => by simp at hr, Nat.le_refl _, by omega⟩
  simp only [if_true] at hmm
  subst hmm
  rw [hsz] at hx
  obtain ⟨w1, w2, w3⟩ := Light.slice ht hw
  simp only [List.length_map, List.length_range] at w1
  rw [show len + (m - len) = m by omega, hby] at w1
  have hlight : ∀ i, i < m → Light P e (D i) := fun i hi => by
    rcases Nat.lt_or_ge i len with h | h
    · exact w2 _ (List.mem_map.2 ⟨i, List.mem_range.2 h, rfl⟩)
    · refine w3 _ (List.mem_map.2 ⟨i - len, List.mem_range.2 (by omega), ?_⟩)
      show D (len + (i - len)) = D i
      rw [show len + (i - len) = i by omega]
  obtain ⟨r, hr⟩ := Go.Deep.choose_lt (α := R) (p := fun i r => W.cells? 0 (a.add (i * size)) size = some (cells r) ∧ OK r) (fun i hi => by
    obtain ⟨cs', h1, h2⟩ := hx i hi
    obtain ⟨r, rfl, hok⟩ := he _ _ _ h2 (hlight i hi)
    exact ⟨r, h1, hok⟩)
  have key : ∀ k, k ≤ m → (((List.range k).map r).flatMap cells).length = k * size ∧ ∀ j u, (((List.range k).map r).flatMap cells)[j]? = some u → W.cell? (a.add j) = some u := by
    intro k
    induction k with
    | zero => intro _; exact ⟨by simp, fun j u hu => by simp at hu⟩
    | succ k ih =>
      intro hk
      obtain ⟨i1, i2⟩ := ih (by omega)
      obtain ⟨h1, _⟩ := hr k (by omega)
      obtain ⟨_, hlen, hcell⟩ := World.cells?_some h1
      rw [List.range_succ, List.map_append, List.flatMap_append]
      simp only [List.map_cons, List.map_nil, List.flatMap_cons, List.flatMap_nil, List.append_nil]
      refine ⟨by rw [List.length_append, i1, hlen]; rw [Nat.succ_mul], reads_append i2 fun j u hu => ?_⟩
      rw [i1]
      have hj : j < size := by rw [← hlen]; exact (List.getElem?_eq_some_iff.1 hu).1
      rw [hcell j hj]
      exact hu
  refine ⟨some a, len, m, (List.range len).map r, rfl, by simp, ?_, ?_, hl, w1⟩
  · rcases Nat.eq_zero_or_pos len with rfl | h0
    · exact .inl (by simp)
    · refine .inr ⟨a, rfl, ?_, (key len hl).2⟩
      have hne : 0 < (((List.range len).map r).flatMap cells).length := by rw [(key len hl).1]; exact Nat.mul_pos h0 hpos
      have := World.block_lt_of_cell? W _ ((key len hl).2 0 _ (List.getElem?_eq_getElem hne))
      rwa [add_block] at this
  · intro q hq
    obtain ⟨i, hi, rfl⟩ := List.mem_map.1 hq
    exact (hr i (by have := List.mem_range.1 hi; omega)).2

end
end

/- The closing rule for rows that list variables and lean on the world's shape. -/
section
open Go.RowKit Go.ChangeShapes Go.WideShapes Go.ChangeAt
set_option maxRecDepth 100000

/-- as the library's closing rule for rows with a condition on the world, the world's shape handed on -/
theorem returns_shaped_and {H : Type} {enc : TypeId × Value → H} {a : Assume} {C : Checked} {os : Os} {f : FuncId} {fn : Func} {s : ChangeSpec} {conds : List PathCond} {apart fresh handsOn again : Bool} {X : World → Array Value → Prop}
    (hX : ∀ (w w' : World) (args : Array Value), w.heap = w'.heap → X w args → X w' args)
    (own : ownKnob C.prog.godebug = none) (started : os.Started) (noInit : C.prog.inits.idxOf? f = none) (hfn : C.prog.funcs[f]? = some fn)
    (witness : ∃ (w : World) (tape : Tape) (i : Input), w.os = os ∧ (w.forCall tape i).Shaped C.prog ∧ i.vars = [] ∧ Input.okWide C.prog (w.forCall tape i) .any w.heap.size f i ∧
      ((s.pre enc C.prog fn conds apart (w.forCall tape i).memory i.args ∧ X (w.forCall tape i).memory i.args) ∧ sizedMet enc C.prog fn (OpenSpec.ofChange s) apart (w.forCall tape i).memory i.args) ∧ a.holds C.prog (lone (Frame.enter C.prog f i.args .normal) [] (w.forCall tape i)))
    (contract : ∀ (W : World) (base : Nat) (args : Array Value) (ds gs : List (DataW H)) (before : List MemPlace),
      (∀ (j : Nat) t v, fn.params[j]? = some t → args[j]? = some v → Value.okWide C.prog W .any base t v) →
      DataW.Whole enc C.prog fn.params.toList s.vars apart W args.toList ds gs before →
      (DataW.weightsEach C.prog (fn.params.toList ++ s.plain.varTypes C.prog) (ds ++ gs)).all (· ≤ reachBytes) = true → X W args → W.ShapedOpen C.prog →
      Calls C.prog f args W fun e W' => ∃ v, e = .returned v ∧ s.post enc C.prog fn apart fresh handsOn again W args v W') :
    ReturnsInHanded a C os f .any (fun w args => (s.pre enc C.prog fn conds apart w args ∧ X w args) ∧ sizedMet enc C.prog fn (OpenSpec.ofChange s) apart w args) (s.post enc C.prog fn apart fresh handsOn again) := by
  refine returnsInHanded_of_calls own started noInit witness ?_
  intro w tape i _ hsh _ hok hpre _
  obtain ⟨_, _, _, fn', hfn', _, _, _, _, hval⟩ := hok
  have e : fn' = fn := Option.some.inj (hfn'.symm.trans hfn)
  subst e
  obtain ⟨⟨⟨ds, gs, before, hw, _⟩, hx⟩, hz⟩ := hpre
  have hw' := DataW.Whole.of_heap (w' := w.forCall tape i) (by rfl) hw
  refine (contract (w.forCall tape i) w.heap.size i.args ds gs before hval hw' (hz.weights hw) (hX _ _ _ (by rfl) hx) hsh).mono fun e W' ⟨v, he, hp⟩ => ?_
  subst he
  exact ChangeSpec.post_blind hp
end

/- Arguments that are rows of texts, of acts, of truths, opened. -/
section
open Go.RowKit Go.ChangeShapes Go.WideShapes Go.ChangeAt
set_option maxRecDepth 100000

/-- an act -/
structure Act7 where
  d : Int
  s : ByteArray
  n : Int
  m : Int
instance : Inhabited Act7 := ⟨⟨0, ⟨#[]⟩, 0, 0⟩⟩
section
variable {H : Type} {enc : TypeId × Value → H} {W : World}
end
end

/- Layer 16's arguments that are rows of acts, opened. -/
section
open Go.RowKit Go.ChangeShapes Go.WideShapes Go.ChangeAt
set_option maxRecDepth 100000

theorem u64n_wf16 {a : Int} (h : (Lit.int .u64 a).wf = true) : U64n a := by
  obtain ⟨n, rfl, h2⟩ := wfu64 h
  exact ⟨Int.natCast_nonneg n, by omega⟩
section
variable {H : Type} {enc : TypeId × Value → H} {W : World}
theorem open_act7_cells {fuel : Nat} {cs : List Value} {x : DataW H × List MemPlace} (h : DataW.trod enc Tryz.prog W 0 (fun _ => true) true fuel 34 cs = some x) :
    ∃ t : Ac7, cs = t.cells ∧ t.Fine := by
  obtain ⟨xs, n, _, rfl, hl, hlen, hf⟩ := DataW.trod_struct Tryz.underlying34 h
  have h2 : Tryz.prog.cellsOf 34 = 7 := by kernel_rfl
  rw [h2] at hl
  match cs, hl with
  | [v0, v1, v2, v3, v4, v5, v6], _ =>
    simp only [Array.size] at hlen
    match xs, hlen with
    | [y0, y1, y2, y3, y4, y5, y6], _ =>
      have c1 : Tryz.prog.cellsOf 3 = 1 := by kernel_rfl
      have c2 : Tryz.prog.cellsOf 32 = 1 := by kernel_rfl
      have c3 : Tryz.prog.cellsOf 4 = 1 := by kernel_rfl
      have c4 : Tryz.prog.cellsOf 9 = 1 := by kernel_rfl
      have e0 : DataW.trod enc Tryz.prog W 0 (fun _ => true) true n 3 (([v0, v1, v2, v3, v4, v5, v6].drop 0).take (Tryz.prog.cellsOf 3)) = some y0 := hf 0 _ rfl
      have e1 : DataW.trod enc Tryz.prog W 0 (fun _ => true) true n 3 (([v0, v1, v2, v3, v4, v5, v6].drop 1).take (Tryz.prog.cellsOf 3)) = some y1 := hf 1 _ rfl
      have e2 : DataW.trod enc Tryz.prog W 0 (fun _ => true) true n 3 (([v0, v1, v2, v3, v4, v5, v6].drop 2).take (Tryz.prog.cellsOf 3)) = some y2 := hf 2 _ rfl
      have e3 : DataW.trod enc Tryz.prog W 0 (fun _ => true) true n 3 (([v0, v1, v2, v3, v4, v5, v6].drop 3).take (Tryz.prog.cellsOf 3)) = some y3 := hf 3 _ rfl
      have e4 : DataW.trod enc Tryz.prog W 0 (fun _ => true) true n 32 (([v0, v1, v2, v3, v4, v5, v6].drop 4).take (Tryz.prog.cellsOf 32)) = some y4 := hf 4 _ rfl
      have e5 : DataW.trod enc Tryz.prog W 0 (fun _ => true) true n 4 (([v0, v1, v2, v3, v4, v5, v6].drop 5).take (Tryz.prog.cellsOf 4)) = some y5 := hf 5 _ rfl
      have e6 : DataW.trod enc Tryz.prog W 0 (fun _ => true) true n 9 (([v0, v1, v2, v3, v4, v5, v6].drop 6).take (Tryz.prog.cellsOf 9)) = some y6 := hf 6 _ rfl
      rw [c1] at e0 e1 e2 e3
      rw [c2] at e4
      rw [c3] at e5
      rw [c4] at e6
      obtain ⟨a0, h10, _, g0⟩ := DataW.trod_int (k := .i64) Tryz.underlying3 (show DataW.trod enc Tryz.prog W 0 (fun _ => true) true n 3 [v0] = some y0 from e0)
      obtain ⟨a1, h11, _, g1⟩ := DataW.trod_int (k := .i64) Tryz.underlying3 (show DataW.trod enc Tryz.prog W 0 (fun _ => true) true n 3 [v1] = some y1 from e1)
      obtain ⟨a2, h12, _, g2⟩ := DataW.trod_int (k := .i64) Tryz.underlying3 (show DataW.trod enc Tryz.prog W 0 (fun _ => true) true n 3 [v2] = some y2 from e2)
      obtain ⟨a3, h13, _, g3⟩ := DataW.trod_int (k := .i64) Tryz.underlying3 (show DataW.trod enc Tryz.prog W 0 (fun _ => true) true n 3 [v3] = some y3 from e3)
      obtain ⟨a4, h14, _, g4⟩ := DataW.trod_int (k := .u64) Tryz.underlying32 (show DataW.trod enc Tryz.prog W 0 (fun _ => true) true n 32 [v4] = some y4 from e4)
      obtain ⟨a5, h15, _⟩ := DataW.trod_bool Tryz.underlying4 (show DataW.trod enc Tryz.prog W 0 (fun _ => true) true n 4 [v5] = some y5 from e5)
      obtain ⟨a6, h16, _, _⟩ := DataW.trod_string Tryz.underlying9 (show DataW.trod enc Tryz.prog W 0 (fun _ => true) true n 9 [v6] = some y6 from e6)
      simp only [List.cons.injEq, and_true] at h10 h11 h12 h13 h14 h15 h16
      subst h10 h11 h12 h13 h14 h15 h16
      exact ⟨⟨a0, a1, a2, a3, a4, a5, a6⟩, rfl, ⟨wf64 g0, wf64 g1, wf64 g2, wf64 g3, u64n_wf16 g4⟩⟩

theorem open_act7s {r : Reach} {b0 : Nat} {v : Value} {d : DataW H} {ps : List MemPlace} (hval : Value.okWide Tryz.prog W r b0 22 v) (h : DataW.Trod enc Tryz.prog W 0 (fun _ => true) true 22 v d ps) (hw : Light Tryz.prog 22 d) :
    ∃ A l c ts, v = .slice A l c ∧ AG W A l ts ∧ ∀ t ∈ ts, t.Fine := by
  obtain ⟨a, l, c, rfl⟩ := okWide_slice Tryz.underlying22 hval
  obtain ⟨fuel, hf⟩ := h
  obtain ⟨A, l', c', ts, hcs, hl, hr, hok, hlc, hm⟩ := open_rows (R := Ac7) (cells := Ac7.cells) (size := 7) (bytes := 64) (OK := Ac7.Fine) Tryz.underlying22 (by kernel_rfl) (by kernel_rfl) (by omega)
    (fun n cs' x' h' _ => open_act7_cells h') hf hw
  have hcs' : [Value.slice a l c] = [Value.slice A l' c'] := hcs
  simp only [List.cons.injEq, Value.slice.injEq, and_true] at hcs'
  obtain ⟨rfl, rfl, rfl⟩ := hcs'
  exact ⟨a, l, c, ts, rfl, ⟨hl, hr⟩, hok⟩
end
end

/- Arguments that are tokens, and rows of tokens, opened; a row's world: what the library's variables hold; the closing rule for rows that list variables and lean on the world's shape. -/
section
open Go.RowKit Go.ChangeShapes Go.WideShapes Go.ChangeAt
set_option maxRecDepth 100000

section
variable {H : Type} {enc : TypeId × Value → H} {W : World}
end

theorem lw_of_shaped {W : World} (h : W.ShapedOpen Tryz.prog) : Lw W :=
  Go.Proofs.cell_of_shapedOpen_int (zero := #[.int .i64 0]) (t := 3) h (of_decide_eq_true (by kernel_rfl)) (by kernel_rfl) rfl (by kernel_rfl) (by kernel_rfl) Tryz.underlying3
end
end Go.Proofs.YtdhnpmagapbmhaaGreatDoor
