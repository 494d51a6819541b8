/-
  ViewLost, of layer 14: the walk, out of what is asked of the project's view.
-/
import Derived.Test.YtpmkaceeomnijaaViA
import Derived.Test.YtpmkaceeomnijaaReg5
namespace Go.Proofs.Ytpmkaceeomnijaa
open Go.RowKit
set_option maxRecDepth 100000

theorem Solo.make2 {w0 w w' : World} {X : Thing} {N S : Nat → Prop} (hl : Below w0.heap.size w0 w) (hn : ∀ k, N k → k < w.heap.size) (hx : X.p S w') (hS : ∀ k, S k → w.heap.size ≤ k) (hb : Below w.heap.size w w') : Solo w0 X N w' := by
  have hz := hl.size
  exact ⟨⟨S, hx, fun k hk => ⟨by have := hS k hk; omega, fun h => by have := hS k hk; have := hn k h; omega⟩⟩, hl.trans (hb.mono hz), fun k h => Nat.lt_of_lt_of_le (hn k h) hb.size⟩
set_option maxHeartbeats 32000000 in
theorem viewlost_walk {X : Nat → Vw → Thing} (C : ViewC X) (pr : Int) (A1 : Option Addr) (l1 c1 : Nat) (ts : List Pm) (te tp : Int) (W : World) (hpr : IsI pr) (r1 : PMR W A1 l1 ts) (hy : ∀ x ∈ ts, IsU x.e ∧ IsU x.c ∧ IsI x.p) (hte : IsU te) (htp : IsU tp) :
    Calls Try.prog 4 #[.int .i64 pr, .slice A1 l1 c1, .agg #[.int .u64 te, .int .u64 tp]] W fun e w' => e = .returned (.bool true) ∧ Below W.heap.size W w' := by
  have HC := Lib.hid C
  obtain ⟨w0, hw0⟩ : ∃ u, W.alloc (.cells #[.int .u64 te, .int .u64 tp] 25) = u := ⟨_, rfl⟩
  obtain ⟨tb, htb⟩ : ∃ x, W.heap.size = x := ⟨_, rfl⟩
  have k0 : Below W.heap.size W w0 := hw0 ▸ kp_new _ _
  have b0 : w0.heap[tb]? = some (.cells #[.int .u64 te, .int .u64 tp] 25 (0, 0)) := by rw [← htb, ← hw0]; exact heap_alloc_new W _
  have hz0 : tb < w0.heap.size := (Array.getElem?_eq_some_iff.1 b0).1
  have HAW := Lib.hid (awake14_ok C w0)
  have R1 := Lib.hid r1
  have HL := Lib.hid r1.len
  have HY := Lib.hid hy
  have HPR := Lib.hid hpr
  have HU := Lib.hid (And.intro hte htp)
  have HW0 := Lib.hid hw0
  have HK0 := Lib.hid k0
  have HB0 := Lib.hid b0
  have HTB := Lib.hid htb
  clear r1 C hy hpr hte htp hw0 k0 b0 htb
  have HKR : Hid (∀ (i : Nat) (u : World), KeepT i u u) := Lib.hid fun _ _ => trivial
  go_enter Try.func4, Try.ntmps4
  go_wp2_with fail
  rw [HW0.out, HTB.out]
  refine HAW.out.mono ?_
  rintro e w1 ⟨rfl, k1⟩
  have HK1 := Lib.hid (HK0.out.trans (k1.mono HK0.out.size))
  have HB1 := Lib.hid (keepO HB0.out k1)
  clear HAW HW0 HK0 HB0 k1 hz0
  by_cases hbig : 100 < l1
  · have hb2 : (100 : Int) < (l1 : Int) := by omega
    go_wp2_with fail
    go_ret
    exact ⟨rfl, HK1.out⟩
  have hb2 : ¬ (100 : Int) < (l1 : Int) := by omega
  have hl1 : l1 ≤ 100 := by omega
  have HT := Lib.hid (HC.out.new pr w1 HPR.out)
  have HV0 := Lib.hid (VwI.new HPR.out)
  clear hbig
  go_wp2_with fail
  refine HT.out.mono ?_
  rintro e w2 ⟨b, rfl, ⟨S, x2, y2⟩, k2⟩
  have HB2 := Lib.hid (keepO HB1.out k2)
  have HS2 : Hid (Solo W (X b (newVw pr)) (fun k => k = tb ∨ noneB k) w2) := Lib.hid (Solo.make2 HK1.out (fun k hk => by
    rcases hk with rfl | hk
    · exact (Array.getElem?_eq_some_iff.1 HB1.out).1
    · exact hk.elim) x2 y2 k2)
  obtain ⟨y0, _⟩ := cellsAt HB2.out 1 (v := .int .u64 tp) rfl
  clear HT x2 y2 k2 HK1 HB1
  go_wp2_with fail
  go_loopw [8, 9, 27] (fun ev lv i wr => ∃ (k : Nat) (v : Vw), k ≤ l1 ∧ i = .int .i64 k ∧ ev = .int .u64 v.ep ∧ lv = .int .u64 (leftF te v.l tp) ∧ v.ep ≤ 1 + 5 * (k : Int) ∧ Hid (VwI k v) ∧ Hid (Solo W (X b v) (fun k => k = tb ∨ noneB k) wr) ∧ Hid (wr.heap[tb]? = some (.cells #[.int .u64 te, .int .u64 tp] 25 (0, 0)))) (fun _ _ i _ => l1 - (intOf i).toNat)
  case atStart => exact ⟨0, newVw pr, Nat.zero_le _, rfl, rfl, rfl, Int.le_refl _, HV0, HS2, HB2⟩
  case round =>
    obtain ⟨k, v, hk, rfl, rfl, rfl, hek, hv, hs, hbt⟩ := hrel
    clear HV0 HS2 HB2 y0
    by_cases hlt : k < l1
    · have hkl : k < ts.length := by rw [HL.out]; exact hlt
      obtain ⟨ad, rfl, _, hcc⟩ := R1.out.at_ hkl
      obtain ⟨x0, x1, x2⟩ := hcc wr hs.out.low
      obtain ⟨g1, g2, g3⟩ := HY.out ts[k] (List.getElem_mem hkl)
      clear hcc
      generalize ts[k] = t at *
      have hsx := hs.out.mark (.cells #[.int .u64 t.e, .int .u64 t.c, .int .i64 t.p] 45 (0, 0))
      have hba := heap_alloc_new wr (.cells #[.int .u64 t.e, .int .u64 t.c, .int .i64 t.p] 45 (0, 0))
      have hbx := keepO hbt.out (kp_new wr (.cells #[.int .u64 t.e, .int .u64 t.c, .int .i64 t.p] 45 (0, 0)))
      obtain ⟨wx, hwx⟩ : ∃ u, wr.alloc (.cells #[.int .u64 t.e, .int .u64 t.c, .int .i64 t.p] 45 (0, 0)) = u := ⟨_, rfl⟩
      rw [hwx] at hsx hba hbx
      obtain ⟨pb, hpb⟩ : ∃ X, X = wr.heap.size := ⟨_, rfl⟩
      rw [← hpb] at hsx hba
      have hep1 := hv.out.e1
      have hrm : t.e % 5 = t.e.tmod 5 := (Int.tmod_eq_emod_of_nonneg g1.1).symm
      obtain ⟨en, hen⟩ : ∃ x, v.ep + (t.e.tmod 5 + 1) = x := ⟨_, rfl⟩
      have hq0 : 0 ≤ t.e.tmod 5 ∧ t.e.tmod 5 < 5 := by omega
      have hw1 : IntKind.u64.wrap (t.e.tmod 5 + 1) = t.e.tmod 5 + 1 := by rw [IntKind.wrap_u64]; omega
      have hw2 : IntKind.u64.wrap (v.ep + (t.e.tmod 5 + 1)) = en := by rw [IntKind.wrap_u64]; omega
      have hlv : v.ep < en := by omega
      have hue : IsU en := ⟨by omega, by omega⟩
      have HV2 := Lib.hid (hv.out.learn (m := ⟨en, t.c, t.p⟩) hue g2 g3)
      have HLC : learnC v ⟨en, t.c, t.p⟩ = ⟨en, t.p, v.l ++ [(en, t.c)]⟩ := if_pos hlv
      rw [HLC] at HV2
      have HLF : Hid (leftF te (v.l ++ [(en, t.c)]) tp = if te < en ∧ t.c < leftF te v.l tp then t.c else leftF te v.l tp) := Lib.hid (leftF_append te v.l (en, t.c) tp)
      have HQ : Hid (∀ u, Solo W (X b v) (fun k => k = pb ∨ k = tb ∨ noneB k) u → Calls Try.prog 15 #[.pointer (some ⟨b, 0, none⟩), .int .u64 en, .int .i64 t.p, .int .u64 t.c] u fun e w' => e = .returned (.bool true) ∧ Solo W (X b ⟨en, t.p, v.l ++ [(en, t.c)]⟩) (fun k => k = pb ∨ k = tb ∨ noneB k) w' ∧ ∀ k, (fun k => k = pb ∨ k = tb ∨ noneB k) k → w'.heap[k]? = u.heap[k]?) := Lib.hid fun u hu => by
        have := hu.learn HC.out hv.out (by omega) ⟨en, t.c, t.p⟩ hue g2 g3
        rw [HLC, decide_eq_true hlv] at this
        exact this
      have HE : Hid (en ≤ 1 + 5 * ((k + 1 : Nat) : Int)) := Lib.hid (by omega)
      have HPB := Lib.hid hpb
      have HWX := Lib.hid hwx
      have HXA := Lib.hid hba
      have HXT := Lib.hid hbx
      have HSX := Lib.hid hsx
      obtain ⟨vl, hvl⟩ : ∃ x, v.l ++ [(en, t.c)] = x := ⟨_, rfl⟩
      rw [hvl] at HV2 HLF HQ
      obtain ⟨lf, hlf⟩ : ∃ x, leftF te v.l tp = x := ⟨_, rfl⟩
      rw [hlf] at HLF ⊢
      clear hsx hba hbx hwx hs hbt hpb hep1 hek HLC g1 g2 g3 hvl hlf hv hrm hq0 hen
      go_wp2_with fail
      clear hw1 hw2 x0 x1 x2
      rw [HWX.out, ← HPB.out]
      refine wp_region_specs5 (S := fun L u => Solo W (bif L 6 then (X b ⟨en, t.p, vl⟩) else X b v) (fun k => k = pb ∨ k = tb ∨ noneB k) u ∧ u.heap[pb]? = some (.cells #[.int .u64 t.e, .int .u64 t.c, .int .i64 t.p] 45 (0, 0)) ∧ u.heap[tb]? = some (.cells #[.int .u64 te, .int .u64 tp] 25 (0, 0))) (Kp := KeepT) (Sp := [(37, Sti.eq (.pointer (some ⟨b, 0, none⟩))), (38, Sti.eq (.int .u64 en)), (39, Sti.eq (.pointer (some ⟨pb, 2, none⟩))), (40, Sti.eq (.int .i64 t.p)), (41, Sti.eq (.pointer (some ⟨pb, 1, none⟩))), (42, Sti.eq (.int .u64 t.c)), (43, Sti.eq (.bool true)), (44, Sti.eq (.bool false)), (45, Sti.eq (.bool false)), (46, Sti.eq (.pointer (some ⟨b, 0, none⟩))), (47, Sti.eq (.int .u64 en)), (48, Sti.eq (.int .u64 en)), (49, Sti.eq (.bool false)), (50, Sti.eq (.bool false)), (51, Sti.eq (.bool false)), (52, Sti.eq (.pointer (some ⟨b, 0, none⟩))), (53, Sti.eq (.int .i64 t.p)), (54, Sti.eq (.pointer (some ⟨pb, 2, none⟩))), (55, Sti.eq (.int .i64 t.p)), (56, Sti.eq (.bool false)), (57, Sti.eq (.bool false))]) (by kernel_rfl) (by kernel_rfl) (by kernel_rfl) (⟨HSX.out.next (kp_drewN _ 1), HXA.out, HXT.out⟩) ?_ ?_
      · refine EachOp.cons ?_ ?_
        · intro L a u hL hst hS hdep hq
          have h7 : a.tmps.getD 7 undef = .pointer (some ⟨b, 0, none⟩) := hst.out 7 (by kernel_rfl)
          refine .inl ⟨trivial, ?_⟩
          have g7 := gd h7
          go_simp
          exact Went4.same (HKR.out _ _) hS rfl
        refine EachOp.cons ?_ ?_
        · intro L a u hL hst hS hdep hq
          have h8 : a.tmps.getD 8 undef = .int .u64 en := hst.out 8 (by kernel_rfl)
          refine .inl ⟨trivial, ?_⟩
          have g8 := gd h8
          go_simp
          exact Went4.same (HKR.out _ _) hS rfl
        refine EachOp.cons ?_ ?_
        · intro L a u hL hst hS hdep hq
          have h11 : a.tmps.getD 11 undef = .pointer (some ⟨pb, 0, none⟩) := hst.out 11 (by kernel_rfl)
          refine .inl ⟨trivial, ?_⟩
          have g11 := gd h11
          go_simp
          exact Went4.same (HKR.out _ _) hS rfl
        refine EachOp.cons ?_ ?_
        · intro L a u hL hst hS hdep hq
          have h39 : a.tmps.getD 39 undef = .pointer (some ⟨pb, 2, none⟩) := hdep 39 (by kernel_rfl)
          refine .inl ⟨trivial, ?_⟩
          have g39 := gd h39
          obtain ⟨c2, _⟩ := cellsAt hS.2.1 2 (v := .int .i64 t.p) rfl
          obtain ⟨c1, _⟩ := cellsAt hS.2.1 1 (v := .int .u64 t.c) rfl
          go_simp
          exact Went4.same (HKR.out _ _) hS rfl
        refine EachOp.cons ?_ ?_
        · intro L a u hL hst hS hdep hq
          have h11 : a.tmps.getD 11 undef = .pointer (some ⟨pb, 0, none⟩) := hst.out 11 (by kernel_rfl)
          refine .inl ⟨trivial, ?_⟩
          have g11 := gd h11
          go_simp
          exact Went4.same (HKR.out _ _) hS rfl
        refine EachOp.cons ?_ ?_
        · intro L a u hL hst hS hdep hq
          have h41 : a.tmps.getD 41 undef = .pointer (some ⟨pb, 1, none⟩) := hdep 41 (by kernel_rfl)
          refine .inl ⟨trivial, ?_⟩
          have g41 := gd h41
          obtain ⟨c2, _⟩ := cellsAt hS.2.1 2 (v := .int .i64 t.p) rfl
          obtain ⟨c1, _⟩ := cellsAt hS.2.1 1 (v := .int .u64 t.c) rfl
          go_simp
          exact Went4.same (HKR.out _ _) hS rfl
        refine EachOp.cons ?_ ?_
        · intro L a u hL hst hS hdep hq
          have h37 : a.tmps.getD 37 undef = .pointer (some ⟨b, 0, none⟩) := hdep 37 (by kernel_rfl)
          have h38 : a.tmps.getD 38 undef = .int .u64 en := hdep 38 (by kernel_rfl)
          have h40 : a.tmps.getD 40 undef = .int .i64 t.p := hdep 40 (by kernel_rfl)
          have h42 : a.tmps.getD 42 undef = .int .u64 t.c := hdep 42 (by kernel_rfl)
          refine .inl ⟨trivial, ?_⟩
          have g37 := gd h37
          have g38 := gd h38
          have g40 := gd h40
          have g42 := gd h42
          go_simp
          have hS1 := hS.1
          rw [hL] at hS1
          dsimp only [cond_false] at hS1
          refine (HQ.out u hS1).mono ?_
          rintro e u' ⟨rfl, s', hk'⟩
          exact Went4.next ⟨s', (hk' pb (.inl rfl)).trans hS.2.1, (hk' tb (.inr (.inl rfl))).trans hS.2.2⟩ trivial rfl
        refine EachOp.cons ?_ ?_
        · intro L a u hL hst hS hdep hq
          have h43 : a.tmps.getD 43 undef = .bool true := hdep 43 (by kernel_rfl)
          refine .inl ⟨trivial, ?_⟩
          have g43 := gd h43
          go_simp
          exact Went4.same (HKR.out _ _) hS rfl
        refine EachOp.cons ?_ ?_
        · intro L a u hL hst hS hdep hq
          have h44 : a.tmps.getD 44 undef = .bool false := hdep 44 (by kernel_rfl)
          refine .inl ⟨trivial, ?_⟩
          have g44 := gd h44
          go_simp
          exact Went4.same (HKR.out _ _) hS rfl
        refine EachOp.cons ?_ ?_
        · intro L a u hL hst hS hdep hq
          have h7 : a.tmps.getD 7 undef = .pointer (some ⟨b, 0, none⟩) := hst.out 7 (by kernel_rfl)
          have h45 : a.tmps.getD 45 undef = .bool false := hdep 45 (by kernel_rfl)
          refine .inl ⟨⟨45, by kernel_rfl, h45⟩, ?_⟩
          clear h45
          have g7 := gd h7
          go_simp
          exact Went4.same (HKR.out _ _) hS rfl
        refine EachOp.cons ?_ ?_
        · intro L a u hL hst hS hdep hq
          have h46 : a.tmps.getD 46 undef = .pointer (some ⟨b, 0, none⟩) := hdep 46 (by kernel_rfl)
          have h45 : a.tmps.getD 45 undef = .bool false := hdep 45 (by kernel_rfl)
          refine .inl ⟨⟨45, by kernel_rfl, h45⟩, ?_⟩
          clear h45
          have g46 := gd h46
          go_simp
          have h6 := hq 8 6 (by kernel_rfl)
          have hS1 := hS.1
          rw [h6] at hS1
          dsimp only [cond_true] at hS1
          refine (hS1.epoch HC.out HV2.out).mono ?_
          rintro e u' ⟨rfl, s', hb'⟩
          have s2 : Solo W (bif L 6 then (X b ⟨en, t.p, vl⟩) else X b v) (fun k => k = pb ∨ k = tb ∨ noneB k) u' := by rw [h6]; exact s'
          exact Went4.next ⟨s2, keepO hS.2.1 hb', keepO hS.2.2 hb'⟩ trivial rfl
        refine EachOp.cons ?_ ?_
        · intro L a u hL hst hS hdep hq
          have h8 : a.tmps.getD 8 undef = .int .u64 en := hst.out 8 (by kernel_rfl)
          have h45 : a.tmps.getD 45 undef = .bool false := hdep 45 (by kernel_rfl)
          refine .inl ⟨⟨45, by kernel_rfl, h45⟩, ?_⟩
          clear h45
          have g8 := gd h8
          go_simp
          exact Went4.same (HKR.out _ _) hS rfl
        refine EachOp.cons ?_ ?_
        · intro L a u hL hst hS hdep hq
          have h47 : a.tmps.getD 47 undef = .int .u64 en := hdep 47 (by kernel_rfl)
          have h48 : a.tmps.getD 48 undef = .int .u64 en := hdep 48 (by kernel_rfl)
          have h45 : a.tmps.getD 45 undef = .bool false := hdep 45 (by kernel_rfl)
          refine .inl ⟨⟨45, by kernel_rfl, h45⟩, ?_⟩
          clear h45
          have g47 := gd h47
          have g48 := gd h48
          go_simp
          exact Went4.same (HKR.out _ _) hS rfl
        refine EachOp.cons ?_ ?_
        · intro L a u hL hst hS hdep hq
          have h45 : a.tmps.getD 45 undef = .bool false := hdep 45 (by kernel_rfl)
          have h49 : a.tmps.getD 49 undef = .bool false := hdep 49 (by kernel_rfl)
          refine .inl ⟨trivial, ?_⟩
          have g45 := gd h45
          have g49 := gd h49
          go_simp
          exact Went4.same (HKR.out _ _) hS rfl
        refine EachOp.cons ?_ ?_
        · intro L a u hL hst hS hdep hq
          have h50 : a.tmps.getD 50 undef = .bool false := hdep 50 (by kernel_rfl)
          refine .inl ⟨trivial, ?_⟩
          have g50 := gd h50
          go_simp
          exact Went4.same (HKR.out _ _) hS rfl
        refine EachOp.cons ?_ ?_
        · intro L a u hL hst hS hdep hq
          have h7 : a.tmps.getD 7 undef = .pointer (some ⟨b, 0, none⟩) := hst.out 7 (by kernel_rfl)
          have h51 : a.tmps.getD 51 undef = .bool false := hdep 51 (by kernel_rfl)
          refine .inl ⟨⟨51, by kernel_rfl, h51⟩, ?_⟩
          clear h51
          have g7 := gd h7
          go_simp
          exact Went4.same (HKR.out _ _) hS rfl
        refine EachOp.cons ?_ ?_
        · intro L a u hL hst hS hdep hq
          have h52 : a.tmps.getD 52 undef = .pointer (some ⟨b, 0, none⟩) := hdep 52 (by kernel_rfl)
          have h51 : a.tmps.getD 51 undef = .bool false := hdep 51 (by kernel_rfl)
          refine .inl ⟨⟨51, by kernel_rfl, h51⟩, ?_⟩
          clear h51
          have g52 := gd h52
          go_simp
          have h6 := hq 8 6 (by kernel_rfl)
          have hS1 := hS.1
          rw [h6] at hS1
          dsimp only [cond_true] at hS1
          refine (hS1.primary HC.out HV2.out).mono ?_
          rintro e u' ⟨rfl, s', hb'⟩
          have s2 : Solo W (bif L 6 then (X b ⟨en, t.p, vl⟩) else X b v) (fun k => k = pb ∨ k = tb ∨ noneB k) u' := by rw [h6]; exact s'
          exact Went4.next ⟨s2, keepO hS.2.1 hb', keepO hS.2.2 hb'⟩ trivial rfl
        refine EachOp.cons ?_ ?_
        · intro L a u hL hst hS hdep hq
          have h11 : a.tmps.getD 11 undef = .pointer (some ⟨pb, 0, none⟩) := hst.out 11 (by kernel_rfl)
          have h51 : a.tmps.getD 51 undef = .bool false := hdep 51 (by kernel_rfl)
          refine .inl ⟨⟨51, by kernel_rfl, h51⟩, ?_⟩
          clear h51
          have g11 := gd h11
          go_simp
          exact Went4.same (HKR.out _ _) hS rfl
        refine EachOp.cons ?_ ?_
        · intro L a u hL hst hS hdep hq
          have h54 : a.tmps.getD 54 undef = .pointer (some ⟨pb, 2, none⟩) := hdep 54 (by kernel_rfl)
          have h51 : a.tmps.getD 51 undef = .bool false := hdep 51 (by kernel_rfl)
          refine .inl ⟨⟨51, by kernel_rfl, h51⟩, ?_⟩
          clear h51
          have g54 := gd h54
          obtain ⟨c2, _⟩ := cellsAt hS.2.1 2 (v := .int .i64 t.p) rfl
          obtain ⟨c1, _⟩ := cellsAt hS.2.1 1 (v := .int .u64 t.c) rfl
          go_simp
          exact Went4.same (HKR.out _ _) hS rfl
        refine EachOp.cons ?_ ?_
        · intro L a u hL hst hS hdep hq
          have h53 : a.tmps.getD 53 undef = .int .i64 t.p := hdep 53 (by kernel_rfl)
          have h55 : a.tmps.getD 55 undef = .int .i64 t.p := hdep 55 (by kernel_rfl)
          have h51 : a.tmps.getD 51 undef = .bool false := hdep 51 (by kernel_rfl)
          refine .inl ⟨⟨51, by kernel_rfl, h51⟩, ?_⟩
          clear h51
          have g53 := gd h53
          have g55 := gd h55
          go_simp
          exact Went4.same (HKR.out _ _) hS rfl
        refine EachOp.cons ?_ ?_
        · intro L a u hL hst hS hdep hq
          have h51 : a.tmps.getD 51 undef = .bool false := hdep 51 (by kernel_rfl)
          have h56 : a.tmps.getD 56 undef = .bool false := hdep 56 (by kernel_rfl)
          refine .inl ⟨trivial, ?_⟩
          have g51 := gd h51
          have g56 := gd h56
          go_simp
          exact Went4.same (HKR.out _ _) hS rfl
        exact EachOp.nil
      · intro L a u hLs hst hS hdep
        have h37 : a.tmps.getD 37 undef = .pointer (some ⟨b, 0, none⟩) := hdep 37 (by kernel_rfl)
        have h38 : a.tmps.getD 38 undef = .int .u64 en := hdep 38 (by kernel_rfl)
        have h39 : a.tmps.getD 39 undef = .pointer (some ⟨pb, 2, none⟩) := hdep 39 (by kernel_rfl)
        have h40 : a.tmps.getD 40 undef = .int .i64 t.p := hdep 40 (by kernel_rfl)
        have h41 : a.tmps.getD 41 undef = .pointer (some ⟨pb, 1, none⟩) := hdep 41 (by kernel_rfl)
        have h42 : a.tmps.getD 42 undef = .int .u64 t.c := hdep 42 (by kernel_rfl)
        have h43 : a.tmps.getD 43 undef = .bool true := hdep 43 (by kernel_rfl)
        have h44 : a.tmps.getD 44 undef = .bool false := hdep 44 (by kernel_rfl)
        have h45 : a.tmps.getD 45 undef = .bool false := hdep 45 (by kernel_rfl)
        have h46 : a.tmps.getD 46 undef = .pointer (some ⟨b, 0, none⟩) := hdep 46 (by kernel_rfl)
        have h47 : a.tmps.getD 47 undef = .int .u64 en := hdep 47 (by kernel_rfl)
        have h48 : a.tmps.getD 48 undef = .int .u64 en := hdep 48 (by kernel_rfl)
        have h49 : a.tmps.getD 49 undef = .bool false := hdep 49 (by kernel_rfl)
        have h50 : a.tmps.getD 50 undef = .bool false := hdep 50 (by kernel_rfl)
        have h51 : a.tmps.getD 51 undef = .bool false := hdep 51 (by kernel_rfl)
        have h52 : a.tmps.getD 52 undef = .pointer (some ⟨b, 0, none⟩) := hdep 52 (by kernel_rfl)
        have h53 : a.tmps.getD 53 undef = .int .i64 t.p := hdep 53 (by kernel_rfl)
        have h54 : a.tmps.getD 54 undef = .pointer (some ⟨pb, 2, none⟩) := hdep 54 (by kernel_rfl)
        have h55 : a.tmps.getD 55 undef = .int .i64 t.p := hdep 55 (by kernel_rfl)
        have h56 : a.tmps.getD 56 undef = .bool false := hdep 56 (by kernel_rfl)
        have h57 : a.tmps.getD 57 undef = .bool false := hdep 57 (by kernel_rfl)
        have hfr := hst.frame [(37, .pointer (some ⟨b, 0, none⟩)), (38, .int .u64 en), (39, .pointer (some ⟨pb, 2, none⟩)), (40, .int .i64 t.p), (41, .pointer (some ⟨pb, 1, none⟩)), (42, .int .u64 t.c), (43, .bool true), (44, .bool false), (45, .bool false), (46, .pointer (some ⟨b, 0, none⟩)), (47, .int .u64 en), (48, .int .u64 en), (49, .bool false), (50, .bool false), (51, .bool false), (52, .pointer (some ⟨b, 0, none⟩)), (53, .int .i64 t.p), (54, .pointer (some ⟨pb, 2, none⟩)), (55, .int .i64 t.p), (56, .bool false), (57, .bool false)] (by kernel_rfl) ⟨h37, h38, h39, h40, h41, h42, h43, h44, h45, h46, h47, h48, h49, h50, h51, h52, h53, h54, h55, h56, h57, trivial⟩
        clear hst hdep h37 h38 h39 h40 h41 h42 h43 h44 h45 h46 h47 h48 h49 h50 h51 h52 h53 h54 h55 h56 h57
        subst hfr
        simp only [List.foldl_cons, List.foldl_nil, List.setIfInBounds_toArray, List.set_cons_zero, List.set_cons_succ]
        have h6 := hLs 6 (by kernel_rfl)
        have hS1 := hS.1
        rw [h6] at hS1
        dsimp only [cond_true] at hS1
        have HSU := Lib.hid hS1
        obtain ⟨p1, _⟩ := cellsAt hS.2.1 1 (v := .int .u64 t.c) rfl
        obtain ⟨t0, _⟩ := cellsAt hS.2.2 0 (v := .int .u64 te) rfl
        obtain ⟨t1, _⟩ := cellsAt hS.2.2 1 (v := .int .u64 tp) rfl
        have HBU := Lib.hid hS.2.2
        clear hS hS1 h6 hLs HQ HXA HXT HSX
        have HBR := Lib.hid (HSU.out.brings HC.out HV2.out (by omega) ⟨te, tp⟩ HU.out.1 HU.out.2)
        obtain ⟨wq, hwq⟩ : ∃ x, x = u := ⟨u, rfl⟩
        subst hwq
        by_cases hcut : te < en
        · obtain ⟨ln, hmn, hln⟩ : ∃ x : Int, (∀ (u : World) (ts : Array TypeId) (ty : TypeId), (Builtin.min_ ts ty #[.int .u64 lf, .int .u64 t.c]).run Try.prog u = .ok (.int .u64 x) u) ∧ x = (if t.c < lf then t.c else lf) := ⟨_, fun u ts ty => run_min_int2 (P := Try.prog) (w := u) ts ty .u64 .u64 lf t.c, rfl⟩
          have HLN : Hid (leftF te vl tp = ln) := Lib.hid (by
            rw [HLF.out, hln]
            by_cases h : t.c < lf
            · rw [if_pos ⟨hcut, h⟩, if_pos h]
            · rw [if_neg (fun x => h x.2), if_neg h])
          have f1 : bringF ⟨en, t.p, vl⟩ ⟨te, tp⟩ = ⟨en, ln⟩ := by
            have h := HLN.out
            unfold bringF
            dsimp only
            rw [if_neg (by omega), h]
          have f2 : bringB ⟨en, t.p, vl⟩ ⟨te, tp⟩ = (ln == tp) := by
            have h := HLN.out
            unfold bringB
            dsimp only
            rw [h]
            exact decide_eq_decide.2 ⟨fun x => x.resolve_left (by omega), .inr⟩
          rw [f1, f2] at HBR
          have hue : IsU en := HV2.out.eu
          have hul : IsU ln := by
            have := (HV2.out.bring (t := ⟨te, tp⟩) HU.out.1 HU.out.2).2
            rw [f1] at this
            exact this
          have HUE := Lib.hid (And.intro hue hul)
          obtain ⟨z, hz⟩ : ∃ x, (ln == tp) = x := ⟨_, rfl⟩
          rw [hz] at HBR
          unfold Tk14.v at HBR
          dsimp only at HBR
          have hle : ¬ en ≤ te := by omega
          clear f1 f2 hln hue hul
          go_wp2_with fail
          refine HBR.out.mono ?_
          rintro e w5 ⟨rfl, s5, k5⟩
          clear HBR
          obtain ⟨t2, _⟩ := cellsAt (keepO HBU.out k5) 0 (v := .int .u64 te) rfl
          obtain ⟨t3, _⟩ := cellsAt (keepO HBU.out k5) 1 (v := .int .u64 tp) rfl
          have hbl : tb < w5.heap.size := (Array.getElem?_eq_some_iff.1 (keepO HBU.out k5)).1
          have s6 := s5.next (kp_new w5 (.cells #[.int .u64 en, .int .u64 ln] 25))
          have HB6 := Lib.hid ((keepO (keepO HBU.out k5) (kp_new w5 (.cells #[.int .u64 en, .int .u64 ln] 25))))
          have HA6 := Lib.hid (heap_alloc_new w5 (.cells #[.int .u64 en, .int .u64 ln] 25))
          have HG := Lib.hid (s6.brings HC.out HV2.out (by omega) ⟨en, ln⟩ HUE.out.1 HUE.out.2)
          have f3 : bringF ⟨en, t.p, vl⟩ ⟨en, ln⟩ = ⟨en, ln⟩ := if_pos (Int.le_refl _)
          have f4 : bringB ⟨en, t.p, vl⟩ ⟨en, ln⟩ = true := decide_eq_true (.inl (Int.le_refl _))
          rw [f3, f4] at HG
          unfold Tk14.v at HG
          dsimp only at HG
          obtain ⟨wy, hwy⟩ : ∃ x, w5.alloc (.cells #[.int .u64 en, .int .u64 ln] 25) = x := ⟨_, rfl⟩
          obtain ⟨yb, hyb⟩ : ∃ x, w5.heap.size = x := ⟨_, rfl⟩
          rw [hwy] at HG HB6 HA6
          rw [hyb] at HA6
          have HWY := Lib.hid hwy
          have HYB := Lib.hid hyb
          clear f3 f4 s5 s6 k5 HBU hwy hyb HSU p1 t0 t1
          cases z with
          | true =>
            go_wp2_with fail
            rw [HWY.out, HYB.out]
            refine HG.out.mono ?_
            rintro e w7 ⟨rfl, s7, k7⟩
            have a7 := keepO HA6.out k7
            obtain ⟨q0, _⟩ := cellsAt a7 0 (v := .int .u64 en) rfl
            obtain ⟨q1, _⟩ := cellsAt a7 1 (v := .int .u64 ln) rfl
            have hyl : yb < w7.heap.size := (Array.getElem?_eq_some_iff.1 a7).1
            have HS8 := Lib.hid (s7.next (kp_new w7 (.cells #[.int .u64 en, .int .u64 ln] 25)))
            have HB8 := Lib.hid (keepO (keepO HB6.out k7) (kp_new w7 (.cells #[.int .u64 en, .int .u64 ln] 25)))
            clear HG s7 k7 a7 HB6 HA6
            go_wp2_with fail
            go_roundw
            case rel => exact ⟨k + 1, ⟨en, t.p, vl⟩, by omega, by go_num, rfl, by rw [HLN.out], HE.out, HV2, Lib.hid (HS8.out.less fun k hk => .inr hk), HB8⟩
            case measure => simp [intOf]; omega
          | false =>
            go_wp2_with fail
            rw [HWY.out, HYB.out]
            refine HG.out.mono ?_
            rintro e w7 ⟨rfl, s7, k7⟩
            have a7 := keepO HA6.out k7
            obtain ⟨q0, _⟩ := cellsAt a7 0 (v := .int .u64 en) rfl
            obtain ⟨q1, _⟩ := cellsAt a7 1 (v := .int .u64 ln) rfl
            have hyl : yb < w7.heap.size := (Array.getElem?_eq_some_iff.1 a7).1
            have HS8 := Lib.hid (s7.next (kp_new w7 (.cells #[.int .u64 en, .int .u64 ln] 25)))
            have HB8 := Lib.hid (keepO (keepO HB6.out k7) (kp_new w7 (.cells #[.int .u64 en, .int .u64 ln] 25)))
            clear HG s7 k7 a7 HB6 HA6
            go_wp2_with fail
            go_roundw
            case rel => exact ⟨k + 1, ⟨en, t.p, vl⟩, by omega, by go_num, rfl, by rw [HLN.out], HE.out, HV2, Lib.hid (HS8.out.less fun k hk => .inr hk), HB8⟩
            case measure => simp [intOf]; omega
        · have HLN : Hid (leftF te vl tp = lf) := Lib.hid (by rw [HLF.out, if_neg (fun x => hcut x.1)])
          have f1 : bringF ⟨en, t.p, vl⟩ ⟨te, tp⟩ = ⟨te, tp⟩ := if_pos (show en ≤ te by omega)
          have f2 : bringB ⟨en, t.p, vl⟩ ⟨te, tp⟩ = true := decide_eq_true (.inl (show en ≤ te by omega))
          rw [f1, f2] at HBR
          unfold Tk14.v at HBR
          dsimp only at HBR
          have hle : en ≤ te := by omega
          clear f1 f2
          go_wp2_with fail
          refine HBR.out.mono ?_
          rintro e w5 ⟨rfl, s5, k5⟩
          clear HBR
          have b5 := keepO HBU.out k5
          obtain ⟨t2, _⟩ := cellsAt b5 0 (v := .int .u64 te) rfl
          obtain ⟨t3, _⟩ := cellsAt b5 1 (v := .int .u64 tp) rfl
          have hbl : tb < w5.heap.size := (Array.getElem?_eq_some_iff.1 b5).1
          have HS6 := Lib.hid (s5.next (kp_new w5 (.cells #[.int .u64 te, .int .u64 tp] 25)))
          have HB6 := Lib.hid (keepO b5 (kp_new w5 (.cells #[.int .u64 te, .int .u64 tp] 25)))
          clear s5 k5 b5 HBU HSU p1 t0 t1
          go_wp2_with fail
          go_roundw
          case rel => exact ⟨k + 1, ⟨en, t.p, vl⟩, by omega, by go_num, rfl, by rw [HLN.out], HE.out, HV2, Lib.hid (HS6.out.less fun k hk => .inr hk), HB6⟩
          case measure => simp [intOf]; omega
    · obtain rfl : k = l1 := by omega
      go_wp2_with fail
      go_ret
      exact ⟨rfl, hs.out.low⟩
end Go.Proofs.Ytpmkaceeomnijaa
