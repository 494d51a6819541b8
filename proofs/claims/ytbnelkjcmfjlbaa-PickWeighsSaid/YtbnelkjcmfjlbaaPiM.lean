/-
  Layer 11: PickWeighs' walk, out of what the laws ask of the project's pick.
-/
import Derived.Test.YtbnelkjcmfjlbaaPiL
import Derived.Laws.OwnMore
namespace Go.Proofs.Ytbnelkjcmfjlbaa
open Go.RowKit
set_option maxRecDepth 100000

theorem cntI_le (f : Int → Bool) : ∀ (n : Nat) (a : Int), cntI f a n ≤ n
  | 0, _ => Nat.le_refl _
  | n + 1, a => by
    have := cntI_le f n (a + 1)
    unfold cntI
    cases f a <;> simp <;> omega
/-- how often each place was picked -/
def pkW (zs : List Int) (draw : Int) (i : Nat) : List Int := (List.range zs.length).map fun (j : Nat) => (cntI (fun x => pickW zs x == (j : Int)) draw i : Int)
theorem pkW_length (zs : List Int) (draw : Int) (i : Nat) : (pkW zs draw i).length = zs.length := by simp [pkW]
theorem pkW_at {zs : List Int} {draw : Int} {i q : Nat} (hq : q < zs.length) : (pkW zs draw i)[q]'(by rw [pkW_length]; exact hq) = (cntI (fun x => pickW zs x == (q : Int)) draw i : Int) := by simp [pkW]
theorem pkW_next {zs : List Int} {draw : Int} {i q : Nat} (h : pickW zs (draw + i) = q) : pkW zs draw (i + 1) = (pkW zs draw i).set q ((cntI (fun x => pickW zs x == (q : Int)) draw i : Int) + 1) := by
  refine List.ext_getElem (by simp [pkW]) fun j h1 h2 => ?_
  have hj : j < zs.length := by rwa [pkW_length] at h1
  rw [List.getElem_set, pkW_at hj, pkW_at hj, cntI_next]
  show ((cntI _ draw i + (bif pickW zs (draw + (i : Int)) == (j : Int) then 1 else 0) : Nat) : Int) = _
  rw [h]
  by_cases e : q = j
  · subst e
    rw [if_pos rfl]
    simp
  · rw [if_neg e]
    have : ((q : Int) == (j : Int)) = false := beq_eq_false_iff_ne.2 (by omega)
    rw [this]
    simp
theorem pkW_done {zs : List Int} (h : ∀ x ∈ zs, 0 ≤ x) (draw : Int) : pkW zs draw (sumW zs).toNat = zs := by
  refine List.ext_getElem (pkW_length _ _ _) fun j h1 h2 => ?_
  rw [pkW_at h2]
  exact cnt_pickW h draw j h2
theorem pkW_zero (zs : List Int) (draw : Int) : ivs (pkW zs draw 0) = List.replicate zs.length (.int .i64 0) := by
  refine List.ext_getElem (by simp [ivs, pkW]) fun j h1 h2 => ?_
  simp [ivs, pkW, cntI]
theorem made11 (n : Nat) : (madeCells (Value.int .i64 0).cells (n * 1)).toList = List.replicate n (.int .i64 0) := by
  apply List.ext_getElem
  · simp [madeCells]
  · intro i h1 h2
    simp [madeCells, Nat.mod_one, Value.cells]

set_option maxHeartbeats 16000000 in
theorem pickweighs_walk (K : PickK) (A1 : Option Addr) (n c : Nat) (zs : List Int) (d : Int) (hd0 : 0 ≤ d) (hd1 : d < 18446744073709551616) (W : World) (r1 : NR W A1 n zs) (hn0 : n ≤ 140737488355328) :
    Calls Try.prog 4 #[.slice A1 n c, .int .u64 d] W fun e w' => e = .returned (.bool true) ∧ Below W.heap.size W w' := by
  have HAW := Lib.hid (K.aw W)
  have HK := Lib.hid K
  have R1 := Lib.hid r1
  have HL := Lib.hid r1.len
  obtain ⟨i0, hi, hz0, hz1, hz2⟩ := info_parts intinfo11
  clear r1 K
  go_enter Try.func4, Try.ntmps4
  go_wp2_with fail
  refine HAW.out.mono ?_
  rintro e w1 ⟨rfl, k1⟩
  have HK1 := Lib.hid k1
  have R1 := Lib.hid (R1.out.next k1)
  obtain ⟨bo, hbo⟩ : ∃ b, rightW zs = b := ⟨_, rfl⟩
  have HBO := Lib.hid hbo
  have HR := Lib.hid (rrightw_ok (c := c) bo HBO R1.out hn0)
  clear HAW k1 hbo
  go_wp2_with fail
  refine HR.out.mono ?_
  rintro e w2 ⟨rfl, rfl⟩
  cases bo with
  | false =>
    go_wp2_with fail
    go_ret
    exact ⟨rfl, HK1.out⟩
  | true =>
    obtain ⟨g1, g2⟩ := rightW_at.1 HBO.out
    have hn : n ≤ 6 := by rw [← HL.out]; exact g2
    have hge : ∀ x ∈ zs, 0 ≤ x ∧ x ≤ 100 := fun x hx => by obtain ⟨j, hj, rfl⟩ := List.getElem_of_mem hx; exact g1 j hj
    have HGE : Hid (∀ x ∈ zs, 0 ≤ x) := Lib.hid fun x hx => (hge x hx).1
    have hs := sumW_take hge g2 n
    rw [List.take_of_length_le (by rw [HL.out]; exact Nat.le_refl _)] at hs
    obtain ⟨sm, hsm⟩ : ∃ s, sumW zs = s := ⟨_, rfl⟩
    have HQ := HK.out.sum A1 n c zs w1 R1.out HBO.out
    rw [hsm] at hs HQ
    have HSM := Lib.hid hsm
    have HQ := Lib.hid HQ
    clear hsm hge g1 g2 HR
    go_wp2_with fail
    refine HQ.out.mono ?_
    rintro e w2 ⟨rfl, k2⟩
    have HK2 := Lib.hid (HK1.out.trans (k2.mono HK1.out.size))
    have R1 := Lib.hid (R1.out.next k2)
    have s1 : ¬ sm < 0 := by omega
    have s2 : ¬ 600 < sm := by omega
    clear HQ k2 HK1
    by_cases hbig : 18446744073709550615 < d
    · go_wp2_with fail
      go_ret
      exact ⟨rfl, HK2.out⟩
    obtain ⟨w3, hmk, ho3, hg3⟩ := run_makeSlice_full (P := Try.prog) (w := w2) w2.heap.size 22 3 i0 _ 1 Try.underlying22 hi hz0 hz1 .i64 .i64 n (by omega) (by rw [hz2]; omega) (by unfold maxLen; omega) (Nat.le_refl _)
    rw [made11, ← HL.out, ← pkW_zero zs d, HL.out] at ho3
    have HO3 := Lib.hid ho3
    have HB3 : Hid (Below w2.heap.size w2 w3) := Lib.hid ((Below.refl _ _).grown hg3 (Nat.le_refl _) fun k e => by cases e)
    obtain ⟨g, hg⟩ : ∃ g, w2.heap.size = g := ⟨_, rfl⟩
    have HG := Lib.hid hg
    rw [hg] at HO3 hmk
    clear ho3 hg3 hg
    go_wp2_with fail
    go_loopw [32] (fun i wr => ∃ q : Nat, (q : Int) ≤ sm ∧ i = .int .i64 q ∧ Hid (wr.ownsRow g 3 1 (.slice (some ⟨g, 0, none⟩) n n) n (ivs (pkW zs d q))) ∧ Hid (Below w2.heap.size w2 wr)) (fun i _ => sm.toNat - (intOf i).toNat)
    case atStart => exact ⟨0, hs.1, rfl, HO3, HB3⟩
    case round =>
      obtain ⟨i, hi2, rfl, ho, hb⟩ := hrel
      clear HO3 HB3 hmk
      by_cases hlt : (i : Int) < sm
      · obtain ⟨q, hq, hpq, _⟩ := pickW_is HGE.out (by rw [HSM.out]; omega) (d + (i : Int))
        have hqn : q < n := by rw [← HL.out]; exact hq
        have hNX := pkW_next hpq
        have HP := HK.out.pick A1 n c zs (d + (i : Int)) wr (R1.out.next hb.out) HBO.out (by omega) (by omega)
        rw [hpq] at HP
        have HP := Lib.hid HP
        have w1e : IntKind.u64.wrap (i : Int) = (i : Int) := by rw [IntKind.wrap_u64]; omega
        have w2e : IntKind.u64.wrap (d + (i : Int)) = d + (i : Int) := by rw [IntKind.wrap_u64]; omega
        obtain ⟨x, hx⟩ : ∃ x : Int, (cntI (fun x => pickW zs x == (q : Int)) d i : Int) = x := ⟨_, rfl⟩
        have hx0 : 0 ≤ x ∧ x ≤ i := by have := cntI_le (fun x => pickW zs x == (q : Int)) i d; omega
        have hat := pkW_at (draw := d) (i := i) hq
        rw [hx] at hNX hat
        have HNX := Lib.hid hNX
        have HAT := Lib.hid hat
        have hql : q < (pkW zs d i).length := by rw [pkW_length]; exact hq
        have w3e : IntKind.i64.wrap (x + 1) = x + 1 := by rw [IntKind.wrap_i64]; omega
        have q0 : ¬ (q : Int) < 0 := by omega
        have qn : (q : Int) < (n : Int) := by omega
        clear hpq hNX hat hx
        go_wp2_with fail
        refine HP.out.mono ?_
        rintro e w4 ⟨rfl, k4⟩
        have ho4 := own_below_s ho.out k4 (Nat.le_refl _)
        obtain ⟨g', hgg, c1, c2, c3, _⟩ := ivs_cell ho4 hql
        obtain rfl : g = g' := by injection hgg with h; injection h
        rw [HAT.out] at c1
        have ho5 := own_set ho4 q (.int .i64 (x + 1))
        rw [← ivs_set, ← HNX.out] at ho5
        have HO5 := Lib.hid ho5
        have HB5 : Hid (Below w2.heap.size w2 (w4.setCell ⟨g, q, none⟩ (.int .i64 (x + 1)))) := Lib.hid ((kp_trans hb.out k4).setCell (by rw [HG.out]; exact Nat.le_refl _) _)
        clear HP k4 ho4 ho5 hgg HAT ho hb
        go_wp2_with fail
        go_roundw
        case rel => exact ⟨i + 1, by omega, by go_num, HO5, HB5⟩
        case measure => simp [intOf]; omega
      · have he : (sumW zs).toNat = i := by rw [HSM.out]; omega
        have ho2 := ho.out
        rw [← he, pkW_done HGE.out] at ho2
        have HS := Lib.hid (rsame11_ok (some ⟨g, 0, none⟩) A1 n n n c zs zs wr (NR.of_own ho2) (R1.out.next hb.out) (by omega) (by omega) true (Lib.hid (by simp)))
        have HKW := Lib.hid (HK2.out.trans (hb.out.mono HK2.out.size))
        clear he ho2 ho hb
        go_wp2_with fail
        refine HS.out.mono ?_
        rintro e w5 ⟨rfl, q5, hq5⟩
        have HK5 := Lib.hid (HKW.out.trans ((hq5 ▸ kp_drewN wr q5 : Below wr.heap.size wr w5).mono HKW.out.size))
        clear hq5 HS
        go_wp2_with fail
        go_ret
        exact ⟨rfl, HK5.out⟩
end Go.Proofs.Ytbnelkjcmfjlbaa
