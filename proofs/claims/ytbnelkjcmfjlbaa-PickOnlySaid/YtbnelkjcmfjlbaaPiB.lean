/-
  The project's layer 11: Right, Only: contracts.
-/
import Derived.Test.YtbnelkjcmfjlbaaPiA
namespace Go.Proofs.Ytbnelkjcmfjlbaa
open Go.RowKit
set_option maxRecDepth 100000

/-- the row that Only makes, when so many places are done -/
def onF (zs : List Int) (bs : List Bool) (n q : Nat) : List Int := (onlyW zs bs).take q ++ List.replicate (n - q) 0
theorem onF_length {zs : List Int} {bs : List Bool} {n q : Nat} (hl : zs.length = n) (hq : q ≤ n) : (onF zs bs n q).length = n := by
  simp [onF, onlyW_length]
  omega
theorem onF_next {zs : List Int} {bs : List Bool} {n q : Nat} (hl : zs.length = n) (hq : q < n) : onF zs bs n (q + 1) = (onF zs bs n q).set q (if bs.getD q false = true then zs[q] else 0) := by
  have hk : q < (onlyW zs bs).length := by rw [onlyW_length]; omega
  have hm : min q (onlyW zs bs).length = q := by omega
  unfold onF
  rw [List.take_succ_eq_append_getElem hk, onlyW_at zs bs q (by omega), List.set_append, if_neg (show ¬ q < (List.take q (onlyW zs bs)).length by rw [List.length_take]; omega)]
  rw [show n - q = (n - (q + 1)) + 1 by omega, List.replicate_succ]
  simp [hm]
theorem onF_at {zs : List Int} {bs : List Bool} {n q : Nat} (hl : zs.length = n) (hq : q < n) : (onF zs bs n q)[q]'(by rw [onF_length hl (by omega)]; exact hq) = 0 := by
  have hm : min q (onlyW zs bs).length = q := by rw [onlyW_length]; omega
  unfold onF
  rw [List.getElem_append_right (by simp; omega)]
  simp
theorem onF_same {zs : List Int} {bs : List Bool} {n q : Nat} (hl : zs.length = n) (hq : q < n) (hb : bs.getD q false = false) : onF zs bs n (q + 1) = onF zs bs n q := by
  rw [onF_next hl hq, hb, if_neg (by simp)]
  have h := onF_at (bs := bs) hl hq
  conv => lhs; arg 3; rw [← h]
  exact List.set_getElem_self _
theorem onF_zero (zs : List Int) (bs : List Bool) (n : Nat) : ivs (onF zs bs n 0) = List.replicate n (.int .i64 0) := by
  refine List.ext_getElem (by simp [ivs, onF]) fun j h1 h2 => ?_
  simp [ivs, onF]
theorem onF_done {zs : List Int} (bs : List Bool) {n : Nat} (hl : zs.length = n) : onF zs bs n n = onlyW zs bs := by
  unfold onF
  rw [Nat.sub_self, List.take_of_length_le (by rw [onlyW_length, hl]; exact Nat.le_refl _)]
  simp
section
variable {w : World}
set_option maxHeartbeats 4000000 in
theorem pright_ok (A : Option Addr) (n c : Nat) (zs : List Int) (w : World) (hx : NR w A n zs) (hn : n ≤ 140737488355328) :
    Calls Try.prog 7 #[.slice A n c] w fun e w' => e = .returned (.bool (rightW zs)) ∧ Below w.heap.size w w' := by
  obtain ⟨bo, hb0⟩ : ∃ b, rightW zs = b := ⟨_, rfl⟩
  have hbo := Lib.hid hb0
  rw [hb0]
  have HX := Lib.hid hx
  have HL := Lib.hid hx.len
  clear hx hb0
  go_enter Try.func7, Try.ntmps7
  go_wp2_with fail
  go_loopw [7] (fun i wr => ∃ k : Nat, k ≤ n ∧ i = .int .i64 k ∧ Hid (∀ j (hj : j < zs.length), j < k → 0 ≤ zs[j] ∧ zs[j] ≤ 100) ∧ w = wr) (fun i _ => n - (intOf i).toNat)
  case atStart => exact ⟨0, Nat.zero_le _, rfl, Lib.hid (fun j _ h => absurd h (Nat.not_lt_zero _)), rfl⟩
  case round =>
    obtain ⟨k, hk, rfl, hz, rfl⟩ := hrel
    by_cases hlt : k < n
    · have hkl : k < zs.length := by rw [HL.out]; exact hlt
      obtain ⟨ad, rfl, _, hc⟩ := HX.out.at_ hkl
      have d1 := hc _ (Below.refl _ _)
      clear hc
      by_cases hok : 0 ≤ zs[k] ∧ zs[k] ≤ 100
      · have hz2 : Hid (∀ j (hj : j < zs.length), j < k + 1 → 0 ≤ zs[j] ∧ zs[j] ≤ 100) := Lib.hid fun j hj hjk => by
          by_cases h : j = k
          · subst h; exact hok
          · exact hz.out j hj (by omega)
        have e1 : ¬ zs[k] < 0 := by omega
        have e2 : ¬ 100 < zs[k] := by omega
        clear hz hok
        generalize zs[k] = z at *
        go_wp2_with fail
        go_roundw
        case rel => exact ⟨k + 1, by omega, by go_num, hz2, trivial⟩
        case measure => simp [intOf]; omega
      · have hb : bo = false := by
          rw [← hbo.out, Bool.eq_false_iff]
          intro h
          exact hok ((rightW_at.1 h).1 k hkl)
        subst hb
        clear hz
        by_cases e1 : zs[k] < 0
        · clear hok
          generalize zs[k] = z at *
          go_wp2_with fail
          go_ret
          exact ⟨rfl, Below.refl _ _⟩
        · have e2 : 100 < zs[k] := by omega
          clear hok
          generalize zs[k] = z at *
          go_wp2_with fail
          go_ret
          exact ⟨rfl, Below.refl _ _⟩
    · obtain rfl : k = n := by omega
      have hb : bo = decide (k ≤ 6) := by
        have hl := HL.out
        rw [← hbo.out, Bool.eq_iff_iff, rightW_at, decide_eq_true_iff]
        exact ⟨fun h => by have := h.2; omega, fun h => ⟨fun j hj => hz.out j hj (by omega), by omega⟩⟩
      subst hb
      clear hz
      go_wp2_with fail
      go_ret
      refine ⟨?_, Below.refl _ _⟩
      congr 2
      simp
      try omega
set_option maxHeartbeats 8000000 in
theorem ponly_ok (A B : Option Addr) (n c k d : Nat) (zs : List Int) (bs : List Bool) (w : World) (hx : NR w A n zs) (hy : BR w B k bs) (hn : n ≤ 1000) :
    Calls Try.prog 10 #[.slice A n c, .slice B k d] w fun e w' => ∃ D g, e = .returned (.slice D n g) ∧ NR w' D n (onlyW zs bs) ∧ Below w.heap.size w w' := by
  have HX := Lib.hid hx
  have HY := Lib.hid hy
  have HL := Lib.hid hx.len
  have HLB := Lib.hid hy.len
  obtain ⟨i0, hi, hz0, hz1, hz2⟩ := info_parts intinfo11
  obtain ⟨w3, hmk, ho3, hg3⟩ := run_makeSlice_full (P := Try.prog) (w := w) w.heap.size 22 3 i0 _ 1 Try.underlying22 hi hz0 hz1 .i64 .i64 n (by omega) (by rw [hz2]; omega) (by unfold maxLen; omega) (Nat.le_refl _)
  rw [made11, ← onF_zero zs bs n] at ho3
  have HO3 := Lib.hid ho3
  have HB3 : Hid (Below w.heap.size w w3) := Lib.hid ((Below.refl _ _).grown hg3 (Nat.le_refl _) fun k e => by cases e)
  obtain ⟨g, hg⟩ : ∃ g, w.heap.size = g := ⟨_, rfl⟩
  have HG := Lib.hid hg
  rw [hg] at HO3 hmk
  clear hx hy ho3 hg3 hg
  go_enter Try.func10, Try.ntmps10
  go_wp2_with fail
  go_loopw [13] (fun i wr => ∃ q : Nat, q ≤ n ∧ i = .int .i64 q ∧ Hid (wr.ownsRow g 3 1 (.slice (some ⟨g, 0, none⟩) n n) n (ivs (onF zs bs n q))) ∧ Hid (Below w.heap.size w wr)) (fun i _ => n - (intOf i).toNat)
  case atStart => exact ⟨0, Nat.zero_le _, rfl, HO3, HB3⟩
  case round =>
    obtain ⟨q, hq, rfl, ho, hb⟩ := hrel
    clear HO3 HB3 hmk
    by_cases hlt : q < n
    · have hql : q < zs.length := by rw [HL.out]; exact hlt
      obtain ⟨ad, rfl, _, hc⟩ := HX.out.at_ hql
      have d1 := hc wr hb.out
      clear hc
      by_cases hqk : q < k
      · have hqb : q < bs.length := by rw [HLB.out]; exact hqk
        obtain ⟨ab, rfl, _, hcb⟩ := HY.out.at_ hqb
        have d2 := hcb wr hb.out
        have hgd : bs.getD q false = bs[q] := by simp [List.getD_eq_getElem?_getD, hqb]
        clear hcb
        obtain ⟨bb, hbb⟩ : ∃ b, bs[q] = b := ⟨_, rfl⟩
        rw [hbb] at hgd d2
        clear hbb
        cases bb with
        | true =>
          have hNX := onF_next (bs := bs) HL.out hlt
          rw [hgd, if_pos rfl] at hNX
          obtain ⟨g', hgg, c1, c2, c3, _⟩ := ivs_cell ho.out (i := q) (by rw [onF_length HL.out (by omega)]; exact hlt)
          obtain rfl : g = g' := by injection hgg with h; injection h
          have ho5 := own_set ho.out q (.int .i64 zs[q])
          rw [← ivs_set, ← hNX] at ho5
          have HO5 := Lib.hid ho5
          have HB5 : Hid (Below w.heap.size w (wr.setCell ⟨g, q, none⟩ (.int .i64 zs[q]))) := Lib.hid (hb.out.setCell (by rw [HG.out]; exact Nat.le_refl _) _)
          clear hNX ho5 hgg ho hb hgd
          generalize zs[q] = x at *
          go_wp2_with fail
          go_roundw
          case rel => exact ⟨q + 1, by omega, by go_num, HO5, HB5⟩
          case measure => simp [intOf]; omega
        | false =>
          have HO5 : Hid (wr.ownsRow g 3 1 (.slice (some ⟨g, 0, none⟩) n n) n (ivs (onF zs bs n (q + 1)))) := Lib.hid (by rw [onF_same HL.out hlt hgd]; exact ho.out)
          clear ho hgd
          generalize zs[q] = x at *
          go_wp2_with fail
          go_roundw
          case rel => exact ⟨q + 1, by omega, by go_num, HO5, hb⟩
          case measure => simp [intOf]; omega
      · have hgd : bs.getD q false = false := by
          rw [List.getD_eq_getElem?_getD, List.getElem?_eq_none (by have := HLB.out; omega)]
          rfl
        have HO5 : Hid (wr.ownsRow g 3 1 (.slice (some ⟨g, 0, none⟩) n n) n (ivs (onF zs bs n (q + 1)))) := Lib.hid (by rw [onF_same HL.out hlt hgd]; exact ho.out)
        clear ho hgd
        generalize zs[q] = x at *
        go_wp2_with fail
        go_roundw
        case rel => exact ⟨q + 1, by omega, by go_num, HO5, hb⟩
        case measure => simp [intOf]; omega
    · obtain rfl : q = n := by omega
      have ho2 := ho.out
      rw [onF_done bs HL.out] at ho2
      have HNR := Lib.hid (NR.of_own ho2)
      clear ho ho2
      go_wp2_with fail
      go_ret
      exact ⟨_, _, rfl, HNR.out, hb.out⟩
end
end Go.Proofs.Ytbnelkjcmfjlbaa
