/-
  Layer 11: PickOnly's walk, out of what the laws ask of the project's pick.
-/
import Derived.Test.YtbnelkjcmfjlbaaPiK
namespace Go.Proofs.Ytbnelkjcmfjlbaa
open Go.RowKit
set_option maxRecDepth 100000

theorem right_only {zs : List Int} (bs : List Bool) (h : rightW zs = true) : rightW (onlyW zs bs) = true := by
  obtain ⟨h1, h2⟩ := rightW_at.1 h
  refine rightW_at.2 ⟨fun j hj => ?_, by rw [onlyW_length]; exact h2⟩
  have hj' : j < zs.length := by rwa [onlyW_length] at hj
  rw [onlyW_at zs bs j hj']
  split
  · exact h1 j hj'
  · omega
/-- somebody of the first ones may be, and weighs something -/
def anyW (zs : List Int) (bs : List Bool) (r : Nat) : Bool := ((onlyW zs bs).take r).any fun x => decide (0 < x)
theorem anyW_next {zs : List Int} {bs : List Bool} {r : Nat} (h : r < zs.length) : anyW zs bs (r + 1) = (anyW zs bs r || decide (0 < if bs.getD r false = true then zs[r] else 0)) := by
  have hk : r < (onlyW zs bs).length := by rw [onlyW_length]; exact h
  unfold anyW
  rw [List.take_succ_eq_append_getElem hk, List.any_append, onlyW_at zs bs r h]
  simp
theorem only_none {zs : List Int} {bs : List Bool} (h : rightW zs = true) {d : Int} (hv : pickW (onlyW zs bs) d = -1) : anyW zs bs zs.length = false := by
  have h0 : ∀ x ∈ onlyW zs bs, 0 ≤ x := onlyW_nonneg (fun x hx => by obtain ⟨j, hj, rfl⟩ := List.getElem_of_mem hx; exact ((rightW_at.1 h).1 j hj).1) bs
  have hs : sumW (onlyW zs bs) = 0 := by
    apply Classical.byContradiction
    intro hne
    obtain ⟨i, _, e, _⟩ := pickW_is h0 hne d
    omega
  unfold anyW
  rw [List.any_eq_false]
  intro x hx
  rw [sumW_zero h0 hs x (List.mem_of_mem_take hx)]
  simp
theorem only_some {zs : List Int} {bs : List Bool} (h : rightW zs = true) {d : Int} (hv : pickW (onlyW zs bs) d ≠ -1) : ∃ i : Nat, ∃ (h1 : i < zs.length) (h2 : i < bs.length), pickW (onlyW zs bs) d = i ∧ 0 < zs[i] ∧ bs[i] = true := by
  have h0 : ∀ x ∈ onlyW zs bs, 0 ≤ x := onlyW_nonneg (fun x hx => by obtain ⟨j, hj, rfl⟩ := List.getElem_of_mem hx; exact ((rightW_at.1 h).1 j hj).1) bs
  have hs : sumW (onlyW zs bs) ≠ 0 := fun e => hv (by unfold pickW; rw [if_pos e])
  obtain ⟨i, hi, e, hp⟩ := pickW_is h0 hs d
  have hi' : i < zs.length := by rwa [onlyW_length] at hi
  rw [onlyW_at zs bs i hi'] at hp
  by_cases hg : bs.getD i false = true
  · rw [if_pos hg] at hp
    have hb : i < bs.length := by
      apply Classical.byContradiction
      intro hn
      rw [List.getD_eq_getElem?_getD, List.getElem?_eq_none (by omega)] at hg
      cases hg
    exact ⟨i, hi', hb, e, hp, by simpa [List.getD_eq_getElem?_getD, hb] using hg⟩
  · rw [if_neg hg] at hp
    omega
theorem BR.next11 {w w' : World} {A : Option Addr} {n : Nat} {bs : List Bool} (h : BR w A n bs) (hb : Below w.heap.size w w') : BR w' A n bs := ⟨h.len, (h.rd.below hb (Nat.le_refl _)).more hb.size⟩

set_option maxHeartbeats 16000000 in
theorem pickonly_walk (K : PickK) (A1 : Option Addr) (n c : Nat) (zs : List Int) (d : Int) (hd0 : 0 ≤ d) (hd1 : d < 18446744073709551616) (A2 : Option Addr) (m g : Nat) (bs : List Bool) (W : World) (r1 : NR W A1 n zs) (r2 : BR W A2 m bs) (hn0 : n ≤ 140737488355328) :
    Calls Try.prog 5 #[.slice A1 n c, .int .u64 d, .slice A2 m g] W fun e w' => e = .returned (.bool true) ∧ Below W.heap.size W w' := by
  have HAW := Lib.hid (K.aw W)
  have HK := Lib.hid K
  have R1 := Lib.hid r1
  have R2 := Lib.hid r2
  have HL := Lib.hid r1.len
  have HLB := Lib.hid r2.len
  clear r1 r2 K
  go_enter Try.func5, Try.ntmps5
  go_wp2_with fail
  refine HAW.out.mono ?_
  rintro e w1 ⟨rfl, k1⟩
  have HK1 := Lib.hid k1
  have R1 := Lib.hid (R1.out.next k1)
  have R2 := Lib.hid (R2.out.next11 k1)
  obtain ⟨bo, hbo⟩ : ∃ b, rightW zs = b := ⟨_, rfl⟩
  have HBO := Lib.hid hbo
  have HR := Lib.hid (rrightw_ok (c := c) bo HBO R1.out hn0)
  clear HAW k1 hbo
  go_wp2_with fail
  refine HR.out.mono ?_
  rintro e w2 ⟨rfl, rfl⟩
  cases bo with
  | false =>
    go_wp2_with fail
    go_ret
    exact ⟨rfl, HK1.out⟩
  | true =>
    have hn : n ≤ 6 := by rw [← HL.out]; exact (rightW_at.1 HBO.out).2
    by_cases hbig : 1000 < m
    · have hb : (1000 : Int) < (m : Int) := by omega
      clear hbig
      go_wp2_with fail
      go_ret
      exact ⟨rfl, HK1.out⟩
    have hm : m ≤ 1000 := by omega
    have hbm : ¬ (1000 : Int) < (m : Int) := by omega
    clear hbig HR
    go_wp2_with fail
    go_loopw [7, 23] (fun s i wr => ∃ (r : Nat), r ≤ n ∧ i = .int .i64 r ∧ s = .bool (anyW zs bs r) ∧ w1 = wr) (fun _ i _ => n - (intOf i).toNat)
    case atStart => exact ⟨0, Nat.zero_le _, rfl, rfl, rfl⟩
    case round =>
      obtain ⟨r, hr, rfl, rfl, rfl⟩ := hrel
      by_cases hlt : r < n
      · have hrl : r < zs.length := by rw [HL.out]; exact hlt
        obtain ⟨ad, rfl, _, hc⟩ := R1.out.at_ hrl
        have d1 := hc _ (Below.refl _ _)
        have HNX := anyW_next (bs := bs) hrl
        clear hc
        generalize hf2 : anyW zs bs (r + 1) = f2 at *
        have HF2 := Lib.hid hf2
        clear hf2
        generalize anyW zs bs r = f1 at *
        generalize zs[r] = z at *
        cases f1 with
        | true =>
          have hf : f2 = true := by rw [HNX]; rfl
          subst hf
          clear HNX
          go_wp2_with fail
          go_roundw
          case rel => exact ⟨r + 1, by omega, by go_num, by rw [HF2.out], trivial⟩
          case measure => simp [intOf]; omega
        | false =>
          rw [Bool.false_or] at HNX
          by_cases hz : 0 < z
          · by_cases hrm : r < m
            · have hrb : r < bs.length := by rw [HLB.out]; exact hrm
              obtain ⟨ab, rfl, _, hcb⟩ := R2.out.at_ hrb
              have d2 := hcb _ (Below.refl _ _)
              have hgd : bs.getD r false = bs[r] := by simp [List.getD_eq_getElem?_getD, hrb]
              rw [hgd] at HNX
              clear hcb hgd
              generalize bs[r] = bb at *
              have hf : f2 = bb := by rw [HNX]; cases bb <;> simp [hz]
              subst hf
              clear HNX
              go_wp2_with fail
              go_roundw
              case rel => exact ⟨r + 1, by omega, by go_num, by rw [HF2.out], trivial⟩
              case measure => simp [intOf]; omega
            · have hgd : bs.getD r false = false := by
                rw [List.getD_eq_getElem?_getD, List.getElem?_eq_none (by have := HLB.out; omega)]
                rfl
              have hf : f2 = false := by rw [HNX, hgd]; simp
              subst hf
              have hrmi : ¬ (r : Int) < (m : Int) := by omega
              clear HNX hgd
              go_wp2_with fail
              go_roundw
              case rel => exact ⟨r + 1, by omega, by go_num, by rw [HF2.out], trivial⟩
              case measure => simp [intOf]; omega
          · have hf : f2 = false := by rw [HNX]; split <;> simp <;> omega
            subst hf
            clear HNX
            go_wp2_with fail
            go_roundw
            case rel => exact ⟨r + 1, by omega, by go_num, by rw [HF2.out], trivial⟩
            case measure => simp [intOf]; omega
      · obtain rfl : r = n := by omega
        have HO := Lib.hid (HK.out.only A1 A2 r c m g zs bs w1 R1.out R2.out (by omega))
        have hfl : pickW (onlyW zs bs) d = -1 → anyW zs bs r = false := fun e => by have := only_none HBO.out e; rwa [HL.out] at this
        have HFL := Lib.hid hfl
        clear hfl
        generalize anyW zs bs r = fl at *
        go_wp2_with fail
        refine HO.out.mono ?_
        rintro e w3 ⟨D3, g3, rfl, n3, k3⟩
        have HK3 := Lib.hid (HK1.out.trans (k3.mono HK1.out.size))
        have R1 := Lib.hid (R1.out.next k3)
        have R2 := Lib.hid (R2.out.next11 k3)
        obtain ⟨v, hv⟩ : ∃ s, pickW (onlyW zs bs) d = s := ⟨_, rfl⟩
        have HP := HK.out.pick D3 r g3 (onlyW zs bs) d w3 n3 (right_only bs HBO.out) hd0 hd1
        rw [hv] at HP
        have HP := Lib.hid HP
        have HV := Lib.hid hv
        clear HO k3 n3 hv HK1
        go_wp2_with fail
        refine HP.out.mono ?_
        rintro e w4 ⟨rfl, k4⟩
        have HK4 := Lib.hid (HK3.out.trans (k4.mono HK3.out.size))
        have R1 := Lib.hid (R1.out.next k4)
        have R2 := Lib.hid (R2.out.next11 k4)
        clear HP k4 HK3
        by_cases hv1 : v = -1
        · have hfl : fl = false := HFL.out (by rw [HV.out, hv1])
          subst hfl
          subst hv1
          go_wp2_with fail
          go_ret
          exact ⟨rfl, HK4.out⟩
        · obtain ⟨i, i1, i2, e, hp, hb⟩ := only_some HBO.out (d := d) (bs := bs) (by rw [HV.out]; exact hv1)
          rw [HV.out] at e
          subst e
          obtain ⟨a1, rfl, _, q1⟩ := R1.out.at_ i1
          obtain ⟨a2, rfl, _, q2⟩ := R2.out.at_ i2
          have d1 := q1 _ (Below.refl _ _)
          have d2 := q2 _ (Below.refl _ _)
          rw [hb] at d2
          have hir : i < r := by rw [← HL.out]; exact i1
          have him : i < m := by rw [← HLB.out]; exact i2
          have hiri : (i : Int) < (r : Int) := by omega
          have himi : (i : Int) < (m : Int) := by omega
          have hi0 : (0 : Int) ≤ (i : Int) := by omega
          have hne : ((i : Int) == -1) = false := by simp
          clear q1 q2 hb hv1 HV HFL
          generalize zs[i] = z at *
          go_wp2_with fail
          go_ret
          exact ⟨rfl, HK4.out⟩
end Go.Proofs.Ytbnelkjcmfjlbaa
