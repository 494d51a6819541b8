/-
  Layer 11: what the laws ask of the project's pick, as one statement (to be proved of the landed code); PickTells' walk out of it.
-/
import Derived.Test.YtbnelkjcmfjlbaaPiS
namespace Go.Proofs.Ytbnelkjcmfjlbaa
open Go.RowKit
set_option maxRecDepth 100000

structure PickK : Prop where
  aw : ∀ W : World, Calls Try.prog 6 #[] W fun e w' => e = .returned (.bool true) ∧ Below W.heap.size W w'
  right : ∀ (A : Option Addr) (n c : Nat) (zs : List Int) (w : World), NR w A n zs → n ≤ 140737488355328 → Calls Try.prog 7 #[.slice A n c] w fun e w' => e = .returned (.bool (rightW zs)) ∧ Below w.heap.size w w'
  sum : ∀ (A : Option Addr) (n c : Nat) (zs : List Int) (w : World), NR w A n zs → rightW zs = true → Calls Try.prog 12 #[.slice A n c] w fun e w' => e = .returned (.int .i64 (sumW zs)) ∧ Below w.heap.size w w'
  pick : ∀ (A : Option Addr) (n c : Nat) (zs : List Int) (d : Int) (w : World), NR w A n zs → rightW zs = true → 0 ≤ d → d < 18446744073709551616 → Calls Try.prog 14 #[.slice A n c, .int .u64 d] w fun e w' => e = .returned (.int .i64 (pickW zs d)) ∧ Below w.heap.size w w'
  only : ∀ (A B : Option Addr) (n c k d : Nat) (zs : List Int) (bs : List Bool) (w : World), NR w A n zs → BR w B k bs → n ≤ 1000 → Calls Try.prog 10 #[.slice A n c, .slice B k d] w fun e w' => ∃ D g, e = .returned (.slice D n g) ∧ NR w' D n (onlyW zs bs) ∧ Below w.heap.size w w'

set_option maxHeartbeats 16000000 in
theorem picktells_walk (K : PickK) (A1 : Option Addr) (n c : Nat) (zs : List Int) (d : Int) (hd0 : 0 ≤ d) (hd1 : d < 18446744073709551616) (A2 : Option Addr) (m g : Nat) (bs : List Bool) (W : World) (r1 : NR W A1 n zs) (r2 : BR W A2 m bs) :
    Calls Try.prog 3 #[.slice A1 n c, .int .u64 d, .slice A2 m g] W fun e w' => e = .returned (.bool true) ∧ Below W.heap.size W w' := by
  have HAW := Lib.hid (K.aw W)
  have HK := Lib.hid K
  have R1 := Lib.hid r1
  have R2 := Lib.hid r2
  clear r1 r2 K
  go_enter Try.func3, Try.ntmps3
  go_wp2_with fail
  refine HAW.out.mono ?_
  rintro e w1 ⟨rfl, k1⟩
  have HK1 := Lib.hid k1
  have R1 := Lib.hid (R1.out.next k1)
  have R2 := Lib.hid (show BR w1 A2 m bs from ⟨R2.out.len, (R2.out.rd.below k1 (Nat.le_refl _)).more k1.size⟩)
  clear HAW k1
  by_cases hbig : 1000 < n
  · have hb : (1000 : Int) < (n : Int) := by omega
    clear hbig
    go_wp2_with fail
    go_ret
    exact ⟨rfl, HK1.out⟩
  have hn : n ≤ 1000 := by omega
  have hbn : ¬ (1000 : Int) < (n : Int) := by omega
  clear hbig
  by_cases hbig : 1000 < m
  · have hb : (1000 : Int) < (m : Int) := by omega
    clear hbig
    go_wp2_with fail
    go_ret
    exact ⟨rfl, HK1.out⟩
  have hm : m ≤ 1000 := by omega
  have hbm : ¬ (1000 : Int) < (m : Int) := by omega
  clear hbig
  obtain ⟨bo, hbo⟩ : ∃ b, rightW zs = b := ⟨_, rfl⟩
  have HBO := Lib.hid hbo
  have HQ := HK.out.right A1 n c zs w1 R1.out (by omega)
  rw [hbo] at HQ
  have HQ := Lib.hid HQ
  clear hbo
  go_wp2_with fail
  refine HQ.out.mono ?_
  rintro e w2 ⟨rfl, k2⟩
  have HK2 := Lib.hid (HK1.out.trans (k2.mono HK1.out.size))
  have R1 := Lib.hid (R1.out.next k2)
  have R2 := Lib.hid (show BR w2 A2 m bs from ⟨R2.out.len, (R2.out.rd.below k2 (Nat.le_refl _)).more k2.size⟩)
  have HR := Lib.hid (rrightw_ok (c := c) bo HBO R1.out (by omega))
  have HO := Lib.hid (HK.out.only A1 A2 n c m g zs bs w2 R1.out R2.out (by omega))
  clear HQ k2 HK1
  go_wp2_with fail
  refine HR.out.mono ?_
  rintro e w3 ⟨rfl, rfl⟩
  go_wp2_with fail
  refine HO.out.mono ?_
  rintro e w3 ⟨D3, g3, rfl, n3, k3⟩
  have HK3 := Lib.hid (HK2.out.trans (k3.mono HK2.out.size))
  have R1 := Lib.hid (R1.out.next k3)
  have R2 := Lib.hid (show BR w3 A2 m bs from ⟨R2.out.len, (R2.out.rd.below k3 (Nat.le_refl _)).more k3.size⟩)
  have N3 := Lib.hid n3
  have HO := Lib.hid (ronlyw_ok A1 A2 n c m g zs bs w3 R1.out R2.out (by omega))
  clear HR k3 n3 HK2
  go_wp2_with fail
  refine HO.out.mono ?_
  rintro e w4 ⟨D4, g4, rfl, o4, k4⟩
  have HK4 := Lib.hid (HK3.out.trans (k4.mono HK3.out.size))
  have R1 := Lib.hid (R1.out.next k4)
  have HS := Lib.hid (rsame11_ok D3 D4 n n g3 g4 (onlyW zs bs) (onlyW zs bs) w4 (N3.out.next k4) (NR.of_own o4) (by omega) (by omega) true (Lib.hid (by simp)))
  clear HO k4 o4 HK3 N3
  go_wp2_with fail
  refine HS.out.mono ?_
  rintro e w5 ⟨rfl, q5, hq5⟩
  have k5 : Below w4.heap.size w4 w5 := hq5 ▸ kp_drewN w4 q5
  have HK5 := Lib.hid (HK4.out.trans (k5.mono HK4.out.size))
  have R1 := Lib.hid (R1.out.next k5)
  have HR := Lib.hid (rrightw_ok (c := c) bo HBO R1.out (by omega))
  clear HS k5 hq5 HK4
  go_wp2_with fail
  refine HR.out.mono ?_
  rintro e w6 ⟨rfl, rfl⟩
  cases bo with
  | false =>
    go_wp2_with fail
    go_ret
    exact ⟨rfl, HK5.out⟩
  | true =>
    obtain ⟨sm, hsm⟩ : ∃ s, sumW zs = s := ⟨_, rfl⟩
    obtain ⟨v, hv⟩ : ∃ s, pickW zs d = s := ⟨_, rfl⟩
    have HSM := Lib.hid hsm
    have HV := Lib.hid hv
    have HQ := HK.out.sum A1 n c zs w5 R1.out HBO.out
    rw [hsm] at HQ
    have HQ := Lib.hid HQ
    clear hsm hv HR
    go_wp2_with fail
    refine HQ.out.mono ?_
    rintro e w6 ⟨rfl, k6⟩
    have HK6 := Lib.hid (HK5.out.trans (k6.mono HK5.out.size))
    have R1 := Lib.hid (R1.out.next k6)
    have HR := Lib.hid (rsumw_ok (c := c) sm HSM HBO.out R1.out)
    have HP := HK.out.pick A1 n c zs d w6 R1.out HBO.out hd0 hd1
    rw [HV.out] at HP
    have HP := Lib.hid HP
    clear HQ k6 HK5
    go_wp2_with fail
    refine HR.out.mono ?_
    rintro e w7 ⟨rfl, rfl⟩
    go_wp2_with fail
    refine HP.out.mono ?_
    rintro e w7 ⟨rfl, k7⟩
    have HK7 := Lib.hid (HK6.out.trans (k7.mono HK6.out.size))
    have HR := Lib.hid (rpickw_ok (c := c) d hd0 hd1 v HV HBO.out (R1.out.next k7))
    clear HP k7 HK6
    go_wp2_with fail
    refine HR.out.mono ?_
    rintro e w8 ⟨rfl, rfl⟩
    go_wp2_with fail
    go_ret
    exact ⟨rfl, HK7.out⟩
end Go.Proofs.Ytbnelkjcmfjlbaa
