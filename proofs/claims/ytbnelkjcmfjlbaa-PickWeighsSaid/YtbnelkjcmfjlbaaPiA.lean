/-
  Layer 11: the calls whose answers the document fixes, out of the contracts of the project's pick.
-/
import Derived.Test.YtbnelkjcmfjlbaaPiM
namespace Go.Proofs.Ytbnelkjcmfjlbaa
open Go.RowKit
set_option maxRecDepth 100000

/-- the contracts of the project's pick -/
structure PickC : Prop where
  right : ∀ (A : Option Addr) (n c : Nat) (zs : List Int) (w : World), NR w A n zs → n ≤ 140737488355328 → Calls Try.prog 7 #[.slice A n c] w fun e w' => e = .returned (.bool (rightW zs)) ∧ Below w.heap.size w w'
  sum : ∀ (A : Option Addr) (n c : Nat) (zs : List Int) (w : World), NR w A n zs → rightW zs = true → Calls Try.prog 12 #[.slice A n c] w fun e w' => e = .returned (.int .i64 (sumW zs)) ∧ Below w.heap.size w w'
  pick : ∀ (A : Option Addr) (n c : Nat) (zs : List Int) (d : Int) (w : World), NR w A n zs → rightW zs = true → 0 ≤ d → d < 18446744073709551616 → Calls Try.prog 14 #[.slice A n c, .int .u64 d] w fun e w' => e = .returned (.int .i64 (pickW zs d)) ∧ Below w.heap.size w w'
  only : ∀ (A B : Option Addr) (n c k d : Nat) (zs : List Int) (bs : List Bool) (w : World), NR w A n zs → BR w B k bs → n ≤ 1000 → Calls Try.prog 10 #[.slice A n c, .slice B k d] w fun e w' => ∃ D g, e = .returned (.slice D n g) ∧ NR w' D n (onlyW zs bs) ∧ Below w.heap.size w w'

set_option maxHeartbeats 16000000 in
theorem awake11_ok (C : PickC) (W : World) : Calls Try.prog 6 #[] W fun e w' => e = .returned (.bool true) ∧ Below W.heap.size W w' := by
  have HC := Lib.hid C
  have R1 : Hid (NR (W.alloc (.cells #[.int .i64 2, .int .i64 0, .int .i64 3] 3)) (some ⟨W.heap.size, 0, none⟩) 3 [2, 0, 3]) := Lib.hid (NR.new W 3 [2, 0, 3])
  have K1 := Lib.hid (kp_new W (.cells #[.int .i64 2, .int .i64 0, .int .i64 3] 3))
  have HQ := Lib.hid (show Calls Try.prog 7 #[.slice (some ⟨W.heap.size, 0, none⟩) 3 3] (W.alloc (.cells #[.int .i64 2, .int .i64 0, .int .i64 3] 3)) fun e w' => e = .returned (.bool true) ∧ Below (W.alloc (.cells #[.int .i64 2, .int .i64 0, .int .i64 3] 3)).heap.size (W.alloc (.cells #[.int .i64 2, .int .i64 0, .int .i64 3] 3)) w' from HC.out.right _ 3 3 _ _ R1.out (by omega))
  obtain ⟨A1, hA1⟩ : ∃ a, (some ⟨W.heap.size, 0, none⟩ : Option Addr) = a := ⟨_, rfl⟩
  have HA1 := Lib.hid hA1
  rw [hA1] at R1
  clear C hA1
  go_enter Try.func6, Try.ntmps6
  go_wp2_with fail
  refine HQ.out.mono ?_
  rintro e w2 ⟨rfl, k2⟩
  have K2 := Lib.hid (K1.out.trans (k2.mono K1.out.size))
  have R1 := Lib.hid (R1.out.next k2)
  rw [HA1.out]
  have R3 : Hid (NR (w2.alloc (.cells #[.int .i64 101] 3)) (some ⟨w2.heap.size, 0, none⟩) 1 [101]) := Lib.hid (NR.new w2 3 [101])
  have HQ := Lib.hid (show Calls Try.prog 7 #[.slice (some ⟨w2.heap.size, 0, none⟩) 1 1] (w2.alloc (.cells #[.int .i64 101] 3)) fun e w' => e = .returned (.bool false) ∧ Below (w2.alloc (.cells #[.int .i64 101] 3)).heap.size (w2.alloc (.cells #[.int .i64 101] 3)) w' from HC.out.right _ 1 1 _ _ R3.out (by omega))
  have K3 := Lib.hid (kp_alloc K2.out (.cells #[.int .i64 101] 3))
  have R1 := Lib.hid (R1.out.next (kp_new w2 (.cells #[.int .i64 101] 3)))
  clear k2 K1 K2
  go_wp2_with fail
  refine HQ.out.mono ?_
  rintro e w4 ⟨rfl, k4⟩
  have K4 := Lib.hid (K3.out.trans (k4.mono K3.out.size))
  have R1 := Lib.hid (R1.out.next k4)
  have HQ := Lib.hid (show Calls Try.prog 12 #[.slice A1 3 3] w4 fun e w' => e = .returned (.int .i64 5) ∧ Below w4.heap.size w4 w' from HC.out.sum A1 3 3 _ w4 R1.out rfl)
  clear k4 K3 R3
  go_wp2_with fail
  refine HQ.out.mono ?_
  rintro e w5 ⟨rfl, k5⟩
  have K5 := Lib.hid (K4.out.trans (k5.mono K4.out.size))
  have R1 := Lib.hid (R1.out.next k5)
  have HQ := Lib.hid (show Calls Try.prog 14 #[.slice A1 3 3, .int .u64 7] w5 fun e w' => e = .returned (.int .i64 2) ∧ Below w5.heap.size w5 w' from HC.out.pick A1 3 3 _ 7 w5 R1.out rfl (by omega) (by omega))
  clear k5 K4
  go_wp2_with fail
  refine HQ.out.mono ?_
  rintro e w6 ⟨rfl, k6⟩
  have K6 := Lib.hid (K5.out.trans (k6.mono K5.out.size))
  have R1 := Lib.hid (R1.out.next k6)
  have HQ := Lib.hid (show Calls Try.prog 14 #[.slice none 0 0, .int .u64 7] w6 fun e w' => e = .returned (.int .i64 (-1)) ∧ Below w6.heap.size w6 w' from HC.out.pick none 0 0 [] 7 w6 (NR.nil w6) rfl (by omega) (by omega))
  clear k6 K5
  go_wp2_with fail
  refine HQ.out.mono ?_
  rintro e w7 ⟨rfl, k7⟩
  have K7 := Lib.hid (kp_alloc (K6.out.trans (k7.mono K6.out.size)) (.cells #[.bool true] 4))
  have R1 := Lib.hid ((R1.out.next k7).next (kp_new w7 (.cells #[.bool true] 4)))
  have B8 : Hid (BR (w7.alloc (.cells #[.bool true] 4)) (some ⟨w7.heap.size, 0, none⟩) 1 [true]) := Lib.hid ⟨rfl, (Rd.new w7 4 [.bool true]).more (by simp)⟩
  have HO := Lib.hid (HC.out.only A1 _ 3 3 1 1 _ _ _ R1.out B8.out (by omega))
  clear k7 K6 HQ
  go_wp2_with fail
  refine HO.out.mono ?_
  rintro e w9 ⟨D9, g9, rfl, n9, k9⟩
  have K9 := Lib.hid (kp_alloc (K7.out.trans (k9.mono K7.out.size)) (.cells #[.int .i64 2, .int .i64 0, .int .i64 0] 3))
  have HS := Lib.hid (rsame11_ok D9 (some ⟨w9.heap.size, 0, none⟩) 3 3 g9 3 _ [2, 0, 0] (w9.alloc (.cells #[.int .i64 2, .int .i64 0, .int .i64 0] 3)) (n9.next (kp_new w9 _)) (NR.new w9 3 [2, 0, 0]) (by omega) (by omega) true (Lib.hid rfl))
  clear HO k9 n9 K7 B8
  go_wp2_with fail
  refine HS.out.mono ?_
  rintro e w10 ⟨rfl, q, hq⟩
  have K10 := Lib.hid (K9.out.trans ((hq ▸ kp_drewN _ q : Below (w9.alloc (.cells #[.int .i64 2, .int .i64 0, .int .i64 0] 3)).heap.size (w9.alloc (.cells #[.int .i64 2, .int .i64 0, .int .i64 0] 3)) w10).mono K9.out.size))
  clear hq HS K9
  go_wp2_with fail
  go_ret
  exact ⟨rfl, K10.out⟩
theorem PickC.k (C : PickC) : PickK := ⟨awake11_ok C, C.right, C.sum, C.pick, C.only⟩
end Go.Proofs.Ytbnelkjcmfjlbaa
