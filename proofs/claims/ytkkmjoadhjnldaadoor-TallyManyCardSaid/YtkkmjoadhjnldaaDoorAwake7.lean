/-
  The calls whose answers the document fixes, at layer 7: they answer so.
-/
import Derived.Test.YtkkmjoadhjnldaaDoorTaG
import Derived.Test.YtkkmjoadhjnldaaDoorPlR
import Derived.KernelRfl
namespace Go.Proofs.YtkkmjoadhjnldaaDoor
open Go.RowKit
set_option maxRecDepth 100000

def lA7 : List ByteArray := [⟨#[97]⟩, ⟨#[98]⟩, ⟨#[97]⟩]
def nA7 : List ByteArray := [⟨#[97]⟩, ⟨#[98]⟩]
theorem bls_inj : ∀ {a b : List ByteArray}, bls a = bls b → a = b
  | [], [], _ => rfl
  | [], _ :: _, h => by simp [bls] at h
  | _ :: _, [], h => by simp [bls] at h
  | x :: a, y :: b, h => by
    simp only [bls, List.map_cons, List.cons.injEq] at h
    have h1 : x = y := by
      obtain ⟨⟨x⟩⟩ := x
      obtain ⟨⟨y⟩⟩ := y
      simp at h
      rw [h.1]
    rw [h1, bls_inj (a := a) (b := b) h.2]
section
variable {w0 w : World} {b : Nat} {l ns : List ByteArray} {cs : List Int}
theorem PB.add' (h : PB w0 w b l ns cs) (s : ByteArray) (x : Int) (cs' : List Int) (bo : Bool) (hs : s.size ≤ 1000) (h1 : decide (0 ≤ placeT s ns) = bo) (h2 : addT ns cs s x = cs') : Calls Tryd.prog 12 #[.pointer (some ⟨b, 0, none⟩), .string s, .int .i64 x] w fun e w' => e = .returned (.bool bo) ∧ PB w0 w' b l ns cs' := by
  subst h1 h2
  exact h.add s x hs
theorem PB.count' (h : PB w0 w b l ns cs) (s : ByteArray) (n : Int) (bo : Bool) (hs : s.size ≤ 1000) (h1 : decide (0 ≤ placeT s ns) = bo) (h2 : countT ns cs s = n) : Calls Tryd.prog 16 #[.pointer (some ⟨b, 0, none⟩), .string s] w fun e w' => e = .returned (.tuple #[.int .i64 n, .bool bo]) ∧ PB w0 w' b l ns cs := by
  subst h1 h2
  exact h.count s hs
theorem PB.swap' (h : PB w0 w b l ns cs) (s : ByteArray) (x y : Int) (cs' : List Int) (bo : Bool) (hs : s.size ≤ 1000) (h1 : swapT ns cs s x y = (cs', bo)) : Calls Tryd.prog 14 #[.pointer (some ⟨b, 0, none⟩), .string s, .int .i64 x, .int .i64 y] w fun e w' => e = .returned (.bool bo) ∧ PB w0 w' b l ns cs' := by
  have h2 := h.swap s x y hs
  rw [h1] at h2
  exact h2
end

set_option maxHeartbeats 4000000 in
theorem awake7_ok (w : World) (htab : Lib.TabIs Tryd.prog w tabName .u64 Lib.pow10Tab) :
    Calls Tryd.prog 6 #[] w fun e w' => e = .returned (.bool true) ∧ Below w.heap.size w w' := by
  have HX := Lib.hid (show XR (w.alloc (.cells #[.string ⟨#[97]⟩, .string ⟨#[98]⟩, .string ⟨#[97]⟩] 9)) (some ⟨w.heap.size, 0, none⟩) 3 lA7 from XR.new w 9 lA7)
  have HK := Lib.hid (kp_new w (.cells #[.string ⟨#[97]⟩, .string ⟨#[98]⟩, .string ⟨#[97]⟩] 9))
  have HL := Lib.hid (show ∀ s ∈ lA7, s.size ≤ 1000 from by decide)
  have HT := Lib.hid htab
  clear htab
  go_enter Tryd.func6, Tryd.ntmps6
  go_wp2_with fail
  refine (pb_new w _ 3 3 lA7 _ HX.out (by omega) HL.out HK.out).mono ?_
  rintro e w1 ⟨b, rfl, h1⟩
  have H1 : Hid (PB w w1 b lA7 nA7 [0, 0]) := Lib.hid (by
    have e1 : newT lA7 = nA7 := by decide +kernel
    rw [e1] at h1
    exact h1)
  clear h1
  go_wp2_with fail
  refine (H1.out.add' ⟨#[98]⟩ 2 [0, 2] true (by decide) (by decide +kernel) (by decide +kernel)).mono ?_
  rintro e w2 ⟨rfl, h2⟩
  have H2 := Lib.hid h2
  clear h2
  go_wp2_with fail
  refine (H2.out.add' ⟨#[98]⟩ 1 [0, 3] true (by decide) (by decide +kernel) (by decide +kernel)).mono ?_
  rintro e w3 ⟨rfl, h3⟩
  have H3 := Lib.hid h3
  clear h3
  go_wp2_with fail
  refine (H3.out.count' ⟨#[98]⟩ 3 true (by decide) (by decide +kernel) (by decide +kernel)).mono ?_
  rintro e w4 ⟨rfl, h4⟩
  have H4 := Lib.hid h4
  clear h4
  go_wp2_with fail
  refine (H4.out.add' ⟨#[99]⟩ 1 [0, 3] false (by decide) (by decide +kernel) (by decide +kernel)).mono ?_
  rintro e w5 ⟨rfl, h5⟩
  have H5 := Lib.hid h5
  clear h5
  go_wp2_with fail
  refine H5.out.namesOf.mono ?_
  rintro e w6 ⟨A6, n6, c6, rfl, hx6, hn6, h6⟩
  have HX6 := Lib.hid (hx6.next (kp_new w6 (.cells #[.string ⟨#[97]⟩, .string ⟨#[98]⟩] 9)))
  have HY6 := Lib.hid (show XR (w6.alloc (.cells #[.string ⟨#[97]⟩, .string ⟨#[98]⟩] 9)) (some ⟨w6.heap.size, 0, none⟩) 2 nA7 from XR.new w6 9 nA7)
  have H6 := Lib.hid (h6.next (kp_new w6 (.cells #[.string ⟨#[97]⟩, .string ⟨#[98]⟩] 9)))
  clear h6 hx6
  go_wp2_with fail
  refine (texts6_ok _ _ n6 2 c6 2 nA7 nA7 _ HX6.out HY6.out (by omega) (by omega) true (Lib.hid (by simp))).mono ?_
  rintro e w7 ⟨rfl, m7, rfl⟩
  have h7 := H6.out.next (kp_drewN _ m7)
  generalize (w6.alloc (.cells #[.string ⟨#[97]⟩, .string ⟨#[98]⟩] 9)).drewN m7 = w7 at *
  have H7 := Lib.hid h7
  clear h7
  go_wp2_with fail
  refine (H7.out.lines HT.out (by decide) (by decide)).mono ?_
  rintro e w8 ⟨A8, n8, c8, ss, rfl, hx8, hs8, hn8, h8⟩
  obtain rfl : ss = [⟨#[98, 32, 51]⟩] := bls_inj (by
    rw [hs8]
    show linesT nA7 [0, 3] = [[98, 32, 51]]
    unfold nA7
    rw [linesT, if_pos rfl, linesT, if_neg (by decide), linesT]
    · simp only [lineT]
      rw [show (3 : Int) = ((3 : Nat) : Int) from rfl, itoa_up (by decide), dec_small (by decide)]
      rfl
    all_goals simp)
  have HX8 := Lib.hid (hx8.next (kp_new w8 (.cells #[.string ⟨#[98, 32, 51]⟩] 9)))
  have HY8 := Lib.hid (show XR (w8.alloc (.cells #[.string ⟨#[98, 32, 51]⟩] 9)) (some ⟨w8.heap.size, 0, none⟩) 1 [⟨#[98, 32, 51]⟩] from XR.new w8 9 [⟨#[98, 32, 51]⟩])
  have H8 := Lib.hid (h8.next (kp_new w8 (.cells #[.string ⟨#[98, 32, 51]⟩] 9)))
  clear h8 hx8 hs8
  go_wp2_with fail
  refine (texts6_ok _ _ n8 1 c8 1 _ _ _ HX8.out HY8.out (by omega) (by omega) true (Lib.hid (by simp))).mono ?_
  rintro e w9 ⟨rfl, m9, rfl⟩
  have h9 := H8.out.next (kp_drewN _ m9)
  generalize (w8.alloc (.cells #[.string ⟨#[98, 32, 51]⟩] 9)).drewN m9 = w9 at *
  have H9 := Lib.hid h9
  clear h9
  go_wp2_with fail
  refine (H9.out.swap' ⟨#[97]⟩ 0 5 [5, 3] true (by decide) (by decide +kernel)).mono ?_
  rintro e w10 ⟨rfl, h10⟩
  have H10 := Lib.hid h10
  clear h10
  go_wp2_with fail
  refine (H10.out.swap' ⟨#[97]⟩ 0 5 [5, 3] false (by decide) (by decide +kernel)).mono ?_
  rintro e w11 ⟨rfl, h11⟩
  have H11 := Lib.hid h11
  clear h11
  go_wp2_with fail
  go_ret
  exact ⟨rfl, H11.out.low⟩
end Go.Proofs.YtkkmjoadhjnldaaDoor
