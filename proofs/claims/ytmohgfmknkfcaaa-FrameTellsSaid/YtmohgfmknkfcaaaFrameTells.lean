/-
  FrameTells answers true for every input: the bytes of any frame, the frame that any bytes begin with, and whether frames are the same, are as the document's own functions say. No condition.
-/
import Derived.Test.YtmohgfmknkfcaaaAwake2
import Derived.Test.YtmohgfmknkfcaaaFrameR
import Derived.Test.YtmohgfmknkfcaaaFrameM
import Derived.Test.YtmohgfmknkfcaaaOpenF
import Derived.Test.YtmohgfmknkfcaaaFrameS
namespace Go.Proofs.Ytmohgfmknkfcaaa
open Go.RowKit

set_option maxRecDepth 100000 in
set_option maxHeartbeats 4000000 in
theorem frameTells_walk (k : UInt8) (A : Option Addr) (l c : Nat) (bs : List UInt8) (k' : UInt8) (A' : Option Addr) (l' c' : Nat) (bs' : List UInt8) (Ab : Option Addr) (lb cb : Nat) (bb : List UInt8) (w : World)
    (hf : Sl w w.heap.size A l c bs) (_ : c ≤ 9223372036854775807) (hg : Sl w w.heap.size A' l' c' bs') (_ : c' ≤ 9223372036854775807) (hb : Sl w w.heap.size Ab lb cb bb) (_ : cb ≤ 9223372036854775807)
    (h1 : l ≤ 2000) (h2 : l' ≤ 2000) (h3 : lb ≤ 2000) :
    Calls Try.prog 3 #[frV k A l c, frV k' A' l' c', .slice Ab lb cb] w fun e w' => e = .returned (.bool true) ∧ Below w.heap.size w w' := by
  have d1 : decide ((2000 : Int) < (l : Int)) = false := by simp; omega
  have d2 : decide ((2000 : Int) < (l' : Int)) = false := by simp; omega
  have d3 : decide ((2000 : Int) < (lb : Int)) = false := by simp; omega
  generalize hw1 : (w.alloc (.cells #[.int .u8 (k.toNat : Int), .slice A l c] 24)).alloc (.cells #[.int .u8 (k'.toNat : Int), .slice A' l' c'] 24) = w1
  have k1 : Below w.heap.size w w1 := by rw [← hw1]; exact kp_alloc (kp_new _ _) _
  have b0 : w1.heap[w.heap.size]? = some (.cells #[.int .u8 (k.toNat : Int), .slice A l c] 24 (0, 0)) := by
    rw [← hw1]; exact two_new (kp_new _ _)
  have b1 : w1.heap[w.heap.size + 1]? = some (.cells #[.int .u8 (k'.toNat : Int), .slice A' l' c'] 24 (0, 0)) := by
    rw [← hw1]; have := heap_alloc_new (w.alloc (.cells #[.int .u8 (k.toNat : Int), .slice A l c] 24)) (.cells #[.int .u8 (k'.toNat : Int), .slice A' l' c'] 24); simpa using this
  have z1 : w.heap.size + 1 < w1.heap.size := (Array.getElem?_eq_some_iff.1 b1).1
  have HW := Lib.hid hw1
  have B0 := Lib.hid b0
  have B1 := Lib.hid b1
  clear hw1 b0 b1
  unfold frV
  go_enter Try.func3, Try.ntmps3
  go_wp2_with fail
  rw [HW.out]
  refine (awake2 w1).mono ?_
  rintro e w2 ⟨rfl, kb2⟩
  have k2 := kp_trans k1 kb2
  have z2 : w.heap.size + 1 < w2.heap.size := by have := kb2.size; omega
  obtain ⟨c0, c1, _, _⟩ := two_cells ((kb2.block _ (by omega)).trans B0.out)
  obtain ⟨c2, c3, _, _⟩ := two_cells ((kb2.block _ (by omega)).trans B1.out)
  go_wp2_with fail
  have X := bytes_any k A bs l c w2 (hf.next k2)
  unfold AnsY frV at X
  refine X.mono ?_
  clear X
  rintro e w3 ⟨A3, l3, q3, rfl, ho3, kb3⟩
  have k3 := kp_trans k2 kb3
  have z3 : w.heap.size + 1 < w3.heap.size := by have := kb3.size; omega
  clear c0 c1 c2 c3
  obtain ⟨c0, c1, _, _⟩ := two_cells (((kp_trans kb2 kb3).block _ (by omega)).trans B0.out)
  go_wp2_with fail
  have X := rbytes_any k A bs l c w3 (hf.next k3)
  unfold AnsY frV at X
  refine X.mono ?_
  clear X
  rintro e w4 ⟨A4, l4, q4, rfl, ho4, kb4⟩
  have k4 := kp_trans k3 kb4
  clear c0 c1
  go_wp2_with fail
  refine (read_any Ab bb lb cb w4 (hb.next k4) (by omega)).mono ?_
  rintro e w5 ⟨A5, l5, q5, rfl, ho5, kb5⟩
  unfold frV
  have k5 := kp_trans k4 kb5
  have X := rread_any Ab bb lb cb
  have hrl := readF_len bb
  have hyl := bytesF_len k bs
  generalize readF bb = R at *
  obtain ⟨rk, rb, rn, rx⟩ := R
  have ho5 : Ow w5 w4.heap.size A5 l5 q5 rb := ho5
  generalize hw6 : w5.alloc (.cells #[.int .u8 (rk.toNat : Int), .slice A5 l5 q5] 24) = w6
  have kb6 : Below w5.heap.size w5 w6 := by rw [← hw6]; exact kp_new _ _
  have b5 : w6.heap[w5.heap.size]? = some (.cells #[.int .u8 (rk.toNat : Int), .slice A5 l5 q5] 24 (0, 0)) := by
    rw [← hw6]; exact heap_alloc_new _ _
  have k6 := kp_trans k5 kb6
  have HW6 := Lib.hid hw6
  have HX := Lib.hid (X w6 (hb.next k6) (by omega))
  have B5 := Lib.hid b5
  clear hw6 X b5
  go_wp2_with fail
  rw [HW6.out]
  refine HX.out.mono ?_
  rintro e w7 ⟨A7, l7, q7, rfl, ho7, kb7⟩
  unfold frV
  have ho7 : Ow w7 w6.heap.size A7 l7 q7 rb := ho7
  have k7 := kp_trans k6 kb7
  generalize hw8 : w7.alloc (.cells #[.int .u8 (rk.toNat : Int), .slice A7 l7 q7] 30) = w8
  have kb8 : Below w7.heap.size w7 w8 := by rw [← hw8]; exact kp_new _ _
  have b7 : w8.heap[w7.heap.size]? = some (.cells #[.int .u8 (rk.toNat : Int), .slice A7 l7 q7] 30 (0, 0)) := by
    rw [← hw8]; exact heap_alloc_new _ _
  have k8 := kp_trans k7 kb8
  have z8 : w7.heap.size < w8.heap.size := (Array.getElem?_eq_some_iff.1 b7).1
  have z6 : w5.heap.size < w6.heap.size := (Array.getElem?_eq_some_iff.1 B5.out).1
  have y7 := kb7.size
  have y5 := kb5.size
  have y4 := kb4.size
  have HW8 := Lib.hid hw8
  obtain ⟨n0, n1, _, _⟩ := two_cells b7
  obtain ⟨m0, m1, _, _⟩ := two_cells (((kp_trans kb7 kb8).block _ (by omega)).trans B5.out)
  have u18 := kp_trans (kp_trans (kp_trans (kp_trans (kp_trans (kp_trans kb2 kb3) kb4) kb5) kb6) kb7) kb8
  obtain ⟨f0, f1, _, _⟩ := two_cells ((u18.block _ (by omega)).trans B0.out)
  obtain ⟨g0, g1, _, _⟩ := two_cells ((u18.block _ (by omega)).trans B1.out)
  have s3 := ho3.sl.next (kp_trans (kp_trans (kp_trans (kp_trans kb4 kb5) kb6) kb7) kb8)
  have s4 := ho4.sl.next (kp_trans (kp_trans (kp_trans kb5 kb6) kb7) kb8)
  have s5 := ho5.sl.next (kp_trans (kp_trans kb6 kb7) kb8)
  have s7 := ho7.sl.next kb8
  have sf := hf.next k8
  have sg := hg.next k8
  generalize (bytesF k bs).2 = xe at *
  have hl3 : l3 ≤ 1000000 := by rw [← ho3.len]; omega
  have hl5 : rb.length ≤ 1000000 := by have h5 : rb.length ≤ 300 := hrl; omega
  have hlf : bs.length ≤ 1000000 := by rw [hf.len]; omega
  generalize (bytesF k bs).1 = yb at *
  have HK : Hid (∀ w', Below w8.heap.size w8 w' → w'.cell? ⟨w7.heap.size, 0, none⟩ = some (.int .u8 (rk.toNat : Int)) ∧ w'.cell? ⟨w7.heap.size, 1, none⟩ = some (.slice A7 l7 q7) ∧ w'.cell? ⟨w5.heap.size, 0, none⟩ = some (.int .u8 (rk.toNat : Int)) ∧ w'.cell? ⟨w5.heap.size, 1, none⟩ = some (.slice A5 l5 q5)
      ∧ w'.cell? ⟨w.heap.size, 0, none⟩ = some (.int .u8 (k.toNat : Int)) ∧ w'.cell? ⟨w.heap.size, 1, none⟩ = some (.slice A l c) ∧ w'.cell? ⟨w.heap.size + 1, 0, none⟩ = some (.int .u8 (k'.toNat : Int)) ∧ w'.cell? ⟨w.heap.size + 1, 1, none⟩ = some (.slice A' l' c')) :=
    Lib.hid fun w' h => ⟨(h.cell (by exact z8)).trans n0, (h.cell (by exact z8)).trans n1, (h.cell (by show w5.heap.size < _; omega)).trans m0, (h.cell (by show w5.heap.size < _; omega)).trans m1,
      (h.cell (by show w.heap.size < _; omega)).trans f0, (h.cell (by show w.heap.size < _; omega)).trans f1, (h.cell (by show w.heap.size + 1 < _; omega)).trans g0, (h.cell (by show w.heap.size + 1 < _; omega)).trans g1⟩
  obtain ⟨rr, hrr⟩ : ∃ rr, decide (k = k' ∧ bs = bs') = rr := ⟨_, rfl⟩
  have hr2 : Hid (decide (says [⟨k, ⟨A, l, c, bs⟩⟩] = says [⟨k', ⟨A', l', c', bs'⟩⟩]) = rr) := Lib.hid (by rw [← hrr]; simp [says, Rep.says])
  have hr1 := Lib.hid hrr
  have hr0 : Hid (decide (says [⟨rk, ⟨A5, l5, q5, rb⟩⟩] = says [⟨rk, ⟨A7, l7, q7, rb⟩⟩]) = true) := Lib.hid (by simp [says, Rep.says])
  clear hw8 b7 n0 n1 m0 m1 f0 f1 g0 g1 hrr
  go_wp2_with fail
  rw [HW8.out]
  clear HW8 HW6 HX B5 B0 B1 HW
  refine wp_region_specs (S := fun u => Below w8.heap.size w8 u) (Sp := [(56, Stb.eq (.slice A3 l3 q3)), (57, Stb.eq (.slice A4 l4 q4)), (58, Stb.eq (.bool true)), (59, Stb.eq (.bool true)), (60, Stb.eq (.int .i64 xe)), (61, Stb.eq (.int .i64 xe)), (62, Stb.eq (.bool true)), (63, Stb.eq (.bool true)), (64, Stb.eq (.bool true)), (65, Stb.eq (.agg #[.int .u8 (rk.toNat : Int), .slice A5 l5 q5])), (66, rowStb ([.int .u8 (rk.toNat : Int), .slice A5 l5 q5])), (67, frStb ⟨rk, ⟨A5, l5, q5, rb⟩⟩), (68, Stb.eq (.agg #[.int .u8 (rk.toNat : Int), .slice A7 l7 q7])), (69, rowStb ([.int .u8 (rk.toNat : Int), .slice A7 l7 q7])), (70, Stb.eq (.bool true)), (71, Stb.eq (.bool true)), (72, Stb.eq (.bool true)), (73, Stb.eq (.int .i64 (rn : Int))), (74, Stb.eq (.int .i64 (rn : Int))), (75, Stb.eq (.bool true)), (76, Stb.eq (.bool true)), (77, Stb.eq (.bool true)), (78, Stb.eq (.int .i64 rx)), (79, Stb.eq (.int .i64 rx)), (80, Stb.eq (.bool true)), (81, Stb.eq (.bool true)), (82, Stb.eq (.bool true)), (83, Stb.eq (.agg #[.int .u8 (k.toNat : Int), .slice A l c])), (84, Stb.eq (.agg #[.int .u8 (k'.toNat : Int), .slice A' l' c'])), (85, Stb.eq (.bool rr)), (86, Stb.eq (.agg #[.int .u8 (k.toNat : Int), .slice A l c])), (87, rowStb ([.int .u8 (k.toNat : Int), .slice A l c])), (88, frStb ⟨k, ⟨A, l, c, bs⟩⟩), (89, Stb.eq (.agg #[.int .u8 (k'.toNat : Int), .slice A' l' c'])), (90, rowStb ([.int .u8 (k'.toNat : Int), .slice A' l' c'])), (91, frStb ⟨k', ⟨A', l', c', bs'⟩⟩), (92, Stb.eq (.bool rr)), (93, Stb.eq (.bool true)), (94, Stb.eq (.bool true)), (6, Stb.eq (.bool true))]) (by kernel_rfl) (by kernel_rfl) (kp_drewN _ 1) ?_ ?_
  · refine EachOp.cons ?_ ?_
    · intro a u hst hS hdep
      have h7 : a.tmps.getD 7 undef = .slice A3 l3 q3 := hst.out 7 (by kernel_rfl)
      refine ⟨trivial, ?_⟩
      have g7 := gd h7
      go_simp
      exact Goes.same hS rfl
    refine EachOp.cons ?_ ?_
    · intro a u hst hS hdep
      have h9 : a.tmps.getD 9 undef = .slice A4 l4 q4 := hst.out 9 (by kernel_rfl)
      refine ⟨trivial, ?_⟩
      have g9 := gd h9
      go_simp
      exact Goes.same hS rfl
    refine EachOp.cons ?_ ?_
    · intro a u hst hS hdep
      have h56 : a.tmps.getD 56 undef = .slice A3 l3 q3 := hdep 56 (by kernel_rfl)
      have h57 : a.tmps.getD 57 undef = .slice A4 l4 q4 := hdep 57 (by kernel_rfl)
      refine ⟨trivial, ?_⟩
      have g56 := gd h56
      have g57 := gd h57
      go_simp
      refine (same_kp _ _ yb yb _ _ _ _ _ _ _ (s3.next hS) (s4.next hS) hl3 true (Lib.hid (by simp))).mono ?_
      rintro e u' ⟨rfl, hb'⟩
      exact Goes.next (kp_trans hS hb') hb' rfl
    refine EachOp.cons ?_ ?_
    · intro a u hst hS hdep
      have h58 : a.tmps.getD 58 undef = .bool true := hdep 58 (by kernel_rfl)
      refine ⟨trivial, ?_⟩
      have g58 := gd h58
      go_simp
      exact Goes.same hS rfl
    refine EachOp.cons ?_ ?_
    · intro a u hst hS hdep
      have h8 : a.tmps.getD 8 undef = .int .i64 xe := hst.out 8 (by kernel_rfl)
      have h59 : a.tmps.getD 59 undef = .bool true := hdep 59 (by kernel_rfl)
      refine ⟨⟨59, by kernel_rfl, h59⟩, ?_⟩
      clear h59
      have g8 := gd h8
      go_simp
      exact Goes.same hS rfl
    refine EachOp.cons ?_ ?_
    · intro a u hst hS hdep
      have h10 : a.tmps.getD 10 undef = .int .i64 xe := hst.out 10 (by kernel_rfl)
      have h59 : a.tmps.getD 59 undef = .bool true := hdep 59 (by kernel_rfl)
      refine ⟨⟨59, by kernel_rfl, h59⟩, ?_⟩
      clear h59
      have g10 := gd h10
      go_simp
      exact Goes.same hS rfl
    refine EachOp.cons ?_ ?_
    · intro a u hst hS hdep
      have h60 : a.tmps.getD 60 undef = .int .i64 xe := hdep 60 (by kernel_rfl)
      have h61 : a.tmps.getD 61 undef = .int .i64 xe := hdep 61 (by kernel_rfl)
      have h59 : a.tmps.getD 59 undef = .bool true := hdep 59 (by kernel_rfl)
      refine ⟨⟨59, by kernel_rfl, h59⟩, ?_⟩
      clear h59
      have g60 := gd h60
      have g61 := gd h61
      go_simp
      exact Goes.same hS rfl
    refine EachOp.cons ?_ ?_
    · intro a u hst hS hdep
      have h59 : a.tmps.getD 59 undef = .bool true := hdep 59 (by kernel_rfl)
      have h62 : a.tmps.getD 62 undef = .bool true := hdep 62 (by kernel_rfl)
      refine ⟨trivial, ?_⟩
      have g59 := gd h59
      have g62 := gd h62
      go_simp
      exact Goes.same hS rfl
    refine EachOp.cons ?_ ?_
    · intro a u hst hS hdep
      have h63 : a.tmps.getD 63 undef = .bool true := hdep 63 (by kernel_rfl)
      refine ⟨trivial, ?_⟩
      have g63 := gd h63
      go_simp
      exact Goes.same hS rfl
    refine EachOp.cons ?_ ?_
    · intro a u hst hS hdep
      have h11 : a.tmps.getD 11 undef = .pointer (some ⟨w5.heap.size, 0, none⟩) := hst.out 11 (by kernel_rfl)
      have h64 : a.tmps.getD 64 undef = .bool true := hdep 64 (by kernel_rfl)
      refine ⟨⟨64, by kernel_rfl, h64⟩, ?_⟩
      clear h64
      have g11 := gd h11
      obtain ⟨n0, n1, m0, m1, f0, f1, g0, g1⟩ := HK.out u hS
      go_simp
      exact Goes.same hS rfl
    refine EachOp.cons ?_ ?_
    · intro a u hst hS hdep
      have h65 : a.tmps.getD 65 undef = .agg #[.int .u8 (rk.toNat : Int), .slice A5 l5 q5] := hdep 65 (by kernel_rfl)
      have h64 : a.tmps.getD 64 undef = .bool true := hdep 64 (by kernel_rfl)
      refine ⟨⟨64, by kernel_rfl, h64⟩, ?_⟩
      clear h64
      have g65 := gd h65
      go_simp
      refine Goes.next (kp_alloc hS _) (kp_new _ _) ?_; exact ⟨_, rfl, rdn u 24 _ rfl [.int .u8 (rk.toNat : Int), .slice A5 l5 q5]⟩
    refine EachOp.cons ?_ ?_
    · intro a u hst hS hdep
      obtain ⟨n66, h66, r66⟩ := hdep 66 (by kernel_rfl)
      have h64 : a.tmps.getD 64 undef = .bool true := hdep 64 (by kernel_rfl)
      refine ⟨⟨64, by kernel_rfl, h64⟩, ?_⟩
      clear h64
      have g66 := gd h66
      go_simp
      refine (frames_any _ 1 _ [⟨rk, ⟨A5, l5, q5, rb⟩⟩] _ (fr1 rk A5 l5 q5 rb r66 (s5.next hS)) (by omega)).mono ?_
      rintro e u' ⟨A', c', rfl, hf', hb'⟩
      exact Goes.next (kp_trans hS hb') hb' ⟨_, _, rfl, hf'⟩
    refine EachOp.cons ?_ ?_
    · intro a u hst hS hdep
      have h14 : a.tmps.getD 14 undef = .pointer (some ⟨w7.heap.size, 0, none⟩) := hst.out 14 (by kernel_rfl)
      have h64 : a.tmps.getD 64 undef = .bool true := hdep 64 (by kernel_rfl)
      refine ⟨⟨64, by kernel_rfl, h64⟩, ?_⟩
      clear h64
      have g14 := gd h14
      obtain ⟨n0, n1, m0, m1, f0, f1, g0, g1⟩ := HK.out u hS
      go_simp
      exact Goes.same hS rfl
    refine EachOp.cons ?_ ?_
    · intro a u hst hS hdep
      have h68 : a.tmps.getD 68 undef = .agg #[.int .u8 (rk.toNat : Int), .slice A7 l7 q7] := hdep 68 (by kernel_rfl)
      have h64 : a.tmps.getD 64 undef = .bool true := hdep 64 (by kernel_rfl)
      refine ⟨⟨64, by kernel_rfl, h64⟩, ?_⟩
      clear h64
      have g68 := gd h68
      go_simp
      refine Goes.next (kp_alloc hS _) (kp_new _ _) ?_; exact ⟨_, rfl, rdn u 30 _ rfl [.int .u8 (rk.toNat : Int), .slice A7 l7 q7]⟩
    refine EachOp.cons ?_ ?_
    · intro a u hst hS hdep
      obtain ⟨A67, c67, h67, r67⟩ := hdep 67 (by kernel_rfl)
      obtain ⟨n69, h69, r69⟩ := hdep 69 (by kernel_rfl)
      have h64 : a.tmps.getD 64 undef = .bool true := hdep 64 (by kernel_rfl)
      refine ⟨⟨64, by kernel_rfl, h64⟩, ?_⟩
      clear h64
      have g67 := gd h67
      have g69 := gd h69
      go_simp
      refine (rsame_kp _ _ [⟨rk, ⟨A5, l5, q5, rb⟩⟩] [⟨rk, ⟨A7, l7, q7, rb⟩⟩] _ _ _ _ _ r67 (fr1 rk A7 l7 q7 rb r69 (s7.next hS)) (by omega) (by simpa using hl5) true hr0).mono ?_
      rintro e u' ⟨rfl, hb'⟩
      exact Goes.next (kp_trans hS hb') hb' rfl
    refine EachOp.cons ?_ ?_
    · intro a u hst hS hdep
      have h64 : a.tmps.getD 64 undef = .bool true := hdep 64 (by kernel_rfl)
      have h70 : a.tmps.getD 70 undef = .bool true := hdep 70 (by kernel_rfl)
      refine ⟨trivial, ?_⟩
      have g64 := gd h64
      have g70 := gd h70
      go_simp
      exact Goes.same hS rfl
    refine EachOp.cons ?_ ?_
    · intro a u hst hS hdep
      have h71 : a.tmps.getD 71 undef = .bool true := hdep 71 (by kernel_rfl)
      refine ⟨trivial, ?_⟩
      have g71 := gd h71
      go_simp
      exact Goes.same hS rfl
    refine EachOp.cons ?_ ?_
    · intro a u hst hS hdep
      have h12 : a.tmps.getD 12 undef = .int .i64 (rn : Int) := hst.out 12 (by kernel_rfl)
      have h72 : a.tmps.getD 72 undef = .bool true := hdep 72 (by kernel_rfl)
      refine ⟨⟨72, by kernel_rfl, h72⟩, ?_⟩
      clear h72
      have g12 := gd h12
      go_simp
      exact Goes.same hS rfl
    refine EachOp.cons ?_ ?_
    · intro a u hst hS hdep
      have h15 : a.tmps.getD 15 undef = .int .i64 (rn : Int) := hst.out 15 (by kernel_rfl)
      have h72 : a.tmps.getD 72 undef = .bool true := hdep 72 (by kernel_rfl)
      refine ⟨⟨72, by kernel_rfl, h72⟩, ?_⟩
      clear h72
      have g15 := gd h15
      go_simp
      exact Goes.same hS rfl
    refine EachOp.cons ?_ ?_
    · intro a u hst hS hdep
      have h73 : a.tmps.getD 73 undef = .int .i64 (rn : Int) := hdep 73 (by kernel_rfl)
      have h74 : a.tmps.getD 74 undef = .int .i64 (rn : Int) := hdep 74 (by kernel_rfl)
      have h72 : a.tmps.getD 72 undef = .bool true := hdep 72 (by kernel_rfl)
      refine ⟨⟨72, by kernel_rfl, h72⟩, ?_⟩
      clear h72
      have g73 := gd h73
      have g74 := gd h74
      go_simp
      exact Goes.same hS rfl
    refine EachOp.cons ?_ ?_
    · intro a u hst hS hdep
      have h72 : a.tmps.getD 72 undef = .bool true := hdep 72 (by kernel_rfl)
      have h75 : a.tmps.getD 75 undef = .bool true := hdep 75 (by kernel_rfl)
      refine ⟨trivial, ?_⟩
      have g72 := gd h72
      have g75 := gd h75
      go_simp
      exact Goes.same hS rfl
    refine EachOp.cons ?_ ?_
    · intro a u hst hS hdep
      have h76 : a.tmps.getD 76 undef = .bool true := hdep 76 (by kernel_rfl)
      refine ⟨trivial, ?_⟩
      have g76 := gd h76
      go_simp
      exact Goes.same hS rfl
    refine EachOp.cons ?_ ?_
    · intro a u hst hS hdep
      have h13 : a.tmps.getD 13 undef = .int .i64 rx := hst.out 13 (by kernel_rfl)
      have h77 : a.tmps.getD 77 undef = .bool true := hdep 77 (by kernel_rfl)
      refine ⟨⟨77, by kernel_rfl, h77⟩, ?_⟩
      clear h77
      have g13 := gd h13
      go_simp
      exact Goes.same hS rfl
    refine EachOp.cons ?_ ?_
    · intro a u hst hS hdep
      have h16 : a.tmps.getD 16 undef = .int .i64 rx := hst.out 16 (by kernel_rfl)
      have h77 : a.tmps.getD 77 undef = .bool true := hdep 77 (by kernel_rfl)
      refine ⟨⟨77, by kernel_rfl, h77⟩, ?_⟩
      clear h77
      have g16 := gd h16
      go_simp
      exact Goes.same hS rfl
    refine EachOp.cons ?_ ?_
    · intro a u hst hS hdep
      have h78 : a.tmps.getD 78 undef = .int .i64 rx := hdep 78 (by kernel_rfl)
      have h79 : a.tmps.getD 79 undef = .int .i64 rx := hdep 79 (by kernel_rfl)
      have h77 : a.tmps.getD 77 undef = .bool true := hdep 77 (by kernel_rfl)
      refine ⟨⟨77, by kernel_rfl, h77⟩, ?_⟩
      clear h77
      have g78 := gd h78
      have g79 := gd h79
      go_simp
      exact Goes.same hS rfl
    refine EachOp.cons ?_ ?_
    · intro a u hst hS hdep
      have h77 : a.tmps.getD 77 undef = .bool true := hdep 77 (by kernel_rfl)
      have h80 : a.tmps.getD 80 undef = .bool true := hdep 80 (by kernel_rfl)
      refine ⟨trivial, ?_⟩
      have g77 := gd h77
      have g80 := gd h80
      go_simp
      exact Goes.same hS rfl
    refine EachOp.cons ?_ ?_
    · intro a u hst hS hdep
      have h81 : a.tmps.getD 81 undef = .bool true := hdep 81 (by kernel_rfl)
      refine ⟨trivial, ?_⟩
      have g81 := gd h81
      go_simp
      exact Goes.same hS rfl
    refine EachOp.cons ?_ ?_
    · intro a u hst hS hdep
      have h3 : a.tmps.getD 3 undef = .pointer (some ⟨w.heap.size, 0, none⟩) := hst.out 3 (by kernel_rfl)
      have h82 : a.tmps.getD 82 undef = .bool true := hdep 82 (by kernel_rfl)
      refine ⟨⟨82, by kernel_rfl, h82⟩, ?_⟩
      clear h82
      have g3 := gd h3
      obtain ⟨n0, n1, m0, m1, f0, f1, g0, g1⟩ := HK.out u hS
      go_simp
      exact Goes.same hS rfl
    refine EachOp.cons ?_ ?_
    · intro a u hst hS hdep
      have h4 : a.tmps.getD 4 undef = .pointer (some ⟨w.heap.size + 1, 0, none⟩) := hst.out 4 (by kernel_rfl)
      have h82 : a.tmps.getD 82 undef = .bool true := hdep 82 (by kernel_rfl)
      refine ⟨⟨82, by kernel_rfl, h82⟩, ?_⟩
      clear h82
      have g4 := gd h4
      obtain ⟨n0, n1, m0, m1, f0, f1, g0, g1⟩ := HK.out u hS
      go_simp
      exact Goes.same hS rfl
    refine EachOp.cons ?_ ?_
    · intro a u hst hS hdep
      have h83 : a.tmps.getD 83 undef = .agg #[.int .u8 (k.toNat : Int), .slice A l c] := hdep 83 (by kernel_rfl)
      have h84 : a.tmps.getD 84 undef = .agg #[.int .u8 (k'.toNat : Int), .slice A' l' c'] := hdep 84 (by kernel_rfl)
      have h82 : a.tmps.getD 82 undef = .bool true := hdep 82 (by kernel_rfl)
      refine ⟨⟨82, by kernel_rfl, h82⟩, ?_⟩
      clear h82
      have g83 := gd h83
      have g84 := gd h84
      go_simp
      refine (fsame_any k k' _ _ bs bs' _ _ _ _ _ (sf.next hS) (sg.next hS) rr hr1).mono ?_
      rintro e u' ⟨rfl, hb'⟩
      exact Goes.next (kp_trans hS hb') hb' rfl
    refine EachOp.cons ?_ ?_
    · intro a u hst hS hdep
      have h3 : a.tmps.getD 3 undef = .pointer (some ⟨w.heap.size, 0, none⟩) := hst.out 3 (by kernel_rfl)
      have h82 : a.tmps.getD 82 undef = .bool true := hdep 82 (by kernel_rfl)
      refine ⟨⟨82, by kernel_rfl, h82⟩, ?_⟩
      clear h82
      have g3 := gd h3
      obtain ⟨n0, n1, m0, m1, f0, f1, g0, g1⟩ := HK.out u hS
      go_simp
      exact Goes.same hS rfl
    refine EachOp.cons ?_ ?_
    · intro a u hst hS hdep
      have h86 : a.tmps.getD 86 undef = .agg #[.int .u8 (k.toNat : Int), .slice A l c] := hdep 86 (by kernel_rfl)
      have h82 : a.tmps.getD 82 undef = .bool true := hdep 82 (by kernel_rfl)
      refine ⟨⟨82, by kernel_rfl, h82⟩, ?_⟩
      clear h82
      have g86 := gd h86
      go_simp
      refine Goes.next (kp_alloc hS _) (kp_new _ _) ?_; exact ⟨_, rfl, rdn u 24 _ rfl [.int .u8 (k.toNat : Int), .slice A l c]⟩
    refine EachOp.cons ?_ ?_
    · intro a u hst hS hdep
      obtain ⟨n87, h87, r87⟩ := hdep 87 (by kernel_rfl)
      have h82 : a.tmps.getD 82 undef = .bool true := hdep 82 (by kernel_rfl)
      refine ⟨⟨82, by kernel_rfl, h82⟩, ?_⟩
      clear h82
      have g87 := gd h87
      go_simp
      refine (frames_any _ 1 _ [⟨k, ⟨A, l, c, bs⟩⟩] _ (fr1 k A l c bs r87 (sf.next hS)) (by omega)).mono ?_
      rintro e u' ⟨A', c', rfl, hf', hb'⟩
      exact Goes.next (kp_trans hS hb') hb' ⟨_, _, rfl, hf'⟩
    refine EachOp.cons ?_ ?_
    · intro a u hst hS hdep
      have h4 : a.tmps.getD 4 undef = .pointer (some ⟨w.heap.size + 1, 0, none⟩) := hst.out 4 (by kernel_rfl)
      have h82 : a.tmps.getD 82 undef = .bool true := hdep 82 (by kernel_rfl)
      refine ⟨⟨82, by kernel_rfl, h82⟩, ?_⟩
      clear h82
      have g4 := gd h4
      obtain ⟨n0, n1, m0, m1, f0, f1, g0, g1⟩ := HK.out u hS
      go_simp
      exact Goes.same hS rfl
    refine EachOp.cons ?_ ?_
    · intro a u hst hS hdep
      have h89 : a.tmps.getD 89 undef = .agg #[.int .u8 (k'.toNat : Int), .slice A' l' c'] := hdep 89 (by kernel_rfl)
      have h82 : a.tmps.getD 82 undef = .bool true := hdep 82 (by kernel_rfl)
      refine ⟨⟨82, by kernel_rfl, h82⟩, ?_⟩
      clear h82
      have g89 := gd h89
      go_simp
      refine Goes.next (kp_alloc hS _) (kp_new _ _) ?_; exact ⟨_, rfl, rdn u 24 _ rfl [.int .u8 (k'.toNat : Int), .slice A' l' c']⟩
    refine EachOp.cons ?_ ?_
    · intro a u hst hS hdep
      obtain ⟨n90, h90, r90⟩ := hdep 90 (by kernel_rfl)
      have h82 : a.tmps.getD 82 undef = .bool true := hdep 82 (by kernel_rfl)
      refine ⟨⟨82, by kernel_rfl, h82⟩, ?_⟩
      clear h82
      have g90 := gd h90
      go_simp
      refine (frames_any _ 1 _ [⟨k', ⟨A', l', c', bs'⟩⟩] _ (fr1 k' A' l' c' bs' r90 (sg.next hS)) (by omega)).mono ?_
      rintro e u' ⟨A', c', rfl, hf', hb'⟩
      exact Goes.next (kp_trans hS hb') hb' ⟨_, _, rfl, hf'⟩
    refine EachOp.cons ?_ ?_
    · intro a u hst hS hdep
      obtain ⟨A88, c88, h88, r88⟩ := hdep 88 (by kernel_rfl)
      obtain ⟨A91, c91, h91, r91⟩ := hdep 91 (by kernel_rfl)
      have h82 : a.tmps.getD 82 undef = .bool true := hdep 82 (by kernel_rfl)
      refine ⟨⟨82, by kernel_rfl, h82⟩, ?_⟩
      clear h82
      have g88 := gd h88
      have g91 := gd h91
      go_simp
      refine (rsame_kp _ _ [⟨k, ⟨A, l, c, bs⟩⟩] [⟨k', ⟨A', l', c', bs'⟩⟩] _ _ _ _ _ r88 r91 (by omega) (by simpa using hlf) rr hr2).mono ?_
      rintro e u' ⟨rfl, hb'⟩
      exact Goes.next (kp_trans hS hb') hb' rfl
    refine EachOp.cons ?_ ?_
    · intro a u hst hS hdep
      have h85 : a.tmps.getD 85 undef = .bool rr := hdep 85 (by kernel_rfl)
      have h92 : a.tmps.getD 92 undef = .bool rr := hdep 92 (by kernel_rfl)
      have h82 : a.tmps.getD 82 undef = .bool true := hdep 82 (by kernel_rfl)
      refine ⟨⟨82, by kernel_rfl, h82⟩, ?_⟩
      clear h82
      have g85 := gd h85
      have g92 := gd h92
      go_simp
      exact Goes.same hS rfl
    refine EachOp.cons ?_ ?_
    · intro a u hst hS hdep
      have h82 : a.tmps.getD 82 undef = .bool true := hdep 82 (by kernel_rfl)
      have h93 : a.tmps.getD 93 undef = .bool true := hdep 93 (by kernel_rfl)
      refine ⟨trivial, ?_⟩
      have g82 := gd h82
      have g93 := gd h93
      go_simp
      exact Goes.same hS rfl
    refine EachOp.cons ?_ ?_
    · intro a u hst hS hdep
      have h94 : a.tmps.getD 94 undef = .bool true := hdep 94 (by kernel_rfl)
      refine ⟨trivial, ?_⟩
      have g94 := gd h94
      go_simp
      exact Goes.same hS rfl
    exact EachOp.nil
  · intro a u hst hS hdep
    have h6 : a.tmps.getD 6 undef = .bool true := hdep 6 (by kernel_rfl)
    have hsz : a.tmps.size = 95 := hst.size
    go_wp2_with fail
    exact bodyPost_ret ((results_tmp rfl _ _ _).trans (by rw [h6])) hst.defers ⟨rfl, kp_trans k8 hS⟩

set_option maxHeartbeats 2000000 in
theorem frameTells_big (k : UInt8) (A : Option Addr) (l c : Nat) (k' : UInt8) (A' : Option Addr) (l' c' : Nat) (Ab : Option Addr) (lb cb : Nat) (w : World)
    (hlm : l ≤ 9223372036854775807) (hlm' : l' ≤ 9223372036854775807) (hlb : lb ≤ 9223372036854775807) (h : 2000 < l ∨ (l ≤ 2000 ∧ 2000 < l') ∨ (l ≤ 2000 ∧ l' ≤ 2000 ∧ 2000 < lb)) :
    Calls Try.prog 3 #[frV k A l c, frV k' A' l' c', .slice Ab lb cb] w fun e w' => e = .returned (.bool true) ∧ Below w.heap.size w w' := by
  generalize hw1 : (w.alloc (.cells #[.int .u8 (k.toNat : Int), .slice A l c] 24)).alloc (.cells #[.int .u8 (k'.toNat : Int), .slice A' l' c'] 24) = w1
  have k1 : Below w.heap.size w w1 := by rw [← hw1]; exact kp_alloc (kp_new _ _) _
  have b0 : w1.heap[w.heap.size]? = some (.cells #[.int .u8 (k.toNat : Int), .slice A l c] 24 (0, 0)) := by
    rw [← hw1]; exact two_new (kp_new _ _)
  have b1 : w1.heap[w.heap.size + 1]? = some (.cells #[.int .u8 (k'.toNat : Int), .slice A' l' c'] 24 (0, 0)) := by
    rw [← hw1]; have := heap_alloc_new (w.alloc (.cells #[.int .u8 (k.toNat : Int), .slice A l c] 24)) (.cells #[.int .u8 (k'.toNat : Int), .slice A' l' c'] 24); simpa using this
  have z1 : w.heap.size + 1 < w1.heap.size := (Array.getElem?_eq_some_iff.1 b1).1
  have HW := Lib.hid hw1
  have B0 := Lib.hid b0
  have B1 := Lib.hid b1
  clear hw1 b0 b1
  unfold frV
  rcases h with h | ⟨h, h'⟩ | ⟨h, h', h''⟩
  all_goals
    go_enter Try.func3, Try.ntmps3
    go_wp2_with fail
    rw [HW.out]
    refine (awake2 w1).mono ?_
    rintro e w2 ⟨rfl, kb2⟩
    have k2 := kp_trans k1 kb2
    obtain ⟨c0, c1, _, _⟩ := two_cells ((kb2.block _ (by omega)).trans B0.out)
    obtain ⟨c2, c3, _, _⟩ := two_cells ((kb2.block _ (by omega)).trans B1.out)
  · have d1 : decide ((2000 : Int) < (l : Int)) = true := by simp; omega
    go_wp2_with fail
    go_ret
    exact ⟨rfl, k2⟩
  · have d1 : decide ((2000 : Int) < (l : Int)) = false := by simp; omega
    have d2 : decide ((2000 : Int) < (l' : Int)) = true := by simp; omega
    go_wp2_with fail
    go_ret
    exact ⟨rfl, k2⟩
  · have d1 : decide ((2000 : Int) < (l : Int)) = false := by simp; omega
    have d2 : decide ((2000 : Int) < (l' : Int)) = false := by simp; omega
    have d3 : decide ((2000 : Int) < (lb : Int)) = true := by simp; omega
    go_wp2_with fail
    go_ret
    exact ⟨rfl, k2⟩

theorem frameTells_any (k : UInt8) (A : Option Addr) (l c : Nat) (bs : List UInt8) (k' : UInt8) (A' : Option Addr) (l' c' : Nat) (bs' : List UInt8) (Ab : Option Addr) (lb cb : Nat) (bb : List UInt8) (w : World)
    (hf : Sl w w.heap.size A l c bs) (hc : c ≤ 140737488351232) (hg : Sl w w.heap.size A' l' c' bs') (hc' : c' ≤ 140737488351232) (hb : Sl w w.heap.size Ab lb cb bb) (hcb : cb ≤ 140737488351232) :
    Calls Try.prog 3 #[frV k A l c, frV k' A' l' c', .slice Ab lb cb] w fun e w' => e = .returned (.bool true) ∧ Below w.heap.size w w' := by
  have q1 := hf.cap
  have q2 := hg.cap
  have q3 := hb.cap
  by_cases h : l ≤ 2000 ∧ l' ≤ 2000 ∧ lb ≤ 2000
  · exact frameTells_walk k A l c bs k' A' l' c' bs' Ab lb cb bb w hf (by omega) hg (by omega) hb (by omega) h.1 h.2.1 h.2.2
  · exact frameTells_big k A l c k' A' l' c' Ab lb cb w (by omega) (by omega) (by omega) (by omega)

namespace FrameTells
open Go.ChangeShapes Go.WideShapes Go.ChangeAt
open Go.ChangeMaps (open_string)

theorem contract (H : Type) (enc : TypeId × Value → H) (W : World) (base : Nat) (args : Array Value) (ds gs : List (DataW H)) (before : List MemPlace)
    (hval : ∀ (j : Nat) t v, Try.f3.params[j]? = some t → args[j]? = some v → Value.okWide Try.prog W .any base t v)
    (hW : DataW.Whole enc Try.prog Try.f3.params.toList Rows.frameTellsSpec.vars false W args.toList ds gs before)
    (hsz0 : (DataW.weightsEach Try.prog (Try.f3.params.toList ++ Rows.frameTellsSpec.plain.varTypes Try.prog) (ds ++ gs)).all (· ≤ reachBytes) = true) :
    Calls Try.prog 3 args W fun e W' => ∃ v, e = .returned v ∧ Rows.frameTellsSpec.post enc Try.prog Try.f3 false true false false W args v W' := by
  have hW' := hW
  obtain ⟨p, q, hA0, hV, rfl, _, _⟩ := hW
  have hA : DataW.TrodAll enc Try.prog W 0 (fun _ => true) true Try.f3.params.toList args.toList ds p := hA0
  have hsz : (DataW.weightsEach Try.prog (Try.f3.params.toList ++ Rows.frameTellsSpec.plain.varTypes Try.prog) (ds ++ gs)).all (· ≤ reachBytes) = true := hsz0
  clear hsz0
  rw [Try.params3] at hA hval hsz
  obtain ⟨v0, vs0, d0, ds0, p0, q0, hargs, rfl, rfl, h0, t0⟩ := trodAll_cons hA
  obtain ⟨v1, vs1, d1, ds1, p1, q1, rfl, rfl, rfl, h1, t1⟩ := trodAll_cons t0
  obtain ⟨v2, vs2, d2, ds2, p2, q2, rfl, rfl, rfl, h2, t2⟩ := trodAll_cons t1
  obtain ⟨rfl, rfl, rfl⟩ := trodAll_nil t2
  obtain rfl : args = #[v0, v1, v2] := by cases args; simp_all
  obtain ⟨rfl, rfl⟩ := trodVars_none hV
  obtain ⟨k0, A0, l0, c0, bs0, rfl, r0, g0⟩ := open_frame (hval 0 24 v0 rfl rfl) h0 (light_of hsz (j := 0) rfl rfl)
  obtain ⟨k1, A1, l1, c1, bs1, rfl, r1, g1⟩ := open_frame (hval 1 24 v1 rfl rfl) h1 (light_of hsz (j := 1) rfl rfl)
  obtain ⟨A2, l2, c2, bs2, rfl, r2, g2⟩ := open_bytes_w Try.underlying22 Try.underlying5 (by kernel_rfl) (by kernel_rfl) (hval 2 22 v2 rfl rfl) h2 (light_of hsz (j := 2) rfl rfl)
  refine (frameTells_any k0 A0 l0 c0 bs0 k1 A1 l1 c1 bs1 A2 l2 c2 bs2 W r0 g0 r1 g1 r2 g2).mono fun e W' ⟨he, hb⟩ => ⟨_, he, ?_⟩
  exact law_post laid0 (by rw [Try.params3]; decide +kernel) rfl (by kernel_rfl) Try.underlying4 hW' rfl hb

set_option maxRecDepth 100000 in
theorem lifted (os : Os) (started : os.Started) (H : Type) (enc : TypeId × Value → H) :
    ReturnsInHanded {} Try.checked os 3 .any (Rows.frameTellsSpec.pre6 enc Try.prog Try.f3 Rows.frameTellsRow.domain false) (Rows.frameTellsSpec.post enc Try.prog Try.f3 false true false false) := by
  refine returnsInHanded_of_change_sized (C := Try.checked) own0 started (by kernel_rfl) Try.func3
    (ChangeSpec.witness6 (enc := enc) (C := Try.checked) false ⟨#[], #[.agg #[.int .u8 0, .slice none 0 0], .agg #[.int .u8 0, .slice none 0 0], .slice none 0 0], []⟩ 8 (by kernel_rfl) (by kernel_rfl) (by kernel_rfl) (by kernel_rfl)) ?_
  intro W base args ds gs before hval hW _ hsz _
  exact contract H enc W base args ds gs before hval hW hsz

theorem proved : Rows.FrameTellsSaid :=
  OpenClaim.holds_of_wide 3 Try.f3 rfl rfl rfl rfl rfl rfl rfl ⟨rfl, rfl, rfl, rfl, rfl⟩ rfl rfl rfl rfl rfl (by kernel_rfl) Try.func3 (by kernel_rfl)
    (of_decide_eq_true (by kernel_rfl)) (by unfold Func.isWrapper; first | (rw [if_pos (by decide +kernel)]; kernel_rfl) | (rw [if_neg (by decide +kernel)]; exact ⟨rfl, rfl⟩))
    (fun os started H enc _ => lifted os started H enc)
end FrameTells
end Go.Proofs.Ytmohgfmknkfcaaa
