/-
  HealthTells, of layer 12: the walk, out of what the laws ask of the project's health.
-/
import Derived.Test.YtbhgoeofcapckaaHeK
import Derived.Test.YtbhgoeofcapckaaReg2
namespace Go.Proofs.Ytbhgoeofcapckaa
open Go.RowKit
set_option maxRecDepth 100000

set_option maxHeartbeats 16000000 in
theorem healthtells_walk (K : HealthK) (f q l i n : Int) (ok : Bool) (g : Int) (W : World) :
    Calls Try.prog 3 #[.agg #[.int .i64 f, .int .i64 q, .int .u64 l], .agg #[.int .i64 i, .int .i64 n], .agg #[.bool ok, .int .u64 g]] W fun e w' => e = .returned (.bool true) ∧ Below W.heap.size W w' := by
  obtain ⟨w0, hw0⟩ : ∃ u, ((W.alloc (.cells #[.int .i64 f, .int .i64 q, .int .u64 l] 24)).alloc (.cells #[.int .i64 i, .int .i64 n] 26)).alloc (.cells #[.bool ok, .int .u64 g] 28) = u := ⟨_, rfl⟩
  have k0 : Below W.heap.size W w0 := hw0 ▸ kp_alloc (kp_alloc (kp_new _ _) _) _
  have c0 : w0.heap[W.heap.size]? = some (.cells #[.int .i64 f, .int .i64 q, .int .u64 l] 24 (0, 0)) := by
    rw [← hw0, heap_alloc_old _ _ (by simp; omega), heap_alloc_old _ _ (by simp)]
    exact heap_alloc_new W _
  have c1 : w0.heap[W.heap.size + 1]? = some (.cells #[.int .i64 i, .int .i64 n] 26 (0, 0)) := by
    rw [← hw0, heap_alloc_old _ _ (by simp)]
    have := heap_alloc_new (W.alloc (.cells #[.int .i64 f, .int .i64 q, .int .u64 l] 24)) (.cells #[.int .i64 i, .int .i64 n] 26)
    rwa [World.size_alloc] at this
  have c2 : w0.heap[W.heap.size + 2]? = some (.cells #[.bool ok, .int .u64 g] 28 (0, 0)) := by
    rw [← hw0]
    have := heap_alloc_new ((W.alloc (.cells #[.int .i64 f, .int .i64 q, .int .u64 l] 24)).alloc (.cells #[.int .i64 i, .int .i64 n] 26)) (.cells #[.bool ok, .int .u64 g] 28)
    rwa [World.size_alloc, World.size_alloc] at this
  have hz0 : W.heap.size + 3 = w0.heap.size := by rw [← hw0]; simp
  have HAW := Lib.hid (K.aw w0)
  have HK := Lib.hid K
  have HW := Lib.hid hw0
  have HK0 := Lib.hid k0
  clear K hw0 k0
  go_enter Try.func3, Try.ntmps3
  go_wp2_with fail
  rw [HW.out]
  refine HAW.out.mono ?_
  rintro e w1 ⟨rfl, k1⟩
  have HK1 := Lib.hid (HK0.out.trans (k1.mono HK0.out.size))
  have HB : Hid (∀ u, Below w1.heap.size w1 u → (u.cell? ⟨W.heap.size, 0, none⟩ = some (.int .i64 f) ∧ u.cell? ⟨W.heap.size, 1, none⟩ = some (.int .i64 q) ∧ u.cell? ⟨W.heap.size, 2, none⟩ = some (.int .u64 l)) ∧ (u.cell? ⟨W.heap.size + 1, 0, none⟩ = some (.int .i64 i) ∧ u.cell? ⟨W.heap.size + 1, 1, none⟩ = some (.int .i64 n)) ∧ u.cell? ⟨W.heap.size + 1 + 1, 0, none⟩ = some (.bool ok) ∧ u.cell? ⟨W.heap.size + 1 + 1, 1, none⟩ = some (.int .u64 g)) := Lib.hid fun u hu => by
    have hs := k1.size
    have d0 := (hu.block _ (by omega)).trans ((k1.block _ (by omega)).trans c0)
    have d1 := (hu.block _ (by omega)).trans ((k1.block _ (by omega)).trans c1)
    have d2 := (hu.block _ (by omega)).trans ((k1.block _ (by omega)).trans c2)
    exact ⟨⟨(cellsAt d0 0 rfl).1, (cellsAt d0 1 rfl).1, (cellsAt d0 2 rfl).1⟩, ⟨(cellsAt d1 0 rfl).1, (cellsAt d1 1 rfl).1⟩, (cellsAt d2 0 rfl).1, (cellsAt d2 1 rfl).1⟩
  clear HAW HW HK0 k1 c0 c1 c2 hz0
  obtain ⟨br, hbr⟩ : ∃ b, rightHe ⟨f, q, l⟩ = b := ⟨_, rfl⟩
  obtain ⟨⟨i4, n4⟩, hon⟩ : ∃ s, onHe ⟨i, n⟩ = s := ⟨_, rfl⟩
  have HBR := Lib.hid hbr
  have H7 : Hid (∀ u, Calls Try.prog 7 #[.agg #[.int .i64 f, .int .i64 q, .int .u64 l]] u fun e w' => e = .returned (.bool br) ∧ Below u.heap.size u w') := Lib.hid fun u => hbr ▸ HK.out.right ⟨f, q, l⟩ u
  have H8 : Hid (∀ u, Calls Try.prog 8 #[.agg #[.int .i64 f, .int .i64 q, .int .u64 l]] u fun e w' => e = .returned (.bool br) ∧ Below u.heap.size u w') := Lib.hid fun u => hbr ▸ rrighthe_ok ⟨f, q, l⟩ u
  have H9 : Hid (∀ u, Calls Try.prog 9 #[.agg #[.int .i64 i, .int .i64 n]] u fun e w' => e = .returned (.bool (i == 1)) ∧ Below u.heap.size u w') := Lib.hid fun u => HK.out.serves ⟨i, n⟩ u
  have H10 : Hid (∀ u, Calls Try.prog 10 #[.agg #[.int .i64 i, .int .i64 n]] u fun e w' => e = .returned (.agg #[.int .i64 4, .int .i64 0]) ∧ Below u.heap.size u w') := Lib.hid fun u => HK.out.off ⟨i, n⟩ u
  have H11 : Hid (∀ u, Calls Try.prog 11 #[.agg #[.int .i64 i, .int .i64 n]] u fun e w' => e = .returned (.agg #[.int .i64 i4, .int .i64 n4]) ∧ Below u.heap.size u w') := Lib.hid fun u => by
    have := HK.out.on ⟨i, n⟩ u
    rw [hon] at this
    exact this
  have H12 : Hid (∀ u, Calls Try.prog 12 #[.agg #[.int .i64 i, .int .i64 n]] u fun e w' => e = .returned (.agg #[.int .i64 i4, .int .i64 n4]) ∧ Below u.heap.size u w') := Lib.hid fun u => by
    have := ronhe_ok ⟨i, n⟩ u
    rw [hon] at this
    exact this
  clear hbr hon
  go_wp2_with fail
  refine wp_region_specs (S := fun u => Below w1.heap.size w1 u) (Sp := [(9, Stb.eq (.agg #[.int .i64 f, .int .i64 q, .int .u64 l])), (10, Stb.eq (.bool br)), (11, Stb.eq (.agg #[.int .i64 f, .int .i64 q, .int .u64 l])), (12, Stb.eq (.bool br)), (13, Stb.eq (.bool false)), (14, Stb.eq (.bool false)), (15, Stb.eq (.agg #[.int .i64 i, .int .i64 n])), (16, Stb.eq (.bool (i == 1))), (17, Stb.eq (.pointer (some ⟨W.heap.size + 1, 0, none⟩))), (18, Stb.eq (.int .i64 i)), (19, Stb.eq (.bool (i == 1))), (20, Stb.eq (.bool false)), (21, Stb.eq (.bool false)), (22, Stb.eq (.bool false)), (23, Stb.eq (.agg #[.int .i64 i, .int .i64 n])), (24, Stb.eq (.agg #[.int .i64 4, .int .i64 0])), (25, Stb.eq (.agg #[.int .i64 4, .int .i64 0])), (26, Stb.eq (.bool false)), (27, Stb.eq (.bool false)), (28, Stb.eq (.bool false)), (29, Stb.eq (.agg #[.int .i64 i, .int .i64 n])), (30, Stb.eq (.agg #[.int .i64 i4, .int .i64 n4])), (31, Stb.eq (.agg #[.int .i64 i, .int .i64 n])), (32, Stb.eq (.agg #[.int .i64 i4, .int .i64 n4])), (33, Stb.eq (.bool false)), (34, Stb.eq (.bool false))]) (by kernel_rfl) (by kernel_rfl) (kp_drewN _ 1) ?_ ?_
  · refine EachOp.cons ?_ ?_
    · intro a u hst hS hdep
      have h3 : a.tmps.getD 3 undef = .pointer (some ⟨W.heap.size, 0, none⟩) := hst.out 3 (by kernel_rfl)
      refine ⟨trivial, ?_⟩
      have g3 := gd h3
      obtain ⟨⟨x0, x1, x2⟩, ⟨y0, y1⟩, z0, z1⟩ := HB.out u hS
      go_simp
      exact Goes.same hS rfl
    refine EachOp.cons ?_ ?_
    · intro a u hst hS hdep
      have h9 : a.tmps.getD 9 undef = .agg #[.int .i64 f, .int .i64 q, .int .u64 l] := hdep 9 (by kernel_rfl)
      refine ⟨trivial, ?_⟩
      have g9 := gd h9
      go_simp
      refine (H7.out u).mono ?_
      rintro e u' ⟨rfl, hb'⟩
      exact Goes.next (kp_trans hS hb') hb' rfl
    refine EachOp.cons ?_ ?_
    · intro a u hst hS hdep
      have h3 : a.tmps.getD 3 undef = .pointer (some ⟨W.heap.size, 0, none⟩) := hst.out 3 (by kernel_rfl)
      refine ⟨trivial, ?_⟩
      have g3 := gd h3
      obtain ⟨⟨x0, x1, x2⟩, ⟨y0, y1⟩, z0, z1⟩ := HB.out u hS
      go_simp
      exact Goes.same hS rfl
    refine EachOp.cons ?_ ?_
    · intro a u hst hS hdep
      have h11 : a.tmps.getD 11 undef = .agg #[.int .i64 f, .int .i64 q, .int .u64 l] := hdep 11 (by kernel_rfl)
      refine ⟨trivial, ?_⟩
      have g11 := gd h11
      go_simp
      refine (H8.out u).mono ?_
      rintro e u' ⟨rfl, hb'⟩
      exact Goes.next (kp_trans hS hb') hb' rfl
    refine EachOp.cons ?_ ?_
    · intro a u hst hS hdep
      have h10 : a.tmps.getD 10 undef = .bool br := hdep 10 (by kernel_rfl)
      have h12 : a.tmps.getD 12 undef = .bool br := hdep 12 (by kernel_rfl)
      refine ⟨trivial, ?_⟩
      have g10 := gd h10
      have g12 := gd h12
      go_simp
      exact Goes.same hS rfl
    refine EachOp.cons ?_ ?_
    · intro a u hst hS hdep
      have h13 : a.tmps.getD 13 undef = .bool false := hdep 13 (by kernel_rfl)
      refine ⟨trivial, ?_⟩
      have g13 := gd h13
      go_simp
      exact Goes.same hS rfl
    refine EachOp.cons ?_ ?_
    · intro a u hst hS hdep
      have h4 : a.tmps.getD 4 undef = .pointer (some ⟨W.heap.size + 1, 0, none⟩) := hst.out 4 (by kernel_rfl)
      have h14 : a.tmps.getD 14 undef = .bool false := hdep 14 (by kernel_rfl)
      refine ⟨⟨14, by kernel_rfl, h14⟩, ?_⟩
      clear h14
      have g4 := gd h4
      obtain ⟨⟨x0, x1, x2⟩, ⟨y0, y1⟩, z0, z1⟩ := HB.out u hS
      go_simp
      exact Goes.same hS rfl
    refine EachOp.cons ?_ ?_
    · intro a u hst hS hdep
      have h15 : a.tmps.getD 15 undef = .agg #[.int .i64 i, .int .i64 n] := hdep 15 (by kernel_rfl)
      have h14 : a.tmps.getD 14 undef = .bool false := hdep 14 (by kernel_rfl)
      refine ⟨⟨14, by kernel_rfl, h14⟩, ?_⟩
      clear h14
      have g15 := gd h15
      go_simp
      refine (H9.out u).mono ?_
      rintro e u' ⟨rfl, hb'⟩
      exact Goes.next (kp_trans hS hb') hb' rfl
    refine EachOp.cons ?_ ?_
    · intro a u hst hS hdep
      have h4 : a.tmps.getD 4 undef = .pointer (some ⟨W.heap.size + 1, 0, none⟩) := hst.out 4 (by kernel_rfl)
      have h14 : a.tmps.getD 14 undef = .bool false := hdep 14 (by kernel_rfl)
      refine ⟨⟨14, by kernel_rfl, h14⟩, ?_⟩
      clear h14
      have g4 := gd h4
      go_simp
      exact Goes.same hS rfl
    refine EachOp.cons ?_ ?_
    · intro a u hst hS hdep
      have h17 : a.tmps.getD 17 undef = .pointer (some ⟨W.heap.size + 1, 0, none⟩) := hdep 17 (by kernel_rfl)
      have h14 : a.tmps.getD 14 undef = .bool false := hdep 14 (by kernel_rfl)
      refine ⟨⟨14, by kernel_rfl, h14⟩, ?_⟩
      clear h14
      have g17 := gd h17
      obtain ⟨⟨x0, x1, x2⟩, ⟨y0, y1⟩, z0, z1⟩ := HB.out u hS
      go_simp
      exact Goes.same hS rfl
    refine EachOp.cons ?_ ?_
    · intro a u hst hS hdep
      have h18 : a.tmps.getD 18 undef = .int .i64 i := hdep 18 (by kernel_rfl)
      have h14 : a.tmps.getD 14 undef = .bool false := hdep 14 (by kernel_rfl)
      refine ⟨⟨14, by kernel_rfl, h14⟩, ?_⟩
      clear h14
      have g18 := gd h18
      go_simp
      exact Goes.same hS rfl
    refine EachOp.cons ?_ ?_
    · intro a u hst hS hdep
      have h16 : a.tmps.getD 16 undef = .bool (i == 1) := hdep 16 (by kernel_rfl)
      have h19 : a.tmps.getD 19 undef = .bool (i == 1) := hdep 19 (by kernel_rfl)
      have h14 : a.tmps.getD 14 undef = .bool false := hdep 14 (by kernel_rfl)
      refine ⟨⟨14, by kernel_rfl, h14⟩, ?_⟩
      clear h14
      have g16 := gd h16
      have g19 := gd h19
      go_simp
      exact Goes.same hS rfl
    refine EachOp.cons ?_ ?_
    · intro a u hst hS hdep
      have h14 : a.tmps.getD 14 undef = .bool false := hdep 14 (by kernel_rfl)
      have h20 : a.tmps.getD 20 undef = .bool false := hdep 20 (by kernel_rfl)
      refine ⟨trivial, ?_⟩
      have g14 := gd h14
      have g20 := gd h20
      go_simp
      exact Goes.same hS rfl
    refine EachOp.cons ?_ ?_
    · intro a u hst hS hdep
      have h21 : a.tmps.getD 21 undef = .bool false := hdep 21 (by kernel_rfl)
      refine ⟨trivial, ?_⟩
      have g21 := gd h21
      go_simp
      exact Goes.same hS rfl
    refine EachOp.cons ?_ ?_
    · intro a u hst hS hdep
      have h4 : a.tmps.getD 4 undef = .pointer (some ⟨W.heap.size + 1, 0, none⟩) := hst.out 4 (by kernel_rfl)
      have h22 : a.tmps.getD 22 undef = .bool false := hdep 22 (by kernel_rfl)
      refine ⟨⟨22, by kernel_rfl, h22⟩, ?_⟩
      clear h22
      have g4 := gd h4
      obtain ⟨⟨x0, x1, x2⟩, ⟨y0, y1⟩, z0, z1⟩ := HB.out u hS
      go_simp
      exact Goes.same hS rfl
    refine EachOp.cons ?_ ?_
    · intro a u hst hS hdep
      have h23 : a.tmps.getD 23 undef = .agg #[.int .i64 i, .int .i64 n] := hdep 23 (by kernel_rfl)
      have h22 : a.tmps.getD 22 undef = .bool false := hdep 22 (by kernel_rfl)
      refine ⟨⟨22, by kernel_rfl, h22⟩, ?_⟩
      clear h22
      have g23 := gd h23
      go_simp
      refine (H10.out u).mono ?_
      rintro e u' ⟨rfl, hb'⟩
      exact Goes.next (kp_trans hS hb') hb' rfl
    refine EachOp.cons ?_ ?_
    · intro a u hst hS hdep
      have h22 : a.tmps.getD 22 undef = .bool false := hdep 22 (by kernel_rfl)
      refine ⟨⟨22, by kernel_rfl, h22⟩, ?_⟩
      clear h22
      go_simp
      exact Goes.same hS rfl
    refine EachOp.cons ?_ ?_
    · intro a u hst hS hdep
      have h24 : a.tmps.getD 24 undef = .agg #[.int .i64 4, .int .i64 0] := hdep 24 (by kernel_rfl)
      have h25 : a.tmps.getD 25 undef = .agg #[.int .i64 4, .int .i64 0] := hdep 25 (by kernel_rfl)
      have h22 : a.tmps.getD 22 undef = .bool false := hdep 22 (by kernel_rfl)
      refine ⟨⟨22, by kernel_rfl, h22⟩, ?_⟩
      clear h22
      have g24 := gd h24
      have g25 := gd h25
      go_simp
      exact Goes.same hS rfl
    refine EachOp.cons ?_ ?_
    · intro a u hst hS hdep
      have h22 : a.tmps.getD 22 undef = .bool false := hdep 22 (by kernel_rfl)
      have h26 : a.tmps.getD 26 undef = .bool false := hdep 26 (by kernel_rfl)
      refine ⟨trivial, ?_⟩
      have g22 := gd h22
      have g26 := gd h26
      go_simp
      exact Goes.same hS rfl
    refine EachOp.cons ?_ ?_
    · intro a u hst hS hdep
      have h27 : a.tmps.getD 27 undef = .bool false := hdep 27 (by kernel_rfl)
      refine ⟨trivial, ?_⟩
      have g27 := gd h27
      go_simp
      exact Goes.same hS rfl
    refine EachOp.cons ?_ ?_
    · intro a u hst hS hdep
      have h4 : a.tmps.getD 4 undef = .pointer (some ⟨W.heap.size + 1, 0, none⟩) := hst.out 4 (by kernel_rfl)
      have h28 : a.tmps.getD 28 undef = .bool false := hdep 28 (by kernel_rfl)
      refine ⟨⟨28, by kernel_rfl, h28⟩, ?_⟩
      clear h28
      have g4 := gd h4
      obtain ⟨⟨x0, x1, x2⟩, ⟨y0, y1⟩, z0, z1⟩ := HB.out u hS
      go_simp
      exact Goes.same hS rfl
    refine EachOp.cons ?_ ?_
    · intro a u hst hS hdep
      have h29 : a.tmps.getD 29 undef = .agg #[.int .i64 i, .int .i64 n] := hdep 29 (by kernel_rfl)
      have h28 : a.tmps.getD 28 undef = .bool false := hdep 28 (by kernel_rfl)
      refine ⟨⟨28, by kernel_rfl, h28⟩, ?_⟩
      clear h28
      have g29 := gd h29
      go_simp
      refine (H11.out u).mono ?_
      rintro e u' ⟨rfl, hb'⟩
      exact Goes.next (kp_trans hS hb') hb' rfl
    refine EachOp.cons ?_ ?_
    · intro a u hst hS hdep
      have h4 : a.tmps.getD 4 undef = .pointer (some ⟨W.heap.size + 1, 0, none⟩) := hst.out 4 (by kernel_rfl)
      have h28 : a.tmps.getD 28 undef = .bool false := hdep 28 (by kernel_rfl)
      refine ⟨⟨28, by kernel_rfl, h28⟩, ?_⟩
      clear h28
      have g4 := gd h4
      obtain ⟨⟨x0, x1, x2⟩, ⟨y0, y1⟩, z0, z1⟩ := HB.out u hS
      go_simp
      exact Goes.same hS rfl
    refine EachOp.cons ?_ ?_
    · intro a u hst hS hdep
      have h31 : a.tmps.getD 31 undef = .agg #[.int .i64 i, .int .i64 n] := hdep 31 (by kernel_rfl)
      have h28 : a.tmps.getD 28 undef = .bool false := hdep 28 (by kernel_rfl)
      refine ⟨⟨28, by kernel_rfl, h28⟩, ?_⟩
      clear h28
      have g31 := gd h31
      go_simp
      refine (H12.out u).mono ?_
      rintro e u' ⟨rfl, hb'⟩
      exact Goes.next (kp_trans hS hb') hb' rfl
    refine EachOp.cons ?_ ?_
    · intro a u hst hS hdep
      have h30 : a.tmps.getD 30 undef = .agg #[.int .i64 i4, .int .i64 n4] := hdep 30 (by kernel_rfl)
      have h32 : a.tmps.getD 32 undef = .agg #[.int .i64 i4, .int .i64 n4] := hdep 32 (by kernel_rfl)
      have h28 : a.tmps.getD 28 undef = .bool false := hdep 28 (by kernel_rfl)
      refine ⟨⟨28, by kernel_rfl, h28⟩, ?_⟩
      clear h28
      have g30 := gd h30
      have g32 := gd h32
      go_simp
      exact Goes.same hS rfl
    refine EachOp.cons ?_ ?_
    · intro a u hst hS hdep
      have h28 : a.tmps.getD 28 undef = .bool false := hdep 28 (by kernel_rfl)
      have h33 : a.tmps.getD 33 undef = .bool false := hdep 33 (by kernel_rfl)
      refine ⟨trivial, ?_⟩
      have g28 := gd h28
      have g33 := gd h33
      go_simp
      exact Goes.same hS rfl
    exact EachOp.nil
  · intro a u hst hS hdep
    have h9 : a.tmps.getD 9 undef = .agg #[.int .i64 f, .int .i64 q, .int .u64 l] := hdep 9 (by kernel_rfl)
    have h10 : a.tmps.getD 10 undef = .bool br := hdep 10 (by kernel_rfl)
    have h11 : a.tmps.getD 11 undef = .agg #[.int .i64 f, .int .i64 q, .int .u64 l] := hdep 11 (by kernel_rfl)
    have h12 : a.tmps.getD 12 undef = .bool br := hdep 12 (by kernel_rfl)
    have h13 : a.tmps.getD 13 undef = .bool false := hdep 13 (by kernel_rfl)
    have h14 : a.tmps.getD 14 undef = .bool false := hdep 14 (by kernel_rfl)
    have h15 : a.tmps.getD 15 undef = .agg #[.int .i64 i, .int .i64 n] := hdep 15 (by kernel_rfl)
    have h16 : a.tmps.getD 16 undef = .bool (i == 1) := hdep 16 (by kernel_rfl)
    have h17 : a.tmps.getD 17 undef = .pointer (some ⟨W.heap.size + 1, 0, none⟩) := hdep 17 (by kernel_rfl)
    have h18 : a.tmps.getD 18 undef = .int .i64 i := hdep 18 (by kernel_rfl)
    have h19 : a.tmps.getD 19 undef = .bool (i == 1) := hdep 19 (by kernel_rfl)
    have h20 : a.tmps.getD 20 undef = .bool false := hdep 20 (by kernel_rfl)
    have h21 : a.tmps.getD 21 undef = .bool false := hdep 21 (by kernel_rfl)
    have h22 : a.tmps.getD 22 undef = .bool false := hdep 22 (by kernel_rfl)
    have h23 : a.tmps.getD 23 undef = .agg #[.int .i64 i, .int .i64 n] := hdep 23 (by kernel_rfl)
    have h24 : a.tmps.getD 24 undef = .agg #[.int .i64 4, .int .i64 0] := hdep 24 (by kernel_rfl)
    have h25 : a.tmps.getD 25 undef = .agg #[.int .i64 4, .int .i64 0] := hdep 25 (by kernel_rfl)
    have h26 : a.tmps.getD 26 undef = .bool false := hdep 26 (by kernel_rfl)
    have h27 : a.tmps.getD 27 undef = .bool false := hdep 27 (by kernel_rfl)
    have h28 : a.tmps.getD 28 undef = .bool false := hdep 28 (by kernel_rfl)
    have h29 : a.tmps.getD 29 undef = .agg #[.int .i64 i, .int .i64 n] := hdep 29 (by kernel_rfl)
    have h30 : a.tmps.getD 30 undef = .agg #[.int .i64 i4, .int .i64 n4] := hdep 30 (by kernel_rfl)
    have h31 : a.tmps.getD 31 undef = .agg #[.int .i64 i, .int .i64 n] := hdep 31 (by kernel_rfl)
    have h32 : a.tmps.getD 32 undef = .agg #[.int .i64 i4, .int .i64 n4] := hdep 32 (by kernel_rfl)
    have h33 : a.tmps.getD 33 undef = .bool false := hdep 33 (by kernel_rfl)
    have h34 : a.tmps.getD 34 undef = .bool false := hdep 34 (by kernel_rfl)
    have hfr := hst.frame [(9, .agg #[.int .i64 f, .int .i64 q, .int .u64 l]), (10, .bool br), (11, .agg #[.int .i64 f, .int .i64 q, .int .u64 l]), (12, .bool br), (13, .bool false), (14, .bool false), (15, .agg #[.int .i64 i, .int .i64 n]), (16, .bool (i == 1)), (17, .pointer (some ⟨W.heap.size + 1, 0, none⟩)), (18, .int .i64 i), (19, .bool (i == 1)), (20, .bool false), (21, .bool false), (22, .bool false), (23, .agg #[.int .i64 i, .int .i64 n]), (24, .agg #[.int .i64 4, .int .i64 0]), (25, .agg #[.int .i64 4, .int .i64 0]), (26, .bool false), (27, .bool false), (28, .bool false), (29, .agg #[.int .i64 i, .int .i64 n]), (30, .agg #[.int .i64 i4, .int .i64 n4]), (31, .agg #[.int .i64 i, .int .i64 n]), (32, .agg #[.int .i64 i4, .int .i64 n4]), (33, .bool false), (34, .bool false)] (by kernel_rfl) ⟨h9, h10, h11, h12, h13, h14, h15, h16, h17, h18, h19, h20, h21, h22, h23, h24, h25, h26, h27, h28, h29, h30, h31, h32, h33, h34, trivial⟩
    clear hst hdep h9 h10 h11 h12 h13 h14 h15 h16 h17 h18 h19 h20 h21 h22 h23 h24 h25 h26 h27 h28 h29 h30 h31 h32 h33 h34
    subst hfr
    simp only [List.foldl_cons, List.foldl_nil, List.setIfInBounds_toArray, List.set_cons_zero, List.set_cons_succ]
    obtain ⟨w2, hw2⟩ : ∃ x, x = u := ⟨u, rfl⟩
    subst hw2
    have HK2 := Lib.hid (HK1.out.trans (hS.mono HK1.out.size))
    have HB2 := Lib.hid fun u (hu : Below w2.heap.size w2 u) => HB.out u (hS.trans (hu.mono hS.size))
    clear HB hS H7 H8 H9 H10 H11 H12
    obtain ⟨br, hbr⟩ : ∃ b, (rightHe ⟨f, q, l⟩ && decide (0 ≤ n ∧ n ≤ 1000)) = b := ⟨_, rfl⟩
    have H13 : Hid (∀ u, Calls Try.prog 13 #[.agg #[.int .i64 f, .int .i64 q, .int .u64 l], .agg #[.int .i64 i, .int .i64 n]] u fun e w' => e = .returned (.bool br) ∧ Below u.heap.size u w') := Lib.hid fun u => hbr ▸ lright_ok ⟨f, q, l⟩ ⟨i, n⟩ u
    go_wp2_with fail
    cases br with
    | false =>
      clear hbr
      refine wp_region_specs2 (S := fun u => Below w2.heap.size w2 u) (Sp := [(35, Stb.eq (.agg #[.int .i64 f, .int .i64 q, .int .u64 l])), (36, Stb.eq (.agg #[.int .i64 i, .int .i64 n])), (37, Stb.eq (.bool false)), (38, Stb.eq (.bool true)), (39, Stb.eq (.bool true)), (40, Stb.eq (undef)), (41, Stb.eq (undef)), (42, Stb.eq (undef)), (43, Stb.eq (undef)), (44, Stb.eq (undef)), (45, Stb.eq (undef)), (46, Stb.eq (undef)), (47, Stb.eq (undef)), (48, Stb.eq (undef)), (49, Stb.eq (.bool true)), (6, Stb.eq (.bool true))]) (by kernel_rfl) (by kernel_rfl) (kp_drewN _ 1) ?_ ?_
      · refine EachOp.cons ?_ ?_
        · intro a u hst hS hdep
          have h3 : a.tmps.getD 3 undef = .pointer (some ⟨W.heap.size, 0, none⟩) := hst.out 3 (by kernel_rfl)
          refine .inl ⟨trivial, ?_⟩
          have g3 := gd h3
          obtain ⟨⟨x0, x1, x2⟩, ⟨y0, y1⟩, z0, z1⟩ := HB2.out u hS
          go_simp
          exact Goes.same hS rfl
        refine EachOp.cons ?_ ?_
        · intro a u hst hS hdep
          have h4 : a.tmps.getD 4 undef = .pointer (some ⟨W.heap.size + 1, 0, none⟩) := hst.out 4 (by kernel_rfl)
          refine .inl ⟨trivial, ?_⟩
          have g4 := gd h4
          obtain ⟨⟨x0, x1, x2⟩, ⟨y0, y1⟩, z0, z1⟩ := HB2.out u hS
          go_simp
          exact Goes.same hS rfl
        refine EachOp.cons ?_ ?_
        · intro a u hst hS hdep
          have h35 : a.tmps.getD 35 undef = .agg #[.int .i64 f, .int .i64 q, .int .u64 l] := hdep 35 (by kernel_rfl)
          have h36 : a.tmps.getD 36 undef = .agg #[.int .i64 i, .int .i64 n] := hdep 36 (by kernel_rfl)
          refine .inl ⟨trivial, ?_⟩
          have g35 := gd h35
          have g36 := gd h36
          go_simp
          refine (H13.out u).mono ?_
          rintro e u' ⟨rfl, hb'⟩
          exact Goes.next (kp_trans hS hb') hb' rfl
        refine EachOp.cons ?_ ?_
        · intro a u hst hS hdep
          have h37 : a.tmps.getD 37 undef = .bool false := hdep 37 (by kernel_rfl)
          refine .inl ⟨trivial, ?_⟩
          have g37 := gd h37
          go_simp
          exact Goes.same hS rfl
        refine EachOp.cons ?_ ?_
        · intro a u hst hS hdep
          have h38 : a.tmps.getD 38 undef = .bool true := hdep 38 (by kernel_rfl)
          refine .inl ⟨trivial, ?_⟩
          have g38 := gd h38
          go_simp
          exact Goes.same hS rfl
        refine EachOp.cons ?_ ?_
        · intro a u hst hS hdep
          have h39 : a.tmps.getD 39 undef = .bool true := hdep 39 (by kernel_rfl)
          exact .inr ⟨⟨39, by kernel_rfl, h39⟩, hS, fun t e => by injection e with e; subst e; rfl⟩
        refine EachOp.cons ?_ ?_
        · intro a u hst hS hdep
          have h39 : a.tmps.getD 39 undef = .bool true := hdep 39 (by kernel_rfl)
          exact .inr ⟨⟨39, by kernel_rfl, h39⟩, hS, fun t e => by injection e with e; subst e; rfl⟩
        refine EachOp.cons ?_ ?_
        · intro a u hst hS hdep
          have h39 : a.tmps.getD 39 undef = .bool true := hdep 39 (by kernel_rfl)
          exact .inr ⟨⟨39, by kernel_rfl, h39⟩, hS, fun t e => by injection e with e; subst e; rfl⟩
        refine EachOp.cons ?_ ?_
        · intro a u hst hS hdep
          have h39 : a.tmps.getD 39 undef = .bool true := hdep 39 (by kernel_rfl)
          exact .inr ⟨⟨39, by kernel_rfl, h39⟩, hS, fun t e => by injection e with e; subst e; rfl⟩
        refine EachOp.cons ?_ ?_
        · intro a u hst hS hdep
          have h39 : a.tmps.getD 39 undef = .bool true := hdep 39 (by kernel_rfl)
          exact .inr ⟨⟨39, by kernel_rfl, h39⟩, hS, fun t e => by injection e with e; subst e; rfl⟩
        refine EachOp.cons ?_ ?_
        · intro a u hst hS hdep
          have h39 : a.tmps.getD 39 undef = .bool true := hdep 39 (by kernel_rfl)
          exact .inr ⟨⟨39, by kernel_rfl, h39⟩, hS, fun t e => by injection e with e; subst e; rfl⟩
        refine EachOp.cons ?_ ?_
        · intro a u hst hS hdep
          have h39 : a.tmps.getD 39 undef = .bool true := hdep 39 (by kernel_rfl)
          exact .inr ⟨⟨39, by kernel_rfl, h39⟩, hS, fun t e => by injection e with e; subst e; rfl⟩
        refine EachOp.cons ?_ ?_
        · intro a u hst hS hdep
          have h39 : a.tmps.getD 39 undef = .bool true := hdep 39 (by kernel_rfl)
          exact .inr ⟨⟨39, by kernel_rfl, h39⟩, hS, fun t e => by injection e with e; subst e; rfl⟩
        refine EachOp.cons ?_ ?_
        · intro a u hst hS hdep
          have h39 : a.tmps.getD 39 undef = .bool true := hdep 39 (by kernel_rfl)
          exact .inr ⟨⟨39, by kernel_rfl, h39⟩, hS, fun t e => by injection e with e; subst e; rfl⟩
        refine EachOp.cons ?_ ?_
        · intro a u hst hS hdep
          have h39 : a.tmps.getD 39 undef = .bool true := hdep 39 (by kernel_rfl)
          have h48 : a.tmps.getD 48 undef = undef := hdep 48 (by kernel_rfl)
          refine .inl ⟨trivial, ?_⟩
          have g39 := gd h39
          have g48 := gd h48
          go_simp
          exact Goes.same hS rfl
        refine EachOp.cons ?_ ?_
        · intro a u hst hS hdep
          have h49 : a.tmps.getD 49 undef = .bool true := hdep 49 (by kernel_rfl)
          refine .inl ⟨trivial, ?_⟩
          have g49 := gd h49
          go_simp
          exact Goes.same hS rfl
        exact EachOp.nil
      · intro a u hst hS hdep
        have h35 : a.tmps.getD 35 undef = .agg #[.int .i64 f, .int .i64 q, .int .u64 l] := hdep 35 (by kernel_rfl)
        have h36 : a.tmps.getD 36 undef = .agg #[.int .i64 i, .int .i64 n] := hdep 36 (by kernel_rfl)
        have h37 : a.tmps.getD 37 undef = .bool false := hdep 37 (by kernel_rfl)
        have h38 : a.tmps.getD 38 undef = .bool true := hdep 38 (by kernel_rfl)
        have h39 : a.tmps.getD 39 undef = .bool true := hdep 39 (by kernel_rfl)
        have h40 : a.tmps.getD 40 undef = undef := hdep 40 (by kernel_rfl)
        have h41 : a.tmps.getD 41 undef = undef := hdep 41 (by kernel_rfl)
        have h42 : a.tmps.getD 42 undef = undef := hdep 42 (by kernel_rfl)
        have h43 : a.tmps.getD 43 undef = undef := hdep 43 (by kernel_rfl)
        have h44 : a.tmps.getD 44 undef = undef := hdep 44 (by kernel_rfl)
        have h45 : a.tmps.getD 45 undef = undef := hdep 45 (by kernel_rfl)
        have h46 : a.tmps.getD 46 undef = undef := hdep 46 (by kernel_rfl)
        have h47 : a.tmps.getD 47 undef = undef := hdep 47 (by kernel_rfl)
        have h48 : a.tmps.getD 48 undef = undef := hdep 48 (by kernel_rfl)
        have h49 : a.tmps.getD 49 undef = .bool true := hdep 49 (by kernel_rfl)
        have h6 : a.tmps.getD 6 undef = .bool true := hdep 6 (by kernel_rfl)
        have hfr := hst.frame [(35, .agg #[.int .i64 f, .int .i64 q, .int .u64 l]), (36, .agg #[.int .i64 i, .int .i64 n]), (37, .bool false), (38, .bool true), (39, .bool true), (40, undef), (41, undef), (42, undef), (43, undef), (44, undef), (45, undef), (46, undef), (47, undef), (48, undef), (49, .bool true), (6, .bool true)] (by kernel_rfl) ⟨h35, h36, h37, h38, h39, h40, h41, h42, h43, h44, h45, h46, h47, h48, h49, h6, trivial⟩
        clear hst hdep h35 h36 h37 h38 h39 h40 h41 h42 h43 h44 h45 h46 h47 h48 h49 h6
        subst hfr
        simp only [List.foldl_cons, List.foldl_nil, List.setIfInBounds_toArray, List.set_cons_zero, List.set_cons_succ]
        go_wp2_with fail
        go_ret
        exact ⟨rfl, HK2.out.trans (hS.mono HK2.out.size)⟩
    | true =>
      rw [Bool.and_eq_true, decide_eq_true_iff] at hbr
      obtain ⟨h1, h2, h3⟩ := hbr
      obtain ⟨⟨i5, n5⟩, hst⟩ : ∃ s, stepHe ⟨f, q, l⟩ ⟨i, n⟩ ⟨ok, g⟩ = s := ⟨_, rfl⟩
      have H14 : Hid (∀ u, Calls Try.prog 14 #[.agg #[.int .i64 f, .int .i64 q, .int .u64 l], .agg #[.int .i64 i, .int .i64 n], .agg #[.bool ok, .int .u64 g]] u fun e w' => e = .returned (.agg #[.int .i64 i5, .int .i64 n5]) ∧ Below u.heap.size u w') := Lib.hid fun u => by
        have := HK.out.step ⟨f, q, l⟩ ⟨i, n⟩ ⟨ok, g⟩ u h1 h2 h3
        rw [hst] at this
        exact this
      have H15 : Hid (∀ u, Calls Try.prog 15 #[.agg #[.int .i64 f, .int .i64 q, .int .u64 l], .agg #[.int .i64 i, .int .i64 n], .agg #[.bool ok, .int .u64 g]] u fun e w' => e = .returned (.agg #[.int .i64 i5, .int .i64 n5]) ∧ Below u.heap.size u w') := Lib.hid fun u => by
        have := rstephe_ok ⟨f, q, l⟩ ⟨i, n⟩ ⟨ok, g⟩ u h2 h3
        rw [hst] at this
        exact this
      clear h1 h2 h3 hst
      refine wp_region_specs (S := fun u => Below w2.heap.size w2 u) (Sp := [(35, Stb.eq (.agg #[.int .i64 f, .int .i64 q, .int .u64 l])), (36, Stb.eq (.agg #[.int .i64 i, .int .i64 n])), (37, Stb.eq (.bool true)), (38, Stb.eq (.bool false)), (39, Stb.eq (.bool false)), (40, Stb.eq (.agg #[.int .i64 f, .int .i64 q, .int .u64 l])), (41, Stb.eq (.agg #[.int .i64 i, .int .i64 n])), (42, Stb.eq (.agg #[.bool ok, .int .u64 g])), (43, Stb.eq (.agg #[.int .i64 i5, .int .i64 n5])), (44, Stb.eq (.agg #[.int .i64 f, .int .i64 q, .int .u64 l])), (45, Stb.eq (.agg #[.int .i64 i, .int .i64 n])), (46, Stb.eq (.agg #[.bool ok, .int .u64 g])), (47, Stb.eq (.agg #[.int .i64 i5, .int .i64 n5])), (48, Stb.eq (.bool true)), (49, Stb.eq (.bool true)), (6, Stb.eq (.bool true))]) (by kernel_rfl) (by kernel_rfl) (kp_drewN _ 1) ?_ ?_
      · refine EachOp.cons ?_ ?_
        · intro a u hst hS hdep
          have h3 : a.tmps.getD 3 undef = .pointer (some ⟨W.heap.size, 0, none⟩) := hst.out 3 (by kernel_rfl)
          refine ⟨trivial, ?_⟩
          have g3 := gd h3
          obtain ⟨⟨x0, x1, x2⟩, ⟨y0, y1⟩, z0, z1⟩ := HB2.out u hS
          go_simp
          exact Goes.same hS rfl
        refine EachOp.cons ?_ ?_
        · intro a u hst hS hdep
          have h4 : a.tmps.getD 4 undef = .pointer (some ⟨W.heap.size + 1, 0, none⟩) := hst.out 4 (by kernel_rfl)
          refine ⟨trivial, ?_⟩
          have g4 := gd h4
          obtain ⟨⟨x0, x1, x2⟩, ⟨y0, y1⟩, z0, z1⟩ := HB2.out u hS
          go_simp
          exact Goes.same hS rfl
        refine EachOp.cons ?_ ?_
        · intro a u hst hS hdep
          have h35 : a.tmps.getD 35 undef = .agg #[.int .i64 f, .int .i64 q, .int .u64 l] := hdep 35 (by kernel_rfl)
          have h36 : a.tmps.getD 36 undef = .agg #[.int .i64 i, .int .i64 n] := hdep 36 (by kernel_rfl)
          refine ⟨trivial, ?_⟩
          have g35 := gd h35
          have g36 := gd h36
          go_simp
          refine (H13.out u).mono ?_
          rintro e u' ⟨rfl, hb'⟩
          exact Goes.next (kp_trans hS hb') hb' rfl
        refine EachOp.cons ?_ ?_
        · intro a u hst hS hdep
          have h37 : a.tmps.getD 37 undef = .bool true := hdep 37 (by kernel_rfl)
          refine ⟨trivial, ?_⟩
          have g37 := gd h37
          go_simp
          exact Goes.same hS rfl
        refine EachOp.cons ?_ ?_
        · intro a u hst hS hdep
          have h38 : a.tmps.getD 38 undef = .bool false := hdep 38 (by kernel_rfl)
          refine ⟨trivial, ?_⟩
          have g38 := gd h38
          go_simp
          exact Goes.same hS rfl
        refine EachOp.cons ?_ ?_
        · intro a u hst hS hdep
          have h3 : a.tmps.getD 3 undef = .pointer (some ⟨W.heap.size, 0, none⟩) := hst.out 3 (by kernel_rfl)
          have h39 : a.tmps.getD 39 undef = .bool false := hdep 39 (by kernel_rfl)
          refine ⟨⟨39, by kernel_rfl, h39⟩, ?_⟩
          clear h39
          have g3 := gd h3
          obtain ⟨⟨x0, x1, x2⟩, ⟨y0, y1⟩, z0, z1⟩ := HB2.out u hS
          go_simp
          exact Goes.same hS rfl
        refine EachOp.cons ?_ ?_
        · intro a u hst hS hdep
          have h4 : a.tmps.getD 4 undef = .pointer (some ⟨W.heap.size + 1, 0, none⟩) := hst.out 4 (by kernel_rfl)
          have h39 : a.tmps.getD 39 undef = .bool false := hdep 39 (by kernel_rfl)
          refine ⟨⟨39, by kernel_rfl, h39⟩, ?_⟩
          clear h39
          have g4 := gd h4
          obtain ⟨⟨x0, x1, x2⟩, ⟨y0, y1⟩, z0, z1⟩ := HB2.out u hS
          go_simp
          exact Goes.same hS rfl
        refine EachOp.cons ?_ ?_
        · intro a u hst hS hdep
          have h5 : a.tmps.getD 5 undef = .pointer (some ⟨W.heap.size + 1 + 1, 0, none⟩) := hst.out 5 (by kernel_rfl)
          have h39 : a.tmps.getD 39 undef = .bool false := hdep 39 (by kernel_rfl)
          refine ⟨⟨39, by kernel_rfl, h39⟩, ?_⟩
          clear h39
          have g5 := gd h5
          obtain ⟨⟨x0, x1, x2⟩, ⟨y0, y1⟩, z0, z1⟩ := HB2.out u hS
          go_simp
          exact Goes.same hS rfl
        refine EachOp.cons ?_ ?_
        · intro a u hst hS hdep
          have h40 : a.tmps.getD 40 undef = .agg #[.int .i64 f, .int .i64 q, .int .u64 l] := hdep 40 (by kernel_rfl)
          have h41 : a.tmps.getD 41 undef = .agg #[.int .i64 i, .int .i64 n] := hdep 41 (by kernel_rfl)
          have h42 : a.tmps.getD 42 undef = .agg #[.bool ok, .int .u64 g] := hdep 42 (by kernel_rfl)
          have h39 : a.tmps.getD 39 undef = .bool false := hdep 39 (by kernel_rfl)
          refine ⟨⟨39, by kernel_rfl, h39⟩, ?_⟩
          clear h39
          have g40 := gd h40
          have g41 := gd h41
          have g42 := gd h42
          go_simp
          refine (H14.out u).mono ?_
          rintro e u' ⟨rfl, hb'⟩
          exact Goes.next (kp_trans hS hb') hb' rfl
        refine EachOp.cons ?_ ?_
        · intro a u hst hS hdep
          have h3 : a.tmps.getD 3 undef = .pointer (some ⟨W.heap.size, 0, none⟩) := hst.out 3 (by kernel_rfl)
          have h39 : a.tmps.getD 39 undef = .bool false := hdep 39 (by kernel_rfl)
          refine ⟨⟨39, by kernel_rfl, h39⟩, ?_⟩
          clear h39
          have g3 := gd h3
          obtain ⟨⟨x0, x1, x2⟩, ⟨y0, y1⟩, z0, z1⟩ := HB2.out u hS
          go_simp
          exact Goes.same hS rfl
        refine EachOp.cons ?_ ?_
        · intro a u hst hS hdep
          have h4 : a.tmps.getD 4 undef = .pointer (some ⟨W.heap.size + 1, 0, none⟩) := hst.out 4 (by kernel_rfl)
          have h39 : a.tmps.getD 39 undef = .bool false := hdep 39 (by kernel_rfl)
          refine ⟨⟨39, by kernel_rfl, h39⟩, ?_⟩
          clear h39
          have g4 := gd h4
          obtain ⟨⟨x0, x1, x2⟩, ⟨y0, y1⟩, z0, z1⟩ := HB2.out u hS
          go_simp
          exact Goes.same hS rfl
        refine EachOp.cons ?_ ?_
        · intro a u hst hS hdep
          have h5 : a.tmps.getD 5 undef = .pointer (some ⟨W.heap.size + 1 + 1, 0, none⟩) := hst.out 5 (by kernel_rfl)
          have h39 : a.tmps.getD 39 undef = .bool false := hdep 39 (by kernel_rfl)
          refine ⟨⟨39, by kernel_rfl, h39⟩, ?_⟩
          clear h39
          have g5 := gd h5
          obtain ⟨⟨x0, x1, x2⟩, ⟨y0, y1⟩, z0, z1⟩ := HB2.out u hS
          go_simp
          exact Goes.same hS rfl
        refine EachOp.cons ?_ ?_
        · intro a u hst hS hdep
          have h44 : a.tmps.getD 44 undef = .agg #[.int .i64 f, .int .i64 q, .int .u64 l] := hdep 44 (by kernel_rfl)
          have h45 : a.tmps.getD 45 undef = .agg #[.int .i64 i, .int .i64 n] := hdep 45 (by kernel_rfl)
          have h46 : a.tmps.getD 46 undef = .agg #[.bool ok, .int .u64 g] := hdep 46 (by kernel_rfl)
          have h39 : a.tmps.getD 39 undef = .bool false := hdep 39 (by kernel_rfl)
          refine ⟨⟨39, by kernel_rfl, h39⟩, ?_⟩
          clear h39
          have g44 := gd h44
          have g45 := gd h45
          have g46 := gd h46
          go_simp
          refine (H15.out u).mono ?_
          rintro e u' ⟨rfl, hb'⟩
          exact Goes.next (kp_trans hS hb') hb' rfl
        refine EachOp.cons ?_ ?_
        · intro a u hst hS hdep
          have h43 : a.tmps.getD 43 undef = .agg #[.int .i64 i5, .int .i64 n5] := hdep 43 (by kernel_rfl)
          have h47 : a.tmps.getD 47 undef = .agg #[.int .i64 i5, .int .i64 n5] := hdep 47 (by kernel_rfl)
          have h39 : a.tmps.getD 39 undef = .bool false := hdep 39 (by kernel_rfl)
          refine ⟨⟨39, by kernel_rfl, h39⟩, ?_⟩
          clear h39
          have g43 := gd h43
          have g47 := gd h47
          go_simp
          exact Goes.same hS rfl
        refine EachOp.cons ?_ ?_
        · intro a u hst hS hdep
          have h39 : a.tmps.getD 39 undef = .bool false := hdep 39 (by kernel_rfl)
          have h48 : a.tmps.getD 48 undef = .bool true := hdep 48 (by kernel_rfl)
          refine ⟨trivial, ?_⟩
          have g39 := gd h39
          have g48 := gd h48
          go_simp
          exact Goes.same hS rfl
        refine EachOp.cons ?_ ?_
        · intro a u hst hS hdep
          have h49 : a.tmps.getD 49 undef = .bool true := hdep 49 (by kernel_rfl)
          refine ⟨trivial, ?_⟩
          have g49 := gd h49
          go_simp
          exact Goes.same hS rfl
        exact EachOp.nil
      · intro a u hst hS hdep
        have h35 : a.tmps.getD 35 undef = .agg #[.int .i64 f, .int .i64 q, .int .u64 l] := hdep 35 (by kernel_rfl)
        have h36 : a.tmps.getD 36 undef = .agg #[.int .i64 i, .int .i64 n] := hdep 36 (by kernel_rfl)
        have h37 : a.tmps.getD 37 undef = .bool true := hdep 37 (by kernel_rfl)
        have h38 : a.tmps.getD 38 undef = .bool false := hdep 38 (by kernel_rfl)
        have h39 : a.tmps.getD 39 undef = .bool false := hdep 39 (by kernel_rfl)
        have h40 : a.tmps.getD 40 undef = .agg #[.int .i64 f, .int .i64 q, .int .u64 l] := hdep 40 (by kernel_rfl)
        have h41 : a.tmps.getD 41 undef = .agg #[.int .i64 i, .int .i64 n] := hdep 41 (by kernel_rfl)
        have h42 : a.tmps.getD 42 undef = .agg #[.bool ok, .int .u64 g] := hdep 42 (by kernel_rfl)
        have h43 : a.tmps.getD 43 undef = .agg #[.int .i64 i5, .int .i64 n5] := hdep 43 (by kernel_rfl)
        have h44 : a.tmps.getD 44 undef = .agg #[.int .i64 f, .int .i64 q, .int .u64 l] := hdep 44 (by kernel_rfl)
        have h45 : a.tmps.getD 45 undef = .agg #[.int .i64 i, .int .i64 n] := hdep 45 (by kernel_rfl)
        have h46 : a.tmps.getD 46 undef = .agg #[.bool ok, .int .u64 g] := hdep 46 (by kernel_rfl)
        have h47 : a.tmps.getD 47 undef = .agg #[.int .i64 i5, .int .i64 n5] := hdep 47 (by kernel_rfl)
        have h48 : a.tmps.getD 48 undef = .bool true := hdep 48 (by kernel_rfl)
        have h49 : a.tmps.getD 49 undef = .bool true := hdep 49 (by kernel_rfl)
        have h6 : a.tmps.getD 6 undef = .bool true := hdep 6 (by kernel_rfl)
        have hfr := hst.frame [(35, .agg #[.int .i64 f, .int .i64 q, .int .u64 l]), (36, .agg #[.int .i64 i, .int .i64 n]), (37, .bool true), (38, .bool false), (39, .bool false), (40, .agg #[.int .i64 f, .int .i64 q, .int .u64 l]), (41, .agg #[.int .i64 i, .int .i64 n]), (42, .agg #[.bool ok, .int .u64 g]), (43, .agg #[.int .i64 i5, .int .i64 n5]), (44, .agg #[.int .i64 f, .int .i64 q, .int .u64 l]), (45, .agg #[.int .i64 i, .int .i64 n]), (46, .agg #[.bool ok, .int .u64 g]), (47, .agg #[.int .i64 i5, .int .i64 n5]), (48, .bool true), (49, .bool true), (6, .bool true)] (by kernel_rfl) ⟨h35, h36, h37, h38, h39, h40, h41, h42, h43, h44, h45, h46, h47, h48, h49, h6, trivial⟩
        clear hst hdep h35 h36 h37 h38 h39 h40 h41 h42 h43 h44 h45 h46 h47 h48 h49 h6
        subst hfr
        simp only [List.foldl_cons, List.foldl_nil, List.setIfInBounds_toArray, List.set_cons_zero, List.set_cons_succ]
        go_wp2_with fail
        go_ret
        exact ⟨rfl, HK2.out.trans (hS.mono HK2.out.size)⟩
end Go.Proofs.Ytbhgoeofcapckaa
