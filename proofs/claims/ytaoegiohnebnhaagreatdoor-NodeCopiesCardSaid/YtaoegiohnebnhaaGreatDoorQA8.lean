/-
  Contracts and plain functions that the law stands on, part 8 of 16.
-/
import Derived.Test.YtaoegiohnebnhaaGreatDoorQA7
import Derived.Lib.SliceRun
import Derived.Maps.OwnOps
import Derived.StringKeys
import Derived.Maps.OwnSet
import Derived.Tactics
import Derived.Tactics2
import Derived.Defers
import Derived.Laws.Pointers
import Derived.Laws.LoneSync
import Derived.RegionTactic
import Derived.RegionCalls
import Derived.ChangeAlike
import Derived.Laws.NewBlocks
import Derived.Deep.RegionWith
namespace Go.Proofs.YtaoegiohnebnhaaGreatDoor
/- Layer 15: the law's own calls: they answer so. -/
section
open Go.RowKit
set_option maxRecDepth 100000

section
variable {P : Program} {w0 w w' : World} {X X' Y : Thing} {N K : Nat → Prop}
/-- a call on the first that tells a row: its block is marked -/
theorem Duo.told {f : FuncId} {args : Array Value} {Q : Ending → World → Option Addr → Nat → Nat → Prop} (h : Duo w0 X Y N w) (hop : ∀ S, X.p S w → Calls P f args w fun e w' => ∃ A m d, Q e w' A m d ∧ Told1 X' S A w w') :
    Calls P f args w fun e w' => ∃ A m d, Q e w' A m d ∧ Duo w0 X' Y (fun k => (∃ ad, A = some ad ∧ k = ad.block) ∨ N k) w' ∧ ∀ k, N k → w'.heap[k]? = w.heap[k]? := by
  obtain ⟨⟨S, T, h1, h2, h3, h4⟩, h5, h6⟩ := h
  refine (hop S h1).mono fun e w' ⟨A, m, d, hq, ⟨S', g1, g2, g4⟩, g3⟩ => ⟨A, m, d, hq, ⟨⟨S', T, g1, Thing.off h2 g3 (fun k hk hk2 => h3 k hk2 hk), fun k hk hk2 => ?_, fun k hk => ?_⟩, h5.trans (g3.below (fun k hk => (h4 k (.inl hk)).1) h5.size), fun k hk => ?_⟩, fun k hk => g3.block k (h6 k hk) fun e => (h4 k (.inl e)).2 hk⟩
  · rcases g2 k hk with e | e
    · exact h3 k e hk2
    · have := Y.lt h2 k hk2; omega
  · have hz := h5.size
    rcases hk with hk | hk
    · refine ⟨?_, fun hN => ?_⟩
      · rcases g2 k hk with e | e
        · exact (h4 k (.inl e)).1
        · omega
      · rcases hN with ⟨ad, hA, rfl⟩ | hN
        · exact (g4 ad hA).2.2 hk
        · rcases g2 k hk with e | e
          · exact (h4 k (.inl e)).2 hN
          · have := h6 k hN; omega
    · refine ⟨(h4 k (.inr hk)).1, fun hN => ?_⟩
      rcases hN with ⟨ad, hA, rfl⟩ | hN
      · have := (g4 ad hA).1; have := Y.lt h2 _ hk; omega
      · exact (h4 k (.inr hk)).2 hN
  · rcases hk with ⟨ad, hA, rfl⟩ | hk
    · exact (g4 ad hA).2.1
    · exact Nat.lt_of_lt_of_le (h6 k hk) g3.size
/-- what is written into marked blocks -/
theorem Duo.poke (h : Duo w0 X Y N w) (ho : Off K w w') (hK : ∀ k, K k → N k ∧ w0.heap.size ≤ k) : Duo w0 X Y N w' := by
  obtain ⟨⟨S, T, h1, h2, h3, h4⟩, h5, h6⟩ := h
  exact ⟨⟨S, T, Thing.off h1 ho (fun k hk e => (h4 k (.inl hk)).2 (hK k e).1), Thing.off h2 ho (fun k hk e => (h4 k (.inr hk)).2 (hK k e).1), h3, h4⟩, h5.trans (ho.below (fun k hk => (hK k hk).2) h5.size), fun k hk => Nat.lt_of_lt_of_le (h6 k hk) ho.size⟩
end
/-- a call that changes the second and reads the first -/
theorem Duo.both {P : Program} {w0 w : World} {X Y Y' : Thing} {N : Nat → Prop} {f : FuncId} {args : Array Value} {Q : Ending → World → Prop} (h : Duo w0 X Y N w) (hop : ∀ S T, X.p S w → Y.p T w → (∀ k, T k → ¬ S k) → Calls P f args w fun e w' => Q e w' ∧ Turn Y' T w w') :
    Calls P f args w fun e w' => Q e w' ∧ Duo w0 X Y' N w' ∧ ∀ k, N k → w'.heap[k]? = w.heap[k]? := by
  obtain ⟨⟨S, T, h1, h2, h3, h4⟩, h5, h6⟩ := h
  refine (hop S T h1 h2 fun k a b => h3 k b a).mono fun e w' ⟨hq, ⟨T', g1, g2⟩, g3⟩ => ⟨hq, ⟨⟨S, T', Thing.off h1 g3 h3, g1, fun k hk hk2 => ?_, fun k hk => ?_⟩, h5.trans (g3.below (fun k hk => (h4 k (.inr hk)).1) h5.size), fun k hk => Nat.lt_of_lt_of_le (h6 k hk) g3.size⟩, fun k hk => g3.block k (h6 k hk) fun e => (h4 k (.inr e)).2 hk⟩
  · rcases g2 k hk2 with e | e
    · exact h3 k hk e
    · have := X.lt h1 k hk; omega
  · rcases hk with hk | hk
    · exact h4 k (.inl hk)
    · rcases g2 k hk with e | e
      · exact h4 k (.inr e)
      · have := h5.size
        exact ⟨by omega, fun hN => by have := h6 k hN; omega⟩
/-- blocks that lie so -/
def At15 (l : List (Nat × Obj)) (N : Nat → Prop) (u : World) : Prop := ∀ p ∈ l, N p.1 ∧ u.heap[p.1]? = some p.2
theorem At15.kept {l : List (Nat × Obj)} {N : Nat → Prop} {u u' : World} (h : At15 l N u) (hk : ∀ k, N k → u'.heap[k]? = u.heap[k]?) : At15 l N u' := fun p hp => ⟨(h p hp).1, (hk _ (h p hp).1).trans (h p hp).2⟩
theorem At15.wide {l : List (Nat × Obj)} {N N' : Nat → Prop} {u : World} (h : At15 l N u) (hk : ∀ k, N k → N' k) : At15 l N' u := fun p hp => ⟨hk _ (h p hp).1, (h p hp).2⟩
/-- a block more -/
theorem Duo.mark15 {w0 u u' : World} {X Y : Thing} {N : Nat → Prop} {l : List (Nat × Obj)} {t : Nat} (h : Duo w0 X Y N u) (hl : At15 l N u) (o : Obj) (ho : u.alloc o = u') (ht : u.heap.size = t) : ∃ N', Duo w0 X Y N' u' ∧ At15 ((t, o) :: l) N' u' ∧ (∀ k, N k → N' k) ∧ Below u.heap.size u u' := by
  subst ho ht
  refine ⟨_, h.mark o, fun p hp => ?_, fun _ hk => .inr hk, kp_new u o⟩
  rcases List.mem_cons.1 hp with rfl | hp
  · exact ⟨.inl rfl, heap_alloc_new u o⟩
  · exact ⟨.inr (hl p hp).1, ((kp_new u o).block _ (h.nlt _ (hl p hp).1)).trans (hl p hp).2⟩
/-- behind a call that tells a row -/
theorem Duo.told15 {P : Program} {w0 u : World} {X X' Y : Thing} {N : Nat → Prop} {l : List (Nat × Obj)} {f : FuncId} {args : Array Value} {Q : Ending → World → Option Addr → Nat → Nat → Prop} (h : Duo w0 X Y N u) (hl : At15 l N u) (hop : ∀ S, X.p S u → Calls P f args u fun e w' => ∃ A m d, Q e w' A m d ∧ Told1 X' S A u w') :
    Calls P f args u fun e u' => ∃ A m d N', Q e u' A m d ∧ Duo w0 X' Y N' u' ∧ At15 l N' u' ∧ (∀ ad, A = some ad → N' ad.block) ∧ (∀ k, N k → N' k ∧ u'.heap[k]? = u.heap[k]?) ∧ u.heap.size ≤ u'.heap.size :=
  (h.told (Q := fun e w' A m d => Q e w' A m d ∧ u.heap.size ≤ w'.heap.size) fun S hS => (hop S hS).mono fun _ _ ⟨A, m, d, hq, ht⟩ => ⟨A, m, d, ⟨hq, ht.off.size⟩, ht⟩).mono fun _ _ ⟨A, m, d, ⟨hq, hz⟩, hd, hk⟩ => ⟨A, m, d, _, hq, hd, (hl.kept hk).wide fun _ h => .inr h, fun ad h => .inl ⟨ad, h, rfl⟩, fun k h => ⟨.inr h, hk k h⟩, hz⟩
theorem tab15_len : (tabN [⟨1, tx15_1⟩] []).length = 1 := by
  unfold tabN wrT
  simp only [List.map_cons, List.map_nil, List.foldl_cons, List.foldl_nil, plan15_1]
  kernel_rfl
section
variable {X : Nat → Nd → Thing} {w : World}
set_option maxHeartbeats 16000000 in
theorem awake15_ok (C : NodeC X) (hL : Lw w) :
    Calls Tryz.prog 8 #[] w fun e w' => e = .returned (.bool true) ∧ Below w.heap.size w w' := by
  go_enter Tryz.func8, Tryz.ntmps8
  go_wp2_with fail
  refine (C.new w hL).mono ?_
  rintro e w1 ⟨b0, rfl, ⟨S0, p0, s0⟩, k1⟩
  go_wp2_with fail
  refine (C.new w1 (hL.next k1)).mono ?_
  rintro e w2 ⟨b1, rfl, ⟨S1, p1, s1⟩, k2⟩
  have D2 : Duo w (X b0 newNd) (X b1 newNd) noneB w2 := ⟨⟨S0, S1, Thing.next p0 k2, p1, fun k e1 e2 => by have := (X b0 newNd).lt p0 k e1; have := s1 k e2; omega, fun k hk => ⟨hk.elim (s0 k) (fun e => by have := s1 k e; have := k1.size; omega), fun h => h⟩⟩, k1.trans (k2.mono k1.size), fun k h => h.elim⟩
  have HD2 := Lib.hid D2
  clear D2 p0 p1 s0 s1 k1 k2
  have i0 : NdI 0 newNd := NdI.new
  have HI0 := Lib.hid i0
  clear i0
  have L2 : At15 [] noneB w2 := fun p hp => nomatch hp
  have HL2 := Lib.hid L2
  clear L2
  go_wp2_with fail
  refine (HD2.out.told15 HL2.out (Q := fun e' u A m d => e' = .returned (rpV ⟨7, 1, 0, []⟩ A m d)) fun S hS => by
    have h := C.run b0 newNd 0 1 1 false tx15_0 S w2 (hL.next HD2.out.low) hS HI0.out (by decide) (by unfold Sm tx15_0; decide) (by unfold I64n; decide) (by unfold U64n; decide)
    rw [run15_0] at h
    exact h.mono fun e u ⟨A, m, d, he, hx, ht⟩ => ⟨A, m, d, he, ht⟩).mono ?_
  rintro e w3 ⟨A3, m3, d3, N3, rfl, D3, L3, MA3, K3, HZ3⟩
  obtain ⟨w3a, hw3⟩ : ∃ u, w3.alloc (.cells #[.int .i64 7, .int .u64 1, .int .u64 0, .slice A3 m3 d3] 68) = u := ⟨_, rfl⟩
  obtain ⟨t3, ht3⟩ : ∃ y, w3.heap.size = y := ⟨_, rfl⟩
  obtain ⟨N3a, D3a, L3a, S3, Z3⟩ := D3.mark15 L3 _ hw3 ht3
  have HD3a := Lib.hid D3a
  have HL3a := Lib.hid L3a
  have HW3 := Lib.hid hw3
  have HT3 := Lib.hid ht3
  clear HZ3 D3 L3 MA3 K3 D3a L3a S3 Z3 hw3 ht3 HD2 HL2
  unfold rpV
  dsimp only
  go_wp2_with fail
  rw [HW3.out, HT3.out]
  have HI1 := Lib.hid (show NdI 0 led15 from NdI.new.lead (by decide) (by decide))
  refine (HD3a.out.left (X' := X b0 led15) fun S hS => C.lead b0 newNd 0 1 S w3a hS HI0.out (by unfold U64n; decide)).mono ?_
  rintro e w5 ⟨rfl, D5, K5⟩
  have HD5 := Lib.hid D5
  have HL5 := Lib.hid (HL3a.out.kept K5)
  clear D5 K5 HD3a HL3a HW3 HT3
  have HI2 : Hid (NdI 1 ⟨1, true, [⟨1, tx15_1⟩], []⟩) := Lib.hid (by
    have h := HI1.out.run (c := 1) (e := 1) (rd := false) (s := tx15_1) (by unfold Sm tx15_1; decide) (by decide) (by decide)
    rw [run15_1] at h
    exact h)
  go_wp2_with fail
  refine (HD5.out.told15 HL5.out (Q := fun e' u A m d => e' = .returned (rpV ⟨0, 1, 1, []⟩ A m d)) fun S hS => by
    have h := C.run b0 led15 0 1 1 false tx15_1 S w5 (hL.next HD5.out.low) hS HI1.out (by decide) (by unfold Sm tx15_1; decide) (by unfold I64n; decide) (by unfold U64n; decide)
    rw [run15_1] at h
    exact h.mono fun e u ⟨A, m, d, he, hx, ht⟩ => ⟨A, m, d, he, ht⟩).mono ?_
  rintro e w6 ⟨A4, m4, d4, N6, rfl, D6, L6, MA4, K6, HZ6⟩
  obtain ⟨w6a, hw6⟩ : ∃ u, w6.alloc (.cells #[.int .i64 0, .int .u64 1, .int .u64 1, .slice A4 m4 d4] 68) = u := ⟨_, rfl⟩
  obtain ⟨t4, ht4⟩ : ∃ y, w6.heap.size = y := ⟨_, rfl⟩
  obtain ⟨N6a, D6a, L6a, S6, Z6⟩ := D6.mark15 L6 _ hw6 ht4
  have HD6a := Lib.hid D6a
  have HL6a := Lib.hid L6a
  have HW6 := Lib.hid hw6
  have HT6 := Lib.hid ht4
  clear HZ6 D6 L6 MA4 K6 D6a L6a S6 Z6 hw6 ht4 HD5 HL5
  unfold rpV
  dsimp only
  go_wp2_with fail
  rw [HW6.out, HT6.out]
  refine (HD6a.out.told15 HL6a.out (Q := fun e' u A m d => e' = .returned (rpV ⟨0, 1, 1, [⟨#[97]⟩, ⟨#[98]⟩]⟩ A m d) ∧ XR u A m [⟨#[97]⟩, ⟨#[98]⟩]) fun S hS => by
    have h := C.run b0 ⟨1, true, [⟨1, tx15_1⟩], []⟩ 1 1 1 true tx15_2 S w6a (hL.next HD6a.out.low) hS HI2.out (by decide) (by unfold Sm tx15_2; decide) (by unfold I64n; decide) (by unfold U64n; decide)
    rw [run15_2] at h
    exact h.mono fun e u ⟨A, m, d, he, hx, ht⟩ => ⟨A, m, d, ⟨he, hx⟩, ht⟩).mono ?_
  rintro e w7 ⟨A5, m5, d5, N7, ⟨rfl, hx5⟩, D7, L7, MA5, K7, HZ7⟩
  obtain ⟨w7a, hw7⟩ : ∃ u, w7.alloc (.cells #[.int .i64 0, .int .u64 1, .int .u64 1, .slice A5 m5 d5] 68) = u := ⟨_, rfl⟩
  obtain ⟨t5, ht5⟩ : ∃ y, w7.heap.size = y := ⟨_, rfl⟩
  obtain ⟨N7a, D7a, L7a, S7, Z7⟩ := D7.mark15 L7 _ hw7 ht5
  have HXR := Lib.hid (And.intro (hx5.next Z7) fun ad h => S7 _ (MA5 ad h))
  have HD7a := Lib.hid D7a
  have HL7a := Lib.hid L7a
  have HW7 := Lib.hid hw7
  have HT7 := Lib.hid ht5
  clear HZ7 D7 L7 MA5 K7 D7a L7a S7 Z7 hw7 ht5 HD6a HL6a HW6 HT6 hx5
  unfold rpV
  dsimp only
  go_wp2_with fail
  rw [HW7.out, HT7.out]
  refine (HD7a.out.told15 HL7a.out (Q := fun e' u A m d => e' = .returned (rpV ⟨8, 1, 1, []⟩ A m d)) fun S hS => by
    have h := C.run b0 ⟨1, true, [⟨1, tx15_1⟩], []⟩ 1 1 2 true tx15_2 S w7a (hL.next HD7a.out.low) hS HI2.out (by decide) (by unfold Sm tx15_2; decide) (by unfold I64n; decide) (by unfold U64n; decide)
    rw [run15_3] at h
    exact h.mono fun e u ⟨A, m, d, he, hx, ht⟩ => ⟨A, m, d, he, ht⟩).mono ?_
  rintro e w8 ⟨A6, m6, d6, N8, rfl, D8, L8, MA6, K8, HZ8⟩
  obtain ⟨w8a, hw8⟩ : ∃ u, w8.alloc (.cells #[.int .i64 8, .int .u64 1, .int .u64 1, .slice A6 m6 d6] 68) = u := ⟨_, rfl⟩
  obtain ⟨t6, ht6⟩ : ∃ y, w8.heap.size = y := ⟨_, rfl⟩
  obtain ⟨N8a, D8a, L8a, S8, Z8⟩ := D8.mark15 L8 _ hw8 ht6
  have HXR8 := Lib.hid (And.intro (((HXR.out.1).off HZ8 fun ad h => (K8 _ (HXR.out.2 ad h)).2).next Z8) fun ad h => S8 _ (K8 _ (HXR.out.2 ad h)).1)
  have HD8a := Lib.hid D8a
  have HL8a := Lib.hid L8a
  have HW8 := Lib.hid hw8
  have HT8 := Lib.hid ht6
  clear HZ8 D8 L8 MA6 K8 D8a L8a S8 Z8 hw8 ht6 HD7a HL7a HW7 HT7 HXR
  unfold rpV
  dsimp only
  go_wp2_with fail
  rw [HW8.out, HT8.out]
  have HI3 : Hid (NdI 0 ⟨1, false, [⟨1, tx15_1⟩], []⟩) := Lib.hid (by
    have h := HI0.out.copy HI2.out 5
    rw [copy15_0] at h
    exact h)
  refine (HD8a.out.both (Y' := X b1 ⟨1, false, [⟨1, tx15_1⟩], []⟩) (Q := fun e u => e = .returned (.int .i64 1) ∧ w8a.heap.size ≤ u.heap.size) fun S T hS hT hd => by
    have h := C.copy b1 b0 newNd ⟨1, true, [⟨1, tx15_1⟩], []⟩ 0 1 5 T S w8a hT hS hd HI0.out HI2.out (by unfold I64n; decide)
    rw [copy15_0] at h
    exact h.mono fun _ _ ⟨he, ht⟩ => ⟨⟨he, ht.off.size⟩, ht⟩).mono ?_
  rintro e w9 ⟨⟨rfl, hz9⟩, D9, K9⟩
  have L9 := HL8a.out.kept K9
  have B3 : w9.heap[t3]? = some (.cells #[.int .i64 7, .int .u64 1, .int .u64 0, .slice A3 m3 d3] 68 (0, 0)) := (L9 _ (.tail _ (.tail _ (.tail _ (.head _))))).2
  have B4 : w9.heap[t4]? = some (.cells #[.int .i64 0, .int .u64 1, .int .u64 1, .slice A4 m4 d4] 68 (0, 0)) := (L9 _ (.tail _ (.tail _ (.head _)))).2
  have B5 : w9.heap[t5]? = some (.cells #[.int .i64 0, .int .u64 1, .int .u64 1, .slice A5 m5 d5] 68 (0, 0)) := (L9 _ (.tail _ (.head _))).2
  have B6 : w9.heap[t6]? = some (.cells #[.int .i64 8, .int .u64 1, .int .u64 1, .slice A6 m6 d6] 68 (0, 0)) := (L9 _ (.head _)).2
  have hx9 := HXR8.out.1.off hz9 fun ad h => K9 _ (HXR8.out.2 ad h)
  obtain rfl : m5 = 2 := hx9.len.symm
  obtain ⟨c30, _⟩ := cellsAt B3 0 (v := .int .i64 7) rfl
  obtain ⟨c40, _⟩ := cellsAt B4 0 (v := .int .i64 0) rfl
  obtain ⟨c42, _⟩ := cellsAt B4 2 (v := .int .u64 1) rfl
  obtain ⟨c53, _⟩ := cellsAt B5 3 (v := .slice A5 2 d5) rfl
  obtain ⟨w10, hw10⟩ : ∃ u, w9.alloc (.cells #[.string ⟨#[97]⟩, .string ⟨#[98]⟩] 9) = u := ⟨_, rfl⟩
  have k10 : Below w9.heap.size w9 w10 := hw10 ▸ kp_new w9 _
  have hn10 : XR w10 (some ⟨w9.heap.size, 0, none⟩) 2 [⟨#[97]⟩, ⟨#[98]⟩] := hw10 ▸ XR.new w9 9 [⟨#[97]⟩, ⟨#[98]⟩]
  have HXX := Lib.hid (And.intro (hx9.next k10) hn10)
  have HW10 := Lib.hid hw10
  have HK10 := Lib.hid k10
  have HD9 := Lib.hid D9
  have HB6 := Lib.hid B6
  clear HXR8 HD8a HL8a D9 K9 L9 B3 B4 B5 B6 hx9 hz9 hw10 k10 hn10 HW8 HT8
  go_wp2_with fail
  rw [HW10.out]
  refine (texts6_ok A5 _ 2 2 d5 2 _ _ w10 HXX.out.1 HXX.out.2 (by omega) (by omega) true (Lib.hid (by decide))).mono ?_
  rintro e w11 ⟨rfl, mm, hw11⟩
  have k11 : Below w9.heap.size w9 w11 := HK10.out.trans ((show Below w10.heap.size w10 w11 from hw11 ▸ kp_drewN _ _).mono HK10.out.size)
  have B6 := (k11.block t6 (Array.getElem?_eq_some_iff.1 HB6.out).1).trans HB6.out
  obtain ⟨c60, _⟩ := cellsAt B6 0 (v := .int .i64 8) rfl
  obtain ⟨c61, _⟩ := cellsAt B6 1 (v := .int .u64 1) rfl
  have HD11 := Lib.hid (HD9.out.next k11)
  clear hw11 k11 B6 HD9 HB6 HK10 HW10 HXX c30 c40 c42 c53
  go_wp2_with fail
  refine (HD11.out.right (Y' := X b1 ⟨1, false, [⟨1, tx15_1⟩], []⟩) (Q := fun e _ => ∃ A m d, e = .returned (.slice A m d) ∧ m ≤ d ∧ m = 1) fun T hT => (C.log b1 _ 0 T w11 hT HI3.out).mono fun _ _ ⟨A, m, d, he, hmd, hlr, ht⟩ => ⟨⟨A, m, d, he, hmd, hlr.len.symm⟩, ht.turn⟩).mono ?_
  rintro e w12 ⟨⟨AL, mL, dL, rfl, hmd, rfl⟩, D12, _⟩
  have HD12 := Lib.hid D12
  clear D12 HD11 c60 c61
  go_wp2_with fail
  refine (HD12.out.right (Y' := X b1 ⟨1, false, [⟨1, tx15_1⟩], []⟩) (Q := fun e _ => ∃ A m d, e = .returned (.slice A m d) ∧ m = 1) fun T hT => (C.table b1 _ 0 T w12 (hL.next HD12.out.low) hT HI3.out).mono fun _ _ ⟨A, m, d, he, hkr, ht⟩ => ⟨⟨A, m, d, he, hkr.len.symm.trans tab15_len⟩, ht⟩).mono ?_
  rintro e w13 ⟨⟨AT, mT, dT, rfl, rfl⟩, D13, _⟩
  have HD13 := Lib.hid D13
  clear D13 HD12
  go_wp2_with fail
  refine (HD13.out.askr (Q := fun e _ => e = .returned (.bool false)) fun T hT => C.leads b1 _ 0 T w13 hT HI3.out).mono ?_
  rintro e w14 ⟨rfl, D14⟩
  have HD14 := Lib.hid D14
  clear D14 HD13
  go_wp2_with fail
  refine (HD14.out.askl (Q := fun e _ => e = .returned (.bool true)) fun T hT => C.leads b0 _ 1 T w14 hT HI2.out).mono ?_
  rintro e w15 ⟨rfl, D15⟩
  have HD15 := Lib.hid D15
  clear D15 HD14
  go_wp2_with fail
  go_ret
  exact ⟨rfl, HD15.out.low⟩
end
end

/- Layer 15: three things, one of which is asked for a row; one thing that a call made itself, likewise (no function of the program is named here). -/
section
open Go.RowKit
set_option maxRecDepth 100000

section
variable {α : Type} {P : Program} {w0 w w' : World} {X X' : Thing} {Y : Nat → α → Thing} {bs : Nat → Nat} {ns : Nat → α} {N S : Nat → Prop}
/-- likewise, and it stays as it was -/
theorem Tri.told0 {f : FuncId} {args : Array Value} {Q : Ending → World → Option Addr → Nat → Nat → Prop} {i : Nat} (h : (Tri Y bs ns).p S w) (hi : i < 3) (hop : ∀ S', (Y (bs i) (ns i)).p S' w → Calls P f args w fun e w' => ∃ A m d, Q e w' A m d ∧ Told1 (Y (bs i) (ns i)) S' A w w') :
    Calls P f args w fun e w' => ∃ A m d, Q e w' A m d ∧ Told1 (Tri Y bs ns) S A w w' := by
  have := Tri.told h hi hop
  rwa [upd3_self] at this
end
end

/- Layer 15, plain: what follows of a node's acts (no function of the program is named here). -/
section
open Go.RowKit
set_option maxRecDepth 100000

/-- what doing leaves: the same epoch, more entries of it, or none -/
structure Grew (n n' : Nd) (er : Int) : Prop where
  ep : n'.ep = n.ep
  ld : n'.ld = n.ld
  lg : ∃ es, n'.lg = n.lg ++ es ∧ ∀ x ∈ es, x.e = n.ep
  no : er ≠ 0 → n'.lg = n.lg
theorem Grew.same (n : Nd) (op : List Op15) (er : Int) : Grew n { n with op := op } er := ⟨rfl, rfl, ⟨[], by simp, fun _ h => nomatch h⟩, fun _ => rfl⟩
theorem layNd_grew (n : Nd) (op : List Op15) (ts : List ByteArray) : Grew n (layNd { n with op := op } ts).2 (layNd { n with op := op } ts).1 := by
  unfold layNd
  split
  · exact Grew.same n op 5
  · refine ⟨rfl, rfl, ⟨_, rfl, fun x hx => ?_⟩, fun h => absurd rfl h⟩
    obtain ⟨t, _, rfl⟩ := List.mem_map.1 hx
    rfl
theorem doNd_grew (n : Nd) (c is : Int) (s : ByteArray) : Grew n (doNd n c is s).2 (doNd n c is s).1 := by
  unfold doNd
  split
  · split
    · exact Grew.same n n.op 7
    split
    · exact layNd_grew n (dropOp c n.op) _
    split
    · exact Grew.same n _ 0
    split
    · split
      · exact Grew.same n n.op 5
      · exact Grew.same n _ 0
    · exact Grew.same n n.op 0
  · split
    · exact Grew.same n n.op 7
    split
    · exact Grew.same n _ 0
    split
    · exact layNd_grew n n.op _
    · exact Grew.same n n.op 0
theorem why_none {n : Nd} {e : Int} {rd : Bool} {is : Int} (h : whyNd n e rd is = 0) : e = n.ep ∧ is ≠ 0 ∧ (rd = true → is = 1) ∧ (rd = false → n.ld = true) := by
  unfold whyNd at h
  split at h
  · omega
  rename_i h1
  split at h
  · omega
  rename_i h2
  split at h
  · omega
  rename_i h3
  refine ⟨Decidable.not_not.1 h1, fun e => h2 (.inl e), fun e => Decidable.not_not.1 fun e2 => h2 (.inr ⟨e, e2⟩), fun e => ?_⟩
  cases hl : n.ld with
  | true => rfl
  | false => exact absurd ⟨e, hl⟩ h3
/-- what a statement lays, and who -/
structure Fenced (n : Nd) (e : Int) (rd : Bool) (s : ByteArray) (r : Rp) (n' : Nd) : Prop where
  grew : Grew n n' r.e
  ep : r.ep = n.ep
  pl : r.pl = n'.lg.length
  who : n'.lg ≠ n.lg → r.e = 0 ∧ e = n.ep ∧ n.ld = true ∧ rd = false ∧ clsT s ≠ 1 ∧ clsT s ≠ 0
  stale : e ≠ n.ep → r.e = 8
  leads : n.ld = false → rd = false → r.e ≠ 0
  texts : r.ts ≠ [] → clsT s = 1
theorem run_fenced (n : Nd) (c e : Int) (rd : Bool) (s : ByteArray) : Fenced n e rd s (runNd n c e rd s).1 (runNd n c e rd s).2 := by
  unfold runNd
  by_cases h1 : whyNd n e rd (clsT s) ≠ 0
  · rw [if_pos h1]
    exact ⟨Grew.same n n.op _, rfl, rfl, fun h => absurd rfl h, fun h => by show whyNd n e rd (clsT s) = 8; unfold whyNd; rw [if_pos h], fun _ _ => h1, fun h => absurd rfl h⟩
  · obtain ⟨he, h0, hr, hl⟩ := why_none (Decidable.not_not.1 h1)
    rw [if_neg h1]
    by_cases h2 : clsT s ≠ 1
    · rw [if_pos h2]
      have g := doNd_grew n c (clsT s) s
      have hrd : rd = false := by
        cases hrd : rd with
        | false => rfl
        | true => exact absurd (hr hrd) h2
      refine ⟨g, g.ep, rfl, fun h => ⟨?_, he, hl hrd, hrd, h2, h0⟩, fun h => absurd he h, (fun a b => by rw [hl b] at a; cases a), fun h => absurd rfl h⟩
      exact Decidable.not_not.1 fun h3 => h (g.no h3)
    · rw [if_neg h2]
      exact ⟨Grew.same n n.op _, rfl, rfl, fun h => absurd rfl h, fun h => absurd he h, fun a b => (by rw [hl b] at a; cases a), fun _ => Decidable.not_not.1 h2⟩
/-- who reads changes nothing -/
theorem run_read (n : Nd) (c : Int) (s : ByteArray) : (runNd n c n.ep true s).2 = n ∧ ((runNd n c n.ep true s).1.e = 0 ↔ clsT s = 1) := by
  unfold runNd
  by_cases h1 : whyNd n n.ep true (clsT s) ≠ 0
  · rw [if_pos h1]
    refine ⟨rfl, fun h => absurd h h1, fun h => ?_⟩
    exfalso
    apply h1
    unfold whyNd
    simp [h]
  · obtain ⟨_, _, hr, _⟩ := why_none (Decidable.not_not.1 h1)
    rw [if_neg h1, if_neg (fun h => h (hr rfl))]
    exact ⟨rfl, fun _ => hr rfl, fun _ => rfl⟩
theorem lead_ep (n : Nd) (e : Int) : n.ep ≤ (leadNd n e).ep := by
  unfold leadNd
  split
  · exact Int.le_refl _
  · show n.ep ≤ e; omega
theorem turn_ep (n f : Nd) : n.ep ≤ (turnNd n f).ep := by
  unfold turnNd
  split
  · show n.ep ≤ f.ep; omega
  · exact Int.le_refl _
theorem copy_ep (n f : Nd) (m : Int) : n.ep ≤ (copyNd n f m).2.ep := by
  unfold copyNd
  split
  · exact Int.le_refl _
  · exact turn_ep n f
/-- epochs never fall -/
theorem act_ep (ns : Nat → Nd) (x : Ac8) : (ns (of3 x.nd)).ep ≤ ((actN ns x).2 (of3 x.nd)).ep := by
  unfold actN
  split
  · show _ ≤ (upd3 ns (of3 x.nd) _ (of3 x.nd)).ep
    rw [upd3_at, (run_fenced _ _ _ _ _).grew.ep]
    exact Int.le_refl _
  split
  · show _ ≤ (upd3 ns (of3 x.nd) _ (of3 x.nd)).ep
    rw [upd3_at]
    exact Int.le_refl _
  split
  · show _ ≤ (upd3 ns (of3 x.nd) _ (of3 x.nd)).ep
    rw [upd3_at]
    exact lead_ep _ _
  · show _ ≤ (upd3 ns (of3 x.nd) _ (of3 x.nd)).ep
    rw [upd3_at]
    exact copy_ep _ _ _
/-- one that may copy of who leads an epoch -/
def Behind (E : Int) (n : Nd) : Prop := n.ep < E ∨ (n.ep = E ∧ n.ld = false)
theorem sameLg_self : ∀ (l : List Lg), sameLg l l = l.length
  | [] => rfl
  | x :: r => by
    have := sameLg_self r
    unfold sameLg
    rw [if_pos rfl, this]
    rfl
section
variable {n : Nd} {E : Int} {L : List Lg} {m : Int}
theorem copy_behind (h : Behind E n) (m : Int) : 0 ≤ (copyNd n ⟨E, true, L, []⟩ m).1 ∧ (copyNd n ⟨E, true, L, []⟩ m).1 ≤ max m 0 ∧ (copyNd n ⟨E, true, L, []⟩ m).2.ep = E ∧ (copyNd n ⟨E, true, L, []⟩ m).2.ld = false ∧
    (copyNd n ⟨E, true, L, []⟩ m).2.lg = L.take (sameLg n.lg L + manyNd n ⟨E, true, L, []⟩ m) ∧ (copyNd n ⟨E, true, L, []⟩ m).1 = manyNd n ⟨E, true, L, []⟩ m := by
  have hc : ¬ (E < n.ep ∨ (E = n.ep ∧ n.ld = true)) := by
    rintro (h1 | ⟨h1, h2⟩)
    · rcases h with h | ⟨h, _⟩ <;> omega
    · rcases h with h | ⟨_, h⟩
      · omega
      · rw [h] at h2; cases h2
  have ht : (turnNd n ⟨E, true, L, []⟩).ep = E ∧ (turnNd n ⟨E, true, L, []⟩).ld = false := by
    unfold turnNd
    rcases h with h | ⟨h1, h2⟩
    · rw [if_pos h]
      exact ⟨rfl, rfl⟩
    · rw [if_neg (by show ¬ n.ep < E; omega)]
      exact ⟨h1, h2⟩
  unfold copyNd
  rw [if_neg hc]
  refine ⟨Int.natCast_nonneg _, ?_, ht.1, ht.2, rfl, rfl⟩
  show ((min (L.length - sameLg n.lg L) m.toNat : Nat) : Int) ≤ _
  omega
theorem copy_end (h : Behind E n) (hL : L.length ≤ 200) : (copyNd n ⟨E, true, L, []⟩ 200).2.ep = E ∧ (copyNd n ⟨E, true, L, []⟩ 200).2.ld = false ∧ (copyNd n ⟨E, true, L, []⟩ 200).2.lg = L := by
  obtain ⟨_, _, h1, h2, h3, _⟩ := copy_behind (L := L) h 200
  refine ⟨h1, h2, h3.trans (List.take_of_length_le ?_)⟩
  show L.length ≤ sameLg n.lg L + min (L.length - sameLg n.lg L) (Int.toNat 200)
  have := (sameLg_le n.lg L).2
  omega
theorem copy_more (h : Behind E n) (hl : n.lg = L) : (copyNd n ⟨E, true, L, []⟩ 200).1 = 0 := by
  obtain ⟨_, _, _, _, _, h6⟩ := copy_behind (L := L) h 200
  rw [h6]
  show ((min (L.length - sameLg n.lg L) _ : Nat) : Int) = 0
  rw [hl, sameLg_self]
  simp
theorem copy_back (h : n.ep = E) (m : Int) : (copyNd ⟨E, true, L, []⟩ n m).1 = 0 := by
  unfold copyNd
  rw [if_pos (.inr ⟨h, rfl⟩)]
end
end

/- slices.IndexFunc, slices.ContainsFunc at a token's predicate: contracts. -/
section
open Go.RowKit
set_option maxRecDepth 100000

/-- what a function of tokens answers, and leaves -/
def TokPred (g : FuncId) (p : Tok → Bool) : Prop := ∀ (t : Tk) (w : World), Calls Tryz.prog g #[.agg #[.int .i64 t.k, .string t.t]] w fun e w' => e = .returned (.bool (p t.says)) ∧ Below w.heap.size w w'

/-- the first place at which a predicate holds, or -1 -/
def firstAt (p : Tok → Bool) (l : List Tok) : Int := match l.findIdx? p with | some k => (k : Int) | none => -1
theorem firstAt_hit {p : Tok → Bool} {l : List Tok} {k : Nat} (hk : k < l.length) (h : p l[k] = true) (hno : ∀ x ∈ l.take k, p x = false) : firstAt p l = (k : Int) := by
  have : l.findIdx? p = some k := by
    rw [List.findIdx?_eq_some_iff_getElem]
    refine ⟨hk, h, fun j hj => ?_⟩
    rw [hno _ (List.mem_iff_getElem.2 ⟨j, by rw [List.length_take]; omega, by rw [List.getElem_take]⟩)]
    simp
  unfold firstAt
  rw [this]
theorem firstAt_miss {p : Tok → Bool} {l : List Tok} (hno : ∀ x ∈ l, p x = false) : firstAt p l = -1 := by
  have : l.findIdx? p = none := by
    rw [List.findIdx?_eq_none_iff]
    exact hno
  unfold firstAt
  rw [this]
theorem firstAt_any (p : Tok → Bool) (l : List Tok) : decide (0 ≤ firstAt p l) = l.any p := by
  unfold firstAt
  cases h : l.findIdx? p with
  | none =>
    rw [List.findIdx?_eq_none_iff] at h
    have : l.any p = false := by rw [List.any_eq_false]; intro x hx; rw [h x hx]; simp
    rw [this]
    rfl
  | some k =>
    rw [List.findIdx?_eq_some_iff_getElem] at h
    obtain ⟨hk, h1, _⟩ := h
    have : l.any p = true := by rw [List.any_eq_true]; exact ⟨_, List.getElem_mem hk, h1⟩
    rw [this]
    simp

theorem says_take (ts : List Tk) (k : Nat) : (saysT ts).take k = saysT (ts.take k) := by simp [saysT, List.map_take]
theorem says_at {ts : List Tk} {k : Nat} (h : k < ts.length) : (saysT ts)[k]'(by rw [saysT_length]; exact h) = ts[k].says := by simp [saysT]

set_option maxHeartbeats 400000 in
theorem indexFunc_ok (g : FuncId) (p : Tok → Bool) (hp : TokPred g p) (eg : ∀ args w, (callFunc g args).run Tryz.prog w = .ok (.enter g args) w) (A : Option Addr) (n c : Nat) (ts : List Tk) (w : World) (h : TR w A n ts) (hn : n ≤ 1000000) :
    Calls Tryz.prog 97 #[.slice A n c, .func (.func g) #[] #[]] w fun e w' => e = .returned (.int .i64 (firstAt p (saysT ts))) ∧ Below w.heap.size w w' := by
  have hlen := Lib.hid h.len
  have hP := Lib.hid hp
  clear hp
  go_enter Tryz.func97, Tryz.ntmps97
  go_wp2
  go_loopw [8] (fun i wr => ∃ k : Nat, k ≤ n ∧ i = .int .i64 k ∧ Hid (∀ x ∈ (saysT ts).take k, p x = false) ∧ Below w.heap.size w wr) (fun i _ => n - (intOf i).toNat)
  case atStart => exact ⟨0, Nat.zero_le _, rfl, Lib.hid (by simp), Below.refl _ _⟩
  case round =>
    obtain ⟨k, hk, rfl, hno, kw⟩ := hrel
    by_cases hlt : k < n
    · have hkl : k < ts.length := by rw [hlen.out]; exact hlt
      obtain ⟨ad, rfl, _, hcc⟩ := h.at_ hkl
      obtain ⟨c0, c1⟩ := hcc _ kw
      have hC := Lib.hid (hP.out ts[k] wr)
      have hks : k < (saysT ts).length := by rw [saysT_length]; exact hkl
      have hsa := says_at hkl
      clear hcc
      cases hs : p ts[k].says with
      | false =>
        have hno2 : Hid (∀ x ∈ (saysT ts).take (k + 1), p x = false) := Lib.hid (by
          rw [List.take_succ_eq_append_getElem hks]
          intro x hx
          rcases List.mem_append.1 hx with h1 | h1
          · exact hno.out x h1
          · rw [List.mem_singleton.1 h1, hsa]; exact hs)
        rw [hs] at hC
        clear hs hsa hno
        generalize ts[k].k = x at *
        generalize ts[k].t = s at *
        go_wp2_with fail
        refine hC.out.mono ?_
        rintro e w1 ⟨rfl, k1⟩
        go_wp2_with fail
        go_roundw
        case rel => exact ⟨k + 1, by omega, by go_num, hno2, kp_trans kw k1⟩
        case measure => simp [intOf]; omega
      | true =>
        have hF := firstAt_hit hks (by rw [hsa]; exact hs) hno.out
        have HF := Lib.hid hF
        rw [hs] at hC
        clear hs hsa hno hF
        generalize ts[k].k = x at *
        generalize ts[k].t = s at *
        go_wp2_with fail
        refine hC.out.mono ?_
        rintro e w1 ⟨rfl, k1⟩
        go_wp2_with fail
        go_ret
        exact ⟨by rw [HF.out]; rfl, kp_trans kw k1⟩
    · obtain rfl : k = n := by omega
      have h1 := hno.out
      rw [List.take_of_length_le (by rw [saysT_length, hlen.out]; exact Nat.le_refl _)] at h1
      have HF := Lib.hid (firstAt_miss h1)
      clear h1
      go_wp2_with fail
      go_ret
      exact ⟨by rw [HF.out]; rfl, kw⟩

theorem containsFunc_ok (g : FuncId) (p : Tok → Bool) (hp : TokPred g p) (eg : ∀ args w, (callFunc g args).run Tryz.prog w = .ok (.enter g args) w) (A : Option Addr) (n c : Nat) (ts : List Tk) (w : World) (h : TR w A n ts) (hn : n ≤ 1000000) :
    Calls Tryz.prog 63 #[.slice A n c, .func (.func g) #[] #[]] w fun e w' => e = .returned (.bool ((saysT ts).any p)) ∧ Below w.heap.size w w' := by
  have hI := Lib.hid (indexFunc_ok g p hp eg A n c ts w h hn)
  have HF := Lib.hid (firstAt_any p (saysT ts))
  generalize firstAt p (saysT ts) = r at *
  go_enter Tryz.func63, Tryz.ntmps63
  go_wp2_with fail
  refine hI.out.mono ?_
  rintro e w1 ⟨rfl, k1⟩
  go_wp2_with fail
  go_ret
  exact ⟨ret_bool (by rw [← HF.out]), k1⟩
end

/- slices.DeleteFunc at tokens: contract. -/
section
open Go.RowKit
set_option maxRecDepth 100000

theorem add_at (g j : Nat) : (⟨g, 0, none⟩ : Addr).add j = ⟨g, j, none⟩ := by
  unfold Addr.add
  split
  · rename_i h; simp_all
  · simp
theorem pair_kept {w w2 : World} {x y : Value} {t : TypeId} (k : Below (w.alloc (.cells #[x, y] t)).heap.size (w.alloc (.cells #[x, y] t)) w2) : w2.cell? ⟨w.heap.size, 0, none⟩ = some x ∧ w2.cell? ⟨w.heap.size, 1, none⟩ = some y := by
  have hb : w2.heap[w.heap.size]? = some (.cells #[x, y] t (0, 0)) := (k.block _ (by simp)).trans (heap_alloc_new w _)
  constructor
  · rw [cell_of_row _ _ 0 #[x, y] t (0, 0) hb]; rfl
  · rw [cell_of_row _ _ 1 #[x, y] t (0, 0) hb]; rfl

/-- a block's tokens, from its head, none of them frozen -/
structure RowG (w : World) (g : Nat) (us : List Tk) : Prop where
  cell : ∀ j (h : j < us.length), (w.cell? ⟨g, j * 2, none⟩ = some (.int .i64 us[j].k) ∧ w.cell? ⟨g, j * 2 + 1, none⟩ = some (.string us[j].t)) ∧ w.frozen? ⟨g, j * 2, none⟩ = false ∧ w.frozen? ⟨g, j * 2 + 1, none⟩ = false
  lt : g < w.heap.size
theorem RowG.keep {w w' : World} {g : Nat} {us : List Tk} (h : RowG w g us) (hk : w'.heap[g]? = w.heap[g]?) (hs : w.heap.size ≤ w'.heap.size) : RowG w' g us := by
  refine ⟨fun j hj => ?_, Nat.lt_of_lt_of_le h.lt hs⟩
  have hc : ∀ p : Addr, p.block = g → w'.cell? p = w.cell? p := fun p hp => World.cell?_of_block (by rw [hp]; exact hk)
  have hf : ∀ p : Addr, p.block = g → w'.frozen? p = w.frozen? p := fun p hp => by unfold World.frozen?; rw [hp, hk]
  obtain ⟨⟨c0, c1⟩, f0, f1⟩ := h.cell j hj
  exact ⟨⟨(hc _ rfl).trans c0, (hc _ rfl).trans c1⟩, (hf _ rfl).trans f0, (hf _ rfl).trans f1⟩
theorem RowG.next {w w' : World} {g : Nat} {us : List Tk} (h : RowG w g us) (hb : Below w.heap.size w w') : RowG w' g us := h.keep (hb.block g h.lt) hb.size
/-- a token is stored -/
theorem RowG.set {w : World} {g : Nat} {us : List Tk} (h : RowG w g us) (k : Nat) (t : Tk) : RowG ((w.setCell ⟨g, k * 2, none⟩ (.int .i64 t.k)).setCell ⟨g, k * 2 + 1, none⟩ (.string t.t)) g (us.set k t) := by
  refine ⟨fun j hj => ?_, by simpa [World.setCell] using h.lt⟩
  rw [List.length_set] at hj
  obtain ⟨⟨c0, c1⟩, f0, f1⟩ := h.cell j hj
  refine ⟨?_, by simpa using f0, by simpa using f1⟩
  by_cases e : k = j
  · subst e
    simp only [List.getElem_set_self]
    refine ⟨?_, ?_⟩
    · rw [World.cell?_setCell_other _ _ _ _ (by simp)]
      exact World.cell?_setCell_same _ _ _ c0
    · refine World.cell?_setCell_same _ _ _ (u := .string us[k].t) ?_
      rw [World.cell?_setCell_other _ _ _ _ (by simp)]
      exact c1
  · rw [List.getElem_set_ne e]
    refine ⟨?_, ?_⟩
    · rw [World.cell?_setCell_other _ _ _ _ (by simp; try omega), World.cell?_setCell_other _ _ _ _ (by simp; try omega)]
      exact c0
    · rw [World.cell?_setCell_other _ _ _ _ (by simp; try omega), World.cell?_setCell_other _ _ _ _ (by simp; try omega)]
      exact c1
theorem RowG.tr {w : World} {g : Nat} {us : List Tk} (h : RowG w g us) : TR w (some ⟨g, 0, none⟩) us.length us := by
  refine ⟨rfl, .inr ⟨_, rfl, h.lt, fun j u hu => ?_⟩⟩
  rw [add_at]
  have hj : j < (tkC us).length := (List.getElem?_eq_some_iff.1 hu).1
  rw [tkC_length] at hj
  have hq : j / 2 < us.length := by omega
  obtain ⟨⟨c0, c1⟩, _, _⟩ := h.cell (j / 2) hq
  obtain ⟨t0, t1⟩ := tkC_at us (j / 2) hq
  rcases Nat.mod_two_eq_zero_or_one j with e | e
  · have e2 : j / 2 * 2 = j := by omega
    rw [e2] at c0 t0
    rw [c0, ← t0, hu]
  · have e2 : j / 2 * 2 + 1 = j := by omega
    rw [e2] at c1 t1
    rw [c1, ← t1, hu]
theorem OT.rowG {e : TypeId} {w : World} {base : Nat} {A : Option Addr} {n c : Nat} {ts : List Tk} (h : OT e w base A n c ts) (hn : 0 < n) : ∃ g, A = some ⟨g, 0, none⟩ ∧ base ≤ g ∧ RowG w g ts := by
  rcases h.own.2 with ⟨_, h0⟩ | ⟨g, cap, cur, hv, hg, hh, _, _, hs, hx⟩
  · omega
  · injection hv with hA
    refine ⟨g, hA, hg, fun j hj => ?_, (Array.getElem?_eq_some_iff.1 hh).1⟩
    obtain ⟨t0, t1⟩ := tkC_at ts j hj
    rw [← hx] at t0 t1
    have hlen := h.len
    rw [List.getElem?_take_of_lt (by omega), Array.getElem?_toList] at t0 t1
    refine ⟨⟨?_, ?_⟩, ?_, ?_⟩
    · rw [cell_of_row _ _ _ cur e (0, 0) hh]; exact t0
    · rw [cell_of_row _ _ _ cur e (0, 0) hh]; exact t1
    · unfold World.frozen?
      simp [hh]
    · unfold World.frozen?
      simp [hh]

theorem below_cells {base g : Nat} {w : World} : ∀ (vs : List Value) {w1 : World} (o : Nat), Below base w w1 → base ≤ g → Below base w (w1.setCells g o vs)
  | [], _, _, h, _ => h
  | v :: r, _, o, h, hg => by
    rw [World.setCells]
    exact below_cells r (o + 1) (h.setCell hg v) hg
theorem TR.cleared {w : World} {g k : Nat} {us : List Tk} (h : TR w (some ⟨g, 0, none⟩) k us) (vs : List Value) : TR (w.setCells g (k * 2) vs) (some ⟨g, 0, none⟩) k us := by
  refine ⟨h.len, ?_⟩
  have hs := (below_cells (base := 0) vs (k * 2) (Below.refl 0 w) (Nat.zero_le g)).size
  rcases h.rd with h0 | ⟨ad, hA, hb, hc⟩
  · exact .inl h0
  · injection hA with hA
    subst hA
    refine .inr ⟨_, rfl, Nat.lt_of_lt_of_le hb hs, fun j u hu => ?_⟩
    have hj : j < (tkC us).length := (List.getElem?_eq_some_iff.1 hu).1
    rw [tkC_length, h.len] at hj
    rw [← hc j u hu, add_at]
    exact World.cell?_setCells_out g vs (k * 2) w ⟨g, j, none⟩ fun _ _ => .inl hj

/-- 'clear' at tokens -/
theorem run_clear_toks (w : World) (ty : TypeId) (b o n c : Nat) (hn : 0 < n) (hc : ∀ j, j < n * 2 → (w.cell? ⟨b, o + j, none⟩).isSome = true) (hf : ∀ j, j < n * 2 → w.frozen? ⟨b, o + j, none⟩ = false) :
    ∃ vs : List Value, vs.length = n * 2 ∧ (Builtin.clear_ #[106] ty #[.slice (some ⟨b, o, none⟩) n c]).run Tryz.prog w = .ok (.tuple #[]) (w.setCells b o vs) := by
  have hv : ∀ w, (zeroValue 135).run Tryz.prog w = .ok (.agg #[.int .i64 0, .string ⟨#[]⟩]) w := fun _ => by kernel_rfl
  have hz : (Value.agg #[.int .i64 0, .string ⟨#[]⟩]).cells = #[.int .i64 0, .string ⟨#[]⟩] := rfl
  have hl : (Builtin.zeroCells (Value.agg #[.int .i64 0, .string ⟨#[]⟩]).cells n).toList.length = n * 2 := by
    rw [hz]
    simp [Builtin.zeroCells]
  have h1 : ∀ v ∈ (Builtin.zeroCells (Value.agg #[.int .i64 0, .string ⟨#[]⟩]).cells n).toList, v.oneCell' = true := by
    intro v hv'
    rw [hz] at hv'
    simp only [Builtin.zeroCells, Array.toList_map, List.mem_map] at hv'
    obtain ⟨i, _, rfl⟩ := hv'
    have : i % 2 = 0 ∨ i % 2 = 1 := by omega
    rcases this with e | e <;> simp [e, Value.oneCell']
  generalize (Value.agg #[.int .i64 0, .string ⟨#[]⟩]) = z at hv hl h1
  refine ⟨_, hl, ?_⟩
  have hst := run_storeCells_cells (P := Tryz.prog) b o (Builtin.zeroCells z.cells n).toList 0 w (by rw [hl]; simpa using hc) (by rw [hl]; simpa using hf) h1
  simp only [Nat.add_zero] at hst
  clear hl h1
  obtain ⟨m, rfl⟩ : ∃ m, n = m + 1 := ⟨n - 1, by omega⟩
  simp [Builtin.clear_, run_underlying Tryz.underlying106, hv, hst]

theorem firstAt_cases (p : Tok → Bool) (l : List Tok) : (firstAt p l = -1 ∧ l.filter (fun t => !p t) = l) ∨ ∃ k : Nat, firstAt p l = (k : Int) ∧ k < l.length ∧ (l.take (k + 1)).filter (fun t => !p t) = l.take k := by
  unfold firstAt
  cases h : l.findIdx? p with
  | none =>
    rw [List.findIdx?_eq_none_iff] at h
    exact .inl ⟨rfl, List.filter_eq_self.2 fun x hx => by rw [h x hx]; rfl⟩
  | some k =>
    rw [List.findIdx?_eq_some_iff_getElem] at h
    obtain ⟨hk, h1, h2⟩ := h
    refine .inr ⟨k, rfl, hk, ?_⟩
    rw [List.take_succ_eq_append_getElem hk, List.filter_append]
    have e1 : [l[k]].filter (fun t => !p t) = [] := by simp [h1]
    rw [e1, List.append_nil]
    refine List.filter_eq_self.2 fun x hx => ?_
    obtain ⟨j, hj, rfl⟩ := List.mem_iff_getElem.1 hx
    rw [List.length_take] at hj
    rw [List.getElem_take]
    have := h2 j (by omega)
    simpa using this

set_option maxHeartbeats 1000000 in
theorem deleteFunc_ok (g : FuncId) (p : Tok → Bool) (hp : TokPred g p) (eg : ∀ args w, (callFunc g args).run Tryz.prog w = .ok (.enter g args) w) (A : Option Addr) (n c : Nat) (ts : List Tk) (w : World) (base : Nat) (h : OT 135 w base A n c ts) (hbase : base ≤ w.heap.size) (hn : n ≤ 1000000) :
    Calls Tryz.prog 72 #[.slice A n c, .func (.func g) #[] #[]] w fun e w' => ∃ (us : List Tk) (k : Nat), e = .returned (.slice A k c) ∧ TR w' A k us ∧ k ≤ n ∧ Hid (saysT us = (saysT ts).filter fun t => !p t) ∧ Below base w w' := by
  have hlen := Lib.hid h.len
  have hcap := h.cap
  have hI := Lib.hid (indexFunc_ok g p hp eg A n c ts w h.tr hn)
  have hP := Lib.hid hp
  clear hp
  rcases firstAt_cases p (saysT ts) with ⟨hF, hall⟩ | ⟨i0, hF, hi0, hpre⟩
  · rw [hF] at hI
    have HA := Lib.hid hall.symm
    clear hF hall
    have HT := Lib.hid h
    clear h
    go_enter Tryz.func72, Tryz.ntmps72
    go_wp2_with fail
    refine hI.out.mono ?_
    rintro e w1 ⟨rfl, k1⟩
    go_wp2_with fail
    go_ret
    exact ⟨ts, n, rfl, HT.out.tr.next k1, Nat.le_refl _, HA, k1.mono hbase⟩
  · rw [hF] at hI
    rw [saysT_length] at hi0
    have hin : i0 < n := by rw [← hlen.out]; exact hi0
    obtain ⟨gb, rfl, hgb, hrow⟩ := h.rowG (by omega)
    have hst : Hid (saysT (ts.take i0) = (saysT (ts.take (i0 + 1))).filter fun t => !p t) := Lib.hid (by rw [← says_take, ← says_take, hpre])
    have hne : ((i0 : Int) == -1) = false := beq_eq_false_iff_ne.2 (by omega)
    have HR := Lib.hid hrow
    clear hF hpre h hrow
    go_enter Tryz.func72, Tryz.ntmps72
    go_wp2_with fail
    refine hI.out.mono ?_
    rintro e w1 ⟨rfl, k1⟩
    go_wp2_with fail
    go_loopw [5, 6] (fun i j wr => ∃ (k m : Nat) (us : List Tk), i = .int .i64 k ∧ j = .int .i64 m ∧ k < m ∧ m ≤ n ∧ us.length = n ∧ RowG wr gb us ∧ Hid (saysT (us.take k) = (saysT (ts.take m)).filter fun t => !p t) ∧ Hid (us.drop m = ts.drop m) ∧ Below base w wr) (fun _ j _ => n - (intOf j).toNat)
    case atStart => exact ⟨i0, i0 + 1, ts, rfl, by go_num, by omega, by omega, hlen.out, HR.out.next k1, hst, Lib.hid rfl, k1.mono hbase⟩
    case round =>
      obtain ⟨k, m, us, rfl, rfl, hkm, hm, hul, hr, hx, hd, kw⟩ := hrel
      clear hst HR
      by_cases hlt : m < n
      · have hml : m < us.length := by omega
        have hmt : m < ts.length := by rw [hlen.out]; exact hlt
        have he : us[m] = ts[m] := by
          have e1 := congrArg (fun l => l[0]?) hd.out
          simp only [List.getElem?_drop, Nat.add_zero, List.getElem?_eq_getElem hml, List.getElem?_eq_getElem hmt, Option.some.injEq] at e1
          exact e1
        obtain ⟨⟨c0, c1⟩, _, _⟩ := hr.cell m hml
        have hC := Lib.hid (hP.out us[m])
        have hd2 : Hid (us.drop (m + 1) = ts.drop (m + 1)) := Lib.hid (by
          have e1 := congrArg (fun l => l.drop 1) hd.out
          simpa only [List.drop_drop] using e1)
        have htk : (saysT (ts.take (m + 1))).filter (fun t => !p t) = (saysT (ts.take m)).filter (fun t => !p t) ++ (if p us[m].says then [] else [us[m].says]) := by
          rw [List.take_succ_eq_append_getElem hmt, saysT_append, List.filter_append, ← he]
          cases hq : p us[m].says <;> simp [saysT, hq]
        cases hq : p us[m].says with
        | true =>
          have hx2 : Hid (saysT (us.take k) = (saysT (ts.take (m + 1))).filter fun t => !p t) := Lib.hid (by rw [htk, hq, hx.out]; simp)
          rw [hq] at hC
          have HRR := Lib.hid hr
          clear hx htk hq he hd hr
          generalize us[m].k = x at *
          generalize us[m].t = s at *
          go_wp2_with fail
          refine (hC.out _).mono ?_
          rintro e w2 ⟨rfl, k2⟩
          go_wp2_with fail
          go_roundw
          case rel => exact ⟨k, m + 1, us, rfl, by go_num, by omega, by omega, hul, (HRR.out.next (kp_new _ _)).next k2, hx2, hd2, kw.trans ((kp_trans (kp_new wr (.cells #[.int .i64 x, .string s] 135)) k2).mono (Nat.le_trans hbase kw.size))⟩
          case measure => simp [intOf]; omega
        | false =>
          have hkl : k < us.length := by omega
          have hx2 : Hid (saysT ((us.set k us[m]).take (k + 1)) = (saysT (ts.take (m + 1))).filter fun t => !p t) := Lib.hid (by
            rw [htk, hq, ← hx.out, List.take_succ_eq_append_getElem (by rw [List.length_set]; exact hkl), List.getElem_set_self, saysT_append, List.take_set_of_le (Nat.le_refl _)]
            rfl)
          have hd3 : Hid ((us.set k us[m]).drop (m + 1) = ts.drop (m + 1)) := Lib.hid (by rw [List.drop_set_of_lt (by omega)]; exact hd2.out)
          have hul3 : (us.set k us[m]).length = n := by rw [List.length_set]; exact hul
          have hset : ∀ W, RowG W gb us → RowG ((W.setCell ⟨gb, k * 2, none⟩ (.int .i64 us[m].k)).setCell ⟨gb, k * 2 + 1, none⟩ (.string us[m].t)) gb (us.set k us[m]) := fun W hW => hW.set k us[m]
          rw [hq] at hC
          have HRR := Lib.hid hr
          have HST := Lib.hid hset
          clear hx htk hq he hd hr hd2 hset
          generalize us.set k us[m] = us3 at *
          generalize us[m].k = x at *
          generalize us[m].t = s at *
          go_wp2_with fail
          refine (hC.out _).mono ?_
          rintro e w2 ⟨rfl, k2⟩
          obtain ⟨d0, d1⟩ := pair_kept k2
          have hr2 := (HRR.out.next (kp_new _ _)).next k2
          obtain ⟨⟨e0, e1⟩, z0, z1⟩ := hr2.cell k hkl
          have HR2 := Lib.hid hr2
          have kw2 := kw.trans ((kp_trans (kp_new wr (.cells #[.int .i64 x, .string s] 135)) k2).mono (Nat.le_trans hbase kw.size))
          clear hr2
          go_wp2_with fail
          go_roundw
          case rel => exact ⟨k + 1, m + 1, us3, by go_num, by go_num, by omega, by omega, hul3, HST.out _ HR2.out, hx2, hd3, (kw2.setCell hgb _).setCell hgb _⟩
          case measure => simp [intOf]; omega
      · obtain rfl : m = n := by omega
        have hck : ¬ c = k := by omega
        have hcl := hr
        obtain ⟨vs, hvl, hrun⟩ := run_clear_toks wr 0 gb (k * 2) (m - k) (c - k) (by omega) (fun j hj => by
          have hq : (k * 2 + j) / 2 < us.length := by omega
          obtain ⟨⟨q0, q1⟩, _, _⟩ := hr.cell _ hq
          rcases Nat.mod_two_eq_zero_or_one j with e | e
          · rw [show (k * 2 + j) / 2 * 2 = k * 2 + j by omega] at q0
            rw [q0]; rfl
          · rw [show (k * 2 + j) / 2 * 2 + 1 = k * 2 + j by omega] at q1
            rw [q1]; rfl) (fun j hj => by
          have hq : (k * 2 + j) / 2 < us.length := by omega
          obtain ⟨_, q0, q1⟩ := hr.cell _ hq
          rcases Nat.mod_two_eq_zero_or_one j with e | e
          · rw [show (k * 2 + j) / 2 * 2 = k * 2 + j by omega] at q0
            exact q0
          · rw [show (k * 2 + j) / 2 * 2 + 1 = k * 2 + j by omega] at q1
            exact q1)
        have htr : TR (wr.setCells gb (k * 2) vs) (some ⟨gb, 0, none⟩) k (us.take k) := (hr.tr.front (by omega)).cleared vs
        have hkb : Below base w (wr.setCells gb (k * 2) vs) := below_cells vs _ kw hgb
        have hfin : Hid (saysT (us.take k) = (saysT ts).filter fun t => !p t) := Lib.hid (by rw [hx.out, List.take_of_length_le (by rw [hlen.out]; exact Nat.le_refl _)])
        have HTR := Lib.hid htr
        have HKB := Lib.hid hkb
        clear hx hd hr hcl htr hkb
        go_wp2_with fail
        go_ret
        exact ⟨us.take k, k, rfl, HTR.out, by omega, hfin, HKB.out⟩
end

/- Maps of texts to numbers, as they read. -/
section
open Go.RowKit Go.Maps Go.WideMaps
set_option maxRecDepth 100000

theorem sKey : Keyed Tryz.prog 9 := string_keyed Tryz.underlying9
theorem sZero (w : World) : (zeroValue 3).run Tryz.prog w = .ok (.int .i64 0) w := by kernel_rfl

/-- a map as it reads, of rows of a text and a number -/
def datM (L : List (List UInt8 × Int)) : DataW Unit := L.foldl (fun D p => D.put (.string p.1) (.lit (.int .i64 p.2))) (.map [])
theorem datM_push (L : List (List UInt8 × Int)) (x : List UInt8) (c : Int) : datM (L ++ [(x, c)]) = (datM L).put (.string x) (.lit (.int .i64 c)) := by simp [datM, List.foldl_append]
theorem datM_isMap (L : List (List UInt8 × Int)) : IsMap (datM L) := by
  unfold datM
  suffices h : ∀ (L : List (List UInt8 × Int)) (D : DataW Unit), IsMap D → IsMap (L.foldl (fun D p => D.put (.string p.1) (.lit (.int .i64 p.2))) D) from h L _ isMap_empty
  intro L
  induction L with
  | nil => exact fun D h => h
  | cons p r ih => exact fun D h => ih _ (h.put _ _)

def MapAt (w : World) (b : Nat) (L : List (List UInt8 × Int)) : Prop := w.ownsMap Tryz.prog 9 (plainElem Tryz.prog 3) b L.length (datM L)
theorem MapAt.keep {w w' : World} {b : Nat} {L : List (List UInt8 × Int)} (h : MapAt w b L) (hk : w'.heap[b]? = w.heap[b]?) : MapAt w' b L := by
  obtain ⟨es, clock, hb, r⟩ := h
  exact ⟨es, clock, hk.trans hb, r⟩
theorem MapAt.lt {w : World} {b : Nat} {L : List (List UInt8 × Int)} (h : MapAt w b L) : b < w.heap.size := World.ownsMap.lt h

/-- a look-up in a map -/
theorem datM_at (L : List (List UInt8 × Int)) (x : List UInt8) (z : DataW Unit) : (datM L).atKey (.string x) z = ((L.reverse.find? fun p => decide (p.1 = x)).map fun p => (.lit (.int .i64 p.2) : DataW Unit)).getD z := by
  induction h : L.reverse generalizing L with
  | nil =>
    obtain rfl : L = [] := by simpa using h
    rfl
  | cons p r ih =>
    obtain rfl : L = r.reverse ++ [p] := by rw [← List.reverse_reverse L, h]; simp
    obtain ⟨k, v⟩ := p
    rw [datM_push, List.find?_cons]
    by_cases hk : k = x
    · subst hk
      rw [atKey_put_same (datM_isMap _) (by simp [WideAt.IsKeyLit]), decide_eq_true rfl]
      rfl
    · rw [atKey_put_other (by simpa using fun e => hk e.symm), decide_eq_false hk]
      exact ih _ (by simp)
end

/- The map of the words that begin statements (firstWords of package class): contract. -/
section
open Go.RowKit Go.Maps Go.WideMaps
set_option maxRecDepth 100000

/-- what is done so far: the map as it reads, all else as it was -/
structure Laid (w0 : World) (b : Nat) (L : List (List UInt8 × Int)) (w : World) : Prop where
  map : MapAt w b L
  low : Below w0.heap.size w0 w
  new : w0.heap.size ≤ b

theorem wpList_insert {w0 : World} {b : Nat} {L : List (List UInt8 × Int)} {w : World} (hl : Laid w0 b L w) (hn : L.length < 1000) {ops : Array Oper} {rest : List Oper} {o : Oper} {a : Act} {Q : Exit → Act → World → Prop}
    (hg : o.guard = none) (m x v : Operand) (hop : o.op = Op.insert 103 m x v) (s : ByteArray) (c : Int) (hm : a.eval m = .map (some b)) (hx : a.eval x = .string s) (hv : a.eval v = .int .i64 c) (hs : s.size ≤ maxLen) (hc : (Lit.int .i64 c).wf = true)
    (hK : ∀ w', Laid w0 b (L ++ [(s.data.toList, c)]) w' → wpList Tryz.prog ops Q rest (a.put o.dst undef) w') :
    wpList Tryz.prog ops Q (o :: rest) a w := by
  refine wpList_plain hg fun K' hK' => ?_
  obtain ⟨w', hrun, r1, r2⟩ := World.ownsMap.update hl.map sKey Tryz.underlying103 (by unfold maxLen; omega) (keyOf_string_mk Tryz.underlying9 hs) (plainElem_int Tryz.underlying3 hc)
  unfold Oper.wp
  simp [execOp, hop, hm, hx, hv, hrun, Result.andThen]
  refine hK' _ _ (hK w' ⟨?_, ?_, hl.new⟩)
  · unfold MapAt
    rw [datM_push, List.length_append]
    exact r1
  · exact hl.low.grown r2 hl.low.size (fun k hk => by cases hk; exact hl.new)

set_option maxHeartbeats 2000000 in
theorem firstWords_ok (w : World) : Calls Tryz.prog 100 #[] w fun e w' => ∃ b, e = .returned (.map (some b)) ∧ Laid w b famL w' := by
  have hmm := @run_makeMap Tryz.prog
  have hl : Laid w w.heap.size [] (w.alloc (.map #[] 0)) := ⟨World.ownsMap_made _ _ _ _, kp_new _ _, Nat.le_refl _⟩
  go_enter Tryz.func100, Tryz.ntmps100
  go_wp2_with (refine wpList_insert hl (by simp) rfl _ _ _ rfl _ _ rfl rfl rfl (by decide) (by decide) ?_; clear hl; intro w1 hl)
  go_ret
  exact ⟨_, rfl, hl⟩
end

/- sync.Once, one goroutine: the lock and the mark, as the library lays them: contracts. -/
section
open Go.RowKit
set_option maxRecDepth 100000

theorem raceOff (w : World) : (callFunc 179 #[]).run Tryz.prog w = .ok (.value (.tuple #[])) w := run_call_mark0 Tryz.func179 (by kernel_rfl) (by kernel_rfl) (by kernel_rfl) .disable (by kernel_rfl) w
theorem raceOn (w : World) : (callFunc 181 #[]).run Tryz.prog w = .ok (.value (.tuple #[])) w := run_call_mark0 Tryz.func181 (by kernel_rfl) (by kernel_rfl) (by kernel_rfl) .enable (by kernel_rfl) w
theorem raceGot (a : Addr) (w : World) : (callFunc 182 #[.pointer (some a)]).run Tryz.prog w = .ok (.value (.tuple #[])) w := run_call_marked Tryz.func182 (by kernel_rfl) (by kernel_rfl) (by kernel_rfl) .acquire (by kernel_rfl) a w
theorem raceGave (a : Addr) (w : World) : (callFunc 184 #[.pointer (some a)]).run Tryz.prog w = .ok (.value (.tuple #[])) w := run_call_marked Tryz.func184 (by kernel_rfl) (by kernel_rfl) (by kernel_rfl) .releaseMerge (by kernel_rfl) a w

/-- the mark is set, as a deferred call -/
theorem mark_deferred (a : Addr) (x : Value) (u : FrameMode) (w : World) (hc : w.cell? a = some x) (hz : w.frozen? a = false) :
    CallsD Tryz.prog 160 #[.pointer (some a), .bool true] u w fun e u' w' => u' = u ∧ (e = .returned (.tuple #[]) ∧ w' = w.drew.setCell a (.int .u32 1)) := by
  have hc' : w.drew.cell? a = some x := by go_simp
  have hz' : w.drew.frozen? a = false := by go_simp
  have hst := run_call_store (P := Tryz.prog) Tryz.func173 (by kernel_rfl) (by kernel_rfl) (by kernel_rfl) (by kernel_rfl) (k := .u32) (y := 1) hc' hz'
  go_enter_d Tryz.func160, Tryz.ntmps160
  go_wp2
  go_region_calls
  all_goals (go_end0; exact ⟨rfl, rfl⟩)

/-- a lock that is held is given back, as a deferred call -/
theorem give_deferred (a : Addr) (u : FrameMode) (w : World) (hc : w.cell? a = some (.int .i32 1)) (hz : w.frozen? a = false) :
    CallsD Tryz.prog 159 #[.pointer (some a)] u w fun e u' w' => u' = u ∧ (e = .returned (.tuple #[]) ∧ w' = w.setCell a (.int .i32 0)) := by
  have hd := raceOff
  have he := raceOn
  have hr := raceGave
  have hadd := run_call_add (P := Tryz.prog) Tryz.func185 (by kernel_rfl) (by kernel_rfl) (by kernel_rfl) .i32 (by kernel_rfl) (y := -1) (s := 0) hc hz (by simp [go_sem]; rfl)
  have hcv := run_convert_to_unsafe (P := Tryz.prog) (src := 231) (dst := 224) Tryz.underlying231 Tryz.underlying224 (by kernel_rfl) hc
  go_enter_d Tryz.func159, Tryz.ntmps159
  go_wp2
  go_end0
  go_wp2
  go_end0
  exact ⟨rfl, rfl⟩

/-- a lock that is free is taken -/
theorem take_free (a : Addr) (w : World) (hc : w.cell? a = some (.int .i32 0)) (hz : w.frozen? a = false) :
    Calls Tryz.prog 158 #[.pointer (some a)] w fun e w' => e = .returned (.tuple #[]) ∧ w' = w.setCell a (.int .i32 1) := by
  have hd := raceOff
  have he := raceOn
  have ha := raceGot
  have hcas := run_call_cas_hit (P := Tryz.prog) Tryz.func180 (by kernel_rfl) (by kernel_rfl) (by kernel_rfl) .i32 (by kernel_rfl) (y := 1) hc hz
  have hc' : (w.setCell a (.int .i32 1)).cell? a = some (.int .i32 1) := World.cell?_setCell_same w a _ hc
  have hcv := run_convert_to_unsafe (P := Tryz.prog) (src := 231) (dst := 224) Tryz.underlying231 Tryz.underlying224 (by kernel_rfl) hc'
  go_enter Tryz.func158, Tryz.ntmps158
  go_wp2
  first | go_end0 | (simp only [Exit.inBlock, Exit.then]; refine bodyPost_ret (results_none rfl _ _ _) rfl ?_) | refine bodyPost_ret (results_none rfl _ _ _) rfl ?_
  go_wp2
  go_end0
  exact ⟨rfl, rfl⟩

/-- the mark is asked -/
theorem asked (a : Addr) (d : Int) (w : World) (h : w.cell? a = some (.int .u32 d)) : Calls Tryz.prog 137 #[.pointer (some a)] w fun e w' => e = .returned (.bool (d != 0)) ∧ w = w' := by
  have hl := run_call_load (P := Tryz.prog) Tryz.func157 (by kernel_rfl) (by kernel_rfl) (by kernel_rfl) .u32 (by kernel_rfl) h
  go_enter Tryz.func137, Tryz.ntmps137
  go_wp2
  go_ret
  exact ⟨rfl, rfl⟩
end

/- A Classer in memory; its words, made once: contracts. -/
section
open Go.RowKit
set_option maxRecDepth 100000

/-- a Classer's cells: the mark, the lock, the lock's own, the words -/
def Cls (w : World) (b : Nat) (c0 c1 c2 c3 : Value) : Prop := w.heap[b]? = some (.cells #[c0, c1, c2, c3] 105 (0, 0))
section
variable {w : World} {b : Nat} {c0 c1 c2 c3 : Value}
theorem Cls.lt (h : Cls w b c0 c1 c2 c3) : b < w.heap.size := (Array.getElem?_eq_some_iff.1 h).1
theorem Cls.keep {w' : World} (h : Cls w b c0 c1 c2 c3) (hk : w'.heap[b]? = w.heap[b]?) : Cls w' b c0 c1 c2 c3 := hk.trans h
theorem Cls.next {w' : World} (h : Cls w b c0 c1 c2 c3) (hb : Below w.heap.size w w') : Cls w' b c0 c1 c2 c3 := h.keep (hb.block b h.lt)
theorem Cls.cells (h : Cls w b c0 c1 c2 c3) : w.cell? ⟨b, 0, none⟩ = some c0 ∧ w.cell? ⟨b, 1, none⟩ = some c1 ∧ w.cell? ⟨b, 2, none⟩ = some c2 ∧ w.cell? ⟨b, 3, none⟩ = some c3 := by
  refine ⟨?_, ?_, ?_, ?_⟩
  · rw [cell_of_row _ _ 0 _ _ (0, 0) h]; rfl
  · rw [cell_of_row _ _ 1 _ _ (0, 0) h]; rfl
  · rw [cell_of_row _ _ 2 _ _ (0, 0) h]; rfl
  · rw [cell_of_row _ _ 3 _ _ (0, 0) h]; rfl
theorem Cls.thaw (h : Cls w b c0 c1 c2 c3) (k : Nat) : w.frozen? ⟨b, k, none⟩ = false := by
  unfold Cls at h
  unfold World.frozen?
  simp [h]
theorem Cls.set0 (h : Cls w b c0 c1 c2 c3) (u : Value) : Cls (w.setCell ⟨b, 0, none⟩ u) b u c1 c2 c3 := by unfold Cls at *; simp [World.setCell, Array.getElem?_modify, h]
theorem Cls.set1 (h : Cls w b c0 c1 c2 c3) (u : Value) : Cls (w.setCell ⟨b, 1, none⟩ u) b c0 u c2 c3 := by unfold Cls at *; simp [World.setCell, Array.getElem?_modify, h]
theorem Cls.set3 (h : Cls w b c0 c1 c2 c3) (u : Value) : Cls (w.setCell ⟨b, 3, none⟩ u) b c0 c1 c2 u := by unfold Cls at *; simp [World.setCell, Array.getElem?_modify, h]
end

set_option maxHeartbeats 1000000 in
theorem closure_ok (b : Nat) (pl : Addr) (c0 c1 c2 c3 : Value) (w : World) (h : Cls w b c0 c1 c2 c3) (hp : w.cell? pl = some (.pointer (some ⟨b, 0, none⟩))) (hpl : pl.block < w.heap.size) :
    Calls Tryz.prog 99 #[.pointer (some pl)] w fun e w' => e = .returned (.tuple #[]) ∧ ∃ bm w1, Laid w.drew bm famL w1 ∧ w' = w1.setCell ⟨b, 3, none⟩ (.map (some bm)) := by
  have hc := h.cells.2.2.2
  have hz := h.thaw 3
  have hp' : w.drew.cell? pl = some (.pointer (some ⟨b, 0, none⟩)) := by go_simp
  have hc' : w.drew.cell? ⟨b, 3, none⟩ = some c3 := by go_simp
  have hz' : w.drew.frozen? ⟨b, 3, none⟩ = false := by go_simp
  have HC := Lib.hid h
  have HPL := Lib.hid hpl
  clear hpl h
  go_enter Tryz.func99, Tryz.ntmps99
  go_wp2
  go_region_with (go_at_call 100; refine (firstWords_ok _).mono ?_; rintro e w1 ⟨bm, rfl, hl⟩; have p1 := (hl.low.cell HPL.out).trans hp'; have q1 := (HC.out.keep (hl.low.block b HC.out.lt)).cells.2.2.2; have z1 := (HC.out.keep (hl.low.block b HC.out.lt)).thaw 3; have HL := Lib.hid hl; clear hl)
  all_goals
    go_wp2
    go_end0
    exact ⟨rfl, _, _, HL.out, rfl⟩

/-- what is left by making the words -/
structure Made (w : World) (b bm : Nat) (x : Value) (w' : World) : Prop where
  cls : Cls w' b (.int .u32 1) (.int .i32 0) x (.map (some bm))
  map : MapAt w' bm famL
  ne : bm ≠ b
  bel : Bel b w w'

set_option maxHeartbeats 1600000 in
theorem doSlow_ok (b : Nat) (pl : Addr) (x c3 : Value) (w : World) (hpb : ¬ b = pl.block) (h : Cls w b (.int .u32 0) (.int .i32 0) x c3) (hp : w.cell? pl = some (.pointer (some ⟨b, 0, none⟩))) (hpl : pl.block < w.heap.size) :
    Calls Tryz.prog 138 #[.pointer (some ⟨b, 0, none⟩), .func (.func 99) #[] #[.pointer (some pl)]] w fun e w' => e = .returned (.tuple #[]) ∧ ∃ bm, Made w b bm x w' := by
  have h1 := h.set1 (.int .i32 1)
  have hp1 : (w.setCell ⟨b, 1, none⟩ (.int .i32 1)).cell? pl = some (.pointer (some ⟨b, 0, none⟩)) := (World.cell?_setCell_other _ ⟨b, 1, none⟩ pl _ (fun e => hpb (by rw [← e]))).trans hp
  have hpl1 : pl.block < (w.setCell ⟨b, 1, none⟩ (.int .i32 1)).heap.size := by simpa [World.setCell] using hpl
  have H := Lib.hid h
  have H1 := Lib.hid h1
  have HP := Lib.hid hp1
  have HPL := Lib.hid hpl1
  have hnot : ∀ (x : Bool) (w : World), (Op.unary .not (.bool x)).run Tryz.prog w = .ok (.bool (!x)) w := fun _ _ => rfl
  clear h h1 hp hp1 hpl hpl1
  go_enter_defers Tryz.func138, Tryz.ntmps138
  go_wp2_with (go_at_call 158; refine (take_free ⟨b, 1, none⟩ _ H.out.cells.2.1 (H.out.thaw 1)).mono ?_; rintro e w' ⟨rfl, rfl⟩)
  refine (asked ⟨b, 0, none⟩ 0 _ H1.out.cells.1).mono ?_
  rintro e w2 ⟨rfl, rfl⟩
  go_wp2_with (go_at_call 99; refine (closure_ok b pl _ _ x c3 _ H1.out HP.out HPL.out).mono ?_; rintro e w3 ⟨rfl, bm, w4, hl, rfl⟩)
  have hk := hl.low.block b H1.out.lt
  have g4 := H1.out.keep hk
  have g5 := g4.set3 (.map (some bm))
  refine leaves_cons (f := 160) (args := #[.pointer (some ⟨b, 0, none⟩), .bool true]) (by simp) (by simp [go_sem]) ?_
  refine (mark_deferred ⟨b, 0, none⟩ (.int .u32 0) .returning _ g5.cells.1 (g5.thaw 0)).mono ?_
  rintro e u' w'' ⟨rfl, rfl, rfl⟩
  have g6 : Cls ((w4.setCell ⟨b, 3, none⟩ (.map (some bm))).drew.setCell ⟨b, 0, none⟩ (.int .u32 1)) b (.int .u32 1) (.int .i32 1) x (.map (some bm)) := Cls.set0 (w := (w4.setCell ⟨b, 3, none⟩ (.map (some bm))).drew) g5 _
  refine leaves_cons (f := 159) (args := #[.pointer (some ⟨b, 1, none⟩)]) (by simp [settle]) (by simp [go_sem]) ?_
  refine (give_deferred ⟨b, 1, none⟩ _ _ g6.cells.2.1 (g6.thaw 1)).mono ?_
  rintro e u' w'' ⟨rfl, rfl, rfl⟩
  have hbm : bm ≠ b := by
    have h3 := hl.new
    have h4 := H1.out.lt
    have h5 : (w.setCell ⟨b, 1, none⟩ (.int .i32 1)).drew.heap.size = (w.setCell ⟨b, 1, none⟩ (.int .i32 1)).heap.size := rfl
    omega
  have hm : MapAt ((((w4.setCell ⟨b, 3, none⟩ (.map (some bm))).drew.setCell ⟨b, 0, none⟩ (.int .u32 1))).setCell ⟨b, 1, none⟩ (.int .i32 0)) bm famL := by
    refine hl.map.keep ?_
    rw [Below.heap_setCell _ _ _ _ hbm, Below.heap_setCell _ _ _ _ hbm]
    exact Below.heap_setCell _ _ _ _ hbm
  have hbel : Bel b w ((((w4.setCell ⟨b, 3, none⟩ (.map (some bm))).drew.setCell ⟨b, 0, none⟩ (.int .u32 1))).setCell ⟨b, 1, none⟩ (.int .i32 0)) := by
    have e1 : Bel b w (w.setCell ⟨b, 1, none⟩ (.int .i32 1)) := Bel.setCell (Bel.of b (Below.refl _ w)) _ rfl _
    have e2 : Bel b (w.setCell ⟨b, 1, none⟩ (.int .i32 1)) w4 := Bel.ofDrew hl.low
    have e3 := (e1.trans e2).setCell ⟨b, 3, none⟩ rfl (.map (some bm))
    exact Bel.setCell (Bel.setCell e3.drew ⟨b, 0, none⟩ rfl _) ⟨b, 1, none⟩ rfl _
  have hfin : Made w b bm x ((((w4.setCell ⟨b, 3, none⟩ (.map (some bm))).drew.setCell ⟨b, 0, none⟩ (.int .u32 1))).setCell ⟨b, 1, none⟩ (.int .i32 0)) := ⟨g6.set1 _, hm, hbm, hbel⟩
  have HF := Lib.hid hfin
  clear hfin hm hbel g6 g5 g4 hk hl
  simp [Leaves, settle, results, Tryz.results138]
  exact ⟨bm, HF.out⟩
end

/- A Classer asked for its words: Do, families, New, Known: contracts. -/
section
open Go.RowKit Go.Maps
set_option maxRecDepth 100000

theorem MapAt.next {w w' : World} {b : Nat} {L : List (List UInt8 × Int)} (h : MapAt w b L) (hb : Below w.heap.size w w') : MapAt w' b L := h.keep (hb.block b h.lt)
/-- a Classer: its words not made yet, or made -/
def CL (w : World) (b : Nat) : Prop := ∃ x, Cls w b (.int .u32 0) (.int .i32 0) x (.map none) ∨ ∃ bm, Cls w b (.int .u32 1) (.int .i32 0) x (.map (some bm)) ∧ MapAt w bm famL ∧ bm ≠ b
theorem CL.lt {w : World} {b : Nat} (h : CL w b) : b < w.heap.size := by
  obtain ⟨x, h | ⟨bm, h, _⟩⟩ := h
  · exact h.lt
  · exact h.lt
theorem CL.next {w w' : World} {b : Nat} (h : CL w b) (hb : Below w.heap.size w w') : CL w' b := by
  obtain ⟨x, h | ⟨bm, h, hm, hne⟩⟩ := h
  · exact ⟨x, .inl (h.next hb)⟩
  · exact ⟨x, .inr ⟨bm, h.next hb, hm.next hb, hne⟩⟩
theorem Made.cl {w w' : World} {b bm : Nat} {x : Value} (h : Made w b bm x w') : CL w' b := ⟨x, .inr ⟨bm, h.cls, h.map, h.ne⟩⟩

theorem newClasser_ok (w : World) : Calls Tryz.prog 24 #[] w fun e w' => e = .returned (.pointer (some ⟨w.heap.size, 0, none⟩)) ∧ CL w' w.heap.size ∧ Below w.heap.size w w' := by
  go_enter Tryz.func24, Tryz.ntmps24
  go_wp2
  go_ret
  exact ⟨rfl, ⟨_, .inl (heap_alloc_new w _)⟩, kp_new _ _⟩

theorem do_ok (b : Nat) (pl : Addr) (w : World) (hpb : ¬ b = pl.block) (h : CL w b) (hp : w.cell? pl = some (.pointer (some ⟨b, 0, none⟩))) (hpl : pl.block < w.heap.size) :
    Calls Tryz.prog 98 #[.pointer (some ⟨b, 0, none⟩), .func (.func 99) #[] #[.pointer (some pl)]] w fun e w' => e = .returned (.tuple #[]) ∧ ∃ bm x, Made w b bm x w' := by
  have hnot : ∀ (x : Bool) (w : World), (Op.unary .not (.bool x)).run Tryz.prog w = .ok (.bool (!x)) w := fun _ _ => rfl
  obtain ⟨x, h | ⟨bm, h, hm, hne⟩⟩ := h
  · have hA := Lib.hid (asked ⟨b, 0, none⟩ 0 w h.cells.1)
    have hS := Lib.hid (doSlow_ok b pl x _ w hpb h hp hpl)
    clear h hp
    go_enter Tryz.func98, Tryz.ntmps98
    go_wp2_with fail
    refine hA.out.mono ?_
    rintro e w2 ⟨rfl, rfl⟩
    go_wp2_with fail
    refine hS.out.mono ?_
    rintro e w3 ⟨rfl, bm, hm⟩
    have HM := Lib.hid hm
    clear hm
    go_wp2_with fail
    go_end0
    exact ⟨rfl, bm, x, HM.out⟩
  · have hA := Lib.hid (asked ⟨b, 0, none⟩ 1 w h.cells.1)
    have hM : Made w b bm x w := ⟨h, hm, hne, Bel.of b (Below.refl _ _)⟩
    have HM := Lib.hid hM
    clear h hp hm hM
    go_enter Tryz.func98, Tryz.ntmps98
    go_wp2_with fail
    refine hA.out.mono ?_
    rintro e w2 ⟨rfl, rfl⟩
    go_wp2_with fail
    go_end0
    exact ⟨rfl, bm, x, HM.out⟩

theorem families_ok (b : Nat) (w : World) (h : CL w b) :
    Calls Tryz.prog 65 #[.pointer (some ⟨b, 0, none⟩)] w fun e w' => ∃ bm, e = .returned (.map (some bm)) ∧ MapAt w' bm famL ∧ bm ≠ b ∧ CL w' b ∧ Bel b w w' := by
  have hmf : ∀ (fn : Fn) (first cap : Array Value) (w : World), (Instr.makeFunc fn first cap).run Tryz.prog w = .ok (.func fn first cap) w := fun _ _ _ _ => rfl
  have hlt := h.lt
  have kw := kp_new w (.cells #[.pointer (some ⟨b, 0, none⟩)] 61)
  have p0 : (w.alloc (.cells #[.pointer (some ⟨b, 0, none⟩)] 61)).cell? ⟨w.heap.size, 0, none⟩ = some (.pointer (some ⟨b, 0, none⟩)) := by simp
  have hD := Lib.hid (do_ok b ⟨w.heap.size, 0, none⟩ _ (by simp; omega) (h.next kw) p0 (by simp))
  have hblk : (w.alloc (.cells #[.pointer (some ⟨b, 0, none⟩)] 61)).heap[w.heap.size]? = some (.cells #[.pointer (some ⟨b, 0, none⟩)] 61 (0, 0)) := heap_alloc_new w _
  have HB := Lib.hid hblk
  have HLT := Lib.hid hlt
  have HH := Lib.hid h
  clear hblk hlt h p0
  go_enter Tryz.func65, Tryz.ntmps65
  go_wp2_with fail
  refine hD.out.mono ?_
  rintro e w1 ⟨rfl, bm, x, hm⟩
  have q0 : w1.cell? ⟨w.heap.size, 0, none⟩ = some (.pointer (some ⟨b, 0, none⟩)) := by
    rw [cell_of_row _ _ 0 _ _ (0, 0) ((hm.bel.block w.heap.size (by simp) (by have := HLT.out; omega)).trans HB.out)]
    rfl
  have q3 := hm.cls.cells.2.2.2
  have HM := Lib.hid hm
  clear hm
  go_wp2_with fail
  go_ret
  exact ⟨bm, rfl, HM.out.map, HM.out.ne, HM.out.cl, (Bel.of b kw).trans HM.out.bel⟩
end
end Go.Proofs.YtaoegiohnebnhaaGreatDoor
