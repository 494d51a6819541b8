/-
  Contracts and plain functions that the law stands on, part 4 of 6.
-/
import Derived.Test.YtkbaljdpnopbmaaGreatQE3
import Derived.Deep.RegionWith
import Derived.Deep.AppendSrc
import Derived.Sort.QuietIn
namespace Go.Proofs.YtkbaljdpnopbmaaGreat
/- The project's layer 10: Send, Reply, Soil, Release: contracts. -/
section
open Go.RowKit
set_option maxRecDepth 100000

section
variable {r : Lr} {W : World}
theorem inv_drain (h : LK W r) : ∃ f args, (invoke (.fn (.methodOf 77 "Drain") #[]) #[lkV r]).run Tryz.prog W = .ok (.enter f args) W ∧ Calls Tryz.prog f args W fun e w' => (∃ v, e = .returned v) ∧ LK w' (r.set (r.h.set r.h.c.drainC)) ∧ Off (lkS r) W w' := by
  have h1 := inv_named h "Drain" 60 #[] (by kernel_rfl) (enters_of Tryz.func60 (by kernel_rfl) rfl)
  simp only [Array.append_empty] at h1
  exact ⟨_, _, h1, (cdrain_ok h.c).mono fun _ _ ⟨he, ht⟩ => ⟨⟨_, he⟩, h.offs ht⟩⟩
theorem inv_soil (h : LK W r) : ∃ f args, (invoke (.fn (.methodOf 77 "Soil") #[]) #[lkV r]).run Tryz.prog W = .ok (.enter f args) W ∧ Calls Tryz.prog f args W fun e w' => e = .returned (.bool r.h.c.soilA) ∧ LK w' (r.set (r.h.set r.h.c.soilC)) ∧ Off (lkS r) W w' := by
  have h1 := inv_named h "Soil" 53 #[] (by kernel_rfl) (enters_of Tryz.func53 (by kernel_rfl) rfl)
  simp only [Array.append_empty] at h1
  exact ⟨_, _, h1, (csoil_ok h.c).mono fun _ _ ⟨he, ht⟩ => ⟨he, h.offs ht⟩⟩
theorem inv_break (h : LK W r) : ∃ f args, (invoke (.fn (.methodOf 77 "Break") #[]) #[lkV r]).run Tryz.prog W = .ok (.enter f args) W ∧ Calls Tryz.prog f args W fun e w' => e = .returned (.int .u64 r.h.c.f) ∧ LK w' (r.set (r.h.set r.h.c.breakC)) ∧ Off (lkS r) W w' := by
  have h1 := inv_named h "Break" 56 #[] (by kernel_rfl) (enters_of Tryz.func56 (by kernel_rfl) rfl)
  simp only [Array.append_empty] at h1
  exact ⟨_, _, h1, (cbreak_ok h.c).mono fun _ _ ⟨he, ht⟩ => ⟨he, h.offs ht⟩⟩
theorem inv_reply (n : Int) (h : LK W r) : (invoke (.fn (.methodOf 77 "Reply") #[]) #[lkV r, .int .u64 n]).run Tryz.prog W = .ok (.enter 49 #[.pointer (some ⟨r.a, 0, none⟩), .int .u64 n]) W := by
  have h1 := inv_named h "Reply" 49 #[.int .u64 n] (by kernel_rfl) (enters_of Tryz.func49 (by kernel_rfl) rfl)
  simpa only [List.append_toArray, List.cons_append, List.nil_append] using h1
theorem inv_send (n : Int) (h : LK W r) : (invoke (.fn (.methodOf 77 "Send") #[]) #[lkV r, .int .u64 n]).run Tryz.prog W = .ok (.enter 46 #[.pointer (some ⟨r.a, 0, none⟩), .int .u64 n]) W := by
  have h1 := inv_named h "Send" 46 #[.int .u64 n] (by kernel_rfl) (enters_of Tryz.func46 (by kernel_rfl) rfl)
  simpa only [List.append_toArray, List.cons_append, List.nil_append] using h1
theorem inv_give (n : Int) : (invoke (.fn (.func 50) #[]) #[lkV r, .int .u64 n]).run Tryz.prog W = .ok (.enter 50 #[lkV r, .int .u64 n]) W := by
  simp [invoke, go_sem]
end
section
variable {b : Nat} {mo idl m : Int} {k : Nat} {p : Pl} {S : Nat → Prop} {w : World}
/-- what is done with a number that is said ahead, of an id -/
theorem boundB (fd : Fn) (id n : Int) (ans : Hd → Bool) (pdo : Hd → Hd) (h : (PP b mo idl m p).p S w) (hk : KInv mo m k p)
    (hdo : ∀ r W, LK W r → ∃ f args, (invoke (.fn fd #[]) #[lkV r, .int .u64 n]).run Tryz.prog W = .ok (.enter f args) W ∧ Calls Tryz.prog f args W fun e w' => e = .returned (.bool (ans r.h)) ∧ LK w' (r.set (pdo r.h)) ∧ Off (lkS r) W w') (w1 : World)
    (q0 : w1.heap[w.heap.size]? = some (.cells #[.func fd #[] #[]] 98 (0, 0))) (q1 : w1.heap[w.heap.size + 1]? = some (.cells #[.int .u64 n] 22 (0, 0))) (qz : w1.heap.size = w.heap.size + 2) (hb : Below w.heap.size w w1) :
    Calls Tryz.prog 47 #[.pointer (some ⟨b, 0, none⟩), .int .i64 id, .func (.func 89) #[] #[.pointer (some ⟨w.heap.size, 0, none⟩), .pointer (some ⟨w.heap.size + 1, 0, none⟩)], .bool false] w1 fun e w' => e = .returned (.bool (if findH id p.l < 0 then false else ans (theH id p))) ∧ Turn (PP b mo idl m (if findH id p.l < 0 then p else sweepP (onH id pdo p))) S w w' := by
  have hSl := (PP b mo idl m p).lt h
  refine (done_B (T0 := fun j => j = w.heap.size ∨ j = w.heap.size + 1) id false (.func 89) #[.pointer (some ⟨w.heap.size, 0, none⟩), .pointer (some ⟨w.heap.size + 1, 0, none⟩)] (fun W => W.heap[w.heap.size]? = some (.cells #[.func fd #[] #[]] 98 (0, 0)) ∧ W.heap[w.heap.size + 1]? = some (.cells #[.int .u64 n] 22 (0, 0))) ans pdo (Thing.next h hb) ?_ ?_ ⟨q0, q1⟩ ?_ ?_ hk.ne).mono ?_
  · intro j hj hs
    have := hSl j hs
    omega
  · intro j hj
    omega
  · rintro W W' ⟨x0, x1⟩ hq
    exact ⟨(hq _ (.inl rfl)).trans x0, (hq _ (.inr rfl)).trans x1⟩
  · rintro r W hl ⟨x0, x1⟩
    obtain ⟨f, args, hi, hc⟩ := hdo r W hl
    exact ⟨_, _, by simp [invoke, go_sem], bnd1_B r _ _ fd n (ans r.h) x0 x1 hi hc⟩
  · rintro e w' ⟨he, hp, ho⟩
    refine ⟨he, ⟨S, ?_, fun _ h => .inl h⟩, (Off.of S hb).trans ho fun i hi => hi.elim .inl fun e => .inr (by omega)⟩
    by_cases hf : findH id p.l < 0
    · rw [if_pos hf] at hp ⊢
      rwa [hk.swept] at hp
    · rw [if_neg hf] at hp ⊢
      exact hp
theorem boundE (fd : Fn) (id n : Int) (ans : Hd → Int) (pdo : Hd → Hd) (h : (PP b mo idl m p).p S w) (hk : KInv mo m k p)
    (hdo : ∀ r W, LK W r → ∃ f args, (invoke (.fn fd #[]) #[lkV r, .int .u64 n]).run Tryz.prog W = .ok (.enter f args) W ∧ Calls Tryz.prog f args W fun e w' => e = .returned (.int .i64 (ans r.h)) ∧ LK w' (r.set (pdo r.h)) ∧ Off (lkS r) W w') (w1 : World)
    (q0 : w1.heap[w.heap.size]? = some (.cells #[.func fd #[] #[]] 90 (0, 0))) (q1 : w1.heap[w.heap.size + 1]? = some (.cells #[.int .u64 n] 22 (0, 0))) (qz : w1.heap.size = w.heap.size + 2) (hb : Below w.heap.size w w1) :
    Calls Tryz.prog 44 #[.pointer (some ⟨b, 0, none⟩), .int .i64 id, .func (.func 84) #[] #[.pointer (some ⟨w.heap.size, 0, none⟩), .pointer (some ⟨w.heap.size + 1, 0, none⟩)], .int .i64 6] w1 fun e w' => e = .returned (.int .i64 (if findH id p.l < 0 then 6 else ans (theH id p))) ∧ Turn (PP b mo idl m (if findH id p.l < 0 then p else sweepP (onH id pdo p))) S w w' := by
  have hSl := (PP b mo idl m p).lt h
  refine (done_E (T0 := fun j => j = w.heap.size ∨ j = w.heap.size + 1) id 6 (.func 84) #[.pointer (some ⟨w.heap.size, 0, none⟩), .pointer (some ⟨w.heap.size + 1, 0, none⟩)] (fun W => W.heap[w.heap.size]? = some (.cells #[.func fd #[] #[]] 90 (0, 0)) ∧ W.heap[w.heap.size + 1]? = some (.cells #[.int .u64 n] 22 (0, 0))) ans pdo (Thing.next h hb) ?_ ?_ ⟨q0, q1⟩ ?_ ?_ hk.ne).mono ?_
  · intro j hj hs
    have := hSl j hs
    omega
  · intro j hj
    omega
  · rintro W W' ⟨x0, x1⟩ hq
    exact ⟨(hq _ (.inl rfl)).trans x0, (hq _ (.inr rfl)).trans x1⟩
  · rintro r W hl ⟨x0, x1⟩
    obtain ⟨f, args, hi, hc⟩ := hdo r W hl
    exact ⟨_, _, by simp [invoke, go_sem], bnd1_E r _ _ fd n (ans r.h) x0 x1 hi hc⟩
  · rintro e w' ⟨he, hp, ho⟩
    refine ⟨he, ⟨S, ?_, fun _ h => .inl h⟩, (Off.of S hb).trans ho fun i hi => hi.elim .inl fun e => .inr (by omega)⟩
    by_cases hf : findH id p.l < 0
    · rw [if_pos hf] at hp ⊢
      rwa [hk.swept] at hp
    · rw [if_neg hf] at hp ⊢
      exact hp

set_option maxHeartbeats 2000000 in
theorem ppreply_ok (id n : Int) (hk : KInv mo m k p) (h : (PP b mo idl m p).p S w) :
    Calls Tryz.prog 17 #[.pointer (some ⟨b, 0, none⟩), .int .i64 id, .int .u64 n] w fun e w' => e = .returned (.bool (replyP id n p).2) ∧ Turn (PP b mo idl m (replyP id n p).1) S w w' := by
  have HB := Lib.hid (boundB (.methodOf 77 "Reply") id n (fun h => h.c.replyA n) (fun h => h.set (h.c.replyC n)) h hk fun r W hl => ⟨_, _, inv_reply n hl, (creply_ok n hl.c).mono fun _ _ ⟨he, ht⟩ => ⟨he, hl.offs ht⟩⟩)
  have e1 : (replyP id n p).2 = if findH id p.l < 0 then false else (theH id p).c.replyA n := by unfold replyP; split <;> rfl
  have e2 : (replyP id n p).1 = if findH id p.l < 0 then p else sweepP (onH id (fun h => h.set (h.c.replyC n)) p) := by unfold replyP; split <;> rfl
  rw [e1, e2]
  clear h hk e1 e2
  generalize (if findH id p.l < 0 then false else (theH id p).c.replyA n) = v at *
  generalize (if findH id p.l < 0 then p else sweepP (onH id (fun h => h.set (h.c.replyC n)) p)) = p2 at *
  go_enter Tryz.func17, Tryz.ntmps17
  go_wp2_with fail
  refine (bnd_B _ _).mono ?_
  rintro e w1 ⟨rfl, q0, q1, qz, hb⟩
  have HC := Lib.hid (HB.out w1 q0 q1 qz hb)
  clear q0 q1 qz hb HB
  go_wp2_with fail
  refine HC.out.mono ?_
  rintro e w2 ⟨rfl, ht⟩
  have HT := Lib.hid ht
  clear ht HC
  go_wp2_with fail
  go_ret
  exact ⟨rfl, HT.out⟩
set_option maxHeartbeats 2000000 in
theorem ppsend_ok (id n : Int) (hk : KInv mo m k p) (h : (PP b mo idl m p).p S w) :
    Calls Tryz.prog 16 #[.pointer (some ⟨b, 0, none⟩), .int .i64 id, .int .u64 n] w fun e w' => e = .returned (.int .i64 (sendP id n p).2) ∧ Turn (PP b mo idl m (sendP id n p).1) S w w' := by
  have HB := Lib.hid (boundE (.methodOf 77 "Send") id n (fun h => h.c.sendA n) (fun h => h.set (h.c.sendC n)) h hk fun r W hl => ⟨_, _, inv_send n hl, (csend_ok n hl.c).mono fun _ _ ⟨he, ht⟩ => ⟨he, hl.offs ht⟩⟩)
  have e1 : (sendP id n p).2 = if findH id p.l < 0 then 6 else (theH id p).c.sendA n := by unfold sendP; split <;> rfl
  have e2 : (sendP id n p).1 = if findH id p.l < 0 then p else sweepP (onH id (fun h => h.set (h.c.sendC n)) p) := by
    unfold sendP
    split
    · rfl
    · rw [on_live hk.inv.live (fun x hx => by
        have h1 : x.c.s ≠ 4 := by simpa [Hd.live] using hx
        simpa [Hd.live, Hd.set] using (live_of h1 n).1) id]
  rw [e1, e2]
  clear h hk e1 e2
  generalize (if findH id p.l < 0 then 6 else (theH id p).c.sendA n) = v at *
  generalize (if findH id p.l < 0 then p else sweepP (onH id (fun h => h.set (h.c.sendC n)) p)) = p2 at *
  go_enter Tryz.func16, Tryz.ntmps16
  go_wp2_with fail
  refine (bnd_E _ _).mono ?_
  rintro e w1 ⟨rfl, q0, q1, qz, hb⟩
  have HC := Lib.hid (HB.out w1 q0 q1 qz hb)
  clear q0 q1 qz hb HB
  go_wp2_with fail
  refine HC.out.mono ?_
  rintro e w2 ⟨rfl, ht⟩
  have HT := Lib.hid ht
  clear ht HC
  go_wp2_with fail
  go_ret
  exact ⟨rfl, HT.out⟩
set_option maxHeartbeats 2000000 in
theorem pprelease_ok (id now : Int) (hk : KInv mo m k p) (h : (PP b mo idl m p).p S w) :
    Calls Tryz.prog 18 #[.pointer (some ⟨b, 0, none⟩), .int .i64 id, .int .u64 now] w fun e w' => e = .returned (.bool (releaseP id now p).2) ∧ Turn (PP b mo idl m (releaseP id now p).1) S w w' := by
  have HB := Lib.hid (boundB (.func 50) id now (fun h => h.c.releaseA) (giveH now) h hk fun r W hl => ⟨_, _, inv_give now, giveBack_ok now hl⟩)
  have e1 : (releaseP id now p).2 = if findH id p.l < 0 then false else (theH id p).c.releaseA := by
    unfold releaseP
    split
    · rfl
    split
    · rename_i h1; rw [h1]
    · rename_i h1; simp only [Bool.not_eq_true] at h1; rw [h1]
  have e2 : (releaseP id now p).1 = if findH id p.l < 0 then p else sweepP (onH id (giveH now) p) := by
    unfold releaseP
    split
    · rfl
    split
    · rename_i h1
      rw [onH_congr (g := giveH now) (by unfold giveH; rw [if_pos h1])]
    · rename_i h1
      rw [onH_congr (f := giveH now) (g := fun h => h) (by unfold giveH; rw [if_neg h1]), onH_none, hk.swept]
  rw [e1, e2]
  clear h hk e1 e2
  generalize (if findH id p.l < 0 then false else (theH id p).c.releaseA) = v at *
  generalize (if findH id p.l < 0 then p else sweepP (onH id (giveH now) p)) = p2 at *
  go_enter Tryz.func18, Tryz.ntmps18
  go_wp2_with fail
  refine (bnd_B _ _).mono ?_
  rintro e w1 ⟨rfl, q0, q1, qz, hb⟩
  have HC := Lib.hid (HB.out w1 q0 q1 qz hb)
  clear q0 q1 qz hb HB
  go_wp2_with fail
  refine HC.out.mono ?_
  rintro e w2 ⟨rfl, ht⟩
  have HT := Lib.hid ht
  clear ht HC
  go_wp2_with fail
  go_ret
  exact ⟨rfl, HT.out⟩
set_option maxHeartbeats 2000000 in
theorem ppsoil_ok (id : Int) (hk : KInv mo m k p) (h : (PP b mo idl m p).p S w) :
    Calls Tryz.prog 23 #[.pointer (some ⟨b, 0, none⟩), .int .i64 id] w fun e w' => e = .returned (.bool (soilP id p).2) ∧ Turn (PP b mo idl m (soilP id p).1) S w w' := by
  have HC := Lib.hid (done_B (T0 := fun _ => False) id false (.methodOf 77 "Soil") #[] (fun _ => True) (fun h => h.c.soilA) (fun h => h.set h.c.soilC) h (fun _ h => h.elim) (fun _ h => h.elim) trivial (fun _ _ _ _ => trivial) (fun r W hl _ => inv_soil hl) hk.ne)
  have e1 : (soilP id p).2 = if findH id p.l < 0 then false else (theH id p).c.soilA := by unfold soilP; split <;> rfl
  have e2 : (soilP id p).1 = sweepP (if findH id p.l < 0 then p else onH id (fun h => h.set h.c.soilC) p) := by
    unfold soilP
    split
    · rw [hk.swept]
    · rw [on_live hk.inv.live (fun x hx => by
        have h1 : x.c.s ≠ 4 := by simpa [Hd.live] using hx
        simpa [Hd.live, Hd.set] using (live_of h1 0).2) id]
  rw [e1, e2]
  clear h hk e1 e2
  generalize (if findH id p.l < 0 then false else (theH id p).c.soilA) = v at *
  generalize sweepP (if findH id p.l < 0 then p else onH id (fun h => h.set h.c.soilC) p) = p2 at *
  go_enter Tryz.func23, Tryz.ntmps23
  go_wp2_with fail
  refine HC.out.mono ?_
  rintro e w2 ⟨rfl, hp, ho⟩
  have HT : Hid (Turn (PP b mo idl m p2) S w w2) := Lib.hid ⟨⟨S, hp, fun _ h => .inl h⟩, ho.wide fun i hi => hi.elim (fun e => e) fun e => e.elim⟩
  clear hp ho HC
  go_wp2_with fail
  go_ret
  exact ⟨rfl, HT.out⟩
end
end

/- Connections: what follows of their end, as plain mathematics (no function of the program is named here). -/
section
open Go.RowKit
set_option maxRecDepth 100000

namespace Cn
theorem closed_do (t : Act3) {c : Cn} (h : c.s = 4) : (c.doC t).s = 4 := by
  cases c with
  | idle e n | lent o f e n | drains o f e n => exact absurd h (by simp [Cn.s])
  | closed e n =>
    obtain ⟨d, x, y⟩ := t
    unfold doC
    dsimp only
    (repeat' split) <;> rfl
theorem ends_do (t : Act3) {c : Cn} (h : c.s = 3 ∨ c.s = 4) : ((c.doC t).s = 3 ∨ (c.doC t).s = 4) ∧ (t.d = 1 → (c.doA t).e ≠ 0) := by
  obtain ⟨d, x, y⟩ := t
  cases c with
  | idle e n | lent o f e n => exact absurd h (by simp [Cn.s])
  | closed e n =>
    refine ⟨.inr (closed_do _ rfl), fun h1 => ?_⟩
    dsimp only at h1
    subst h1
    show sendA y (.closed e n) ≠ 0
    simp only [sendA]
    split <;> decide
  | drains o f e n =>
    refine ⟨?_, fun h1 => ?_⟩
    · unfold doC
      dsimp only
      (repeat' split) <;> first | exact .inl rfl | exact .inr rfl | (simp only [replyC]; split <;> first | exact .inl rfl | exact .inr rfl)
    · dsimp only at h1
      subst h1
      show sendA y (.drains o f e n) ≠ 0
      simp only [sendA]
      split <;> decide
theorem dirty_do (t : Act3) {c : Cn} (h : c.d = true ∧ c.s ≠ 1) : (c.doC t).d = true ∧ (c.doC t).s ≠ 1 := by
  obtain ⟨d, x, y⟩ := t
  cases c with
  | idle e n => exact absurd rfl h.2
  | closed e n =>
    unfold doC
    dsimp only
    (repeat' split) <;> exact h
  | drains o f e n =>
    obtain rfl : e = true := h.1
    unfold doC
    dsimp only
    (repeat' split) <;> first | exact ⟨rfl, (by decide : ¬ (3 : Int) = 1)⟩ | exact ⟨rfl, (by decide : ¬ (4 : Int) = 1)⟩ | (simp only [replyC]; split <;> first | exact ⟨rfl, (by decide : ¬ (3 : Int) = 1)⟩ | exact ⟨rfl, (by decide : ¬ (4 : Int) = 1)⟩)
  | lent o f e n =>
    obtain rfl : e = true := h.1
    unfold doC
    dsimp only
    (repeat' split) <;> (try simp only [lendC, sendC, replyC, soilC, releaseC, drainC, breakC]) <;> (repeat' split) <;> first | exact ⟨rfl, (by decide : ¬ (2 : Int) = 1)⟩ | exact ⟨rfl, (by decide : ¬ (3 : Int) = 1)⟩ | exact ⟨rfl, (by decide : ¬ (4 : Int) = 1)⟩ | (exfalso; simp_all)
theorem soil_do {c : Cn} (h : c.soilA = true) : c.soilC.d = true ∧ c.soilC.s ≠ 1 := by
  cases c with
  | lent o f e n => exact ⟨rfl, (by decide : ¬ (2 : Int) = 1)⟩
  | idle e n | drains o f e n | closed e n => cases h
theorem drain_do {c : Cn} (h : c.ok) : (c.drainC.s = 3 ∧ c.drainC.f ≠ 0) ∨ (c.drainC.s = 4 ∧ c.drainC.f = 0) := by
  cases c with
  | idle e n | closed e n => exact .inr ⟨rfl, rfl⟩
  | drains o f e n => exact .inl ⟨rfl, h.2⟩
  | lent o f e n =>
    simp only [drainC]
    split
    · exact .inr ⟨rfl, rfl⟩
    · exact .inl ⟨rfl, by assumption⟩
end Cn
end

/- Pools: behind Drain; what is reaped: as plain mathematics (no function of the program is named here). -/
section
open Go.RowKit
set_option maxRecDepth 100000

/-- one that ends goes on ending -/
def Ending1 (h h' : Hd) : Prop := h'.ep = h.ep ∧ (h.c.s = 3 ∨ h.c.s = 4 → h'.c.s = 3 ∨ h'.c.s = 4)
theorem Ending1.refl (h : Hd) : Ending1 h h := ⟨rfl, fun e => e⟩
theorem ending_do (t : Act3) (h : Hd) : Ending1 h (h.set (h.c.doC t)) := ⟨rfl, fun e => (Cn.ends_do t e).1⟩
theorem ending_send (n : Int) (h : Hd) : Ending1 h (h.set (h.c.sendC n)) := ending_do ⟨1, 0, n⟩ h
theorem ending_reply (n : Int) (h : Hd) : Ending1 h (h.set (h.c.replyC n)) := ending_do ⟨2, 0, n⟩ h
theorem ending_soil (h : Hd) : Ending1 h (h.set h.c.soilC) := ending_do ⟨3, 0, 0⟩ h
theorem ending_release (now : Int) (h : Hd) : Ending1 h { h with c := h.c.releaseC, t := now } := ending_do ⟨4, 0, 0⟩ h
theorem ending_drain (h : Hd) : Ending1 h (h.set h.c.drainC) := ending_do ⟨5, 0, 0⟩ h
theorem ending_break (h : Hd) : Ending1 h (h.set h.c.breakC) := ending_do ⟨6, 0, 0⟩ h
theorem ending_cut1 (ep : Int) (h : Hd) : Ending1 h (cut1 ep h) := by
  unfold cut1
  split
  · exact ending_drain h
  · exact Ending1.refl h
theorem ending_drain1 (ep : Int) (h : Hd) : Ending1 h (drain1 ep h) := by
  unfold drain1
  split
  · exact ending_drain h
  · exact Ending1.refl h
theorem ending_reap1 (idl now : Int) (h : Hd) : Ending1 h (reap1 idl now h) := by
  unfold reap1
  split
  · exact ending_drain h
  · exact Ending1.refl h
/-- those of another epoch drain -/
def DInv (ep : Int) (l : List Hd) : Prop := ∀ h ∈ l, h.ep ≠ ep → h.c.s = 3
theorem live_not4 {h : Hd} (e : h.live = true) : h.c.s ≠ 4 := by simpa [Hd.live] using e
theorem DInv.ending {ep : Int} {l l' : List Hd} (h : DInv ep l) (he : Each2 Ending1 l l') : DInv ep (sweepH l') := fun x hx hne => by
  obtain ⟨h1, h2⟩ := List.mem_filter.1 hx
  obtain ⟨y, hy, r1, r2⟩ := he.mem x h1
  rcases r2 (.inl (h y hy (r1 ▸ hne))) with e | e
  · exact e
  · exact absurd e (live_not4 h2)
theorem DInv.drain {mo m : Int} {p : Pl} (h : PInv mo m p) (ep : Int) : DInv ep (drainP ep p).l := fun x hx hne => by
  obtain ⟨h1, h2⟩ := List.mem_filter.1 hx
  obtain ⟨y, hy, rfl⟩ := List.mem_map.1 h1
  have he : y.ep ≠ ep := by
    intro e
    apply hne
    unfold drain1
    split
    · exact e
    · exact e
  have hd : drain1 ep y = y.set y.c.drainC := if_pos he
  rw [hd] at h2 ⊢
  rcases Cn.drain_do (h.ok y hy) with e | e
  · exact e.1
  · exact absurd e.1 (live_not4 h2)
section
variable {mo m ep : Int} {p : Pl}
theorem DInv.give (h : DInv ep p.l) (mo ss now : Int) : DInv ep (giveP mo ss ep now p).l := by
  have h1 := h.ending (Each2.map (ending_cut1 ep) p.l)
  unfold giveP
  dsimp only
  generalize sweepH (p.l.map (cut1 ep)) = l1 at *
  split
  · rename_i hi
    intro x hx hne
    obtain ⟨i, hii⟩ : ∃ i : Nat, firstH Hd.idle l1 = i := ⟨(firstH Hd.idle l1).toNat, by omega⟩
    obtain ⟨hil, hid⟩ := firstH_is hii
    have ht : turnH l1 (firstH Hd.idle l1) (fun h => h.set (h.c.lendC ss)) = l1.set i (l1[i].set (l1[i].c.lendC ss)) := by
      rw [hii]
      unfold turnH
      rw [Int.toNat_natCast]
      refine List.ext_getElem (by simp) fun j h1 h2 => ?_
      rw [List.getElem_modify, List.getElem_set]
      split
      · rename_i e; subst e; rfl
      · rfl
    dsimp only at hx
    rw [ht] at hx
    rcases List.mem_or_eq_of_mem_set hx with hx | rfl
    · exact h1 x hx hne
    · have h3 := h1 l1[i] (List.getElem_mem hil) hne
      have h4 : l1[i].c.s = 1 := by simpa [Hd.idle] using hid
      omega
  split
  · exact h1
  · intro x hx hne
    rcases List.mem_append.1 hx with hx | hx
    · exact h1 x hx hne
    · obtain rfl := List.mem_singleton.1 hx
      exact absurd rfl hne
theorem DInv.do (hp : PInv mo m p) (h : DInv ep p.l) (idl : Int) (t : Act6) (ht : t.ep = ep) : DInv ep (doP mo idl m t p).l := by
  subst ht
  have hon : ∀ (f : Hd → Hd) (id : Int), (∀ x, Ending1 x (f x)) → DInv t.ep (sweepP (onH id f p)).l := fun f id hf => h.ending (Each2.modify Ending1.refl hf _ _)
  unfold doP
  split
  · unfold acqP
    split
    · exact h
    split
    · exact h
    split
    · exact h
    split
    · split
      · exact h.give _ _ _
      · exact h.give _ _ _
    · exact h
  split
  · unfold serveP
    split
    · exact h
    · split
      · exact h.give _ _ _
      · exact h.give _ _ _
  split
  · exact h
  split
  · unfold sendP
    split
    · exact h
    · rw [← on_live hp.live (fun x hx => by
        have h1 : x.c.s ≠ 4 := by simpa [Hd.live] using hx
        simpa [Hd.live, Hd.set] using (live_of h1 t.n).1) t.id]
      exact hon _ _ (ending_send _)
  split
  · unfold replyP
    split
    · exact h
    · exact hon _ _ (ending_reply _)
  split
  · unfold soilP
    split
    · exact h
    · rw [← on_live hp.live (fun x hx => by
        have h1 : x.c.s ≠ 4 := by simpa [Hd.live] using hx
        simpa [Hd.live, Hd.set] using (live_of h1 0).2) t.id]
      exact hon _ _ ending_soil
  split
  · unfold releaseP
    split
    · exact h
    split
    · exact hon _ _ (ending_release _)
    · exact h
  split
  · unfold breakP
    split
    · exact h
    · exact hon _ _ ending_break
  split
  · exact h.ending (Each2.map (ending_drain1 _) _)
  split
  · exact h.ending (Each2.map (ending_reap1 _ _) _)
  · exact h
end
/-- what is reaped is out, and nothing else; then nothing is left to be reaped -/
theorem reap_kept (idl now : Int) : ∀ l : List Hd, (∀ h ∈ l, h.live = true ∧ h.c.ok) → sweepH (l.map (reap1 idl now)) = l.filter fun h => !isOld idl now h
  | [], _ => rfl
  | x :: r, hl => by
    have ih := reap_kept idl now r fun h hh => hl h (List.mem_cons_of_mem _ hh)
    obtain ⟨hx, hok⟩ := hl x List.mem_cons_self
    unfold sweepH at ih ⊢
    rw [List.map_cons, List.filter_cons, List.filter_cons, ih]
    cases ho : isOld idl now x with
    | true =>
      have h1 : x.c.s = 1 := by
        unfold isOld at ho
        simp only [Bool.and_eq_true, beq_iff_eq] at ho
        exact ho.1.1
      have h2 : (reap1 idl now x).live = false := by
        unfold reap1
        rw [ho, if_pos rfl]
        have : x.c.drainC.s = 4 := by
          revert h1
          cases x.c <;> simp [Cn.s, Cn.drainC]
        simp [Hd.live, Hd.set, this]
      rw [h2]
      simp
    | false =>
      have h2 : reap1 idl now x = x := by
        unfold reap1
        rw [ho]
        rfl
      rw [h2, hx]
      simp
end

/- The project's layer 10: Drain, Reap, Break, Leave, Waiting: contracts. -/
section
open Go.RowKit
set_option maxRecDepth 100000

section
variable {r : Lr} {W : World}
theorem drain1_is (B : Nat) (ep : Int) (h : LK W r) (hB : W.heap[B]? = some (.cells #[.int .u64 ep] 22 (0, 0))) : Calls Tryz.prog 58 #[lkV r, .pointer (some ⟨B, 0, none⟩)] W fun e w' => e = .returned (.bool (r.h.ep != ep)) ∧ Below W.heap.size W w' := by
  obtain ⟨⟨c0, _, _⟩, _⟩ := h.cells
  obtain ⟨x0, _⟩ := cellsAt hB 0 (v := .int .u64 ep) rfl
  have HQ : Hid (∀ q, Calls Tryz.prog 59 #[.pointer (some ⟨r.a, 0, none⟩)] (W.drewN q) fun e w' => e = .returned (.int .u64 r.h.ep) ∧ w' = W.drewN q) := Lib.hid fun q => (cepoch_ok ((CC r.a r.h.ep r.h.c).next h.c (kp_drewN W q))).mono fun _ _ ⟨h1, h2⟩ => ⟨h1, h2.symm⟩
  unfold lkV
  clear h hB
  generalize r.h.ep = i at *
  generalize r.l = l at *
  generalize r.a = a at *
  go_enter Tryz.func58, Tryz.ntmps58
  go_wp2_with fail
  go_quiet (first | (go_at_call 59; exact Calls.quiet_of_same (HQ.out _)))
  go_wp2_with fail
  go_ret
  exact ⟨rfl, kp_drewN _ _⟩
set_option maxHeartbeats 1000000 in
theorem reap1_is (B B2 b : Nat) (now idl : Int) (h : LK W r) (hB : W.heap[B]? = some (.cells #[.int .u64 now] 22 (0, 0))) (hB2 : W.heap[B2]? = some (.cells #[.pointer (some ⟨b, 0, none⟩)] 25 (0, 0))) (hb : W.cell? ⟨b, 3, none⟩ = some (.int .u64 idl)) :
    Calls Tryz.prog 61 #[lkV r, .pointer (some ⟨B, 0, none⟩), .pointer (some ⟨B2, 0, none⟩)] W fun e w' => e = .returned (.bool (isOld idl now r.h)) ∧ Below W.heap.size W w' := by
  obtain ⟨⟨_, _, c2⟩, _⟩ := h.cells
  obtain ⟨x0, _⟩ := cellsAt hB 0 (v := .int .u64 now) rfl
  obtain ⟨x1, _⟩ := cellsAt hB2 0 (v := .pointer (some ⟨b, 0, none⟩)) rfl
  have hold : isOld idl now r.h = (r.h.idle && decide (r.h.t ≤ now) && decide (idl ≤ IntKind.u64.wrap (now - r.h.t))) := rfl
  rw [hold]
  have HQ : Hid (∀ q, Calls Tryz.prog 62 #[lkV r] (W.drewN q) fun e w' => e = .returned (.bool r.h.idle) ∧ w' = W.drewN q) := Lib.hid fun q => (isIdle_ok (h.next (kp_drewN W q))).mono fun _ _ ⟨h1, h2⟩ => ⟨h1, h2.symm⟩
  clear h hB hB2 hold
  unfold lkV at HQ ⊢
  generalize r.h.t = t at *
  generalize r.l = l at *
  cases hi : r.h.idle with
  | false =>
    rw [hi] at HQ
    clear hi
    go_enter Tryz.func61, Tryz.ntmps61
    go_wp2_with fail
    go_quiet (first | (go_at_call 62; exact Calls.quiet_of_same (HQ.out _)))
    go_wp2_with fail
    go_ret
    exact ⟨rfl, kp_drewN _ _⟩
  | true =>
    rw [hi] at HQ
    clear hi
    by_cases h1 : t ≤ now
    · have d1 : decide (t ≤ now) = true := decide_eq_true h1
      rw [d1]
      by_cases h2 : idl ≤ IntKind.u64.wrap (now - t)
      · have d2 : decide (idl ≤ IntKind.u64.wrap (now - t)) = true := decide_eq_true h2
        rw [d2]
        clear h1 h2
        go_enter Tryz.func61, Tryz.ntmps61
        go_wp2_with fail
        go_quiet (first | (go_at_call 62; exact Calls.quiet_of_same (HQ.out _)))
        go_wp2_with fail
        go_ret
        exact ⟨rfl, kp_drewN _ _⟩
      · have d2 : decide (idl ≤ IntKind.u64.wrap (now - t)) = false := decide_eq_false h2
        rw [d2]
        clear h1 h2
        go_enter Tryz.func61, Tryz.ntmps61
        go_wp2_with fail
        go_quiet (first | (go_at_call 62; exact Calls.quiet_of_same (HQ.out _)))
        go_wp2_with fail
        go_ret
        exact ⟨rfl, kp_drewN _ _⟩
    · have d1 : decide (t ≤ now) = false := decide_eq_false h1
      rw [d1]
      clear h1
      go_enter Tryz.func61, Tryz.ntmps61
      go_wp2_with fail
      go_quiet (first | (go_at_call 62; exact Calls.quiet_of_same (HQ.out _)))
      go_wp2_with fail
      go_ret
      exact ⟨rfl, kp_drewN _ _⟩
end
section
variable {b : Nat} {mo idl m : Int} {k : Nat} {p : Pl} {S : Nat → Prop} {w : World}
set_option maxHeartbeats 2000000 in
theorem ppdrain_ok (ep : Int) (h : (PP b mo idl m p).p S w) :
    Calls Tryz.prog 25 #[.pointer (some ⟨b, 0, none⟩), .int .u64 ep] w fun e w' => e = .returned (.tuple #[]) ∧ Turn (PP b mo idl m (drainP ep p)) S w w' := by
  have hSl := (PP b mo idl m p).lt h
  have HC : Hid (Calls Tryz.prog 57 #[.pointer (some ⟨b, 0, none⟩), .func (.func 58) #[] #[.pointer (some ⟨w.heap.size, 0, none⟩)], .func (.methodOf 77 "Drain") #[] #[]] (w.alloc (.cells #[.int .u64 ep] 22)) fun e w' => (∃ v, e = .returned v) ∧ Turn (PP b mo idl m (drainP ep p)) S w w') := Lib.hid (by
    have hk : Below w.heap.size w (w.alloc (.cells #[.int .u64 ep] 22)) := kp_new _ _
    refine (each_ok (T := fun j => j = w.heap.size) (.func 58) (.methodOf 77 "Drain") #[.pointer (some ⟨w.heap.size, 0, none⟩)] #[] (fun h => h.ep != ep) (fun h => h.set h.c.drainC) (fun _ s => s) (fun (_ : Unit) W => W.heap[w.heap.size]? = some (.cells #[.int .u64 ep] 22 (0, 0))) ()
      (Thing.next h hk) ?_ ?_ (heap_alloc_new _ _) ?_ ?_ ?_).mono ?_
    · intro j hj hs
      have := hSl j hs
      omega
    · intro j hj
      subst hj
      simp
    · intro _ W W' hz hq
      exact (hq _ rfl).trans hz
    · intro r _ W hl hz _
      exact ⟨_, _, by simp [invoke, go_sem], drain1_is _ ep hl hz⟩
    · intro r _ W hl hz hTn _
      obtain ⟨f, args, h1, h2⟩ := inv_drain hl
      refine ⟨f, args, h1, h2.mono ?_⟩
      rintro e w' ⟨hv, k1, k2⟩
      exact ⟨hv, k1, (k2.block _ (Array.getElem?_eq_some_iff.1 hz).1 fun e => hTn _ e rfl).trans hz, k2.wide fun _ h => .inl h⟩
    · rintro e w' ⟨hv, _, hp, ho⟩
      have e1 : ({ p with l := sweepH (p.l.map fun h => if (h.ep != ep) = true then h.set h.c.drainC else h) } : Pl) = drainP ep p := by
        unfold drainP
        have : (fun h : Hd => if (h.ep != ep) = true then h.set h.c.drainC else h) = drain1 ep := by
          funext h
          simp [drain1]
        rw [this]
      rw [e1] at hp
      exact ⟨hv, ⟨⟨S, hp, fun _ h => .inl h⟩, (Off.of S hk).trans ho fun i hi => hi.elim .inl fun e => .inr (by omega)⟩⟩)
  clear h hSl
  go_enter Tryz.func25, Tryz.ntmps25
  go_wp2_with fail
  refine HC.out.mono ?_
  rintro e w1 ⟨⟨v, rfl⟩, ht⟩
  have HT := Lib.hid ht
  clear ht HC
  go_wp2_with fail
  go_end0
  exact ⟨rfl, HT.out⟩
theorem filter_not_len {α : Type} (f : α → Bool) (l : List α) : (l.filter fun x => !f x).length + (l.filter f).length = l.length := by
  induction l with
  | nil => rfl
  | cons x r ih => cases h : f x <;> simp [h] <;> omega
set_option maxHeartbeats 4000000 in
theorem ppreap_ok (now : Int) (hk : KInv mo m k p) (h : (PP b mo idl m p).p S w) :
    Calls Tryz.prog 26 #[.pointer (some ⟨b, 0, none⟩), .int .u64 now] w fun e w' => e = .returned (.int .i64 (reapP idl now p).2) ∧ Turn (PP b mo idl m (reapP idl now p).1) S w w' := by
  have hSl := (PP b mo idl m p).lt h
  obtain ⟨rs, A, n, c, rb, SR, hP⟩ := PP.at_ h
  obtain ⟨hrl, hpl, hn6⟩ := hP.len
  have hlen : ((reapP idl now p).1.l.length : Int) = (n : Int) - (reapP idl now p).2 := by
    have e1 : (reapP idl now p).1.l = p.l.filter fun h => !isOld idl now h := reap_kept idl now p.l fun h hh => ⟨hk.inv.live h hh, hk.inv.ok h hh⟩
    have e2 : (reapP idl now p).2 = ((p.l.filter (isOld idl now)).length : Int) := rfl
    have e3 := filter_not_len (isOld idl now) p.l
    rw [e1, e2]
    omega
  obtain ⟨w2, hw2⟩ : ∃ u, (w.alloc (.cells #[.pointer (some ⟨b, 0, none⟩)] 25)).alloc (.cells #[.int .u64 now] 22) = u := ⟨_, rfl⟩
  have hk2 : Below w.heap.size w w2 := hw2 ▸ kp_alloc (kp_new _ _) _
  have x0 : w2.heap[w.heap.size]? = some (.cells #[.pointer (some ⟨b, 0, none⟩)] 25 (0, 0)) := by
    rw [← hw2]
    exact (Below.heap_alloc _ _ _ (by simp)).trans (heap_alloc_new w _)
  have x1 : w2.heap[w.heap.size + 1]? = some (.cells #[.int .u64 now] 22 (0, 0)) := by
    rw [← hw2]
    have := heap_alloc_new (w.alloc (.cells #[.pointer (some ⟨b, 0, none⟩)] 25)) (.cells #[.int .u64 now] 22)
    rwa [World.size_alloc] at this
  have hP2 := hP.keep (fun j hj => hk2.block j (hSl j hj)) hk2.size
  have hz2 : w2.heap.size = w.heap.size + 2 := by rw [← hw2]; simp
  have y0 := (cellsAt x0 0 (v := .pointer (some ⟨b, 0, none⟩)) rfl).1
  obtain ⟨⟨d0, _⟩, _⟩ := ppcells hP2.top
  have HC : Hid (Calls Tryz.prog 57 #[.pointer (some ⟨b, 0, none⟩), .func (.func 61) #[] #[.pointer (some ⟨w.heap.size + 1, 0, none⟩), .pointer (some ⟨w.heap.size, 0, none⟩)], .func (.methodOf 77 "Drain") #[] #[]] w2 fun e w' => (∃ v, e = .returned v) ∧ Turn (PP b mo idl m (reapP idl now p).1) S w w' ∧ w'.cell? ⟨w.heap.size, 0, none⟩ = some (.pointer (some ⟨b, 0, none⟩)) ∧ ∃ A2 n2 c2, w'.cell? ⟨b, 0, none⟩ = some (.slice A2 n2 c2) ∧ (n2 : Int) = (n : Int) - (reapP idl now p).2 ∧ n2 ≤ 6) := Lib.hid (by
    refine (each_ok (T := fun j => j = w.heap.size ∨ j = w.heap.size + 1) (.func 61) (.methodOf 77 "Drain") #[.pointer (some ⟨w.heap.size + 1, 0, none⟩), .pointer (some ⟨w.heap.size, 0, none⟩)] #[] (isOld idl now) (fun h => h.set h.c.drainC) (fun _ s => s) (fun (_ : Unit) W => W.heap[w.heap.size]? = some (.cells #[.pointer (some ⟨b, 0, none⟩)] 25 (0, 0)) ∧ W.heap[w.heap.size + 1]? = some (.cells #[.int .u64 now] 22 (0, 0))) ()
      (Thing.next h hk2) ?_ ?_ ⟨x0, x1⟩ ?_ ?_ ?_).mono ?_
    · intro j hj hs
      have := hSl j hs
      omega
    · intro j hj
      omega
    · intro _ W W' hz hq
      exact ⟨(hq _ (.inl rfl)).trans hz.1, (hq _ (.inr rfl)).trans hz.2⟩
    · intro r _ W hl hz hb
      have hc := (ppcells ((hb.trans hP2.top))).1.2.2.2.1
      exact ⟨_, _, by simp [invoke, go_sem], reap1_is _ _ b now idl hl hz.2 hz.1 hc⟩
    · intro r _ W hl hz hTn _
      obtain ⟨f, args, h1, h2⟩ := inv_drain hl
      refine ⟨f, args, h1, h2.mono ?_⟩
      rintro e w' ⟨hv, k1, k2⟩
      exact ⟨hv, k1, ⟨(k2.block _ (Array.getElem?_eq_some_iff.1 hz.1).1 fun e => hTn _ e (.inl rfl)).trans hz.1, (k2.block _ (Array.getElem?_eq_some_iff.1 hz.2).1 fun e => hTn _ e (.inr rfl)).trans hz.2⟩, k2.wide fun _ h => .inl h⟩
    · rintro e w' ⟨hv, hz, hp, ho⟩
      have e1 : ({ p with l := sweepH (p.l.map fun h => if isOld idl now h = true then h.set h.c.drainC else h) } : Pl) = (reapP idl now p).1 := rfl
      rw [e1] at hp
      obtain ⟨rs', A2, n2, c2, rb', SR', hP'⟩ := PP.at_ hp
      obtain ⟨_, h5, h6⟩ := hP'.len
      refine ⟨hv, ⟨⟨S, hp, fun _ h => .inl h⟩, (Off.of S hk2).trans ho fun i hi => hi.elim .inl fun e => .inr (by omega)⟩, (cellsAt hz.1 0 rfl).1, A2, n2, c2, (ppcells hP'.top).1.1, by omega, h6⟩)
  have HW := Lib.hid hw2
  rw [← hw2] at d0 y0
  have hrv : (reapP idl now p).2 = ((p.l.filter (isOld idl now)).length : Int) := rfl
  have hge : 0 ≤ (reapP idl now p).2 := by rw [hrv]; omega
  clear h hSl hP hP2 hk2 x0 x1 hw2 hlen hrl hpl hrv
  generalize (reapP idl now p).2 = v at *
  generalize (reapP idl now p).1 = p2 at *
  go_enter Tryz.func26, Tryz.ntmps26
  go_wp2_with fail
  rw [HW.out]
  refine HC.out.mono ?_
  rintro e w3 ⟨⟨v1, rfl⟩, ht, z0, A2, n2, c2, z1, z2, z3⟩
  have HT := Lib.hid ht
  have hw : IntKind.i64.wrap ((n : Int) - (n2 : Int)) = v := by rw [IntKind.wrap_i64]; omega
  clear ht HC z2
  go_wp2_with fail
  go_ret
  exact ⟨rfl, HT.out⟩
theorem PP.row (h : (PP b mo idl m p).p S w) : ∃ (rb : Nat) (SR : Nat → Prop), ∀ u, Below w.heap.size w u → u.cell? ⟨b, 4, none⟩ = some (.pointer (some ⟨rb, 0, none⟩)) ∧ (PW rb m p.row).p SR u ∧ ∀ row' w', Turn (PW rb m row') SR u w' → Turn (PP b mo idl m { p with row := row' }) S u w' := by
  obtain ⟨rs, A, n, c, rb, SR, h⟩ := PP.at_ h
  refine ⟨rb, SR, fun u hu => ?_⟩
  have hk := h.keep (fun k e => hu.block k (h.lt k e)) hu.size
  refine ⟨(ppcells hk.top).1.2.2.2.2, hk.row, fun row' w' ht => ?_⟩
  obtain ⟨⟨S', p', q'⟩, ho⟩ := ht
  have hlt := hk.lt
  have hnb : ∀ k, S k → ¬ SR k → w'.heap[k]? = u.heap[k]? := fun k hk2 hn => ho.block k (hlt k hk2) hn
  have t3 : (PP b mo idl m { p with row := row' }).p (fun k => S k ∨ S' k) w' := ⟨rs, A, n, c, rb, S', ⟨(hnb b hk.sb fun e => (hk.ar b e).1 rfl).trans hk.top, hk.l, hk.hl.keep (fun k e => hnb k (hk.sl k e) fun e2 => (hk.ar k e2).2 e) ho.size, p', .inl hk.sb, fun k e => .inr e, fun k e => .inl (hk.sl k e), fun k e => e.elim (fun e => Nat.lt_of_lt_of_le (hlt k e) ho.size) ((PW rb m row').lt p' k), fun k e => ?_, hk.al, hk.few⟩⟩
  · refine ⟨⟨_, t3, fun k e => e.elim .inl fun e => (q' k e).elim (fun e2 => .inl (hk.sr k e2)) .inr⟩, ho.wide hk.sr⟩
  · rcases q' k e with e2 | e2
    · exact hk.ar k e2
    · refine ⟨fun e3 => ?_, fun e3 => ?_⟩
      · have := hlt b hk.sb; omega
      · have := hlt k (hk.sl k e3); omega
theorem pleave_ok (ss : Int) (h : (PP b mo idl m p).p S w) :
    Calls Tryz.prog 22 #[.pointer (some ⟨b, 0, none⟩), .int .i64 ss] w fun e w' => e = .returned (.bool (decide (0 ≤ atW ss p.row))) ∧ Turn (PP b mo idl m { p with row := dropW ss p.row }) S w w' := by
  obtain ⟨rb, SR, hu⟩ := PP.row h
  obtain ⟨c4, hr, hn⟩ := hu w (Below.refl _ _)
  have HC := Lib.hid ((pdrop_ok ss hr).mono fun e w' ⟨he, ht⟩ => And.intro he (hn _ w' ht))
  clear h hu hr hn
  go_enter Tryz.func22, Tryz.ntmps22
  go_wp2_with fail
  refine HC.out.mono ?_
  rintro e w1 ⟨rfl, ht⟩
  have HT := Lib.hid ht
  clear ht HC
  go_wp2_with fail
  go_ret
  exact ⟨rfl, HT.out⟩
theorem pwaiting_ok (h : (PP b mo idl m p).p S w) :
    Calls Tryz.prog 14 #[.pointer (some ⟨b, 0, none⟩)] w fun e w' => ∃ A n c, e = .returned (.slice A n c) ∧ NR w' A n p.row ∧ n ≤ 12 ∧ Below w.heap.size w w' := by
  obtain ⟨rb, SR, hu⟩ := PP.row h
  obtain ⟨c4, hr, hn⟩ := hu w (Below.refl _ _)
  have HC := Lib.hid (pall_ok hr)
  clear h hu hr hn
  go_enter Tryz.func14, Tryz.ntmps14
  go_wp2_with fail
  refine HC.out.mono ?_
  rintro e w1 ⟨A, n, c, rfl, h1, h2, h3⟩
  have H1 := Lib.hid h1
  have H3 := Lib.hid h3
  clear h1 h3 HC
  go_wp2_with fail
  go_ret
  exact ⟨A, n, c, rfl, H1.out, h2, H3.out⟩
end
end

/- The project's layer 10: Break: contract. -/
section
open Go.RowKit
set_option maxRecDepth 100000

section
variable {b : Nat} {mo idl m : Int} {k : Nat} {p : Pl} {S : Nat → Prop} {w : World}
set_option maxHeartbeats 4000000 in
theorem ppbreak_ok (id : Int) (hk : KInv mo m k p) (h : (PP b mo idl m p).p S w) :
    Calls Tryz.prog 24 #[.pointer (some ⟨b, 0, none⟩), .int .i64 id] w fun e w' => e = .returned (.tuple #[.int .u64 (breakP id p).2.1, .int .i64 (breakP id p).2.2.1, .bool (breakP id p).2.2.2]) ∧ Turn (PP b mo idl m (breakP id p).1) S w w' := by
  have hSl := (PP b mo idl m p).lt h
  obtain ⟨x, hx⟩ : ∃ x : Inf, x = if findH id p.l < 0 then inf0 else infoH (theH id p) := ⟨_, rfl⟩
  have HI := Lib.hid (done_I id h hk.ne hk.inv.live x hx)
  by_cases hf : findH id p.l < 0
  · have hP : breakP id p = (p, 0, 0, false) := if_pos hf
    rw [if_pos hf] at hx
    subst hx
    rw [hP]
    unfold inf0 Inf.vals at HI
    dsimp only at HI
    clear h hk hSl hf hP
    go_enter Tryz.func24, Tryz.ntmps24
    go_wp2_with fail
    refine HI.out.mono ?_
    rintro e w1 ⟨rfl, hp, ho⟩
    have HT : Hid (∀ o, Turn (PP b mo idl m p) S w (w1.alloc o)) := Lib.hid fun o => ⟨⟨S, Thing.next hp (kp_new _ _), fun _ h => .inl h⟩, ho.trans (Off.of (fun _ => False) (kp_new _ _)) fun _ e => e.elim⟩
    clear hp ho HI
    go_wp2_with fail
    go_ret3
    exact ⟨rfl, HT.out _⟩
  · have hP : breakP id p = (sweepP (onH id (fun h => h.set h.c.breakC) p), (theH id p).c.f, (theH id p).c.o, true) := if_neg hf
    rw [if_neg hf] at hx
    have hid : (x.id == 0) = false := by
      have h1 := hk.pos _ (hk.at_ hf)
      rw [hx]
      simp only [infoH, beq_eq_false_iff_ne]
      omega
    have HD : Hid (∀ w1, (PP b mo idl m p).p S w1 → Off S w w1 → ∀ u, Below w1.heap.size w1 u → Calls Tryz.prog 55 #[.pointer (some ⟨b, 0, none⟩), .int .i64 id, .func (.methodOf 77 "Break") #[] #[], .int .u64 0] u fun e w' => e = .returned (.int .u64 (theH id p).c.f) ∧ Turn (PP b mo idl m (sweepP (onH id (fun h => h.set h.c.breakC) p))) S w w' ∧ ∀ j, w1.heap.size ≤ j → j < u.heap.size → w'.heap[j]? = u.heap[j]?) := Lib.hid fun w1 hp ho u hu => by
      refine (done_U (T0 := fun _ => False) id 0 (.methodOf 77 "Break") #[] (fun _ => True) (fun h => h.c.f) (fun h => h.set h.c.breakC) (Thing.next hp hu) (fun _ h => h.elim) (fun _ h => h.elim) trivial (fun _ _ _ _ => trivial) (fun r W hl _ => inv_break hl) hk.ne).mono ?_
      rintro e w' ⟨rfl, hp', ho'⟩
      rw [if_neg hf] at hp' ⊢
      refine ⟨rfl, ⟨⟨S, hp', fun _ h => .inl h⟩, (ho.trans (Off.of (fun _ => False) hu) fun _ e => e.elim).trans ho' fun i hi => hi.elim .inl fun e => e.elim⟩, fun j h1 h2 => ho'.block j h2 fun e => e.elim (fun e => ?_) fun e => e⟩
      have := hSl j e
      have := ho.size
      omega
    rw [hP]
    have hxo : (theH id p).c.o = x.o := by rw [hx]; rfl
    rw [hxo]
    obtain ⟨x1, x2, x3, x4, x5, x6⟩ := x
    unfold Inf.vals at HI
    dsimp only at HI hid ⊢
    clear h hk hSl hf hP hx hxo
    generalize sweepP (onH id (fun h => h.set h.c.breakC) p) = p2 at *
    generalize (theH id p).c.f = fv at *
    go_enter Tryz.func24, Tryz.ntmps24
    go_wp2_with fail
    refine HI.out.mono ?_
    rintro e w1 ⟨rfl, hp, ho⟩
    have HB := Lib.hid (HD.out w1 hp ho)
    clear hp ho HI HD
    obtain ⟨w2, hw2⟩ : ∃ u, w1.alloc (.cells #[.int .i64 x1, .int .i64 x2, .int .i64 x3, .int .u64 x4, .int .u64 x5, .int .u64 x6] 61) = u := ⟨_, rfl⟩
    have hb2 : w2.heap[w1.heap.size]? = some (infB ⟨x1, x2, x3, x4, x5, x6⟩) := hw2 ▸ heap_alloc_new w1 _
    have HK := Lib.hid (show Below w1.heap.size w1 w2 from hw2 ▸ kp_new w1 _)
    have HW := Lib.hid hw2
    have HB2 := Lib.hid hb2
    have HL2 := Lib.hid (Array.getElem?_eq_some_iff.1 hb2).1
    obtain ⟨⟨_, _, y2, _⟩, _⟩ := inf_cells hb2
    rw [← hw2] at y2
    clear hw2 hb2
    go_wp2_with fail
    rw [HW.out] at y2 ⊢
    go_region_with (go_at_call 55; refine (HB.out _ HK.out.drew).mono ?_; rintro e w4 ⟨rfl, ht, hj⟩; have y4 := (inf_cells ((hj w1.heap.size (Nat.le_refl _) HL2.out).trans HB2.out)).1.2.2.1; have HT := Lib.hid ht; clear ht hj)
    all_goals
      go_wp2_with fail
      go_ret3
      exact ⟨rfl, HT.out⟩
end
end

/- The project's layer 10: has, Conns: contracts. -/
section
open Go.RowKit
set_option maxRecDepth 100000
attribute [local go_sem] Oper.semAt_some wide_depth wide_fn

section
variable {b : Nat} {mo idl m : Int} {k : Nat} {p : Pl} {S : Nat → Prop} {w : World}
theorem below_bk {B : Nat} {w0 W W' : World} (h : Below B w0 W) (ho : Off (bkS B) W W') (hB : B ≤ W.heap.size) : Below B w0 W' := h.trans (ho.below (fun k hk => by rcases hk with e | e <;> omega) hB)
theorem put_cell {W : World} {D B : Nat} {v : Value} (h : W.cell? ⟨B, 0, none⟩ = some v) (hne : B ≠ D) (o : Obj) : (W.putObj D o).cell? ⟨B, 0, none⟩ = some v := (World.cell?_of_block (a := ⟨B, 0, none⟩) (World.putObj_heap_other hne)).trans h
theorem put_below {w0 W : World} {B D : Nat} (h : Below B w0 W) (hD : B ≤ D) (hs : B ≤ W.heap.size) (o : Obj) : Below B w0 (W.putObj D o) := h.trans ((off_putObj (B := D) W o (.inl rfl)).below (fun k hk => by rcases hk with e | e <;> omega) hs)
theorem size_setCell (W : World) (p : Addr) (v : Value) : (W.setCell p v).heap.size = W.heap.size := by simp [World.setCell]
set_option maxHeartbeats 4000000 in
theorem phas_ok (ss : Int) (h : (PP b mo idl m p).p S w) :
    Calls Tryz.prog 41 #[.pointer (some ⟨b, 0, none⟩), .int .i64 ss] w fun e w' => e = .returned (.bool (hasH ss p.l)) ∧ Below w.heap.size w w' := by
  obtain ⟨rs, A, n, c, rb, SR, hP⟩ := PP.at_ h
  have hSl := hP.lt
  clear h
  obtain ⟨w2, hw2⟩ : ∃ u, (w.alloc (.cells #[.int .i64 ss] 3)).alloc (.cells #[.bool false] 4) = u := ⟨_, rfl⟩
  have hk2 : Below w.heap.size w w2 := hw2 ▸ kp_alloc (kp_new _ _) _
  have hz2 : w2.heap.size = w.heap.size + 2 := by rw [← hw2]; simp
  have hP2 := hP.keep (fun k hk => hk2.block k (hSl k hk)) hk2.size
  have b0 : w2.heap[w.heap.size]? = some (.cells #[.int .i64 ss] 3 (0, 0)) := by
    rw [← hw2]
    exact (Below.heap_alloc _ _ _ (by simp)).trans (heap_alloc_new w _)
  have b1 : w2.heap[w.heap.size + 1]? = some (.cells #[.bool false] 4 (0, 0)) := by
    rw [← hw2]
    have := heap_alloc_new (w.alloc (.cells #[.int .i64 ss] 3)) (.cells #[.bool false] 4)
    rwa [World.size_alloc] at this
  obtain ⟨hrl, hpl, hn6⟩ := hP2.len
  obtain ⟨⟨d0, _⟩, _⟩ := ppcells hP2.top
  have HW := Lib.hid hw2
  have HK2 := Lib.hid hk2
  have HP2 := Lib.hid hP2
  have HSL := Lib.hid hSl
  have HB0 := Lib.hid b0
  have HB1 := Lib.hid b1
  clear hw2 hP hP2 hSl hk2 b0 b1
  have hrp : rs.length = p.l.length := by omega
  refine (callsIn_wide (n := 3)).1 ?_
  refine callsIn_of_wp_marks Tryz.func41 rfl trivial ?_
  simp only [Tryz.ntmps41, List.size_toArray, List.length_cons, List.length_nil, Nat.reduceAdd, Nat.reduceSub, Array.replicate_succ, Array.replicate_zero, List.push_toArray, List.append_toArray, List.nil_append, List.cons_append]
  gi_wp2
  rw [HW.out]
  refine wpIn_rangeAll (b := b) (n := n) (c := c) (A := A) (rs := rs) rfl hrl hn6 d0
    (fun k W => Below w2.heap.size w2 W ∧ ∀ j (hj : j < rs.length), j < k → rs[j].h.c.o ≠ ss) (fun W => Below w.heap.size w W ∧ W.cell? ⟨w.heap.size + 1, 0, none⟩ = some (.bool true) ∧ hasH ss p.l = true ∧ w2.heap.size ≤ W.heap.size) ?stI ?stX ?hat ?h0
    (fun r => { tmps := #[.pointer (some ⟨b, 0, none⟩), .int .i64 ss, undef, .pointer (some ⟨w.heap.size, 0, none⟩), .pointer (some ⟨w.heap.size + 1, 0, none⟩), lkV r, .pointer (some ⟨b, 0, none⟩), .func (.func 37) #[.pointer (some ⟨b, 0, none⟩)] #[], lkV r, undef, undef, undef, undef, undef, undef, undef], defers := [] }) ?assign ?body ?done ?stop
  case stI =>
    rintro k W W' ⟨h1, h2⟩ ho
    exact ⟨below_bk h1 ho h1.size, h2⟩
  case stX =>
    rintro W W' ⟨h1, h2, h3, h4⟩ ho
    have hc : W'.heap[w.heap.size + 1]? = W.heap[w.heap.size + 1]? := ho.block _ (by omega) fun e => by rcases e with e | e <;> omega
    exact ⟨h1.trans (ho.below (fun k hk => by rcases hk with e | e <;> omega) (by omega)), (World.cell?_of_block (a := ⟨w.heap.size + 1, 0, none⟩) hc).trans h2, h3, Nat.le_trans h4 ho.size⟩
  case hat =>
    rintro k hk W ⟨h1, _⟩
    have hP3 := HP2.out.keep (fun j hj => h1.block j (HP2.out.lt j hj)) h1.size
    obtain ⟨g, q1, _, _, q2, _⟩ := hP3.hl.at_ hk
    exact ⟨g, q1, q2⟩
  case h0 => exact ⟨Below.refl _ _, fun j _ h => absurd h (Nat.not_lt_zero _)⟩
  case assign =>
    intro l r W K hK
    gi_wp2
    exact hK
  case body =>
    rintro l k hk W ⟨h1, h2⟩ hsz
    have hP3 := HP2.out.keep (fun j hj => h1.block j (HP2.out.lt j hj)) h1.size
    have hlk := hP3.hl.lk _ (List.getElem_mem hk)
    obtain ⟨⟨c0, _, _⟩, _⟩ := hlk.cells
    have x0 := (cellsAt ((h1.block w.heap.size (by omega)).trans HB0.out) 0 (v := .int .i64 ss) rfl).1
    obtain ⟨x1, z1⟩ := cellsAt ((h1.block (w.heap.size + 1) (by omega)).trans HB1.out) 0 (v := .bool false) rfl
    have HO : Hid (∀ q, Calls Tryz.prog 76 #[.pointer (some ⟨rs[k].a, 0, none⟩)] (W.drewN q) fun e w' => e = .returned (.int .i64 rs[k].h.c.o) ∧ w' = W.drewN q) := Lib.hid fun q => (cowner_ok ((CC _ _ _).next hlk.c (kp_drewN W q))).mono fun _ _ ⟨h1, h2⟩ => ⟨h1, h2.symm⟩
    have H1 := Lib.hid h1
    have HBW := Lib.hid (HK2.out.trans (h1.mono (by omega : w.heap.size ≤ w2.heap.size)))
    have hmx : Tryz.prog.follows .mixedOrders = true := by kernel_rfl
    have hhh : rs[k].h = p.l[k]'(by omega) := HP2.out.at_ hk (by omega)
    by_cases ho : rs[k].h.c.o = ss
    · have HHS : Hid (hasH ss p.l = true) := Lib.hid (by
        unfold hasH
        refine decide_eq_true ?_
        by_cases hn : firstH (fun h : Hd => h.c.o == ss) p.l < 0
        · have := firstH_all hn p.l[k] (List.getElem_mem _)
          rw [hhh] at ho
          simp [ho] at this
        · omega)
      rw [ho] at HO
      clear hP3 hlk h1 h2 hhh ho
      unfold lkV
      generalize rs[k].l = la at *
      generalize rs[k].a = aa at *
      gi_wp2
      gi_region_with_o (gi_at_call 76; refine CallsIn.mono (CallsIn.inRound l (callsIn_wide.2 (HO.out 1))) ?_; rintro e w' ⟨rfl, rfl⟩)
      all_goals
        gi_wp2
        refine ⟨⟨(HBW.out.drew).setCell (p := ⟨w.heap.size + 1, 0, none⟩) (Nat.le_succ _) _, World.cell?_setCell_same _ _ _ (u := .bool false) x1, HHS.out, ?_⟩, fun j hj => Below.heap_setCell _ _ _ _ (by have := hsz; rcases hj with e | e <;> (intro e2; have e3 : w.heap.size + 1 = j := (by first | exact e2 | exact e2.symm); omega))⟩
        show w2.heap.size ≤ (W.heap.modify _ _).size
        rw [Array.size_modify]
        omega
    · have hne2 : ∀ j (hj : j < rs.length), j < k + 1 → rs[j].h.c.o ≠ ss := fun j hj hjk => by
        by_cases e : j = k
        · subst e; exact ho
        · exact h2 j hj (by omega)
      have HNE := Lib.hid hne2
      have hoq : (rs[k].h.c.o == ss) = false := by simpa using ho
      clear hP3 hlk h1 h2 hhh ho hne2
      unfold lkV
      generalize rs[k].l = la at *
      generalize rs[k].a = aa at *
      generalize rs[k].h.c.o = ov at *
      gi_wp2
      gi_region_with_o (gi_at_call 76; refine CallsIn.mono (CallsIn.inRound l (callsIn_wide.2 (HO.out 1))) ?_; rintro e w' ⟨rfl, rfl⟩)
      all_goals
        gi_wp2
        exact ⟨⟨H1.out.trans (kp_drewN W 1 |>.mono (by omega)), HNE.out⟩, fun j _ => rfl⟩
  case done =>
    rintro W ⟨h1, h2⟩ hd
    have hno : hasH ss p.l = false := by
      unfold hasH
      refine decide_eq_false fun e => ?_
      have hn := firstH_none (p := fun h : Hd => h.c.o == ss) (l := p.l) fun y hy => by
        obtain ⟨j, hj, rfl⟩ := List.getElem_of_mem hy
        have := h2 j (by omega) (by omega)
        rw [HP2.out.at_ (by omega) hj] at this
        simpa using this
      omega
    have HNO := Lib.hid hno
    obtain ⟨x1, z1⟩ := cellsAt ((h1.block (w.heap.size + 1) (by omega)).trans HB1.out) 0 (v := .bool false) rfl
    have HD := Lib.hid hd
    have H1 := Lib.hid h1
    have hdl := (Array.getElem?_eq_some_iff.1 hd).1
    have hd2 : (W.setCell ⟨w.heap.size + 1, 0, none⟩ (.bool false)).heap[w2.heap.size]? = some (.deferred (some [])) := (Below.heap_setCell _ _ _ _ (by intro e2; have e3 : w.heap.size + 1 = w2.heap.size := (by first | exact e2 | exact e2.symm); omega)).trans hd
    have HBW := Lib.hid (HK2.out.trans (h1.mono (by omega : w.heap.size ≤ w2.heap.size)))
    clear h1 h2 hd hno
    gi_wp2
    refine ⟨by simp, .inl ⟨_, _, rfl, run_takeDeferred hd2, ?_⟩⟩
    refine ⟨.bool false, ?_, by rw [HNO.out], ?_⟩
    · rw [results_cell1 rfl]
      have hc2 := put_cell (World.cell?_setCell_same W ⟨w.heap.size + 1, 0, none⟩ (.bool false) (u := .bool false) x1) (by omega : w.heap.size + 1 ≠ w2.heap.size) (.deferred none)
      simp [loadVar, go_sem, hc2]
    · exact put_below (HBW.out.setCell (p := ⟨w.heap.size + 1, 0, none⟩) (Nat.le_succ _) _) (by omega) (by rw [size_setCell]; omega) _
  case stop =>
    rintro W ⟨h1, h2, h3, h4⟩ hd
    have HNO := Lib.hid h3
    have H1 := Lib.hid h1
    have HC := Lib.hid h2
    clear h1 h2 h3
    gi_wp2
    refine ⟨by simp, .inl ⟨_, _, rfl, run_takeDeferred hd, ?_⟩⟩
    refine ⟨.bool true, ?_, by rw [HNO.out], ?_⟩
    · rw [results_cell1 rfl]
      have hc2 := put_cell HC.out (by omega : w.heap.size + 1 ≠ w2.heap.size) (.deferred none)
      simp [loadVar, go_sem, hc2]
    · exact put_below H1.out (by omega) (by omega) _
end
end

/- The project's layer 10: Conns: contract. -/
section
open Go.RowKit
set_option maxRecDepth 100000
attribute [local go_sem] Oper.semAt_some wide_depth wide_fn

theorem pinfinfo : (Tryz.prog.info? 61).map (fun i => (i.zero, i.size, i.bytes)) = some (some (.agg #[.int .i64 0, .int .i64 0, .int .i64 0, .int .u64 0, .int .u64 0, .int .u64 0]), 6, 48) := by kernel_rfl
theorem stepIn_append {F : Fence} {n : Nat} {P : Program} {ops : Array Oper} {o : Oper} {a : Act} {w : World} {K : Act → World → Prop} {Q : Exit → Act → World → Prop} {E : Prop} (hw : Region.wanted o (yielded ops a.tmps) = true) (hF : ∀ f, F.fn f) (s x : Operand) (t : TypeId)
    (ho : o.op = .call { callee := .builtin .append, args := #[s, x], argTypes := #[t, t] }) (v y : Value) (hs : a.eval s = v) (hx : a.eval x = y) {v3 : Value} {w3 : World}
    (hrun : (Builtin.append_ #[t, t] o.type #[v, y]).run P w = .ok v3 w3) (hk : K (a.put o.dst v3) w3) : if Region.wanted o (yielded ops a.tmps) = true then o.wpIn F n P a w K Q else E := by
  rw [if_pos hw]
  refine ⟨fun f _ => hF f, ?_⟩
  have e1 : Oper.semAt F.round a.eval o = execOp a.eval o := by
    unfold Oper.semAt
    rw [ho]
    cases F.round <;> rfl
  have e2 : (execOp a.eval o).run P w = .ok (.value v3) w3 := by
    unfold execOp
    simp only [ho, resolve, invoke, builtin, Sem.run_bind, Sem.run_pure, Result.andThen_ok, List.map_toArray, List.map_cons, List.map_nil, hs, hx, hrun]
  rw [e1, e2]
  exact hk
section
variable {b : Nat} {mo idl m : Int} {k : Nat} {p : Pl} {S : Nat → Prop} {w : World}
/-- within the loop: so many are told -/
def ConnsI (w w2 : World) (l : List Hd) (k : Nat) (W : World) : Prop :=
  ∃ D e, W.heap[w.heap.size]? = some (.cells #[.slice D k e] 41 (0, 0)) ∧ W.ownsRow (w2.heap.size + 2) 61 6 (.slice D k e) k (inC ((l.take k).map infoH)) ∧ Below w.heap.size w W ∧ w2.heap.size ≤ W.heap.size
set_option maxHeartbeats 4000000 in
theorem pconns_ok (h : (PP b mo idl m p).p S w) :
    Calls Tryz.prog 11 #[.pointer (some ⟨b, 0, none⟩)] w fun e w' => ∃ A n c, e = .returned (.slice A n c) ∧ w'.ownsRow w.heap.size 61 6 (.slice A n c) n (inC (p.l.map infoH)) ∧ n ≤ 6 ∧ Below w.heap.size w w' := by
  obtain ⟨rs, A, n, c, rb, SR, hP⟩ := PP.at_ h
  have hSl := hP.lt
  clear h
  obtain ⟨w2, hw2⟩ : ∃ u, w.alloc (.cells #[.slice none 0 0] 41) = u := ⟨_, rfl⟩
  have hk2 : Below w.heap.size w w2 := hw2 ▸ kp_new _ _
  have hz2 : w2.heap.size = w.heap.size + 1 := by rw [← hw2]; simp
  have hP2 := hP.keep (fun k hk => hk2.block k (hSl k hk)) hk2.size
  have b0 : w2.heap[w.heap.size]? = some (.cells #[.slice none 0 0] 41 (0, 0)) := hw2 ▸ heap_alloc_new w _
  obtain ⟨hrl, hpl, hn6⟩ := hP2.len
  obtain ⟨⟨d0, _⟩, _⟩ := ppcells hP2.top
  have HW := Lib.hid hw2
  have HK2 := Lib.hid hk2
  have HP := Lib.hid hP
  have HSL := Lib.hid hSl
  have HB0 := Lib.hid b0
  clear hw2 hP hP2 hSl hk2 b0
  have hrp : rs.length = p.l.length := by omega
  obtain ⟨i0, hi, hi0, hi1, hi2⟩ := info_parts pinfinfo
  refine (callsIn_wide (n := 3)).1 ?_
  refine callsIn_of_wp_marks Tryz.func11 rfl trivial ?_
  simp only [Tryz.ntmps11, List.size_toArray, List.length_cons, List.length_nil, Nat.reduceAdd, Nat.reduceSub, Array.replicate_succ, Array.replicate_zero, List.push_toArray, List.append_toArray, List.nil_append, List.cons_append]
  gi_wp2
  rw [HW.out]
  refine wpIn_rangeAll (b := b) (n := n) (c := c) (A := A) (rs := rs) rfl hrl hn6 d0
    (ConnsI w w2 p.l) (fun _ => False) ?stI (fun _ _ h _ => h) ?hat ?h0
    (fun r => { tmps := #[.pointer (some ⟨b, 0, none⟩), undef, .slice none 0 0, .pointer (some ⟨w.heap.size, 0, none⟩), lkV r, .pointer (some ⟨b, 0, none⟩), .func (.func 37) #[.pointer (some ⟨b, 0, none⟩)] #[], lkV r, undef, undef, undef, undef, undef, undef], defers := [] }) ?assign ?body ?done ?stop
  case stI =>
    rintro k W W' ⟨D, e, h1, h2, h3, h4⟩ ho
    refine ⟨D, e, (ho.block _ (by omega) fun e => by rcases e with e | e <;> omega).trans h1, own_keep h2 fun g hg => ho.block g (h2.lt g hg).2 fun e => ?_, h3.trans (ho.below (fun k hk => by rcases hk with e | e <;> omega) (by omega)), Nat.le_trans h4 ho.size⟩
    have := (h2.lt g hg).1
    rcases e with e | e <;> omega
  case hat =>
    rintro k hk W ⟨D, e, h1, h2, h3, h4⟩
    have hP3 := HP.out.keep (fun j hj => h3.block j (HSL.out j hj)) h3.size
    obtain ⟨g, q1, _, _, q2, _⟩ := hP3.hl.at_ hk
    exact ⟨g, q1, q2⟩
  case h0 => exact ⟨none, 0, HB0.out, World.ownsRow_nil _ _ _ _, HK2.out, Nat.le_refl _⟩
  case assign =>
    intro l r W K hK
    gi_wp2
    exact hK
  case body =>
    rintro l k hk W ⟨D, e, h1, h2, h3, h4⟩ hsz
    have hP3 := HP.out.keep (fun j hj => h3.block j (HSL.out j hj)) h3.size
    have hlk := hP3.hl.lk _ (List.getElem_mem hk)
    obtain ⟨x1, z1⟩ := cellsAt h1 0 (v := .slice D k e) rfl
    have hmx : Tryz.prog.follows .mixedOrders = true := by kernel_rfl
    have hhh : rs[k].h = p.l[k]'(by omega) := HP.out.at_ hk (by omega)
    have HNX := Lib.hid (show inC ((p.l.take (k + 1)).map infoH) = inC ((p.l.take k).map infoH) ++ (infoH rs[k].h).cells by rw [List.take_succ_eq_append_getElem (by omega), List.map_append, inC_append, hhh]; simp [inC])
    have HI : Hid (∀ q, Calls Tryz.prog 38 #[lkV rs[k]] (W.drewN q) fun e w' => e = .returned (.agg (infoH rs[k].h).vals) ∧ Below (W.drewN q).heap.size (W.drewN q) w') := Lib.hid fun q => info_ok (hlk.next (kp_drewN W q))
    have hbl : w.heap.size < W.heap.size := by omega
    have H1 := Lib.hid h1
    have H2 := Lib.hid h2
    have H3 := Lib.hid h3
    have HOB : Hid (∀ u, Below W.heap.size W u → u.cell? ⟨w.heap.size, 0, none⟩ = some (.slice D k e) ∧ u.frozen? ⟨w.heap.size, 0, none⟩ = false ∧ w.heap.size < u.heap.size ∧ ∃ D3 e3 w3, (Builtin.append_ #[41, 41] 41 #[.slice D k e, .slice (some ⟨u.heap.size, 0, none⟩) 1 1]).run Tryz.prog (u.alloc (.cells (infoH rs[k].h).vals 61)) = .ok (.slice D3 (k + 1) e3) w3 ∧
        w3.cell? ⟨w.heap.size, 0, none⟩ = some (.slice D k e) ∧ w3.frozen? ⟨w.heap.size, 0, none⟩ = false ∧ ConnsI w w2 p.l (k + 1) (w3.setCell ⟨w.heap.size, 0, none⟩ (.slice D3 (k + 1) e3)) ∧ ∀ j, bkS w2.heap.size j → (w3.setCell ⟨w.heap.size, 0, none⟩ (.slice D3 (k + 1) e3)).heap[j]? = W.heap[j]?) := Lib.hid fun u hu => by
      have ho1 := (own_below_s H2.out hu (Nat.le_refl _)).alloc (.cells (infoH rs[k].h).vals 61)
      have hus := hu.size
      have hrd : Rd (u.alloc (.cells (infoH rs[k].h).vals 61)) (u.heap.size + 1) (some ⟨u.heap.size, 0, none⟩) (infoH rs[k].h).cells := Rd.new u 61 (infoH rs[k].h).cells
      obtain ⟨v3, w3, hr3, ho3, hg3⟩ := run_append_rds (P := Tryz.prog) (w2.heap.size + 2) 41 41 61 i0 _ 6 48 Tryz.underlying41 hi hi0 hi1 hi2 rfl (by omega) (.slice D k e) k _ ho1 _ _ 1 1 (infoH rs[k].h).cells rfl hrd (by simp [Inf.cells, Value.oneCell']) (by unfold maxLen; omega) (by omega) (by simp; omega)
      have hlt := ho1.lt
      have hz3 := hg3.size
      have hzu : (u.alloc (.cells (infoH rs[k].h).vals 61)).heap.size = u.heap.size + 1 := by simp
      have hkeep : ∀ j, j < W.heap.size → j < w2.heap.size + 2 → w3.heap[j]? = W.heap[j]? := fun j hj1 hj2 => (hg3.block j (by omega) fun e => by have := (hlt j e.symm).1; omega).trans ((heap_alloc_old _ _ (by omega)).trans (hu.block j hj1))
      have hb0 : w3.heap[w.heap.size]? = some (.cells #[.slice D k e] 41 (0, 0)) := (hkeep _ hbl (by omega)).trans H1.out
      obtain ⟨x3, z3⟩ := cellsAt hb0 0 (v := .slice D k e) rfl
      obtain ⟨D3, e3, rfl, _, _⟩ := own_form_s ho3
      obtain ⟨x4, z4⟩ := cellsAt ((hu.block _ hbl).trans H1.out) 0 (v := .slice D k e) rfl
      refine ⟨x4, z4, by omega, D3, e3, w3, hr3, x3, z3, ⟨D3, e3, cset hb0 0 _ rfl, ?_, ?_, by rw [size_setCell]; omega⟩, fun j hj => (Below.heap_setCell _ _ _ _ (by rcases hj with e | e <;> (intro e2; have e3 : w.heap.size = j := (by first | exact e2 | exact e2.symm); omega))).trans (hkeep j (by rcases hj with e | e <;> omega) (by rcases hj with e | e <;> omega))⟩
      · rw [HNX.out]
        exact own_setCell_s ho3 (by show w.heap.size < w2.heap.size + 2; omega) _
      · exact ((H3.out.trans ((kp_alloc hu _).mono (by omega))).grown hg3 (by omega) fun j e => by have := (hlt j e).1; omega).setCell (p := ⟨w.heap.size, 0, none⟩) (Nat.le_refl _) _
    clear hP3 hlk h1 h2 h3 hhh
    generalize infoH rs[k].h = x at *
    obtain ⟨y0, y1, y2, y3, y4, y5⟩ := x
    unfold Inf.vals at HI HOB
    dsimp only at HI HOB
    generalize lkV rs[k] = la at *
    gi_wp2
    refine wpIn_region_any hmx ?_
    change wpAnyIn _ _ _ _ _ _ _ _ _ (World.drew _)
    refine wpAnyIn_ready (rs := [0, 1]) (by kernel_rfl) (by simp) ?_
    refine AllReadyIn.cons rfl (fun K hK => ?_) ?_
    · skip
      go_simp
      refine hK _ _ ?_
      clear hK K
      refine wpAnyIn_ready (rs := [1]) (by kernel_rfl) (by simp) ?_
      refine AllReadyIn.cons rfl (fun K hK => ?_) ?_
      · skip
        go_simp
        refine hK _ _ ?_
        clear hK K
        refine wpAnyIn_ready (rs := [2]) (by kernel_rfl) (by simp) ?_
        refine AllReadyIn.cons rfl (fun K hK => ?_) ?_
        · skip
          go_simp
          refine CallsIn.mono (CallsIn.inRound l (callsIn_wide.2 (HI.out 1))) ?_
          rintro e4 w4 ⟨rfl, hb4⟩
          have hb5 := kp_trans (kp_drewN W 1) hb4
          obtain ⟨x4, z4, hl4, D3, e3, w3, hr3, x3, z3, hn3⟩ := HOB.out w4 hb5
          have HN := Lib.hid hn3
          have HR := Lib.hid hr3
          clear hn3 hb4 hb5 hr3
          refine hK _ _ ?_
          clear hK K
          refine wpAnyIn_ready (rs := [3]) (by kernel_rfl) (by simp) ?_
          refine AllReadyIn.cons rfl (fun K hK => ?_) ?_
          · skip
            go_simp
            refine hK _ _ ?_
            clear hK K
            refine wpAnyIn_ready (rs := [4]) (by kernel_rfl) (by simp) ?_
            refine AllReadyIn.cons rfl (fun K hK => ?_) ?_
            · skip
              refine stepIn_append rfl (fun _ => trivial) (.tmp 8) (.tmp 11) _ rfl _ _ rfl rfl HR.out ?_
              refine hK _ _ ?_
              clear hK K
              refine wpAnyIn_ready (rs := [5]) (by kernel_rfl) (by simp) ?_
              refine AllReadyIn.cons rfl (fun K hK => ?_) ?_
              · skip
                go_simp
                refine hK _ _ ?_
                clear hK K
                refine wpAnyIn_done (by kernel_rfl) ?_ _
                gi_wp2
                exact HN.out
              exact AllReadyIn.nil
            exact AllReadyIn.nil
          exact AllReadyIn.nil
        exact AllReadyIn.nil
      exact AllReadyIn.nil
    refine AllReadyIn.cons rfl (fun K hK => ?_) ?_
    · skip
      go_simp
      refine hK _ _ ?_
      clear hK K
      refine wpAnyIn_ready (rs := [0, 2]) (by kernel_rfl) (by simp) ?_
      refine AllReadyIn.cons rfl (fun K hK => ?_) ?_
      · skip
        go_simp
        refine hK _ _ ?_
        clear hK K
        refine wpAnyIn_ready (rs := [2]) (by kernel_rfl) (by simp) ?_
        refine AllReadyIn.cons rfl (fun K hK => ?_) ?_
        · skip
          go_simp
          refine CallsIn.mono (CallsIn.inRound l (callsIn_wide.2 (HI.out 1))) ?_
          rintro e4 w4 ⟨rfl, hb4⟩
          have hb5 := kp_trans (kp_drewN W 1) hb4
          obtain ⟨x4, z4, hl4, D3, e3, w3, hr3, x3, z3, hn3⟩ := HOB.out w4 hb5
          have HN := Lib.hid hn3
          have HR := Lib.hid hr3
          clear hn3 hb4 hb5 hr3
          refine hK _ _ ?_
          clear hK K
          refine wpAnyIn_ready (rs := [3]) (by kernel_rfl) (by simp) ?_
          refine AllReadyIn.cons rfl (fun K hK => ?_) ?_
          · skip
            go_simp
            refine hK _ _ ?_
            clear hK K
            refine wpAnyIn_ready (rs := [4]) (by kernel_rfl) (by simp) ?_
            refine AllReadyIn.cons rfl (fun K hK => ?_) ?_
            · skip
              refine stepIn_append rfl (fun _ => trivial) (.tmp 8) (.tmp 11) _ rfl _ _ rfl rfl HR.out ?_
              refine hK _ _ ?_
              clear hK K
              refine wpAnyIn_ready (rs := [5]) (by kernel_rfl) (by simp) ?_
              refine AllReadyIn.cons rfl (fun K hK => ?_) ?_
              · skip
                go_simp
                refine hK _ _ ?_
                clear hK K
                refine wpAnyIn_done (by kernel_rfl) ?_ _
                gi_wp2
                exact HN.out
              exact AllReadyIn.nil
            exact AllReadyIn.nil
          exact AllReadyIn.nil
        exact AllReadyIn.nil
      refine AllReadyIn.cons rfl (fun K hK => ?_) ?_
      · skip
        go_simp
        refine CallsIn.mono (CallsIn.inRound l (callsIn_wide.2 (HI.out 1))) ?_
        rintro e4 w4 ⟨rfl, hb4⟩
        have hb5 := kp_trans (kp_drewN W 1) hb4
        obtain ⟨x4, z4, hl4, D3, e3, w3, hr3, x3, z3, hn3⟩ := HOB.out w4 hb5
        have HN := Lib.hid hn3
        have HR := Lib.hid hr3
        clear hn3 hb4 hb5 hr3
        refine hK _ _ ?_
        clear hK K
        refine wpAnyIn_ready (rs := [0, 3]) (by kernel_rfl) (by simp) ?_
        refine AllReadyIn.cons rfl (fun K hK => ?_) ?_
        · skip
          go_simp
          refine hK _ _ ?_
          clear hK K
          refine wpAnyIn_ready (rs := [3]) (by kernel_rfl) (by simp) ?_
          refine AllReadyIn.cons rfl (fun K hK => ?_) ?_
          · skip
            go_simp
            refine hK _ _ ?_
            clear hK K
            refine wpAnyIn_ready (rs := [4]) (by kernel_rfl) (by simp) ?_
            refine AllReadyIn.cons rfl (fun K hK => ?_) ?_
            · skip
              refine stepIn_append rfl (fun _ => trivial) (.tmp 8) (.tmp 11) _ rfl _ _ rfl rfl HR.out ?_
              refine hK _ _ ?_
              clear hK K
              refine wpAnyIn_ready (rs := [5]) (by kernel_rfl) (by simp) ?_
              refine AllReadyIn.cons rfl (fun K hK => ?_) ?_
              · skip
                go_simp
                refine hK _ _ ?_
                clear hK K
                refine wpAnyIn_done (by kernel_rfl) ?_ _
                gi_wp2
                exact HN.out
              exact AllReadyIn.nil
            exact AllReadyIn.nil
          exact AllReadyIn.nil
        refine AllReadyIn.cons rfl (fun K hK => ?_) ?_
        · skip
          go_simp
          refine hK _ _ ?_
          clear hK K
          refine wpAnyIn_ready (rs := [0]) (by kernel_rfl) (by simp) ?_
          refine AllReadyIn.cons rfl (fun K hK => ?_) ?_
          · skip
            go_simp
            refine hK _ _ ?_
            clear hK K
            refine wpAnyIn_ready (rs := [4]) (by kernel_rfl) (by simp) ?_
            refine AllReadyIn.cons rfl (fun K hK => ?_) ?_
            · skip
              refine stepIn_append rfl (fun _ => trivial) (.tmp 8) (.tmp 11) _ rfl _ _ rfl rfl HR.out ?_
              refine hK _ _ ?_
              clear hK K
              refine wpAnyIn_ready (rs := [5]) (by kernel_rfl) (by simp) ?_
              refine AllReadyIn.cons rfl (fun K hK => ?_) ?_
              · skip
                go_simp
                refine hK _ _ ?_
                clear hK K
                refine wpAnyIn_done (by kernel_rfl) ?_ _
                gi_wp2
                exact HN.out
              exact AllReadyIn.nil
            exact AllReadyIn.nil
          exact AllReadyIn.nil
        exact AllReadyIn.nil
      exact AllReadyIn.nil
    exact AllReadyIn.nil
  case done =>
    rintro W ⟨D, e, h1, h2, h3, h4⟩ hd
    rw [List.take_of_length_le (by omega)] at h2
    obtain ⟨x1, z1⟩ := cellsAt h1 0 (v := .slice D n e) rfl
    have HO : Hid (∀ o, (W.putObj w2.heap.size o).ownsRow w.heap.size 61 6 (.slice D n e) n (inC (p.l.map infoH))) := Lib.hid fun o => own_keep (own_base_s h2 (by omega)) fun g hg => World.putObj_heap_other (by have := (h2.lt g hg).1; omega)
    have H3 := Lib.hid h3
    clear h1 h2 h3
    gi_wp2
    refine ⟨by simp, .inl ⟨_, _, rfl, run_takeDeferred hd, ?_⟩⟩
    exact ⟨_, results_tmp rfl _ _ _, D, n, e, rfl, HO.out _, hn6, put_below H3.out (by omega) (by omega) _⟩
  case stop =>
    intro W h
    exact h.elim
end
end

/- The project's layer 10: open: contract. -/
section
open Go.RowKit
set_option maxRecDepth 100000

/-- one behind a row of one-cell values: where it lies then -/
theorem run_append_one {P : Program} {w : World} (t ty e : TypeId) (i : TypeInfo) (z : Value) (bytes : Nat) (ht : P.underlying t = some (.slice e)) (hi : P.info? e = some i) (hz : i.zero = some z)
    (hsize : i.size = 1) (hby : i.bytes = bytes) (hzs : z.cells.size = 1) {A : Option Addr} {n c : Nat} {xs : List Value} (hown : w.ownsRow 0 e 1 (.slice A n c) n xs) (ad : Addr) (c1 : Nat) (y : Value) (hy : w.cell? ad = some y) (h1 : y.oneCell' = true) (hn : n + 1 ≤ 1000) (hbytes : bytes ≤ 1000) :
    ∃ A' c' w', (Builtin.append_ #[t, t] ty #[.slice A n c, .slice (some ad) 1 c1]).run P w = .ok (.slice A' (n + 1) c') w' ∧ w'.ownsRow 0 e 1 (.slice A' (n + 1) c') (n + 1) (xs ++ [y]) ∧ w.grownBy w' (Value.slice A n c).ownBlock ∧
      ((Value.slice A' (n + 1) c').ownBlock = (Value.slice A n c).ownBlock ∨ ∃ g, (Value.slice A' (n + 1) c').ownBlock = some g ∧ w.heap.size ≤ g) := by
  have hcell : ∀ j u, [y][j]? = some u → w.cell? (ad.add j) = some u := fun j u hu => by
    match j, hu with
    | 0, hu =>
      rw [show ad.add 0 = ad from by unfold Addr.add; split <;> simp_all, hy]
      simpa using hu
  have hrd : Rd w (ad.block + 1) (some ad) [y] := .inr ⟨ad, rfl, Nat.lt_succ_self _, hcell⟩
  have hb1 : (n + 1) * bytes ≤ 140737488355328 := by
    have : (n + 1) * bytes ≤ 1000 * 1000 := Nat.mul_le_mul hn hbytes
    omega
  have ho1 : ∀ u ∈ [y], u.oneCell' = true := by simpa using h1
  obtain ⟨v', w', hr, h2, h3⟩ := run_append_rds (P := P) (w := w) 0 t ty e i z 1 bytes ht hi hz hsize hby hzs (by omega) (.slice A n c) n xs hown (ad.block + 1) (some ad) 1 c1 [y] rfl hrd ho1 (by unfold maxLen; omega) hb1 (Nat.zero_le _)
  obtain ⟨A', c', rfl, _, _⟩ := own_form_s h2
  refine ⟨A', c', w', hr, h2, h3, ?_⟩
  rcases hown.2 with ⟨h4, h5⟩ | ⟨g, cap, cur, h4, hbg, hg, hnc, hcm, hcs, htake⟩
  · injection h4 with e1 e2 e3
    subst e1 e2 e3
    obtain ⟨v2, w2, hr2, h22, _⟩ := run_append_rds (P := P) (w := w) w.heap.size t ty e i z 1 bytes ht hi hz hsize hby hzs (by omega) (.slice none 0 0) 0 xs ⟨hown.1, .inl ⟨rfl, rfl⟩⟩ (ad.block + 1) (some ad) 1 c1 [y] rfl hrd ho1 (by unfold maxLen; omega) hb1 (Nat.le_refl _)
    rw [hr] at hr2
    injection hr2 with e1 e2
    subst e1
    cases hq : (Value.slice A' (0 + 1) c').ownBlock with
    | none => exact .inl rfl
    | some g => exact .inr ⟨g, rfl, (h22.lt g hq).1⟩
  · injection h4 with e1 _ e3
    subst e1 e3
    have hs : Src P i.size t (.slice (some ad) 1 c1) 1 [y] w := Src.ofSlice w ht ad 1 c1 _ (by simp [hsize]) hcell ho1
    have hcs' : cur.size = c := by simpa using hcs
    by_cases hroom : n + 1 ≤ c
    · have hr2 := run_append_room_src (P := P) w t t ty e i ht hi g 0 n c _ 1 [y] hs hroom (fun j hj => by
          obtain rfl : j = 0 := by simpa using hj
          rw [hsize, show 0 + n * 1 + 0 = n by omega, cell_of_row _ _ n cur e (0, 0) hg, Array.getElem?_eq_getElem (by omega)]
          rfl) (fun j hj => frozen_of_row w g _ cur e hg)
      rw [hr] at hr2
      injection hr2 with e1 _
      injection e1 with e1 _ _
      subst e1
      exact .inl rfl
    · have hxl : xs.length = n := by simpa using hown.1
      have hold : (Builtin.firstCells i.size n (.slice (some ⟨g, 0, none⟩) n c)).run P w.drew = .ok xs.toArray w.drew := run_firstCells_some _ _ _ _ _ _ _ (by rw [hxl, hsize]; omega) fun j u hu => hown.cells (g := g) rfl j u hu
      have hr2 := run_append_grow_src (P := P) w t t ty e i z ht hi hz (some ⟨g, 0, none⟩) n c xs hold _ 1 [y] hs (by omega) (by omega) (growslice_fits (by omega) (by rw [hby]; exact hb1))
      rw [hr] at hr2
      injection hr2 with e1 _
      injection e1 with e1 _ _
      subst e1
      exact .inr ⟨_, rfl, Nat.le_refl _⟩
theorem wpList_append_run {P : Program} {ops : Array Oper} {rest : List Oper} {o : Oper} {a : Act} {w : World} {Q : Exit → Act → World → Prop} (hw : Region.wanted o (yielded ops a.tmps) = true) (s x : Operand) (t : TypeId)
    (ho : o.op = .call { callee := .builtin .append, args := #[s, x], argTypes := #[t, t] }) (v y : Value) (hs : a.eval s = v) (hx : a.eval x = y) {v3 : Value} {w3 : World}
    (hrun : (Builtin.append_ #[t, t] o.type #[v, y]).run P w = .ok v3 w3) (h : wpList P ops Q rest (a.put o.dst v3) w3) : wpList P ops Q (o :: rest) a w :=
  wpList_step fun _ hK => by
    rw [if_pos hw]
    unfold Oper.wp execOp
    simp only [ho, resolve, invoke, builtin, Sem.run_bind, Sem.run_pure, Result.andThen_ok, List.map_toArray, List.map_cons, List.map_nil, hs, hx, hrun]
    exact hK _ _ h
theorem linkinfo : (Tryz.prog.info? 77).map (fun i => (i.zero, i.size, i.bytes)) = some (some (.pointer none), 1, 8) := by kernel_rfl
section
variable {b : Nat} {mo idl m : Int} {k : Nat} {p : Pl} {S : Nat → Prop} {w : World}
/-- what open leaves -/
structure Opened (b : Nat) (mo idl m : Int) (p p' : Pl) (S : Nat → Prop) (r : Lr) (w w' : World) : Prop where
  at_ : ∃ rs A n c rb SR S', PPm b mo idl m p' (rs ++ [r]) A n c rb SR S' w' ∧ (∀ k, S' k → S k ∨ w.heap.size ≤ k)
  off : Off S w w'
/-- a new link, behind all -/
theorem PPm.gave {rs : List Lr} {A A' : Option Addr} {n c c' rb : Nat} {SR : Nat → Prop} {w4 w5 : World} {x : Hd} {r : Lr} (h : PPm b mo idl m p rs A n c rb SR S w) (hx : r.h = x)
    (h4 : Below w.heap.size w w4) (hr : LK w4 r) (hrl : ∀ k, lkS r k → w.heap.size ≤ k)
    (ho : w5.ownsRow 0 77 1 (.slice A' (n + 1) c') (n + 1) (rs.map lkV ++ [lkV r])) (hg : w4.grownBy w5 (Value.slice A n c).ownBlock) (hq : (Value.slice A' (n + 1) c').ownBlock = (Value.slice A n c).ownBlock ∨ ∃ g, (Value.slice A' (n + 1) c').ownBlock = some g ∧ w4.heap.size ≤ g)
    (hfew : (p.l.length : Int) < mo) : Opened b mo idl m p { p with l := p.l ++ [x] } S r w (w5.setCell ⟨b, 0, none⟩ (.slice A' (n + 1) c')) := by
  have hlt := h.lt
  have h4z := h4.size
  have hgz := hg.size
  have hw4 : ∀ k, k < w.heap.size → w4.heap[k]? = w.heap[k]? := fun k hk => h4.block k hk
  have hrow : ∀ k, (Value.slice A n c).ownBlock = some k → S k := fun k hk => h.sl k (.inl hk)
  have hw5 : ∀ k, k < w4.heap.size → (Value.slice A n c).ownBlock ≠ some k → w5.heap[k]? = w4.heap[k]? := fun k hk hn => hg.block k hk fun e => hn e.symm
  have hset : ∀ k, k ≠ b → (w5.setCell ⟨b, 0, none⟩ (.slice A' (n + 1) c')).heap[k]? = w5.heap[k]? := fun k hk => Below.heap_setCell _ _ _ _ fun e => hk (by first | exact e | exact e.symm)
  have hsz : (w5.setCell ⟨b, 0, none⟩ (.slice A' (n + 1) c')).heap.size = w5.heap.size := by rw [size_setCell]
  have hold : ∀ k, k < w.heap.size → k ≠ b → (Value.slice A n c).ownBlock ≠ some k → (w5.setCell ⟨b, 0, none⟩ (.slice A' (n + 1) c')).heap[k]? = w.heap[k]? := fun k hk hb hn => (hset k hb).trans ((hw5 k (by omega) hn).trans (hw4 k hk))
  have hnew : ∀ k, (Value.slice A' (n + 1) c').ownBlock = some k → (Value.slice A n c).ownBlock = some k ∨ w4.heap.size ≤ k := fun k hk => by
    rcases hq with e | ⟨g, e, hge⟩
    · exact .inl (e ▸ hk)
    · rw [e] at hk
      injection hk with hk
      exact .inr (hk ▸ hge)
  have hnb : ∀ k, (Value.slice A' (n + 1) c').ownBlock = some k → k ≠ b := fun k hk e => by
    rcases hnew k hk with e2 | e2
    · exact h.al (.inl (e ▸ e2))
    · have := hlt b h.sb
      omega
  have hrlt : ∀ k, lkS r k → k < w4.heap.size := hr.lt
  have hrb : ∀ k, lkS r k → k ≠ b := fun k hk e => by have := hrl k hk; have := hlt b h.sb; omega
  have hrn : ∀ k, lkS r k → (Value.slice A n c).ownBlock ≠ some k := fun k hk e => by have := hrl k hk; have := hlt k (hrow k e); omega
  have hll : LL (w5.setCell ⟨b, 0, none⟩ (.slice A' (n + 1) c')) A' (n + 1) c' (rs ++ [r]) := by
    refine ⟨?_, fun q hq2 => ?_, ?_, fun q hq2 k hk e => ?_⟩
    · rw [List.map_append]
      exact own_keep ho fun g hg2 => hset g (hnb g hg2)
    · rcases List.mem_append.1 hq2 with hq2 | hq2
      · have hk := h.hl.lk q hq2
        exact hk.keep (fun k hk2 => hold k (hk.lt k hk2) (fun e => h.al (.inr ⟨q, hq2, e ▸ hk2⟩)) (h.hl.ap q hq2 k hk2)) (by rw [hsz]; omega)
      · obtain rfl := List.mem_singleton.1 hq2
        exact hr.keep (fun k hk2 => (hset k (hrb k hk2)).trans (hw5 k (hrlt k hk2) (hrn k hk2))) (by rw [hsz]; omega)
    · rw [List.map_append, List.pairwise_append]
      refine ⟨h.hl.nd, List.pairwise_singleton _ _, fun x hx2 y hy2 => ?_⟩
      obtain ⟨q, hq2, rfl⟩ := List.mem_map.1 hx2
      obtain rfl := List.mem_singleton.1 hy2
      have l1 := hlt _ (h.sl _ (.inr ⟨q, hq2, .inl rfl⟩))
      have l2 := hlt _ (h.sl _ (.inr ⟨q, hq2, .inr rfl⟩))
      have l3 := hrl _ (.inl rfl)
      have l4 := hrl _ (.inr rfl)
      simp only [apartK, Lr.key]
      refine ⟨?_, ?_, ?_, ?_⟩ <;> omega
    · rcases List.mem_append.1 hq2 with hq2 | hq2
      · rcases hnew k e with e2 | e2
        · exact h.hl.ap q hq2 k hk e2
        · have := (h.hl.lk q hq2).lt k hk
          omega
      · obtain rfl := List.mem_singleton.1 hq2
        rcases hnew k e with e2 | e2
        · exact hrn k hk e2
        · have := hrlt k hk
          omega
  have hb5 : w5.heap[b]? = w.heap[b]? := (hw5 b (by have := hlt b h.sb; omega) (fun e => h.al (.inl e))).trans (hw4 b (hlt b h.sb))
  refine ⟨⟨rs, A', n + 1, c', rb, SR, fun k => S k ∨ llS A' (n + 1) c' (rs ++ [r]) k, ⟨cset (hb5.trans h.top) 0 _ rfl, ?_, hll, ?_, .inl h.sb, fun k hk => .inl (h.sr k hk), fun k hk => .inr hk, fun k hk => ?_, fun k hk => ⟨(h.ar k hk).1, fun e => ?_⟩, fun e => ?_, ?_⟩, fun k hk => ?_⟩, ?_⟩
  · rw [List.map_append, h.l]
    simp [hx]
  · exact (PW rb m p.row).keep h.row (fun k hk => hold k (hlt k (h.sr k hk)) (h.ar k hk).1 fun e => (h.ar k hk).2 (.inl e)) (by rw [hsz]; omega)
  · rcases hk with hk | hk
    · have := hlt k hk
      omega
    · exact hll.lt k hk
  · rcases e with e | ⟨q, hq2, hk2⟩
    · rcases hnew k e with e2 | e2
      · exact (h.ar k hk).2 (.inl e2)
      · have := hlt k (h.sr k hk)
        omega
    · rcases List.mem_append.1 hq2 with hq2 | hq2
      · exact (h.ar k hk).2 (.inr ⟨q, hq2, hk2⟩)
      · obtain rfl := List.mem_singleton.1 hq2
        have := hrl k hk2
        have := hlt k (h.sr k hk)
        omega
  · rcases e with e | ⟨q, hq2, hk2⟩
    · exact hnb b e rfl
    · rcases List.mem_append.1 hq2 with hq2 | hq2
      · exact h.al (.inr ⟨q, hq2, hk2⟩)
      · obtain rfl := List.mem_singleton.1 hq2
        exact hrb b hk2 rfl
  · have := h.few
    simp only [List.length_append, List.length_singleton]
    omega
  · rcases hk with hk | hk | ⟨q, hq2, hk2⟩
    · exact .inl hk
    · rcases hnew k hk with e2 | e2
      · exact .inl (hrow k e2)
      · exact .inr (by omega)
    · rcases List.mem_append.1 hq2 with hq2 | hq2
      · exact .inl (h.sl k (.inr ⟨q, hq2, hk2⟩))
      · obtain rfl := List.mem_singleton.1 hq2
        exact .inr (hrl k hk2)
  · have e1 : Off S w w4 := Off.of S h4
    have e2 : Off S w4 w5 := ⟨hg.os, hg.tape, hg.output, hg.size, fun k hk hn => hw5 k hk fun e => hn (hrow k e)⟩
    exact (e1.trans e2 fun _ h => .inl h).set1 h.sb 0 _
/-- the last id is written -/
theorem PPm.last {rs : List Lr} {A : Option Addr} {n c rb : Nat} {SR : Nat → Prop} (h : PPm b mo idl m p rs A n c rb SR S w) (v : Int) : PPm b mo idl m { p with last := v } rs A n c rb SR S (w.setCell ⟨b, 1, none⟩ (.int .i64 v)) := by
  have hk : ∀ j, j ≠ b → (w.setCell ⟨b, 1, none⟩ (.int .i64 v)).heap[j]? = w.heap[j]? := fun j hj => Below.heap_setCell _ _ _ _ fun e => hj (by first | exact e.symm | exact e)
  have hz := size_setCell w ⟨b, 1, none⟩ (.int .i64 v)
  exact ⟨cset h.top 1 _ rfl, h.l, h.hl.keep (fun j hj => hk j fun e => h.al (e ▸ hj)) (by omega), (PW rb m p.row).keep h.row (fun j hj => hk j (h.ar j hj).1) (by omega), h.sb, h.sr, h.sl, fun j hj => by have := h.lt j hj; omega, h.ar, h.al, h.few⟩
set_option maxHeartbeats 4000000 in
theorem popen_ok (ep now : Int) {rs : List Lr} {A : Option Addr} {n c rb : Nat} {SR : Nat → Prop} (h : PPm b mo idl m p rs A n c rb SR S w) (hfew : (p.l.length : Int) < mo) :
    Calls Tryz.prog 81 #[.pointer (some ⟨b, 0, none⟩), .int .u64 ep, .int .u64 now] w fun e w' => ∃ r : Lr, r.h = ⟨IntKind.i64.wrap (p.last + 1), ep, .idle false 0, now⟩ ∧ e = .returned (lkV r) ∧ Opened b mo idl m p { p with l := p.l ++ [⟨IntKind.i64.wrap (p.last + 1), ep, .idle false 0, now⟩], last := IntKind.i64.wrap (p.last + 1) } S r w w' := by
  obtain ⟨i0, hi, hi0, hi1, hi2⟩ := info_parts linkinfo
  obtain ⟨⟨d0, d1, _⟩, f0, f1⟩ := ppcells h.top
  obtain ⟨v, hv⟩ : ∃ v, IntKind.i64.wrap (p.last + 1) = v := ⟨_, rfl⟩
  rw [hv]
  have HV := Lib.hid hv
  obtain ⟨hrl, hpl, hn6⟩ := h.len
  have h1 := h.last v
  obtain ⟨w1, hw1⟩ : ∃ u, w.setCell ⟨b, 1, none⟩ (.int .i64 v) = u := ⟨_, rfl⟩
  rw [hw1] at h1
  have hz1 : w1.heap.size = w.heap.size := by rw [← hw1]; exact size_setCell _ _ _
  have HO1 : Hid (Off S w w1) := Lib.hid (hw1 ▸ (Off.refl S w).set1 h.sb 1 _)
  have HW1 := Lib.hid hw1
  have H1 := Lib.hid h1
  have hbl := h1.lt b h1.sb
  obtain ⟨⟨e0, e1, _⟩, g0, g1⟩ := ppcells h1.top
  -- what a new connection leaves, in whatever world behind the count's
  have HNC : Hid (∀ u, Below w1.heap.size w1 u → Calls Tryz.prog 107 #[.int .u64 ep] u fun e u' => ∃ a : Nat, e = .returned (.pointer (some ⟨a, 0, none⟩)) ∧ Below w1.heap.size w1 u' ∧ u'.cell? ⟨b, 1, none⟩ = some (.int .i64 v) ∧
      ∀ u4, u4 = u'.alloc (.cells #[.pointer (some ⟨a, 0, none⟩), .int .i64 v, .int .u64 now] 94) → Hid (∃ A' c' w5, (Builtin.append_ #[65, 65] 65 #[.slice A n c, .slice (some ⟨u4.heap.size, 0, none⟩) 1 1]).run Tryz.prog (u4.alloc (.cells #[.pointer (some ⟨u'.heap.size, 0, none⟩)] 77)) = .ok (.slice A' (n + 1) c') w5 ∧
        w5.cell? ⟨b, 0, none⟩ = some (.slice A n c) ∧ w5.frozen? ⟨b, 0, none⟩ = false ∧ Opened b mo idl m p { p with l := p.l ++ [⟨v, ep, .idle false 0, now⟩], last := v } S ⟨u'.heap.size, a, ⟨v, ep, .idle false 0, now⟩⟩ w (w5.setCell ⟨b, 0, none⟩ (.slice A' (n + 1) c')))) := Lib.hid fun u hu => by
    refine (cnew_ok ep u).mono ?_
    rintro e u' ⟨rfl, hc, hb⟩
    have hu' := kp_trans hu hb
    have hsu := hu.size
    refine ⟨_, rfl, hu', (hu'.cell (p := ⟨b, 1, none⟩) hbl).trans e1, fun u4 hu4 => Lib.hid ?_⟩
    subst hu4
    have hal := (CC u.heap.size ep (.idle false 0)).lt hc u.heap.size rfl
    have hb4 : Below w1.heap.size w1 (u'.alloc (.cells #[.pointer (some ⟨u.heap.size, 0, none⟩), .int .i64 v, .int .u64 now] 94)) := kp_alloc hu' _
    have hb5 := kp_alloc hb4 (.cells #[.pointer (some ⟨u'.heap.size, 0, none⟩)] 77)
    have hP5 := H1.out.keep (fun j hj => hb5.block j (H1.out.lt j hj)) hb5.size
    have hlk : LK (u'.alloc (.cells #[.pointer (some ⟨u.heap.size, 0, none⟩), .int .i64 v, .int .u64 now] 94)) ⟨u'.heap.size, u.heap.size, ⟨v, ep, .idle false 0, now⟩⟩ := ⟨heap_alloc_new _ _, Thing.next hc (kp_new _ _), by show u'.heap.size ≠ u.heap.size; omega⟩
    have hlk5 := hlk.next (kp_new _ (.cells #[.pointer (some ⟨u'.heap.size, 0, none⟩)] 77))
    have hsrc : ((u'.alloc (.cells #[.pointer (some ⟨u.heap.size, 0, none⟩), .int .i64 v, .int .u64 now] 94)).alloc (.cells #[.pointer (some ⟨u'.heap.size, 0, none⟩)] 77)).cell? ⟨(u'.alloc (.cells #[.pointer (some ⟨u.heap.size, 0, none⟩), .int .i64 v, .int .u64 now] 94)).heap.size, 0, none⟩ = some (.pointer (some ⟨u'.heap.size, 0, none⟩)) := (cellsAt (heap_alloc_new _ _) 0 rfl).1
    obtain ⟨A', c', w5, hr, q2, q3, q4⟩ := run_append_one (P := Tryz.prog) 65 65 77 i0 _ 8 Tryz.underlying65 hi hi0 hi1 hi2 rfl hP5.hl.own _ 1 _ hsrc rfl (by omega) (by omega)
    have hrow : ∀ j, (Value.slice A n c).ownBlock = some j → j ≠ b ∧ j < w1.heap.size := fun j hj => ⟨fun e => H1.out.al (.inl (e ▸ hj)), H1.out.lt j (H1.out.sl j (.inl hj))⟩
    have hbb : w5.heap[b]? = w1.heap[b]? := (q3.block b (by have := hb5.size; omega) fun e => (hrow b e.symm).1 rfl).trans (hb5.block b hbl)
    obtain ⟨⟨x0, _⟩, x1, _⟩ := ppcells (hbb.trans H1.out.top)
    refine ⟨A', c', w5, hr, x0, x1, ?_⟩
    obtain ⟨⟨rs', A2, n2, c2, rb2, SR2, S2, t1, t2⟩, t3⟩ := H1.out.gave (r := ⟨u'.heap.size, u.heap.size, ⟨v, ep, .idle false 0, now⟩⟩) rfl hb5 hlk5 (fun k hk => by rcases hk with e | e <;> (simp only at e; omega)) q2 q3 q4 hfew
    exact ⟨⟨rs', A2, n2, c2, rb2, SR2, S2, t1, fun k hk => by have := t2 k hk; rwa [hz1] at this⟩, HO1.out.trans t3 fun _ h => .inl h⟩
  clear h h1 hfew hw1 hi hi0 hi1 hi2 i0
  go_enter Tryz.func81, Tryz.ntmps81
  go_wp2_with fail
  rw [HW1.out]
  clear HW1
  go_region_with (go_at_call 107; refine (HNC.out _ (kp_drewN w1 1)).mono ?_; rintro e3 w3 ⟨a, rfl, hb3, y1, hn3⟩; have HN := Lib.hid (hn3 _ rfl); have HB := Lib.hid hb3; clear hn3 hb3)
  all_goals
    obtain ⟨A', c', w5, hr5, x5, z5, hop⟩ := HN.out
    simp only [World.size_alloc] at hr5
    have y0 := (HB.out.cell (p := ⟨b, 0, none⟩) hbl).trans e0
    have hl3 : b < w3.heap.size := Nat.lt_of_lt_of_le hbl HB.out.size
    have HR := Lib.hid hr5
    have HP := Lib.hid hop
    clear hr5 hop HN HB HNC
    go_wp2_with (at_builtin; refine wpList_append_run rfl (.tmp 28) (.tmp 30) _ rfl _ _ rfl rfl HR.out ?_)
    go_ret
    exact ⟨_, rfl, rfl, HP.out⟩
end
end

/- The project's layer 10: give: contract. -/
section
open Go.RowKit
set_option maxRecDepth 100000
attribute [local go_sem] Oper.semAt_some wide_depth wide_fn

theorem give1_is {r : Lr} {W : World} (B : Nat) (ep : Int) (h : LK W r) (hB : W.heap[B]? = some (.cells #[.int .u64 ep] 22 (0, 0))) : Calls Tryz.prog 79 #[lkV r, .pointer (some ⟨B, 0, none⟩)] W fun e w' => e = .returned (.bool (r.h.idle && (r.h.ep != ep))) ∧ Below W.heap.size W w' := by
  obtain ⟨⟨c0, _, _⟩, _⟩ := h.cells
  obtain ⟨x0, _⟩ := cellsAt hB 0 (v := .int .u64 ep) rfl
  have HI : Hid (∀ q, Calls Tryz.prog 62 #[lkV r] (W.drewN q) fun e w' => e = .returned (.bool r.h.idle) ∧ w' = W.drewN q) := Lib.hid fun q => (isIdle_ok (h.next (kp_drewN W q))).mono fun _ _ ⟨h1, h2⟩ => ⟨h1, h2.symm⟩
  have HQ : Hid (∀ q, Calls Tryz.prog 59 #[.pointer (some ⟨r.a, 0, none⟩)] (W.drewN q) fun e w' => e = .returned (.int .u64 r.h.ep) ∧ w' = W.drewN q) := Lib.hid fun q => (cepoch_ok ((CC r.a r.h.ep r.h.c).next h.c (kp_drewN W q))).mono fun _ _ ⟨h1, h2⟩ => ⟨h1, h2.symm⟩
  unfold lkV at HI ⊢
  clear h hB
  generalize r.h.ep = i at *
  generalize r.l = l at *
  generalize r.a = a at *
  cases hi : r.h.idle with
  | false =>
    rw [hi] at HI
    clear hi
    go_enter Tryz.func79, Tryz.ntmps79
    go_wp2_with fail
    go_quiet (first | (go_at_call 62; exact Calls.quiet_of_same (HI.out _)))
    go_wp2_with fail
    go_ret
    exact ⟨rfl, kp_drewN _ _⟩
  | true =>
    rw [hi] at HI
    clear hi
    go_enter Tryz.func79, Tryz.ntmps79
    go_wp2_with fail
    go_quiet (first | (go_at_call 62; exact Calls.quiet_of_same (HI.out _)) | (go_at_call 59; exact Calls.quiet_of_same (HQ.out _)))
    go_wp2_with fail
    go_ret
    exact ⟨rfl, kp_drewN _ _⟩
theorem lend_busy {c : Cn} (ss : Int) (h : (c.s == 1) = false) : c.lendA ss = false ∧ c.lendC ss = c := by
  cases c with
  | idle d n => simp [Cn.s] at h
  | lent o f d n | drains o f d n | closed d n => exact ⟨rfl, rfl⟩
theorem lend_free {c : Cn} {ss : Int} (hs : 1 ≤ ss) (h : (c.s == 1) = true) : c.lendA ss = true := by
  cases c with
  | idle d n => exact decide_eq_true hs
  | lent o f d n | drains o f d n | closed d n => simp [Cn.s] at h
section
variable {b : Nat} {mo idl m : Int} {k : Nat} {p : Pl} {S : Nat → Prop} {w : World}
/-- what give has done with those of other epochs -/
theorem pcut_ok (ep : Int) (h : (PP b mo idl m p).p S w) (B : Nat) (hB : w.heap[B]? = some (.cells #[.int .u64 ep] 22 (0, 0))) (hS : ¬ S B) :
    Calls Tryz.prog 57 #[.pointer (some ⟨b, 0, none⟩), .func (.func 79) #[] #[.pointer (some ⟨B, 0, none⟩)], .func (.methodOf 77 "Drain") #[] #[]] w fun e w' => (∃ v, e = .returned v) ∧ w'.heap[B]? = some (.cells #[.int .u64 ep] 22 (0, 0)) ∧ (PP b mo idl m { p with l := sweepH (p.l.map (cut1 ep)) }).p S w' ∧ Off (fun j => S j ∨ j = B) w w' := by
  have hBl := (Array.getElem?_eq_some_iff.1 hB).1
  refine (each_ok (T := fun j => j = B) (.func 79) (.methodOf 77 "Drain") #[.pointer (some ⟨B, 0, none⟩)] #[] (fun h => h.idle && (h.ep != ep)) (fun h => h.set h.c.drainC) (fun _ s => s) (fun (_ : Unit) W => W.heap[B]? = some (.cells #[.int .u64 ep] 22 (0, 0))) ()
    h (fun j hj => hj ▸ hS) (fun j hj => hj ▸ hBl) hB ?_ ?_ ?_).mono ?_
  · intro _ W W' hz hq
    exact (hq _ rfl).trans hz
  · intro r _ W hl hz _
    exact ⟨_, _, by simp [invoke, go_sem], give1_is _ ep hl hz⟩
  · intro r _ W hl hz hTn _
    obtain ⟨f, args, h1, h2⟩ := inv_drain hl
    refine ⟨f, args, h1, h2.mono ?_⟩
    rintro e w' ⟨hv, k1, k2⟩
    exact ⟨hv, k1, (k2.block _ (Array.getElem?_eq_some_iff.1 hz).1 fun e => hTn _ e rfl).trans hz, k2.wide fun _ h => .inl h⟩
  · rintro e w' ⟨hv, hz, hp, ho⟩
    have e1 : (fun h : Hd => if (h.idle && (h.ep != ep)) = true then h.set h.c.drainC else h) = cut1 ep := by
      funext h
      simp [cut1, Hd.idle]
    rw [e1] at hp
    exact ⟨hv, hz, hp, ho⟩
/-- within give's loop: none of the first ones is idle -/
def GiveI (b : Nat) (mo idl m : Int) (p1 : Pl) (rs : List Lr) (A : Option Addr) (n c rb : Nat) (SR S : Nat → Prop) (w1 : World) (k : Nat) (W : World) : Prop :=
  PPm b mo idl m p1 rs A n c rb SR S W ∧ Off S w1 W ∧ ∀ j (hj : j < rs.length), j < k → rs[j].h.idle = false
def GiveX (b : Nat) (mo idl m ss ep now : Int) (p : Pl) (S : Nat → Prop) (w : World) (W : World) : Prop :=
  (PP b mo idl m (giveP mo ss ep now p)).p S W ∧ W.cell? ⟨w.heap.size + 2, 0, none⟩ = some (.int .i64 (giveI mo ep p).1) ∧ Off S w W
theorem giveI_eq (mo ep : Int) (p : Pl) {l1 : List Hd} (h : sweepH (p.l.map (cut1 ep)) = l1) : giveI mo ep p = if 0 ≤ firstH Hd.idle l1 then ((l1.getD (firstH Hd.idle l1).toNat default).id, true) else if mo ≤ l1.length then (0, false) else (IntKind.i64.wrap (p.last + 1), true) := by subst h; rfl
theorem giveP_eq (mo ss ep now : Int) (p : Pl) {l1 : List Hd} (h : sweepH (p.l.map (cut1 ep)) = l1) : giveP mo ss ep now p = if 0 ≤ firstH Hd.idle l1 then { p with l := turnH l1 (firstH Hd.idle l1) fun h => h.set (h.c.lendC ss) }
  else if mo ≤ l1.length then { p with l := l1 } else { p with l := l1 ++ [⟨IntKind.i64.wrap (p.last + 1), ep, (Cn.idle false 0).lendC ss, now⟩], last := IntKind.i64.wrap (p.last + 1) } := by subst h; rfl
set_option maxHeartbeats 8000000 in
theorem pgive_ok (ss ep now : Int) (hss : 1 ≤ ss) (h : (PP b mo idl m p).p S w) :
    Calls Tryz.prog 42 #[.pointer (some ⟨b, 0, none⟩), .int .i64 ss, .int .u64 ep, .int .u64 now] w fun e w' => e = .returned (.int .i64 (giveI mo ep p).1) ∧ Turn (PP b mo idl m (giveP mo ss ep now p)) S w w' := by
  have hSl := (PP b mo idl m p).lt h
  obtain ⟨w0, hw0⟩ : ∃ u, ((w.alloc (.cells #[.int .i64 ss] 3)).alloc (.cells #[.int .u64 ep] 22)).alloc (.cells #[.int .i64 0] 3) = u := ⟨_, rfl⟩
  have hk0 : Below w.heap.size w w0 := hw0 ▸ kp_alloc (kp_alloc (kp_new _ _) _) _
  have hz0 : w0.heap.size = w.heap.size + 3 := by rw [← hw0]; simp
  have hat : ∀ (u : World) (o1 o2 o3 : Obj), ((((u.alloc o1).alloc o2).alloc o3).heap[u.heap.size]? = some o1) ∧ ((((u.alloc o1).alloc o2).alloc o3).heap[u.heap.size + 1]? = some o2) ∧ ((((u.alloc o1).alloc o2).alloc o3).heap[u.heap.size + 2]? = some o3) := fun u o1 o2 o3 => by
    simp only [World.alloc, Array.getElem?_push, Array.size_push]
    refine ⟨?_, ?_, ?_⟩
    · rw [if_neg (by omega), if_neg (by omega), if_pos trivial]
    · rw [if_neg (by omega), if_pos trivial]
    · rw [if_pos trivial]
  obtain ⟨a0, a1, a2⟩ := hat w (.cells #[.int .i64 ss] 3) (.cells #[.int .u64 ep] 22) (.cells #[.int .i64 0] 3)
  rw [hw0] at a0 a1 a2
  have HC := Lib.hid (pcut_ok ep (Thing.next h hk0) (w.heap.size + 1) a1 (fun e => by have := hSl _ e; omega))
  have HW0 := Lib.hid hw0
  have HK0 := Lib.hid hk0
  have HA0 := Lib.hid a0
  have HA2 := Lib.hid a2
  have HSL := Lib.hid hSl
  clear hw0 hk0 a0 a1 a2 hat h hSl
  obtain ⟨l1, hl1⟩ : ∃ l1, sweepH (p.l.map (cut1 ep)) = l1 := ⟨_, rfl⟩
  have HGI := Lib.hid (giveI_eq mo ep p hl1)
  have HGP := Lib.hid (giveP_eq mo ss ep now p hl1)
  rw [hl1] at HC
  clear hl1
  refine (callsIn_wide (n := 3)).1 ?_
  refine callsIn_of_wp_marks Tryz.func42 rfl trivial ?_
  simp only [Tryz.ntmps42, List.size_toArray, List.length_cons, List.length_nil, Nat.reduceAdd, Nat.reduceSub, Array.replicate_succ, Array.replicate_zero, List.push_toArray, List.append_toArray, List.nil_append, List.cons_append]
  gi_wp2_with (gi_at_call 57; rw [HW0.out]; refine CallsIn.mono (callsIn_wide.2 HC.out) ?_; rintro e1 w1 ⟨⟨v1, rfl⟩, hb1, hp1, ho1⟩; have HB1 := Lib.hid hb1; have HP1 := Lib.hid hp1; have HO1 := Lib.hid ho1; clear hb1 hp1 ho1)
  obtain ⟨rs, A, n, c, rb, SR, hP⟩ := PP.at_ HP1.out
  obtain ⟨hrl, hpl, hn6⟩ := hP.len
  obtain ⟨⟨d0, _⟩, _⟩ := ppcells hP.top
  have hz1 := HO1.out.size
  have hB0 : w1.heap[w.heap.size]? = some (.cells #[.int .i64 ss] 3 (0, 0)) := (HO1.out.block _ (by omega) fun e => e.elim (fun e => by have := HSL.out _ e; omega) (fun e => by omega)).trans HA0.out
  have hB2 : w1.heap[w.heap.size + 2]? = some (.cells #[.int .i64 0] 3 (0, 0)) := (HO1.out.block _ (by omega) fun e => e.elim (fun e => by have := HSL.out _ e; omega) (fun e => by omega)).trans HA2.out
  have HOW : Hid (Off S w w1) := Lib.hid ((Off.of S HK0.out).trans HO1.out fun i hi => hi.elim .inl fun e => .inr (by omega))
  have HP := Lib.hid hP
  have HQ0 := Lib.hid hB0
  have HQ2 := Lib.hid hB2
  clear hP HP1 HO1 HA0 HA2 HC HK0 hB0 hB2
  have hpl' : l1.length = n := hpl
  have hrp : rs.length = l1.length := by omega
  refine wpIn_rangeAll (b := b) (n := n) (c := c) (A := A) (rs := rs) rfl hrl hn6 d0
    (GiveI b mo idl m { p with l := l1 } rs A n c rb SR S w1) (GiveX b mo idl m ss ep now p S w) ?stI ?stX ?hat ?h0
    (fun r => { tmps := #[.pointer (some ⟨b, 0, none⟩), .int .i64 ss, .int .u64 ep, .int .u64 now, undef, .pointer (some ⟨w.heap.size, 0, none⟩), .pointer (some ⟨w.heap.size + 1, 0, none⟩), undef, .pointer (some ⟨w.heap.size + 2, 0, none⟩), lkV r, undef, .pointer (some ⟨b, 0, none⟩), .func (.func 79) #[] #[.pointer (some ⟨w.heap.size + 1, 0, none⟩)], .func (.methodOf 77 "Drain") #[] #[], v1, .pointer (some ⟨b, 0, none⟩), .func (.func 37) #[.pointer (some ⟨b, 0, none⟩)] #[], lkV r, undef, undef, undef, undef, undef, undef, undef, undef, undef, undef, undef, undef, undef, undef, undef, undef, undef, undef, undef, undef, undef, undef, undef, undef, undef, undef, undef, undef, undef, undef, undef, undef, undef, undef], defers := [] }) ?assign ?body ?done ?stop
  case stI =>
    rintro k W W' ⟨h1, h2, h3⟩ ho
    have hzW := h2.size
    refine ⟨h1.keep (fun j hj => ho.block j (h1.lt j hj) fun e => ?_) ho.size, h2.trans ho fun i hi => .inr (by rcases hi with e | e <;> omega), h3⟩
    have := HSL.out j hj
    rcases e with e | e <;> omega
  case stX =>
    rintro W W' ⟨h1, h2, h3⟩ ho
    have hl2 : w.heap.size + 2 < W.heap.size := World.block_lt_of_cell? W _ h2
    have hlt := (PP b mo idl m (giveP mo ss ep now p)).lt h1
    have hq : ∀ j, j < W.heap.size → j < w1.heap.size → W'.heap[j]? = W.heap[j]? := fun j hj hj1 => ho.block j hj fun e => by rcases e with e | e <;> omega
    exact ⟨(PP b mo idl m (giveP mo ss ep now p)).keep h1 (fun j hj => hq j (hlt j hj) (by have := HSL.out j hj; omega)) ho.size, (World.cell?_of_block (a := ⟨w.heap.size + 2, 0, none⟩) (hq (w.heap.size + 2) hl2 (by omega))).trans h2, h3.trans ho fun i hi => .inr (by rcases hi with e | e <;> omega)⟩
  case hat =>
    rintro k hk W ⟨h1, _, _⟩
    obtain ⟨g, q1, _, _, q2, _⟩ := h1.hl.at_ hk
    exact ⟨g, q1, q2⟩
  case h0 => exact ⟨HP.out, Off.refl _ _, fun j _ h => absurd h (Nat.not_lt_zero _)⟩
  case assign =>
    intro l r W K hK
    gi_wp2
    exact hK
  case body =>
    rintro l k hk W ⟨h1, h2, h3⟩ hsz
    have hlk := h1.hl.lk _ (List.getElem_mem hk)
    obtain ⟨⟨c0, c1, _⟩, _⟩ := hlk.cells
    have hS0 : ∀ j, lkS rs[k] j → S j := fun j hj => h1.sl j (.inr ⟨_, List.getElem_mem hk, hj⟩)
    have x0 := (cellsAt ((h2.block w.heap.size (by omega) fun e => by have := HSL.out _ e; omega).trans HQ0.out) 0 (v := .int .i64 ss) rfl).1
    have hq2 := (h2.block (w.heap.size + 2) (by omega) fun e => by have := HSL.out _ e; omega).trans HQ2.out
    have hmx : Tryz.prog.follows .mixedOrders = true := by kernel_rfl
    have hlend := clend_ok ss (hlk.drew).c
    have hhh : rs[k].h = l1[k]'(by omega) := HP.out.at_ hk (by show k < l1.length; omega)
    cases hi : rs[k].h.idle with
    | false =>
      obtain ⟨hl1, hl2⟩ := lend_busy (c := rs[k].h.c) ss hi
      rw [hl1, hl2] at hlend
      have HL := Lib.hid hlend
      have HN : Hid (∀ w', Turn (CC rs[k].a rs[k].h.ep rs[k].h.c) (fun j => j = rs[k].a) W.drew w' → GiveI b mo idl m { p with l := l1 } rs A n c rb SR S w1 (k + 1) w' ∧ ∀ j, bkS w1.heap.size j → w'.heap[j]? = W.heap[j]?) := Lib.hid fun w' ht => by
        obtain ⟨t1, t2⟩ := hlk.drew.offs ht
        have ho : Off (fun j => lkS rs[k] j ∨ False) W w' := ⟨t2.os, t2.tape, t2.output, t2.size, fun j hj hn => t2.block j hj fun e => hn (.inl e)⟩
        have hT := h1.turn hk (h' := rs[k].h) t1 (T := fun _ => False) (fun _ h => h.elim) ho
        have e1 : rs.set k (rs[k].set rs[k].h) = rs := List.set_getElem_self hk
        have e2 : ({ p with l := l1 } : Pl).l.set k rs[k].h = l1 := by
          rw [hhh]
          exact List.set_getElem_self _
        rw [e1, e2] at hT
        refine ⟨⟨hT, h2.trans ho fun i hi2 => hi2.elim (fun e => .inl (hS0 i e)) (fun e => e.elim), fun j hj hjk => ?_⟩, fun j hj => ho.block j (by rcases hj with e | e <;> omega) fun e => e.elim (fun e => by have := HSL.out j (hS0 j e); rcases hj with e | e <;> omega) (fun e => e)⟩
        by_cases e : j = k
        · subst e; exact hi
        · exact h3 j hj (by omega)
      clear h1 h2 h3 hlk hS0 hlend hhh hi hl1 hl2 hq2
      unfold lkV
      generalize rs[k].l = la at *
      obtain ⟨aa, haa⟩ : ∃ a, rs[k].a = a := ⟨_, rfl⟩
      rw [haa] at c0
      have HAA := Lib.hid haa
      gi_wp2
      gi_region_with_o (gi_at_call 80; rw [← HAA.out]; refine CallsIn.mono (CallsIn.inRound l (callsIn_wide.2 HL.out)) ?_; rintro e w4 ⟨rfl, ht⟩; have HT := Lib.hid (HN.out w4 ht); clear ht)
      all_goals
        gi_wp2
        exact HT.out
    | true =>
      have hl1 := lend_free (c := rs[k].h.c) hss hi
      rw [hl1] at hlend
      have HL := Lib.hid hlend
      have hfi : firstH Hd.idle l1 = k := firstH_at (by omega) (fun j hj hjk => by
        have := h3 j (by omega) hjk
        rwa [HP.out.at_ (by omega) (show j < l1.length from hj)] at this) (by rw [← hhh]; exact hi)
      have e1 : (giveI mo ep p).1 = rs[k].h.id := by
        rw [HGI.out, hfi, if_pos (by omega), Int.toNat_natCast, List.getD_eq_getElem?_getD, List.getElem?_eq_getElem (by omega), hhh]
        rfl
      have HN : Hid (∀ w', Turn (CC rs[k].a rs[k].h.ep (rs[k].h.c.lendC ss)) (fun j => j = rs[k].a) W.drew w' → w'.cell? ⟨rs[k].l, 1, none⟩ = some (.int .i64 rs[k].h.id) ∧ w'.cell? ⟨w.heap.size + 2, 0, none⟩ = some (.int .i64 0) ∧ w'.frozen? ⟨w.heap.size + 2, 0, none⟩ = false ∧
          GiveX b mo idl m ss ep now p S w (w'.setCell ⟨w.heap.size + 2, 0, none⟩ (.int .i64 rs[k].h.id)) ∧ ∀ j, bkS w1.heap.size j → (w'.setCell ⟨w.heap.size + 2, 0, none⟩ (.int .i64 rs[k].h.id)).heap[j]? = W.heap[j]?) := Lib.hid fun w' ht => by
        obtain ⟨t1, t2⟩ := hlk.drew.offs ht
        have ho : Off (fun j => lkS rs[k] j ∨ False) W w' := ⟨t2.os, t2.tape, t2.output, t2.size, fun j hj hn => t2.block j hj fun e => hn (.inl e)⟩
        have hT := h1.turn hk (h' := rs[k].h.set (rs[k].h.c.lendC ss)) t1 (T := fun _ => False) (fun _ h => h.elim) ho
        have e2 : giveP mo ss ep now p = { p with l := l1.set k (rs[k].h.set (rs[k].h.c.lendC ss)) } := by
          rw [HGP.out, hfi, if_pos (by omega), turnH_at (by omega), hhh]
        have hz' := ho.size
        have hq3 := (ho.block (w.heap.size + 2) (by omega) fun e => e.elim (fun e => by have := HSL.out _ (hS0 _ e); omega) (fun e => e)).trans hq2
        obtain ⟨y1, y2⟩ := cellsAt hq3 0 (v := .int .i64 0) rfl
        have hset : ∀ j, j ≠ w.heap.size + 2 → (w'.setCell ⟨w.heap.size + 2, 0, none⟩ (.int .i64 rs[k].h.id)).heap[j]? = w'.heap[j]? := fun j hj => Below.heap_setCell _ _ _ _ fun e => hj (by first | exact e.symm | exact e)
        refine ⟨t1.cells.1.2.1, y1, y2, ⟨?_, ?_, ?_⟩, fun j hj => (hset j (by rcases hj with e | e <;> omega)).trans (ho.block j (by rcases hj with e | e <;> omega) fun e => e.elim (fun e => by have := HSL.out j (hS0 j e); rcases hj with e | e <;> omega) (fun e => e))⟩
        · rw [e2]
          exact ⟨_, A, n, c, rb, SR, hT.keep (fun j hj => hset j (by have := HSL.out j hj; omega)) (by rw [size_setCell]; omega)⟩
        · rw [e1]
          exact World.cell?_setCell_same _ _ _ y1
        · exact (((HOW.out.trans h2 fun _ h => .inl h).trans ho fun i hi2 => hi2.elim (fun e => .inl (hS0 i e)) (fun e => e.elim))).setCell (.inr (Nat.le_add_right _ _)) _
      clear h1 h2 h3 hlk hS0 hlend hhh hi hl1 hq2 hfi e1
      unfold lkV
      obtain ⟨la, hla⟩ : ∃ a, rs[k].l = a := ⟨_, rfl⟩
      obtain ⟨aa, haa⟩ : ∃ a, rs[k].a = a := ⟨_, rfl⟩
      obtain ⟨iv, hiv⟩ : ∃ a, rs[k].h.id = a := ⟨_, rfl⟩
      rw [haa, hla] at c0
      rw [hla] at c1 ⊢
      rw [hla, hiv] at HN
      have HAA := Lib.hid haa
      gi_wp2
      gi_region_with_o (gi_at_call 80; rw [← HAA.out]; refine CallsIn.mono (CallsIn.inRound l (callsIn_wide.2 HL.out)) ?_; rintro e w4 ⟨rfl, ht⟩; obtain ⟨z1, z2, z3, z4⟩ := HN.out w4 ht; have HT := Lib.hid z4; clear ht z4)
      all_goals
        gi_wp2
        exact HT.out
  case done =>
    rintro W ⟨h1, h2, h3⟩ hd
    have hfi : firstH Hd.idle l1 = -1 := firstH_none fun y hy => by
      obtain ⟨j, hj, rfl⟩ := List.getElem_of_mem hy
      have := h3 j (by omega) (by omega)
      rwa [HP.out.at_ (by omega) (show j < l1.length from hj)] at this
    obtain ⟨⟨e0, _, e2, _⟩, _⟩ := ppcells h1.top
    have hzW := h2.size
    have hdl := (Array.getElem?_eq_some_iff.1 hd).1
    have hq2 := (h2.block (w.heap.size + 2) (by omega) fun e => by have := HSL.out _ e; omega).trans HQ2.out
    have hq0 := (h2.block w.heap.size (by omega) fun e => by have := HSL.out _ e; omega).trans HQ0.out
    have ye := (cellsAt ((h2.block (w.heap.size + 1) (by omega) fun e => by have := HSL.out _ e; omega).trans HB1.out) 0 (v := .int .u64 ep) rfl).1
    obtain ⟨y1, y2⟩ := cellsAt hq2 0 (v := .int .i64 0) rfl
    have hmx : Tryz.prog.follows .mixedOrders = true := by kernel_rfl
    have hfew := h1.few
    have hfew1 : (l1.length : Int) ≤ mo := hfew.1
    by_cases hfull : mo = (n : Int)
    · have e1 : (giveI mo ep p).1 = 0 := by rw [HGI.out, hfi, if_neg (by omega), if_pos (by omega)]
      have e3 : giveP mo ss ep now p = { p with l := l1 } := by rw [HGP.out, hfi, if_neg (by omega), if_pos (by omega)]
      have hset : ∀ q j, j ≠ w.heap.size + 2 → ((W.drewN q).setCell ⟨w.heap.size + 2, 0, none⟩ (.int .i64 0)).heap[j]? = W.heap[j]? := fun q j hj => Below.heap_setCell _ _ _ _ fun e => hj (by first | exact e.symm | exact e)
      have HE : Hid (∀ q, ((W.drewN q).setCell ⟨w.heap.size + 2, 0, none⟩ (.int .i64 0)).heap[w1.heap.size]? = some (.deferred (some [])) ∧ ∀ o, Turn (PP b mo idl m (giveP mo ss ep now p)) S w (((W.drewN q).setCell ⟨w.heap.size + 2, 0, none⟩ (.int .i64 0)).putObj w1.heap.size o) ∧ (((W.drewN q).setCell ⟨w.heap.size + 2, 0, none⟩ (.int .i64 0)).putObj w1.heap.size o).cell? ⟨w.heap.size + 2, 0, none⟩ = some (.int .i64 (giveI mo ep p).1)) := Lib.hid fun q => ⟨(hset q _ (by omega)).trans hd, fun o => by
        have hzs : ((W.drewN q).setCell ⟨w.heap.size + 2, 0, none⟩ (.int .i64 0)).heap.size = W.heap.size := size_setCell _ _ _
        refine ⟨⟨⟨S, ?_, fun _ h => .inl h⟩, ?_⟩, ?_⟩
        · rw [e3]
          exact ⟨rs, A, n, c, rb, SR, h1.keep (fun j hj => (World.putObj_heap_other (by have := HSL.out j hj; omega)).trans (hset q j (by have := HSL.out j hj; omega))) (by rw [World.putObj_size, hzs]; exact Nat.le_refl _)⟩
        · have o1 : Off S w ((W.drewN q).setCell ⟨w.heap.size + 2, 0, none⟩ (.int .i64 0)) := ((HOW.out.trans h2 fun _ h => .inl h).trans (Off.of S (kp_drewN W q)) fun _ h => .inl h).setCell (.inr (Nat.le_add_right _ _)) _
          exact o1.trans (off_putObj (B := w1.heap.size) _ o (.inl rfl)) fun i hi => .inr (by rcases hi with e | e <;> omega)
        · rw [e1]
          exact put_cell (World.cell?_setCell_same (W.drewN q) ⟨w.heap.size + 2, 0, none⟩ (.int .i64 0) (u := .int .i64 0) y1) (by omega) o⟩
      subst hfull
      clear h1 h2 h3 hd hq2 hq0 hfi e1 e3 hset hfew hfew1
      gi_wp2
      gi_quiet (fail)
      gi_wp2
      refine ⟨by simp, .inl ⟨_, _, rfl, run_takeDeferred (HE.out nq).1, ?_⟩⟩
      obtain ⟨g1, g2⟩ := (HE.out nq).2 (.deferred none)
      refine ⟨.int .i64 (giveI n ep p).1, ?_, rfl, g1⟩
      rw [results_cell1 rfl]
      clear g1
      have g3 : (((W.drewN nq).setCell ⟨w.heap.size + 1 + 1, 0, none⟩ (.int .i64 0)).putObj w1.heap.size (.deferred none)).cell? ⟨w.heap.size + 1 + 1, 0, none⟩ = some (.int .i64 (giveI n ep p).1) := g2
      simp [loadVar, go_sem, g3]
    · obtain ⟨v, hv⟩ : ∃ v, IntKind.i64.wrap (p.last + 1) = v := ⟨_, rfl⟩
      have e1 : (giveI mo ep p).1 = v := by rw [HGI.out, hfi, if_neg (by omega), if_neg (by omega), hv]
      have e3 : giveP mo ss ep now p = { p with l := l1 ++ [⟨v, ep, (Cn.idle false 0).lendC ss, now⟩], last := v } := by rw [HGP.out, hfi, if_neg (by omega), if_neg (by omega), hv]
      have hne : ((n : Int) == mo) = false := by
        simp only [beq_eq_false_iff_ne]
        omega
      have HOP : Hid (∀ q, Calls Tryz.prog 81 #[.pointer (some ⟨b, 0, none⟩), .int .u64 ep, .int .u64 now] (W.drewN q) fun e w' => ∃ r : Lr, e = .returned (.pointer (some ⟨r.l, 0, none⟩)) ∧ w'.cell? ⟨r.l, 0, none⟩ = some (.pointer (some ⟨r.a, 0, none⟩)) ∧ w'.cell? ⟨w.heap.size, 0, none⟩ = some (.int .i64 ss) ∧
          ∀ q2, Calls Tryz.prog 80 #[.pointer (some ⟨r.a, 0, none⟩), .int .i64 ss] (w'.drewN q2) fun e w5 => (∃ v, e = .returned v) ∧ w5.cell? ⟨r.l, 1, none⟩ = some (.int .i64 v) ∧ w5.cell? ⟨w.heap.size + 2, 0, none⟩ = some (.int .i64 0) ∧ w5.frozen? ⟨w.heap.size + 2, 0, none⟩ = false ∧
            Hid ((w5.setCell ⟨w.heap.size + 2, 0, none⟩ (.int .i64 v)).heap[w1.heap.size]? = some (.deferred (some [])) ∧ ∀ o, Turn (PP b mo idl m (giveP mo ss ep now p)) S w ((w5.setCell ⟨w.heap.size + 2, 0, none⟩ (.int .i64 v)).putObj w1.heap.size o) ∧ ((w5.setCell ⟨w.heap.size + 2, 0, none⟩ (.int .i64 v)).putObj w1.heap.size o).cell? ⟨w.heap.size + 2, 0, none⟩ = some (.int .i64 (giveI mo ep p).1))) := Lib.hid fun q => by
        have hh := h1.keep (w' := W.drewN q) (fun _ _ => rfl) (Nat.le_refl _)
        refine (popen_ok ep now hh (by show (l1.length : Int) < mo; omega)).mono ?_
        rintro e w' ⟨r, hr, rfl, ⟨rs2, A2, n2, c2, rb2, SR2, S2, hP2, hS2⟩, hoff⟩
        dsimp only at hr hP2
        rw [hv] at hr hP2
        have hzw := hoff.size
        have hzq : (W.drewN q).heap.size = W.heap.size := rfl
        have hjr : rs2.length < (rs2 ++ [r]).length := by simp
        have hget : (rs2 ++ [r])[rs2.length] = r := by simp
        have hlk : LK w' r := hP2.hl.lk r (by simp)
        have hbase : ∀ j, j < W.heap.size → ¬ S j → w'.heap[j]? = W.heap[j]? := fun j hj hn => hoff.block j hj hn
        have hSb : ∀ j, w.heap.size ≤ j → ¬ S j := fun j hj e => by have := HSL.out j e; omega
        have hx0 := (hbase w.heap.size (by omega) (hSb _ (Nat.le_refl _))).trans hq0
        have hx2 := (hbase (w.heap.size + 2) (by omega) (hSb _ (by omega))).trans hq2
        have hxd := (hbase w1.heap.size hdl (hSb _ (by omega))).trans hd
        have hrS : ∀ j, lkS r j → S2 j := fun j hj => hP2.sl j (.inr ⟨r, by simp, hj⟩)
        have hrW : ∀ j, S2 j → w.heap.size ≤ j → W.heap.size ≤ j := fun j hj hj2 => (hS2 j hj).elim (fun e => absurd e (hSb j hj2)) (fun e => e)
        refine ⟨r, rfl, hlk.cells.1.1, (cellsAt hx0 0 rfl).1, fun q2 => ?_⟩
        have hlq := hlk.next (kp_drewN w' q2)
        have hcl := clend_ok ss hlq.c
        rw [hr] at hcl
        refine hcl.mono ?_
        rintro e w5 ⟨he, ht⟩
        have ht' : Turn (CC r.a r.h.ep ((Cn.idle false 0).lendC ss)) (fun j => j = r.a) (w'.drewN q2) w5 := by rw [hr]; exact ht
        obtain ⟨t1, t2⟩ := hlq.offs ht'
        have ho5 : Off (fun j => lkS r j ∨ False) w' w5 := ⟨t2.os, t2.tape, t2.output, t2.size, fun j hj hn => t2.block j hj fun e => hn (.inl e)⟩
        have hz5 := ho5.size
        have hnr : ∀ j, w.heap.size ≤ j → j < W.heap.size → ¬ lkS r j := fun j h1 h2 e => by have := hrW j (hrS j e) h1; omega
        have hb5 : ∀ j, w.heap.size ≤ j → j < W.heap.size → w5.heap[j]? = w'.heap[j]? := fun j h1 h2 => ho5.block j (by omega) fun e => e.elim (hnr j h1 h2) fun e => e
        have hy2 := (hb5 (w.heap.size + 2) (by omega) (by omega)).trans hx2
        obtain ⟨y1, y3⟩ := cellsAt hy2 0 (v := .int .i64 0) rfl
        have hT := hP2.turn (j := rs2.length) hjr (h' := r.h.set ((Cn.idle false 0).lendC ss)) (by rw [hget]; exact t1) (T := fun _ => False) (fun _ h => h.elim) (by rw [hget]; exact ho5)
        have hset : ∀ j, j ≠ w.heap.size + 2 → (w5.setCell ⟨w.heap.size + 2, 0, none⟩ (.int .i64 v)).heap[j]? = w5.heap[j]? := fun j hj => Below.heap_setCell _ _ _ _ fun e => hj (by first | exact e.symm | exact e)
        have hzs : (w5.setCell ⟨w.heap.size + 2, 0, none⟩ (.int .i64 v)).heap.size = w5.heap.size := size_setCell _ _ _
        have hid : r.h.id = v := by rw [hr]
        refine ⟨⟨_, he⟩, by rw [← hid]; exact t1.cells.1.2.1, y1, y3, Lib.hid ⟨(hset _ (by omega)).trans ((hb5 _ (by omega) hdl).trans hxd), fun o => ⟨⟨⟨S2, ?_, fun j hj => (hS2 j hj).imp (fun e => e) fun e => by omega⟩, ?_⟩, ?_⟩⟩⟩
        · have hl2 : rs2.length = l1.length := by
            have := congrArg List.length hP2.l
            simpa using this
          have e4 : ({ l := (l1 ++ [(⟨v, ep, .idle false 0, now⟩ : Hd)]).set rs2.length (r.h.set ((Cn.idle false 0).lendC ss)), row := p.row, last := v } : Pl) = giveP mo ss ep now p := by
            rw [e3, hl2, hr]
            simp [Hd.set]
          rw [← e4]
          refine ⟨_, A2, n2, c2, rb2, SR2, hT.keep (fun j hj => (World.putObj_heap_other fun e => ?_).trans (hset j fun e => ?_)) (by rw [World.putObj_size, hzs]; exact Nat.le_refl _)⟩
          · have := hrW j hj (by omega)
            omega
          · have := hrW j hj (by omega)
            omega
        · have o1 : Off S w (w5.setCell ⟨w.heap.size + 2, 0, none⟩ (.int .i64 v)) := ((((HOW.out.trans h2 fun _ h => .inl h).trans (Off.of S (kp_drewN W q)) fun _ h => .inl h).trans hoff fun _ h => .inl h).trans ho5 fun i hi => hi.elim (fun e => (hS2 i (hrS i e)).imp (fun e => e) fun e => by omega) fun e => e.elim).setCell (.inr (Nat.le_add_right _ _)) _
          exact o1.trans (off_putObj (B := w1.heap.size) _ o (.inl rfl)) fun i hi => .inr (by rcases hi with e | e <;> omega)
        · rw [e1]
          exact put_cell (World.cell?_setCell_same w5 ⟨w.heap.size + 2, 0, none⟩ (.int .i64 v) (u := .int .i64 0) y1) (by omega) o
      clear h1 h2 h3 hd hq2 hq0 hfi e1 e3 hfew hfew1 hfull hv
      gi_wp2
      gi_quiet (fail)
      gi_wp2_with (gi_at_call 81; refine CallsIn.mono (callsIn_wide.2 (HOP.out nq)) ?_; rintro e4 w4 ⟨r, rfl, z0, z1, hL⟩; have HL := Lib.hid hL; clear hL)
      first
        | (gi_region_with_o (gi_at_call 80; refine CallsIn.mono (callsIn_wide.2 (HL.out 1)) ?_; rintro e5 w5 ⟨⟨v5, rfl⟩, u0, u1, u2, hF⟩; have HF := Lib.hid hF.out; clear hF))
        | fail
      all_goals
        gi_wp2
        refine ⟨by simp, .inl ⟨_, _, rfl, run_takeDeferred HF.out.1, ?_⟩⟩
        obtain ⟨g1, g2⟩ := HF.out.2 (.deferred none)
        refine ⟨.int .i64 (giveI mo ep p).1, ?_, rfl, g1⟩
        rw [results_cell1 rfl]
        clear g1
        have g3 : ((w5.setCell ⟨w.heap.size + 1 + 1, 0, none⟩ (.int .i64 v)).putObj w1.heap.size (.deferred none)).cell? ⟨w.heap.size + 1 + 1, 0, none⟩ = some (.int .i64 (giveI mo ep p).1) := g2
        simp [loadVar, go_sem, g3]
  case stop =>
    rintro W ⟨h1, h2, h3⟩ hd
    have hl2 : w.heap.size + 2 < W.heap.size := World.block_lt_of_cell? W _ h2
    have hlt := (PP b mo idl m (giveP mo ss ep now p)).lt h1
    have hT : Turn (PP b mo idl m (giveP mo ss ep now p)) S w (W.putObj w1.heap.size (.deferred none)) := ⟨⟨S, (PP b mo idl m (giveP mo ss ep now p)).keep h1 (fun j hj => World.putObj_heap_other (by have := HSL.out j hj; omega)) (by simp), fun _ h => .inl h⟩, h3.trans (off_putObj (B := w1.heap.size) _ _ (.inl rfl)) fun i hi => .inr (by rcases hi with e | e <;> omega)⟩
    have HT := Lib.hid hT
    have hc2 := put_cell h2 (by omega : w.heap.size + 2 ≠ w1.heap.size) (.deferred none)
    clear h1 h2 h3 hlt hT
    gi_wp2
    refine ⟨by simp, .inl ⟨_, _, rfl, run_takeDeferred hd, ?_⟩⟩
    refine ⟨.int .i64 (giveI mo ep p).1, ?_, rfl, HT.out⟩
    rw [results_cell1 rfl]
    simp [loadVar, go_sem, hc2]
end
end

/- The project's layer 10: Acquire, Serve, New: contracts. -/
section
open Go.RowKit
set_option maxRecDepth 100000

section
variable {b : Nat} {mo idl m : Int} {k : Nat} {p : Pl} {S : Nat → Prop} {w : World}
theorem giveP_rowP (mo ss ep now : Int) (p : Pl) : (giveP mo ss ep now p).row = p.row := by
  unfold giveP
  dsimp only
  split
  · rfl
  split <;> rfl
theorem giveI_pos (hk : KInv mo m k p) (h1000 : k ≤ 1000) (ep : Int) : ((giveI mo ep p).2 = true → 1 ≤ (giveI mo ep p).1) ∧ ((giveI mo ep p).2 = false → (giveI mo ep p).1 = 0) := by
  rw [giveI_eq mo ep p rfl]
  have hpos : ∀ x ∈ sweepH (p.l.map (cut1 ep)), 1 ≤ x.id := fun x hx => by
    obtain ⟨y, hy, hr⟩ := (Each2.map (eased_cut1 ep) p.l).mem x ((List.mem_filter.1 hx).1)
    rw [hr.id]
    exact hk.pos y hy
  generalize sweepH (p.l.map (cut1 ep)) = l1 at *
  split
  · rename_i hi
    refine ⟨fun _ => ?_, fun e => by cases e⟩
    obtain ⟨i, hii⟩ : ∃ i : Nat, firstH Hd.idle l1 = i := ⟨(firstH Hd.idle l1).toNat, by omega⟩
    obtain ⟨hil, _⟩ := firstH_is hii
    have := hpos l1[i] (List.getElem_mem hil)
    rw [hii]
    simpa [List.getD_eq_getElem?_getD, hil] using this
  split
  · exact ⟨fun e => (by cases e), fun _ => rfl⟩
  · refine ⟨fun _ => ?_, fun e => by cases e⟩
    have := hk.ids.low
    have := hk.ids.high
    show 1 ≤ IntKind.i64.wrap (p.last + 1)
    rw [IntKind.wrap_i64]
    omega
/-- who waits, asked and put: where it lies, in whatever world behind -/
theorem PP.rowc (h : (PP b mo idl m p).p S w) : ∃ rb : Nat, ∀ u, Below w.heap.size w u → u.cell? ⟨b, 4, none⟩ = some (.pointer (some ⟨rb, 0, none⟩)) ∧
    (∀ x, Calls Tryz.prog 40 #[.pointer (some ⟨rb, 0, none⟩), .int .i64 x] u fun e w' => e = .returned (.int .i64 (atW x p.row)) ∧ Below w.heap.size w w') ∧
    (Calls Tryz.prog 39 #[.pointer (some ⟨rb, 0, none⟩)] u fun e w' => ∃ A n c, e = .returned (.slice A n c) ∧ w'.ownsRow w.heap.size 3 1 (.slice A n c) n (ivs p.row) ∧ n ≤ 12 ∧ Below w.heap.size w w') ∧
    (∀ x, Calls Tryz.prog 43 #[.pointer (some ⟨rb, 0, none⟩), .int .i64 x] u fun e w' => e = .returned (.int .i64 (putW m x p.row).1) ∧ Turn (PP b mo idl m { p with row := (putW m x p.row).2 }) S w w') ∧
    (Calls Tryz.prog 51 #[.pointer (some ⟨rb, 0, none⟩)] u fun e w' => e = .returned (takeW p.row) ∧ Turn (PP b mo idl m { p with row := p.row.tail }) S w w') := by
  obtain ⟨rb, SR, hu⟩ := PP.row h
  refine ⟨rb, fun u hb => ?_⟩
  obtain ⟨c4, hr, hn⟩ := hu u hb
  refine ⟨c4, fun x => (pat_ok x hr).mono fun e w' ⟨h1, _, h3⟩ => ⟨h1, hb.trans (h3.mono hb.size)⟩, (pall_own hr).mono fun e w' ⟨A, n, c, h1, h2, h3, h4⟩ => ⟨A, n, c, h1, own_base_s h2 hb.size, h3, hb.trans (h4.mono hb.size)⟩, fun x => (pput_ok x hr).mono fun e w' ⟨h1, h2⟩ => ⟨h1, ?_⟩, (ptake_ok hr).mono fun e w' ⟨h1, h2⟩ => ⟨h1, ?_⟩⟩
  · exact Turn.comp (S' := S) (fun k h => .inl h) (Off.of S hb) (hn _ w' h2)
  · exact Turn.comp (S' := S) (fun k h => .inl h) (Off.of S hb) (hn _ w' h2)
set_option maxHeartbeats 8000000 in
theorem pacq_ok (ss ep now : Int) (hk : KInv mo m k p) (h1000 : k ≤ 1000) (h : (PP b mo idl m p).p S w) :
    Calls Tryz.prog 15 #[.pointer (some ⟨b, 0, none⟩), .int .i64 ss, .int .u64 ep, .int .u64 now] w fun e w' => e = .returned (.tuple #[.int .i64 (acqP mo m ss ep now p).2.1, .int .i64 (acqP mo m ss ep now p).2.2]) ∧ Turn (PP b mo idl m (acqP mo m ss ep now p).1) S w w' := by
  obtain ⟨rb, hrow⟩ := PP.rowc h
  have H := Lib.hid h
  obtain ⟨P, hP⟩ : ∃ P, acqP mo m ss ep now p = P := ⟨_, rfl⟩
  rw [hP]
  by_cases hs : ss < 1
  · have hp : P = (p, 0, 1) := by rw [← hP]; exact if_pos hs
    subst hp
    clear h hrow hP
    go_enter Tryz.func15, Tryz.ntmps15
    go_wp2_with fail
    go_ret2
    exact ⟨rfl, Turn.here H.out⟩
  have hs1 : 1 ≤ ss := by omega
  obtain ⟨c4, hAt, _, _, _⟩ := hrow w (Below.refl _ _)
  have HAT := Lib.hid (hAt ss)
  by_cases hat : 0 ≤ atW ss p.row
  · have hp : P = (p, 0, 7) := by
      rw [← hP]
      unfold acqP
      rw [if_neg hs]
      split
      · rfl
      · rfl
    subst hp
    obtain ⟨v, hv⟩ : ∃ v, atW ss p.row = v := ⟨_, rfl⟩
    rw [hv] at HAT hat
    have hge : decide (v ≥ 0) = true := decide_eq_true hat
    clear h hrow hP hAt hv
    go_enter Tryz.func15, Tryz.ntmps15
    go_wp2_with fail
    refine HAT.out.mono ?_
    rintro e w1 ⟨rfl, hb⟩
    have HB := Lib.hid hb
    clear hb
    go_wp2_with fail
    go_ret2
    exact ⟨rfl, Turn.same H.out HB.out⟩
  have hge : decide (atW ss p.row ≥ 0) = false := decide_eq_false hat
  have HHAS : Hid (∀ u, Below w.heap.size w u → Calls Tryz.prog 41 #[.pointer (some ⟨b, 0, none⟩), .int .i64 ss] u fun e w' => e = .returned (.bool (hasH ss p.l)) ∧ Below w.heap.size w w') := Lib.hid fun u hb => (phas_ok ss (Thing.next h hb)).mono fun e w' ⟨h1, h2⟩ => ⟨h1, kp_trans hb h2⟩
  cases hh : hasH ss p.l with
  | true =>
    have hp : P = (p, 0, 7) := by
      rw [← hP]
      unfold acqP
      rw [if_neg hs, hh]
      rfl
    subst hp
    rw [hh] at HHAS
    obtain ⟨v, hv⟩ : ∃ v, atW ss p.row = v := ⟨_, rfl⟩
    rw [hv] at HAT hge hat
    clear h hrow hP hAt hv hh
    go_enter Tryz.func15, Tryz.ntmps15
    go_wp2_with fail
    refine HAT.out.mono ?_
    rintro e w1 ⟨rfl, hb⟩
    have HC := Lib.hid (HHAS.out w1 hb)
    clear hb
    go_wp2_with fail
    refine HC.out.mono ?_
    rintro e w2 ⟨rfl, hb⟩
    have HB := Lib.hid hb
    clear hb
    go_wp2_with fail
    go_ret2
    exact ⟨rfl, Turn.same H.out HB.out⟩
  | false =>
    rw [hh] at HHAS
    have hacq : acqP mo m ss ep now p = if p.row = [] then (if (giveI mo ep p).2 then (giveP mo ss ep now p, (giveI mo ep p).1, 0) else ((queueP m ss (giveP mo ss ep now p)).1, 0, (queueP m ss (giveP mo ss ep now p)).2)) else ((queueP m ss p).1, 0, (queueP m ss p).2) := by
      unfold acqP
      rw [if_neg hs, hh, if_neg (by simp), if_neg hat]
    rw [hP] at hacq
    have HALL : Hid (∀ u, Below w.heap.size w u → u.cell? ⟨b, 4, none⟩ = some (.pointer (some ⟨rb, 0, none⟩)) ∧ Calls Tryz.prog 39 #[.pointer (some ⟨rb, 0, none⟩)] u fun e w' => ∃ A n c, e = .returned (.slice A n c) ∧ n = p.row.length ∧ Below w.heap.size w w') := Lib.hid fun u hb => by
      obtain ⟨q1, _, q3, _, _⟩ := hrow u hb
      exact ⟨q1, q3.mono fun e w' ⟨A, n, c, h1, h2, _, h4⟩ => ⟨A, n, c, h1, by have := h2.1; rw [ivs_length] at this; omega, h4⟩⟩
    have HPUT : Hid (∀ u, Below w.heap.size w u → u.cell? ⟨b, 4, none⟩ = some (.pointer (some ⟨rb, 0, none⟩)) ∧ Calls Tryz.prog 43 #[.pointer (some ⟨rb, 0, none⟩), .int .i64 ss] u fun e w' => e = .returned (.int .i64 (putW m ss p.row).1) ∧ Turn (PP b mo idl m { p with row := (putW m ss p.row).2 }) S w w') := Lib.hid fun u hb => by
      obtain ⟨q1, _, _, q4, _⟩ := hrow u hb
      exact ⟨q1, q4 ss⟩
    have HGV : Hid (∀ u, Below w.heap.size w u → Calls Tryz.prog 42 #[.pointer (some ⟨b, 0, none⟩), .int .i64 ss, .int .u64 ep, .int .u64 now] u fun e w' => e = .returned (.int .i64 (giveI mo ep p).1) ∧ Turn (PP b mo idl m (giveP mo ss ep now p)) S w w') := Lib.hid fun u hb => (pgive_ok ss ep now hs1 (Thing.next h hb)).mono fun e w' ⟨h1, h2⟩ => ⟨h1, Turn.comp (S' := S) (fun k h => .inl h) (Off.of S hb) h2⟩
    have hgrow := giveP_rowP mo ss ep now p
    obtain ⟨gp1, gp2⟩ := giveI_pos hk h1000 ep
    obtain ⟨v, hv⟩ : ∃ v, atW ss p.row = v := ⟨_, rfl⟩
    rw [hv] at HAT hge hat
    by_cases hre : p.row = []
    · rw [if_pos hre] at hacq
      have hl0 : p.row.length = 0 := by rw [hre]; rfl
      rw [hl0] at HALL
      obtain ⟨id, is, hgi⟩ : ∃ x y, giveI mo ep p = (x, y) := ⟨_, _, rfl⟩
      rw [hgi] at hacq HGV gp1 gp2
      dsimp only at hacq HGV gp1 gp2
      have HPQ : Hid (∀ w4, Turn (PP b mo idl m (giveP mo ss ep now p)) S w w4 → ∃ rb2 : Nat, w4.cell? ⟨b, 4, none⟩ = some (.pointer (some ⟨rb2, 0, none⟩)) ∧ Calls Tryz.prog 43 #[.pointer (some ⟨rb2, 0, none⟩), .int .i64 ss] w4 fun e w' => e = .returned (.int .i64 (putW m ss p.row).1) ∧ Turn (PP b mo idl m (queueP m ss (giveP mo ss ep now p)).1) S w w') := Lib.hid fun w4 ht => by
        obtain ⟨S4, hp4, hS4⟩ := ht.at_
        obtain ⟨rb2, hr2⟩ := PP.rowc hp4
        obtain ⟨q1, _, _, q4, _⟩ := hr2 w4 (Below.refl _ _)
        have q5 := q4 ss
        rw [hgrow] at q5
        refine ⟨rb2, q1, q5.mono fun e w' ⟨h1, h2⟩ => ⟨h1, ?_⟩⟩
        have e5 : (queueP m ss (giveP mo ss ep now p)).1 = { giveP mo ss ep now p with row := (putW m ss p.row).2 } := by
          unfold queueP
          rw [hgrow]
        rw [e5]
        exact Turn.comp hS4 ht.off h2
      have hq2 : (queueP m ss (giveP mo ss ep now p)).2 = if (putW m ss p.row).1 = 0 then 13 else (putW m ss p.row).1 := by
        unfold queueP
        rw [hgrow]
      rw [hq2] at hacq
      cases is with
      | true =>
        have hidp := gp1 rfl
        have hne : (id != 0) = true := by simp; omega
        rw [if_pos rfl] at hacq
        subst hacq
        clear h hrow hP hAt hv hh gp1 gp2 HPQ HPUT hl0 hre hgi hgrow hidp hq2
        generalize giveP mo ss ep now p = p2 at *
        go_enter Tryz.func15, Tryz.ntmps15
        go_wp2_with fail
        refine HAT.out.mono ?_
        rintro e w1 ⟨rfl, hb⟩
        have HC := Lib.hid (HHAS.out w1 hb)
        clear hb
        go_wp2_with fail
        refine HC.out.mono ?_
        rintro e w2 ⟨rfl, hb⟩
        obtain ⟨d4, hall⟩ := HALL.out w2 hb
        have HA2 := Lib.hid hall
        clear hb hall
        go_wp2_with fail
        refine HA2.out.mono ?_
        rintro e w3 ⟨A, n, c, rfl, rfl, hb⟩
        have HG := Lib.hid (HGV.out w3 hb)
        clear hb
        go_wp2_with fail
        refine HG.out.mono ?_
        rintro e w4 ⟨rfl, ht⟩
        have HT := Lib.hid ht
        clear ht
        go_wp2_with fail
        go_ret2
        exact ⟨rfl, HT.out⟩
      | false =>
        have hid0 : id = 0 := gp2 rfl
        subst hid0
        rw [if_neg (by simp)] at hacq
        subst hacq
        clear h hrow hP hAt hv hh gp1 gp2 HPUT hl0 hre hgi hgrow hq2
        generalize (queueP m ss (giveP mo ss ep now p)).1 = p3 at *
        generalize giveP mo ss ep now p = p2 at *
        generalize (putW m ss p.row).1 = pc at *
        by_cases hpc : pc = 0
        · subst hpc
          rw [if_pos rfl]
          go_enter Tryz.func15, Tryz.ntmps15
          go_wp2_with fail
          refine HAT.out.mono ?_
          rintro e w1 ⟨rfl, hb⟩
          have HC := Lib.hid (HHAS.out w1 hb)
          clear hb
          go_wp2_with fail
          refine HC.out.mono ?_
          rintro e w2 ⟨rfl, hb⟩
          obtain ⟨d4, hall⟩ := HALL.out w2 hb
          have HA2 := Lib.hid hall
          clear hb hall
          go_wp2_with fail
          refine HA2.out.mono ?_
          rintro e w3 ⟨A, n, c, rfl, rfl, hb⟩
          have HG := Lib.hid (HGV.out w3 hb)
          clear hb
          go_wp2_with fail
          refine HG.out.mono ?_
          rintro e w4 ⟨rfl, ht⟩
          obtain ⟨rb2, f4, hput⟩ := HPQ.out w4 ht
          have HP4 := Lib.hid hput
          clear ht hput
          go_wp2_with fail
          refine HP4.out.mono ?_
          rintro e w5 ⟨rfl, ht⟩
          have HT := Lib.hid ht
          clear ht
          go_wp2_with fail
          go_ret2
          exact ⟨rfl, HT.out⟩
        · rw [if_neg hpc]
          have hpn : (pc != 0) = true := by simpa using hpc
          go_enter Tryz.func15, Tryz.ntmps15
          go_wp2_with fail
          refine HAT.out.mono ?_
          rintro e w1 ⟨rfl, hb⟩
          have HC := Lib.hid (HHAS.out w1 hb)
          clear hb
          go_wp2_with fail
          refine HC.out.mono ?_
          rintro e w2 ⟨rfl, hb⟩
          obtain ⟨d4, hall⟩ := HALL.out w2 hb
          have HA2 := Lib.hid hall
          clear hb hall
          go_wp2_with fail
          refine HA2.out.mono ?_
          rintro e w3 ⟨A, n, c, rfl, rfl, hb⟩
          have HG := Lib.hid (HGV.out w3 hb)
          clear hb
          go_wp2_with fail
          refine HG.out.mono ?_
          rintro e w4 ⟨rfl, ht⟩
          obtain ⟨rb2, f4, hput⟩ := HPQ.out w4 ht
          have HP4 := Lib.hid hput
          clear ht hput
          go_wp2_with fail
          refine HP4.out.mono ?_
          rintro e w5 ⟨rfl, ht⟩
          have HT := Lib.hid ht
          clear ht
          go_wp2_with fail
          go_ret2
          exact ⟨rfl, HT.out⟩
    · rw [if_neg hre] at hacq
      have hl0 : ((p.row.length : Int) == 0) = false := by
        cases hr : p.row with
        | nil => exact absurd hr hre
        | cons x r => simp; omega
      have e5 : queueP m ss p = ({ p with row := (putW m ss p.row).2 }, if (putW m ss p.row).1 = 0 then 13 else (putW m ss p.row).1) := rfl
      rw [e5] at hacq
      dsimp only at hacq
      subst hacq
      clear h hrow hP hAt hv hh gp1 gp2 HGV hre e5 hgrow
      generalize ({ p with row := (putW m ss p.row).2 } : Pl) = p3 at *
      generalize (putW m ss p.row).1 = pc at *
      generalize p.row.length = N at *
      by_cases hpc : pc = 0
      · subst hpc
        rw [if_pos rfl]
        go_enter Tryz.func15, Tryz.ntmps15
        go_wp2_with fail
        refine HAT.out.mono ?_
        rintro e w1 ⟨rfl, hb⟩
        have HC := Lib.hid (HHAS.out w1 hb)
        clear hb
        go_wp2_with fail
        refine HC.out.mono ?_
        rintro e w2 ⟨rfl, hb⟩
        obtain ⟨d4, hall⟩ := HALL.out w2 hb
        have HA2 := Lib.hid hall
        clear hb hall
        go_wp2_with fail
        refine HA2.out.mono ?_
        rintro e w3 ⟨A, n, c, rfl, rfl, hb⟩
        obtain ⟨f4, hput⟩ := HPUT.out w3 hb
        have HP4 := Lib.hid hput
        clear hb hput
        go_wp2_with fail
        refine HP4.out.mono ?_
        rintro e w5 ⟨rfl, ht⟩
        have HT := Lib.hid ht
        clear ht
        go_wp2_with fail
        go_ret2
        exact ⟨rfl, HT.out⟩
      · rw [if_neg hpc]
        have hpn : (pc != 0) = true := by simpa using hpc
        go_enter Tryz.func15, Tryz.ntmps15
        go_wp2_with fail
        refine HAT.out.mono ?_
        rintro e w1 ⟨rfl, hb⟩
        have HC := Lib.hid (HHAS.out w1 hb)
        clear hb
        go_wp2_with fail
        refine HC.out.mono ?_
        rintro e w2 ⟨rfl, hb⟩
        obtain ⟨d4, hall⟩ := HALL.out w2 hb
        have HA2 := Lib.hid hall
        clear hb hall
        go_wp2_with fail
        refine HA2.out.mono ?_
        rintro e w3 ⟨A, n, c, rfl, rfl, hb⟩
        obtain ⟨f4, hput⟩ := HPUT.out w3 hb
        have HP4 := Lib.hid hput
        clear hb hput
        go_wp2_with fail
        refine HP4.out.mono ?_
        rintro e w5 ⟨rfl, ht⟩
        have HT := Lib.hid ht
        clear ht
        go_wp2_with fail
        go_ret2
        exact ⟨rfl, HT.out⟩
end
end

/- The project's layer 10: Serve, New: contracts. -/
section
open Go.RowKit
set_option maxRecDepth 100000

section
variable {b : Nat} {mo idl m : Int} {k : Nat} {p : Pl} {S : Nat → Prop} {w : World}
set_option maxHeartbeats 8000000 in
theorem pserve_ok (ep now : Int) (hk : KInv mo m k p) (h1000 : k ≤ 1000) (h : (PP b mo idl m p).p S w) :
    Calls Tryz.prog 19 #[.pointer (some ⟨b, 0, none⟩), .int .u64 ep, .int .u64 now] w fun e w' => e = .returned (.tuple #[.int .i64 (serveP mo ep now p).2.1, .int .i64 (serveP mo ep now p).2.2.1, .bool (serveP mo ep now p).2.2.2]) ∧ Turn (PP b mo idl m (serveP mo ep now p).1) S w w' := by
  obtain ⟨rb, hrow⟩ := PP.rowc h
  have H := Lib.hid h
  have hSl := (PP b mo idl m p).lt h
  obtain ⟨P, hP⟩ : ∃ P, serveP mo ep now p = P := ⟨_, rfl⟩
  rw [hP]
  obtain ⟨c4, _, hall, _, _⟩ := hrow w (Below.refl _ _)
  have HALL := Lib.hid hall
  have hserve : serveP mo ep now p = match p.row with
    | [] => (p, 0, 0, false)
    | ss :: r => if (giveI mo ep p).2 then ({ giveP mo ss ep now p with row := r }, ss, (giveI mo ep p).1, true) else (giveP mo ss ep now p, 0, 0, false) := rfl
  rw [hP] at hserve
  cases hr : p.row with
  | nil =>
    rw [hr] at hserve HALL
    have HE : Hid (∀ A n c w', World.ownsRow w' w.heap.size 3 1 (.slice A n c) n (ivs []) → n = 0) := Lib.hid fun A n c w' h => by have := h.1; simp [ivs] at this; omega
    dsimp only at hserve
    subst hserve
    clear h hrow hP hall hr
    go_enter Tryz.func19, Tryz.ntmps19
    go_wp2_with fail
    refine HALL.out.mono ?_
    rintro e w1 ⟨A, n, c, rfl, ho, _, hb⟩
    obtain rfl := HE.out A n c w1 ho
    have HB := Lib.hid hb
    clear hb ho
    go_wp2_with fail
    go_ret3
    exact ⟨rfl, Turn.same H.out HB.out⟩
  | cons ss r =>
    rw [hr] at hserve HALL
    dsimp only at hserve
    have hss : 1 ≤ ss := hk.inv.pos ss (by rw [hr]; exact List.mem_cons_self)
    obtain ⟨gp1, gp2⟩ := giveI_pos hk h1000 ep
    have hgrow := giveP_rowP mo ss ep now p
    -- what the copy of the row holds, behind whatever leaves it alone
    have HE : Hid (∀ A n c (w1 : World), w1.ownsRow w.heap.size 3 1 (.slice A n c) n (ivs (ss :: r)) → Below w.heap.size w w1 → ∃ g : Nat, A = some ⟨g, 0, none⟩ ∧ ((n : Int) == 0) = false ∧ (0 : Int) < (n : Int) ∧ w1.cell? ⟨g, 0, none⟩ = some (.int .i64 ss) ∧
        Calls Tryz.prog 42 #[.pointer (some ⟨b, 0, none⟩), .int .i64 ss, .int .u64 ep, .int .u64 now] w1 fun e w2 => e = .returned (.int .i64 (giveI mo ep p).1) ∧ Turn (PP b mo idl m (giveP mo ss ep now p)) S w w2 ∧ w2.cell? ⟨g, 0, none⟩ = some (.int .i64 ss) ∧
          ∃ rb2 : Nat, w2.cell? ⟨b, 4, none⟩ = some (.pointer (some ⟨rb2, 0, none⟩)) ∧ Calls Tryz.prog 51 #[.pointer (some ⟨rb2, 0, none⟩)] w2 fun e w3 => (∃ v, e = .returned v) ∧ Turn (PP b mo idl m { giveP mo ss ep now p with row := r }) S w w3 ∧ w3.cell? ⟨g, 0, none⟩ = some (.int .i64 ss)) := Lib.hid fun A n c w1 ho hb => by
      have hlen := ho.1
      rw [ivs_length] at hlen
      simp only [List.length_cons, Nat.mul_one] at hlen
      obtain ⟨g, hA, hc, _, hgl, _⟩ := ivs_cell ho (i := 0) (by simp)
      have hgw : w.heap.size ≤ g := (ho.lt g (by rw [hA]; rfl)).1
      have hc' : w1.cell? ⟨g, 0, none⟩ = some (.int .i64 ss) := hc
      refine ⟨g, hA, by simp only [beq_eq_false_iff_ne]; omega, by omega, hc', ?_⟩
      refine (pgive_ok ss ep now hss (Thing.next H.out hb)).mono ?_
      rintro e w2 ⟨he, ht⟩
      have hgS : ¬ S g := fun e => by have := hSl g e; omega
      have hc2 : w2.cell? ⟨g, 0, none⟩ = some (.int .i64 ss) := (World.cell?_of_block (a := ⟨g, 0, none⟩) (ht.off.block g hgl hgS)).trans hc'
      have hcomp : Turn (PP b mo idl m (giveP mo ss ep now p)) S w w2 := Turn.comp (S' := S) (fun k h => .inl h) (Off.of S hb) ht
      refine ⟨he, hcomp, hc2, ?_⟩
      obtain ⟨S4, hp4, hS4⟩ := ht.at_
      obtain ⟨rb2, hr2⟩ := PP.rowc hp4
      obtain ⟨q1, _, _, _, q5⟩ := hr2 w2 (Below.refl _ _)
      refine ⟨rb2, q1, q5.mono ?_⟩
      rintro e3 w3 ⟨he3, ht3⟩
      have hz2 := ht.off.size
      have hg4 : ¬ S4 g := fun e => (hS4 g e).elim hgS fun e => by omega
      refine ⟨⟨_, he3⟩, ?_, (World.cell?_of_block (a := ⟨g, 0, none⟩) (ht3.off.block g (by omega) hg4)).trans hc2⟩
      have e5 : ({ giveP mo ss ep now p with row := (giveP mo ss ep now p).row.tail } : Pl) = { giveP mo ss ep now p with row := r } := by rw [hgrow, hr]; rfl
      rw [e5] at ht3
      exact Turn.comp (S' := S) (fun k h => .inl h) (Off.of S hb) (Turn.comp hS4 ht.off ht3)
    obtain ⟨id, is, hgi⟩ : ∃ x y, giveI mo ep p = (x, y) := ⟨_, _, rfl⟩
    rw [hgi] at hserve HE gp1 gp2
    dsimp only at hserve HE gp1 gp2
    cases is with
    | true =>
      have hidp := gp1 rfl
      have hne : (id == 0) = false := by simp; omega
      rw [if_pos rfl] at hserve
      subst hserve
      clear h hrow hP hall hr gp1 gp2 hidp hgi hgrow
      generalize giveP mo ss ep now p = p2 at *
      go_enter Tryz.func19, Tryz.ntmps19
      go_wp2_with fail
      refine HALL.out.mono ?_
      rintro e w1 ⟨A, n, c, rfl, ho, _, hb⟩
      obtain ⟨g, rfl, l1, l2, x1, hg⟩ := HE.out A n c w1 ho hb
      have HG := Lib.hid hg
      clear hb ho hg HE HALL
      go_wp2_with fail
      refine HG.out.mono ?_
      rintro e w2 ⟨rfl, _, x2, rb2, f4, hT⟩
      have HTK := Lib.hid hT
      clear hT HG
      go_wp2_with fail
      refine HTK.out.mono ?_
      rintro e w3 ⟨⟨v3, rfl⟩, ht, x3⟩
      have HT := Lib.hid ht
      clear ht HTK
      go_wp2_with fail
      go_ret3
      exact ⟨rfl, HT.out⟩
    | false =>
      have hid0 : id = 0 := gp2 rfl
      subst hid0
      rw [if_neg (by simp)] at hserve
      subst hserve
      clear h hrow hP hall hr gp1 gp2 hgi hgrow
      generalize giveP mo ss ep now p = p2 at *
      go_enter Tryz.func19, Tryz.ntmps19
      go_wp2_with fail
      refine HALL.out.mono ?_
      rintro e w1 ⟨A, n, c, rfl, ho, _, hb⟩
      obtain ⟨g, rfl, l1, l2, x1, hg⟩ := HE.out A n c w1 ho hb
      have HG := Lib.hid hg
      clear hb ho hg HE HALL
      go_wp2_with fail
      refine HG.out.mono ?_
      rintro e w2 ⟨rfl, ht, x2, _⟩
      have HT := Lib.hid ht
      clear ht HG
      go_wp2_with fail
      go_ret3
      exact ⟨rfl, HT.out⟩
end
theorem ppnew_bad (mo m idl : Int) (w : World) (hb : ¬ (1 ≤ mo ∧ mo ≤ 6 ∧ 0 ≤ m ∧ m ≤ 12 ∧ idl ≠ 0)) :
    Calls Tryz.prog 5 #[.int .i64 mo, .int .i64 m, .int .u64 idl] w fun e w' => e = .returned (.tuple #[.pointer none, .int .i64 1]) ∧ w = w' := by
  by_cases h1 : mo < 1
  · clear hb
    go_enter Tryz.func5, Tryz.ntmps5
    go_wp2_with fail
    go_ret2
    exact ⟨rfl, rfl⟩
  have d1 : decide (mo < 1) = false := decide_eq_false h1
  by_cases h2 : 6 < mo
  · have d2 : decide (6 < mo) = true := decide_eq_true h2
    clear hb
    go_enter Tryz.func5, Tryz.ntmps5
    go_wp2_with fail
    go_ret2
    exact ⟨rfl, rfl⟩
  have d2 : decide (6 < mo) = false := decide_eq_false h2
  by_cases h3 : idl = 0
  · have d3 : (idl == 0) = true := by simpa using h3
    subst h3
    clear hb
    go_enter Tryz.func5, Tryz.ntmps5
    go_wp2_with fail
    go_ret2
    exact ⟨rfl, rfl⟩
  have d3 : (idl == 0) = false := by simpa using h3
  have HN := Lib.hid (pnew_bad m (by omega) w)
  clear hb h1 h2 h3
  go_enter Tryz.func5, Tryz.ntmps5
  go_wp2_with fail
  refine HN.out.mono ?_
  rintro e w1 ⟨rfl, rfl⟩
  go_wp2_with fail
  go_ret2
  exact ⟨rfl, rfl⟩
theorem ppnew_good (mo m idl : Int) (w : World) (h1 : 1 ≤ mo) (h2 : mo ≤ 6) (h3 : 0 ≤ m) (h4 : m ≤ 12) (h5 : idl ≠ 0) :
    Calls Tryz.prog 5 #[.int .i64 mo, .int .i64 m, .int .u64 idl] w fun e w' => ∃ b S, e = .returned (.tuple #[.pointer (some ⟨b, 0, none⟩), .int .i64 0]) ∧ (PP b mo idl m ⟨[], [], 0⟩).p S w' ∧ (∀ k, S k → w.heap.size ≤ k) ∧ Below w.heap.size w w' := by
  have d1 : decide (mo < 1) = false := decide_eq_false (by omega)
  have d2 : decide (6 < mo) = false := decide_eq_false (by omega)
  have d3 : (idl == 0) = false := by simpa using h5
  have HN := Lib.hid (pnew_good m h3 h4 w)
  have HF : Hid (∀ w1, (PW w.heap.size m []).p (fun k => k = w.heap.size) w1 → Below w.heap.size w w1 → (PP w1.heap.size mo idl m ⟨[], [], 0⟩).p (fun k => k = w.heap.size ∨ k = w1.heap.size) (w1.alloc (.cells #[.slice none 0 0, .int .i64 0, .int .i64 mo, .int .u64 idl, .pointer (some ⟨w.heap.size, 0, none⟩)] 67)) ∧ (∀ k, k = w.heap.size ∨ k = w1.heap.size → w.heap.size ≤ k)) := Lib.hid fun w1 hp hb => by
    have hl := (PW w.heap.size m []).lt hp w.heap.size rfl
    refine ⟨⟨[], none, 0, 0, w.heap.size, fun k => k = w.heap.size, heap_alloc_new _ _, rfl, LL.nil _, Thing.next hp (kp_new _ _), .inr rfl, fun k hk => .inl hk, fun k hk => ?_, fun k hk => ?_, fun k hk => ⟨by omega, fun e => ?_⟩, fun e => ?_, ⟨by simp; omega, h2⟩⟩, fun k hk => by have := hb.size; omega⟩
    · rcases hk with hk | ⟨r, hr, _⟩
      · cases hk
      · cases hr
    · rcases hk with rfl | rfl
      · simp; omega
      · simp
    · rcases e with e | ⟨r, hr, _⟩
      · cases e
      · cases hr
    · rcases e with e | ⟨r, hr, _⟩
      · cases e
      · cases hr
  clear h3 h4 h5
  go_enter Tryz.func5, Tryz.ntmps5
  go_wp2_with fail
  refine HN.out.mono ?_
  rintro e w1 ⟨rfl, hp, hb⟩
  obtain ⟨f1, f2⟩ := HF.out w1 hp hb
  have H1 := Lib.hid f1
  have H2 := Lib.hid f2
  have HB := Lib.hid (kp_alloc hb (.cells #[.slice none 0 0, .int .i64 0, .int .i64 mo, .int .u64 idl, .pointer (some ⟨w.heap.size, 0, none⟩)] 67))
  clear hp hb f1 f2 HN HF
  go_wp2_with fail
  go_ret2
  exact ⟨_, _, rfl, H1.out, H2.out, HB.out⟩
end

/- What an act on a pool answers, as a value (no function of the program is named here). -/
section
open Go.RowKit

def told6V (r : Told6) : Value := .agg #[.int .i64 r.a, .int .i64 r.b, .int .u64 r.n, .bool r.i, .int .i64 r.e]
end
end Go.Proofs.YtkbaljdpnopbmaaGreat
