/-
  Contracts and plain functions that the law stands on, part 3 of 5.
-/
import Derived.Test.YtkbaljdpnopbmaaQF2
import Derived.Laws.StructEq
import Derived.Deep.RegionWith
namespace Go.Proofs.Ytkbaljdpnopbmaa
/- What is done with the connection of an id (done): contracts, one for each type of answer. -/
section
open Go.RowKit
set_option maxRecDepth 100000
attribute [local go_sem] Oper.semAt_some wide_depth wide_fn

section
variable {b : Nat} {mo idl m : Int} {p : Pl} {S T0 : Nat → Prop} {w W : World}
theorem dnis_B (r : Lr) (B : Nat) (id : Int) (h : LK W r) (hB : W.heap[B]? = some (.cells #[.int .i64 id] 3 (0, 0))) : Calls Try.prog 62 #[lkV r, .pointer (some ⟨B, 0, none⟩)] W fun e w' => e = .returned (.bool (r.h.id == id)) ∧ Below W.heap.size W w' := by
  obtain ⟨⟨_, c1, _⟩, _⟩ := h.cells
  obtain ⟨x0, _⟩ := cellsAt hB 0 (v := .int .i64 id) rfl
  unfold lkV
  clear h hB
  generalize r.h.id = i at *
  generalize r.l = l at *
  go_enter Try.func62, Try.ntmps62
  go_wp2_with fail
  go_quiet (fail)
  go_wp2_with fail
  go_ret
  exact ⟨rfl, kp_drewN _ _⟩
theorem dndo_B (r : Lr) (B B2 : Nat) (fd : Fn) (cd : Array Value) (x0 y : Bool) {f : FuncId} {args : Array Value} {R : World → Prop} (hB : W.heap[B]? = some (.cells #[.func fd #[] cd] 73 (0, 0)))
    (hi : (invoke (.fn fd cd) #[lkV r]).run Try.prog W = .ok (.enter f args) W) (hc : Calls Try.prog f args W fun e w' => e = .returned (.bool y) ∧ w'.heap[B2]? = some (.cells #[.bool x0] 4 (0, 0)) ∧ R w') :
    Calls Try.prog 63 #[lkV r, .pointer (some ⟨B, 0, none⟩), .pointer (some ⟨B2, 0, none⟩)] W fun e w' => (∃ v, e = .returned v) ∧ ∃ w1, R w1 ∧ w1.heap[B2]? = some (.cells #[.bool x0] 4 (0, 0)) ∧ w' = w1.setCell ⟨B2, 0, none⟩ (.bool y) := by
  obtain ⟨q0, _⟩ := cellsAt hB 0 (v := .func fd #[] cd) rfl
  have HC := Lib.hid hc
  have hFn : ∀ f, Fence.wide.fn f := fun _ => trivial
  have hDp : Fence.wide.depth = none := rfl
  clear hB hc
  generalize lkV r = la at *
  refine (callsIn_wide (n := 3)).1 ?_
  refine callsIn_of_wp Try.func63 rfl trivial ?_ rfl
  simp only [Try.ntmps63, List.size_toArray, List.length_cons, List.length_nil, Nat.reduceAdd, Nat.reduceSub, Array.replicate_succ, Array.replicate_zero, List.push_toArray, List.append_toArray, List.nil_append, List.cons_append]
  gi_wp2_with (with_reducible refine wpListIn_callv hFn hDp rfl rfl rfl rfl ?_ ?_ hi (callsIn_wide.2 HC.out) (fun e w3 he => ?_); rotate_left 2; obtain ⟨rfl, hb, hr⟩ := he; refine ⟨_, rfl, ?_⟩; obtain ⟨z0, z1⟩ := cellsAt hb 0 (v := .bool x0) rfl; have HR := Lib.hid hr; have HB2 := Lib.hid hb; clear hb hr)
  go_end0
  exact ⟨⟨_, rfl⟩, _, HR.out, HB2.out, rfl⟩

set_option maxHeartbeats 4000000 in
theorem done_B (id : Int) (none_ : Bool) (fd : Fn) (cd : Array Value) (Z0 : World → Prop) (ans : Hd → Bool) (pdo : Hd → Hd)
    (h : (PP b mo idl m p).p S w) (hT : ∀ k, T0 k → ¬ S k) (hTl : ∀ k, T0 k → k < w.heap.size) (hz0 : Z0 w) (hZ : ∀ W W', Z0 W → (∀ k, T0 k → W'.heap[k]? = W.heap[k]?) → Z0 W')
    (hdo : ∀ r W, LK W r → Z0 W → ∃ f args, (invoke (.fn fd cd) #[lkV r]).run Try.prog W = .ok (.enter f args) W ∧ Calls Try.prog f args W fun e w' => e = .returned (.bool (ans r.h)) ∧ LK w' (r.set (pdo r.h)) ∧ Off (lkS r) W w')
    (hid : p.l.Pairwise fun a b => a.id ≠ b.id) :
    Calls Try.prog 34 #[.pointer (some ⟨b, 0, none⟩), .int .i64 id, .func fd #[] cd, .bool none_] w fun e w' => e = .returned (.bool (if findH id p.l < 0 then none_ else ans (theH id p))) ∧ (PP b mo idl m (sweepP (if findH id p.l < 0 then p else onH id pdo p))).p S w' ∧ Off (fun k => S k ∨ T0 k) w w' := by
  have HF : Hid (p.l.foldl (fun s h => if (h.id == id) = true then ans h else s) none_ = if findH id p.l < 0 then none_ else ans (theH id p)) := Lib.hid (fold_id ans none_ p.l hid)
  have HM : Hid (({ p with l := sweepH (p.l.map fun h => if (h.id == id) = true then pdo h else h) } : Pl) = sweepP (if findH id p.l < 0 then p else onH id pdo p)) := Lib.hid (map_id pdo p hid)
  have HR : Hid (∀ v, v = (if findH id p.l < 0 then none_ else ans (theH id p)) → (.bool v : Value) = .bool (if findH id p.l < 0 then none_ else ans (theH id p))) := Lib.hid fun v e => by rw [e]
  rw [← HM.out]
  clear HM
  obtain ⟨res, hres⟩ : ∃ v : Value, .bool (if findH id p.l < 0 then none_ else ans (theH id p)) = v := ⟨_, rfl⟩
  rw [hres] at HR ⊢
  clear hres
  have HS : Hid (∀ o1 o2 o3 (wz : World), wz.heap.size = w.heap.size + 3 → wz.heap[w.heap.size]? = some o1 → wz.heap[w.heap.size + 1]? = some o2 → wz.heap[w.heap.size + 2]? = some o3 → Below w.heap.size w wz → o1 = .cells #[.int .i64 id] 3 (0, 0) → o2 = .cells #[.func fd #[] cd] 73 (0, 0) → o3 = .cells #[.bool none_] 4 (0, 0) →
      Calls Try.prog 30 #[.pointer (some ⟨b, 0, none⟩), .func (.func 62) #[] #[.pointer (some ⟨w.heap.size, 0, none⟩)], .func (.func 63) #[] #[.pointer (some ⟨w.heap.size + 1, 0, none⟩), .pointer (some ⟨w.heap.size + 2, 0, none⟩)]] wz fun e w' => (∃ v, e = .returned v) ∧
        (∃ v, w'.cell? ⟨w.heap.size + 2, 0, none⟩ = some (.bool v) ∧ v = p.l.foldl (fun s h => if (h.id == id) = true then ans h else s) none_) ∧ (PP b mo idl m { p with l := sweepH (p.l.map fun h => if (h.id == id) = true then pdo h else h) }).p S w' ∧ Off (fun k => S k ∨ T0 k) w w') := Lib.hid fun o1 o2 o3 wz hsz h1 h2 h3 hk e1 e2 e3 => by
    subst e1 e2 e3
    have hSl := (PP b mo idl m p).lt h
    refine (each_ok (T := fun k => (k = w.heap.size ∨ k = w.heap.size + 1 ∨ k = w.heap.size + 2) ∨ T0 k) (.func 62) (.func 63) #[.pointer (some ⟨w.heap.size, 0, none⟩)] #[.pointer (some ⟨w.heap.size + 1, 0, none⟩), .pointer (some ⟨w.heap.size + 2, 0, none⟩)] (fun h => h.id == id) pdo (fun h _ => ans h)
      (fun (v : Bool) W => W.heap[w.heap.size]? = some (.cells #[.int .i64 id] 3 (0, 0)) ∧ W.heap[w.heap.size + 1]? = some (.cells #[.func fd #[] cd] 73 (0, 0)) ∧ W.heap[w.heap.size + 2]? = some (.cells #[.bool v] 4 (0, 0)) ∧ Z0 W) none_
      (Thing.next h hk) ?_ ?_ ⟨h1, h2, h3, hZ _ _ hz0 fun k hk2 => hk.block k (hTl k hk2)⟩ ?_ ?_ ?_).mono ?_
    · rintro k (hk2 | hk2) hs
      · have := hSl k hs
        omega
      · exact hT k hk2 hs
    · rintro k (hk2 | hk2)
      · omega
      · have := hTl k hk2
        omega
    · rintro v W1 W2 ⟨q1, q2, q3, q4⟩ hq
      exact ⟨(hq _ (.inl (.inl rfl))).trans q1, (hq _ (.inl (.inr (.inl rfl)))).trans q2, (hq _ (.inl (.inr (.inr rfl)))).trans q3, hZ _ _ q4 fun k hk2 => hq k (.inr hk2)⟩
    · rintro r v W1 hl ⟨q1, _, _, _⟩ _
      exact ⟨62, #[lkV r, .pointer (some ⟨w.heap.size, 0, none⟩)], by simp [invoke, go_sem], dnis_B r _ id hl q1⟩
    · rintro r v W1 hl ⟨q1, q2, q3, q4⟩ hTn _
      obtain ⟨f, args, hi, hc⟩ := hdo r W1 hl q4
      refine ⟨63, #[lkV r, .pointer (some ⟨w.heap.size + 1, 0, none⟩), .pointer (some ⟨w.heap.size + 2, 0, none⟩)], by simp [invoke, go_sem], (dndo_B (R := fun w' => LK w' (r.set (pdo r.h)) ∧ Off (lkS r) W1 w') r _ (w.heap.size + 2) fd cd v (ans r.h) q2 hi (hc.mono ?_)).mono ?_⟩
      · rintro e w' ⟨rfl, k1, k2⟩
        exact ⟨rfl, (k2.block _ ((Array.getElem?_eq_some_iff.1 q3).1) fun e => hTn _ e (.inl (.inr (.inr rfl)))).trans q3, k1, k2⟩
      · rintro e w' ⟨hv, w1, ⟨k1, k2⟩, k3, rfl⟩
        have hne : ∀ k, k ≠ w.heap.size + 2 → (w1.setCell ⟨w.heap.size + 2, 0, none⟩ (.bool (ans r.h))).heap[k]? = w1.heap[k]? := fun k hk2 => Below.heap_setCell _ _ _ _ fun e => hk2 (by first | exact e.symm | exact e)
        have hlt : ∀ k, ((k = w.heap.size ∨ k = w.heap.size + 1 ∨ k = w.heap.size + 2) ∨ T0 k) → k ≠ w.heap.size + 2 → k < W1.heap.size := by
          have l1 := (Array.getElem?_eq_some_iff.1 q1).1
          have l2 := (Array.getElem?_eq_some_iff.1 q2).1
          rintro k (hk2 | hk2) hk3
          · omega
          · have := hTl k hk2
            omega
        have hoff : ∀ k, ((k = w.heap.size ∨ k = w.heap.size + 1 ∨ k = w.heap.size + 2) ∨ T0 k) → k ≠ w.heap.size + 2 → (w1.setCell ⟨w.heap.size + 2, 0, none⟩ (.bool (ans r.h))).heap[k]? = W1.heap[k]? := fun k hk2 hk3 => (hne k hk3).trans (k2.block k (hlt k hk2 hk3) fun e => hTn k e hk2)
        refine ⟨hv, k1.keep (fun k hk2 => hne k fun e => hTn k hk2 (.inl (.inr (.inr e)))) (by simp [World.setCell]), ⟨(hoff _ (.inl (.inl rfl)) (by omega)).trans q1, (hoff _ (.inl (.inr (.inl rfl))) (by omega)).trans q2, cset k3 0 _ rfl, hZ _ _ q4 fun k hk2 => hoff k (.inr hk2) (by have := hTl k hk2; omega)⟩, (k2.wide fun k hk2 => .inl hk2).setCell (p := ⟨w.heap.size + 2, 0, none⟩) (.inl (.inr (.inl (.inr (.inr rfl))))) _⟩
    · rintro e w' ⟨hv, ⟨_, _, q3, _⟩, hp, ho⟩
      have hsub : ∀ i, (S i ∨ ((i = w.heap.size ∨ i = w.heap.size + 1 ∨ i = w.heap.size + 2) ∨ T0 i)) → (S i ∨ T0 i) ∨ w.heap.size ≤ i := by
        rintro i (e | (e | e))
        · exact .inl (.inl e)
        · exact .inr (by omega)
        · exact .inl (.inr e)
      exact ⟨hv, ⟨_, (cellsAt q3 0 rfl).1, rfl⟩, hp, (Off.of (fun k => S k ∨ T0 k) hk).trans ho hsub⟩
  clear h hT hTl hz0 hZ hdo hid
  obtain ⟨wz, hwz⟩ : ∃ u, ((w.alloc (.cells #[.int .i64 id] 3)).alloc (.cells #[.func fd #[] cd] 73)).alloc (.cells #[.bool none_] 4 (0, 0)) = u := ⟨_, rfl⟩
  have HC := Lib.hid (HS.out _ _ _ wz (by rw [← hwz]; simp) (by rw [← hwz]; exact (Below.heap_alloc _ _ _ (by simp; omega)).trans ((Below.heap_alloc _ _ _ (by simp)).trans (heap_alloc_new w _))) (by
      rw [← hwz]
      have := heap_alloc_new (w.alloc (.cells #[.int .i64 id] 3)) (.cells #[.func fd #[] cd] 73)
      rw [World.size_alloc] at this
      exact (Below.heap_alloc _ _ _ (by simp)).trans this) (by
      rw [← hwz]
      have := heap_alloc_new ((w.alloc (.cells #[.int .i64 id] 3)).alloc (.cells #[.func fd #[] cd] 73)) (.cells #[.bool none_] 4 (0, 0))
      rw [World.size_alloc, World.size_alloc] at this
      exact this) (hwz ▸ kp_alloc (kp_alloc (kp_new _ _) _) _) rfl rfl rfl)
  have HWZ := Lib.hid hwz
  clear hwz HS
  go_enter Try.func34, Try.ntmps34
  go_wp2_with fail
  rw [HWZ.out]
  refine HC.out.mono ?_
  rintro e w4 ⟨⟨v0, rfl⟩, ⟨v, hv, hf⟩, hp, ho⟩
  have HQ := Lib.hid (And.intro hp ho)
  have hr := HR.out v (hf.trans HF.out)
  rw [hr] at hv
  clear hf hp ho hr HC HR HF
  go_wp2_with fail
  go_ret
  exact ⟨rfl, HQ.out⟩
end

section
variable {b : Nat} {mo idl m : Int} {p : Pl} {S T0 : Nat → Prop} {w W : World}
theorem dnis_E (r : Lr) (B : Nat) (id : Int) (h : LK W r) (hB : W.heap[B]? = some (.cells #[.int .i64 id] 3 (0, 0))) : Calls Try.prog 69 #[lkV r, .pointer (some ⟨B, 0, none⟩)] W fun e w' => e = .returned (.bool (r.h.id == id)) ∧ Below W.heap.size W w' := by
  obtain ⟨⟨_, c1, _⟩, _⟩ := h.cells
  obtain ⟨x0, _⟩ := cellsAt hB 0 (v := .int .i64 id) rfl
  unfold lkV
  clear h hB
  generalize r.h.id = i at *
  generalize r.l = l at *
  go_enter Try.func69, Try.ntmps69
  go_wp2_with fail
  go_quiet (fail)
  go_wp2_with fail
  go_ret
  exact ⟨rfl, kp_drewN _ _⟩
theorem dndo_E (r : Lr) (B B2 : Nat) (fd : Fn) (cd : Array Value) (x0 y : Int) {f : FuncId} {args : Array Value} {R : World → Prop} (hB : W.heap[B]? = some (.cells #[.func fd #[] cd] 84 (0, 0)))
    (hi : (invoke (.fn fd cd) #[lkV r]).run Try.prog W = .ok (.enter f args) W) (hc : Calls Try.prog f args W fun e w' => e = .returned (.int .i64 y) ∧ w'.heap[B2]? = some (.cells #[.int .i64 x0] 26 (0, 0)) ∧ R w') :
    Calls Try.prog 70 #[lkV r, .pointer (some ⟨B, 0, none⟩), .pointer (some ⟨B2, 0, none⟩)] W fun e w' => (∃ v, e = .returned v) ∧ ∃ w1, R w1 ∧ w1.heap[B2]? = some (.cells #[.int .i64 x0] 26 (0, 0)) ∧ w' = w1.setCell ⟨B2, 0, none⟩ (.int .i64 y) := by
  obtain ⟨q0, _⟩ := cellsAt hB 0 (v := .func fd #[] cd) rfl
  have HC := Lib.hid hc
  have hFn : ∀ f, Fence.wide.fn f := fun _ => trivial
  have hDp : Fence.wide.depth = none := rfl
  clear hB hc
  generalize lkV r = la at *
  refine (callsIn_wide (n := 3)).1 ?_
  refine callsIn_of_wp Try.func70 rfl trivial ?_ rfl
  simp only [Try.ntmps70, List.size_toArray, List.length_cons, List.length_nil, Nat.reduceAdd, Nat.reduceSub, Array.replicate_succ, Array.replicate_zero, List.push_toArray, List.append_toArray, List.nil_append, List.cons_append]
  gi_wp2_with (with_reducible refine wpListIn_callv hFn hDp rfl rfl rfl rfl ?_ ?_ hi (callsIn_wide.2 HC.out) (fun e w3 he => ?_); rotate_left 2; obtain ⟨rfl, hb, hr⟩ := he; refine ⟨_, rfl, ?_⟩; obtain ⟨z0, z1⟩ := cellsAt hb 0 (v := .int .i64 x0) rfl; have HR := Lib.hid hr; have HB2 := Lib.hid hb; clear hb hr)
  go_end0
  exact ⟨⟨_, rfl⟩, _, HR.out, HB2.out, rfl⟩

set_option maxHeartbeats 4000000 in
theorem done_E (id : Int) (none_ : Int) (fd : Fn) (cd : Array Value) (Z0 : World → Prop) (ans : Hd → Int) (pdo : Hd → Hd)
    (h : (PP b mo idl m p).p S w) (hT : ∀ k, T0 k → ¬ S k) (hTl : ∀ k, T0 k → k < w.heap.size) (hz0 : Z0 w) (hZ : ∀ W W', Z0 W → (∀ k, T0 k → W'.heap[k]? = W.heap[k]?) → Z0 W')
    (hdo : ∀ r W, LK W r → Z0 W → ∃ f args, (invoke (.fn fd cd) #[lkV r]).run Try.prog W = .ok (.enter f args) W ∧ Calls Try.prog f args W fun e w' => e = .returned (.int .i64 (ans r.h)) ∧ LK w' (r.set (pdo r.h)) ∧ Off (lkS r) W w')
    (hid : p.l.Pairwise fun a b => a.id ≠ b.id) :
    Calls Try.prog 43 #[.pointer (some ⟨b, 0, none⟩), .int .i64 id, .func fd #[] cd, .int .i64 none_] w fun e w' => e = .returned (.int .i64 (if findH id p.l < 0 then none_ else ans (theH id p))) ∧ (PP b mo idl m (sweepP (if findH id p.l < 0 then p else onH id pdo p))).p S w' ∧ Off (fun k => S k ∨ T0 k) w w' := by
  have HF : Hid (p.l.foldl (fun s h => if (h.id == id) = true then ans h else s) none_ = if findH id p.l < 0 then none_ else ans (theH id p)) := Lib.hid (fold_id ans none_ p.l hid)
  have HM : Hid (({ p with l := sweepH (p.l.map fun h => if (h.id == id) = true then pdo h else h) } : Pl) = sweepP (if findH id p.l < 0 then p else onH id pdo p)) := Lib.hid (map_id pdo p hid)
  have HR : Hid (∀ v, v = (if findH id p.l < 0 then none_ else ans (theH id p)) → (.int .i64 v : Value) = .int .i64 (if findH id p.l < 0 then none_ else ans (theH id p))) := Lib.hid fun v e => by rw [e]
  rw [← HM.out]
  clear HM
  obtain ⟨res, hres⟩ : ∃ v : Value, .int .i64 (if findH id p.l < 0 then none_ else ans (theH id p)) = v := ⟨_, rfl⟩
  rw [hres] at HR ⊢
  clear hres
  have HS : Hid (∀ o1 o2 o3 (wz : World), wz.heap.size = w.heap.size + 3 → wz.heap[w.heap.size]? = some o1 → wz.heap[w.heap.size + 1]? = some o2 → wz.heap[w.heap.size + 2]? = some o3 → Below w.heap.size w wz → o1 = .cells #[.int .i64 id] 3 (0, 0) → o2 = .cells #[.func fd #[] cd] 84 (0, 0) → o3 = .cells #[.int .i64 none_] 26 (0, 0) →
      Calls Try.prog 30 #[.pointer (some ⟨b, 0, none⟩), .func (.func 69) #[] #[.pointer (some ⟨w.heap.size, 0, none⟩)], .func (.func 70) #[] #[.pointer (some ⟨w.heap.size + 1, 0, none⟩), .pointer (some ⟨w.heap.size + 2, 0, none⟩)]] wz fun e w' => (∃ v, e = .returned v) ∧
        (∃ v, w'.cell? ⟨w.heap.size + 2, 0, none⟩ = some (.int .i64 v) ∧ v = p.l.foldl (fun s h => if (h.id == id) = true then ans h else s) none_) ∧ (PP b mo idl m { p with l := sweepH (p.l.map fun h => if (h.id == id) = true then pdo h else h) }).p S w' ∧ Off (fun k => S k ∨ T0 k) w w') := Lib.hid fun o1 o2 o3 wz hsz h1 h2 h3 hk e1 e2 e3 => by
    subst e1 e2 e3
    have hSl := (PP b mo idl m p).lt h
    refine (each_ok (T := fun k => (k = w.heap.size ∨ k = w.heap.size + 1 ∨ k = w.heap.size + 2) ∨ T0 k) (.func 69) (.func 70) #[.pointer (some ⟨w.heap.size, 0, none⟩)] #[.pointer (some ⟨w.heap.size + 1, 0, none⟩), .pointer (some ⟨w.heap.size + 2, 0, none⟩)] (fun h => h.id == id) pdo (fun h _ => ans h)
      (fun (v : Int) W => W.heap[w.heap.size]? = some (.cells #[.int .i64 id] 3 (0, 0)) ∧ W.heap[w.heap.size + 1]? = some (.cells #[.func fd #[] cd] 84 (0, 0)) ∧ W.heap[w.heap.size + 2]? = some (.cells #[.int .i64 v] 26 (0, 0)) ∧ Z0 W) none_
      (Thing.next h hk) ?_ ?_ ⟨h1, h2, h3, hZ _ _ hz0 fun k hk2 => hk.block k (hTl k hk2)⟩ ?_ ?_ ?_).mono ?_
    · rintro k (hk2 | hk2) hs
      · have := hSl k hs
        omega
      · exact hT k hk2 hs
    · rintro k (hk2 | hk2)
      · omega
      · have := hTl k hk2
        omega
    · rintro v W1 W2 ⟨q1, q2, q3, q4⟩ hq
      exact ⟨(hq _ (.inl (.inl rfl))).trans q1, (hq _ (.inl (.inr (.inl rfl)))).trans q2, (hq _ (.inl (.inr (.inr rfl)))).trans q3, hZ _ _ q4 fun k hk2 => hq k (.inr hk2)⟩
    · rintro r v W1 hl ⟨q1, _, _, _⟩ _
      exact ⟨69, #[lkV r, .pointer (some ⟨w.heap.size, 0, none⟩)], by simp [invoke, go_sem], dnis_E r _ id hl q1⟩
    · rintro r v W1 hl ⟨q1, q2, q3, q4⟩ hTn _
      obtain ⟨f, args, hi, hc⟩ := hdo r W1 hl q4
      refine ⟨70, #[lkV r, .pointer (some ⟨w.heap.size + 1, 0, none⟩), .pointer (some ⟨w.heap.size + 2, 0, none⟩)], by simp [invoke, go_sem], (dndo_E (R := fun w' => LK w' (r.set (pdo r.h)) ∧ Off (lkS r) W1 w') r _ (w.heap.size + 2) fd cd v (ans r.h) q2 hi (hc.mono ?_)).mono ?_⟩
      · rintro e w' ⟨rfl, k1, k2⟩
        exact ⟨rfl, (k2.block _ ((Array.getElem?_eq_some_iff.1 q3).1) fun e => hTn _ e (.inl (.inr (.inr rfl)))).trans q3, k1, k2⟩
      · rintro e w' ⟨hv, w1, ⟨k1, k2⟩, k3, rfl⟩
        have hne : ∀ k, k ≠ w.heap.size + 2 → (w1.setCell ⟨w.heap.size + 2, 0, none⟩ (.int .i64 (ans r.h))).heap[k]? = w1.heap[k]? := fun k hk2 => Below.heap_setCell _ _ _ _ fun e => hk2 (by first | exact e.symm | exact e)
        have hlt : ∀ k, ((k = w.heap.size ∨ k = w.heap.size + 1 ∨ k = w.heap.size + 2) ∨ T0 k) → k ≠ w.heap.size + 2 → k < W1.heap.size := by
          have l1 := (Array.getElem?_eq_some_iff.1 q1).1
          have l2 := (Array.getElem?_eq_some_iff.1 q2).1
          rintro k (hk2 | hk2) hk3
          · omega
          · have := hTl k hk2
            omega
        have hoff : ∀ k, ((k = w.heap.size ∨ k = w.heap.size + 1 ∨ k = w.heap.size + 2) ∨ T0 k) → k ≠ w.heap.size + 2 → (w1.setCell ⟨w.heap.size + 2, 0, none⟩ (.int .i64 (ans r.h))).heap[k]? = W1.heap[k]? := fun k hk2 hk3 => (hne k hk3).trans (k2.block k (hlt k hk2 hk3) fun e => hTn k e hk2)
        refine ⟨hv, k1.keep (fun k hk2 => hne k fun e => hTn k hk2 (.inl (.inr (.inr e)))) (by simp [World.setCell]), ⟨(hoff _ (.inl (.inl rfl)) (by omega)).trans q1, (hoff _ (.inl (.inr (.inl rfl))) (by omega)).trans q2, cset k3 0 _ rfl, hZ _ _ q4 fun k hk2 => hoff k (.inr hk2) (by have := hTl k hk2; omega)⟩, (k2.wide fun k hk2 => .inl hk2).setCell (p := ⟨w.heap.size + 2, 0, none⟩) (.inl (.inr (.inl (.inr (.inr rfl))))) _⟩
    · rintro e w' ⟨hv, ⟨_, _, q3, _⟩, hp, ho⟩
      have hsub : ∀ i, (S i ∨ ((i = w.heap.size ∨ i = w.heap.size + 1 ∨ i = w.heap.size + 2) ∨ T0 i)) → (S i ∨ T0 i) ∨ w.heap.size ≤ i := by
        rintro i (e | (e | e))
        · exact .inl (.inl e)
        · exact .inr (by omega)
        · exact .inl (.inr e)
      exact ⟨hv, ⟨_, (cellsAt q3 0 rfl).1, rfl⟩, hp, (Off.of (fun k => S k ∨ T0 k) hk).trans ho hsub⟩
  clear h hT hTl hz0 hZ hdo hid
  obtain ⟨wz, hwz⟩ : ∃ u, ((w.alloc (.cells #[.int .i64 id] 3)).alloc (.cells #[.func fd #[] cd] 84)).alloc (.cells #[.int .i64 none_] 26 (0, 0)) = u := ⟨_, rfl⟩
  have HC := Lib.hid (HS.out _ _ _ wz (by rw [← hwz]; simp) (by rw [← hwz]; exact (Below.heap_alloc _ _ _ (by simp; omega)).trans ((Below.heap_alloc _ _ _ (by simp)).trans (heap_alloc_new w _))) (by
      rw [← hwz]
      have := heap_alloc_new (w.alloc (.cells #[.int .i64 id] 3)) (.cells #[.func fd #[] cd] 84)
      rw [World.size_alloc] at this
      exact (Below.heap_alloc _ _ _ (by simp)).trans this) (by
      rw [← hwz]
      have := heap_alloc_new ((w.alloc (.cells #[.int .i64 id] 3)).alloc (.cells #[.func fd #[] cd] 84)) (.cells #[.int .i64 none_] 26 (0, 0))
      rw [World.size_alloc, World.size_alloc] at this
      exact this) (hwz ▸ kp_alloc (kp_alloc (kp_new _ _) _) _) rfl rfl rfl)
  have HWZ := Lib.hid hwz
  clear hwz HS
  go_enter Try.func43, Try.ntmps43
  go_wp2_with fail
  rw [HWZ.out]
  refine HC.out.mono ?_
  rintro e w4 ⟨⟨v0, rfl⟩, ⟨v, hv, hf⟩, hp, ho⟩
  have HQ := Lib.hid (And.intro hp ho)
  have hr := HR.out v (hf.trans HF.out)
  rw [hr] at hv
  clear hf hp ho hr HC HR HF
  go_wp2_with fail
  go_ret
  exact ⟨rfl, HQ.out⟩
end

section
variable {b : Nat} {mo idl m : Int} {p : Pl} {S T0 : Nat → Prop} {w W : World}
theorem dnis_U (r : Lr) (B : Nat) (id : Int) (h : LK W r) (hB : W.heap[B]? = some (.cells #[.int .i64 id] 3 (0, 0))) : Calls Try.prog 76 #[lkV r, .pointer (some ⟨B, 0, none⟩)] W fun e w' => e = .returned (.bool (r.h.id == id)) ∧ Below W.heap.size W w' := by
  obtain ⟨⟨_, c1, _⟩, _⟩ := h.cells
  obtain ⟨x0, _⟩ := cellsAt hB 0 (v := .int .i64 id) rfl
  unfold lkV
  clear h hB
  generalize r.h.id = i at *
  generalize r.l = l at *
  go_enter Try.func76, Try.ntmps76
  go_wp2_with fail
  go_quiet (fail)
  go_wp2_with fail
  go_ret
  exact ⟨rfl, kp_drewN _ _⟩
theorem dndo_U (r : Lr) (B B2 : Nat) (fd : Fn) (cd : Array Value) (x0 y : Int) {f : FuncId} {args : Array Value} {R : World → Prop} (hB : W.heap[B]? = some (.cells #[.func fd #[] cd] 96 (0, 0)))
    (hi : (invoke (.fn fd cd) #[lkV r]).run Try.prog W = .ok (.enter f args) W) (hc : Calls Try.prog f args W fun e w' => e = .returned (.int .u64 y) ∧ w'.heap[B2]? = some (.cells #[.int .u64 x0] 22 (0, 0)) ∧ R w') :
    Calls Try.prog 77 #[lkV r, .pointer (some ⟨B, 0, none⟩), .pointer (some ⟨B2, 0, none⟩)] W fun e w' => (∃ v, e = .returned v) ∧ ∃ w1, R w1 ∧ w1.heap[B2]? = some (.cells #[.int .u64 x0] 22 (0, 0)) ∧ w' = w1.setCell ⟨B2, 0, none⟩ (.int .u64 y) := by
  obtain ⟨q0, _⟩ := cellsAt hB 0 (v := .func fd #[] cd) rfl
  have HC := Lib.hid hc
  have hFn : ∀ f, Fence.wide.fn f := fun _ => trivial
  have hDp : Fence.wide.depth = none := rfl
  clear hB hc
  generalize lkV r = la at *
  refine (callsIn_wide (n := 3)).1 ?_
  refine callsIn_of_wp Try.func77 rfl trivial ?_ rfl
  simp only [Try.ntmps77, List.size_toArray, List.length_cons, List.length_nil, Nat.reduceAdd, Nat.reduceSub, Array.replicate_succ, Array.replicate_zero, List.push_toArray, List.append_toArray, List.nil_append, List.cons_append]
  gi_wp2_with (with_reducible refine wpListIn_callv hFn hDp rfl rfl rfl rfl ?_ ?_ hi (callsIn_wide.2 HC.out) (fun e w3 he => ?_); rotate_left 2; obtain ⟨rfl, hb, hr⟩ := he; refine ⟨_, rfl, ?_⟩; obtain ⟨z0, z1⟩ := cellsAt hb 0 (v := .int .u64 x0) rfl; have HR := Lib.hid hr; have HB2 := Lib.hid hb; clear hb hr)
  go_end0
  exact ⟨⟨_, rfl⟩, _, HR.out, HB2.out, rfl⟩

set_option maxHeartbeats 4000000 in
theorem done_U (id : Int) (none_ : Int) (fd : Fn) (cd : Array Value) (Z0 : World → Prop) (ans : Hd → Int) (pdo : Hd → Hd)
    (h : (PP b mo idl m p).p S w) (hT : ∀ k, T0 k → ¬ S k) (hTl : ∀ k, T0 k → k < w.heap.size) (hz0 : Z0 w) (hZ : ∀ W W', Z0 W → (∀ k, T0 k → W'.heap[k]? = W.heap[k]?) → Z0 W')
    (hdo : ∀ r W, LK W r → Z0 W → ∃ f args, (invoke (.fn fd cd) #[lkV r]).run Try.prog W = .ok (.enter f args) W ∧ Calls Try.prog f args W fun e w' => e = .returned (.int .u64 (ans r.h)) ∧ LK w' (r.set (pdo r.h)) ∧ Off (lkS r) W w')
    (hid : p.l.Pairwise fun a b => a.id ≠ b.id) :
    Calls Try.prog 51 #[.pointer (some ⟨b, 0, none⟩), .int .i64 id, .func fd #[] cd, .int .u64 none_] w fun e w' => e = .returned (.int .u64 (if findH id p.l < 0 then none_ else ans (theH id p))) ∧ (PP b mo idl m (sweepP (if findH id p.l < 0 then p else onH id pdo p))).p S w' ∧ Off (fun k => S k ∨ T0 k) w w' := by
  have HF : Hid (p.l.foldl (fun s h => if (h.id == id) = true then ans h else s) none_ = if findH id p.l < 0 then none_ else ans (theH id p)) := Lib.hid (fold_id ans none_ p.l hid)
  have HM : Hid (({ p with l := sweepH (p.l.map fun h => if (h.id == id) = true then pdo h else h) } : Pl) = sweepP (if findH id p.l < 0 then p else onH id pdo p)) := Lib.hid (map_id pdo p hid)
  have HR : Hid (∀ v, v = (if findH id p.l < 0 then none_ else ans (theH id p)) → (.int .u64 v : Value) = .int .u64 (if findH id p.l < 0 then none_ else ans (theH id p))) := Lib.hid fun v e => by rw [e]
  rw [← HM.out]
  clear HM
  obtain ⟨res, hres⟩ : ∃ v : Value, .int .u64 (if findH id p.l < 0 then none_ else ans (theH id p)) = v := ⟨_, rfl⟩
  rw [hres] at HR ⊢
  clear hres
  have HS : Hid (∀ o1 o2 o3 (wz : World), wz.heap.size = w.heap.size + 3 → wz.heap[w.heap.size]? = some o1 → wz.heap[w.heap.size + 1]? = some o2 → wz.heap[w.heap.size + 2]? = some o3 → Below w.heap.size w wz → o1 = .cells #[.int .i64 id] 3 (0, 0) → o2 = .cells #[.func fd #[] cd] 96 (0, 0) → o3 = .cells #[.int .u64 none_] 22 (0, 0) →
      Calls Try.prog 30 #[.pointer (some ⟨b, 0, none⟩), .func (.func 76) #[] #[.pointer (some ⟨w.heap.size, 0, none⟩)], .func (.func 77) #[] #[.pointer (some ⟨w.heap.size + 1, 0, none⟩), .pointer (some ⟨w.heap.size + 2, 0, none⟩)]] wz fun e w' => (∃ v, e = .returned v) ∧
        (∃ v, w'.cell? ⟨w.heap.size + 2, 0, none⟩ = some (.int .u64 v) ∧ v = p.l.foldl (fun s h => if (h.id == id) = true then ans h else s) none_) ∧ (PP b mo idl m { p with l := sweepH (p.l.map fun h => if (h.id == id) = true then pdo h else h) }).p S w' ∧ Off (fun k => S k ∨ T0 k) w w') := Lib.hid fun o1 o2 o3 wz hsz h1 h2 h3 hk e1 e2 e3 => by
    subst e1 e2 e3
    have hSl := (PP b mo idl m p).lt h
    refine (each_ok (T := fun k => (k = w.heap.size ∨ k = w.heap.size + 1 ∨ k = w.heap.size + 2) ∨ T0 k) (.func 76) (.func 77) #[.pointer (some ⟨w.heap.size, 0, none⟩)] #[.pointer (some ⟨w.heap.size + 1, 0, none⟩), .pointer (some ⟨w.heap.size + 2, 0, none⟩)] (fun h => h.id == id) pdo (fun h _ => ans h)
      (fun (v : Int) W => W.heap[w.heap.size]? = some (.cells #[.int .i64 id] 3 (0, 0)) ∧ W.heap[w.heap.size + 1]? = some (.cells #[.func fd #[] cd] 96 (0, 0)) ∧ W.heap[w.heap.size + 2]? = some (.cells #[.int .u64 v] 22 (0, 0)) ∧ Z0 W) none_
      (Thing.next h hk) ?_ ?_ ⟨h1, h2, h3, hZ _ _ hz0 fun k hk2 => hk.block k (hTl k hk2)⟩ ?_ ?_ ?_).mono ?_
    · rintro k (hk2 | hk2) hs
      · have := hSl k hs
        omega
      · exact hT k hk2 hs
    · rintro k (hk2 | hk2)
      · omega
      · have := hTl k hk2
        omega
    · rintro v W1 W2 ⟨q1, q2, q3, q4⟩ hq
      exact ⟨(hq _ (.inl (.inl rfl))).trans q1, (hq _ (.inl (.inr (.inl rfl)))).trans q2, (hq _ (.inl (.inr (.inr rfl)))).trans q3, hZ _ _ q4 fun k hk2 => hq k (.inr hk2)⟩
    · rintro r v W1 hl ⟨q1, _, _, _⟩ _
      exact ⟨76, #[lkV r, .pointer (some ⟨w.heap.size, 0, none⟩)], by simp [invoke, go_sem], dnis_U r _ id hl q1⟩
    · rintro r v W1 hl ⟨q1, q2, q3, q4⟩ hTn _
      obtain ⟨f, args, hi, hc⟩ := hdo r W1 hl q4
      refine ⟨77, #[lkV r, .pointer (some ⟨w.heap.size + 1, 0, none⟩), .pointer (some ⟨w.heap.size + 2, 0, none⟩)], by simp [invoke, go_sem], (dndo_U (R := fun w' => LK w' (r.set (pdo r.h)) ∧ Off (lkS r) W1 w') r _ (w.heap.size + 2) fd cd v (ans r.h) q2 hi (hc.mono ?_)).mono ?_⟩
      · rintro e w' ⟨rfl, k1, k2⟩
        exact ⟨rfl, (k2.block _ ((Array.getElem?_eq_some_iff.1 q3).1) fun e => hTn _ e (.inl (.inr (.inr rfl)))).trans q3, k1, k2⟩
      · rintro e w' ⟨hv, w1, ⟨k1, k2⟩, k3, rfl⟩
        have hne : ∀ k, k ≠ w.heap.size + 2 → (w1.setCell ⟨w.heap.size + 2, 0, none⟩ (.int .u64 (ans r.h))).heap[k]? = w1.heap[k]? := fun k hk2 => Below.heap_setCell _ _ _ _ fun e => hk2 (by first | exact e.symm | exact e)
        have hlt : ∀ k, ((k = w.heap.size ∨ k = w.heap.size + 1 ∨ k = w.heap.size + 2) ∨ T0 k) → k ≠ w.heap.size + 2 → k < W1.heap.size := by
          have l1 := (Array.getElem?_eq_some_iff.1 q1).1
          have l2 := (Array.getElem?_eq_some_iff.1 q2).1
          rintro k (hk2 | hk2) hk3
          · omega
          · have := hTl k hk2
            omega
        have hoff : ∀ k, ((k = w.heap.size ∨ k = w.heap.size + 1 ∨ k = w.heap.size + 2) ∨ T0 k) → k ≠ w.heap.size + 2 → (w1.setCell ⟨w.heap.size + 2, 0, none⟩ (.int .u64 (ans r.h))).heap[k]? = W1.heap[k]? := fun k hk2 hk3 => (hne k hk3).trans (k2.block k (hlt k hk2 hk3) fun e => hTn k e hk2)
        refine ⟨hv, k1.keep (fun k hk2 => hne k fun e => hTn k hk2 (.inl (.inr (.inr e)))) (by simp [World.setCell]), ⟨(hoff _ (.inl (.inl rfl)) (by omega)).trans q1, (hoff _ (.inl (.inr (.inl rfl))) (by omega)).trans q2, cset k3 0 _ rfl, hZ _ _ q4 fun k hk2 => hoff k (.inr hk2) (by have := hTl k hk2; omega)⟩, (k2.wide fun k hk2 => .inl hk2).setCell (p := ⟨w.heap.size + 2, 0, none⟩) (.inl (.inr (.inl (.inr (.inr rfl))))) _⟩
    · rintro e w' ⟨hv, ⟨_, _, q3, _⟩, hp, ho⟩
      have hsub : ∀ i, (S i ∨ ((i = w.heap.size ∨ i = w.heap.size + 1 ∨ i = w.heap.size + 2) ∨ T0 i)) → (S i ∨ T0 i) ∨ w.heap.size ≤ i := by
        rintro i (e | (e | e))
        · exact .inl (.inl e)
        · exact .inr (by omega)
        · exact .inl (.inr e)
      exact ⟨hv, ⟨_, (cellsAt q3 0 rfl).1, rfl⟩, hp, (Off.of (fun k => S k ∨ T0 k) hk).trans ho hsub⟩
  clear h hT hTl hz0 hZ hdo hid
  obtain ⟨wz, hwz⟩ : ∃ u, ((w.alloc (.cells #[.int .i64 id] 3)).alloc (.cells #[.func fd #[] cd] 96)).alloc (.cells #[.int .u64 none_] 22 (0, 0)) = u := ⟨_, rfl⟩
  have HC := Lib.hid (HS.out _ _ _ wz (by rw [← hwz]; simp) (by rw [← hwz]; exact (Below.heap_alloc _ _ _ (by simp; omega)).trans ((Below.heap_alloc _ _ _ (by simp)).trans (heap_alloc_new w _))) (by
      rw [← hwz]
      have := heap_alloc_new (w.alloc (.cells #[.int .i64 id] 3)) (.cells #[.func fd #[] cd] 96)
      rw [World.size_alloc] at this
      exact (Below.heap_alloc _ _ _ (by simp)).trans this) (by
      rw [← hwz]
      have := heap_alloc_new ((w.alloc (.cells #[.int .i64 id] 3)).alloc (.cells #[.func fd #[] cd] 96)) (.cells #[.int .u64 none_] 22 (0, 0))
      rw [World.size_alloc, World.size_alloc] at this
      exact this) (hwz ▸ kp_alloc (kp_alloc (kp_new _ _) _) _) rfl rfl rfl)
  have HWZ := Lib.hid hwz
  clear hwz HS
  go_enter Try.func51, Try.ntmps51
  go_wp2_with fail
  rw [HWZ.out]
  refine HC.out.mono ?_
  rintro e w4 ⟨⟨v0, rfl⟩, ⟨v, hv, hf⟩, hp, ho⟩
  have HQ := Lib.hid (And.intro hp ho)
  have hr := HR.out v (hf.trans HF.out)
  rw [hr] at hv
  clear hf hp ho hr HC HR HF
  go_wp2_with fail
  go_ret
  exact ⟨rfl, HQ.out⟩
end
end

/- Rows of held connections, as they lie in memory: of whatever package's type (no function of the program is named here). -/
section
open Go.RowKit
set_option maxRecDepth 100000

/-- one that is held, and the block of its connection -/
structure Hr where
  a : Nat
  h : Hd
instance : Inhabited Hr := ⟨⟨0, default⟩⟩
def Hr.cells (r : Hr) : List Value := [.int .i64 r.h.id, .pointer (some ⟨r.a, 0, none⟩), .int .u64 r.h.t]
def hrC (rs : List Hr) : List Value := rs.flatMap Hr.cells
theorem hrC_length : ∀ rs : List Hr, (hrC rs).length = rs.length * 3
  | [] => rfl
  | r :: rs => by
    have := hrC_length rs
    simp only [hrC, List.flatMap_cons, List.length_append, List.length_cons, Hr.cells, List.length_nil] at this ⊢
    omega
theorem hrC_append (a b : List Hr) : hrC (a ++ b) = hrC a ++ hrC b := by simp [hrC]
theorem hrC_at : ∀ (rs : List Hr) (j : Nat) (h : j < rs.length), (hrC rs)[j * 3]? = some (.int .i64 rs[j].h.id) ∧ (hrC rs)[j * 3 + 1]? = some (.pointer (some ⟨rs[j].a, 0, none⟩)) ∧ (hrC rs)[j * 3 + 2]? = some (.int .u64 rs[j].h.t)
  | [], _, h => by simp at h
  | r :: rs, 0, _ => by simp [hrC, Hr.cells]
  | r :: rs, j + 1, h => by
    have := hrC_at rs j (by simpa using h)
    have e1 : (j + 1) * 3 = j * 3 + 3 := by omega
    simp only [hrC, List.flatMap_cons] at this ⊢
    rw [e1]
    simpa [Hr.cells] using this
theorem hrC_one (rs : List Hr) : ∀ u ∈ hrC rs, u.oneCell' = true := by
  intro u hu
  simp only [hrC, List.mem_flatMap] at hu
  obtain ⟨r, _, h⟩ := hu
  simp only [Hr.cells, List.mem_cons, List.not_mem_nil, or_false] at h
  rcases h with rfl | rfl | rfl <;> rfl
/-- what is written of one is its cells: another connection's state changes none -/
theorem hrC_set_same : ∀ (rs : List Hr) (j : Nat) (r : Hr) (hj : j < rs.length), r.cells = rs[j].cells → hrC (rs.set j r) = hrC rs
  | [], _, _, h, _ => by simp at h
  | x :: rs, 0, r, _, e => by
    have e' : r.cells = x.cells := e
    simp [hrC, e']
  | x :: rs, j + 1, r, h, e => by
    have := hrC_set_same rs j r (by simpa using h) e
    simp only [hrC, List.set_cons_succ, List.flatMap_cons] at this ⊢
    rw [this]
theorem hrC_set : ∀ (rs : List Hr) (j : Nat) (v : Int) (hj : j < rs.length), hrC (rs.set j ⟨rs[j].a, { rs[j].h with t := v }⟩) = (hrC rs).set (j * 3 + 2) (.int .u64 v)
  | [], _, _, h => by simp at h
  | x :: rs, 0, v, _ => by simp [hrC, Hr.cells]
  | x :: rs, j + 1, v, h => by
    have := hrC_set rs j v (by simpa using h)
    have e1 : (j + 1) * 3 + 2 = (j * 3 + 2) + 3 := by omega
    simp only [hrC, List.set_cons_succ, List.flatMap_cons, List.getElem_cons_succ] at this ⊢
    rw [e1, this]
    simp [Hr.cells]
/-- a kind of connection: it lies in one block -/
structure CK (K : Nat → Int → Cn → Thing) : Prop where
  own : ∀ {a ep c S w}, (K a ep c).p S w → S a
  only : ∀ {a ep c S w}, (K a ep c).p S w → (K a ep c).p (fun k => k = a) w
/-- a row of held connections -/
structure HL (e : TypeId) (K : Nat → Int → Cn → Thing) (w : World) (A : Option Addr) (n c : Nat) (rs : List Hr) : Prop where
  own : w.ownsRow 0 e 3 (.slice A n c) n (hrC rs)
  cs : ∀ r ∈ rs, (K r.a r.h.ep r.h.c).p (fun k => k = r.a) w
  nd : (rs.map Hr.a).Nodup
  ap : ∀ r ∈ rs, (Value.slice A n c).ownBlock ≠ some r.a
/-- its blocks -/
def hlS (A : Option Addr) (n c : Nat) (rs : List Hr) (k : Nat) : Prop := (Value.slice A n c).ownBlock = some k ∨ ∃ r ∈ rs, r.a = k
section
variable {e : TypeId} {K : Nat → Int → Cn → Thing} {w w' : World} {A : Option Addr} {n c : Nat} {rs : List Hr}
theorem HL.len (h : HL e K w A n c rs) : rs.length = n := by
  have := h.own.1
  rw [hrC_length] at this
  omega
theorem HL.nil (e : TypeId) (K : Nat → Int → Cn → Thing) (w : World) : HL e K w none 0 0 [] := ⟨World.ownsRow_nil _ _ _ _, (fun _ h => by cases h), List.nodup_nil, (fun _ h => by cases h)⟩
theorem HL.keep (h : HL e K w A n c rs) (hk : ∀ k, hlS A n c rs k → w'.heap[k]? = w.heap[k]?) (hz : w.heap.size ≤ w'.heap.size) : HL e K w' A n c rs :=
  ⟨own_keep h.own fun g e => hk g (.inl e), fun r hr => (K r.a r.h.ep r.h.c).keep (h.cs r hr) (fun k e => hk k (.inr ⟨r, hr, e.symm⟩)) hz, h.nd, h.ap⟩
theorem HL.lt (h : HL e K w A n c rs) : ∀ k, hlS A n c rs k → k < w.heap.size := by
  rintro k (hk | ⟨r, hr, rfl⟩)
  · exact (h.own.lt k hk).2
  · exact (K r.a r.h.ep r.h.c).lt (h.cs r hr) _ rfl
theorem HL.next (h : HL e K w A n c rs) (hb : Below w.heap.size w w') : HL e K w' A n c rs := h.keep (fun k hk => hb.block k (h.lt k hk)) hb.size
theorem HL.cap (h : HL e K w A n c rs) : n ≤ c := by
  obtain ⟨A', c', h1, h2, _⟩ := own_form_s h.own
  simp only [Value.slice.injEq] at h1
  obtain ⟨_, _, rfl⟩ := h1
  exact h2
/-- one at a place -/
theorem HL.at_ (h : HL e K w A n c rs) {j : Nat} (hj : j < rs.length) : ∃ g : Nat, A = some ⟨g, 0, none⟩ ∧ g < w.heap.size ∧ (∃ cur, w.heap[g]? = some (.cells cur e (0, 0))) ∧
    w.cell? ⟨g, j * 3, none⟩ = some (.int .i64 rs[j].h.id) ∧ w.cell? ⟨g, j * 3 + 1, none⟩ = some (.pointer (some ⟨rs[j].a, 0, none⟩)) ∧ w.cell? ⟨g, j * 3 + 2, none⟩ = some (.int .u64 rs[j].h.t) ∧
    w.frozen? ⟨g, j * 3 + 2, none⟩ = false := by
  have hh := h.own
  have hl := h.len
  rcases h.own.2 with ⟨_, h2⟩ | ⟨g, cap, cur, h1, _, hg, _⟩
  · have h3 : (Value.slice A n c) = .slice none 0 0 ∨ n = 0 := by first | exact .inr h2 | exact .inl (by assumption)
    rcases h3 with h3 | h3
    · simp only [Value.slice.injEq] at h3
      omega
    · omega
  · injection h1 with h1 _ _
    subst h1
    obtain ⟨e0, e1, e2⟩ := hrC_at rs j hj
    have key : ∀ i v, (hrC rs)[i]? = some v → w.cell? ⟨g, i, none⟩ = some v := fun i v hv => by
      have := hh.cells (g := g) rfl i v hv
      have ha : (⟨g, 0, none⟩ : Addr).add i = ⟨g, i, none⟩ := by unfold Addr.add; split <;> simp_all
      rwa [ha] at this
    exact ⟨g, rfl, (Array.getElem?_eq_some_iff.1 hg).1, ⟨cur, hg⟩, key _ _ e0, key _ _ e1, key _ _ e2, frozen_of_row w g _ cur e hg⟩
/-- one connection turned -/
theorem HL.turn (hK : CK K) (h : HL e K w A n c rs) {j : Nat} (hj : j < rs.length) {c' : Cn} (ht : Turn (K rs[j].a rs[j].h.ep c') (fun k => k = rs[j].a) w w') : HL e K w' A n c (rs.set j ⟨rs[j].a, rs[j].h.set c'⟩) := by
  obtain ⟨⟨S', p', _⟩, ho⟩ := ht
  have hmem : rs[j] ∈ rs := List.getElem_mem hj
  refine ⟨?_, ?_, ?_, ?_⟩
  · rw [hrC_set_same rs j ⟨rs[j].a, rs[j].h.set c'⟩ hj rfl]
    exact own_keep h.own fun g hg => ho.block g (h.own.lt g hg).2 fun e => h.ap _ hmem (e ▸ hg)
  · intro r hr
    obtain ⟨i, hi, rfl⟩ := List.mem_iff_getElem.1 hr
    have hi' : i < rs.length := by simpa using hi
    by_cases hij : j = i
    · subst hij
      rw [List.getElem_set_self]
      exact hK.only p'
    · rw [List.getElem_set_ne hij]
      have hra : rs[i].a ≠ rs[j].a := fun e => hij ((List.getElem_inj (i := i) (j := j) (h₀ := by simpa using hi') (h₁ := by simpa using hj) h.nd).1 (by simpa using e)).symm
      exact (K _ _ _).keep (h.cs _ (List.getElem_mem hi')) (fun k e => ho.block k ((K _ _ _).lt (h.cs _ (List.getElem_mem hi')) k e) (fun e2 => hra (e.symm.trans e2))) ho.size
  · rw [List.map_set]
    have : (rs.map Hr.a).set j rs[j].a = rs.map Hr.a := by
      apply List.ext_getElem
      · simp
      · intro i h1 h2
        by_cases hij : j = i
        · subst hij; simp
        · simp [List.getElem_set_ne hij]
    rw [this]
    exact h.nd
  · intro r hr
    rcases List.mem_or_eq_of_mem_set hr with hr | rfl
    · exact h.ap r hr
    · exact h.ap rs[j] hmem
end
end

/- The document's layer 8: Drop, Same: contracts. -/
section
open Go.RowKit
set_option maxRecDepth 100000

section
variable {b : Nat} {m : Int} {l : List Int} {S : Nat → Prop} {w : World}
end
end

/- The document's layer 10: a pool in memory; find, sweep: contracts. -/
section
open Go.RowKit
set_option maxRecDepth 100000

section
variable {b : Nat} {mo idl m : Int} {p : Pl} {S : Nat → Prop} {w : World}
end
end

/- The document's layer 10: a pool's row laid anew; sweep, Drain: contracts. -/
section
open Go.RowKit
set_option maxRecDepth 100000

theorem hrF_next (f : Hr → Bool) (rs : List Hr) (k : Nat) (h : k < rs.length) : (rs.take (k + 1)).filter f = (rs.take k).filter f ++ (if f rs[k] then [rs[k]] else []) := by
  rw [List.take_succ_eq_append_getElem h, List.filter_append]
  congr 1
  simp only [List.filter_cons, List.filter_nil]
section
variable {b : Nat} {mo idl m : Int} {p : Pl} {S : Nat → Prop} {w : World}
end
end

/- A row of which the first ones are turned (no function of the program is named here). -/
section
open Go.RowKit
set_option maxRecDepth 100000

/-- the first k are turned -/
def upto (f : Hd → Hd) (k : Nat) (l : List Hd) : List Hd := (l.take k).map f ++ l.drop k
section
variable {f : Hd → Hd} {l : List Hd} {k : Nat}
theorem upto_zero : upto f 0 l = l := by simp [upto]
theorem upto_all (h : l.length ≤ k) : upto f k l = l.map f := by simp [upto, List.take_of_length_le h, List.drop_of_length_le h]
theorem upto_length : (upto f k l).length = l.length := by
  simp only [upto, List.length_append, List.length_map, List.length_take, List.length_drop]
  omega
theorem upto_get (h : k < l.length) (h' : k < (upto f k l).length) : (upto f k l)[k] = l[k] := by
  have e : (upto f k l)[k]? = l[k]? := by
    unfold upto
    rw [List.getElem?_append_right (by simp; omega)]
    simp [Nat.min_eq_left (Nat.le_of_lt h)]
  rw [List.getElem?_eq_getElem h, List.getElem?_eq_getElem h'] at e
  exact Option.some.inj e
theorem upto_next (h : k < l.length) : upto f (k + 1) l = (upto f k l).set k (f l[k]) := by
  unfold upto
  rw [List.take_succ_eq_append_getElem h, List.set_append_right _ _ (by simp; omega)]
  simp only [List.length_map, List.length_take, Nat.min_eq_left (Nat.le_of_lt h), Nat.sub_self, List.map_append, List.map_cons, List.map_nil, List.append_assoc]
  congr 1
  rw [List.drop_eq_getElem_cons h]
  rfl
theorem upto_same (h : k < l.length) (e : f l[k] = l[k]) : upto f (k + 1) l = upto f k l := by
  rw [upto_next h, e]
  have h' : k < (upto f k l).length := by rw [upto_length]; exact h
  rw [← upto_get h h']
  exact List.set_getElem_self h'
end
theorem Turn.comp {Z : Thing} {S S' : Nat → Prop} {w w' w'' : World} (h2 : ∀ k, S' k → S k ∨ w.heap.size ≤ k) (h3 : Off S w w') (k : Turn Z S' w' w'') : Turn Z S w w'' := by
  obtain ⟨⟨S'', k1, k2⟩, k3⟩ := k
  have hz := h3.size
  exact ⟨⟨S'', k1, fun i hi => (k2 i hi).elim (fun e => h2 i e) (fun e => .inr (by omega))⟩, h3.trans k3 h2⟩
end

/- The document's layer 10: Drain, Reap: contracts. -/
section
open Go.RowKit
set_option maxRecDepth 100000

section
variable {b : Nat} {mo idl m : Int} {p : Pl} {S : Nat → Prop} {w : World}
/-- how many of the first ones are old -/
def oldN (idl now : Int) (k : Nat) (l : List Hd) : Nat := ((l.take k).filter (isOld idl now)).length
theorem oldN_next {idl now : Int} {k : Nat} {l : List Hd} (h : k < l.length) : oldN idl now (k + 1) l = oldN idl now k l + (if isOld idl now l[k] then 1 else 0) := by
  unfold oldN
  rw [List.take_succ_eq_append_getElem h, List.filter_append, List.length_append, List.filter_cons, List.filter_nil]
  split <;> rfl
theorem oldN_le (idl now : Int) (k : Nat) (l : List Hd) : oldN idl now k l ≤ k := Nat.le_trans (List.length_filter_le _ _) (by simp [List.length_take]; omega)

end
end

/- The document's layer 10: one is given: contract. -/
section
open Go.RowKit
set_option maxRecDepth 100000

section
variable {P : Program} {w : World}
theorem step_append_rds {ops : Array Oper} {o : Oper} {a : Act} {K : Act → World → Prop} {Q : Exit → Act → World → Prop} {E : Prop} (hw : Region.wanted o (yielded ops a.tmps) = true) (s x : Operand) (t : TypeId)
    (ho : o.op = .call { callee := .builtin .append, args := #[s, x], argTypes := #[t, t] })
    (base : Nat) (e : TypeId) (i : TypeInfo) (z : Value) (size bytes : Nat) (ht : P.underlying t = some (.slice e)) (hi : P.info? e = some i) (hz : i.zero = some z)
    (hsize : i.size = size) (hby : i.bytes = bytes) (hzs : z.cells.size = size) (hsz : 0 < size)
    (v : Value) (n : Nat) (xs : List Value) (hs : a.eval s = v) (hown : w.ownsRow base e size v n xs)
    (B : Nat) (A : Option Addr) (m c : Nat) (news : List Value) (hx : a.eval x = .slice A m c) (hm : news.length = m * size) (hr : Rd w B A news) (h1 : ∀ u ∈ news, u.oneCell' = true)
    (h63 : n + m ≤ maxLen) (hbytes : (n + m) * bytes ≤ 140737488355328) (hbase : base ≤ w.heap.size)
    (h : ∀ v' w', w'.ownsRow base e size v' (n + m) (xs ++ news) → w.grownBy w' v.ownBlock → K (a.put o.dst v') w') :
    if Region.wanted o (yielded ops a.tmps) = true then Oper.wp P o a w K Q else E := by
  rw [if_pos hw]
  exact wp_append_rds s x t ho base e i z size bytes ht hi hz hsize hby hzs hsz v n xs hs hown B A m c news hx hm hr h1 h63 hbytes hbase h
end
section
variable {b : Nat} {mo idl m : Int} {p : Pl} {S : Nat → Prop} {w : World}
theorem turnH_at {l : List Hd} {q : Nat} (h : q < l.length) (f : Hd → Hd) : turnH l q f = l.set q (f l[q]) := by
  unfold turnH
  rw [Int.toNat_natCast]
  refine List.ext_getElem (by simp) fun i h1 h2 => ?_
  rw [List.getElem_modify, List.getElem_set]
  split
  · rename_i e; subst e; rfl
  · rfl
theorem Rd.of_own3 {w : World} {A : Option Addr} {xs : List Value} {base n c : Nat} {e : TypeId} (h : w.ownsRow base e 3 (.slice A n c) n xs) : Rd w w.heap.size A xs := by
  rcases h.2 with ⟨_, hn⟩ | ⟨g, cap, cur, hv, _, hg, _⟩
  · exact .inl (List.eq_nil_of_length_eq_zero (by have := h.1; omega))
  · have hA : A = some ⟨g, 0, none⟩ := by injection hv
    subst hA
    exact .inr ⟨_, rfl, (Array.getElem?_eq_some_iff.1 hg).1, h.cells (g := g) rfl⟩
end
end

/- Rows of what is known of connections, as they lie; the document's layer 10: Conns, Same: contracts. -/
section
open Go.RowKit
set_option maxRecDepth 100000

/-- what is known of a connection -/
structure Inf where
  id : Int
  s : Int
  o : Int
  ep : Int
  f : Int
  t : Int
deriving DecidableEq
instance : Inhabited Inf := ⟨⟨0, 0, 0, 0, 0, 0⟩⟩
def Inf.cells (x : Inf) : List Value := [.int .i64 x.id, .int .i64 x.s, .int .i64 x.o, .int .u64 x.ep, .int .u64 x.f, .int .u64 x.t]
def inC (l : List Inf) : List Value := l.flatMap Inf.cells
def infoH (h : Hd) : Inf := ⟨h.id, h.c.s, h.c.o, h.ep, h.c.f, h.t⟩
theorem inC_length : ∀ l : List Inf, (inC l).length = l.length * 6
  | [] => rfl
  | r :: rs => by
    have := inC_length rs
    simp only [inC, List.flatMap_cons, List.length_append, List.length_cons, Inf.cells, List.length_nil] at this ⊢
    omega
theorem inC_append (a b : List Inf) : inC (a ++ b) = inC a ++ inC b := by simp [inC]
theorem inC_at : ∀ (rs : List Inf) (j : Nat) (h : j < rs.length), (inC rs)[j * 6]? = some (.int .i64 rs[j].id) ∧ (inC rs)[j * 6 + 1]? = some (.int .i64 rs[j].s) ∧ (inC rs)[j * 6 + 2]? = some (.int .i64 rs[j].o) ∧ (inC rs)[j * 6 + 3]? = some (.int .u64 rs[j].ep) ∧ (inC rs)[j * 6 + 4]? = some (.int .u64 rs[j].f) ∧ (inC rs)[j * 6 + 5]? = some (.int .u64 rs[j].t)
  | [], _, h => by simp at h
  | r :: rs, 0, _ => by simp [inC, Inf.cells]
  | r :: rs, j + 1, h => by
    have := inC_at rs j (by simpa using h)
    have e1 : (j + 1) * 6 = j * 6 + 6 := by omega
    simp only [inC, List.flatMap_cons] at this ⊢
    rw [e1]
    simpa [Inf.cells] using this
theorem inC_next (rs : List Inf) (k : Nat) (h : k < rs.length) : inC (rs.take (k + 1)) = inC (rs.take k) ++ rs[k].cells := by
  rw [List.take_succ_eq_append_getElem h, inC_append]
  simp [inC]
theorem inC_one (rs : List Inf) : ∀ u ∈ inC rs, u.oneCell' = true := by
  intro u hu
  simp only [inC, List.mem_flatMap] at hu
  obtain ⟨r, _, h⟩ := hu
  simp only [Inf.cells, List.mem_cons, List.not_mem_nil, or_false] at h
  rcases h with rfl | rfl | rfl | rfl | rfl | rfl <;> rfl
/-- a row of these that is read -/
structure IR (w : World) (A : Option Addr) (n : Nat) (l : List Inf) : Prop where
  len : l.length = n
  rd : Rd w w.heap.size A (inC l)
section
variable {w w' : World} {A : Option Addr} {n c : Nat} {l : List Inf}
theorem IR.next (h : IR w A n l) (hb : Below w.heap.size w w') : IR w' A n l := ⟨h.len, (h.rd.below hb (Nat.le_refl _)).more hb.size⟩
theorem IR.of_own {base : Nat} {e : TypeId} (h : w.ownsRow base e 6 (.slice A n c) n (inC l)) : IR w A n l := by
  have hl : l.length = n := by
    have := h.1
    rw [inC_length] at this
    omega
  refine ⟨hl, ?_⟩
  rcases h.2 with ⟨_, hn⟩ | ⟨g, cap, cur, hv, _, hg, _⟩
  · exact .inl (List.eq_nil_of_length_eq_zero (by have := h.1; omega))
  · have hA : A = some ⟨g, 0, none⟩ := by injection hv
    subst hA
    exact .inr ⟨_, rfl, (Array.getElem?_eq_some_iff.1 hg).1, h.cells (g := g) rfl⟩
theorem IR.at_ (h : IR w A n l) {j : Nat} (hj : j < l.length) : ∃ ad, A = some ad ∧ ad.block < w.heap.size ∧ ∀ w', Below w.heap.size w w' → w'.cell? (ad.add (j * 6)) = some (.int .i64 l[j].id) ∧ w'.cell? ⟨(ad.add (j * 6)).block, (ad.add (j * 6)).off + 1, none⟩ = some (.int .i64 l[j].s) ∧ w'.cell? ⟨(ad.add (j * 6)).block, (ad.add (j * 6)).off + 2, none⟩ = some (.int .i64 l[j].o) ∧
    w'.cell? ⟨(ad.add (j * 6)).block, (ad.add (j * 6)).off + 3, none⟩ = some (.int .u64 l[j].ep) ∧ w'.cell? ⟨(ad.add (j * 6)).block, (ad.add (j * 6)).off + 4, none⟩ = some (.int .u64 l[j].f) ∧ w'.cell? ⟨(ad.add (j * 6)).block, (ad.add (j * 6)).off + 5, none⟩ = some (.int .u64 l[j].t) := by
  obtain ⟨ad, hA, hb, hc⟩ := h.rd.addr (by rw [inC_length]; omega)
  have key : ∀ (w' : World) (i : Nat) (v : Value), Below w.heap.size w w' → (inC l)[j * 6 + i]? = some v → w'.cell? (ad.add (j * 6 + i)) = some v := fun w' i v hw hv => by
    rw [hw.cell (by rw [add_block]; exact hb)]
    exact hc _ _ hv
  obtain ⟨e0, e1, e2, e3, e4, e5⟩ := inC_at l j hj
  have a1 : ∀ i, i ≠ 0 → (⟨(ad.add (j * 6)).block, (ad.add (j * 6)).off + i, none⟩ : Addr) = ad.add (j * 6 + i) := fun i hi => by rw [← add_add]; unfold Addr.add; simp [hi]
  refine ⟨ad, hA, hb, fun w' hw => ⟨key w' 0 _ hw e0, ?_, ?_, ?_, ?_, ?_⟩⟩
  · rw [a1 1 (by decide)]; exact key w' 1 _ hw e1
  · rw [a1 2 (by decide)]; exact key w' 2 _ hw e2
  · rw [a1 3 (by decide)]; exact key w' 3 _ hw e3
  · rw [a1 4 (by decide)]; exact key w' 4 _ hw e4
  · rw [a1 5 (by decide)]; exact key w' 5 _ hw e5
end
theorem rinfinfo : (Try.prog.info? 79).map (fun i => (i.zero, i.size, i.bytes)) = some (some (.agg #[.int .i64 0, .int .i64 0, .int .i64 0, .int .u64 0, .int .u64 0, .int .u64 0]), 6, 48) := by kernel_rfl

theorem neq_infos (x y : Inf) (w : World) : (binOp .neq 79 (.agg #[.int .i64 x.id, .int .i64 x.s, .int .i64 x.o, .int .u64 x.ep, .int .u64 x.f, .int .u64 x.t]) (.agg #[.int .i64 y.id, .int .i64 y.s, .int .i64 y.o, .int .u64 y.ep, .int .u64 y.f, .int .u64 y.t])).run Try.prog w = .ok (.bool (!decide (x = y))) w := by
  have hf : (Try.prog.fieldsOf 79) = (match Try.prog.underlying 79 with | some (.struct fs) => fs | _ => #[]) := rfl
  have hu := Try.underlying79
  rw [hu] at hf
  rw [run_neq_struct, run_equalIn_agg (P := Try.prog) w 9999 _ _ _ (by rw [hf]; exact hu) (by kernel_rfl), hf]
  have h3 := Try.underlying3
  have h9 := Try.underlying22
  have hz3 := Try.sizeOf3
  have hz9 := Try.sizeOf22
  have ha3 := Try.isAgg3
  have ha9 := Try.isAgg22
  have p0 : ∀ (a b c d e f : Int) (w : World), (part 3 #[.int .i64 a, .int .i64 b, .int .i64 c, .int .u64 d, .int .u64 e, .int .u64 f] 0).run Try.prog w = .ok (.int .i64 a) w := fun a b c d e f w => by simp [part, hz3, ha3]
  have p1 : ∀ (a b c d e f : Int) (w : World), (part 3 #[.int .i64 a, .int .i64 b, .int .i64 c, .int .u64 d, .int .u64 e, .int .u64 f] 1).run Try.prog w = .ok (.int .i64 b) w := fun a b c d e f w => by simp [part, hz3, ha3]
  have p2 : ∀ (a b c d e f : Int) (w : World), (part 3 #[.int .i64 a, .int .i64 b, .int .i64 c, .int .u64 d, .int .u64 e, .int .u64 f] 2).run Try.prog w = .ok (.int .i64 c) w := fun a b c d e f w => by simp [part, hz3, ha3]
  have p3 : ∀ (a b c d e f : Int) (w : World), (part 22 #[.int .i64 a, .int .i64 b, .int .i64 c, .int .u64 d, .int .u64 e, .int .u64 f] 3).run Try.prog w = .ok (.int .u64 d) w := fun a b c d e f w => by simp [part, hz9, ha9]
  have p4 : ∀ (a b c d e f : Int) (w : World), (part 22 #[.int .i64 a, .int .i64 b, .int .i64 c, .int .u64 d, .int .u64 e, .int .u64 f] 4).run Try.prog w = .ok (.int .u64 e) w := fun a b c d e f w => by simp [part, hz9, ha9]
  have p5 : ∀ (a b c d e f : Int) (w : World), (part 22 #[.int .i64 a, .int .i64 b, .int .i64 c, .int .u64 d, .int .u64 e, .int .u64 f] 5).run Try.prog w = .ok (.int .u64 f) w := fun a b c d e f w => by simp [part, hz9, ha9]
  have e1 : ∀ (x y : Int) (w : World), (Op.equalIn 9999 3 (.int .i64 x) (.int .i64 y)).run Try.prog w = .ok (x == y) w := fun x y w => run_equalIn_int w 9998 3 .i64 .i64 x y h3
  have e2 : ∀ (x y : Int) (w : World), (Op.equalIn 9999 22 (.int .u64 x) (.int .u64 y)).run Try.prog w = .ok (x == y) w := fun x y w => run_equalIn_int w 9998 22 .u64 .u64 x y h9
  obtain ⟨a1, b1, c1, d1, f1, g1⟩ := x
  obtain ⟨a2, b2, c2, d2, f2, g2⟩ := y
  simp only [Inf.mk.injEq]
  by_cases ha : a1 = a2
  · by_cases hb : b1 = b2
    · by_cases hc : c1 = c2
      · by_cases hd : d1 = d2
        · by_cases he : f1 = f2
          · by_cases hg : g1 = g2
            · simp [Op.eqFields, p0, p1, p2, p3, p4, p5, e1, e2, ha, hb, hc, hd, he, hg]
            · simp [Op.eqFields, p0, p1, p2, p3, p4, p5, e1, e2, ha, hb, hc, hd, he, hg]
          · simp [Op.eqFields, p0, p1, p2, p3, p4, e1, e2, ha, hb, hc, hd, he]
        · simp [Op.eqFields, p0, p1, p2, p3, e1, e2, ha, hb, hc, hd]
      · simp [Op.eqFields, p0, p1, p2, e1, ha, hb, hc]
    · simp [Op.eqFields, p0, p1, e1, ha, hb]
  · simp [Op.eqFields, p0, e1, ha]

set_option maxHeartbeats 8000000 in
theorem rsame10_ok (A B : Option Addr) (n k c d : Nat) (xs ys : List Inf) (w : World) (hx : IR w A n xs) (hy : IR w B k ys) (hn : n ≤ 1000) (hk : k ≤ 1000) (bo : Bool) (hbo : Hid (decide (xs = ys) = bo)) :
    Calls Try.prog 17 #[.slice A n c, .slice B k d] w fun e w' => e = .returned (.bool bo) ∧ Below w.heap.size w w' := by
  have HX := Lib.hid hx
  have HY := Lib.hid hy
  have hlx := hx.len
  have hly := hy.len
  clear hx hy
  by_cases hnk : n = k
  · subst hnk
    have HLX := Lib.hid hlx
    have HLY := Lib.hid hly
    clear hlx hly
    go_enter Try.func17, Try.ntmps17
    go_wp2_with fail
    go_loopw [5] (fun i wr => ∃ q : Nat, q ≤ n ∧ i = .int .i64 q ∧ Hid (∀ j (hj : j < xs.length) (hj2 : j < ys.length), j < q → xs[j] = ys[j]) ∧ Hid (Below w.heap.size w wr)) (fun i _ => n - (intOf i).toNat)
    case atStart => exact ⟨0, Nat.zero_le _, rfl, Lib.hid (fun j _ _ h => absurd h (Nat.not_lt_zero _)), Lib.hid (Below.refl _ _)⟩
    case round =>
      obtain ⟨q, hq, rfl, he, hw⟩ := hrel
      by_cases hlt : q < n
      · have hqx : q < xs.length := by rw [HLX.out]; exact hlt
        have hqy : q < ys.length := by rw [HLY.out]; exact hlt
        obtain ⟨ax, rfl, _, cx⟩ := HX.out.at_ hqx
        obtain ⟨ay, rfl, _, cy⟩ := HY.out.at_ hqy
        obtain ⟨x0, x1, x2, x3, x4, x5⟩ := cx wr hw.out
        obtain ⟨y0, y1, y2, y3, y4, y5⟩ := cy wr hw.out
        clear cx cy
        have hi0 : (0 : Int) ≤ (q : Int) := by omega
        have hi1 : (q : Int) < (n : Int) := by omega
        by_cases hxy : xs[q] = ys[q]
        · have he2 : Hid (∀ j (hj : j < xs.length) (hj2 : j < ys.length), j < q + 1 → xs[j] = ys[j]) := Lib.hid fun j hj hj2 hjq => by
            by_cases h : j = q
            · subst h; exact hxy
            · exact he.out j hj hj2 (by omega)
          rw [hxy] at x0 x1 x2 x3 x4 x5
          clear he hxy
          generalize ys[q] = y at *
          obtain ⟨i1, s1, o1, p1, f1, t1⟩ := y
          dsimp only at x0 x1 x2 x3 x4 x5 y0 y1 y2 y3 y4 y5
          go_wp2_with fail
          go_quiet (fail)
          go_wp2_with fail
          go_roundw
          case rel => exact ⟨q + 1, by omega, by go_num, he2, Lib.hid (kp_trans hw.out (kp_drewN _ _))⟩
          case measure => simp [intOf]; omega
        · have hb : bo = false := by
            rw [← hbo.out]
            exact decide_eq_false fun h => hxy (by subst h; rfl)
          subst hb
          have hcmp := neq_infos xs[q] ys[q]
          rw [decide_eq_false hxy] at hcmp
          have HCM := hcmp
          clear he hxy hcmp
          generalize xs[q] = x at *
          generalize ys[q] = y at *
          obtain ⟨i1, s1, o1, p1, f1, t1⟩ := x
          obtain ⟨i2, s2, o2, p2, f2, t2⟩ := y
          dsimp only at x0 x1 x2 x3 x4 x5 y0 y1 y2 y3 y4 y5 HCM
          go_wp2_with fail
          go_quiet (fail)
          go_wp2_with fail
          go_ret
          exact ⟨rfl, kp_trans hw.out (kp_drewN _ _)⟩
      · obtain rfl : q = n := by omega
        have hb : bo = true := by
          rw [← hbo.out]
          exact decide_eq_true (List.ext_getElem (by rw [HLX.out, HLY.out]) fun j h1 h2 => he.out j h1 h2 (by have := HLX.out; omega))
        subst hb
        clear he
        go_wp2_with fail
        go_ret
        exact ⟨rfl, hw.out⟩
  · have hb : bo = false := by
      rw [← hbo.out]
      exact decide_eq_false fun h => hnk (by subst h; omega)
    subst hb
    have hne : ((n : Int) == (k : Int)) = false := by simp; omega
    clear hlx hly hbo
    go_enter Try.func17, Try.ntmps17
    go_wp2_with fail
    go_ret
    exact ⟨rfl, Below.refl _ _⟩
end

/- What is known of the connection of an id (done, at Info): contract. -/
section
open Go.RowKit
set_option maxRecDepth 100000
attribute [local go_sem] Oper.semAt_some wide_depth wide_fn

def Inf.vals (x : Inf) : Array Value := #[.int .i64 x.id, .int .i64 x.s, .int .i64 x.o, .int .u64 x.ep, .int .u64 x.f, .int .u64 x.t]
def infB (x : Inf) : Obj := .cells x.vals 39 (0, 0)
theorem inf_cells {w : World} {B : Nat} {x : Inf} (h : w.heap[B]? = some (infB x)) : (w.cell? ⟨B, 0, none⟩ = some (.int .i64 x.id) ∧ w.cell? ⟨B, 1, none⟩ = some (.int .i64 x.s) ∧ w.cell? ⟨B, 2, none⟩ = some (.int .i64 x.o) ∧ w.cell? ⟨B, 3, none⟩ = some (.int .u64 x.ep) ∧ w.cell? ⟨B, 4, none⟩ = some (.int .u64 x.f) ∧ w.cell? ⟨B, 5, none⟩ = some (.int .u64 x.t)) ∧
    (w.frozen? ⟨B, 0, none⟩ = false ∧ w.frozen? ⟨B, 1, none⟩ = false ∧ w.frozen? ⟨B, 2, none⟩ = false ∧ w.frozen? ⟨B, 3, none⟩ = false ∧ w.frozen? ⟨B, 4, none⟩ = false ∧ w.frozen? ⟨B, 5, none⟩ = false) :=
  ⟨⟨(cellsAt h 0 rfl).1, (cellsAt h 1 rfl).1, (cellsAt h 2 rfl).1, (cellsAt h 3 rfl).1, (cellsAt h 4 rfl).1, (cellsAt h 5 rfl).1⟩, (cellsAt h 0 (v := .int .i64 x.id) rfl).2, (cellsAt h 1 (v := .int .i64 x.s) rfl).2, (cellsAt h 2 (v := .int .i64 x.o) rfl).2, (cellsAt h 3 (v := .int .u64 x.ep) rfl).2, (cellsAt h 4 (v := .int .u64 x.f) rfl).2, (cellsAt h 5 (v := .int .u64 x.t) rfl).2⟩
theorem inf_set {w : World} {B : Nat} {x : Inf} (y : Inf) (h : w.heap[B]? = some (infB x)) : ((((((w.setCell ⟨B, 0, none⟩ (.int .i64 y.id)).setCell ⟨B, 1, none⟩ (.int .i64 y.s)).setCell ⟨B, 2, none⟩ (.int .i64 y.o)).setCell ⟨B, 3, none⟩ (.int .u64 y.ep)).setCell ⟨B, 4, none⟩ (.int .u64 y.f)).setCell ⟨B, 5, none⟩ (.int .u64 y.t)).heap[B]? = some (infB y) :=
  cset (cset (cset (cset (cset (cset h 0 _ rfl) 1 _ rfl) 2 _ rfl) 3 _ rfl) 4 _ rfl) 5 _ rfl
theorem inf_off {w w1 : World} {B : Nat} (y : Inf) (h : Off (fun k => k = B) w w1) : Off (fun k => k = B) w ((((((w1.setCell ⟨B, 0, none⟩ (.int .i64 y.id)).setCell ⟨B, 1, none⟩ (.int .i64 y.s)).setCell ⟨B, 2, none⟩ (.int .i64 y.o)).setCell ⟨B, 3, none⟩ (.int .u64 y.ep)).setCell ⟨B, 4, none⟩ (.int .u64 y.f)).setCell ⟨B, 5, none⟩ (.int .u64 y.t)) :=
  (((((h.set1 rfl 0 _).set1 rfl 1 _).set1 rfl 2 _).set1 rfl 3 _).set1 rfl 4 _).set1 rfl 5 _
section
variable {b : Nat} {mo idl m : Int} {p : Pl} {S : Nat → Prop} {w W : World}
theorem dnis_I (r : Lr) (B : Nat) (id : Int) (h : LK W r) (hB : W.heap[B]? = some (.cells #[.int .i64 id] 3 (0, 0))) : Calls Try.prog 74 #[lkV r, .pointer (some ⟨B, 0, none⟩)] W fun e w' => e = .returned (.bool (r.h.id == id)) ∧ Below W.heap.size W w' := by
  obtain ⟨⟨_, c1, _⟩, _⟩ := h.cells
  obtain ⟨x0, _⟩ := cellsAt hB 0 (v := .int .i64 id) rfl
  unfold lkV
  clear h hB
  generalize r.h.id = i at *
  generalize r.l = l at *
  go_enter Try.func74, Try.ntmps74
  go_wp2_with fail
  go_quiet (fail)
  go_wp2_with fail
  go_ret
  exact ⟨rfl, kp_drewN _ _⟩
theorem dndo_I (r : Lr) (B B2 : Nat) (x y : Inf) (h : LK W r) (hB : W.heap[B]? = some (.cells #[.func (.func 28) #[] #[]] 94 (0, 0))) (hB2 : W.heap[B2]? = some (infB x)) (hy : infoH r.h = y) :
    Calls Try.prog 75 #[lkV r, .pointer (some ⟨B, 0, none⟩), .pointer (some ⟨B2, 0, none⟩)] W fun e w' => (∃ v, e = .returned v) ∧ w'.heap[B2]? = some (infB y) ∧ Off (fun k => k = B2) W w' := by
  obtain ⟨q0, _⟩ := cellsAt hB 0 (v := .func (.func 28) #[] #[]) rfl
  have HC : Hid (Calls Try.prog 28 #[lkV r] W fun e w' => e = .returned (.agg y.vals) ∧ Below W.heap.size W w') := Lib.hid (by subst hy; exact info_ok h)
  have HB2 := Lib.hid hB2
  have HL := Lib.hid (Array.getElem?_eq_some_iff.1 hB2).1
  clear hB hB2 h hy
  obtain ⟨y0, y1, y2, y3, y4, y5⟩ := y
  unfold Inf.vals at HC
  dsimp only at HC
  generalize lkV r = la at *
  go_enter Try.func75, Try.ntmps75
  go_wp2_with fail
  refine HC.out.mono ?_
  rintro e w1 ⟨rfl, hb⟩
  have h2 := (hb.block B2 HL.out).trans HB2.out
  obtain ⟨⟨x0, x1, x2, x3, x4, x5⟩, z0, z1, z2, z3, z4, z5⟩ := inf_cells h2
  have HS := Lib.hid (inf_set ⟨y0, y1, y2, y3, y4, y5⟩ h2)
  have HO := Lib.hid (inf_off (w := W) (B := B2) ⟨y0, y1, y2, y3, y4, y5⟩ (Off.of _ hb))
  clear hb h2
  go_wp2_with fail
  go_end0
  exact ⟨⟨_, rfl⟩, HS.out, HO.out⟩
def inf0 : Inf := ⟨0, 0, 0, 0, 0, 0⟩
theorem onH_none (id : Int) (p : Pl) : onH id (fun h => h) p = p := by
  have : turnH p.l (findH id p.l) (fun h => h) = p.l := by
    unfold turnH
    refine List.ext_getElem (by simp) fun i h1 h2 => ?_
    rw [List.getElem_modify]
    split <;> rfl
  unfold onH
  rw [this]

set_option maxHeartbeats 4000000 in
theorem done_I (id : Int) (h : (PP b mo idl m p).p S w) (hid : p.l.Pairwise fun a b => a.id ≠ b.id) (hlive : ∀ h ∈ p.l, h.live = true) (x : Inf) (hx : x = if findH id p.l < 0 then inf0 else infoH (theH id p)) :
    Calls Try.prog 50 #[.pointer (some ⟨b, 0, none⟩), .int .i64 id, .func (.func 28) #[] #[], .agg inf0.vals] w fun e w' => e = .returned (.agg x.vals) ∧ (PP b mo idl m p).p S w' ∧ Off S w w' := by
  have HS : Hid (∀ (wz : World), wz.heap[w.heap.size]? = some (.cells #[.int .i64 id] 3 (0, 0)) → wz.heap[w.heap.size + 1]? = some (.cells #[.func (.func 28) #[] #[]] 94 (0, 0)) → wz.heap[w.heap.size + 3]? = some (infB inf0) → wz.heap[w.heap.size + 4]? = some (infB inf0) → Below w.heap.size w wz →
      Calls Try.prog 30 #[.pointer (some ⟨b, 0, none⟩), .func (.func 74) #[] #[.pointer (some ⟨w.heap.size, 0, none⟩)], .func (.func 75) #[] #[.pointer (some ⟨w.heap.size + 1, 0, none⟩), .pointer (some ⟨w.heap.size + 4, 0, none⟩)]] wz fun e w' => (∃ v, e = .returned v) ∧
        w'.heap[w.heap.size + 4]? = some (infB x) ∧ w'.heap[w.heap.size + 3]? = some (infB inf0) ∧ (PP b mo idl m p).p S w' ∧ Off S w w') := Lib.hid fun wz h1 h2 h4 h3 hk => by
    have hSl := (PP b mo idl m p).lt h
    have hf := fold_id (id := id) infoH inf0 p.l hid
    have hm := map_id (id := id) (fun h => h) p hid
    rw [onH_none, ite_self] at hm
    have hsw : sweepP p = p := by unfold sweepP; rw [sweep_live hlive]
    rw [hsw] at hm
    have hx' : x = p.l.foldl (fun s h => if (h.id == id) = true then infoH h else s) inf0 := by rw [hf]; exact hx
    have l3 := (Array.getElem?_eq_some_iff.1 h3).1
    refine (each_ok (T := fun k => k = w.heap.size ∨ k = w.heap.size + 1 ∨ k = w.heap.size + 3 ∨ k = w.heap.size + 4) (.func 74) (.func 75) #[.pointer (some ⟨w.heap.size, 0, none⟩)] #[.pointer (some ⟨w.heap.size + 1, 0, none⟩), .pointer (some ⟨w.heap.size + 4, 0, none⟩)] (fun h => h.id == id) (fun h => h) (fun h _ => infoH h)
      (fun (v : Inf) W => W.heap[w.heap.size]? = some (.cells #[.int .i64 id] 3 (0, 0)) ∧ W.heap[w.heap.size + 1]? = some (.cells #[.func (.func 28) #[] #[]] 94 (0, 0)) ∧ W.heap[w.heap.size + 3]? = some (infB inf0) ∧ W.heap[w.heap.size + 4]? = some (infB v)) inf0
      (Thing.next h hk) ?_ ?_ ⟨h1, h2, h4, h3⟩ ?_ ?_ ?_).mono ?_
    · rintro k hk2 hs
      have := hSl k hs
      omega
    · rintro k hk2
      omega
    · rintro v W1 W2 ⟨q1, q2, q4, q3⟩ hq
      exact ⟨(hq _ (.inl rfl)).trans q1, (hq _ (.inr (.inl rfl))).trans q2, (hq _ (.inr (.inr (.inl rfl)))).trans q4, (hq _ (.inr (.inr (.inr rfl)))).trans q3⟩
    · rintro r v W1 hl ⟨q1, _, _, _⟩ _
      exact ⟨74, #[lkV r, .pointer (some ⟨w.heap.size, 0, none⟩)], by simp [invoke, go_sem], dnis_I r _ id hl q1⟩
    · rintro r v W1 hl ⟨q1, q2, q4, q3⟩ hTn _
      refine ⟨75, #[lkV r, .pointer (some ⟨w.heap.size + 1, 0, none⟩), .pointer (some ⟨w.heap.size + 4, 0, none⟩)], by simp [invoke, go_sem], (dndo_I r _ (w.heap.size + 4) v (infoH r.h) hl q2 q3 rfl).mono ?_⟩
      rintro e w' ⟨hv, k1, k2⟩
      have l2 := (Array.getElem?_eq_some_iff.1 q3).1
      exact ⟨hv, hl.keep (fun k hk2 => k2.block k (hl.lt k hk2) fun e => hTn k hk2 (.inr (.inr (.inr e)))) k2.size, ⟨(k2.block _ (by omega) (by omega)).trans q1, (k2.block _ (by omega) (by omega)).trans q2, (k2.block _ (by omega) (by omega)).trans q4, k1⟩, k2.wide fun k e => .inr (.inr (.inr (.inr e)))⟩
    · rintro e w' ⟨hv, ⟨_, _, q4, q3⟩, hp, ho⟩
      rw [← hx'] at q3
      have hp' : (PP b mo idl m p).p S w' := by
        have := hp
        rw [hm] at this
        exact this
      exact ⟨hv, q3, q4, hp', (Off.of S hk).trans ho fun i hi => by rcases hi with e | e; exact .inl e; exact .inr (by omega)⟩
  have HSL := Lib.hid ((PP b mo idl m p).lt h)
  clear h hid hlive hx
  obtain ⟨wz, hwz⟩ : ∃ u, ((((w.alloc (.cells #[.int .i64 id] 3)).alloc (.cells #[.func (.func 28) #[] #[]] 94)).alloc (.cells #[.int .i64 0, .int .i64 0, .int .i64 0, .int .u64 0, .int .u64 0, .int .u64 0] 39)).alloc (.cells #[.int .i64 0, .int .i64 0, .int .i64 0, .int .u64 0, .int .u64 0, .int .u64 0] 39)).alloc (.cells #[.int .i64 0, .int .i64 0, .int .i64 0, .int .u64 0, .int .u64 0, .int .u64 0] 39) = u := ⟨_, rfl⟩
  have hat : ∀ (u : World) (o1 o2 o3 o4 o5 : Obj), ((((((u.alloc o1).alloc o2).alloc o3).alloc o4).alloc o5).heap[u.heap.size]? = some o1) ∧ ((((((u.alloc o1).alloc o2).alloc o3).alloc o4).alloc o5).heap[u.heap.size + 1]? = some o2) ∧ ((((((u.alloc o1).alloc o2).alloc o3).alloc o4).alloc o5).heap[u.heap.size + 3]? = some o4) ∧ ((((((u.alloc o1).alloc o2).alloc o3).alloc o4).alloc o5).heap[u.heap.size + 4]? = some o5) := fun u o1 o2 o3 o4 o5 => by
    simp only [World.alloc, Array.getElem?_push, Array.size_push]
    refine ⟨?_, ?_, ?_, ?_⟩
    · rw [if_neg (by omega), if_neg (by omega), if_neg (by omega), if_neg (by omega), if_pos trivial]
    · rw [if_neg (by omega), if_neg (by omega), if_neg (by omega), if_pos trivial]
    · rw [if_neg (by omega), if_pos trivial]
    · rw [if_pos trivial]
  obtain ⟨a1, a2, a4, a5⟩ := hat w (.cells #[.int .i64 id] 3) (.cells #[.func (.func 28) #[] #[]] 94) (.cells #[.int .i64 0, .int .i64 0, .int .i64 0, .int .u64 0, .int .u64 0, .int .u64 0] 39) (.cells #[.int .i64 0, .int .i64 0, .int .i64 0, .int .u64 0, .int .u64 0, .int .u64 0] 39) (.cells #[.int .i64 0, .int .i64 0, .int .i64 0, .int .u64 0, .int .u64 0, .int .u64 0] 39)
  rw [hwz] at a1 a2 a4 a5
  have HC := Lib.hid (HS.out wz a1 a2 a4 a5 (hwz ▸ kp_alloc (kp_alloc (kp_alloc (kp_alloc (kp_new _ _) _) _) _) _))
  have HWZ := Lib.hid hwz
  clear hwz HS a1 a2 a4 a5 hat
  unfold inf0 Inf.vals
  dsimp only
  go_enter Try.func50, Try.ntmps50
  go_wp2_with fail
  rw [HWZ.out]
  refine HC.out.mono ?_
  rintro e w4 ⟨⟨v0, rfl⟩, h4, h3, hp, ho⟩
  have hS : (PP b mo idl m p).p S ((((((w4.setCell ⟨w.heap.size + 3, 0, none⟩ (.int .i64 x.id)).setCell ⟨w.heap.size + 3, 1, none⟩ (.int .i64 x.s)).setCell ⟨w.heap.size + 3, 2, none⟩ (.int .i64 x.o)).setCell ⟨w.heap.size + 3, 3, none⟩ (.int .u64 x.ep)).setCell ⟨w.heap.size + 3, 4, none⟩ (.int .u64 x.f)).setCell ⟨w.heap.size + 3, 5, none⟩ (.int .u64 x.t)) ∧ Off S w ((((((w4.setCell ⟨w.heap.size + 3, 0, none⟩ (.int .i64 x.id)).setCell ⟨w.heap.size + 3, 1, none⟩ (.int .i64 x.s)).setCell ⟨w.heap.size + 3, 2, none⟩ (.int .i64 x.o)).setCell ⟨w.heap.size + 3, 3, none⟩ (.int .u64 x.ep)).setCell ⟨w.heap.size + 3, 4, none⟩ (.int .u64 x.f)).setCell ⟨w.heap.size + 3, 5, none⟩ (.int .u64 x.t)) := by
    have h1 := inf_off x (Off.refl (fun k => k = w.heap.size + 3) w4)
    exact ⟨Thing.off hp h1 fun k hk e => by have := HSL.out k hk; omega, ho.trans h1 fun i e => .inr (by omega)⟩
  have HQ := Lib.hid hS
  obtain ⟨⟨c0, c1, c2, c3, c4, c5⟩, _⟩ := inf_cells h4
  obtain ⟨⟨d0, d1, d2, d3, d4, d5⟩, z0, z1, z2, z3, z4, z5⟩ := inf_cells h3
  clear h4 h3 hp ho hS HC
  unfold inf0 at d0 d1 d2 d3 d4 d5
  dsimp only at d0 d1 d2 d3 d4 d5
  go_wp2_with fail
  refine bodyPost_ret (v := .agg x.vals) ?_ rfl ⟨rfl, HQ.out⟩
  rw [results_cell1 rfl]
  unfold Inf.vals
  go_simp
end
end

/- What is done with a number that is said ahead (bound): contracts; plain facts of one that a pool has. -/
section
open Go.RowKit
set_option maxRecDepth 100000
attribute [local go_sem] Oper.semAt_some wide_depth wide_fn

theorem wpListIn_callv2 {F : Fence} {n : Nat} {P : Program} {ops : Array Oper} {Q : Exit → Act → World → Prop} {a : Act} {w : World} {rest : List Oper} {o : Oper} {c : Call} {t u u2 : Tmp} {fn : Fn} {cap : Array Value} {x y : Value} {f : FuncId} {args : Array Value} {R : Ending → World → Prop}
    (hF : ∀ f, F.fn f) (hd : F.depth = none) (hg : o.guard = none) (ho : o.op = .call c) (hcal : c.callee = .value (.tmp t)) (hca : c.args = #[.tmp u, .tmp u2])
    (hv : a.tmps.getD t undef = .func fn #[] cap) (hx : a.tmps.getD u undef = x) (hy : a.tmps.getD u2 undef = y)
    (hi : (invoke (.fn fn cap) #[x, y]).run P w = .ok (.enter f args) w) (hc : CallsIn F (n - 1) P f args w R)
    (hR : ∀ e w', R e w' → ∃ v, e = .returned v ∧ wpListIn F n P ops Q rest (a.put o.dst v) w') :
    wpListIn F n P ops Q (o :: rest) a w := by
  refine wpListIn_plain hg fun K hK => ⟨fun f _ => hF f, ?_⟩
  have e1 : Oper.semAt F.round a.eval o = execOp a.eval o := by
    unfold Oper.semAt
    rw [ho]
    cases F.round <;> rfl
  have e2 : (execOp a.eval o).run P w = .ok (.enter f args) w := by
    have hv' : a.tmps[t]?.getD undef = .func fn #[] cap := by rw [← Array.getD_eq_getD_getElem?]; exact hv
    have hx' : a.tmps[u]?.getD undef = x := by rw [← Array.getD_eq_getD_getElem?]; exact hx
    have hy' : a.tmps[u2]?.getD undef = y := by rw [← Array.getD_eq_getD_getElem?]; exact hy
    simp only [execOp, ho]
    rw [Sem.run_bind]
    have e3 : (resolve a.eval c o.type).run P w = .ok { target := .fn fn cap, args := #[x, y] } w := by
      simp [resolve, hcal, hca, hv', hx', hy', Deferred.ofValue, go_sem]
    rw [e3]
    exact hi
  rw [e1, e2]
  refine ⟨fun h => (by rw [hd] at h; cases h), CallsIn.mono hc fun e w' hr => ?_⟩
  obtain ⟨v, rfl, hw⟩ := hR e w' hr
  exact hK _ _ hw
section
variable {w W : World}
theorem bnd_B (fd : Fn) (n : Int) : Calls Try.prog 35 #[.func fd #[] #[], .int .u64 n] w fun e w' => e = .returned (.func (.func 64) #[] #[.pointer (some ⟨w.heap.size, 0, none⟩), .pointer (some ⟨w.heap.size + 1, 0, none⟩)]) ∧ w'.heap[w.heap.size]? = some (.cells #[.func fd #[] #[]] 77 (0, 0)) ∧ w'.heap[w.heap.size + 1]? = some (.cells #[.int .u64 n] 22 (0, 0)) ∧ w'.heap.size = w.heap.size + 2 ∧ Below w.heap.size w w' := by
  go_enter Try.func35, Try.ntmps35
  go_wp2_with fail
  go_ret
  refine ⟨rfl, ?_, ?_, by simp, kp_alloc (kp_new _ _) _⟩
  · exact (Below.heap_alloc _ _ _ (by simp)).trans (heap_alloc_new w _)
  · have := heap_alloc_new (w.alloc (.cells #[.func fd #[] #[]] 77)) (.cells #[.int .u64 n] 22)
    rwa [World.size_alloc] at this
theorem bnd_E (fd : Fn) (n : Int) : Calls Try.prog 44 #[.func fd #[] #[], .int .u64 n] w fun e w' => e = .returned (.func (.func 71) #[] #[.pointer (some ⟨w.heap.size, 0, none⟩), .pointer (some ⟨w.heap.size + 1, 0, none⟩)]) ∧ w'.heap[w.heap.size]? = some (.cells #[.func fd #[] #[]] 86 (0, 0)) ∧ w'.heap[w.heap.size + 1]? = some (.cells #[.int .u64 n] 22 (0, 0)) ∧ w'.heap.size = w.heap.size + 2 ∧ Below w.heap.size w w' := by
  go_enter Try.func44, Try.ntmps44
  go_wp2_with fail
  go_ret
  refine ⟨rfl, ?_, ?_, by simp, kp_alloc (kp_new _ _) _⟩
  · exact (Below.heap_alloc _ _ _ (by simp)).trans (heap_alloc_new w _)
  · have := heap_alloc_new (w.alloc (.cells #[.func fd #[] #[]] 86)) (.cells #[.int .u64 n] 22)
    rwa [World.size_alloc] at this
theorem bnd1_B (r : Lr) (B0 B1 : Nat) (fd : Fn) (n : Int) (v : Bool) {f : FuncId} {args : Array Value} {R : World → Prop} (h0 : W.heap[B0]? = some (.cells #[.func fd #[] #[]] 77 (0, 0))) (h1 : W.heap[B1]? = some (.cells #[.int .u64 n] 22 (0, 0)))
    (hi : (invoke (.fn fd #[]) #[lkV r, .int .u64 n]).run Try.prog W = .ok (.enter f args) W) (hc : Calls Try.prog f args W fun e w' => e = .returned (.bool v) ∧ R w') :
    Calls Try.prog 64 #[lkV r, .pointer (some ⟨B0, 0, none⟩), .pointer (some ⟨B1, 0, none⟩)] W fun e w' => e = .returned (.bool v) ∧ R w' := by
  obtain ⟨q0, _⟩ := cellsAt h0 0 (v := .func fd #[] #[]) rfl
  obtain ⟨q1, _⟩ := cellsAt h1 0 (v := .int .u64 n) rfl
  have HC := Lib.hid hc
  have hFn : ∀ f, Fence.wide.fn f := fun _ => trivial
  have hDp : Fence.wide.depth = none := rfl
  clear h0 h1 hc
  generalize lkV r = la at *
  refine (callsIn_wide (n := 3)).1 ?_
  refine callsIn_of_wp Try.func64 rfl trivial ?_ rfl
  simp only [Try.ntmps64, List.size_toArray, List.length_cons, List.length_nil, Nat.reduceAdd, Nat.reduceSub, Array.replicate_succ, Array.replicate_zero, List.push_toArray, List.append_toArray, List.nil_append, List.cons_append]
  gi_wp2_with (with_reducible refine wpListIn_callv2 hFn hDp rfl rfl rfl rfl ?_ ?_ ?_ hi (callsIn_wide.2 HC.out) (fun e w3 he => ?_); rotate_left 3; obtain ⟨rfl, hr⟩ := he; refine ⟨_, rfl, ?_⟩; have HR := Lib.hid hr; clear hr)
  go_ret
  exact ⟨rfl, HR.out⟩
theorem bnd1_E (r : Lr) (B0 B1 : Nat) (fd : Fn) (n : Int) (v : Int) {f : FuncId} {args : Array Value} {R : World → Prop} (h0 : W.heap[B0]? = some (.cells #[.func fd #[] #[]] 86 (0, 0))) (h1 : W.heap[B1]? = some (.cells #[.int .u64 n] 22 (0, 0)))
    (hi : (invoke (.fn fd #[]) #[lkV r, .int .u64 n]).run Try.prog W = .ok (.enter f args) W) (hc : Calls Try.prog f args W fun e w' => e = .returned (.int .i64 v) ∧ R w') :
    Calls Try.prog 71 #[lkV r, .pointer (some ⟨B0, 0, none⟩), .pointer (some ⟨B1, 0, none⟩)] W fun e w' => e = .returned (.int .i64 v) ∧ R w' := by
  obtain ⟨q0, _⟩ := cellsAt h0 0 (v := .func fd #[] #[]) rfl
  obtain ⟨q1, _⟩ := cellsAt h1 0 (v := .int .u64 n) rfl
  have HC := Lib.hid hc
  have hFn : ∀ f, Fence.wide.fn f := fun _ => trivial
  have hDp : Fence.wide.depth = none := rfl
  clear h0 h1 hc
  generalize lkV r = la at *
  refine (callsIn_wide (n := 3)).1 ?_
  refine callsIn_of_wp Try.func71 rfl trivial ?_ rfl
  simp only [Try.ntmps71, List.size_toArray, List.length_cons, List.length_nil, Nat.reduceAdd, Nat.reduceSub, Array.replicate_succ, Array.replicate_zero, List.push_toArray, List.append_toArray, List.nil_append, List.cons_append]
  gi_wp2_with (with_reducible refine wpListIn_callv2 hFn hDp rfl rfl rfl rfl ?_ ?_ ?_ hi (callsIn_wide.2 HC.out) (fun e w3 he => ?_); rotate_left 3; obtain ⟨rfl, hr⟩ := he; refine ⟨_, rfl, ?_⟩; have HR := Lib.hid hr; clear hr)
  go_ret
  exact ⟨rfl, HR.out⟩
end
/-- what stays true of a pool, its ids told too -/
structure KInv (mo m : Int) (k : Nat) (p : Pl) : Prop where
  inv : PInv mo m p
  ids : IInv k p
  pos : ∀ h ∈ p.l, 1 ≤ h.id
section
variable {mo m : Int} {k : Nat} {p : Pl}
theorem KInv.new (hmo : 0 ≤ mo) (hm : 0 ≤ m) : KInv mo m 0 ⟨[], [], 0⟩ := ⟨PInv.new hmo hm, IInv.new, by simp⟩
theorem KInv.do (h : KInv mo m k p) (hk : k ≤ 1000) (idl : Int) (t : Act6) : KInv mo m (k + 1) (doP mo idl m t p) := by
  have hs := IStep.do h.ids hk mo idl m t
  refine ⟨h.inv.do idl t, hs.inv, fun x hx => ?_⟩
  rcases hs.old x hx with ⟨y, hy, e, _⟩ | e
  · rw [← e]
    exact h.pos y hy
  · have := h.ids.low
    omega
theorem KInv.ne (h : KInv mo m k p) : p.l.Pairwise fun a b => a.id ≠ b.id := h.ids.up.imp fun h => by omega
theorem KInv.swept (h : KInv mo m k p) : sweepP p = p := by unfold sweepP; rw [sweep_live h.inv.live]
theorem KInv.at_ (h : KInv mo m k p) {id : Int} (hf : ¬ findH id p.l < 0) : theH id p ∈ p.l := by
  obtain ⟨i, hi⟩ : ∃ i : Nat, findH id p.l = i := ⟨(findH id p.l).toNat, by omega⟩
  obtain ⟨h1, _⟩ := firstH_is hi
  have := h.inv.few
  unfold theH
  rw [hi]
  simp [List.getD_eq_getElem?_getD, h1]
end
theorem onH_congr {id : Int} {p : Pl} {f g : Hd → Hd} (he : f (theH id p) = g (theH id p)) : onH id f p = onH id g p := by
  unfold onH turnH
  congr 1
  refine List.ext_getElem (by simp) fun i h1 h2 => ?_
  rw [List.getElem_modify, List.getElem_modify]
  split
  · rename_i e
    have hi : i < p.l.length := by simpa using h1
    have : theH id p = p.l[i] := by
      unfold theH
      rw [List.getD_eq_getElem?_getD, e, List.getElem?_eq_getElem hi]
      rfl
    rw [← this, he]
  · rfl
end

/- The project's layer 10: Send, Reply, Soil, Release: contracts. -/
section
open Go.RowKit
set_option maxRecDepth 100000

section
variable {r : Lr} {W : World}
theorem inv_drain (h : LK W r) : ∃ f args, (invoke (.fn (.methodOf 66 "Drain") #[]) #[lkV r]).run Try.prog W = .ok (.enter f args) W ∧ Calls Try.prog f args W fun e w' => (∃ v, e = .returned v) ∧ LK w' (r.set (r.h.set r.h.c.drainC)) ∧ Off (lkS r) W w' := by
  have h1 := inv_named h "Drain" 33 #[] (by kernel_rfl) (enters_of Try.func33 (by kernel_rfl) rfl)
  simp only [Array.append_empty] at h1
  exact ⟨_, _, h1, (cdrain_ok h.c).mono fun _ _ ⟨he, ht⟩ => ⟨⟨_, he⟩, h.offs ht⟩⟩
theorem inv_soil (h : LK W r) : ∃ f args, (invoke (.fn (.methodOf 66 "Soil") #[]) #[lkV r]).run Try.prog W = .ok (.enter f args) W ∧ Calls Try.prog f args W fun e w' => e = .returned (.bool r.h.c.soilA) ∧ LK w' (r.set (r.h.set r.h.c.soilC)) ∧ Off (lkS r) W w' := by
  have h1 := inv_named h "Soil" 49 #[] (by kernel_rfl) (enters_of Try.func49 (by kernel_rfl) rfl)
  simp only [Array.append_empty] at h1
  exact ⟨_, _, h1, (csoil_ok h.c).mono fun _ _ ⟨he, ht⟩ => ⟨he, h.offs ht⟩⟩
theorem inv_break (h : LK W r) : ∃ f args, (invoke (.fn (.methodOf 66 "Break") #[]) #[lkV r]).run Try.prog W = .ok (.enter f args) W ∧ Calls Try.prog f args W fun e w' => e = .returned (.int .u64 r.h.c.f) ∧ LK w' (r.set (r.h.set r.h.c.breakC)) ∧ Off (lkS r) W w' := by
  have h1 := inv_named h "Break" 52 #[] (by kernel_rfl) (enters_of Try.func52 (by kernel_rfl) rfl)
  simp only [Array.append_empty] at h1
  exact ⟨_, _, h1, (cbreak_ok h.c).mono fun _ _ ⟨he, ht⟩ => ⟨he, h.offs ht⟩⟩
theorem inv_reply (n : Int) (h : LK W r) : (invoke (.fn (.methodOf 66 "Reply") #[]) #[lkV r, .int .u64 n]).run Try.prog W = .ok (.enter 36 #[.pointer (some ⟨r.a, 0, none⟩), .int .u64 n]) W := by
  have h1 := inv_named h "Reply" 36 #[.int .u64 n] (by kernel_rfl) (enters_of Try.func36 (by kernel_rfl) rfl)
  simpa only [List.append_toArray, List.cons_append, List.nil_append] using h1
theorem inv_send (n : Int) (h : LK W r) : (invoke (.fn (.methodOf 66 "Send") #[]) #[lkV r, .int .u64 n]).run Try.prog W = .ok (.enter 45 #[.pointer (some ⟨r.a, 0, none⟩), .int .u64 n]) W := by
  have h1 := inv_named h "Send" 45 #[.int .u64 n] (by kernel_rfl) (enters_of Try.func45 (by kernel_rfl) rfl)
  simpa only [List.append_toArray, List.cons_append, List.nil_append] using h1
theorem inv_give (n : Int) : (invoke (.fn (.func 46) #[]) #[lkV r, .int .u64 n]).run Try.prog W = .ok (.enter 46 #[lkV r, .int .u64 n]) W := by
  simp [invoke, go_sem]
end
section
variable {b : Nat} {mo idl m : Int} {k : Nat} {p : Pl} {S : Nat → Prop} {w : World}
/-- what is done with a number that is said ahead, of an id -/
theorem boundB (fd : Fn) (id n : Int) (ans : Hd → Bool) (pdo : Hd → Hd) (h : (PP b mo idl m p).p S w) (hk : KInv mo m k p)
    (hdo : ∀ r W, LK W r → ∃ f args, (invoke (.fn fd #[]) #[lkV r, .int .u64 n]).run Try.prog W = .ok (.enter f args) W ∧ Calls Try.prog f args W fun e w' => e = .returned (.bool (ans r.h)) ∧ LK w' (r.set (pdo r.h)) ∧ Off (lkS r) W w') (w1 : World)
    (q0 : w1.heap[w.heap.size]? = some (.cells #[.func fd #[] #[]] 77 (0, 0))) (q1 : w1.heap[w.heap.size + 1]? = some (.cells #[.int .u64 n] 22 (0, 0))) (qz : w1.heap.size = w.heap.size + 2) (hb : Below w.heap.size w w1) :
    Calls Try.prog 34 #[.pointer (some ⟨b, 0, none⟩), .int .i64 id, .func (.func 64) #[] #[.pointer (some ⟨w.heap.size, 0, none⟩), .pointer (some ⟨w.heap.size + 1, 0, none⟩)], .bool false] w1 fun e w' => e = .returned (.bool (if findH id p.l < 0 then false else ans (theH id p))) ∧ Turn (PP b mo idl m (if findH id p.l < 0 then p else sweepP (onH id pdo p))) S w w' := by
  have hSl := (PP b mo idl m p).lt h
  refine (done_B (T0 := fun j => j = w.heap.size ∨ j = w.heap.size + 1) id false (.func 64) #[.pointer (some ⟨w.heap.size, 0, none⟩), .pointer (some ⟨w.heap.size + 1, 0, none⟩)] (fun W => W.heap[w.heap.size]? = some (.cells #[.func fd #[] #[]] 77 (0, 0)) ∧ W.heap[w.heap.size + 1]? = some (.cells #[.int .u64 n] 22 (0, 0))) ans pdo (Thing.next h hb) ?_ ?_ ⟨q0, q1⟩ ?_ ?_ hk.ne).mono ?_
  · intro j hj hs
    have := hSl j hs
    omega
  · intro j hj
    omega
  · rintro W W' ⟨x0, x1⟩ hq
    exact ⟨(hq _ (.inl rfl)).trans x0, (hq _ (.inr rfl)).trans x1⟩
  · rintro r W hl ⟨x0, x1⟩
    obtain ⟨f, args, hi, hc⟩ := hdo r W hl
    exact ⟨_, _, by simp [invoke, go_sem], bnd1_B r _ _ fd n (ans r.h) x0 x1 hi hc⟩
  · rintro e w' ⟨he, hp, ho⟩
    refine ⟨he, ⟨S, ?_, fun _ h => .inl h⟩, (Off.of S hb).trans ho fun i hi => hi.elim .inl fun e => .inr (by omega)⟩
    by_cases hf : findH id p.l < 0
    · rw [if_pos hf] at hp ⊢
      rwa [hk.swept] at hp
    · rw [if_neg hf] at hp ⊢
      exact hp
theorem boundE (fd : Fn) (id n : Int) (ans : Hd → Int) (pdo : Hd → Hd) (h : (PP b mo idl m p).p S w) (hk : KInv mo m k p)
    (hdo : ∀ r W, LK W r → ∃ f args, (invoke (.fn fd #[]) #[lkV r, .int .u64 n]).run Try.prog W = .ok (.enter f args) W ∧ Calls Try.prog f args W fun e w' => e = .returned (.int .i64 (ans r.h)) ∧ LK w' (r.set (pdo r.h)) ∧ Off (lkS r) W w') (w1 : World)
    (q0 : w1.heap[w.heap.size]? = some (.cells #[.func fd #[] #[]] 86 (0, 0))) (q1 : w1.heap[w.heap.size + 1]? = some (.cells #[.int .u64 n] 22 (0, 0))) (qz : w1.heap.size = w.heap.size + 2) (hb : Below w.heap.size w w1) :
    Calls Try.prog 43 #[.pointer (some ⟨b, 0, none⟩), .int .i64 id, .func (.func 71) #[] #[.pointer (some ⟨w.heap.size, 0, none⟩), .pointer (some ⟨w.heap.size + 1, 0, none⟩)], .int .i64 6] w1 fun e w' => e = .returned (.int .i64 (if findH id p.l < 0 then 6 else ans (theH id p))) ∧ Turn (PP b mo idl m (if findH id p.l < 0 then p else sweepP (onH id pdo p))) S w w' := by
  have hSl := (PP b mo idl m p).lt h
  refine (done_E (T0 := fun j => j = w.heap.size ∨ j = w.heap.size + 1) id 6 (.func 71) #[.pointer (some ⟨w.heap.size, 0, none⟩), .pointer (some ⟨w.heap.size + 1, 0, none⟩)] (fun W => W.heap[w.heap.size]? = some (.cells #[.func fd #[] #[]] 86 (0, 0)) ∧ W.heap[w.heap.size + 1]? = some (.cells #[.int .u64 n] 22 (0, 0))) ans pdo (Thing.next h hb) ?_ ?_ ⟨q0, q1⟩ ?_ ?_ hk.ne).mono ?_
  · intro j hj hs
    have := hSl j hs
    omega
  · intro j hj
    omega
  · rintro W W' ⟨x0, x1⟩ hq
    exact ⟨(hq _ (.inl rfl)).trans x0, (hq _ (.inr rfl)).trans x1⟩
  · rintro r W hl ⟨x0, x1⟩
    obtain ⟨f, args, hi, hc⟩ := hdo r W hl
    exact ⟨_, _, by simp [invoke, go_sem], bnd1_E r _ _ fd n (ans r.h) x0 x1 hi hc⟩
  · rintro e w' ⟨he, hp, ho⟩
    refine ⟨he, ⟨S, ?_, fun _ h => .inl h⟩, (Off.of S hb).trans ho fun i hi => hi.elim .inl fun e => .inr (by omega)⟩
    by_cases hf : findH id p.l < 0
    · rw [if_pos hf] at hp ⊢
      rwa [hk.swept] at hp
    · rw [if_neg hf] at hp ⊢
      exact hp

set_option maxHeartbeats 2000000 in
theorem ppreply_ok (id n : Int) (hk : KInv mo m k p) (h : (PP b mo idl m p).p S w) :
    Calls Try.prog 15 #[.pointer (some ⟨b, 0, none⟩), .int .i64 id, .int .u64 n] w fun e w' => e = .returned (.bool (replyP id n p).2) ∧ Turn (PP b mo idl m (replyP id n p).1) S w w' := by
  have HB := Lib.hid (boundB (.methodOf 66 "Reply") id n (fun h => h.c.replyA n) (fun h => h.set (h.c.replyC n)) h hk fun r W hl => ⟨_, _, inv_reply n hl, (creply_ok n hl.c).mono fun _ _ ⟨he, ht⟩ => ⟨he, hl.offs ht⟩⟩)
  have e1 : (replyP id n p).2 = if findH id p.l < 0 then false else (theH id p).c.replyA n := by unfold replyP; split <;> rfl
  have e2 : (replyP id n p).1 = if findH id p.l < 0 then p else sweepP (onH id (fun h => h.set (h.c.replyC n)) p) := by unfold replyP; split <;> rfl
  rw [e1, e2]
  clear h hk e1 e2
  generalize (if findH id p.l < 0 then false else (theH id p).c.replyA n) = v at *
  generalize (if findH id p.l < 0 then p else sweepP (onH id (fun h => h.set (h.c.replyC n)) p)) = p2 at *
  go_enter Try.func15, Try.ntmps15
  go_wp2_with fail
  refine (bnd_B _ _).mono ?_
  rintro e w1 ⟨rfl, q0, q1, qz, hb⟩
  have HC := Lib.hid (HB.out w1 q0 q1 qz hb)
  clear q0 q1 qz hb HB
  go_wp2_with fail
  refine HC.out.mono ?_
  rintro e w2 ⟨rfl, ht⟩
  have HT := Lib.hid ht
  clear ht HC
  go_wp2_with fail
  go_ret
  exact ⟨rfl, HT.out⟩
set_option maxHeartbeats 2000000 in
theorem ppsend_ok (id n : Int) (hk : KInv mo m k p) (h : (PP b mo idl m p).p S w) :
    Calls Try.prog 20 #[.pointer (some ⟨b, 0, none⟩), .int .i64 id, .int .u64 n] w fun e w' => e = .returned (.int .i64 (sendP id n p).2) ∧ Turn (PP b mo idl m (sendP id n p).1) S w w' := by
  have HB := Lib.hid (boundE (.methodOf 66 "Send") id n (fun h => h.c.sendA n) (fun h => h.set (h.c.sendC n)) h hk fun r W hl => ⟨_, _, inv_send n hl, (csend_ok n hl.c).mono fun _ _ ⟨he, ht⟩ => ⟨he, hl.offs ht⟩⟩)
  have e1 : (sendP id n p).2 = if findH id p.l < 0 then 6 else (theH id p).c.sendA n := by unfold sendP; split <;> rfl
  have e2 : (sendP id n p).1 = if findH id p.l < 0 then p else sweepP (onH id (fun h => h.set (h.c.sendC n)) p) := by
    unfold sendP
    split
    · rfl
    · rw [on_live hk.inv.live (fun x hx => by
        have h1 : x.c.s ≠ 4 := by simpa [Hd.live] using hx
        simpa [Hd.live, Hd.set] using (live_of h1 n).1) id]
  rw [e1, e2]
  clear h hk e1 e2
  generalize (if findH id p.l < 0 then 6 else (theH id p).c.sendA n) = v at *
  generalize (if findH id p.l < 0 then p else sweepP (onH id (fun h => h.set (h.c.sendC n)) p)) = p2 at *
  go_enter Try.func20, Try.ntmps20
  go_wp2_with fail
  refine (bnd_E _ _).mono ?_
  rintro e w1 ⟨rfl, q0, q1, qz, hb⟩
  have HC := Lib.hid (HB.out w1 q0 q1 qz hb)
  clear q0 q1 qz hb HB
  go_wp2_with fail
  refine HC.out.mono ?_
  rintro e w2 ⟨rfl, ht⟩
  have HT := Lib.hid ht
  clear ht HC
  go_wp2_with fail
  go_ret
  exact ⟨rfl, HT.out⟩
set_option maxHeartbeats 2000000 in
theorem pprelease_ok (id now : Int) (hk : KInv mo m k p) (h : (PP b mo idl m p).p S w) :
    Calls Try.prog 21 #[.pointer (some ⟨b, 0, none⟩), .int .i64 id, .int .u64 now] w fun e w' => e = .returned (.bool (releaseP id now p).2) ∧ Turn (PP b mo idl m (releaseP id now p).1) S w w' := by
  have HB := Lib.hid (boundB (.func 46) id now (fun h => h.c.releaseA) (giveH now) h hk fun r W hl => ⟨_, _, inv_give now, giveBack_ok now hl⟩)
  have e1 : (releaseP id now p).2 = if findH id p.l < 0 then false else (theH id p).c.releaseA := by
    unfold releaseP
    split
    · rfl
    split
    · rename_i h1; rw [h1]
    · rename_i h1; simp only [Bool.not_eq_true] at h1; rw [h1]
  have e2 : (releaseP id now p).1 = if findH id p.l < 0 then p else sweepP (onH id (giveH now) p) := by
    unfold releaseP
    split
    · rfl
    split
    · rename_i h1
      rw [onH_congr (g := giveH now) (by unfold giveH; rw [if_pos h1])]
    · rename_i h1
      rw [onH_congr (f := giveH now) (g := fun h => h) (by unfold giveH; rw [if_neg h1]), onH_none, hk.swept]
  rw [e1, e2]
  clear h hk e1 e2
  generalize (if findH id p.l < 0 then false else (theH id p).c.releaseA) = v at *
  generalize (if findH id p.l < 0 then p else sweepP (onH id (giveH now) p)) = p2 at *
  go_enter Try.func21, Try.ntmps21
  go_wp2_with fail
  refine (bnd_B _ _).mono ?_
  rintro e w1 ⟨rfl, q0, q1, qz, hb⟩
  have HC := Lib.hid (HB.out w1 q0 q1 qz hb)
  clear q0 q1 qz hb HB
  go_wp2_with fail
  refine HC.out.mono ?_
  rintro e w2 ⟨rfl, ht⟩
  have HT := Lib.hid ht
  clear ht HC
  go_wp2_with fail
  go_ret
  exact ⟨rfl, HT.out⟩
set_option maxHeartbeats 2000000 in
theorem ppsoil_ok (id : Int) (hk : KInv mo m k p) (h : (PP b mo idl m p).p S w) :
    Calls Try.prog 25 #[.pointer (some ⟨b, 0, none⟩), .int .i64 id] w fun e w' => e = .returned (.bool (soilP id p).2) ∧ Turn (PP b mo idl m (soilP id p).1) S w w' := by
  have HC := Lib.hid (done_B (T0 := fun _ => False) id false (.methodOf 66 "Soil") #[] (fun _ => True) (fun h => h.c.soilA) (fun h => h.set h.c.soilC) h (fun _ h => h.elim) (fun _ h => h.elim) trivial (fun _ _ _ _ => trivial) (fun r W hl _ => inv_soil hl) hk.ne)
  have e1 : (soilP id p).2 = if findH id p.l < 0 then false else (theH id p).c.soilA := by unfold soilP; split <;> rfl
  have e2 : (soilP id p).1 = sweepP (if findH id p.l < 0 then p else onH id (fun h => h.set h.c.soilC) p) := by
    unfold soilP
    split
    · rw [hk.swept]
    · rw [on_live hk.inv.live (fun x hx => by
        have h1 : x.c.s ≠ 4 := by simpa [Hd.live] using hx
        simpa [Hd.live, Hd.set] using (live_of h1 0).2) id]
  rw [e1, e2]
  clear h hk e1 e2
  generalize (if findH id p.l < 0 then false else (theH id p).c.soilA) = v at *
  generalize sweepP (if findH id p.l < 0 then p else onH id (fun h => h.set h.c.soilC) p) = p2 at *
  go_enter Try.func25, Try.ntmps25
  go_wp2_with fail
  refine HC.out.mono ?_
  rintro e w2 ⟨rfl, hp, ho⟩
  have HT : Hid (Turn (PP b mo idl m p2) S w w2) := Lib.hid ⟨⟨S, hp, fun _ h => .inl h⟩, ho.wide fun i hi => hi.elim (fun e => e) fun e => e.elim⟩
  clear hp ho HC
  go_wp2_with fail
  go_ret
  exact ⟨rfl, HT.out⟩
end
end

/- Connections: what follows of their end, as plain mathematics (no function of the program is named here). -/
section
open Go.RowKit
set_option maxRecDepth 100000

namespace Cn
theorem closed_do (t : Act3) {c : Cn} (h : c.s = 4) : (c.doC t).s = 4 := by
  cases c with
  | idle e n | lent o f e n | drains o f e n => exact absurd h (by simp [Cn.s])
  | closed e n =>
    obtain ⟨d, x, y⟩ := t
    unfold doC
    dsimp only
    (repeat' split) <;> rfl
theorem ends_do (t : Act3) {c : Cn} (h : c.s = 3 ∨ c.s = 4) : ((c.doC t).s = 3 ∨ (c.doC t).s = 4) ∧ (t.d = 1 → (c.doA t).e ≠ 0) := by
  obtain ⟨d, x, y⟩ := t
  cases c with
  | idle e n | lent o f e n => exact absurd h (by simp [Cn.s])
  | closed e n =>
    refine ⟨.inr (closed_do _ rfl), fun h1 => ?_⟩
    dsimp only at h1
    subst h1
    show sendA y (.closed e n) ≠ 0
    simp only [sendA]
    split <;> decide
  | drains o f e n =>
    refine ⟨?_, fun h1 => ?_⟩
    · unfold doC
      dsimp only
      (repeat' split) <;> first | exact .inl rfl | exact .inr rfl | (simp only [replyC]; split <;> first | exact .inl rfl | exact .inr rfl)
    · dsimp only at h1
      subst h1
      show sendA y (.drains o f e n) ≠ 0
      simp only [sendA]
      split <;> decide
theorem dirty_do (t : Act3) {c : Cn} (h : c.d = true ∧ c.s ≠ 1) : (c.doC t).d = true ∧ (c.doC t).s ≠ 1 := by
  obtain ⟨d, x, y⟩ := t
  cases c with
  | idle e n => exact absurd rfl h.2
  | closed e n =>
    unfold doC
    dsimp only
    (repeat' split) <;> exact h
  | drains o f e n =>
    obtain rfl : e = true := h.1
    unfold doC
    dsimp only
    (repeat' split) <;> first | exact ⟨rfl, (by decide : ¬ (3 : Int) = 1)⟩ | exact ⟨rfl, (by decide : ¬ (4 : Int) = 1)⟩ | (simp only [replyC]; split <;> first | exact ⟨rfl, (by decide : ¬ (3 : Int) = 1)⟩ | exact ⟨rfl, (by decide : ¬ (4 : Int) = 1)⟩)
  | lent o f e n =>
    obtain rfl : e = true := h.1
    unfold doC
    dsimp only
    (repeat' split) <;> (try simp only [lendC, sendC, replyC, soilC, releaseC, drainC, breakC]) <;> (repeat' split) <;> first | exact ⟨rfl, (by decide : ¬ (2 : Int) = 1)⟩ | exact ⟨rfl, (by decide : ¬ (3 : Int) = 1)⟩ | exact ⟨rfl, (by decide : ¬ (4 : Int) = 1)⟩ | (exfalso; simp_all)
theorem soil_do {c : Cn} (h : c.soilA = true) : c.soilC.d = true ∧ c.soilC.s ≠ 1 := by
  cases c with
  | lent o f e n => exact ⟨rfl, (by decide : ¬ (2 : Int) = 1)⟩
  | idle e n | drains o f e n | closed e n => cases h
theorem drain_do {c : Cn} (h : c.ok) : (c.drainC.s = 3 ∧ c.drainC.f ≠ 0) ∨ (c.drainC.s = 4 ∧ c.drainC.f = 0) := by
  cases c with
  | idle e n | closed e n => exact .inr ⟨rfl, rfl⟩
  | drains o f e n => exact .inl ⟨rfl, h.2⟩
  | lent o f e n =>
    simp only [drainC]
    split
    · exact .inr ⟨rfl, rfl⟩
    · exact .inl ⟨rfl, by assumption⟩
end Cn
end

/- Pools: behind Drain; what is reaped: as plain mathematics (no function of the program is named here). -/
section
open Go.RowKit
set_option maxRecDepth 100000

/-- one that ends goes on ending -/
def Ending1 (h h' : Hd) : Prop := h'.ep = h.ep ∧ (h.c.s = 3 ∨ h.c.s = 4 → h'.c.s = 3 ∨ h'.c.s = 4)
theorem Ending1.refl (h : Hd) : Ending1 h h := ⟨rfl, fun e => e⟩
theorem ending_do (t : Act3) (h : Hd) : Ending1 h (h.set (h.c.doC t)) := ⟨rfl, fun e => (Cn.ends_do t e).1⟩
theorem ending_send (n : Int) (h : Hd) : Ending1 h (h.set (h.c.sendC n)) := ending_do ⟨1, 0, n⟩ h
theorem ending_reply (n : Int) (h : Hd) : Ending1 h (h.set (h.c.replyC n)) := ending_do ⟨2, 0, n⟩ h
theorem ending_soil (h : Hd) : Ending1 h (h.set h.c.soilC) := ending_do ⟨3, 0, 0⟩ h
theorem ending_release (now : Int) (h : Hd) : Ending1 h { h with c := h.c.releaseC, t := now } := ending_do ⟨4, 0, 0⟩ h
theorem ending_drain (h : Hd) : Ending1 h (h.set h.c.drainC) := ending_do ⟨5, 0, 0⟩ h
theorem ending_break (h : Hd) : Ending1 h (h.set h.c.breakC) := ending_do ⟨6, 0, 0⟩ h
theorem ending_cut1 (ep : Int) (h : Hd) : Ending1 h (cut1 ep h) := by
  unfold cut1
  split
  · exact ending_drain h
  · exact Ending1.refl h
theorem ending_drain1 (ep : Int) (h : Hd) : Ending1 h (drain1 ep h) := by
  unfold drain1
  split
  · exact ending_drain h
  · exact Ending1.refl h
theorem ending_reap1 (idl now : Int) (h : Hd) : Ending1 h (reap1 idl now h) := by
  unfold reap1
  split
  · exact ending_drain h
  · exact Ending1.refl h
/-- those of another epoch drain -/
def DInv (ep : Int) (l : List Hd) : Prop := ∀ h ∈ l, h.ep ≠ ep → h.c.s = 3
theorem live_not4 {h : Hd} (e : h.live = true) : h.c.s ≠ 4 := by simpa [Hd.live] using e
theorem DInv.ending {ep : Int} {l l' : List Hd} (h : DInv ep l) (he : Each2 Ending1 l l') : DInv ep (sweepH l') := fun x hx hne => by
  obtain ⟨h1, h2⟩ := List.mem_filter.1 hx
  obtain ⟨y, hy, r1, r2⟩ := he.mem x h1
  rcases r2 (.inl (h y hy (r1 ▸ hne))) with e | e
  · exact e
  · exact absurd e (live_not4 h2)
theorem DInv.drain {mo m : Int} {p : Pl} (h : PInv mo m p) (ep : Int) : DInv ep (drainP ep p).l := fun x hx hne => by
  obtain ⟨h1, h2⟩ := List.mem_filter.1 hx
  obtain ⟨y, hy, rfl⟩ := List.mem_map.1 h1
  have he : y.ep ≠ ep := by
    intro e
    apply hne
    unfold drain1
    split
    · exact e
    · exact e
  have hd : drain1 ep y = y.set y.c.drainC := if_pos he
  rw [hd] at h2 ⊢
  rcases Cn.drain_do (h.ok y hy) with e | e
  · exact e.1
  · exact absurd e.1 (live_not4 h2)
section
variable {mo m ep : Int} {p : Pl}
theorem DInv.give (h : DInv ep p.l) (mo ss now : Int) : DInv ep (giveP mo ss ep now p).l := by
  have h1 := h.ending (Each2.map (ending_cut1 ep) p.l)
  unfold giveP
  dsimp only
  generalize sweepH (p.l.map (cut1 ep)) = l1 at *
  split
  · rename_i hi
    intro x hx hne
    obtain ⟨i, hii⟩ : ∃ i : Nat, firstH Hd.idle l1 = i := ⟨(firstH Hd.idle l1).toNat, by omega⟩
    obtain ⟨hil, hid⟩ := firstH_is hii
    have ht : turnH l1 (firstH Hd.idle l1) (fun h => h.set (h.c.lendC ss)) = l1.set i (l1[i].set (l1[i].c.lendC ss)) := by
      rw [hii]
      unfold turnH
      rw [Int.toNat_natCast]
      refine List.ext_getElem (by simp) fun j h1 h2 => ?_
      rw [List.getElem_modify, List.getElem_set]
      split
      · rename_i e; subst e; rfl
      · rfl
    dsimp only at hx
    rw [ht] at hx
    rcases List.mem_or_eq_of_mem_set hx with hx | rfl
    · exact h1 x hx hne
    · have h3 := h1 l1[i] (List.getElem_mem hil) hne
      have h4 : l1[i].c.s = 1 := by simpa [Hd.idle] using hid
      omega
  split
  · exact h1
  · intro x hx hne
    rcases List.mem_append.1 hx with hx | hx
    · exact h1 x hx hne
    · obtain rfl := List.mem_singleton.1 hx
      exact absurd rfl hne
theorem DInv.do (hp : PInv mo m p) (h : DInv ep p.l) (idl : Int) (t : Act6) (ht : t.ep = ep) : DInv ep (doP mo idl m t p).l := by
  subst ht
  have hon : ∀ (f : Hd → Hd) (id : Int), (∀ x, Ending1 x (f x)) → DInv t.ep (sweepP (onH id f p)).l := fun f id hf => h.ending (Each2.modify Ending1.refl hf _ _)
  unfold doP
  split
  · unfold acqP
    split
    · exact h
    split
    · exact h
    split
    · exact h
    split
    · split
      · exact h.give _ _ _
      · exact h.give _ _ _
    · exact h
  split
  · unfold serveP
    split
    · exact h
    · split
      · exact h.give _ _ _
      · exact h.give _ _ _
  split
  · exact h
  split
  · unfold sendP
    split
    · exact h
    · rw [← on_live hp.live (fun x hx => by
        have h1 : x.c.s ≠ 4 := by simpa [Hd.live] using hx
        simpa [Hd.live, Hd.set] using (live_of h1 t.n).1) t.id]
      exact hon _ _ (ending_send _)
  split
  · unfold replyP
    split
    · exact h
    · exact hon _ _ (ending_reply _)
  split
  · unfold soilP
    split
    · exact h
    · rw [← on_live hp.live (fun x hx => by
        have h1 : x.c.s ≠ 4 := by simpa [Hd.live] using hx
        simpa [Hd.live, Hd.set] using (live_of h1 0).2) t.id]
      exact hon _ _ ending_soil
  split
  · unfold releaseP
    split
    · exact h
    split
    · exact hon _ _ (ending_release _)
    · exact h
  split
  · unfold breakP
    split
    · exact h
    · exact hon _ _ ending_break
  split
  · exact h.ending (Each2.map (ending_drain1 _) _)
  split
  · exact h.ending (Each2.map (ending_reap1 _ _) _)
  · exact h
end
/-- what is reaped is out, and nothing else; then nothing is left to be reaped -/
theorem reap_kept (idl now : Int) : ∀ l : List Hd, (∀ h ∈ l, h.live = true ∧ h.c.ok) → sweepH (l.map (reap1 idl now)) = l.filter fun h => !isOld idl now h
  | [], _ => rfl
  | x :: r, hl => by
    have ih := reap_kept idl now r fun h hh => hl h (List.mem_cons_of_mem _ hh)
    obtain ⟨hx, hok⟩ := hl x List.mem_cons_self
    unfold sweepH at ih ⊢
    rw [List.map_cons, List.filter_cons, List.filter_cons, ih]
    cases ho : isOld idl now x with
    | true =>
      have h1 : x.c.s = 1 := by
        unfold isOld at ho
        simp only [Bool.and_eq_true, beq_iff_eq] at ho
        exact ho.1.1
      have h2 : (reap1 idl now x).live = false := by
        unfold reap1
        rw [ho, if_pos rfl]
        have : x.c.drainC.s = 4 := by
          revert h1
          cases x.c <;> simp [Cn.s, Cn.drainC]
        simp [Hd.live, Hd.set, this]
      rw [h2]
      simp
    | false =>
      have h2 : reap1 idl now x = x := by
        unfold reap1
        rw [ho]
        rfl
      rw [h2, hx]
      simp
end

/- The project's layer 10: Drain, Reap, Break, Leave, Waiting: contracts. -/
section
open Go.RowKit
set_option maxRecDepth 100000

section
variable {r : Lr} {W : World}
theorem drain1_is (B : Nat) (ep : Int) (h : LK W r) (hB : W.heap[B]? = some (.cells #[.int .u64 ep] 22 (0, 0))) : Calls Try.prog 31 #[lkV r, .pointer (some ⟨B, 0, none⟩)] W fun e w' => e = .returned (.bool (r.h.ep != ep)) ∧ Below W.heap.size W w' := by
  obtain ⟨⟨c0, _, _⟩, _⟩ := h.cells
  obtain ⟨x0, _⟩ := cellsAt hB 0 (v := .int .u64 ep) rfl
  have HQ : Hid (∀ q, Calls Try.prog 32 #[.pointer (some ⟨r.a, 0, none⟩)] (W.drewN q) fun e w' => e = .returned (.int .u64 r.h.ep) ∧ w' = W.drewN q) := Lib.hid fun q => (cepoch_ok ((CC r.a r.h.ep r.h.c).next h.c (kp_drewN W q))).mono fun _ _ ⟨h1, h2⟩ => ⟨h1, h2.symm⟩
  unfold lkV
  clear h hB
  generalize r.h.ep = i at *
  generalize r.l = l at *
  generalize r.a = a at *
  go_enter Try.func31, Try.ntmps31
  go_wp2_with fail
  go_quiet (first | (go_at_call 32; exact Calls.quiet_of_same (HQ.out _)))
  go_wp2_with fail
  go_ret
  exact ⟨rfl, kp_drewN _ _⟩
set_option maxHeartbeats 1000000 in
theorem reap1_is (B B2 b : Nat) (now idl : Int) (h : LK W r) (hB : W.heap[B]? = some (.cells #[.int .u64 now] 22 (0, 0))) (hB2 : W.heap[B2]? = some (.cells #[.pointer (some ⟨b, 0, none⟩)] 25 (0, 0))) (hb : W.cell? ⟨b, 3, none⟩ = some (.int .u64 idl)) :
    Calls Try.prog 37 #[lkV r, .pointer (some ⟨B, 0, none⟩), .pointer (some ⟨B2, 0, none⟩)] W fun e w' => e = .returned (.bool (isOld idl now r.h)) ∧ Below W.heap.size W w' := by
  obtain ⟨⟨_, _, c2⟩, _⟩ := h.cells
  obtain ⟨x0, _⟩ := cellsAt hB 0 (v := .int .u64 now) rfl
  obtain ⟨x1, _⟩ := cellsAt hB2 0 (v := .pointer (some ⟨b, 0, none⟩)) rfl
  have hold : isOld idl now r.h = (r.h.idle && decide (r.h.t ≤ now) && decide (idl ≤ IntKind.u64.wrap (now - r.h.t))) := rfl
  rw [hold]
  have HQ : Hid (∀ q, Calls Try.prog 38 #[lkV r] (W.drewN q) fun e w' => e = .returned (.bool r.h.idle) ∧ w' = W.drewN q) := Lib.hid fun q => (isIdle_ok (h.next (kp_drewN W q))).mono fun _ _ ⟨h1, h2⟩ => ⟨h1, h2.symm⟩
  clear h hB hB2 hold
  unfold lkV at HQ ⊢
  generalize r.h.t = t at *
  generalize r.l = l at *
  cases hi : r.h.idle with
  | false =>
    rw [hi] at HQ
    clear hi
    go_enter Try.func37, Try.ntmps37
    go_wp2_with fail
    go_quiet (first | (go_at_call 38; exact Calls.quiet_of_same (HQ.out _)))
    go_wp2_with fail
    go_ret
    exact ⟨rfl, kp_drewN _ _⟩
  | true =>
    rw [hi] at HQ
    clear hi
    by_cases h1 : t ≤ now
    · have d1 : decide (t ≤ now) = true := decide_eq_true h1
      rw [d1]
      by_cases h2 : idl ≤ IntKind.u64.wrap (now - t)
      · have d2 : decide (idl ≤ IntKind.u64.wrap (now - t)) = true := decide_eq_true h2
        rw [d2]
        clear h1 h2
        go_enter Try.func37, Try.ntmps37
        go_wp2_with fail
        go_quiet (first | (go_at_call 38; exact Calls.quiet_of_same (HQ.out _)))
        go_wp2_with fail
        go_ret
        exact ⟨rfl, kp_drewN _ _⟩
      · have d2 : decide (idl ≤ IntKind.u64.wrap (now - t)) = false := decide_eq_false h2
        rw [d2]
        clear h1 h2
        go_enter Try.func37, Try.ntmps37
        go_wp2_with fail
        go_quiet (first | (go_at_call 38; exact Calls.quiet_of_same (HQ.out _)))
        go_wp2_with fail
        go_ret
        exact ⟨rfl, kp_drewN _ _⟩
    · have d1 : decide (t ≤ now) = false := decide_eq_false h1
      rw [d1]
      clear h1
      go_enter Try.func37, Try.ntmps37
      go_wp2_with fail
      go_quiet (first | (go_at_call 38; exact Calls.quiet_of_same (HQ.out _)))
      go_wp2_with fail
      go_ret
      exact ⟨rfl, kp_drewN _ _⟩
end
section
variable {b : Nat} {mo idl m : Int} {k : Nat} {p : Pl} {S : Nat → Prop} {w : World}
set_option maxHeartbeats 2000000 in
theorem ppdrain_ok (ep : Int) (h : (PP b mo idl m p).p S w) :
    Calls Try.prog 14 #[.pointer (some ⟨b, 0, none⟩), .int .u64 ep] w fun e w' => e = .returned (.tuple #[]) ∧ Turn (PP b mo idl m (drainP ep p)) S w w' := by
  have hSl := (PP b mo idl m p).lt h
  have HC : Hid (Calls Try.prog 30 #[.pointer (some ⟨b, 0, none⟩), .func (.func 31) #[] #[.pointer (some ⟨w.heap.size, 0, none⟩)], .func (.methodOf 66 "Drain") #[] #[]] (w.alloc (.cells #[.int .u64 ep] 22)) fun e w' => (∃ v, e = .returned v) ∧ Turn (PP b mo idl m (drainP ep p)) S w w') := Lib.hid (by
    have hk : Below w.heap.size w (w.alloc (.cells #[.int .u64 ep] 22)) := kp_new _ _
    refine (each_ok (T := fun j => j = w.heap.size) (.func 31) (.methodOf 66 "Drain") #[.pointer (some ⟨w.heap.size, 0, none⟩)] #[] (fun h => h.ep != ep) (fun h => h.set h.c.drainC) (fun _ s => s) (fun (_ : Unit) W => W.heap[w.heap.size]? = some (.cells #[.int .u64 ep] 22 (0, 0))) ()
      (Thing.next h hk) ?_ ?_ (heap_alloc_new _ _) ?_ ?_ ?_).mono ?_
    · intro j hj hs
      have := hSl j hs
      omega
    · intro j hj
      subst hj
      simp
    · intro _ W W' hz hq
      exact (hq _ rfl).trans hz
    · intro r _ W hl hz _
      exact ⟨_, _, by simp [invoke, go_sem], drain1_is _ ep hl hz⟩
    · intro r _ W hl hz hTn _
      obtain ⟨f, args, h1, h2⟩ := inv_drain hl
      refine ⟨f, args, h1, h2.mono ?_⟩
      rintro e w' ⟨hv, k1, k2⟩
      exact ⟨hv, k1, (k2.block _ (Array.getElem?_eq_some_iff.1 hz).1 fun e => hTn _ e rfl).trans hz, k2.wide fun _ h => .inl h⟩
    · rintro e w' ⟨hv, _, hp, ho⟩
      have e1 : ({ p with l := sweepH (p.l.map fun h => if (h.ep != ep) = true then h.set h.c.drainC else h) } : Pl) = drainP ep p := by
        unfold drainP
        have : (fun h : Hd => if (h.ep != ep) = true then h.set h.c.drainC else h) = drain1 ep := by
          funext h
          simp [drain1]
        rw [this]
      rw [e1] at hp
      exact ⟨hv, ⟨⟨S, hp, fun _ h => .inl h⟩, (Off.of S hk).trans ho fun i hi => hi.elim .inl fun e => .inr (by omega)⟩⟩)
  clear h hSl
  go_enter Try.func14, Try.ntmps14
  go_wp2_with fail
  refine HC.out.mono ?_
  rintro e w1 ⟨⟨v, rfl⟩, ht⟩
  have HT := Lib.hid ht
  clear ht HC
  go_wp2_with fail
  go_end0
  exact ⟨rfl, HT.out⟩
theorem filter_not_len {α : Type} (f : α → Bool) (l : List α) : (l.filter fun x => !f x).length + (l.filter f).length = l.length := by
  induction l with
  | nil => rfl
  | cons x r ih => cases h : f x <;> simp [h] <;> omega
set_option maxHeartbeats 4000000 in
theorem ppreap_ok (now : Int) (hk : KInv mo m k p) (h : (PP b mo idl m p).p S w) :
    Calls Try.prog 16 #[.pointer (some ⟨b, 0, none⟩), .int .u64 now] w fun e w' => e = .returned (.int .i64 (reapP idl now p).2) ∧ Turn (PP b mo idl m (reapP idl now p).1) S w w' := by
  have hSl := (PP b mo idl m p).lt h
  obtain ⟨rs, A, n, c, rb, SR, hP⟩ := PP.at_ h
  obtain ⟨hrl, hpl, hn6⟩ := hP.len
  have hlen : ((reapP idl now p).1.l.length : Int) = (n : Int) - (reapP idl now p).2 := by
    have e1 : (reapP idl now p).1.l = p.l.filter fun h => !isOld idl now h := reap_kept idl now p.l fun h hh => ⟨hk.inv.live h hh, hk.inv.ok h hh⟩
    have e2 : (reapP idl now p).2 = ((p.l.filter (isOld idl now)).length : Int) := rfl
    have e3 := filter_not_len (isOld idl now) p.l
    rw [e1, e2]
    omega
  obtain ⟨w2, hw2⟩ : ∃ u, (w.alloc (.cells #[.pointer (some ⟨b, 0, none⟩)] 25)).alloc (.cells #[.int .u64 now] 22) = u := ⟨_, rfl⟩
  have hk2 : Below w.heap.size w w2 := hw2 ▸ kp_alloc (kp_new _ _) _
  have x0 : w2.heap[w.heap.size]? = some (.cells #[.pointer (some ⟨b, 0, none⟩)] 25 (0, 0)) := by
    rw [← hw2]
    exact (Below.heap_alloc _ _ _ (by simp)).trans (heap_alloc_new w _)
  have x1 : w2.heap[w.heap.size + 1]? = some (.cells #[.int .u64 now] 22 (0, 0)) := by
    rw [← hw2]
    have := heap_alloc_new (w.alloc (.cells #[.pointer (some ⟨b, 0, none⟩)] 25)) (.cells #[.int .u64 now] 22)
    rwa [World.size_alloc] at this
  have hP2 := hP.keep (fun j hj => hk2.block j (hSl j hj)) hk2.size
  have hz2 : w2.heap.size = w.heap.size + 2 := by rw [← hw2]; simp
  have y0 := (cellsAt x0 0 (v := .pointer (some ⟨b, 0, none⟩)) rfl).1
  obtain ⟨⟨d0, _⟩, _⟩ := ppcells hP2.top
  have HC : Hid (Calls Try.prog 30 #[.pointer (some ⟨b, 0, none⟩), .func (.func 37) #[] #[.pointer (some ⟨w.heap.size + 1, 0, none⟩), .pointer (some ⟨w.heap.size, 0, none⟩)], .func (.methodOf 66 "Drain") #[] #[]] w2 fun e w' => (∃ v, e = .returned v) ∧ Turn (PP b mo idl m (reapP idl now p).1) S w w' ∧ w'.cell? ⟨w.heap.size, 0, none⟩ = some (.pointer (some ⟨b, 0, none⟩)) ∧ ∃ A2 n2 c2, w'.cell? ⟨b, 0, none⟩ = some (.slice A2 n2 c2) ∧ (n2 : Int) = (n : Int) - (reapP idl now p).2 ∧ n2 ≤ 6) := Lib.hid (by
    refine (each_ok (T := fun j => j = w.heap.size ∨ j = w.heap.size + 1) (.func 37) (.methodOf 66 "Drain") #[.pointer (some ⟨w.heap.size + 1, 0, none⟩), .pointer (some ⟨w.heap.size, 0, none⟩)] #[] (isOld idl now) (fun h => h.set h.c.drainC) (fun _ s => s) (fun (_ : Unit) W => W.heap[w.heap.size]? = some (.cells #[.pointer (some ⟨b, 0, none⟩)] 25 (0, 0)) ∧ W.heap[w.heap.size + 1]? = some (.cells #[.int .u64 now] 22 (0, 0))) ()
      (Thing.next h hk2) ?_ ?_ ⟨x0, x1⟩ ?_ ?_ ?_).mono ?_
    · intro j hj hs
      have := hSl j hs
      omega
    · intro j hj
      omega
    · intro _ W W' hz hq
      exact ⟨(hq _ (.inl rfl)).trans hz.1, (hq _ (.inr rfl)).trans hz.2⟩
    · intro r _ W hl hz hb
      have hc := (ppcells ((hb.trans hP2.top))).1.2.2.2.1
      exact ⟨_, _, by simp [invoke, go_sem], reap1_is _ _ b now idl hl hz.2 hz.1 hc⟩
    · intro r _ W hl hz hTn _
      obtain ⟨f, args, h1, h2⟩ := inv_drain hl
      refine ⟨f, args, h1, h2.mono ?_⟩
      rintro e w' ⟨hv, k1, k2⟩
      exact ⟨hv, k1, ⟨(k2.block _ (Array.getElem?_eq_some_iff.1 hz.1).1 fun e => hTn _ e (.inl rfl)).trans hz.1, (k2.block _ (Array.getElem?_eq_some_iff.1 hz.2).1 fun e => hTn _ e (.inr rfl)).trans hz.2⟩, k2.wide fun _ h => .inl h⟩
    · rintro e w' ⟨hv, hz, hp, ho⟩
      have e1 : ({ p with l := sweepH (p.l.map fun h => if isOld idl now h = true then h.set h.c.drainC else h) } : Pl) = (reapP idl now p).1 := rfl
      rw [e1] at hp
      obtain ⟨rs', A2, n2, c2, rb', SR', hP'⟩ := PP.at_ hp
      obtain ⟨_, h5, h6⟩ := hP'.len
      refine ⟨hv, ⟨⟨S, hp, fun _ h => .inl h⟩, (Off.of S hk2).trans ho fun i hi => hi.elim .inl fun e => .inr (by omega)⟩, (cellsAt hz.1 0 rfl).1, A2, n2, c2, (ppcells hP'.top).1.1, by omega, h6⟩)
  have HW := Lib.hid hw2
  rw [← hw2] at d0 y0
  have hrv : (reapP idl now p).2 = ((p.l.filter (isOld idl now)).length : Int) := rfl
  have hge : 0 ≤ (reapP idl now p).2 := by rw [hrv]; omega
  clear h hSl hP hP2 hk2 x0 x1 hw2 hlen hrl hpl hrv
  generalize (reapP idl now p).2 = v at *
  generalize (reapP idl now p).1 = p2 at *
  go_enter Try.func16, Try.ntmps16
  go_wp2_with fail
  rw [HW.out]
  refine HC.out.mono ?_
  rintro e w3 ⟨⟨v1, rfl⟩, ht, z0, A2, n2, c2, z1, z2, z3⟩
  have HT := Lib.hid ht
  have hw : IntKind.i64.wrap ((n : Int) - (n2 : Int)) = v := by rw [IntKind.wrap_i64]; omega
  clear ht HC z2
  go_wp2_with fail
  go_ret
  exact ⟨rfl, HT.out⟩
theorem PP.row (h : (PP b mo idl m p).p S w) : ∃ (rb : Nat) (SR : Nat → Prop), ∀ u, Below w.heap.size w u → u.cell? ⟨b, 4, none⟩ = some (.pointer (some ⟨rb, 0, none⟩)) ∧ (PW rb m p.row).p SR u ∧ ∀ row' w', Turn (PW rb m row') SR u w' → Turn (PP b mo idl m { p with row := row' }) S u w' := by
  obtain ⟨rs, A, n, c, rb, SR, h⟩ := PP.at_ h
  refine ⟨rb, SR, fun u hu => ?_⟩
  have hk := h.keep (fun k e => hu.block k (h.lt k e)) hu.size
  refine ⟨(ppcells hk.top).1.2.2.2.2, hk.row, fun row' w' ht => ?_⟩
  obtain ⟨⟨S', p', q'⟩, ho⟩ := ht
  have hlt := hk.lt
  have hnb : ∀ k, S k → ¬ SR k → w'.heap[k]? = u.heap[k]? := fun k hk2 hn => ho.block k (hlt k hk2) hn
  have t3 : (PP b mo idl m { p with row := row' }).p (fun k => S k ∨ S' k) w' := ⟨rs, A, n, c, rb, S', ⟨(hnb b hk.sb fun e => (hk.ar b e).1 rfl).trans hk.top, hk.l, hk.hl.keep (fun k e => hnb k (hk.sl k e) fun e2 => (hk.ar k e2).2 e) ho.size, p', .inl hk.sb, fun k e => .inr e, fun k e => .inl (hk.sl k e), fun k e => e.elim (fun e => Nat.lt_of_lt_of_le (hlt k e) ho.size) ((PW rb m row').lt p' k), fun k e => ?_, hk.al, hk.few⟩⟩
  · refine ⟨⟨_, t3, fun k e => e.elim .inl fun e => (q' k e).elim (fun e2 => .inl (hk.sr k e2)) .inr⟩, ho.wide hk.sr⟩
  · rcases q' k e with e2 | e2
    · exact hk.ar k e2
    · refine ⟨fun e3 => ?_, fun e3 => ?_⟩
      · have := hlt b hk.sb; omega
      · have := hlt k (hk.sl k e3); omega
theorem pleave_ok (ss : Int) (h : (PP b mo idl m p).p S w) :
    Calls Try.prog 24 #[.pointer (some ⟨b, 0, none⟩), .int .i64 ss] w fun e w' => e = .returned (.bool (decide (0 ≤ atW ss p.row))) ∧ Turn (PP b mo idl m { p with row := dropW ss p.row }) S w w' := by
  obtain ⟨rb, SR, hu⟩ := PP.row h
  obtain ⟨c4, hr, hn⟩ := hu w (Below.refl _ _)
  have HC := Lib.hid ((pdrop_ok ss hr).mono fun e w' ⟨he, ht⟩ => And.intro he (hn _ w' ht))
  clear h hu hr hn
  go_enter Try.func24, Try.ntmps24
  go_wp2_with fail
  refine HC.out.mono ?_
  rintro e w1 ⟨rfl, ht⟩
  have HT := Lib.hid ht
  clear ht HC
  go_wp2_with fail
  go_ret
  exact ⟨rfl, HT.out⟩
theorem pwaiting_ok (h : (PP b mo idl m p).p S w) :
    Calls Try.prog 12 #[.pointer (some ⟨b, 0, none⟩)] w fun e w' => ∃ A n c, e = .returned (.slice A n c) ∧ NR w' A n p.row ∧ n ≤ 12 ∧ Below w.heap.size w w' := by
  obtain ⟨rb, SR, hu⟩ := PP.row h
  obtain ⟨c4, hr, hn⟩ := hu w (Below.refl _ _)
  have HC := Lib.hid (pall_ok hr)
  clear h hu hr hn
  go_enter Try.func12, Try.ntmps12
  go_wp2_with fail
  refine HC.out.mono ?_
  rintro e w1 ⟨A, n, c, rfl, h1, h2, h3⟩
  have H1 := Lib.hid h1
  have H3 := Lib.hid h3
  clear h1 h3 HC
  go_wp2_with fail
  go_ret
  exact ⟨A, n, c, rfl, H1.out, h2, H3.out⟩
end
end

/- The project's layer 10: Break: contract. -/
section
open Go.RowKit
set_option maxRecDepth 100000

section
variable {b : Nat} {mo idl m : Int} {k : Nat} {p : Pl} {S : Nat → Prop} {w : World}
set_option maxHeartbeats 4000000 in
theorem ppbreak_ok (id : Int) (hk : KInv mo m k p) (h : (PP b mo idl m p).p S w) :
    Calls Try.prog 26 #[.pointer (some ⟨b, 0, none⟩), .int .i64 id] w fun e w' => e = .returned (.tuple #[.int .u64 (breakP id p).2.1, .int .i64 (breakP id p).2.2.1, .bool (breakP id p).2.2.2]) ∧ Turn (PP b mo idl m (breakP id p).1) S w w' := by
  have hSl := (PP b mo idl m p).lt h
  obtain ⟨x, hx⟩ : ∃ x : Inf, x = if findH id p.l < 0 then inf0 else infoH (theH id p) := ⟨_, rfl⟩
  have HI := Lib.hid (done_I id h hk.ne hk.inv.live x hx)
  by_cases hf : findH id p.l < 0
  · have hP : breakP id p = (p, 0, 0, false) := if_pos hf
    rw [if_pos hf] at hx
    subst hx
    rw [hP]
    unfold inf0 Inf.vals at HI
    dsimp only at HI
    clear h hk hSl hf hP
    go_enter Try.func26, Try.ntmps26
    go_wp2_with fail
    refine HI.out.mono ?_
    rintro e w1 ⟨rfl, hp, ho⟩
    have HT : Hid (∀ o, Turn (PP b mo idl m p) S w (w1.alloc o)) := Lib.hid fun o => ⟨⟨S, Thing.next hp (kp_new _ _), fun _ h => .inl h⟩, ho.trans (Off.of (fun _ => False) (kp_new _ _)) fun _ e => e.elim⟩
    clear hp ho HI
    go_wp2_with fail
    go_ret3
    exact ⟨rfl, HT.out _⟩
  · have hP : breakP id p = (sweepP (onH id (fun h => h.set h.c.breakC) p), (theH id p).c.f, (theH id p).c.o, true) := if_neg hf
    rw [if_neg hf] at hx
    have hid : (x.id == 0) = false := by
      have h1 := hk.pos _ (hk.at_ hf)
      rw [hx]
      simp only [infoH, beq_eq_false_iff_ne]
      omega
    have HD : Hid (∀ w1, (PP b mo idl m p).p S w1 → Off S w w1 → ∀ u, Below w1.heap.size w1 u → Calls Try.prog 51 #[.pointer (some ⟨b, 0, none⟩), .int .i64 id, .func (.methodOf 66 "Break") #[] #[], .int .u64 0] u fun e w' => e = .returned (.int .u64 (theH id p).c.f) ∧ Turn (PP b mo idl m (sweepP (onH id (fun h => h.set h.c.breakC) p))) S w w' ∧ ∀ j, w1.heap.size ≤ j → j < u.heap.size → w'.heap[j]? = u.heap[j]?) := Lib.hid fun w1 hp ho u hu => by
      refine (done_U (T0 := fun _ => False) id 0 (.methodOf 66 "Break") #[] (fun _ => True) (fun h => h.c.f) (fun h => h.set h.c.breakC) (Thing.next hp hu) (fun _ h => h.elim) (fun _ h => h.elim) trivial (fun _ _ _ _ => trivial) (fun r W hl _ => inv_break hl) hk.ne).mono ?_
      rintro e w' ⟨rfl, hp', ho'⟩
      rw [if_neg hf] at hp' ⊢
      refine ⟨rfl, ⟨⟨S, hp', fun _ h => .inl h⟩, (ho.trans (Off.of (fun _ => False) hu) fun _ e => e.elim).trans ho' fun i hi => hi.elim .inl fun e => e.elim⟩, fun j h1 h2 => ho'.block j h2 fun e => e.elim (fun e => ?_) fun e => e⟩
      have := hSl j e
      have := ho.size
      omega
    rw [hP]
    have hxo : (theH id p).c.o = x.o := by rw [hx]; rfl
    rw [hxo]
    obtain ⟨x1, x2, x3, x4, x5, x6⟩ := x
    unfold Inf.vals at HI
    dsimp only at HI hid ⊢
    clear h hk hSl hf hP hx hxo
    generalize sweepP (onH id (fun h => h.set h.c.breakC) p) = p2 at *
    generalize (theH id p).c.f = fv at *
    go_enter Try.func26, Try.ntmps26
    go_wp2_with fail
    refine HI.out.mono ?_
    rintro e w1 ⟨rfl, hp, ho⟩
    have HB := Lib.hid (HD.out w1 hp ho)
    clear hp ho HI HD
    obtain ⟨w2, hw2⟩ : ∃ u, w1.alloc (.cells #[.int .i64 x1, .int .i64 x2, .int .i64 x3, .int .u64 x4, .int .u64 x5, .int .u64 x6] 39) = u := ⟨_, rfl⟩
    have hb2 : w2.heap[w1.heap.size]? = some (infB ⟨x1, x2, x3, x4, x5, x6⟩) := hw2 ▸ heap_alloc_new w1 _
    have HK := Lib.hid (show Below w1.heap.size w1 w2 from hw2 ▸ kp_new w1 _)
    have HW := Lib.hid hw2
    have HB2 := Lib.hid hb2
    have HL2 := Lib.hid (Array.getElem?_eq_some_iff.1 hb2).1
    obtain ⟨⟨_, _, y2, _⟩, _⟩ := inf_cells hb2
    rw [← hw2] at y2
    clear hw2 hb2
    go_wp2_with fail
    rw [HW.out] at y2 ⊢
    go_region_with (go_at_call 51; refine (HB.out _ HK.out.drew).mono ?_; rintro e w4 ⟨rfl, ht, hj⟩; have y4 := (inf_cells ((hj w1.heap.size (Nat.le_refl _) HL2.out).trans HB2.out)).1.2.2.1; have HT := Lib.hid ht; clear ht hj)
    all_goals
      go_wp2_with fail
      go_ret3
      exact ⟨rfl, HT.out⟩
end
end

/- The project's layer 10: has, Conns: contracts. -/
section
open Go.RowKit
set_option maxRecDepth 100000
attribute [local go_sem] Oper.semAt_some wide_depth wide_fn

section
variable {b : Nat} {mo idl m : Int} {k : Nat} {p : Pl} {S : Nat → Prop} {w : World}
theorem below_bk {B : Nat} {w0 W W' : World} (h : Below B w0 W) (ho : Off (bkS B) W W') (hB : B ≤ W.heap.size) : Below B w0 W' := h.trans (ho.below (fun k hk => by rcases hk with e | e <;> omega) hB)
theorem put_cell {W : World} {D B : Nat} {v : Value} (h : W.cell? ⟨B, 0, none⟩ = some v) (hne : B ≠ D) (o : Obj) : (W.putObj D o).cell? ⟨B, 0, none⟩ = some v := (World.cell?_of_block (a := ⟨B, 0, none⟩) (World.putObj_heap_other hne)).trans h
theorem put_below {w0 W : World} {B D : Nat} (h : Below B w0 W) (hD : B ≤ D) (hs : B ≤ W.heap.size) (o : Obj) : Below B w0 (W.putObj D o) := h.trans ((off_putObj (B := D) W o (.inl rfl)).below (fun k hk => by rcases hk with e | e <;> omega) hs)
theorem size_setCell (W : World) (p : Addr) (v : Value) : (W.setCell p v).heap.size = W.heap.size := by simp [World.setCell]
set_option maxHeartbeats 4000000 in
theorem phas_ok (ss : Int) (h : (PP b mo idl m p).p S w) :
    Calls Try.prog 40 #[.pointer (some ⟨b, 0, none⟩), .int .i64 ss] w fun e w' => e = .returned (.bool (hasH ss p.l)) ∧ Below w.heap.size w w' := by
  obtain ⟨rs, A, n, c, rb, SR, hP⟩ := PP.at_ h
  have hSl := hP.lt
  clear h
  obtain ⟨w2, hw2⟩ : ∃ u, (w.alloc (.cells #[.int .i64 ss] 3)).alloc (.cells #[.bool false] 4) = u := ⟨_, rfl⟩
  have hk2 : Below w.heap.size w w2 := hw2 ▸ kp_alloc (kp_new _ _) _
  have hz2 : w2.heap.size = w.heap.size + 2 := by rw [← hw2]; simp
  have hP2 := hP.keep (fun k hk => hk2.block k (hSl k hk)) hk2.size
  have b0 : w2.heap[w.heap.size]? = some (.cells #[.int .i64 ss] 3 (0, 0)) := by
    rw [← hw2]
    exact (Below.heap_alloc _ _ _ (by simp)).trans (heap_alloc_new w _)
  have b1 : w2.heap[w.heap.size + 1]? = some (.cells #[.bool false] 4 (0, 0)) := by
    rw [← hw2]
    have := heap_alloc_new (w.alloc (.cells #[.int .i64 ss] 3)) (.cells #[.bool false] 4)
    rwa [World.size_alloc] at this
  obtain ⟨hrl, hpl, hn6⟩ := hP2.len
  obtain ⟨⟨d0, _⟩, _⟩ := ppcells hP2.top
  have HW := Lib.hid hw2
  have HK2 := Lib.hid hk2
  have HP2 := Lib.hid hP2
  have HSL := Lib.hid hSl
  have HB0 := Lib.hid b0
  have HB1 := Lib.hid b1
  clear hw2 hP hP2 hSl hk2 b0 b1
  have hrp : rs.length = p.l.length := by omega
  refine (callsIn_wide (n := 3)).1 ?_
  refine callsIn_of_wp_marks Try.func40 rfl trivial ?_
  simp only [Try.ntmps40, List.size_toArray, List.length_cons, List.length_nil, Nat.reduceAdd, Nat.reduceSub, Array.replicate_succ, Array.replicate_zero, List.push_toArray, List.append_toArray, List.nil_append, List.cons_append]
  gi_wp2
  rw [HW.out]
  refine wpIn_rangeAll (b := b) (n := n) (c := c) (A := A) (rs := rs) rfl hrl hn6 d0
    (fun k W => Below w2.heap.size w2 W ∧ ∀ j (hj : j < rs.length), j < k → rs[j].h.c.o ≠ ss) (fun W => Below w.heap.size w W ∧ W.cell? ⟨w.heap.size + 1, 0, none⟩ = some (.bool true) ∧ hasH ss p.l = true ∧ w2.heap.size ≤ W.heap.size) ?stI ?stX ?hat ?h0
    (fun r => { tmps := #[.pointer (some ⟨b, 0, none⟩), .int .i64 ss, undef, .pointer (some ⟨w.heap.size, 0, none⟩), .pointer (some ⟨w.heap.size + 1, 0, none⟩), lkV r, .pointer (some ⟨b, 0, none⟩), .func (.func 27) #[.pointer (some ⟨b, 0, none⟩)] #[], lkV r, undef, undef, undef, undef, undef, undef, undef], defers := [] }) ?assign ?body ?done ?stop
  case stI =>
    rintro k W W' ⟨h1, h2⟩ ho
    exact ⟨below_bk h1 ho h1.size, h2⟩
  case stX =>
    rintro W W' ⟨h1, h2, h3, h4⟩ ho
    have hc : W'.heap[w.heap.size + 1]? = W.heap[w.heap.size + 1]? := ho.block _ (by omega) fun e => by rcases e with e | e <;> omega
    exact ⟨h1.trans (ho.below (fun k hk => by rcases hk with e | e <;> omega) (by omega)), (World.cell?_of_block (a := ⟨w.heap.size + 1, 0, none⟩) hc).trans h2, h3, Nat.le_trans h4 ho.size⟩
  case hat =>
    rintro k hk W ⟨h1, _⟩
    have hP3 := HP2.out.keep (fun j hj => h1.block j (HP2.out.lt j hj)) h1.size
    obtain ⟨g, q1, _, _, q2, _⟩ := hP3.hl.at_ hk
    exact ⟨g, q1, q2⟩
  case h0 => exact ⟨Below.refl _ _, fun j _ h => absurd h (Nat.not_lt_zero _)⟩
  case assign =>
    intro l r W K hK
    gi_wp2
    exact hK
  case body =>
    rintro l k hk W ⟨h1, h2⟩ hsz
    have hP3 := HP2.out.keep (fun j hj => h1.block j (HP2.out.lt j hj)) h1.size
    have hlk := hP3.hl.lk _ (List.getElem_mem hk)
    obtain ⟨⟨c0, _, _⟩, _⟩ := hlk.cells
    have x0 := (cellsAt ((h1.block w.heap.size (by omega)).trans HB0.out) 0 (v := .int .i64 ss) rfl).1
    obtain ⟨x1, z1⟩ := cellsAt ((h1.block (w.heap.size + 1) (by omega)).trans HB1.out) 0 (v := .bool false) rfl
    have HO : Hid (∀ q, Calls Try.prog 54 #[.pointer (some ⟨rs[k].a, 0, none⟩)] (W.drewN q) fun e w' => e = .returned (.int .i64 rs[k].h.c.o) ∧ w' = W.drewN q) := Lib.hid fun q => (cowner_ok ((CC _ _ _).next hlk.c (kp_drewN W q))).mono fun _ _ ⟨h1, h2⟩ => ⟨h1, h2.symm⟩
    have H1 := Lib.hid h1
    have HBW := Lib.hid (HK2.out.trans (h1.mono (by omega : w.heap.size ≤ w2.heap.size)))
    have hmx : Try.prog.follows .mixedOrders = true := by kernel_rfl
    have hhh : rs[k].h = p.l[k]'(by omega) := HP2.out.at_ hk (by omega)
    by_cases ho : rs[k].h.c.o = ss
    · have HHS : Hid (hasH ss p.l = true) := Lib.hid (by
        unfold hasH
        refine decide_eq_true ?_
        by_cases hn : firstH (fun h : Hd => h.c.o == ss) p.l < 0
        · have := firstH_all hn p.l[k] (List.getElem_mem _)
          rw [hhh] at ho
          simp [ho] at this
        · omega)
      rw [ho] at HO
      clear hP3 hlk h1 h2 hhh ho
      unfold lkV
      generalize rs[k].l = la at *
      generalize rs[k].a = aa at *
      gi_wp2
      gi_region_with_o (gi_at_call 54; refine CallsIn.mono (CallsIn.inRound l (callsIn_wide.2 (HO.out 1))) ?_; rintro e w' ⟨rfl, rfl⟩)
      all_goals
        gi_wp2
        refine ⟨⟨(HBW.out.drew).setCell (p := ⟨w.heap.size + 1, 0, none⟩) (Nat.le_succ _) _, World.cell?_setCell_same _ _ _ (u := .bool false) x1, HHS.out, ?_⟩, fun j hj => Below.heap_setCell _ _ _ _ (by have := hsz; rcases hj with e | e <;> (intro e2; have e3 : w.heap.size + 1 = j := (by first | exact e2 | exact e2.symm); omega))⟩
        show w2.heap.size ≤ (W.heap.modify _ _).size
        rw [Array.size_modify]
        omega
    · have hne2 : ∀ j (hj : j < rs.length), j < k + 1 → rs[j].h.c.o ≠ ss := fun j hj hjk => by
        by_cases e : j = k
        · subst e; exact ho
        · exact h2 j hj (by omega)
      have HNE := Lib.hid hne2
      have hoq : (rs[k].h.c.o == ss) = false := by simpa using ho
      clear hP3 hlk h1 h2 hhh ho hne2
      unfold lkV
      generalize rs[k].l = la at *
      generalize rs[k].a = aa at *
      generalize rs[k].h.c.o = ov at *
      gi_wp2
      gi_region_with_o (gi_at_call 54; refine CallsIn.mono (CallsIn.inRound l (callsIn_wide.2 (HO.out 1))) ?_; rintro e w' ⟨rfl, rfl⟩)
      all_goals
        gi_wp2
        exact ⟨⟨H1.out.trans (kp_drewN W 1 |>.mono (by omega)), HNE.out⟩, fun j _ => rfl⟩
  case done =>
    rintro W ⟨h1, h2⟩ hd
    have hno : hasH ss p.l = false := by
      unfold hasH
      refine decide_eq_false fun e => ?_
      have hn := firstH_none (p := fun h : Hd => h.c.o == ss) (l := p.l) fun y hy => by
        obtain ⟨j, hj, rfl⟩ := List.getElem_of_mem hy
        have := h2 j (by omega) (by omega)
        rw [HP2.out.at_ (by omega) hj] at this
        simpa using this
      omega
    have HNO := Lib.hid hno
    obtain ⟨x1, z1⟩ := cellsAt ((h1.block (w.heap.size + 1) (by omega)).trans HB1.out) 0 (v := .bool false) rfl
    have HD := Lib.hid hd
    have H1 := Lib.hid h1
    have hdl := (Array.getElem?_eq_some_iff.1 hd).1
    have hd2 : (W.setCell ⟨w.heap.size + 1, 0, none⟩ (.bool false)).heap[w2.heap.size]? = some (.deferred (some [])) := (Below.heap_setCell _ _ _ _ (by intro e2; have e3 : w.heap.size + 1 = w2.heap.size := (by first | exact e2 | exact e2.symm); omega)).trans hd
    have HBW := Lib.hid (HK2.out.trans (h1.mono (by omega : w.heap.size ≤ w2.heap.size)))
    clear h1 h2 hd hno
    gi_wp2
    refine ⟨by simp, .inl ⟨_, _, rfl, run_takeDeferred hd2, ?_⟩⟩
    refine ⟨.bool false, ?_, by rw [HNO.out], ?_⟩
    · rw [results_cell1 rfl]
      have hc2 := put_cell (World.cell?_setCell_same W ⟨w.heap.size + 1, 0, none⟩ (.bool false) (u := .bool false) x1) (by omega : w.heap.size + 1 ≠ w2.heap.size) (.deferred none)
      simp [loadVar, go_sem, hc2]
    · exact put_below (HBW.out.setCell (p := ⟨w.heap.size + 1, 0, none⟩) (Nat.le_succ _) _) (by omega) (by rw [size_setCell]; omega) _
  case stop =>
    rintro W ⟨h1, h2, h3, h4⟩ hd
    have HNO := Lib.hid h3
    have H1 := Lib.hid h1
    have HC := Lib.hid h2
    clear h1 h2 h3
    gi_wp2
    refine ⟨by simp, .inl ⟨_, _, rfl, run_takeDeferred hd, ?_⟩⟩
    refine ⟨.bool true, ?_, by rw [HNO.out], ?_⟩
    · rw [results_cell1 rfl]
      have hc2 := put_cell HC.out (by omega : w.heap.size + 1 ≠ w2.heap.size) (.deferred none)
      simp [loadVar, go_sem, hc2]
    · exact put_below H1.out (by omega) (by omega) _
end
end

/- The project's layer 10: Conns: contract. -/
section
open Go.RowKit
set_option maxRecDepth 100000
attribute [local go_sem] Oper.semAt_some wide_depth wide_fn

theorem pinfinfo : (Try.prog.info? 39).map (fun i => (i.zero, i.size, i.bytes)) = some (some (.agg #[.int .i64 0, .int .i64 0, .int .i64 0, .int .u64 0, .int .u64 0, .int .u64 0]), 6, 48) := by kernel_rfl
theorem stepIn_append {F : Fence} {n : Nat} {P : Program} {ops : Array Oper} {o : Oper} {a : Act} {w : World} {K : Act → World → Prop} {Q : Exit → Act → World → Prop} {E : Prop} (hw : Region.wanted o (yielded ops a.tmps) = true) (hF : ∀ f, F.fn f) (s x : Operand) (t : TypeId)
    (ho : o.op = .call { callee := .builtin .append, args := #[s, x], argTypes := #[t, t] }) (v y : Value) (hs : a.eval s = v) (hx : a.eval x = y) {v3 : Value} {w3 : World}
    (hrun : (Builtin.append_ #[t, t] o.type #[v, y]).run P w = .ok v3 w3) (hk : K (a.put o.dst v3) w3) : if Region.wanted o (yielded ops a.tmps) = true then o.wpIn F n P a w K Q else E := by
  rw [if_pos hw]
  refine ⟨fun f _ => hF f, ?_⟩
  have e1 : Oper.semAt F.round a.eval o = execOp a.eval o := by
    unfold Oper.semAt
    rw [ho]
    cases F.round <;> rfl
  have e2 : (execOp a.eval o).run P w = .ok (.value v3) w3 := by
    unfold execOp
    simp only [ho, resolve, invoke, builtin, Sem.run_bind, Sem.run_pure, Result.andThen_ok, List.map_toArray, List.map_cons, List.map_nil, hs, hx, hrun]
  rw [e1, e2]
  exact hk
section
variable {b : Nat} {mo idl m : Int} {k : Nat} {p : Pl} {S : Nat → Prop} {w : World}
/-- within the loop: so many are told -/
def ConnsI (w w2 : World) (l : List Hd) (k : Nat) (W : World) : Prop :=
  ∃ D e, W.heap[w.heap.size]? = some (.cells #[.slice D k e] 34 (0, 0)) ∧ W.ownsRow (w2.heap.size + 2) 39 6 (.slice D k e) k (inC ((l.take k).map infoH)) ∧ Below w.heap.size w W ∧ w2.heap.size ≤ W.heap.size
set_option maxHeartbeats 4000000 in
theorem pconns_ok (h : (PP b mo idl m p).p S w) :
    Calls Try.prog 11 #[.pointer (some ⟨b, 0, none⟩)] w fun e w' => ∃ A n c, e = .returned (.slice A n c) ∧ w'.ownsRow w.heap.size 39 6 (.slice A n c) n (inC (p.l.map infoH)) ∧ n ≤ 6 ∧ Below w.heap.size w w' := by
  obtain ⟨rs, A, n, c, rb, SR, hP⟩ := PP.at_ h
  have hSl := hP.lt
  clear h
  obtain ⟨w2, hw2⟩ : ∃ u, w.alloc (.cells #[.slice none 0 0] 34) = u := ⟨_, rfl⟩
  have hk2 : Below w.heap.size w w2 := hw2 ▸ kp_new _ _
  have hz2 : w2.heap.size = w.heap.size + 1 := by rw [← hw2]; simp
  have hP2 := hP.keep (fun k hk => hk2.block k (hSl k hk)) hk2.size
  have b0 : w2.heap[w.heap.size]? = some (.cells #[.slice none 0 0] 34 (0, 0)) := hw2 ▸ heap_alloc_new w _
  obtain ⟨hrl, hpl, hn6⟩ := hP2.len
  obtain ⟨⟨d0, _⟩, _⟩ := ppcells hP2.top
  have HW := Lib.hid hw2
  have HK2 := Lib.hid hk2
  have HP := Lib.hid hP
  have HSL := Lib.hid hSl
  have HB0 := Lib.hid b0
  clear hw2 hP hP2 hSl hk2 b0
  have hrp : rs.length = p.l.length := by omega
  obtain ⟨i0, hi, hi0, hi1, hi2⟩ := info_parts pinfinfo
  refine (callsIn_wide (n := 3)).1 ?_
  refine callsIn_of_wp_marks Try.func11 rfl trivial ?_
  simp only [Try.ntmps11, List.size_toArray, List.length_cons, List.length_nil, Nat.reduceAdd, Nat.reduceSub, Array.replicate_succ, Array.replicate_zero, List.push_toArray, List.append_toArray, List.nil_append, List.cons_append]
  gi_wp2
  rw [HW.out]
  refine wpIn_rangeAll (b := b) (n := n) (c := c) (A := A) (rs := rs) rfl hrl hn6 d0
    (ConnsI w w2 p.l) (fun _ => False) ?stI (fun _ _ h _ => h) ?hat ?h0
    (fun r => { tmps := #[.pointer (some ⟨b, 0, none⟩), undef, .slice none 0 0, .pointer (some ⟨w.heap.size, 0, none⟩), lkV r, .pointer (some ⟨b, 0, none⟩), .func (.func 27) #[.pointer (some ⟨b, 0, none⟩)] #[], lkV r, undef, undef, undef, undef, undef, undef], defers := [] }) ?assign ?body ?done ?stop
  case stI =>
    rintro k W W' ⟨D, e, h1, h2, h3, h4⟩ ho
    refine ⟨D, e, (ho.block _ (by omega) fun e => by rcases e with e | e <;> omega).trans h1, own_keep h2 fun g hg => ho.block g (h2.lt g hg).2 fun e => ?_, h3.trans (ho.below (fun k hk => by rcases hk with e | e <;> omega) (by omega)), Nat.le_trans h4 ho.size⟩
    have := (h2.lt g hg).1
    rcases e with e | e <;> omega
  case hat =>
    rintro k hk W ⟨D, e, h1, h2, h3, h4⟩
    have hP3 := HP.out.keep (fun j hj => h3.block j (HSL.out j hj)) h3.size
    obtain ⟨g, q1, _, _, q2, _⟩ := hP3.hl.at_ hk
    exact ⟨g, q1, q2⟩
  case h0 => exact ⟨none, 0, HB0.out, World.ownsRow_nil _ _ _ _, HK2.out, Nat.le_refl _⟩
  case assign =>
    intro l r W K hK
    gi_wp2
    exact hK
  case body =>
    rintro l k hk W ⟨D, e, h1, h2, h3, h4⟩ hsz
    have hP3 := HP.out.keep (fun j hj => h3.block j (HSL.out j hj)) h3.size
    have hlk := hP3.hl.lk _ (List.getElem_mem hk)
    obtain ⟨x1, z1⟩ := cellsAt h1 0 (v := .slice D k e) rfl
    have hmx : Try.prog.follows .mixedOrders = true := by kernel_rfl
    have hhh : rs[k].h = p.l[k]'(by omega) := HP.out.at_ hk (by omega)
    have HNX := Lib.hid (show inC ((p.l.take (k + 1)).map infoH) = inC ((p.l.take k).map infoH) ++ (infoH rs[k].h).cells by rw [List.take_succ_eq_append_getElem (by omega), List.map_append, inC_append, hhh]; simp [inC])
    have HI : Hid (∀ q, Calls Try.prog 28 #[lkV rs[k]] (W.drewN q) fun e w' => e = .returned (.agg (infoH rs[k].h).vals) ∧ Below (W.drewN q).heap.size (W.drewN q) w') := Lib.hid fun q => info_ok (hlk.next (kp_drewN W q))
    have hbl : w.heap.size < W.heap.size := by omega
    have H1 := Lib.hid h1
    have H2 := Lib.hid h2
    have H3 := Lib.hid h3
    have HOB : Hid (∀ u, Below W.heap.size W u → u.cell? ⟨w.heap.size, 0, none⟩ = some (.slice D k e) ∧ u.frozen? ⟨w.heap.size, 0, none⟩ = false ∧ w.heap.size < u.heap.size ∧ ∃ D3 e3 w3, (Builtin.append_ #[34, 34] 34 #[.slice D k e, .slice (some ⟨u.heap.size, 0, none⟩) 1 1]).run Try.prog (u.alloc (.cells (infoH rs[k].h).vals 39)) = .ok (.slice D3 (k + 1) e3) w3 ∧
        w3.cell? ⟨w.heap.size, 0, none⟩ = some (.slice D k e) ∧ w3.frozen? ⟨w.heap.size, 0, none⟩ = false ∧ ConnsI w w2 p.l (k + 1) (w3.setCell ⟨w.heap.size, 0, none⟩ (.slice D3 (k + 1) e3)) ∧ ∀ j, bkS w2.heap.size j → (w3.setCell ⟨w.heap.size, 0, none⟩ (.slice D3 (k + 1) e3)).heap[j]? = W.heap[j]?) := Lib.hid fun u hu => by
      have ho1 := (own_below_s H2.out hu (Nat.le_refl _)).alloc (.cells (infoH rs[k].h).vals 39)
      have hus := hu.size
      have hrd : Rd (u.alloc (.cells (infoH rs[k].h).vals 39)) (u.heap.size + 1) (some ⟨u.heap.size, 0, none⟩) (infoH rs[k].h).cells := Rd.new u 39 (infoH rs[k].h).cells
      obtain ⟨v3, w3, hr3, ho3, hg3⟩ := run_append_rds (P := Try.prog) (w2.heap.size + 2) 34 34 39 i0 _ 6 48 Try.underlying34 hi hi0 hi1 hi2 rfl (by omega) (.slice D k e) k _ ho1 _ _ 1 1 (infoH rs[k].h).cells rfl hrd (by simp [Inf.cells, Value.oneCell']) (by unfold maxLen; omega) (by omega) (by simp; omega)
      have hlt := ho1.lt
      have hz3 := hg3.size
      have hzu : (u.alloc (.cells (infoH rs[k].h).vals 39)).heap.size = u.heap.size + 1 := by simp
      have hkeep : ∀ j, j < W.heap.size → j < w2.heap.size + 2 → w3.heap[j]? = W.heap[j]? := fun j hj1 hj2 => (hg3.block j (by omega) fun e => by have := (hlt j e.symm).1; omega).trans ((heap_alloc_old _ _ (by omega)).trans (hu.block j hj1))
      have hb0 : w3.heap[w.heap.size]? = some (.cells #[.slice D k e] 34 (0, 0)) := (hkeep _ hbl (by omega)).trans H1.out
      obtain ⟨x3, z3⟩ := cellsAt hb0 0 (v := .slice D k e) rfl
      obtain ⟨D3, e3, rfl, _, _⟩ := own_form_s ho3
      obtain ⟨x4, z4⟩ := cellsAt ((hu.block _ hbl).trans H1.out) 0 (v := .slice D k e) rfl
      refine ⟨x4, z4, by omega, D3, e3, w3, hr3, x3, z3, ⟨D3, e3, cset hb0 0 _ rfl, ?_, ?_, by rw [size_setCell]; omega⟩, fun j hj => (Below.heap_setCell _ _ _ _ (by rcases hj with e | e <;> (intro e2; have e3 : w.heap.size = j := (by first | exact e2 | exact e2.symm); omega))).trans (hkeep j (by rcases hj with e | e <;> omega) (by rcases hj with e | e <;> omega))⟩
      · rw [HNX.out]
        exact own_setCell_s ho3 (by show w.heap.size < w2.heap.size + 2; omega) _
      · exact ((H3.out.trans ((kp_alloc hu _).mono (by omega))).grown hg3 (by omega) fun j e => by have := (hlt j e).1; omega).setCell (p := ⟨w.heap.size, 0, none⟩) (Nat.le_refl _) _
    clear hP3 hlk h1 h2 h3 hhh
    generalize infoH rs[k].h = x at *
    obtain ⟨y0, y1, y2, y3, y4, y5⟩ := x
    unfold Inf.vals at HI HOB
    dsimp only at HI HOB
    generalize lkV rs[k] = la at *
    gi_wp2
    refine wpIn_region_any hmx ?_
    change wpAnyIn _ _ _ _ _ _ _ _ _ (World.drew _)
    refine wpAnyIn_ready (rs := [0, 1]) (by kernel_rfl) (by simp) ?_
    refine AllReadyIn.cons rfl (fun K hK => ?_) ?_
    · skip
      go_simp
      refine hK _ _ ?_
      clear hK K
      refine wpAnyIn_ready (rs := [1]) (by kernel_rfl) (by simp) ?_
      refine AllReadyIn.cons rfl (fun K hK => ?_) ?_
      · skip
        go_simp
        refine hK _ _ ?_
        clear hK K
        refine wpAnyIn_ready (rs := [2]) (by kernel_rfl) (by simp) ?_
        refine AllReadyIn.cons rfl (fun K hK => ?_) ?_
        · skip
          go_simp
          refine CallsIn.mono (CallsIn.inRound l (callsIn_wide.2 (HI.out 1))) ?_
          rintro e4 w4 ⟨rfl, hb4⟩
          have hb5 := kp_trans (kp_drewN W 1) hb4
          obtain ⟨x4, z4, hl4, D3, e3, w3, hr3, x3, z3, hn3⟩ := HOB.out w4 hb5
          have HN := Lib.hid hn3
          have HR := Lib.hid hr3
          clear hn3 hb4 hb5 hr3
          refine hK _ _ ?_
          clear hK K
          refine wpAnyIn_ready (rs := [3]) (by kernel_rfl) (by simp) ?_
          refine AllReadyIn.cons rfl (fun K hK => ?_) ?_
          · skip
            go_simp
            refine hK _ _ ?_
            clear hK K
            refine wpAnyIn_ready (rs := [4]) (by kernel_rfl) (by simp) ?_
            refine AllReadyIn.cons rfl (fun K hK => ?_) ?_
            · skip
              refine stepIn_append rfl (fun _ => trivial) (.tmp 8) (.tmp 11) _ rfl _ _ rfl rfl HR.out ?_
              refine hK _ _ ?_
              clear hK K
              refine wpAnyIn_ready (rs := [5]) (by kernel_rfl) (by simp) ?_
              refine AllReadyIn.cons rfl (fun K hK => ?_) ?_
              · skip
                go_simp
                refine hK _ _ ?_
                clear hK K
                refine wpAnyIn_done (by kernel_rfl) ?_ _
                gi_wp2
                exact HN.out
              exact AllReadyIn.nil
            exact AllReadyIn.nil
          exact AllReadyIn.nil
        exact AllReadyIn.nil
      exact AllReadyIn.nil
    refine AllReadyIn.cons rfl (fun K hK => ?_) ?_
    · skip
      go_simp
      refine hK _ _ ?_
      clear hK K
      refine wpAnyIn_ready (rs := [0, 2]) (by kernel_rfl) (by simp) ?_
      refine AllReadyIn.cons rfl (fun K hK => ?_) ?_
      · skip
        go_simp
        refine hK _ _ ?_
        clear hK K
        refine wpAnyIn_ready (rs := [2]) (by kernel_rfl) (by simp) ?_
        refine AllReadyIn.cons rfl (fun K hK => ?_) ?_
        · skip
          go_simp
          refine CallsIn.mono (CallsIn.inRound l (callsIn_wide.2 (HI.out 1))) ?_
          rintro e4 w4 ⟨rfl, hb4⟩
          have hb5 := kp_trans (kp_drewN W 1) hb4
          obtain ⟨x4, z4, hl4, D3, e3, w3, hr3, x3, z3, hn3⟩ := HOB.out w4 hb5
          have HN := Lib.hid hn3
          have HR := Lib.hid hr3
          clear hn3 hb4 hb5 hr3
          refine hK _ _ ?_
          clear hK K
          refine wpAnyIn_ready (rs := [3]) (by kernel_rfl) (by simp) ?_
          refine AllReadyIn.cons rfl (fun K hK => ?_) ?_
          · skip
            go_simp
            refine hK _ _ ?_
            clear hK K
            refine wpAnyIn_ready (rs := [4]) (by kernel_rfl) (by simp) ?_
            refine AllReadyIn.cons rfl (fun K hK => ?_) ?_
            · skip
              refine stepIn_append rfl (fun _ => trivial) (.tmp 8) (.tmp 11) _ rfl _ _ rfl rfl HR.out ?_
              refine hK _ _ ?_
              clear hK K
              refine wpAnyIn_ready (rs := [5]) (by kernel_rfl) (by simp) ?_
              refine AllReadyIn.cons rfl (fun K hK => ?_) ?_
              · skip
                go_simp
                refine hK _ _ ?_
                clear hK K
                refine wpAnyIn_done (by kernel_rfl) ?_ _
                gi_wp2
                exact HN.out
              exact AllReadyIn.nil
            exact AllReadyIn.nil
          exact AllReadyIn.nil
        exact AllReadyIn.nil
      refine AllReadyIn.cons rfl (fun K hK => ?_) ?_
      · skip
        go_simp
        refine CallsIn.mono (CallsIn.inRound l (callsIn_wide.2 (HI.out 1))) ?_
        rintro e4 w4 ⟨rfl, hb4⟩
        have hb5 := kp_trans (kp_drewN W 1) hb4
        obtain ⟨x4, z4, hl4, D3, e3, w3, hr3, x3, z3, hn3⟩ := HOB.out w4 hb5
        have HN := Lib.hid hn3
        have HR := Lib.hid hr3
        clear hn3 hb4 hb5 hr3
        refine hK _ _ ?_
        clear hK K
        refine wpAnyIn_ready (rs := [0, 3]) (by kernel_rfl) (by simp) ?_
        refine AllReadyIn.cons rfl (fun K hK => ?_) ?_
        · skip
          go_simp
          refine hK _ _ ?_
          clear hK K
          refine wpAnyIn_ready (rs := [3]) (by kernel_rfl) (by simp) ?_
          refine AllReadyIn.cons rfl (fun K hK => ?_) ?_
          · skip
            go_simp
            refine hK _ _ ?_
            clear hK K
            refine wpAnyIn_ready (rs := [4]) (by kernel_rfl) (by simp) ?_
            refine AllReadyIn.cons rfl (fun K hK => ?_) ?_
            · skip
              refine stepIn_append rfl (fun _ => trivial) (.tmp 8) (.tmp 11) _ rfl _ _ rfl rfl HR.out ?_
              refine hK _ _ ?_
              clear hK K
              refine wpAnyIn_ready (rs := [5]) (by kernel_rfl) (by simp) ?_
              refine AllReadyIn.cons rfl (fun K hK => ?_) ?_
              · skip
                go_simp
                refine hK _ _ ?_
                clear hK K
                refine wpAnyIn_done (by kernel_rfl) ?_ _
                gi_wp2
                exact HN.out
              exact AllReadyIn.nil
            exact AllReadyIn.nil
          exact AllReadyIn.nil
        refine AllReadyIn.cons rfl (fun K hK => ?_) ?_
        · skip
          go_simp
          refine hK _ _ ?_
          clear hK K
          refine wpAnyIn_ready (rs := [0]) (by kernel_rfl) (by simp) ?_
          refine AllReadyIn.cons rfl (fun K hK => ?_) ?_
          · skip
            go_simp
            refine hK _ _ ?_
            clear hK K
            refine wpAnyIn_ready (rs := [4]) (by kernel_rfl) (by simp) ?_
            refine AllReadyIn.cons rfl (fun K hK => ?_) ?_
            · skip
              refine stepIn_append rfl (fun _ => trivial) (.tmp 8) (.tmp 11) _ rfl _ _ rfl rfl HR.out ?_
              refine hK _ _ ?_
              clear hK K
              refine wpAnyIn_ready (rs := [5]) (by kernel_rfl) (by simp) ?_
              refine AllReadyIn.cons rfl (fun K hK => ?_) ?_
              · skip
                go_simp
                refine hK _ _ ?_
                clear hK K
                refine wpAnyIn_done (by kernel_rfl) ?_ _
                gi_wp2
                exact HN.out
              exact AllReadyIn.nil
            exact AllReadyIn.nil
          exact AllReadyIn.nil
        exact AllReadyIn.nil
      exact AllReadyIn.nil
    exact AllReadyIn.nil
  case done =>
    rintro W ⟨D, e, h1, h2, h3, h4⟩ hd
    rw [List.take_of_length_le (by omega)] at h2
    obtain ⟨x1, z1⟩ := cellsAt h1 0 (v := .slice D n e) rfl
    have HO : Hid (∀ o, (W.putObj w2.heap.size o).ownsRow w.heap.size 39 6 (.slice D n e) n (inC (p.l.map infoH))) := Lib.hid fun o => own_keep (own_base_s h2 (by omega)) fun g hg => World.putObj_heap_other (by have := (h2.lt g hg).1; omega)
    have H3 := Lib.hid h3
    clear h1 h2 h3
    gi_wp2
    refine ⟨by simp, .inl ⟨_, _, rfl, run_takeDeferred hd, ?_⟩⟩
    exact ⟨_, results_tmp rfl _ _ _, D, n, e, rfl, HO.out _, hn6, put_below H3.out (by omega) (by omega) _⟩
  case stop =>
    intro W h
    exact h.elim
end
end
end Go.Proofs.Ytkbaljdpnopbmaa
