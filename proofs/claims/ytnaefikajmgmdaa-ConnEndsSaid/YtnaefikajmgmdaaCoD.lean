/-
  An act on a connection, the project's and the document's: contracts.
-/
import Derived.Test.YtnaefikajmgmdaaCoC
import Derived.Test.YtnaefikajmgmdaaCoR
namespace Go.Proofs.Ytnaefikajmgmdaa
open Go.RowKit
set_option maxRecDepth 100000

theorem results_cell1 {fn : Func} {p : Tmp} {ty : TypeId} (h : fn.results = #[.cell p ty]) (tmps : Array Value) (P : Program) (w : World) :
    (results fn tmps).run P w = ((asAddr (tmps.getD p undef)).run P w).andThen fun a w₁ => (loadVar ty a).run P w₁ := by
  simp only [results, h]
  simp [Sem.run_bind, Result.andThen]
def toldV (r : Told3) : Value := .agg #[.bool r.i, .int .i64 r.e, .int .u64 r.n]
/-- three blocks that a call made, behind a call of its own that wrote none of them -/
theorem loc3 {Y : Thing} {S : Nat → Prop} {o1 o2 o3 : Obj} {w w4 : World} (ht : Turn Y S (((w.alloc o1).alloc o2).alloc o3) w4) (hS : ∀ k, S k → k < w.heap.size) :
    w4.heap[w.heap.size]? = some o1 ∧ w4.heap[w.heap.size + 1]? = some o2 ∧ w4.heap[w.heap.size + 1 + 1]? = some o3 := by
  have h := ht.off.block
  have hz : (((w.alloc o1).alloc o2).alloc o3).heap.size = w.heap.size + 3 := by simp
  have z1 : (w.alloc o1).heap.size = w.heap.size + 1 := by simp
  have z2 : ((w.alloc o1).alloc o2).heap.size = w.heap.size + 1 + 1 := by simp
  refine ⟨?_, ?_, ?_⟩
  · rw [h _ (by omega) (fun e => by have := hS _ e; omega), heap_alloc_old _ _ (by omega), heap_alloc_old _ _ (by omega)]
    exact heap_alloc_new w o1
  · rw [h _ (by omega) (fun e => by have := hS _ e; omega), heap_alloc_old _ _ (by omega), ← z1]
    exact heap_alloc_new _ o2
  · rw [h _ (by omega) (fun e => by have := hS _ e; omega), ← z2]
    exact heap_alloc_new _ o3
theorem turn3 {X Y : Thing} {S : Nat → Prop} {o1 o2 o3 : Obj} {w w4 w5 : World} (h : X.p S w) (ht : Turn Y S (((w.alloc o1).alloc o2).alloc o3) w4) (ho : Off (fun k => w.heap.size ≤ k ∧ k < w.heap.size + 3) w4 w5) : Turn Y S w w5 := by
  obtain ⟨⟨S', p, q⟩, o⟩ := ht
  have hz : (((w.alloc o1).alloc o2).alloc o3).heap.size = w.heap.size + 3 := by simp
  have hS := X.lt h
  have hn : ∀ k, S' k → ¬ (w.heap.size ≤ k ∧ k < w.heap.size + 3) := fun k hk => by
    rcases q k hk with e | e
    · have := hS k e; omega
    · omega
  refine ⟨⟨S', Thing.off p ho hn, fun k hk => (q k hk).imp id fun e => by omega⟩, ?_⟩
  have k3 := kp_alloc (kp_alloc (kp_alloc (Below.refl _ w) o1) o2) o3
  have hz2 := o.size
  exact ⟨(ho.os.trans o.os).trans k3.os, (ho.tape.trans o.tape).trans k3.tape, (ho.output.trans o.output).trans k3.output, by have := ho.size; omega, fun k hk hns => by
    rw [ho.block k (by omega) (by omega), o.block k (by omega) hns]
    exact k3.block k hk⟩
section
variable {b : Nat} {ep : Int} {c : Cn} {S : Nat → Prop} {w : World}
set_option maxHeartbeats 2000000 in
theorem do_ok (t : Act3) (h : (CC b ep c).p S w) :
    Calls Try.prog 9 #[.pointer (some ⟨b, 0, none⟩), .agg #[.int .i64 t.d, .int .i64 t.x, .int .u64 t.y]] w fun e w' => e = .returned (toldV (c.doA t)) ∧ Turn (CC b ep (c.doC t)) S w w' := by
  have HW : Hid (∀ o1 o2 o3, (CC b ep c).p S (((w.alloc o1).alloc o2).alloc o3)) := Lib.hid fun o1 o2 o3 => Thing.next h (kp_alloc (kp_alloc (kp_alloc (Below.refl _ w) o1) o2) o3)
  have H := Lib.hid h
  clear h
  obtain ⟨d, x, y⟩ := t
  dsimp only
  by_cases h0 : d = 0
  · subst h0
    have hA : Cn.doA ⟨0, x, y⟩ c = ⟨c.lendA x, 0, 0⟩ := rfl
    have hC : Cn.doC ⟨0, x, y⟩ c = c.lendC x := rfl
    rw [hA, hC]
    clear hA hC 
    have HC : Hid (∀ o1 o2 o3, Calls Try.prog _ _ (((w.alloc o1).alloc o2).alloc o3) _) := Lib.hid fun o1 o2 o3 => clend_ok x (HW.out o1 o2 o3)
    generalize c.lendA x = v at *
    go_enter Try.func9, Try.ntmps9
    go_wp2_with fail
    refine (HC.out _ _ _).mono ?_
    rintro e w4 ⟨rfl, ht⟩
    obtain ⟨_, b1, b2⟩ := loc3 ht ((CC b ep c).lt H.out)
    obtain ⟨m0, z0⟩ := cellsAt b1 0 (v := .bool false) rfl
    obtain ⟨q0, y0⟩ := cellsAt b2 0 (v := .bool false) rfl
    obtain ⟨m1, z1⟩ := cellsAt b1 1 (v := .int .i64 0) rfl
    obtain ⟨q1, y1⟩ := cellsAt b2 1 (v := .int .i64 0) rfl
    obtain ⟨m2, z2⟩ := cellsAt b1 2 (v := .int .u64 0) rfl
    obtain ⟨q2, y2⟩ := cellsAt b2 2 (v := .int .u64 0) rfl
    have HT := Lib.hid ht
    clear ht b1 b2 HW HC
    go_wp2_with fail
    refine bodyPost_ret (v := toldV ⟨v, 0, 0⟩) ?_ rfl ⟨rfl, turn3 H.out HT.out (((((Off.refl (fun k => w.heap.size ≤ k ∧ k < w.heap.size + 3) _).setCell (.inl ⟨by simp; omega, by simp⟩) _).setCell (p := ⟨w.heap.size + 1, 0, none⟩) (.inl ⟨Nat.le_succ _, by show w.heap.size + 1 < w.heap.size + 3; omega⟩) _).setCell (p := ⟨w.heap.size + 1, 1, none⟩) (.inl ⟨Nat.le_succ _, by show w.heap.size + 1 < w.heap.size + 3; omega⟩) _).setCell (p := ⟨w.heap.size + 1, 2, none⟩) (.inl ⟨Nat.le_succ _, by show w.heap.size + 1 < w.heap.size + 3; omega⟩) _)⟩
    rw [results_cell1 rfl]
    unfold toldV
    go_simp
  · have e0 : (d == 0) = false := by simpa using h0
    by_cases h1 : d = 1
    · subst h1
      have hA : Cn.doA ⟨1, x, y⟩ c = ⟨false, c.sendA y, 0⟩ := rfl
      have hC : Cn.doC ⟨1, x, y⟩ c = c.sendC y := rfl
      rw [hA, hC]
      clear hA hC h0
      have HC : Hid (∀ o1 o2 o3, Calls Try.prog _ _ (((w.alloc o1).alloc o2).alloc o3) _) := Lib.hid fun o1 o2 o3 => csend_ok y (HW.out o1 o2 o3)
      generalize c.sendA y = v at *
      go_enter Try.func9, Try.ntmps9
      go_wp2_with fail
      refine (HC.out _ _ _).mono ?_
      rintro e w4 ⟨rfl, ht⟩
      obtain ⟨_, b1, b2⟩ := loc3 ht ((CC b ep c).lt H.out)
      obtain ⟨m0, z0⟩ := cellsAt b1 0 (v := .bool false) rfl
      obtain ⟨q0, y0⟩ := cellsAt b2 0 (v := .bool false) rfl
      obtain ⟨m1, z1⟩ := cellsAt b1 1 (v := .int .i64 0) rfl
      obtain ⟨q1, y1⟩ := cellsAt b2 1 (v := .int .i64 0) rfl
      obtain ⟨m2, z2⟩ := cellsAt b1 2 (v := .int .u64 0) rfl
      obtain ⟨q2, y2⟩ := cellsAt b2 2 (v := .int .u64 0) rfl
      have HT := Lib.hid ht
      clear ht b1 b2 HW HC
      go_wp2_with fail
      refine bodyPost_ret (v := toldV ⟨false, v, 0⟩) ?_ rfl ⟨rfl, turn3 H.out HT.out (((((Off.refl (fun k => w.heap.size ≤ k ∧ k < w.heap.size + 3) _).setCell (.inl ⟨by simp; omega, by simp⟩) _).setCell (p := ⟨w.heap.size + 1, 0, none⟩) (.inl ⟨Nat.le_succ _, by show w.heap.size + 1 < w.heap.size + 3; omega⟩) _).setCell (p := ⟨w.heap.size + 1, 1, none⟩) (.inl ⟨Nat.le_succ _, by show w.heap.size + 1 < w.heap.size + 3; omega⟩) _).setCell (p := ⟨w.heap.size + 1, 2, none⟩) (.inl ⟨Nat.le_succ _, by show w.heap.size + 1 < w.heap.size + 3; omega⟩) _)⟩
      rw [results_cell1 rfl]
      unfold toldV
      go_simp
    · have e1 : (d == 1) = false := by simpa using h1
      by_cases h2 : d = 2
      · subst h2
        have hA : Cn.doA ⟨2, x, y⟩ c = ⟨c.replyA y, 0, 0⟩ := rfl
        have hC : Cn.doC ⟨2, x, y⟩ c = c.replyC y := rfl
        rw [hA, hC]
        clear hA hC h0 h1
        have HC : Hid (∀ o1 o2 o3, Calls Try.prog _ _ (((w.alloc o1).alloc o2).alloc o3) _) := Lib.hid fun o1 o2 o3 => creply_ok y (HW.out o1 o2 o3)
        generalize c.replyA y = v at *
        go_enter Try.func9, Try.ntmps9
        go_wp2_with fail
        refine (HC.out _ _ _).mono ?_
        rintro e w4 ⟨rfl, ht⟩
        obtain ⟨_, b1, b2⟩ := loc3 ht ((CC b ep c).lt H.out)
        obtain ⟨m0, z0⟩ := cellsAt b1 0 (v := .bool false) rfl
        obtain ⟨q0, y0⟩ := cellsAt b2 0 (v := .bool false) rfl
        obtain ⟨m1, z1⟩ := cellsAt b1 1 (v := .int .i64 0) rfl
        obtain ⟨q1, y1⟩ := cellsAt b2 1 (v := .int .i64 0) rfl
        obtain ⟨m2, z2⟩ := cellsAt b1 2 (v := .int .u64 0) rfl
        obtain ⟨q2, y2⟩ := cellsAt b2 2 (v := .int .u64 0) rfl
        have HT := Lib.hid ht
        clear ht b1 b2 HW HC
        go_wp2_with fail
        refine bodyPost_ret (v := toldV ⟨v, 0, 0⟩) ?_ rfl ⟨rfl, turn3 H.out HT.out (((((Off.refl (fun k => w.heap.size ≤ k ∧ k < w.heap.size + 3) _).setCell (.inl ⟨by simp; omega, by simp⟩) _).setCell (p := ⟨w.heap.size + 1, 0, none⟩) (.inl ⟨Nat.le_succ _, by show w.heap.size + 1 < w.heap.size + 3; omega⟩) _).setCell (p := ⟨w.heap.size + 1, 1, none⟩) (.inl ⟨Nat.le_succ _, by show w.heap.size + 1 < w.heap.size + 3; omega⟩) _).setCell (p := ⟨w.heap.size + 1, 2, none⟩) (.inl ⟨Nat.le_succ _, by show w.heap.size + 1 < w.heap.size + 3; omega⟩) _)⟩
        rw [results_cell1 rfl]
        unfold toldV
        go_simp
      · have e2 : (d == 2) = false := by simpa using h2
        by_cases h3 : d = 3
        · subst h3
          have hA : Cn.doA ⟨3, x, y⟩ c = ⟨c.soilA, 0, 0⟩ := rfl
          have hC : Cn.doC ⟨3, x, y⟩ c = c.soilC := rfl
          rw [hA, hC]
          clear hA hC h0 h1 h2
          have HC : Hid (∀ o1 o2 o3, Calls Try.prog _ _ (((w.alloc o1).alloc o2).alloc o3) _) := Lib.hid fun o1 o2 o3 => csoil_ok (HW.out o1 o2 o3)
          generalize c.soilA = v at *
          go_enter Try.func9, Try.ntmps9
          go_wp2_with fail
          refine (HC.out _ _ _).mono ?_
          rintro e w4 ⟨rfl, ht⟩
          obtain ⟨_, b1, b2⟩ := loc3 ht ((CC b ep c).lt H.out)
          obtain ⟨m0, z0⟩ := cellsAt b1 0 (v := .bool false) rfl
          obtain ⟨q0, y0⟩ := cellsAt b2 0 (v := .bool false) rfl
          obtain ⟨m1, z1⟩ := cellsAt b1 1 (v := .int .i64 0) rfl
          obtain ⟨q1, y1⟩ := cellsAt b2 1 (v := .int .i64 0) rfl
          obtain ⟨m2, z2⟩ := cellsAt b1 2 (v := .int .u64 0) rfl
          obtain ⟨q2, y2⟩ := cellsAt b2 2 (v := .int .u64 0) rfl
          have HT := Lib.hid ht
          clear ht b1 b2 HW HC
          go_wp2_with fail
          refine bodyPost_ret (v := toldV ⟨v, 0, 0⟩) ?_ rfl ⟨rfl, turn3 H.out HT.out (((((Off.refl (fun k => w.heap.size ≤ k ∧ k < w.heap.size + 3) _).setCell (.inl ⟨by simp; omega, by simp⟩) _).setCell (p := ⟨w.heap.size + 1, 0, none⟩) (.inl ⟨Nat.le_succ _, by show w.heap.size + 1 < w.heap.size + 3; omega⟩) _).setCell (p := ⟨w.heap.size + 1, 1, none⟩) (.inl ⟨Nat.le_succ _, by show w.heap.size + 1 < w.heap.size + 3; omega⟩) _).setCell (p := ⟨w.heap.size + 1, 2, none⟩) (.inl ⟨Nat.le_succ _, by show w.heap.size + 1 < w.heap.size + 3; omega⟩) _)⟩
          rw [results_cell1 rfl]
          unfold toldV
          go_simp
        · have e3 : (d == 3) = false := by simpa using h3
          by_cases h4 : d = 4
          · subst h4
            have hA : Cn.doA ⟨4, x, y⟩ c = ⟨c.releaseA, 0, 0⟩ := rfl
            have hC : Cn.doC ⟨4, x, y⟩ c = c.releaseC := rfl
            rw [hA, hC]
            clear hA hC h0 h1 h2 h3
            have HC : Hid (∀ o1 o2 o3, Calls Try.prog _ _ (((w.alloc o1).alloc o2).alloc o3) _) := Lib.hid fun o1 o2 o3 => crelease_ok (HW.out o1 o2 o3)
            generalize c.releaseA = v at *
            go_enter Try.func9, Try.ntmps9
            go_wp2_with fail
            refine (HC.out _ _ _).mono ?_
            rintro e w4 ⟨rfl, ht⟩
            obtain ⟨_, b1, b2⟩ := loc3 ht ((CC b ep c).lt H.out)
            obtain ⟨m0, z0⟩ := cellsAt b1 0 (v := .bool false) rfl
            obtain ⟨q0, y0⟩ := cellsAt b2 0 (v := .bool false) rfl
            obtain ⟨m1, z1⟩ := cellsAt b1 1 (v := .int .i64 0) rfl
            obtain ⟨q1, y1⟩ := cellsAt b2 1 (v := .int .i64 0) rfl
            obtain ⟨m2, z2⟩ := cellsAt b1 2 (v := .int .u64 0) rfl
            obtain ⟨q2, y2⟩ := cellsAt b2 2 (v := .int .u64 0) rfl
            have HT := Lib.hid ht
            clear ht b1 b2 HW HC
            go_wp2_with fail
            refine bodyPost_ret (v := toldV ⟨v, 0, 0⟩) ?_ rfl ⟨rfl, turn3 H.out HT.out (((((Off.refl (fun k => w.heap.size ≤ k ∧ k < w.heap.size + 3) _).setCell (.inl ⟨by simp; omega, by simp⟩) _).setCell (p := ⟨w.heap.size + 1, 0, none⟩) (.inl ⟨Nat.le_succ _, by show w.heap.size + 1 < w.heap.size + 3; omega⟩) _).setCell (p := ⟨w.heap.size + 1, 1, none⟩) (.inl ⟨Nat.le_succ _, by show w.heap.size + 1 < w.heap.size + 3; omega⟩) _).setCell (p := ⟨w.heap.size + 1, 2, none⟩) (.inl ⟨Nat.le_succ _, by show w.heap.size + 1 < w.heap.size + 3; omega⟩) _)⟩
            rw [results_cell1 rfl]
            unfold toldV
            go_simp
          · have e4 : (d == 4) = false := by simpa using h4
            by_cases h5 : d = 5
            · subst h5
              have hA : Cn.doA ⟨5, x, y⟩ c = ⟨false, 0, 0⟩ := rfl
              have hC : Cn.doC ⟨5, x, y⟩ c = c.drainC := rfl
              rw [hA, hC]
              clear hA hC h0 h1 h2 h3 h4
              have HC : Hid (∀ o1 o2 o3, Calls Try.prog _ _ (((w.alloc o1).alloc o2).alloc o3) _) := Lib.hid fun o1 o2 o3 => cdrain_ok (HW.out o1 o2 o3)
              go_enter Try.func9, Try.ntmps9
              go_wp2_with fail
              refine (HC.out _ _ _).mono ?_
              rintro e w4 ⟨rfl, ht⟩
              obtain ⟨_, b1, b2⟩ := loc3 ht ((CC b ep c).lt H.out)
              obtain ⟨m0, z0⟩ := cellsAt b1 0 (v := .bool false) rfl
              obtain ⟨q0, y0⟩ := cellsAt b2 0 (v := .bool false) rfl
              obtain ⟨m1, z1⟩ := cellsAt b1 1 (v := .int .i64 0) rfl
              obtain ⟨q1, y1⟩ := cellsAt b2 1 (v := .int .i64 0) rfl
              obtain ⟨m2, z2⟩ := cellsAt b1 2 (v := .int .u64 0) rfl
              obtain ⟨q2, y2⟩ := cellsAt b2 2 (v := .int .u64 0) rfl
              have HT := Lib.hid ht
              clear ht b1 b2 HW HC
              go_wp2_with fail
              refine bodyPost_ret (v := toldV ⟨false, 0, 0⟩) ?_ rfl ⟨rfl, turn3 H.out HT.out ((((Off.refl (fun k => w.heap.size ≤ k ∧ k < w.heap.size + 3) _).setCell (p := ⟨w.heap.size + 1, 0, none⟩) (.inl ⟨Nat.le_succ _, by show w.heap.size + 1 < w.heap.size + 3; omega⟩) _).setCell (p := ⟨w.heap.size + 1, 1, none⟩) (.inl ⟨Nat.le_succ _, by show w.heap.size + 1 < w.heap.size + 3; omega⟩) _).setCell (p := ⟨w.heap.size + 1, 2, none⟩) (.inl ⟨Nat.le_succ _, by show w.heap.size + 1 < w.heap.size + 3; omega⟩) _)⟩
              rw [results_cell1 rfl]
              unfold toldV
              go_simp
            · have e5 : (d == 5) = false := by simpa using h5
              by_cases h6 : d = 6
              · subst h6
                have hA : Cn.doA ⟨6, x, y⟩ c = ⟨false, 0, c.f⟩ := rfl
                have hC : Cn.doC ⟨6, x, y⟩ c = c.breakC := rfl
                rw [hA, hC]
                clear hA hC h0 h1 h2 h3 h4 h5
                have HC : Hid (∀ o1 o2 o3, Calls Try.prog _ _ (((w.alloc o1).alloc o2).alloc o3) _) := Lib.hid fun o1 o2 o3 => cbreak_ok (HW.out o1 o2 o3)
                generalize c.f = v at *
                go_enter Try.func9, Try.ntmps9
                go_wp2_with fail
                refine (HC.out _ _ _).mono ?_
                rintro e w4 ⟨rfl, ht⟩
                obtain ⟨_, b1, b2⟩ := loc3 ht ((CC b ep c).lt H.out)
                obtain ⟨m0, z0⟩ := cellsAt b1 0 (v := .bool false) rfl
                obtain ⟨q0, y0⟩ := cellsAt b2 0 (v := .bool false) rfl
                obtain ⟨m1, z1⟩ := cellsAt b1 1 (v := .int .i64 0) rfl
                obtain ⟨q1, y1⟩ := cellsAt b2 1 (v := .int .i64 0) rfl
                obtain ⟨m2, z2⟩ := cellsAt b1 2 (v := .int .u64 0) rfl
                obtain ⟨q2, y2⟩ := cellsAt b2 2 (v := .int .u64 0) rfl
                have HT := Lib.hid ht
                clear ht b1 b2 HW HC
                go_wp2_with fail
                refine bodyPost_ret (v := toldV ⟨false, 0, v⟩) ?_ rfl ⟨rfl, turn3 H.out HT.out (((((Off.refl (fun k => w.heap.size ≤ k ∧ k < w.heap.size + 3) _).setCell (.inl ⟨by simp; omega, by simp⟩) _).setCell (p := ⟨w.heap.size + 1, 0, none⟩) (.inl ⟨Nat.le_succ _, by show w.heap.size + 1 < w.heap.size + 3; omega⟩) _).setCell (p := ⟨w.heap.size + 1, 1, none⟩) (.inl ⟨Nat.le_succ _, by show w.heap.size + 1 < w.heap.size + 3; omega⟩) _).setCell (p := ⟨w.heap.size + 1, 2, none⟩) (.inl ⟨Nat.le_succ _, by show w.heap.size + 1 < w.heap.size + 3; omega⟩) _)⟩
                rw [results_cell1 rfl]
                unfold toldV
                go_simp
              · have e6 : (d == 6) = false := by simpa using h6
                have hA : Cn.doA ⟨d, x, y⟩ c = ⟨false, 0, 0⟩ := by simp [Cn.doA, h0, h1, h2, h3, h4, h5, h6]
                have hC : Cn.doC ⟨d, x, y⟩ c = c := by simp [Cn.doC, h0, h1, h2, h3, h4, h5, h6]
                rw [hA, hC]
                clear hA hC h0 h1 h2 h3 h4 h5 h6
                go_enter Try.func9, Try.ntmps9
                have ht := Turn.here (HW.out (.cells #[.int .i64 d, .int .i64 x, .int .u64 y] 30) (.cells #[.bool false, .int .i64 0, .int .u64 0] 33) (.cells #[.bool false, .int .i64 0, .int .u64 0] 33))
                have HW4 := Lib.hid (rfl : ((w.alloc (.cells #[.int .i64 d, .int .i64 x, .int .u64 y] 30)).alloc (.cells #[.bool false, .int .i64 0, .int .u64 0] 33)).alloc (.cells #[.bool false, .int .i64 0, .int .u64 0] 33) = ((w.alloc (.cells #[.int .i64 d, .int .i64 x, .int .u64 y] 30)).alloc (.cells #[.bool false, .int .i64 0, .int .u64 0] 33)).alloc (.cells #[.bool false, .int .i64 0, .int .u64 0] 33))
                obtain ⟨_, b1, b2⟩ := loc3 ht ((CC b ep c).lt H.out)
                obtain ⟨m0, z0⟩ := cellsAt b1 0 (v := .bool false) rfl
                obtain ⟨q0, y0⟩ := cellsAt b2 0 (v := .bool false) rfl
                obtain ⟨m1, z1⟩ := cellsAt b1 1 (v := .int .i64 0) rfl
                obtain ⟨q1, y1⟩ := cellsAt b2 1 (v := .int .i64 0) rfl
                obtain ⟨m2, z2⟩ := cellsAt b1 2 (v := .int .u64 0) rfl
                obtain ⟨q2, y2⟩ := cellsAt b2 2 (v := .int .u64 0) rfl
                have HT := Lib.hid ht
                clear ht b1 b2 HW HW4
                go_wp2_with fail
                refine bodyPost_ret (v := toldV ⟨false, 0, 0⟩) ?_ rfl ⟨rfl, turn3 H.out HT.out (Off.refl (fun k => w.heap.size ≤ k ∧ k < w.heap.size + 3) _)⟩
                rw [results_cell1 rfl]
                unfold toldV
                go_simp

set_option maxHeartbeats 2000000 in
theorem own_ok (t : Act3) (h : (RC b ep c).p S w) :
    Calls Try.prog 10 #[.pointer (some ⟨b, 0, none⟩), .agg #[.int .i64 t.d, .int .i64 t.x, .int .u64 t.y]] w fun e w' => e = .returned (toldV (c.doA t)) ∧ Turn (RC b ep (c.doC t)) S w w' := by
  have HW : Hid (∀ o1 o2 o3, (RC b ep c).p S (((w.alloc o1).alloc o2).alloc o3)) := Lib.hid fun o1 o2 o3 => Thing.next h (kp_alloc (kp_alloc (kp_alloc (Below.refl _ w) o1) o2) o3)
  have H := Lib.hid h
  clear h
  obtain ⟨d, x, y⟩ := t
  dsimp only
  by_cases h0 : d = 0
  · subst h0
    have hA : Cn.doA ⟨0, x, y⟩ c = ⟨c.lendA x, 0, 0⟩ := rfl
    have hC : Cn.doC ⟨0, x, y⟩ c = c.lendC x := rfl
    rw [hA, hC]
    clear hA hC 
    have HC : Hid (∀ o1 o2 o3, Calls Try.prog _ _ (((w.alloc o1).alloc o2).alloc o3) _) := Lib.hid fun o1 o2 o3 => rlend_ok x (HW.out o1 o2 o3)
    generalize c.lendA x = v at *
    go_enter Try.func10, Try.ntmps10
    go_wp2_with fail
    refine (HC.out _ _ _).mono ?_
    rintro e w4 ⟨rfl, ht⟩
    obtain ⟨_, b1, b2⟩ := loc3 ht ((RC b ep c).lt H.out)
    obtain ⟨m0, z0⟩ := cellsAt b1 0 (v := .bool false) rfl
    obtain ⟨q0, y0⟩ := cellsAt b2 0 (v := .bool false) rfl
    obtain ⟨m1, z1⟩ := cellsAt b1 1 (v := .int .i64 0) rfl
    obtain ⟨q1, y1⟩ := cellsAt b2 1 (v := .int .i64 0) rfl
    obtain ⟨m2, z2⟩ := cellsAt b1 2 (v := .int .u64 0) rfl
    obtain ⟨q2, y2⟩ := cellsAt b2 2 (v := .int .u64 0) rfl
    have HT := Lib.hid ht
    clear ht b1 b2 HW HC
    go_wp2_with fail
    refine bodyPost_ret (v := toldV ⟨v, 0, 0⟩) ?_ rfl ⟨rfl, turn3 H.out HT.out (((((Off.refl (fun k => w.heap.size ≤ k ∧ k < w.heap.size + 3) _).setCell (.inl ⟨by simp; omega, by simp⟩) _).setCell (p := ⟨w.heap.size + 1, 0, none⟩) (.inl ⟨Nat.le_succ _, by show w.heap.size + 1 < w.heap.size + 3; omega⟩) _).setCell (p := ⟨w.heap.size + 1, 1, none⟩) (.inl ⟨Nat.le_succ _, by show w.heap.size + 1 < w.heap.size + 3; omega⟩) _).setCell (p := ⟨w.heap.size + 1, 2, none⟩) (.inl ⟨Nat.le_succ _, by show w.heap.size + 1 < w.heap.size + 3; omega⟩) _)⟩
    rw [results_cell1 rfl]
    unfold toldV
    go_simp
  · have e0 : (d == 0) = false := by simpa using h0
    by_cases h1 : d = 1
    · subst h1
      have hA : Cn.doA ⟨1, x, y⟩ c = ⟨false, c.sendA y, 0⟩ := rfl
      have hC : Cn.doC ⟨1, x, y⟩ c = c.sendC y := rfl
      rw [hA, hC]
      clear hA hC h0
      have HC : Hid (∀ o1 o2 o3, Calls Try.prog _ _ (((w.alloc o1).alloc o2).alloc o3) _) := Lib.hid fun o1 o2 o3 => rsend_ok y (HW.out o1 o2 o3)
      generalize c.sendA y = v at *
      go_enter Try.func10, Try.ntmps10
      go_wp2_with fail
      refine (HC.out _ _ _).mono ?_
      rintro e w4 ⟨rfl, ht⟩
      obtain ⟨_, b1, b2⟩ := loc3 ht ((RC b ep c).lt H.out)
      obtain ⟨m0, z0⟩ := cellsAt b1 0 (v := .bool false) rfl
      obtain ⟨q0, y0⟩ := cellsAt b2 0 (v := .bool false) rfl
      obtain ⟨m1, z1⟩ := cellsAt b1 1 (v := .int .i64 0) rfl
      obtain ⟨q1, y1⟩ := cellsAt b2 1 (v := .int .i64 0) rfl
      obtain ⟨m2, z2⟩ := cellsAt b1 2 (v := .int .u64 0) rfl
      obtain ⟨q2, y2⟩ := cellsAt b2 2 (v := .int .u64 0) rfl
      have HT := Lib.hid ht
      clear ht b1 b2 HW HC
      go_wp2_with fail
      refine bodyPost_ret (v := toldV ⟨false, v, 0⟩) ?_ rfl ⟨rfl, turn3 H.out HT.out (((((Off.refl (fun k => w.heap.size ≤ k ∧ k < w.heap.size + 3) _).setCell (.inl ⟨by simp; omega, by simp⟩) _).setCell (p := ⟨w.heap.size + 1, 0, none⟩) (.inl ⟨Nat.le_succ _, by show w.heap.size + 1 < w.heap.size + 3; omega⟩) _).setCell (p := ⟨w.heap.size + 1, 1, none⟩) (.inl ⟨Nat.le_succ _, by show w.heap.size + 1 < w.heap.size + 3; omega⟩) _).setCell (p := ⟨w.heap.size + 1, 2, none⟩) (.inl ⟨Nat.le_succ _, by show w.heap.size + 1 < w.heap.size + 3; omega⟩) _)⟩
      rw [results_cell1 rfl]
      unfold toldV
      go_simp
    · have e1 : (d == 1) = false := by simpa using h1
      by_cases h2 : d = 2
      · subst h2
        have hA : Cn.doA ⟨2, x, y⟩ c = ⟨c.replyA y, 0, 0⟩ := rfl
        have hC : Cn.doC ⟨2, x, y⟩ c = c.replyC y := rfl
        rw [hA, hC]
        clear hA hC h0 h1
        have HC : Hid (∀ o1 o2 o3, Calls Try.prog _ _ (((w.alloc o1).alloc o2).alloc o3) _) := Lib.hid fun o1 o2 o3 => rreply_ok y (HW.out o1 o2 o3)
        generalize c.replyA y = v at *
        go_enter Try.func10, Try.ntmps10
        go_wp2_with fail
        refine (HC.out _ _ _).mono ?_
        rintro e w4 ⟨rfl, ht⟩
        obtain ⟨_, b1, b2⟩ := loc3 ht ((RC b ep c).lt H.out)
        obtain ⟨m0, z0⟩ := cellsAt b1 0 (v := .bool false) rfl
        obtain ⟨q0, y0⟩ := cellsAt b2 0 (v := .bool false) rfl
        obtain ⟨m1, z1⟩ := cellsAt b1 1 (v := .int .i64 0) rfl
        obtain ⟨q1, y1⟩ := cellsAt b2 1 (v := .int .i64 0) rfl
        obtain ⟨m2, z2⟩ := cellsAt b1 2 (v := .int .u64 0) rfl
        obtain ⟨q2, y2⟩ := cellsAt b2 2 (v := .int .u64 0) rfl
        have HT := Lib.hid ht
        clear ht b1 b2 HW HC
        go_wp2_with fail
        refine bodyPost_ret (v := toldV ⟨v, 0, 0⟩) ?_ rfl ⟨rfl, turn3 H.out HT.out (((((Off.refl (fun k => w.heap.size ≤ k ∧ k < w.heap.size + 3) _).setCell (.inl ⟨by simp; omega, by simp⟩) _).setCell (p := ⟨w.heap.size + 1, 0, none⟩) (.inl ⟨Nat.le_succ _, by show w.heap.size + 1 < w.heap.size + 3; omega⟩) _).setCell (p := ⟨w.heap.size + 1, 1, none⟩) (.inl ⟨Nat.le_succ _, by show w.heap.size + 1 < w.heap.size + 3; omega⟩) _).setCell (p := ⟨w.heap.size + 1, 2, none⟩) (.inl ⟨Nat.le_succ _, by show w.heap.size + 1 < w.heap.size + 3; omega⟩) _)⟩
        rw [results_cell1 rfl]
        unfold toldV
        go_simp
      · have e2 : (d == 2) = false := by simpa using h2
        by_cases h3 : d = 3
        · subst h3
          have hA : Cn.doA ⟨3, x, y⟩ c = ⟨c.soilA, 0, 0⟩ := rfl
          have hC : Cn.doC ⟨3, x, y⟩ c = c.soilC := rfl
          rw [hA, hC]
          clear hA hC h0 h1 h2
          have HC : Hid (∀ o1 o2 o3, Calls Try.prog _ _ (((w.alloc o1).alloc o2).alloc o3) _) := Lib.hid fun o1 o2 o3 => rsoil_ok (HW.out o1 o2 o3)
          generalize c.soilA = v at *
          go_enter Try.func10, Try.ntmps10
          go_wp2_with fail
          refine (HC.out _ _ _).mono ?_
          rintro e w4 ⟨rfl, ht⟩
          obtain ⟨_, b1, b2⟩ := loc3 ht ((RC b ep c).lt H.out)
          obtain ⟨m0, z0⟩ := cellsAt b1 0 (v := .bool false) rfl
          obtain ⟨q0, y0⟩ := cellsAt b2 0 (v := .bool false) rfl
          obtain ⟨m1, z1⟩ := cellsAt b1 1 (v := .int .i64 0) rfl
          obtain ⟨q1, y1⟩ := cellsAt b2 1 (v := .int .i64 0) rfl
          obtain ⟨m2, z2⟩ := cellsAt b1 2 (v := .int .u64 0) rfl
          obtain ⟨q2, y2⟩ := cellsAt b2 2 (v := .int .u64 0) rfl
          have HT := Lib.hid ht
          clear ht b1 b2 HW HC
          go_wp2_with fail
          refine bodyPost_ret (v := toldV ⟨v, 0, 0⟩) ?_ rfl ⟨rfl, turn3 H.out HT.out (((((Off.refl (fun k => w.heap.size ≤ k ∧ k < w.heap.size + 3) _).setCell (.inl ⟨by simp; omega, by simp⟩) _).setCell (p := ⟨w.heap.size + 1, 0, none⟩) (.inl ⟨Nat.le_succ _, by show w.heap.size + 1 < w.heap.size + 3; omega⟩) _).setCell (p := ⟨w.heap.size + 1, 1, none⟩) (.inl ⟨Nat.le_succ _, by show w.heap.size + 1 < w.heap.size + 3; omega⟩) _).setCell (p := ⟨w.heap.size + 1, 2, none⟩) (.inl ⟨Nat.le_succ _, by show w.heap.size + 1 < w.heap.size + 3; omega⟩) _)⟩
          rw [results_cell1 rfl]
          unfold toldV
          go_simp
        · have e3 : (d == 3) = false := by simpa using h3
          by_cases h4 : d = 4
          · subst h4
            have hA : Cn.doA ⟨4, x, y⟩ c = ⟨c.releaseA, 0, 0⟩ := rfl
            have hC : Cn.doC ⟨4, x, y⟩ c = c.releaseC := rfl
            rw [hA, hC]
            clear hA hC h0 h1 h2 h3
            have HC : Hid (∀ o1 o2 o3, Calls Try.prog _ _ (((w.alloc o1).alloc o2).alloc o3) _) := Lib.hid fun o1 o2 o3 => rrelease_ok (HW.out o1 o2 o3)
            generalize c.releaseA = v at *
            go_enter Try.func10, Try.ntmps10
            go_wp2_with fail
            refine (HC.out _ _ _).mono ?_
            rintro e w4 ⟨rfl, ht⟩
            obtain ⟨_, b1, b2⟩ := loc3 ht ((RC b ep c).lt H.out)
            obtain ⟨m0, z0⟩ := cellsAt b1 0 (v := .bool false) rfl
            obtain ⟨q0, y0⟩ := cellsAt b2 0 (v := .bool false) rfl
            obtain ⟨m1, z1⟩ := cellsAt b1 1 (v := .int .i64 0) rfl
            obtain ⟨q1, y1⟩ := cellsAt b2 1 (v := .int .i64 0) rfl
            obtain ⟨m2, z2⟩ := cellsAt b1 2 (v := .int .u64 0) rfl
            obtain ⟨q2, y2⟩ := cellsAt b2 2 (v := .int .u64 0) rfl
            have HT := Lib.hid ht
            clear ht b1 b2 HW HC
            go_wp2_with fail
            refine bodyPost_ret (v := toldV ⟨v, 0, 0⟩) ?_ rfl ⟨rfl, turn3 H.out HT.out (((((Off.refl (fun k => w.heap.size ≤ k ∧ k < w.heap.size + 3) _).setCell (.inl ⟨by simp; omega, by simp⟩) _).setCell (p := ⟨w.heap.size + 1, 0, none⟩) (.inl ⟨Nat.le_succ _, by show w.heap.size + 1 < w.heap.size + 3; omega⟩) _).setCell (p := ⟨w.heap.size + 1, 1, none⟩) (.inl ⟨Nat.le_succ _, by show w.heap.size + 1 < w.heap.size + 3; omega⟩) _).setCell (p := ⟨w.heap.size + 1, 2, none⟩) (.inl ⟨Nat.le_succ _, by show w.heap.size + 1 < w.heap.size + 3; omega⟩) _)⟩
            rw [results_cell1 rfl]
            unfold toldV
            go_simp
          · have e4 : (d == 4) = false := by simpa using h4
            by_cases h5 : d = 5
            · subst h5
              have hA : Cn.doA ⟨5, x, y⟩ c = ⟨false, 0, 0⟩ := rfl
              have hC : Cn.doC ⟨5, x, y⟩ c = c.drainC := rfl
              rw [hA, hC]
              clear hA hC h0 h1 h2 h3 h4
              have HC : Hid (∀ o1 o2 o3, Calls Try.prog _ _ (((w.alloc o1).alloc o2).alloc o3) _) := Lib.hid fun o1 o2 o3 => rdrain_ok (HW.out o1 o2 o3)
              go_enter Try.func10, Try.ntmps10
              go_wp2_with fail
              refine (HC.out _ _ _).mono ?_
              rintro e w4 ⟨rfl, ht⟩
              obtain ⟨_, b1, b2⟩ := loc3 ht ((RC b ep c).lt H.out)
              obtain ⟨m0, z0⟩ := cellsAt b1 0 (v := .bool false) rfl
              obtain ⟨q0, y0⟩ := cellsAt b2 0 (v := .bool false) rfl
              obtain ⟨m1, z1⟩ := cellsAt b1 1 (v := .int .i64 0) rfl
              obtain ⟨q1, y1⟩ := cellsAt b2 1 (v := .int .i64 0) rfl
              obtain ⟨m2, z2⟩ := cellsAt b1 2 (v := .int .u64 0) rfl
              obtain ⟨q2, y2⟩ := cellsAt b2 2 (v := .int .u64 0) rfl
              have HT := Lib.hid ht
              clear ht b1 b2 HW HC
              go_wp2_with fail
              refine bodyPost_ret (v := toldV ⟨false, 0, 0⟩) ?_ rfl ⟨rfl, turn3 H.out HT.out ((((Off.refl (fun k => w.heap.size ≤ k ∧ k < w.heap.size + 3) _).setCell (p := ⟨w.heap.size + 1, 0, none⟩) (.inl ⟨Nat.le_succ _, by show w.heap.size + 1 < w.heap.size + 3; omega⟩) _).setCell (p := ⟨w.heap.size + 1, 1, none⟩) (.inl ⟨Nat.le_succ _, by show w.heap.size + 1 < w.heap.size + 3; omega⟩) _).setCell (p := ⟨w.heap.size + 1, 2, none⟩) (.inl ⟨Nat.le_succ _, by show w.heap.size + 1 < w.heap.size + 3; omega⟩) _)⟩
              rw [results_cell1 rfl]
              unfold toldV
              go_simp
            · have e5 : (d == 5) = false := by simpa using h5
              by_cases h6 : d = 6
              · subst h6
                have hA : Cn.doA ⟨6, x, y⟩ c = ⟨false, 0, c.f⟩ := rfl
                have hC : Cn.doC ⟨6, x, y⟩ c = c.breakC := rfl
                rw [hA, hC]
                clear hA hC h0 h1 h2 h3 h4 h5
                have HC : Hid (∀ o1 o2 o3, Calls Try.prog _ _ (((w.alloc o1).alloc o2).alloc o3) _) := Lib.hid fun o1 o2 o3 => rbreak_ok (HW.out o1 o2 o3)
                generalize c.f = v at *
                go_enter Try.func10, Try.ntmps10
                go_wp2_with fail
                refine (HC.out _ _ _).mono ?_
                rintro e w4 ⟨rfl, ht⟩
                obtain ⟨_, b1, b2⟩ := loc3 ht ((RC b ep c).lt H.out)
                obtain ⟨m0, z0⟩ := cellsAt b1 0 (v := .bool false) rfl
                obtain ⟨q0, y0⟩ := cellsAt b2 0 (v := .bool false) rfl
                obtain ⟨m1, z1⟩ := cellsAt b1 1 (v := .int .i64 0) rfl
                obtain ⟨q1, y1⟩ := cellsAt b2 1 (v := .int .i64 0) rfl
                obtain ⟨m2, z2⟩ := cellsAt b1 2 (v := .int .u64 0) rfl
                obtain ⟨q2, y2⟩ := cellsAt b2 2 (v := .int .u64 0) rfl
                have HT := Lib.hid ht
                clear ht b1 b2 HW HC
                go_wp2_with fail
                refine bodyPost_ret (v := toldV ⟨false, 0, v⟩) ?_ rfl ⟨rfl, turn3 H.out HT.out (((((Off.refl (fun k => w.heap.size ≤ k ∧ k < w.heap.size + 3) _).setCell (.inl ⟨by simp; omega, by simp⟩) _).setCell (p := ⟨w.heap.size + 1, 0, none⟩) (.inl ⟨Nat.le_succ _, by show w.heap.size + 1 < w.heap.size + 3; omega⟩) _).setCell (p := ⟨w.heap.size + 1, 1, none⟩) (.inl ⟨Nat.le_succ _, by show w.heap.size + 1 < w.heap.size + 3; omega⟩) _).setCell (p := ⟨w.heap.size + 1, 2, none⟩) (.inl ⟨Nat.le_succ _, by show w.heap.size + 1 < w.heap.size + 3; omega⟩) _)⟩
                rw [results_cell1 rfl]
                unfold toldV
                go_simp
              · have e6 : (d == 6) = false := by simpa using h6
                have hA : Cn.doA ⟨d, x, y⟩ c = ⟨false, 0, 0⟩ := by simp [Cn.doA, h0, h1, h2, h3, h4, h5, h6]
                have hC : Cn.doC ⟨d, x, y⟩ c = c := by simp [Cn.doC, h0, h1, h2, h3, h4, h5, h6]
                rw [hA, hC]
                clear hA hC h0 h1 h2 h3 h4 h5 h6
                go_enter Try.func10, Try.ntmps10
                have ht := Turn.here (HW.out (.cells #[.int .i64 d, .int .i64 x, .int .u64 y] 30) (.cells #[.bool false, .int .i64 0, .int .u64 0] 33) (.cells #[.bool false, .int .i64 0, .int .u64 0] 33))
                have HW4 := Lib.hid (rfl : ((w.alloc (.cells #[.int .i64 d, .int .i64 x, .int .u64 y] 30)).alloc (.cells #[.bool false, .int .i64 0, .int .u64 0] 33)).alloc (.cells #[.bool false, .int .i64 0, .int .u64 0] 33) = ((w.alloc (.cells #[.int .i64 d, .int .i64 x, .int .u64 y] 30)).alloc (.cells #[.bool false, .int .i64 0, .int .u64 0] 33)).alloc (.cells #[.bool false, .int .i64 0, .int .u64 0] 33))
                obtain ⟨_, b1, b2⟩ := loc3 ht ((RC b ep c).lt H.out)
                obtain ⟨m0, z0⟩ := cellsAt b1 0 (v := .bool false) rfl
                obtain ⟨q0, y0⟩ := cellsAt b2 0 (v := .bool false) rfl
                obtain ⟨m1, z1⟩ := cellsAt b1 1 (v := .int .i64 0) rfl
                obtain ⟨q1, y1⟩ := cellsAt b2 1 (v := .int .i64 0) rfl
                obtain ⟨m2, z2⟩ := cellsAt b1 2 (v := .int .u64 0) rfl
                obtain ⟨q2, y2⟩ := cellsAt b2 2 (v := .int .u64 0) rfl
                have HT := Lib.hid ht
                clear ht b1 b2 HW HW4
                go_wp2_with fail
                refine bodyPost_ret (v := toldV ⟨false, 0, 0⟩) ?_ rfl ⟨rfl, turn3 H.out HT.out (Off.refl (fun k => w.heap.size ≤ k ∧ k < w.heap.size + 3) _)⟩
                rw [results_cell1 rfl]
                unfold toldV
                go_simp
end
end Go.Proofs.Ytnaefikajmgmdaa
