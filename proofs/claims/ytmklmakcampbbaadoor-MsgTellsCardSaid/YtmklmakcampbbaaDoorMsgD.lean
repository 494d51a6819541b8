/-
  Whether numbers, texts, messages are the same (slices.Equal at two types, Same of package msg): contracts.
-/
import Derived.Test.YtmklmakcampbbaaDoorMsgB
namespace Go.Proofs.YtmklmakcampbbaaDoor
open Go.RowKit
set_option maxRecDepth 100000

theorem take_step {α : Type} {xs ys : List α} {k : Nat} (hx : k < xs.length) (hy : k < ys.length) (h : xs.take k = ys.take k) (e : xs[k] = ys[k]) : xs.take (k + 1) = ys.take (k + 1) := by
  rw [List.take_succ_eq_append_getElem hx, List.take_succ_eq_append_getElem hy, h, e]

theorem alloc2' (w : World) (o o' : Obj) : (∀ w2, Below ((w.alloc o).alloc o').heap.size ((w.alloc o).alloc o') w2 → w2.heap[w.heap.size]? = some o) ∧ ∀ w2, Below ((w.alloc o).alloc o').heap.size ((w.alloc o).alloc o') w2 → w2.heap[w.heap.size + 1]? = some o' := by
  constructor
  · intro w2 k
    rw [k.block _ (by simp; omega), (kp_new (w.alloc o) o').block _ (by simp)]
    exact heap_alloc_new w o
  · intro w2 k
    rw [k.block _ (by simp)]
    have := heap_alloc_new (w.alloc o) o'
    simpa using this

theorem text_ne {x y : ByteArray} (h : x ≠ y) : (x.toList == y.toList) = false := by
  rw [Bool.eq_false_iff]
  intro hh
  have h2 := eq_of_beq hh
  rw [ByteArray.toList_eq, ByteArray.toList_eq] at h2
  exact h (ByteArray.ext (Array.toList_inj.1 h2))

set_option maxHeartbeats 400000 in
theorem equalU_any (A A' : Option Addr) (xs ys : List Nat) (l c l' c' B B' : Nat) (w : World) (hx : Sg w B A l c (uvs xs)) (hy : Sg w B' A' l' c' (uvs ys)) (hl : l ≤ 1000000) (b : Bool) (hb : Hid (decide (xs = ys) = b)) :
    Calls Tryd.prog 36 #[.slice A l c, .slice A' l' c'] w fun e w' => e = .returned (.bool b) ∧ ∃ m, w' = w.drewN m := by
  by_cases hll : l = l'
  · subst hll
    have hlx : Hid (xs.length = l) := Lib.hid (by have := hx.len; rwa [uvs_length] at this)
    have hly : Hid (ys.length = l) := Lib.hid (by have := hy.len; rwa [uvs_length] at this)
    go_enter Tryd.func36, Tryd.ntmps36
    go_wp2
    go_loopw [13] (fun i wr => ∃ k m : Nat, k ≤ l ∧ i = .int .i64 k ∧ Hid (xs.take k = ys.take k) ∧ wr = w.drewN m) (fun i _ => l - (intOf i).toNat)
    case atStart => exact ⟨0, 0, Nat.zero_le _, rfl, Lib.hid (by simp), rfl⟩
    case round =>
      obtain ⟨k, m, hk, rfl, he, rfl⟩ := hrel
      by_cases hlt : k < l
      · have hkx : k < xs.length := by rw [hlx.out]; omega
        have hky : k < ys.length := by rw [hly.out]; omega
        obtain ⟨ad, rfl, _, hc⟩ := hx.at_ (uvs_at hkx)
        obtain ⟨ad', rfl, _, hc'⟩ := hy.at_ (uvs_at hky)
        have hi : (k : Int) < (l : Int) := by omega
        by_cases hee : xs[k] = ys[k]
        · have hs := Lib.hid (take_step hkx hky he.out hee)
          have ht : ((xs[k] : Int) != (ys[k] : Int)) = false := by rw [hee]; simp
          clear hee
          go_wp2
          go_quiet (fail)
          go_wp2
          go_roundw
          case rel => exact ⟨k + 1, _, by omega, by go_num, hs, rfl⟩
          case measure => simp [intOf]; omega
        · have ht : ((xs[k] : Int) != (ys[k] : Int)) = true := by
            rw [bne_iff_ne]; intro e; exact hee (by omega)
          have hf : b = false := by
            rw [← hb.out]
            simp only [decide_eq_false_iff_not]
            intro e
            subst e
            exact hee rfl
          subst hf
          clear hee
          go_wp2
          go_quiet (fail)
          go_wp2
          go_ret
          exact ⟨rfl, _, World.drewN_drewN _ _ _⟩
      · have hf : b = true := by
          rw [← hb.out]
          have h1 := he.out
          rw [List.take_of_length_le (by rw [hlx.out]; omega), List.take_of_length_le (by rw [hly.out]; omega)] at h1
          simp [h1]
        subst hf
        go_wp2
        go_ret
        exact ⟨rfl, _, rfl⟩
  · have hf : b = false := by
      rw [← hb.out]
      simp only [decide_eq_false_iff_not]
      intro e
      subst e
      exact hll (hx.len.symm.trans hy.len)
    subst hf
    have ht : ((l : Int) != (l' : Int)) = true := by rw [bne_iff_ne]; omega
    go_enter Tryd.func36, Tryd.ntmps36
    go_wp2
    go_ret
    exact ⟨rfl, 0, rfl⟩

set_option maxHeartbeats 400000 in
theorem equalS_any (A A' : Option Addr) (xs ys : List ByteArray) (l c l' c' B B' : Nat) (w : World) (hx : Sg w B A l c (svs xs)) (hy : Sg w B' A' l' c' (svs ys)) (hl : l ≤ 1000000) (b : Bool) (hb : Hid (decide (xs = ys) = b)) :
    Calls Tryd.prog 37 #[.slice A l c, .slice A' l' c'] w fun e w' => e = .returned (.bool b) ∧ ∃ m, w' = w.drewN m := by
  by_cases hll : l = l'
  · subst hll
    have hlx : Hid (xs.length = l) := Lib.hid (by have := hx.len; rwa [svs_length] at this)
    have hly : Hid (ys.length = l) := Lib.hid (by have := hy.len; rwa [svs_length] at this)
    go_enter Tryd.func37, Tryd.ntmps37
    go_wp2
    go_loopw [13] (fun i wr => ∃ k m : Nat, k ≤ l ∧ i = .int .i64 k ∧ Hid (xs.take k = ys.take k) ∧ wr = w.drewN m) (fun i _ => l - (intOf i).toNat)
    case atStart => exact ⟨0, 0, Nat.zero_le _, rfl, Lib.hid (by simp), rfl⟩
    case round =>
      obtain ⟨k, m, hk, rfl, he, rfl⟩ := hrel
      by_cases hlt : k < l
      · have hkx : k < xs.length := by rw [hlx.out]; omega
        have hky : k < ys.length := by rw [hly.out]; omega
        obtain ⟨ad, rfl, _, hc⟩ := hx.at_ (svs_at hkx)
        obtain ⟨ad', rfl, _, hc'⟩ := hy.at_ (svs_at hky)
        have hi : (k : Int) < (l : Int) := by omega
        have HE := Lib.hid (take_step hkx hky he.out)
        have HB : Hid (xs[k] ≠ ys[k] → b = false) := Lib.hid fun hee => by
          rw [← hb.out]
          simp only [decide_eq_false_iff_not]
          intro e
          subst e
          exact hee rfl
        generalize xs[k] = x at *
        generalize ys[k] = y at *
        by_cases hee : x = y
        · have hs := Lib.hid (HE.out hee)
          subst hee
          go_wp2
          go_quiet (fail)
          go_wp2
          go_roundw
          case rel => exact ⟨k + 1, _, by omega, by go_num, hs, rfl⟩
          case measure => simp [intOf]; omega
        · have hf := HB.out hee
          subst hf
          have ht := text_ne hee
          clear hee
          go_wp2
          go_quiet (fail)
          go_wp2
          go_ret
          exact ⟨rfl, _, World.drewN_drewN _ _ _⟩
      · have hf : b = true := by
          rw [← hb.out]
          have h1 := he.out
          rw [List.take_of_length_le (by rw [hlx.out]; omega), List.take_of_length_le (by rw [hly.out]; omega)] at h1
          simp [h1]
        subst hf
        go_wp2
        go_ret
        exact ⟨rfl, _, rfl⟩
  · have hf : b = false := by
      rw [← hb.out]
      simp only [decide_eq_false_iff_not]
      intro e
      subst e
      exact hll (hx.len.symm.trans hy.len)
    subst hf
    have ht : ((l : Int) != (l' : Int)) = true := by rw [bne_iff_ne]; omega
    go_enter Tryd.func37, Tryd.ntmps37
    go_wp2
    go_ret
    exact ⟨rfl, 0, rfl⟩

theorem equalU_kp (A A' : Option Addr) (xs ys : List Nat) (l c l' c' B B' : Nat) (w : World) (hx : Sg w B A l c (uvs xs)) (hy : Sg w B' A' l' c' (uvs ys)) (hl : l ≤ 1000000) (b : Bool) (hb : Hid (decide (xs = ys) = b)) :
    Calls Tryd.prog 36 #[.slice A l c, .slice A' l' c'] w fun e w' => e = .returned (.bool b) ∧ Below w.heap.size w w' :=
  (equalU_any A A' xs ys l c l' c' B B' w hx hy hl b hb).mono fun _ _ ⟨he, m, hm⟩ => ⟨he, by rw [hm]; exact kp_drewN _ _⟩
theorem equalS_kp (A A' : Option Addr) (xs ys : List ByteArray) (l c l' c' B B' : Nat) (w : World) (hx : Sg w B A l c (svs xs)) (hy : Sg w B' A' l' c' (svs ys)) (hl : l ≤ 1000000) (b : Bool) (hb : Hid (decide (xs = ys) = b)) :
    Calls Tryd.prog 37 #[.slice A l c, .slice A' l' c'] w fun e w' => e = .returned (.bool b) ∧ Below w.heap.size w w' :=
  (equalS_any A A' xs ys l c l' c' B B' w hx hy hl b hb).mono fun _ _ ⟨he, m, hm⟩ => ⟨he, by rw [hm]; exact kp_drewN _ _⟩

/-- what a message says -/
def Mg.says (m : Mg) : Int × List Nat × List ByteArray := (m.k, m.ns, m.ts)

set_option maxHeartbeats 1000000 in
theorem msame_any (m n : Mg) (w : World) (hm : MR w m) (hn : MR w n) (hL : m.l ≤ 1000000) (hL' : m.l' ≤ 1000000) (b : Bool) (hb : Hid (decide (m.says = n.says) = b)) :
    Calls Tryd.prog 19 #[m.v, n.v] w fun e w' => e = .returned (.bool b) ∧ Below w.heap.size w w' := by
  obtain ⟨mk, A, l, c, ns, A', l', c', ts⟩ := m
  obtain ⟨nk, D, q, d, ms, D', q', d', us⟩ := n
  simp only at hL hL'
  have hv : Mg.v ⟨mk, A, l, c, ns, A', l', c', ts⟩ = .agg #[.int .i64 mk, .slice A l c, .slice A' l' c'] := rfl
  have hv' : Mg.v ⟨nk, D, q, d, ms, D', q', d', us⟩ = .agg #[.int .i64 nk, .slice D q d, .slice D' q' d'] := rfl
  rw [hv, hv']
  have hb2 := hb.out
  simp only [Mg.says] at hb2
  clear hb
  have k1 : Below w.heap.size w ((w.alloc (.cells #[.int .i64 mk, .slice A l c, .slice A' l' c'] 25)).alloc (.cells #[.int .i64 nk, .slice D q d, .slice D' q' d'] 25)) := kp_alloc (kp_new _ _) _
  by_cases hk : mk = nk
  · subst hk
    have hke : (mk == mk) = true := by simp
    cases hne : decide (ns = ms)
    · have hbf : b = false := by
        rw [← hb2]
        refine decide_eq_false fun h => ?_
        injection h with _ h; injection h with h _
        exact of_decide_eq_false hne h
      subst hbf
      have hU := equalU_kp A D ns ms l c q d _ _ _ (hm.next k1).num (hn.next k1).num hL false (Lib.hid hne)
      have HU := Lib.hid hU
      clear hU
      go_enter Tryd.func19, Tryd.ntmps19
      go_wp2_with fail
      refine HU.out.mono ?_
      rintro e w2 ⟨rfl, k2⟩
      go_wp2_with fail
      go_ret
      exact ⟨rfl, kp_trans k1 k2⟩
    · have hns := of_decide_eq_true hne
      have hte : decide (ts = us) = b := by
        rw [← hb2, hns]
        simp
      have hU := equalU_kp A D ns ms l c q d _ _ _ (hm.next k1).num (hn.next k1).num hL true (Lib.hid hne)
      have HU := Lib.hid hU
      have hS := fun w2 (k2 : Below _ _ w2) => equalS_kp A' D' ts us l' c' q' d' _ _ _ ((hm.next k1).next k2).txt ((hn.next k1).next k2).txt hL' b (Lib.hid hte)
      have HS := Lib.hid hS
      obtain ⟨b0, b1⟩ := alloc2' w (.cells #[.int .i64 mk, .slice A l c, .slice A' l' c'] 25) (.cells #[.int .i64 mk, .slice D q d, .slice D' q' d'] 25)
      have HB0 := Lib.hid b0
      have HB1 := Lib.hid b1
      clear hU hS b0 b1 hte hne hns hb2
      go_enter Tryd.func19, Tryd.ntmps19
      go_wp2_with fail
      refine HU.out.mono ?_
      rintro e w2 ⟨rfl, k2⟩
      obtain ⟨x0, x1, x2, _, _, _⟩ := three_cells (HB0.out w2 k2)
      obtain ⟨y0, y1, y2, _, _, _⟩ := three_cells (HB1.out w2 k2)
      go_wp2_with fail
      refine (HS.out w2 k2).mono ?_
      rintro e w3 ⟨rfl, k3⟩
      go_wp2_with fail
      go_ret
      exact ⟨rfl, kp_trans (kp_trans k1 k2) k3⟩
  · have hke : (mk == nk) = false := by simpa using hk
    have hbf : b = false := by
      rw [← hb2]
      refine decide_eq_false fun h => ?_
      injection h with h _
      exact hk h
    subst hbf
    go_enter Tryd.func19, Tryd.ntmps19
    go_wp2_with fail
    go_ret
    exact ⟨rfl, k1⟩
end Go.Proofs.YtmklmakcampbbaaDoor
