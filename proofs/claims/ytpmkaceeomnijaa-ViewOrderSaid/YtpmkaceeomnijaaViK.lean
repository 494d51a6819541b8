/-
  Layer 14: what the laws ask of the project's view, as one statement (to be proved of the landed code), over a thing that is the view.
-/
import Derived.Test.YtpmkaceeomnijaaViR
namespace Go.Proofs.Ytpmkaceeomnijaa
open Go.RowKit
set_option maxRecDepth 100000

structure ViewC (X : Nat → Vw → Thing) : Prop where
  new : ∀ (pr : Int) (w : World), IsI pr → Calls Try.prog 7 #[.int .i64 pr] w fun e w' => ∃ b, e = .returned (.pointer (some ⟨b, 0, none⟩)) ∧ (∃ S, (X b (newVw pr)).p S w' ∧ ∀ k, S k → w.heap.size ≤ k) ∧ Below w.heap.size w w'
  learn : ∀ (b : Nat) (v : Vw) (k : Nat) (m : Pm) (S : Nat → Prop) (w : World), (X b v).p S w → VwI k v → k ≤ 1000 → IsU m.e → IsU m.c → IsI m.p →
    Calls Try.prog 15 #[.pointer (some ⟨b, 0, none⟩), .int .u64 m.e, .int .i64 m.p, .int .u64 m.c] w fun e w' => e = .returned (.bool (decide (v.ep < m.e))) ∧ Turn (X b (learnC v m)) S w w'
  epoch : ∀ (b : Nat) (v : Vw) (k : Nat) (S : Nat → Prop) (w : World), (X b v).p S w → VwI k v →
    Calls Try.prog 13 #[.pointer (some ⟨b, 0, none⟩)] w fun e w' => e = .returned (.int .u64 v.ep) ∧ Below w.heap.size w w'
  primary : ∀ (b : Nat) (v : Vw) (k : Nat) (S : Nat → Prop) (w : World), (X b v).p S w → VwI k v →
    Calls Try.prog 14 #[.pointer (some ⟨b, 0, none⟩)] w fun e w' => e = .returned (.int .i64 v.pr) ∧ Below w.heap.size w w'
  bring : ∀ (b : Nat) (v : Vw) (k : Nat) (t : Tk14) (S : Nat → Prop) (w : World), (X b v).p S w → VwI k v → k ≤ 1000 → IsU t.e → IsU t.p →
    Calls Try.prog 9 #[.pointer (some ⟨b, 0, none⟩), t.v] w fun e w' => e = .returned (.tuple #[(bringF v t).v, .bool (bringB v t)]) ∧ Below w.heap.size w w'
  covers : ∀ (b : Nat) (v : Vw) (k : Nat) (t : Tk14) (e p : Int) (S : Nat → Prop) (w : World), (X b v).p S w → VwI k v → k ≤ 1000 → IsU t.e → IsU t.p → IsU e → IsU p →
    Calls Try.prog 11 #[.pointer (some ⟨b, 0, none⟩), t.v, .int .u64 e, .int .u64 p] w fun e' w' => e' = .returned (.bool (coversB v t e p)) ∧ Below w.heap.size w w'
  later : ∀ (s t : Tk14) (w : World), IsU s.e → IsU s.p → IsU t.e → IsU t.p → Calls Try.prog 17 #[s.v, t.v] w fun e w' => e = .returned (laterF s t).v ∧ Below w.heap.size w w'

section
variable {X : Nat → Vw → Thing} {w0 w : World} {N : Nat → Prop} {b k : Nat} {v : Vw}
theorem Solo.learn (C : ViewC X) (h : Solo w0 (X b v) N w) (hv : VwI k v) (hk : k ≤ 1000) (m : Pm) (he : IsU m.e) (hc : IsU m.c) (hp : IsI m.p) :
    Calls Try.prog 15 #[.pointer (some ⟨b, 0, none⟩), .int .u64 m.e, .int .i64 m.p, .int .u64 m.c] w fun e w' => e = .returned (.bool (decide (v.ep < m.e))) ∧ Solo w0 (X b (learnC v m)) N w' ∧ ∀ k, N k → w'.heap[k]? = w.heap[k]? := h.op fun S hx => C.learn b v k m S w hx hv hk he hc hp
theorem Solo.brings (C : ViewC X) (h : Solo w0 (X b v) N w) (hv : VwI k v) (hk : k ≤ 1000) (t : Tk14) (he : IsU t.e) (hp : IsU t.p) :
    Calls Try.prog 9 #[.pointer (some ⟨b, 0, none⟩), t.v] w fun e w' => e = .returned (.tuple #[(bringF v t).v, .bool (bringB v t)]) ∧ Solo w0 (X b v) N w' ∧ Below w.heap.size w w' := by
  obtain ⟨S, g1, _⟩ := h.at_
  exact (C.bring b v k t S w g1 hv hk he hp).mono fun e w' ⟨he, hb⟩ => ⟨he, h.next hb, hb⟩
theorem Solo.covers (C : ViewC X) (h : Solo w0 (X b v) N w) (hv : VwI k v) (hk : k ≤ 1000) (t : Tk14) (e p : Int) (he : IsU t.e) (hp : IsU t.p) (he2 : IsU e) (hp2 : IsU p) :
    Calls Try.prog 11 #[.pointer (some ⟨b, 0, none⟩), t.v, .int .u64 e, .int .u64 p] w fun e' w' => e' = .returned (.bool (coversB v t e p)) ∧ Solo w0 (X b v) N w' ∧ Below w.heap.size w w' := by
  obtain ⟨S, g1, _⟩ := h.at_
  exact (C.covers b v k t e p S w g1 hv hk he hp he2 hp2).mono fun e w' ⟨he, hb⟩ => ⟨he, h.next hb, hb⟩
theorem Solo.epoch (C : ViewC X) (h : Solo w0 (X b v) N w) (hv : VwI k v) :
    Calls Try.prog 13 #[.pointer (some ⟨b, 0, none⟩)] w fun e w' => e = .returned (.int .u64 v.ep) ∧ Solo w0 (X b v) N w' ∧ Below w.heap.size w w' := by
  obtain ⟨S, g1, _⟩ := h.at_
  exact (C.epoch b v k S w g1 hv).mono fun e w' ⟨he, hb⟩ => ⟨he, h.next hb, hb⟩
theorem Solo.primary (C : ViewC X) (h : Solo w0 (X b v) N w) (hv : VwI k v) :
    Calls Try.prog 14 #[.pointer (some ⟨b, 0, none⟩)] w fun e w' => e = .returned (.int .i64 v.pr) ∧ Solo w0 (X b v) N w' ∧ Below w.heap.size w w' := by
  obtain ⟨S, g1, _⟩ := h.at_
  exact (C.primary b v k S w g1 hv).mono fun e w' ⟨he, hb⟩ => ⟨he, h.next hb, hb⟩
end

set_option maxHeartbeats 8000000 in
/-- the law's learned -/
theorem learned_ok {X : Nat → Vw → Thing} (C : ViewC X) (pr : Int) (A : Option Addr) (n c : Nat) (ts : List Pm) (w : World) (hpr : IsI pr) (hx : PMR w A n ts) (hn : n ≤ 100) (hy : ∀ x ∈ ts, IsU x.e ∧ IsU x.c ∧ IsI x.p) :
    Calls Try.prog 19 #[.int .i64 pr, .slice A n c] w fun e w' => ∃ b, e = .returned (.pointer (some ⟨b, 0, none⟩)) ∧ Solo w (X b (learnsC (newVw pr) ts)) noneB w' ∧ VwI n (learnsC (newVw pr) ts) := by
  have HC := Lib.hid C
  have HX := Lib.hid hx
  have HL := Lib.hid hx.len
  have HY := Lib.hid hy
  have HN := Lib.hid (C.new pr w hpr)
  have HV0 := Lib.hid (VwI.new hpr)
  clear C hx hy
  go_enter Try.func19, Try.ntmps19
  go_wp2_with fail
  refine HN.out.mono ?_
  rintro e w1 ⟨b, rfl, ⟨S, x1, y1⟩, k1⟩
  have HS1 : Hid (Solo w (X b (newVw pr)) noneB w1) := Lib.hid (Solo.make (Below.refl _ _) x1 y1 k1)
  clear HN x1 y1 k1
  go_wp2_with fail
  go_loopw [12] (fun i wr => ∃ k : Nat, k ≤ n ∧ i = .int .i64 k ∧ Hid (Solo w (X b (learnsC (newVw pr) (ts.take k))) noneB wr) ∧ Hid (VwI k (learnsC (newVw pr) (ts.take k)))) (fun i _ => n - (intOf i).toNat)
  case atStart => exact ⟨0, Nat.zero_le _, rfl, HS1, HV0⟩
  case round =>
    obtain ⟨k, hk, rfl, hs, hv⟩ := hrel
    clear HS1 HV0
    by_cases hlt : k < n
    · have hkl : k < ts.length := by rw [HL.out]; exact hlt
      obtain ⟨ad, rfl, _, hc⟩ := HX.out.at_ hkl
      obtain ⟨d1, d2, d3⟩ := hc wr hs.out.low
      obtain ⟨g1, g2, g3⟩ := HY.out ts[k] (List.getElem_mem hkl)
      have HNX := Lib.hid (learnsC_succ (newVw pr) hkl)
      clear hc
      generalize ts[k] = t at *
      have hsx := hs.out.next (kp_new wr (.cells #[.int .u64 t.e, .int .u64 t.c, .int .i64 t.p] 45))
      have HQ := Lib.hid (hsx.learn HC.out hv.out (by omega) t g1 g2 g3)
      have HV2 := Lib.hid (hv.out.learn g1 g2 g3)
      clear hsx hs hv g1 g2 g3
      rw [← HNX.out] at HQ HV2
      clear HNX
      go_wp2_with fail
      refine HQ.out.mono ?_
      rintro e w2 ⟨rfl, hs2, _⟩
      have HS2 := Lib.hid hs2
      clear HQ hs2
      go_wp2_with fail
      go_roundw
      case rel => exact ⟨k + 1, by omega, by go_num, HS2, HV2⟩
      case measure => simp [intOf]; omega
    · obtain rfl : k = n := by omega
      rw [List.take_of_length_le (by rw [HL.out]; exact Nat.le_refl _)] at hs hv
      go_wp2_with fail
      go_ret
      exact ⟨b, rfl, hs.out, hv.out⟩
end Go.Proofs.Ytpmkaceeomnijaa
