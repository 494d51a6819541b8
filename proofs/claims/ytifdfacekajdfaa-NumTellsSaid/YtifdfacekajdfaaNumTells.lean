/-
  NumTells answers true for every input: Put, Take, PutText and TakeText answer as the document's own functions do. No condition.
-/
import Derived.Test.YtifdfacekajdfaaAwake1
import Derived.Test.YtifdfacekajdfaaRefC
import Derived.Test.YtifdfacekajdfaaLaw
namespace Go.Proofs.Ytifdfacekajdfaa
open Go.RowKit

/-- one answer, of both: bytes and an error -/
def AnsB (f : FuncId) (args : Array Value) (w : World) (r : List UInt8) (x : Int) : Prop :=
  Calls Try.prog f args w fun e w' => ∃ A' l' c', e = .returned (.tuple #[.slice A' l' c', .int .i64 x]) ∧ Sl w' w'.heap.size A' l' c' r ∧ Below w.heap.size w w'
/-- one answer, of both: a number, bytes and an error -/
def AnsN (f : FuncId) (args : Array Value) (w : World) (n : Nat) (r : List UInt8) (x : Int) : Prop :=
  Calls Try.prog f args w fun e w' => ∃ A' l' c', e = .returned (.tuple #[.int .u64 n, .slice A' l' c', .int .i64 x]) ∧ Sl w' w'.heap.size A' l' c' r ∧ Below w.heap.size w w'
/-- one answer, of both: a text, bytes and an error -/
def AnsT (f : FuncId) (args : Array Value) (w : World) (s : ByteArray) (r : List UInt8) (x : Int) : Prop :=
  Calls Try.prog f args w fun e w' => ∃ A' l' c', e = .returned (.tuple #[.string s, .slice A' l' c', .int .i64 x]) ∧ Sl w' w'.heap.size A' l' c' r ∧ Below w.heap.size w w'

theorem put_pair (A : Option Addr) (l c : Nat) (bs : List UInt8) (size : Int) (n : Nat) (hl : l ≤ 1000) (hn : n < 18446744073709551616) :
    ∃ r x, r.length ≤ 1000000 ∧ (∀ w, Sl w w.heap.size A l c bs → AnsB 8 #[.slice A l c, .int .i64 size, .int .u64 n] w r x) ∧ (∀ w, Sl w w.heap.size A l c bs → AnsB 9 #[.slice A l c, .int .i64 size, .int .u64 n] w r x) := by
  rcases put_split size n with ⟨k, rfl, h1, h8, hf⟩ | hno
  · by_cases hlen : bs.length = l
    · refine ⟨bs ++ be k n, 0, by rw [List.length_append, be_length]; omega, fun w hr => ?_, fun w hr => ?_⟩
      · exact (put_ok A bs l c k n w hr (by omega) h1 h8 hf _ rfl).mono fun e w' ⟨A', c', he, ho, hb⟩ => ⟨A', _, c', he, ho.sl, hb⟩
      · exact (rput_ok A bs l c k n w hr (by omega) h1 h8 hn hf _ rfl).mono fun e w' ⟨A', c', he, ho, hb⟩ => ⟨A', _, c', he, ho.sl, hb⟩
    · exact ⟨[], 0, by simp, fun w hr => absurd hr.len hlen, fun w hr => absurd hr.len hlen⟩
  · refine ⟨[], 1, by simp, fun w _ => ?_, fun w _ => ?_⟩
    · exact (put_no A l c size n w hno).mono fun e w' ⟨he, hw⟩ => ⟨none, 0, 0, he, by subst hw; exact Sl.nil _ _, by subst hw; exact Below.refl _ _⟩
    · exact (rput_no A l c size n w hn hno).mono fun e w' ⟨he, hw⟩ => ⟨none, 0, 0, he, by subst hw; exact Sl.nil _ _, by subst hw; exact Below.refl _ _⟩

theorem take_pair (A : Option Addr) (l c : Nat) (bs : List UInt8) (size : Int) (hl : l ≤ 1000) (hlen : bs.length = l) :
    ∃ n r x, r.length ≤ 1000000 ∧ (∀ w, Sl w w.heap.size A l c bs → AnsN 10 #[.slice A l c, .int .i64 size] w n r x) ∧ (∀ w, Sl w w.heap.size A l c bs → AnsN 11 #[.slice A l c, .int .i64 size] w n r x) := by
  rcases take_split size l with ⟨z, rfl, z1, z8, zl⟩ | ⟨z, rfl, z1, z8, zl⟩ | hno
  · refine ⟨val (bs.take z), bs.drop z, 0, by rw [List.length_drop]; omega, fun w hr => ?_, fun w hr => ?_⟩
    · exact (take_ok A bs l c z w hr (by omega) z1 z8 zl _ (Lib.hid rfl)).mono fun e w' ⟨A', l', he, ho, hb⟩ => ⟨A', l', l', he, ho, hb⟩
    · exact rtake_ok A bs l c z w hr (by omega) z1 z8 zl _ (Lib.hid rfl)
  · refine ⟨0, [], 3, by simp, fun w _ => ?_, fun w _ => ?_⟩
    · exact (take_short A l c z w z1 z8 zl).mono fun e w' ⟨he, hw⟩ => ⟨none, 0, 0, he, by subst hw; exact Sl.nil _ _, by subst hw; exact Below.refl _ _⟩
    · exact (rtake_short A l c z w z1 z8 zl).mono fun e w' ⟨he, hw⟩ => ⟨none, 0, 0, he, by subst hw; exact Sl.nil _ _, by subst hw; exact Below.refl _ _⟩
  · refine ⟨0, [], 1, by simp, fun w _ => ?_, fun w _ => ?_⟩
    · exact (take_arg A l c size w hno).mono fun e w' ⟨he, hw⟩ => ⟨none, 0, 0, he, by subst hw; exact Sl.nil _ _, by subst hw; exact Below.refl _ _⟩
    · exact (rtake_arg A l c size w hno).mono fun e w' ⟨he, hw⟩ => ⟨none, 0, 0, he, by subst hw; exact Sl.nil _ _, by subst hw; exact Below.refl _ _⟩

theorem putText_pair (A : Option Addr) (l c : Nat) (bs : List UInt8) (s : ByteArray) (hl : l ≤ 1000) (hlen : bs.length = l) (hs : s.size ≤ 1000) :
    ∃ r x, r.length ≤ 1000000 ∧ (∀ w, Sl w w.heap.size A l c bs → AnsB 12 #[.slice A l c, .string s] w r x) ∧ (∀ w, Sl w w.heap.size A l c bs → AnsB 13 #[.slice A l c, .string s] w r x) := by
  have hsl : s.data.toList.length = s.size := by rw [Array.length_toList]; rfl
  refine ⟨bs ++ be 2 s.size ++ s.data.toList, 0, by rw [List.length_append, List.length_append, be_length]; omega, fun w hr => ?_, fun w hr => ?_⟩
  · exact (putText_ok A bs l c s w hr (by omega) (by omega) _ rfl).mono fun e w' ⟨A', c', he, ho, hb⟩ => ⟨A', _, c', he, ho.sl, hb⟩
  · exact (rputText_ok A bs l c s w hr (by omega) (by omega)).mono fun e w' ⟨A', l', c', he, ho, hb⟩ => ⟨A', l', c', he, ho.sl, hb⟩

theorem takeText_pair (A : Option Addr) (l c : Nat) (bs : List UInt8) (hl : l ≤ 1000) (hlen : bs.length = l) :
    ∃ s r x, r.length ≤ 1000000 ∧ (∀ w, Sl w w.heap.size A l c bs → AnsT 14 #[.slice A l c] w s r x) ∧ (∀ w, Sl w w.heap.size A l c bs → AnsT 15 #[.slice A l c] w s r x) := by
  by_cases h2 : l < 2
  · refine ⟨⟨#[]⟩, [], 3, by simp, fun w _ => ?_, fun w _ => ?_⟩
    · exact (takeText_few A l c w h2).mono fun e w' ⟨he, hw⟩ => ⟨none, 0, 0, he, by subst hw; exact Sl.nil _ _, by subst hw; exact Below.refl _ _⟩
    · exact (rtakeText_few A l c w h2).mono fun e w' ⟨he, hw⟩ => ⟨none, 0, 0, he, by subst hw; exact Sl.nil _ _, by subst hw; exact Below.refl _ _⟩
  · by_cases hs : l < 2 + val (bs.take 2)
    · refine ⟨⟨#[]⟩, [], 3, by simp, fun w hr => ?_, fun w hr => ?_⟩
      · exact (takeText_short A bs l c w hr (by omega) (by omega) hs).mono fun e w' ⟨he, hw⟩ => ⟨none, 0, 0, he, by subst hw; exact Sl.nil _ _, by subst hw; exact Below.refl _ _⟩
      · exact (rtakeText_short A bs l c w hr (by omega) (by omega) hs).mono fun e w' ⟨he, hw⟩ => ⟨none, 0, 0, he, Sl.nil _ _, hw⟩
    · refine ⟨⟨((bs.take (2 + val (bs.take 2))).drop 2).toArray⟩, bs.drop (2 + val (bs.take 2)), 0, by rw [List.length_drop]; omega, fun w hr => ?_, fun w hr => ?_⟩
      · exact (takeText_ok A bs l c w hr (by omega) (by omega) _ (Lib.hid rfl) _ (Lib.hid rfl) (by omega)).mono fun e w' ⟨A', l', he, ho, hb⟩ => ⟨A', l', l', he, ho, hb⟩
      · exact rtakeText_ok A bs l c w hr (by omega) (by omega) _ (Lib.hid rfl) _ (Lib.hid rfl) (by omega)

set_option maxRecDepth 100000 in
set_option maxHeartbeats 2000000 in
theorem numTells_walk (A : Option Addr) (l c : Nat) (bs : List UInt8) (size : Int) (n : Nat) (s : ByteArray) (w : World) (hr : Sl w w.heap.size A l c bs) (_ : c ≤ 9223372036854775807) (_ : -9223372036854775808 ≤ size) (_ : size ≤ 9223372036854775807) (hn : n < 18446744073709551616) (hm : s.size ≤ maxLen) :
    Calls Try.prog 3 #[.slice A l c, .int .i64 size, .int .u64 n, .string s] w fun e w' => e = .returned (.bool true) ∧ Below w.heap.size w w' := by
  unfold maxLen at hm
  by_cases hbig : 1000 < l
  · go_enter Try.func3, Try.ntmps3
    go_wp2_with (go_at_call 7; refine (awake1 _).mono ?_; rintro e w1 ⟨rfl, hb1⟩)
    go_ret
    exact ⟨rfl, hb1⟩
  have hb0 : decide ((1000 : Int) < (l : Int)) = false := by simp; omega
  by_cases hbig2 : 1000 < s.size
  · go_enter Try.func3, Try.ntmps3
    go_wp2_with (go_at_call 7; refine (awake1 _).mono ?_; rintro e w1 ⟨rfl, hb1⟩)
    go_ret
    exact ⟨rfl, hb1⟩
  have hb2 : decide ((1000 : Int) < (s.size : Int)) = false := by simp; omega
  obtain ⟨r1, x1, l1, p1, q1⟩ := put_pair A l c bs size n (by omega) hn
  obtain ⟨n2, r2, x2, l2, p2, q2⟩ := take_pair A l c bs size (by omega) hr.len
  obtain ⟨r3, x3, l3, p3, q3⟩ := putText_pair A l c bs s (by omega) hr.len (by omega)
  obtain ⟨s4, r4, x4, l4, p4, q4⟩ := takeText_pair A l c bs (by omega) hr.len
  have P1 := Lib.hid p1
  have Q1 := Lib.hid q1
  have P2 := Lib.hid p2
  have Q2 := Lib.hid q2
  have P3 := Lib.hid p3
  have Q3 := Lib.hid q3
  have P4 := Lib.hid p4
  have Q4 := Lib.hid q4
  clear p1 p2 p3 p4 q1 q2 q3 q4
  go_enter Try.func3, Try.ntmps3
  go_wp2_with (go_at_call 7; refine (awake1 _).mono ?_; rintro e w1 ⟨rfl, k1⟩)
  refine Calls.mono (P1.out _ (hr.next k1)) ?_
  rintro e w2 ⟨A2, m2, c2, rfl, s2, b2⟩
  have k2 := kp_trans k1 b2
  go_wp2_with fail
  refine Calls.mono (Q1.out _ (hr.next k2)) ?_
  rintro e w3 ⟨A3, m3, c3, rfl, s3, b3⟩
  have k3 := kp_trans k2 b3
  go_wp2_with fail
  refine Calls.mono (P2.out _ (hr.next k3)) ?_
  rintro e w4 ⟨A4, m4, c4, rfl, s4', b4⟩
  have k4 := kp_trans k3 b4
  go_wp2_with fail
  refine Calls.mono (Q2.out _ (hr.next k4)) ?_
  rintro e w5 ⟨A5, m5, c5, rfl, s5, b5⟩
  have k5 := kp_trans k4 b5
  go_wp2_with fail
  refine Calls.mono (P3.out _ (hr.next k5)) ?_
  rintro e w6 ⟨A6, m6, c6, rfl, s6, b6⟩
  have k6 := kp_trans k5 b6
  go_wp2_with fail
  refine Calls.mono (Q3.out _ (hr.next k6)) ?_
  rintro e w7 ⟨A7, m7, c7, rfl, s7, b7⟩
  have k7 := kp_trans k6 b7
  go_wp2_with fail
  refine Calls.mono (P4.out _ (hr.next k7)) ?_
  rintro e w8 ⟨A8, m8, c8, rfl, s8, b8⟩
  have k8 := kp_trans k7 b8
  go_wp2_with fail
  refine Calls.mono (Q4.out _ (hr.next k8)) ?_
  rintro e w9 ⟨A9, m9, c9, rfl, s9, b9⟩
  have k9 := kp_trans k8 b9
  have u2 := kp_trans (kp_trans (kp_trans (kp_trans (kp_trans (kp_trans b3 b4) b5) b6) b7) b8) b9
  have u3 := kp_trans (kp_trans (kp_trans (kp_trans (kp_trans b4 b5) b6) b7) b8) b9
  have u4 := kp_trans (kp_trans (kp_trans (kp_trans b5 b6) b7) b8) b9
  have u5 := kp_trans (kp_trans (kp_trans b6 b7) b8) b9
  have u6 := kp_trans (kp_trans b7 b8) b9
  have u7 := kp_trans b8 b9
  have t2 : m2 ≤ 1000000 := by rw [← s2.len]; exact l1
  have t4 : m4 ≤ 1000000 := by rw [← s4'.len]; exact l2
  have t6 : m6 ≤ 1000000 := by rw [← s6.len]; exact l3
  have t8 : m8 ≤ 1000000 := by rw [← s8.len]; exact l4
  go_wp2_with fail
  refine (same_kp _ _ _ _ _ _ _ _ _ _ _ (s2.next u2) (s3.next u3) t2 true (Lib.hid (by simp))).mono ?_
  rintro e w10 ⟨rfl, b10⟩
  go_wp2_with fail
  refine (same_kp _ _ _ _ _ _ _ _ _ _ _ ((s4'.next u4).next b10) ((s5.next u5).next b10) t4 true (Lib.hid (by simp))).mono ?_
  rintro e w11 ⟨rfl, b11⟩
  have b11' := kp_trans b10 b11
  go_wp2_with fail
  refine (same_kp _ _ _ _ _ _ _ _ _ _ _ ((s6.next u6).next b11') ((s7.next u7).next b11') t6 true (Lib.hid (by simp))).mono ?_
  rintro e w12 ⟨rfl, b12⟩
  have b12' := kp_trans b11' b12
  go_wp2_with fail
  refine (same_kp _ _ _ _ _ _ _ _ _ _ _ ((s8.next b9).next b12') (s9.next b12') t8 true (Lib.hid (by simp))).mono ?_
  rintro e w13 ⟨rfl, b13⟩
  have b13' := kp_trans b12' b13
  go_wp2_with fail
  go_ret
  exact ⟨rfl, kp_trans k9 b13'⟩

namespace NumTells
open Go.ChangeShapes Go.WideShapes Go.ChangeAt
open Go.ChangeMaps (open_string)

theorem contract (H : Type) (enc : TypeId × Value → H) (W : World) (base : Nat) (args : Array Value) (ds gs : List (DataW H)) (before : List MemPlace)
    (hval : ∀ (j : Nat) t v, Try.f3.params[j]? = some t → args[j]? = some v → Value.okWide Try.prog W .any base t v)
    (hW : DataW.Whole enc Try.prog Try.f3.params.toList Rows.numTellsSpec.vars false W args.toList ds gs before) :
    Calls Try.prog 3 args W fun e W' => ∃ v, e = .returned v ∧ Rows.numTellsSpec.post enc Try.prog Try.f3 false true false false W args v W' := by
  have hW' := hW
  obtain ⟨p, q, hA0, hV, rfl, _, _⟩ := hW
  have hA : DataW.TrodAll enc Try.prog W 0 (fun _ => true) true Try.f3.params.toList args.toList ds p := hA0
  rw [Try.params3] at hA hval
  obtain ⟨v0, vs0, d0, ds0, p0, q0, hargs, rfl, rfl, h0, t0⟩ := trodAll_cons hA
  obtain ⟨v1, vs1, d1, ds1, p1, q1, rfl, rfl, rfl, h1, t1⟩ := trodAll_cons t0
  obtain ⟨v2, vs2, d2, ds2, p2, q2, rfl, rfl, rfl, h2, t2⟩ := trodAll_cons t1
  obtain ⟨v3, vs3, d3, ds3, p3, q3, rfl, rfl, rfl, h3, t3⟩ := trodAll_cons t2
  obtain ⟨rfl, rfl, rfl⟩ := trodAll_nil t3
  obtain rfl : args = #[v0, v1, v2, v3] := by cases args; simp_all
  obtain ⟨rfl, rfl⟩ := trodVars_none hV
  obtain ⟨A0, l0, c0, bs0, rfl, r0, g0⟩ := open_bytes Try.underlying22 Try.underlying5 (by kernel_rfl) (hval 0 22 v0 rfl rfl) h0
  obtain ⟨a1, rfl, rfl, rfl, w1⟩ := open_int Try.underlying3 (hval 1 3 v1 rfl rfl) h1
  obtain ⟨a2, rfl, rfl, rfl, w2⟩ := open_int Try.underlying23 (hval 2 23 v2 rfl rfl) h2
  obtain ⟨n2, rfl, g2⟩ := wfu64 w2
  obtain ⟨s3, rfl, rfl, rfl, g3⟩ := open_string Try.underlying9 (hval 3 9 v3 rfl rfl) h3
  refine (numTells_walk A0 l0 c0 bs0 a1 n2 s3 W r0 g0 (wf64 w1).1 (wf64 w1).2 g2 g3).mono fun e W' ⟨he, hb⟩ => ⟨_, he, ?_⟩
  exact law_post laid0 (by rw [Try.params3]; decide +kernel) rfl (by kernel_rfl) Try.underlying4 hW' rfl hb

set_option maxRecDepth 100000 in
theorem lifted (os : Os) (started : os.Started) (H : Type) (enc : TypeId × Value → H) :
    ReturnsInHanded {} Try.checked os 3 .any (Rows.numTellsSpec.pre6 enc Try.prog Try.f3 Rows.numTellsRow.domain false) (Rows.numTellsSpec.post enc Try.prog Try.f3 false true false false) := by
  refine returnsInHanded_of_change (C := Try.checked) own0 started (by kernel_rfl) Try.func3
    (ChangeSpec.witness6 (enc := enc) (C := Try.checked) false ⟨#[], #[.slice none 0 0, .int .i64 0, .int .u64 0, .string .empty], []⟩ 8 (by kernel_rfl) (by kernel_rfl) (by kernel_rfl) (by kernel_rfl)) ?_
  intro W base args ds gs before hval hW _ _
  exact contract H enc W base args ds gs before hval hW

theorem proved : Rows.NumTellsSaid :=
  OpenClaim.holds_of_wide 3 Try.f3 rfl rfl rfl rfl rfl rfl rfl ⟨rfl, rfl, rfl, rfl, rfl⟩ rfl rfl rfl rfl rfl (by kernel_rfl) Try.func3 (by kernel_rfl)
    (of_decide_eq_true (by kernel_rfl)) (by unfold Func.isWrapper; first | (rw [if_pos (by decide +kernel)]; kernel_rfl) | (rw [if_neg (by decide +kernel)]; exact ⟨rfl, rfl⟩))
    (fun os started H enc _ => lifted os started H enc)
end NumTells
end Go.Proofs.Ytifdfacekajdfaa
