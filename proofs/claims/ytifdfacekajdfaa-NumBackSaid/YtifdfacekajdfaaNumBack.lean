/-
  NumBack answers true for every input: what was put is taken, whatever is behind it, and what is taken, put again, is what it was. No condition.
-/
import Derived.Test.YtifdfacekajdfaaAwake1
import Derived.Test.YtifdfacekajdfaaLaw
namespace Go.Proofs.Ytifdfacekajdfaa
open Go.RowKit

/-- a text that comes back -/
theorem back_text (s : ByteArray) (bs : List UInt8) (hs : s.size ≤ 1000) :
    val (([] ++ be 2 s.size ++ s.data.toList ++ bs).take 2) = s.size ∧ (⟨((([] ++ be 2 s.size ++ s.data.toList ++ bs).take (2 + s.size)).drop 2).toArray⟩ : ByteArray) = s ∧
    ([] ++ be 2 s.size ++ s.data.toList ++ bs).drop (2 + s.size) = bs := by
  have hl : s.data.toList.length = s.size := by rw [Array.length_toList]; rfl
  rw [List.nil_append, List.append_assoc]
  refine ⟨?_, ?_, ?_⟩
  · rw [List.take_left' (be_length _ _), val_be 2 _ (by omega)]
  · rw [← List.append_assoc, List.take_left' (by rw [List.length_append, be_length, hl]), List.drop_left' (be_length _ _)]
  · rw [← List.append_assoc, List.drop_left' (by rw [List.length_append, be_length, hl])]

set_option maxRecDepth 100000 in
set_option maxHeartbeats 1000000 in
theorem numBack_walk (A : Option Addr) (l c : Nat) (bs : List UInt8) (size : Int) (n : Nat) (s : ByteArray) (w : World) (hr : Sl w w.heap.size A l c bs) (hs1 : -9223372036854775808 ≤ size) (hs2 : size ≤ 9223372036854775807) (hm : s.size ≤ maxLen) :
    Calls Try.prog 4 #[.slice A l c, .int .i64 size, .int .u64 n, .string s] w fun e w' => e = .returned (.bool true) ∧ Below w.heap.size w w' := by
  obtain ⟨i0, hi, hz0, hz1, hz2⟩ := info_parts u8info
  unfold maxLen at hm
  have hlc := hr.cap
  by_cases hbig : 1000 < l
  · go_enter Try.func4, Try.ntmps4
    go_wp2_with (go_at_call 7; refine (awake1 _).mono ?_; rintro e w1 ⟨rfl, hb1⟩)
    go_ret
    exact ⟨rfl, hb1⟩
  have hb0 : decide ((1000 : Int) < (l : Int)) = false := by simp; omega
  by_cases hbig2 : 1000 < s.size
  · go_enter Try.func4, Try.ntmps4
    go_wp2_with (go_at_call 7; refine (awake1 _).mono ?_; rintro e w1 ⟨rfl, hb1⟩)
    go_ret
    exact ⟨rfl, hb1⟩
  have hb2 : decide ((1000 : Int) < (s.size : Int)) = false := by simp; omega
  obtain ⟨t1, t2, t3⟩ := back_text s bs (by omega)
  have T1 := Lib.hid t1
  have T2 := Lib.hid t2
  have T3 := Lib.hid t3
  clear t1 t2 t3
  go_enter Try.func4, Try.ntmps4
  go_wp2_with (go_at_call 7; refine (awake1 _).mono ?_; rintro e w1 ⟨rfl, hb1⟩)
  rcases put_split size n with ⟨sz, rfl, h1, h8, hfit⟩ | hno
  focus
    have hv : val (([] ++ be sz n ++ bs).take sz) = n := by
      rw [List.nil_append, List.take_left' (be_length _ _), val_be sz n (of_decide_eq_true hfit.out)]
    have hd : ([] ++ be sz n ++ bs).drop sz = bs := by rw [List.nil_append, List.drop_left' (be_length _ _)]
    have HV := Lib.hid hv
    have HD := Lib.hid hd
    clear hv hd
    refine (put_ok none [] 0 0 sz n _ (Sl.nil _ _) (by omega) h1 h8 hfit sz (Nat.zero_add _)).mono ?_
    rintro e w2 ⟨A2, c2, rfl, ho2, hb2⟩
    go_wp2_with (at_builtin; refine wpList_append_rd rfl _ _ _ rfl w1.heap.size 5 i0 _ 1 Try.underlying22 hi hz0 hz1 hz2 rfl _ sz _ rfl ho2.own w2.heap.size _ _ _ (bvs bs) rfl (by rw [bvs_length]; exact hr.len) ((hr.next hb1).next hb2).rd (bvs_one _) (by unfold maxLen; omega) (by omega) hb2.size ?_; intro v3 w3 hown3 hg3; rw [← bvs_append] at hown3; obtain ⟨A3, c3, rfl, ho3⟩ := Ow.mk' hown3)
    have k3 : Below w1.heap.size w1 w3 := hb2.trans (below_own ho2.own hg3 hb2.size)
    refine (take_ok _ _ (sz + l) _ sz _ ho3.sl (by omega) h1 h8 (by omega) n HV).mono ?_
    rintro e w4 ⟨A4, l4, rfl, hr4, hb4⟩
    rw [HD.out] at hr4
    have k4 := kp_trans (kp_trans hb1 k3) hb4
    have hl4 : l4 ≤ 1000 := by rw [← hr4.len, hr.len]; omega
    go_wp2_with fail
    refine (same_kp _ _ _ _ _ _ _ _ _ _ _ hr4 (hr.next k4) (by omega) true (Lib.hid (by simp))).mono ?_
    rintro e w5 ⟨rfl, hb5⟩
    have hk := kp_trans k4 hb5
    clear k3 k4 hb1 hb2 hb4 hb5 hr4 ho3 hg3 ho2
    go_wp2_with fail
  rotate_left
  focus
    refine (put_no none 0 0 size n _ hno).mono ?_
    rintro e w' ⟨rfl, rfl⟩
    have hk := hb1
    clear hno hb1
    go_wp2_with fail
  all_goals
    refine (putText_ok none [] 0 0 s _ (Sl.nil _ _) (by omega) (by omega) (2 + s.size) (by omega)).mono ?_
    rintro e w6 ⟨A6, c6, rfl, ho6, hb6⟩
    go_wp2_with (at_builtin; refine wpList_append_rd rfl _ _ _ rfl _ 5 i0 _ 1 Try.underlying22 hi hz0 hz1 hz2 rfl _ (2 + s.size) _ rfl ho6.own w6.heap.size _ _ _ (bvs bs) rfl (by rw [bvs_length]; exact hr.len) ((hr.next hk).next hb6).rd (bvs_one _) (by unfold maxLen; omega) (by omega) hb6.size ?_; intro v7 w7 hown7 hg7; rw [← bvs_append] at hown7; obtain ⟨A7, c7, rfl, ho7⟩ := Ow.mk' hown7)
    have k7 := kp_trans hk (hb6.trans (below_own ho6.own hg7 hb6.size))
    refine (takeText_ok _ _ (2 + s.size + l) _ _ ho7.sl (by omega) (by omega) s.size T1 s T2 (by omega)).mono ?_
    rintro e w8 ⟨A8, l8, rfl, hr8, hb8⟩
    rw [T3.out] at hr8
    have hl8 : l8 ≤ 1000 := by rw [← hr8.len, hr.len]; omega
    have k8 := kp_trans k7 hb8
    go_wp2_with fail
    refine (same_kp _ _ _ _ _ _ _ _ _ _ _ hr8 (hr.next k8) (by omega) true (Lib.hid (by simp))).mono ?_
    rintro e w9 ⟨rfl, hb9⟩
    have k9 := kp_trans k8 hb9
    clear k7 k8 hb6 hb8 hb9 hr8 ho7 hg7 ho6 hk
    go_wp2_with fail
  rotate_left
  focus
    generalize (sz : Int) = size at *
  all_goals
    rcases take_split size l with ⟨z, rfl, z1, z8, zl⟩ | ⟨z, rfl, z1, z8, zl⟩ | hno
    · have hlen : (bs.take z).length = z := by rw [List.length_take, hr.len]; omega
      have hv := val_lt z (bs.take z) hlen
      have he : ([] ++ be z (val (bs.take z)) ++ bs.drop z) = bs := by rw [List.nil_append, be_val z _ hlen, List.take_append_drop]
      have HV := Lib.hid (decide_eq_true hv)
      have HE := Lib.hid he
      clear hv he hlen
      refine (take_ok _ _ _ _ z _ (hr.next k9) (by omega) z1 z8 zl _ (Lib.hid rfl)).mono ?_
      rintro e w10 ⟨A10, l10, rfl, hr10, hb10⟩
      have hl10 : l10 ≤ 1000 := by rw [← hr10.len, List.length_drop, hr.len]; omega
      go_wp2_with fail
      refine (put_ok none [] 0 0 z _ _ (Sl.nil _ _) (by omega) z1 z8 HV z (Nat.zero_add _)).mono ?_
      rintro e w11 ⟨A11, c11, rfl, ho11, hb11⟩
      go_wp2_with (at_builtin; refine wpList_append_rd rfl _ _ _ rfl _ 5 i0 _ 1 Try.underlying22 hi hz0 hz1 hz2 rfl _ z _ rfl ho11.own w11.heap.size _ _ _ (bvs (bs.drop z)) rfl (by rw [bvs_length]; exact hr10.len) (hr10.next hb11).rd (bvs_one _) (by unfold maxLen; omega) (by omega) hb11.size ?_; intro v12 w12 hown12 hg12; rw [← bvs_append] at hown12; obtain ⟨A12, c12, rfl, ho12⟩ := Ow.mk' hown12)
      have k12 := kp_trans (kp_trans k9 hb10) (hb11.trans (below_own ho11.own hg12 hb11.size))
      refine (same_kp _ _ _ _ _ _ _ _ _ _ _ ho12.sl (hr.next k12) (by omega) true (Lib.hid (by rw [HE.out]; simp))).mono ?_
      rintro e w13 ⟨rfl, hb13⟩
      go_wp2_with fail
      go_ret
      exact ⟨rfl, kp_trans k12 hb13⟩
    · refine (take_short _ _ _ z _ z1 z8 zl).mono ?_
      rintro e w' ⟨rfl, rfl⟩
      go_wp2_with fail
      go_ret
      exact ⟨rfl, k9⟩
    · refine (take_arg _ _ _ size _ hno).mono ?_
      rintro e w' ⟨rfl, rfl⟩
      clear hno
      go_wp2_with fail
      go_ret
      exact ⟨rfl, k9⟩

namespace NumBack
open Go.ChangeShapes Go.WideShapes Go.ChangeAt
open Go.ChangeMaps (open_string)

theorem contract (H : Type) (enc : TypeId × Value → H) (W : World) (base : Nat) (args : Array Value) (ds gs : List (DataW H)) (before : List MemPlace)
    (hval : ∀ (j : Nat) t v, Try.f4.params[j]? = some t → args[j]? = some v → Value.okWide Try.prog W .any base t v)
    (hW : DataW.Whole enc Try.prog Try.f4.params.toList Rows.numBackSpec.vars false W args.toList ds gs before) :
    Calls Try.prog 4 args W fun e W' => ∃ v, e = .returned v ∧ Rows.numBackSpec.post enc Try.prog Try.f4 false true false false W args v W' := by
  have hW' := hW
  obtain ⟨p, q, hA0, hV, rfl, _, _⟩ := hW
  have hA : DataW.TrodAll enc Try.prog W 0 (fun _ => true) true Try.f4.params.toList args.toList ds p := hA0
  rw [Try.params4] at hA hval
  obtain ⟨v0, vs0, d0, ds0, p0, q0, hargs, rfl, rfl, h0, r0⟩ := trodAll_cons hA
  obtain ⟨v1, vs1, d1, ds1, p1, q1, rfl, rfl, rfl, h1, r1⟩ := trodAll_cons r0
  obtain ⟨v2, vs2, d2, ds2, p2, q2, rfl, rfl, rfl, h2, r2⟩ := trodAll_cons r1
  obtain ⟨v3, vs3, d3, ds3, p3, q3, rfl, rfl, rfl, h3, r3⟩ := trodAll_cons r2
  obtain ⟨rfl, rfl, rfl⟩ := trodAll_nil r3
  obtain rfl : args = #[v0, v1, v2, v3] := by cases args; simp_all
  obtain ⟨rfl, rfl⟩ := trodVars_none hV
  obtain ⟨A, l, c, bs, rfl, hr, _⟩ := open_bytes Try.underlying22 Try.underlying5 (by kernel_rfl) (hval 0 22 v0 rfl rfl) h0
  obtain ⟨a1, rfl, rfl, rfl, w1⟩ := open_int Try.underlying3 (hval 1 3 v1 rfl rfl) h1
  obtain ⟨a2, rfl, rfl, rfl, w2⟩ := open_int Try.underlying23 (hval 2 23 v2 rfl rfl) h2
  obtain ⟨s, rfl, rfl, rfl, hmax⟩ := open_string Try.underlying9 (hval 3 9 v3 rfl rfl) h3
  obtain ⟨n, rfl, _⟩ := wfu64 w2
  refine (numBack_walk A l c bs a1 n s W hr (wf64 w1).1 (wf64 w1).2 hmax).mono fun e W' ⟨he, hb⟩ => ⟨_, he, ?_⟩
  exact law_post laid0 (by rw [Try.params4]; decide +kernel) rfl (by kernel_rfl) Try.underlying4 hW' rfl hb

set_option maxRecDepth 100000 in
theorem lifted (os : Os) (started : os.Started) (H : Type) (enc : TypeId × Value → H) :
    ReturnsInHanded {} Try.checked os 4 .any (Rows.numBackSpec.pre6 enc Try.prog Try.f4 Rows.numBackRow.domain false) (Rows.numBackSpec.post enc Try.prog Try.f4 false true false false) := by
  refine returnsInHanded_of_change (C := Try.checked) own0 started (by kernel_rfl) Try.func4
    (ChangeSpec.witness6 (enc := enc) (C := Try.checked) false ⟨#[], #[.slice none 0 0, .int .i64 0, .int .u64 0, .string .empty], []⟩ 8 (by kernel_rfl) (by kernel_rfl) (by kernel_rfl) (by kernel_rfl)) ?_
  intro W base args ds gs before hval hW _ _
  exact contract H enc W base args ds gs before hval hW

theorem proved : Rows.NumBackSaid :=
  OpenClaim.holds_of_wide 4 Try.f4 rfl rfl rfl rfl rfl rfl rfl ⟨rfl, rfl, rfl, rfl, rfl⟩ rfl rfl rfl rfl rfl (by kernel_rfl) Try.func4 (by kernel_rfl)
    (of_decide_eq_true (by kernel_rfl)) (by unfold Func.isWrapper; first | (rw [if_pos (by decide +kernel)]; kernel_rfl) | (rw [if_neg (by decide +kernel)]; exact ⟨rfl, rfl⟩))
    (fun os started H enc _ => lifted os started H enc)
end NumBack
end Go.Proofs.Ytifdfacekajdfaa
