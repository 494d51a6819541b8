/-
  NumShort answers true for every input: bytes of a number, or of a text, that were cut off anywhere, are ErrShort. No condition.
-/
import Derived.Test.YtifdfacekajdfaaAwake1
import Derived.Test.YtifdfacekajdfaaLaw
namespace Go.Proofs.Ytifdfacekajdfaa
open Go.RowKit

theorem val_cut (s : ByteArray) (cut : Nat) (h2 : 2 ≤ cut) (hs : s.size ≤ 1000) : val ((([] ++ be 2 s.size ++ s.data.toList).take cut).take 2) = s.size := by
  rw [List.take_take, Nat.min_eq_left h2, List.nil_append, List.take_left' (be_length _ _), val_be 2 _ (by omega)]

set_option maxRecDepth 100000 in
set_option maxHeartbeats 1000000 in
theorem numShort_walk (size : Int) (n : Nat) (s : ByteArray) (cut : Int) (w : World) (hs1 : -9223372036854775808 ≤ size) (hs2 : size ≤ 9223372036854775807) (hm : s.size ≤ maxLen) (hc1 : -9223372036854775808 ≤ cut) (hc2 : cut ≤ 9223372036854775807) :
    Calls Try.prog 6 #[.int .i64 size, .int .u64 n, .string s, .int .i64 cut] w fun e w' => e = .returned (.bool true) ∧ Below w.heap.size w w' := by
  unfold maxLen at hm
  by_cases hbig : 1000 < s.size
  · go_enter Try.func6, Try.ntmps6
    go_wp2_with (go_at_call 7; refine (awake1 _).mono ?_; rintro e w1 ⟨rfl, hb1⟩)
    go_ret
    exact ⟨rfl, hb1⟩
  have hb0 : decide ((1000 : Int) < (s.size : Int)) = false := by simp; omega
  by_cases hneg : cut < 0
  · go_enter Try.func6, Try.ntmps6
    go_wp2_with (go_at_call 7; refine (awake1 _).mono ?_; rintro e w1 ⟨rfl, hb1⟩)
    go_ret
    exact ⟨rfl, hb1⟩
  obtain ⟨k, rfl⟩ := Int.eq_ofNat_of_zero_le (by omega : 0 ≤ cut)
  have hn0 : decide ((k : Int) < 0) = false := by simp
  go_enter Try.func6, Try.ntmps6
  go_wp2_with (go_at_call 7; refine (awake1 _).mono ?_; rintro e w1 ⟨rfl, hb1⟩)
  rcases put_split size n with ⟨sz, rfl, h1, h8, hfit⟩ | hno
  focus
    refine (put_ok none [] 0 0 sz n _ (Sl.nil _ _) (by omega) h1 h8 hfit sz (Nat.zero_add _)).mono ?_
    rintro e w2 ⟨A2, c2, rfl, ho2, hb2⟩
    have hk2 := kp_trans hb1 hb2
    by_cases hlt : k < sz
    focus
      obtain ⟨A3, hsl, hr3⟩ := ho2.sl.cut0 Try.prog 22 Try.underlying22 u8size (j := k) k rfl (by omega)
      go_wp2_with (go_at_call 10; refine (take_short _ _ _ _ _ h1 h8 hlt).mono ?_; rintro e w' ⟨rfl, rfl⟩)
    rotate_left
    have hlt' : decide ((k : Int) < (sz : Int)) = false := by simp; omega
    go_wp2_with fail
  rotate_left 2
  focus
    refine (put_no none 0 0 size n _ hno).mono ?_
    rintro e w' ⟨rfl, rfl⟩
    have hk2 := hb1
    clear hno
    go_wp2_with fail
  all_goals
    refine (putText_ok none [] 0 0 s _ (Sl.nil _ _) (by omega) (by omega) (2 + s.size) (by omega)).mono ?_
    rintro e w4 ⟨A4, c4, rfl, ho4, hb4⟩
    have hk4 := kp_trans hk2 hb4
    by_cases hge : 2 + s.size ≤ k
    · go_wp2_with fail
      go_ret
      exact ⟨rfl, hk4⟩
    · obtain ⟨A5, hsl5, hr5⟩ := ho4.sl.cut0 Try.prog 22 Try.underlying22 u8size (j := k) k rfl (by omega)
      by_cases h2 : k < 2
      · go_wp2_with (go_at_call 14; refine (takeText_few _ _ _ _ h2).mono ?_; rintro e w' ⟨rfl, rfl⟩)
        go_ret
        exact ⟨rfl, hk4⟩
      · have hv := val_cut s k (by omega) (by omega)
        have HV := Lib.hid hv
        clear hv
        go_wp2_with (go_at_call 14; refine (takeText_short _ _ _ _ _ (hr5.more (Nat.le_refl _)) (by omega) (by omega) (by rw [HV.out]; omega)).mono ?_; rintro e w' ⟨rfl, rfl⟩)
        go_ret
        exact ⟨rfl, hk4⟩

namespace NumShort
open Go.ChangeShapes Go.WideShapes Go.ChangeAt
open Go.ChangeMaps (open_string)

theorem contract (H : Type) (enc : TypeId × Value → H) (W : World) (base : Nat) (args : Array Value) (ds gs : List (DataW H)) (before : List MemPlace)
    (hval : ∀ (j : Nat) t v, Try.f6.params[j]? = some t → args[j]? = some v → Value.okWide Try.prog W .any base t v)
    (hW : DataW.Whole enc Try.prog Try.f6.params.toList Rows.numShortSpec.vars false W args.toList ds gs before) :
    Calls Try.prog 6 args W fun e W' => ∃ v, e = .returned v ∧ Rows.numShortSpec.post enc Try.prog Try.f6 false true false false W args v W' := by
  have hW' := hW
  obtain ⟨p, q, hA0, hV, rfl, _, _⟩ := hW
  have hA : DataW.TrodAll enc Try.prog W 0 (fun _ => true) true Try.f6.params.toList args.toList ds p := hA0
  rw [Try.params6] at hA hval
  obtain ⟨v0, vs0, d0, ds0, p0, q0, hargs, rfl, rfl, h0, r0⟩ := trodAll_cons hA
  obtain ⟨v1, vs1, d1, ds1, p1, q1, rfl, rfl, rfl, h1, r1⟩ := trodAll_cons r0
  obtain ⟨v2, vs2, d2, ds2, p2, q2, rfl, rfl, rfl, h2, r2⟩ := trodAll_cons r1
  obtain ⟨v3, vs3, d3, ds3, p3, q3, rfl, rfl, rfl, h3, r3⟩ := trodAll_cons r2
  obtain ⟨rfl, rfl, rfl⟩ := trodAll_nil r3
  obtain rfl : args = #[v0, v1, v2, v3] := by cases args; simp_all
  obtain ⟨rfl, rfl⟩ := trodVars_none hV
  obtain ⟨a0, rfl, rfl, rfl, w0⟩ := open_int Try.underlying3 (hval 0 3 v0 rfl rfl) h0
  obtain ⟨a1, rfl, rfl, rfl, w1⟩ := open_int Try.underlying23 (hval 1 23 v1 rfl rfl) h1
  obtain ⟨s, rfl, rfl, rfl, hmax⟩ := open_string Try.underlying9 (hval 2 9 v2 rfl rfl) h2
  obtain ⟨a3, rfl, rfl, rfl, w3⟩ := open_int Try.underlying3 (hval 3 3 v3 rfl rfl) h3
  obtain ⟨n, rfl, _⟩ := wfu64 w1
  refine (numShort_walk a0 n s a3 W (wf64 w0).1 (wf64 w0).2 hmax (wf64 w3).1 (wf64 w3).2).mono fun e W' ⟨he, hb⟩ => ⟨_, he, ?_⟩
  exact law_post laid0 (by rw [Try.params6]; decide +kernel) rfl (by kernel_rfl) Try.underlying4 hW' rfl hb

set_option maxRecDepth 100000 in
theorem lifted (os : Os) (started : os.Started) (H : Type) (enc : TypeId × Value → H) :
    ReturnsInHanded {} Try.checked os 6 .any (Rows.numShortSpec.pre6 enc Try.prog Try.f6 Rows.numShortRow.domain false) (Rows.numShortSpec.post enc Try.prog Try.f6 false true false false) := by
  refine returnsInHanded_of_change (C := Try.checked) own0 started (by kernel_rfl) Try.func6
    (ChangeSpec.witness6 (enc := enc) (C := Try.checked) false ⟨#[], #[.int .i64 0, .int .u64 0, .string .empty, .int .i64 0], []⟩ 8 (by kernel_rfl) (by kernel_rfl) (by kernel_rfl) (by kernel_rfl)) ?_
  intro W base args ds gs before hval hW _ _
  exact contract H enc W base args ds gs before hval hW

theorem proved : Rows.NumShortSaid :=
  OpenClaim.holds_of_wide 6 Try.f6 rfl rfl rfl rfl rfl rfl rfl ⟨rfl, rfl, rfl, rfl, rfl⟩ rfl rfl rfl rfl rfl (by kernel_rfl) Try.func6 (by kernel_rfl)
    (of_decide_eq_true (by kernel_rfl)) (by unfold Func.isWrapper; first | (rw [if_pos (by decide +kernel)]; kernel_rfl) | (rw [if_neg (by decide +kernel)]; exact ⟨rfl, rfl⟩))
    (fun os started H enc _ => lifted os started H enc)
end NumShort
end Go.Proofs.Ytifdfacekajdfaa
