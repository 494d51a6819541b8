/-
  NumRises answers true for every input: of one size the greater number has the greater bytes, and each number has just one row of them. No condition.
-/
import Derived.Test.YtifdfacekajdfaaAwake1
import Derived.Test.YtifdfacekajdfaaLaw
namespace Go.Proofs.Ytifdfacekajdfaa
open Go.RowKit

theorem be_mod : ∀ (k n : Nat), be k (n % 256 ^ k) = be k n
  | 0, _ => rfl
  | k + 1, n => by
    have e1 : n % 256 ^ (k + 1) / 256 = n / 256 % 256 ^ k := by
      rw [pow256, Nat.mod_mul_right_div_self]
    have e2 : UInt8.ofNat (n % 256 ^ (k + 1)) = UInt8.ofNat n := by
      apply UInt8.toNat_inj.1
      simp only [UInt8.toNat_ofNat']
      rw [pow256, Nat.mod_mul_right_mod]
    rw [be, be, e1, be_mod k (n / 256), e2]

theorem less_be : ∀ (k a b : Nat), a < 256 ^ k → b < 256 ^ k → lessB (be k a) (be k b) = decide (a < b)
  | 0, a, b, ha, hb => by
    simp at ha hb
    simp [be, lessB, ha, hb]
  | k + 1, a, b, ha, hb => by
    have hp : 0 < 256 ^ k := Nat.pow_pos (by decide)
    have qa : a / 256 ^ k < 256 := by rw [Nat.div_lt_iff_lt_mul hp]; rwa [pow256] at ha
    have qb : b / 256 ^ k < 256 := by rw [Nat.div_lt_iff_lt_mul hp]; rwa [pow256] at hb
    have ra : a % 256 ^ k < 256 ^ k := Nat.mod_lt _ hp
    have rb : b % 256 ^ k < 256 ^ k := Nat.mod_lt _ hp
    have da := Nat.div_add_mod a (256 ^ k)
    have db := Nat.div_add_mod b (256 ^ k)
    rw [be_cons, be_cons, lessB, ← be_mod k a, ← be_mod k b, less_be k _ _ ra rb]
    generalize 256 ^ k = m at *
    generalize a / m = x at *
    generalize b / m = y at *
    generalize a % m = r at *
    generalize b % m = t at *
    by_cases e : x = y
    · subst e
      rw [if_pos rfl]
      simp only [decide_eq_decide]
      omega
    · rw [if_neg (by
        intro h
        have h2 := congrArg UInt8.toNat h
        simp only [UInt8.toNat_ofNat'] at h2
        omega)]
      rw [Bool.eq_iff_iff]
      simp only [decide_eq_true_eq, UInt8.lt_iff_toNat_lt, UInt8.toNat_ofNat']
      rw [Nat.mod_eq_of_lt qa, Nat.mod_eq_of_lt qb]
      rcases Nat.lt_or_gt_of_ne e with h | h
      · have : m * x + m ≤ m * y := by rw [← Nat.mul_succ]; exact Nat.mul_le_mul_left m h
        omega
      · have : m * y + m ≤ m * x := by rw [← Nat.mul_succ]; exact Nat.mul_le_mul_left m h
        omega

theorem ret_true {b : Bool} (h : b = true) : Ending.returned (.bool b) = .returned (.bool true) := by rw [h]
theorem eqNat (a b : Nat) : (((a : Int) == (b : Int)) == decide (a = b)) = true := by
  by_cases h : a = b
  · simp [h]
  · have : ((a : Int) == (b : Int)) = false := by simp; omega
    simp [this, h]
theorem above (k m : Nat) (h7 : k < 8) (hm : 256 ^ k ≤ m) : (decide ((k : Int) < 1) || decide (8 < (k : Int)) || decide (IntKind.u64.wrap (2 ^ (8 * k)) ≤ (m : Int))) = true := by
  have e : (2 : Nat) ^ (8 * k) = 256 ^ k := by rw [Nat.pow_mul]
  have hlt : 256 ^ k ≤ 256 ^ 7 := Nat.pow_le_pow_right (by decide) (by omega)
  have e2 : ((2 : Int) ^ (8 * k)) = ((256 ^ k : Nat) : Int) := by rw [← e]; simp
  rw [e2]
  clear e e2
  generalize 256 ^ k = x at *
  rw [IntWalk.u64_in (x : Int) (by omega)]
  simp only [Bool.or_eq_true, decide_eq_true_eq]
  exact .inr (by omega)

set_option maxRecDepth 100000 in
set_option maxHeartbeats 1000000 in
theorem numRises_walk (size : Int) (a b : Nat) (w : World) (hs1 : -9223372036854775808 ≤ size) (hs2 : size ≤ 9223372036854775807) (ha : a < 18446744073709551616) (hb : b < 18446744073709551616) :
    Calls Try.prog 5 #[.int .i64 size, .int .u64 a, .int .u64 b] w fun e w' => e = .returned (.bool true) ∧ Below w.heap.size w w' := by
  by_cases hsz : 1 ≤ size ∧ size ≤ 8
  · obtain ⟨h1, h8⟩ := hsz
    obtain ⟨k, rfl⟩ := Int.eq_ofNat_of_zero_le (by omega : 0 ≤ size)
    by_cases hab : a < 256 ^ k ∧ b < 256 ^ k
    · obtain ⟨hka, hkb⟩ := hab
      have hA := Lib.hid (decide_eq_true hka)
      have hB := Lib.hid (decide_eq_true hkb)
      have hL := Lib.hid (less_be k a b hka hkb)
      have hS : decide (be k a = be k b) = decide (a = b) := by
        rw [decide_eq_decide]
        exact ⟨be_inj k a b hka hkb, fun h => by rw [h]⟩
      have HS := Lib.hid hS
      clear hka hkb hS
      go_enter Try.func5, Try.ntmps5
      go_wp2_with (go_at_call 7; refine (awake1 _).mono ?_; rintro e w1 ⟨rfl, hb1⟩)
      refine (put_ok none [] 0 0 k a _ (Sl.nil _ _) (by omega) (by omega) (by omega) hA k (Nat.zero_add _)).mono ?_
      rintro e w2 ⟨A2, c2, rfl, ho2, hb2⟩
      go_wp2_with fail
      refine (put_ok none [] 0 0 k b _ (Sl.nil _ _) (by omega) (by omega) (by omega) hB k (Nat.zero_add _)).mono ?_
      rintro e w3 ⟨A3, c3, rfl, ho3, hb3⟩
      go_wp2_with fail
      refine (less_kp _ _ _ _ _ _ _ _ _ _ _ (ho2.sl.next hb3) ho3.sl (by omega) _ hL).mono ?_
      rintro e w4 ⟨rfl, hb4⟩
      go_wp2_with fail
      refine (same_kp _ _ _ _ _ _ _ _ _ _ _ ((ho2.sl.next hb3).next hb4) (ho3.sl.next hb4) (by omega) _ HS).mono ?_
      rintro e w5 ⟨rfl, hb5⟩
      go_wp2_with fail
      go_ret
      refine ⟨ret_true (eqNat a b), kp_trans (kp_trans (kp_trans (kp_trans hb1 hb2) hb3) hb4) hb5⟩
    · by_cases hka : a < 256 ^ k
      · have hkb : ¬ b < 256 ^ k := fun h => hab ⟨hka, h⟩
        have hA := Lib.hid (decide_eq_true hka)
        have HB := Lib.hid hkb
        have h7 : k < 8 := by
          rcases Nat.lt_or_ge k 8 with h | h
          · exact h
          · exfalso
            have : k = 8 := by omega
            subst this
            exact hkb (by simpa using hb)
        clear hka hkb hab
        go_enter Try.func5, Try.ntmps5
        go_wp2_with (go_at_call 7; refine (awake1 _).mono ?_; rintro e w1 ⟨rfl, hb1⟩)
        refine (put_ok none [] 0 0 k a _ (Sl.nil _ _) (by omega) (by omega) (by omega) hA k (Nat.zero_add _)).mono ?_
        rintro e w2 ⟨A2, c2, rfl, ho2, hb2⟩
        go_wp2_with fail
        refine (put_no none 0 0 k b _ (.inr ⟨⟨h1, h8⟩, HB.out⟩)).mono ?_
        rintro e w' ⟨rfl, rfl⟩
        go_wp2_with fail
        all_goals
          go_ret
          exact ⟨ret_true (above k _ h7 (by have := HB.out; omega)), kp_trans hb1 hb2⟩
      · have HA := Lib.hid hka
        have h7 : k < 8 := by
          rcases Nat.lt_or_ge k 8 with h | h
          · exact h
          · exfalso
            have : k = 8 := by omega
            subst this
            exact hka (by simpa using ha)
        clear hka hab
        go_enter Try.func5, Try.ntmps5
        go_wp2_with (go_at_call 7; refine (awake1 _).mono ?_; rintro e w1 ⟨rfl, hb1⟩)
        refine (put_no none 0 0 k a _ (.inr ⟨⟨h1, h8⟩, HA.out⟩)).mono ?_
        rintro e w' ⟨rfl, rfl⟩
        go_wp2_with fail
        rcases put_split k b with ⟨k', hk', h1', h8', hfit⟩ | hno
        · obtain rfl : k = k' := by omega
          refine (put_ok none [] 0 0 k b _ (Sl.nil _ _) (by omega) (by omega) (by omega) hfit k (Nat.zero_add _)).mono ?_
          rintro e w2 ⟨A2, c2, rfl, ho2, hb2⟩
          go_wp2_with fail
          all_goals
            go_ret
            exact ⟨ret_true (above k _ h7 (by have := HA.out; omega)), kp_trans hb1 hb2⟩
        · refine (put_no none 0 0 k b _ hno).mono ?_
          rintro e w' ⟨rfl, rfl⟩
          clear hno
          go_wp2_with fail
          all_goals
            go_ret
            exact ⟨ret_true (above k _ h7 (by have := HA.out; omega)), hb1⟩
  · have hno : size < 1 ∨ 8 < size := by omega
    have HNO := Lib.hid hno
    clear hsz
    by_cases hlow : size < 1
    focus
      clear hno
      go_enter Try.func5, Try.ntmps5
    rotate_left
    focus
      have h8 : 8 < size := by omega
      have hlow' : decide (size < 1) = false := by simp; omega
      clear hno
      go_enter Try.func5, Try.ntmps5
    all_goals
      go_wp2_with (first
        | (go_at_call 7; refine (awake1 _).mono ?_; rintro e w1 ⟨rfl, hb1⟩)
        | (go_at_call 8; refine (put_no none 0 0 size _ _ (.inl HNO.out)).mono ?_; rintro e w' ⟨rfl, rfl⟩))
      go_ret
      exact ⟨rfl, hb1⟩

namespace NumRises
open Go.ChangeShapes Go.WideShapes Go.ChangeAt

theorem contract (H : Type) (enc : TypeId × Value → H) (W : World) (base : Nat) (args : Array Value) (ds gs : List (DataW H)) (before : List MemPlace)
    (hval : ∀ (j : Nat) t v, Try.f5.params[j]? = some t → args[j]? = some v → Value.okWide Try.prog W .any base t v)
    (hW : DataW.Whole enc Try.prog Try.f5.params.toList Rows.numRisesSpec.vars false W args.toList ds gs before) :
    Calls Try.prog 5 args W fun e W' => ∃ v, e = .returned v ∧ Rows.numRisesSpec.post enc Try.prog Try.f5 false true false false W args v W' := by
  have hW' := hW
  obtain ⟨p, q, hA0, hV, rfl, _, _⟩ := hW
  have hA : DataW.TrodAll enc Try.prog W 0 (fun _ => true) true Try.f5.params.toList args.toList ds p := hA0
  rw [Try.params5] at hA hval
  obtain ⟨v0, vs0, d0, ds0, p0, q0, hargs, rfl, rfl, h0, r0⟩ := trodAll_cons hA
  obtain ⟨v1, vs1, d1, ds1, p1, q1, rfl, rfl, rfl, h1, r1⟩ := trodAll_cons r0
  obtain ⟨v2, vs2, d2, ds2, p2, q2, rfl, rfl, rfl, h2, r2⟩ := trodAll_cons r1
  obtain ⟨rfl, rfl, rfl⟩ := trodAll_nil r2
  obtain rfl : args = #[v0, v1, v2] := by cases args; simp_all
  obtain ⟨rfl, rfl⟩ := trodVars_none hV
  obtain ⟨a0, rfl, rfl, rfl, w0⟩ := open_int Try.underlying3 (hval 0 3 v0 rfl rfl) h0
  obtain ⟨a1, rfl, rfl, rfl, w1⟩ := open_int Try.underlying23 (hval 1 23 v1 rfl rfl) h1
  obtain ⟨a2, rfl, rfl, rfl, w2⟩ := open_int Try.underlying23 (hval 2 23 v2 rfl rfl) h2
  obtain ⟨a, rfl, ha⟩ := wfu64 w1
  obtain ⟨b, rfl, hb⟩ := wfu64 w2
  refine (numRises_walk a0 a b W (wf64 w0).1 (wf64 w0).2 ha hb).mono fun e W' ⟨he, hb⟩ => ⟨_, he, ?_⟩
  exact law_post laid0 (by rw [Try.params5]; decide +kernel) rfl (by kernel_rfl) Try.underlying4 hW' rfl hb

set_option maxRecDepth 100000 in
theorem lifted (os : Os) (started : os.Started) (H : Type) (enc : TypeId × Value → H) :
    ReturnsInHanded {} Try.checked os 5 .any (Rows.numRisesSpec.pre6 enc Try.prog Try.f5 Rows.numRisesRow.domain false) (Rows.numRisesSpec.post enc Try.prog Try.f5 false true false false) := by
  refine returnsInHanded_of_change (C := Try.checked) own0 started (by kernel_rfl) Try.func5
    (ChangeSpec.witness6 (enc := enc) (C := Try.checked) false ⟨#[], #[.int .i64 0, .int .u64 0, .int .u64 0], []⟩ 8 (by kernel_rfl) (by kernel_rfl) (by kernel_rfl) (by kernel_rfl)) ?_
  intro W base args ds gs before hval hW _ _
  exact contract H enc W base args ds gs before hval hW

theorem proved : Rows.NumRisesSaid :=
  OpenClaim.holds_of_wide 5 Try.f5 rfl rfl rfl rfl rfl rfl rfl ⟨rfl, rfl, rfl, rfl, rfl⟩ rfl rfl rfl rfl rfl (by kernel_rfl) Try.func5 (by kernel_rfl)
    (of_decide_eq_true (by kernel_rfl)) (by unfold Func.isWrapper; first | (rw [if_pos (by decide +kernel)]; kernel_rfl) | (rw [if_neg (by decide +kernel)]; exact ⟨rfl, rfl⟩))
    (fun os started H enc _ => lifted os started H enc)
end NumRises
end Go.Proofs.Ytifdfacekajdfaa
