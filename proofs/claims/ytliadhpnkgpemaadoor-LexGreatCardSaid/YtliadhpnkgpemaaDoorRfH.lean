/-
  The document's layer 4: a statement's tokens: contract.
-/
import Derived.Test.YtliadhpnkgpemaaDoorRfG
namespace Go.Proofs.YtliadhpnkgpemaaDoor
open Go.RowKit
set_option maxRecDepth 100000

theorem beg_two (a b : UInt8) (c : UInt8) (r : List UInt8) (h : begF [a, b] (c :: r) = true) : c = a := by
  unfold begF Lib.hasPrefix at h
  rw [List.isPrefixOf] at h
  simp at h
  exact h.1.symm
theorem beg_three (a b d : UInt8) (c : UInt8) (r : List UInt8) (h : begF [a, b, d] (c :: r) = true) : c = a := by
  unfold begF Lib.hasPrefix at h
  rw [List.isPrefixOf] at h
  simp at h
  exact h.1.symm
theorem remark_no_line (c : UInt8) (r : List UInt8) (h : isRemarkF (c :: r) = true) : isLineF (c :: r) = false := by
  unfold isRemarkF at h
  simp only [Bool.and_eq_true] at h
  have hc := beg_two _ _ _ _ h.1
  subst hc
  unfold isLineF
  cases hb : begF [45, 45] ((47 : UInt8) :: r) with
  | false => rfl
  | true => exact absurd (beg_two _ _ _ _ hb) (by decide)
theorem line_pos (c : UInt8) (r : List UInt8) (h1 : blankF c = false) : 0 < lineF (c :: r) := by
  unfold lineF
  split
  · simp
  · rename_i hx
    have hc : (c == 10) = false := by
      simp only [beq_eq_false_iff_ne, ne_eq]
      rintro rfl
      revert h1
      decide
    rw [Lib.indexByte, hc] at hx ⊢
    simp only [Bool.false_eq_true, if_false] at hx ⊢
    have hge := indexByte_lt.indexByte_ge1 r 10
    split
    · rename_i h; rw [if_pos h] at hx; omega
    · rename_i h
      have : Lib.indexByte r 10 ≠ -1 := by simpa using h
      omega

theorem step_bad (c : UInt8) (r : List UInt8) (h : skipF (c :: r) < 0) : stepF (c :: r) = .bad := by
  rw [skipF] at h
  split at h
  · omega
  rename_i h1
  split at h
  · rename_i h2
    rw [stepF, if_neg h1, if_neg (by rw [remark_no_line c r h2]; simp), if_pos h2]
    split at h
    · rename_i h3; rw [if_pos h3]
    · omega
  split at h
  · omega
  · omega
theorem step_skip (c : UInt8) (r : List UInt8) (m : Nat) (h : skipF (c :: r) = m) (hm : 0 < m) : stepF (c :: r) = .skip m := by
  rw [skipF] at h
  split at h
  · rename_i h1
    rw [stepF, if_pos h1]
    congr 1
    omega
  rename_i h1
  split at h
  · rename_i h2
    rw [stepF, if_neg h1, if_neg (by rw [remark_no_line c r h2]; simp), if_pos h2]
    split at h
    · omega
    · rename_i h3
      rw [if_neg h3]
      congr 1
      omega
  split at h
  · rename_i h3
    rw [stepF, if_neg h1, if_pos h3]
    congr 1
    omega
  · omega
theorem rtok_first (c : UInt8) (r : List UInt8) (h1 : blankF c = false) (h2 : isLineF (c :: r) = false) : rtokF (c :: r) = firstI (c :: r) := by
  have h35 : ¬ c.toNat = 35 := by
    intro h
    change (decide (c.toNat = 35) || begF [45, 45] (c :: r)) = false at h2
    rw [decide_eq_true h] at h2
    simp at h2
  have hsign : signF c = (!(decide (c.toNat ≤ 32) || decide (126 < c.toNat) || lodF c) && (decide (c.toNat ≠ 34) && decide (c.toNat ≠ 96) && decide (c.toNat ≠ 39) && decide (c.toNat ≠ 35))) := rfl
  unfold firstI
  rw [rtokF]
  simp only [firstF]
  by_cases hb : begF [47, 42, 43] (c :: r) = true
  · have hc := beg_three _ _ _ _ _ hb
    subst hc
    rw [if_pos hb, if_neg (by decide), if_neg (by decide), if_neg (by decide), if_neg (by decide), if_pos hb]
    unfold hintF
    split <;> rfl
  rw [if_neg hb]
  split
  · rfl
  split
  · rfl
  split
  · simp only [Option.map_map]; rfl
  split
  · simp only [Option.map_map]; rfl
  rename_i hl hd hq hs
  have hlod : lodF c = false := by simp [lodF, hl, hd]
  rw [hlod] at hsign
  by_cases h6 : 33 ≤ c.toNat ∧ c.toNat ≤ 126
  · have : signF c = true := by
      rw [hsign]
      simp
      omega
    rw [if_pos h6, if_pos this]
    rfl
  · have : signF c = false := by
      rw [hsign]
      simp
      omega
    rw [if_neg h6, this]
    rfl
theorem step_first (c : UInt8) (r : List UInt8) (h : skipF (c :: r) = 0) : blankF c = false ∧ isLineF (c :: r) = false ∧ stepF (c :: r) = match firstF (c :: r) with | none => .bad | some (k, t, n) => .tok k t n := by
  rw [skipF] at h
  split at h
  · omega
  rename_i h1
  have h1f : blankF c = false := by simpa using h1
  split at h
  · rename_i h2
    split at h
    · omega
    · rename_i h3; omega
  rename_i h2
  split at h
  · have := line_pos c r h1f; omega
  rename_i h3
  refine ⟨h1f, by simpa using h3, ?_⟩
  rw [stepF, if_neg h1, if_neg h3, if_neg h2]
  cases firstF (c :: r) <;> rfl

theorem skip_le : ∀ l : List UInt8, skipF l ≤ l.length
  | [] => by simp [skipF]
  | c :: r => by
    rw [skipF]
    split
    · simp; omega
    split
    · rename_i h2
      have h2a : begF [47, 42] (c :: r) = true := by
        unfold isRemarkF at h2
        simp only [Bool.and_eq_true] at h2
        exact h2.1
      have h3 := (List.isPrefixOf_iff_prefix.1 h2a).length_le
      have := (closedF_le (c :: r) 2 (by simpa using h3)).1
      split <;> omega
    split
    · unfold lineF
      split
      · omega
      · have := indexByte_lt (l := c :: r) (c := 10) (by omega)
        omega
    · omega

theorem OT.empty (e : TypeId) (w : World) : OT e (w.alloc (.cells #[] e)) w.heap.size (some ⟨w.heap.size, 0, none⟩) 0 0 [] :=
  ⟨own_new_s w w.heap.size 2 e 0 [] rfl (Nat.le_refl _) (by simp [maxLen]), Nat.le_refl _⟩

set_option maxHeartbeats 2000000 in
theorem rlex_ok (s : ByteArray) (w : World) (hm : s.size ≤ maxLen) : LexTo 10 37 s w := by
  unfold LexTo
  unfold maxLen at hm
  by_cases hlong : 200 < s.size
  · have hA : lexA s.data.toList = ([], 4) := by unfold lexA; rw [text_len, if_pos hlong]
    have HA := Lib.hid hA
    clear hA
    go_enter Tryd.func10, Tryd.ntmps10
    go_wp2_with fail
    go_ret2
    exact ⟨none, 0, 0, 4, [], rfl, OT.nil _ _ _, by rw [HA.out]; rfl, Below.refl _ _⟩
  have hA : ∀ R, lexF s.data.toList = R → lexA s.data.toList = (match R with | none => ([], 2) | some x => (x, 0)) := fun R h => by unfold lexA; rw [text_len, if_neg hlong, h]; cases R <;> rfl
  generalize hR0 : lexF s.data.toList = R at hA
  have hA1 := hA R rfl
  have HA := Lib.hid hA1
  have HR := Lib.hid hR0
  have hlen := Lib.hid (text_len s)
  clear hA hA1 hR0
  obtain ⟨i0, hi, hz0, hz1, hz2⟩ := info_parts tkinfoR
  go_enter Tryd.func10, Tryd.ntmps10
  go_wp2
  go_loopw [4, 5] (fun l4 at_ wr => ∃ (k : Nat) (A : Option Addr) (n c : Nat) (ts : List Tk), at_ = .int .i64 k ∧ k ≤ s.size ∧ l4 = .slice A n c ∧ OT 37 wr w.heap.size A n c ts ∧ n ≤ k ∧ Hid (R = (lexF (s.data.toList.drop k)).map (saysT ts ++ ·)) ∧ Below w.heap.size w wr) (fun _ at_ _ => s.size - (intOf at_).toNat)
  case atStart => exact ⟨0, _, 0, _, [], rfl, Nat.zero_le _, rfl, OT.empty _ w, Nat.le_refl _, Lib.hid (by rw [← HR.out]; simp [saysT]), kp_new _ _⟩
  case round =>
    obtain ⟨k, A, n, c, ts, rfl, hks, rfl, ho, hnk, hx, kw⟩ := hrel
    clear HR
    by_cases hlt : k < s.size
    · have hkl : k < s.data.toList.length := by rw [hlen.out]; exact hlt
      obtain ⟨b, r', hcons⟩ : ∃ b r', s.data.toList.drop k = b :: r' := ⟨_, _, List.drop_eq_getElem_cons hkl⟩
      have hne : s.data.toList.drop k ≠ [] := by rw [hcons]; simp
      have hdd : ∀ j, (s.data.toList.drop k).drop j = s.data.toList.drop (k + j) := fun j => by rw [List.drop_drop]
      have hdl : (s.data.toList.drop k).length = s.size - k := by rw [List.length_drop, hlen.out]
      have hS := skip_ok s k b r' wr (by omega) hcons
      have hT := fun u => token_ok s k u (by omega) hlt
      have hA : skipA s.data.toList k = if skipF (b :: r') < 0 then -1 else (k : Int) + skipF (b :: r') := by unfold skipA; rw [hcons]
      rw [hA] at hS
      rw [hcons] at hT
      by_cases h1 : skipF (b :: r') < 0
      · rw [if_pos h1] at hS
        have hR : R = none := by rw [hx.out, lexF_bad hne (by rw [hcons]; exact step_bad b r' h1)]; rfl
        subst hR
        have HS := Lib.hid hS
        clear hS hT hA hx h1
        go_wp2_with fail
        refine HS.out.mono ?_
        rintro e w1 ⟨rfl, k1⟩
        go_wp2_with fail
        go_ret2
        exact ⟨none, 0, 0, 2, [], rfl, OT.nil _ _ _, by rw [HA.out]; rfl, kp_trans kw k1⟩
      rw [if_neg h1] at hS
      by_cases h2 : skipF (b :: r') = 0
      · rw [h2] at hS
        obtain ⟨hb1, hb2, hst⟩ := step_first b r' h2
        have hrt := rtok_first b r' hb1 hb2
        rw [hrt] at hT
        unfold TokTo tokV at hT
        have hfi : firstI (b :: r') = (firstF (b :: r')).map fun x => ((x.1 : Int), x.2.1, x.2.2) := rfl
        rw [hfi] at hT
        have hsizes := firstF_size (l := b :: r')
        have hbl : (b :: r').length = s.size - k := by rw [← hcons, hdl]
        rw [hbl] at hsizes
        have e0 : (k : Int) + 0 = (k : Int) := by omega
        rw [e0] at hS
        have HS := Lib.hid hS
        cases hff : firstF (b :: r') with
        | none =>
          rw [hff] at hst hT
          have hR : R = none := by rw [hx.out, lexF_bad hne (by rw [hcons]; exact hst)]; rfl
          subst hR
          have HT := Lib.hid hT
          clear hS hT hA hx h1 h2 hst hrt hsizes hbl hfi hff e0
          go_wp2_with fail
          refine HS.out.mono ?_
          rintro e w1 ⟨rfl, k1⟩
          go_wp2_with fail
          refine (HT.out _).mono ?_
          rintro e w2 ⟨kd, rr, nn, rfl, rfl, k2⟩
          go_wp2_with fail
          go_ret2
          exact ⟨none, 0, 0, 2, [], rfl, OT.nil _ _ _, by rw [HA.out]; rfl, kp_alloc (kp_trans kw (kp_trans k1 k2)) _⟩
        | some x =>
          obtain ⟨kd, t, m⟩ := x
          rw [hff] at hst hT
          obtain ⟨hm0, hml⟩ := hsizes kd t m hff
          have hx2 : Hid (R = ((lexF (s.data.toList.drop (k + m))).map (((kd : Int), t) :: ·)).map (saysT ts ++ ·)) := Lib.hid (by rw [hx.out, lexF_tok hne (by rw [hcons]; exact hst) (by omega), hdd])
          have HT := Lib.hid hT
          clear hS hT hA hx h1 h2 hst hrt hsizes hbl hfi hff e0 hcons hne hdd hdl
          go_wp2_with fail
          refine HS.out.mono ?_
          rintro e w1 ⟨rfl, k1⟩
          go_wp2_with fail
          refine (HT.out _).mono ?_
          rintro e w2 ⟨kd2, r1, nn, rfl, ⟨rfl, hr1, rfl⟩, k2⟩
          have k12 := kp_trans k1 k2
          have ho1 := ho.next k12
          have kw1 := kp_trans kw k12
          have hnn : ¬ ((k + m : Nat) : Int) < 0 := by omega
          have hsrc : ∀ X, Rd ((w2.alloc X).alloc (.cells #[.int .i64 (kd : Int), .string r1] 37)) (w2.heap.size + 1 + 1) (some ⟨w2.heap.size + 1, 0, none⟩) [.int .i64 (kd : Int), .string r1] := fun X => by
            have := Rd.new (w2.alloc X) 37 [.int .i64 (kd : Int), .string r1]
            simpa using this
          have HSRC := Lib.hid hsrc
          have hsw := kw1.size
          clear hsrc
          go_wp2_with (at_builtin; refine wpList_append_rds rfl _ _ _ rfl w.heap.size 37 i0 _ 2 24 Tryd.underlying27 hi hz0 hz1 hz2 rfl (by omega) _ n _ rfl ((ho1.own.alloc _).alloc _) _ _ _ _ [.int .i64 (kd : Int), .string r1] rfl rfl (HSRC.out _) (by simp [Value.oneCell']) (by unfold maxLen; omega) (by omega) (by simp; omega) ?_; intro v3 w3 hown3 hg3; obtain ⟨A3, c3, rfl, ho3⟩ := OT.push hown3)
          go_roundw
          case rel => exact ⟨k + m, A3, n + 1, c3, ts ++ [⟨kd, r1⟩], by go_num, by omega, rfl, ho3, by omega, Lib.hid (by rw [hx2.out, saysT_append]; cases lexF (s.data.toList.drop (k + m)) <;> simp [saysT, Tk.says, hr1]), (kp_alloc (kp_alloc kw1 _) _).trans (below_own_s ((ho1.own.alloc _).alloc _) hg3 (by simp; omega))⟩
          case measure => simp [intOf]; omega
      · obtain ⟨m, hm⟩ : ∃ m : Nat, skipF (b :: r') = m := ⟨(skipF (b :: r')).toNat, by omega⟩
        rw [hm] at hS
        have hmb : m ≤ s.size - k := by
          have h3 := skip_le (b :: r')
          rw [hm, ← hcons, hdl] at h3
          omega
        have hx2 : Hid (R = (lexF (s.data.toList.drop (k + m))).map (saysT ts ++ ·)) := Lib.hid (by rw [hx.out, lexF_skip hne (by rw [hcons]; exact step_skip b r' m hm (by omega)) (by omega), hdd])
        have HS := Lib.hid hS
        have hm0 : 0 < m := by omega
        clear hS hT hA hx h1 h2 hm hcons hne hdd hdl
        go_wp2_with fail
        refine HS.out.mono ?_
        rintro e w1 ⟨rfl, k1⟩
        go_wp2_with fail
        go_roundw
        case rel => exact ⟨k + m, A, n, c, ts, by go_num, by omega, rfl, ho.next k1, by omega, hx2, kp_trans kw k1⟩
        case measure => simp [intOf]; omega
    · obtain rfl : k = s.size := by omega
      have hR : R = some (saysT ts) := by rw [hx.out, List.drop_eq_nil_of_le (by rw [hlen.out]; exact Nat.le_refl _), lexF_nil]; simp
      subst hR
      clear hx
      go_wp2_with fail
      go_ret2
      exact ⟨A, n, c, 0, rfl, ts, ho, by rw [HA.out], kw⟩
end Go.Proofs.YtliadhpnkgpemaaDoor
