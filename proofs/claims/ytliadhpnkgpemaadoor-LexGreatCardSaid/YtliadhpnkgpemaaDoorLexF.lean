/-
  A statement's tokens, by package lex: contract.
-/
import Derived.Test.YtliadhpnkgpemaaDoorTok
import Derived.WalkMore
namespace Go.Proofs.YtliadhpnkgpemaaDoor
open Go.RowKit
set_option maxRecDepth 100000

/-- what a statement has: tokens, or an error -/
def lexA (l : List UInt8) : List (Int × List UInt8) × Int := if 200 < l.length then ([], 4) else match lexF l with | none => ([], 2) | some x => (x, 0)

/-- an answer: a row of tokens of the call's own, and an error -/
def LexTo (f : FuncId) (e : TypeId) (s : ByteArray) (w : World) : Prop :=
  Calls Tryd.prog f #[.string s] w fun x w' => ∃ A n c er ts, x = .returned (.tuple #[.slice A n c, .int .i64 er]) ∧ OT e w' w.heap.size A n c ts ∧ (saysT ts, er) = lexA s.data.toList ∧ Below w.heap.size w w'

theorem firstF_size {l : List UInt8} (k : Nat) (t : List UInt8) (n : Nat) (h : firstF l = some (k, t, n)) : 1 ≤ n ∧ n ≤ l.length := by
  cases l with
  | nil => simp [firstF] at h
  | cons c r =>
    simp only [firstF] at h
    split at h
    · rename_i hc
      simp only [Option.some.injEq, Prod.mk.injEq] at h
      obtain ⟨_, _, rfl⟩ := h
      have hl : lodF c = true := by simp [lodF, hc]
      have := runF_le lodF (c :: r)
      rw [runF_some hl] at this ⊢
      omega
    split at h
    · rename_i hc
      simp only [Option.some.injEq, Prod.mk.injEq] at h
      obtain ⟨_, _, rfl⟩ := h
      have := runF_le digitF (c :: r)
      rw [runF_some hc] at this ⊢
      omega
    split at h
    · obtain ⟨x, hx, h⟩ := Option.map_eq_some_iff.1 h
      have := quotedF_le hx
      simp only [Prod.mk.injEq] at h
      simp
      omega
    split at h
    · obtain ⟨x, hx, h⟩ := Option.map_eq_some_iff.1 h
      have := quotedF_le hx
      simp only [Prod.mk.injEq] at h
      simp
      omega
    split at h
    · rename_i hb
      have h3 := (List.isPrefixOf_iff_prefix.1 hb).length_le
      have := closedF_le (c :: r) 3 (by simpa using h3)
      split at h
      · cases h
      · simp only [Option.some.injEq, Prod.mk.injEq] at h
        obtain ⟨_, _, rfl⟩ := h
        omega
    split at h
    · simp only [Option.some.injEq, Prod.mk.injEq] at h
      simp
      omega
    · cases h

set_option maxHeartbeats 2000000 in
theorem lex_ok (s : ByteArray) (w : World) (hm : s.size ≤ maxLen) (hL : Lw w) : LexTo 9 24 s w := by
  unfold LexTo
  unfold maxLen at hm
  by_cases hlong : 200 < s.size
  · have hA : lexA s.data.toList = ([], 4) := by unfold lexA; rw [text_len, if_pos hlong]
    have HA := Lib.hid hA
    clear hA
    go_enter Tryd.func9, Tryd.ntmps9
    go_wp2_with fail
    go_step3
    go_wp2_with fail
    rw [Exit.noGoto_ret]
    go_ret2
    exact ⟨none, 0, 0, 4, [], rfl, OT.nil _ _ _, by rw [HA.out]; rfl, Below.refl _ _⟩
  have hA : ∀ R, lexF s.data.toList = R → lexA s.data.toList = (match R with | none => ([], 2) | some x => (x, 0)) := fun R h => by unfold lexA; rw [text_len, if_neg hlong, h]
  generalize hR0 : lexF s.data.toList = R at hA
  have hA1 := hA R rfl
  have HA := Lib.hid hA1
  have HR := Lib.hid hR0
  have hlen := Lib.hid (text_len s)
  clear hA hA1 hR0
  obtain ⟨i0, hi, hz0, hz1, hz2⟩ := info_parts tkinfo
  go_enter Tryd.func9, Tryd.ntmps9
  go_wp2_with fail
  go_step3
  go_wp2_with fail
  go_step3
  go_wp2_with fail
  go_loopw [4, 5] (fun l4 at_ wr => ∃ (k : Nat) (A : Option Addr) (n c : Nat) (ts : List Tk), at_ = .int .i64 k ∧ k ≤ s.size ∧ l4 = .slice A n c ∧ OT 24 wr w.heap.size A n c ts ∧ n ≤ k ∧ Hid (R = (lexF (s.data.toList.drop k)).map (saysT ts ++ ·)) ∧ Below w.heap.size w wr) (fun _ at_ _ => s.size - (intOf at_).toNat)
  case atStart => exact ⟨0, none, 0, 0, [], rfl, Nat.zero_le _, rfl, OT.nil _ _ _, Nat.le_refl _, Lib.hid (by rw [← HR.out]; simp [saysT]), Below.refl _ _⟩
  case round =>
    obtain ⟨k, A, n, c, ts, rfl, hks, rfl, ho, hnk, hx, kw⟩ := hrel
    clear HR
    by_cases hlt : k < s.size
    · have hL1 := hL.next kw
      have hkl : k < s.data.toList.length := by rw [hlen.out]; exact hlt
      have hrest := text_rest s k
      have hcons : s.data.toList.drop k = s.data.toList[k] :: s.data.toList.drop (k + 1) := List.drop_eq_getElem_cons hkl
      have hne : s.data.toList.drop k ≠ [] := by rw [hcons]; simp
      have hdl : (s.data.toList.drop k).length = s.size - k := by rw [List.length_drop, hlen.out]
      have hsz : (s.extract k s.size).size = s.size - k := by rw [ByteArray.size_extract]; omega
      have hdd : ∀ j, (s.data.toList.drop k).drop j = s.data.toList.drop (k + j) := fun j => by rw [List.drop_drop]
      generalize s.data.toList[k] = b at hcons
      generalize s.data.toList.drop (k + 1) = r' at hcons
      generalize hD : s.data.toList.drop k = l at hrest hcons hne hdl hdd hx
      have hb0 : ∀ h, (s.extract k s.size)[0]'h = b := fun h => by
        have e0 : (s.extract k s.size).data.toList[0]? = some b := by rw [hrest, hcons]; rfl
        rw [text_at _ 0 h]
        exact (List.getElem?_eq_some_iff.1 e0).2
      generalize hE : s.extract k s.size = q at hrest hsz hb0
      have hq0 : 0 < q.size := by omega
      have hqs : q.size ≤ 200 := by omega
      have HS := Lib.hid hsz
      have HD := Lib.hid hdd
      have HRest := Lib.hid hrest
      have HC := Lib.hid hcons
      have hdl2 : l.length = q.size := by omega
      have HDL := Lib.hid hdl2
      have HNE := Lib.hid hne
      have hskip : ∀ j, j ≠ 0 → stepF l = .skip j → Hid (R = (lexF (s.data.toList.drop (k + j))).map (saysT ts ++ ·)) := fun j hj hs => Lib.hid (by rw [hx.out, lexF_skip hne hs hj, hdd])
      have htok : ∀ (j kd : Nat) (t : List UInt8), j ≠ 0 → stepF l = .tok kd t j → Hid (R = ((lexF (s.data.toList.drop (k + j))).map (((kd : Int), t) :: ·)).map (saysT ts ++ ·)) := fun j kd t hj hs => Lib.hid (by rw [hx.out, lexF_tok hne hs hj, hdd])
      have hbad : stepF l = .bad → R = none := fun hs => by rw [hx.out, lexF_bad hne hs]; rfl
      have HSkip := Lib.hid hskip
      have HTok := Lib.hid htok
      have HBad := Lib.hid hbad
      clear hskip htok hbad hsz hdd hrest hcons hdl hdl2 hne hD
      have H1 := fun u => isBlank_ok b u
      by_cases h1 : blankF b = true
      · rw [h1] at H1
        have H1' := Lib.hid H1
        have hx2 := HSkip.out 1 (by omega) (by rw [HC.out, stepF, if_pos h1])
        clear H1 h1 hx
        go_wp2_with fail
        refine (H1'.out _).mono ?_
        rintro e w1 ⟨rfl, rfl⟩
        go_wp2_with fail
        go_roundw
        case rel => exact ⟨k + 1, A, n, c, ts, by go_num, by omega, rfl, ho, by omega, hx2, kw⟩
        case measure => simp [intOf]; omega
      have h1f : blankF b = false := by simpa using h1
      rw [h1f] at H1
      have H1' := Lib.hid H1
      have H2 := fun u => beginsLine_ok q u hq0
      rw [HRest.out] at H2
      clear H1
      by_cases h2 : isLineF l = true
      · rw [h2] at H2
        have H2' := Lib.hid H2
        have hi10 := fun u => indexByte_s q 10 u
        rw [HRest.out] at hi10
        have hst : stepF l = .skip (lineF l) := by
          rw [HC.out] at h2 ⊢
          rw [stepF, if_neg h1, if_pos h2]
        have hlf : lineF l = if Lib.indexByte l 10 < 0 then l.length else (Lib.indexByte l 10).toNat := rfl
        have hlt10 := fun h => indexByte_lt (l := l) (c := 10) h
        have h35 : 0 ≤ Lib.indexByte l 10 → (Lib.indexByte l 10).toNat ≠ 0 := fun h => by
          have h10 : b ≠ 10 := by
            intro e
            subst e
            revert h1
            decide
          rw [HC.out, Lib.indexByte]
          rw [HC.out, Lib.indexByte] at h
          have hb10 : (b == 10) = false := by simpa using h10
          rw [hb10] at h ⊢
          simp only [Bool.false_eq_true, if_false] at h ⊢
          split at h
          · omega
          · have := indexByte_lt.indexByte_ge1 r' 10
            rename_i hne
            rw [if_neg hne]
            have hne2 : Lib.indexByte r' 10 ≠ -1 := by simpa using hne
            omega
        have e10 : ((10 : UInt8).toNat : Int) = 10 := rfl
        rw [e10] at hi10
        generalize Lib.indexByte l 10 = x at hi10 hlf hlt10 h35
        have HI := Lib.hid hi10
        by_cases hx0 : x < 0
        · rw [if_pos hx0, HDL.out] at hlf
          rw [hlf] at hst
          have hx2 := HSkip.out q.size (by omega) hst
          rw [List.drop_eq_nil_of_le (by rw [hlen.out]; have := HS.out; omega), lexF_nil] at hx2
          have hR : R = some (saysT ts) := by rw [hx2.out]; simp
          subst hR
          clear H2 h2 h1 hi10 hx hst hlf hlt10 h35 hx2
          go_wp2_with fail
          refine (H1'.out _).mono ?_
          rintro e w1 ⟨rfl, rfl⟩
          go_wp2_with fail
          refine (H2'.out _).mono ?_
          rintro e w1 ⟨rfl, rfl⟩
          go_wp2_with fail
          refine (HI.out _).mono ?_
          rintro e w1 ⟨rfl, rfl⟩
          go_wp2_with fail
          try rw [Exit.noGoto_ret]
          go_ret2
          exact ⟨A, n, c, 0, ts, rfl, ho, by rw [HA.out], kw⟩
        · obtain ⟨m, rfl⟩ : ∃ m : Nat, x = m := ⟨x.toNat, by omega⟩
          rw [if_neg hx0, Int.toNat_natCast] at hlf
          rw [hlf] at hst
          have hm0 := h35 (by omega)
          have hml := hlt10 (by omega)
          rw [Int.toNat_natCast] at hm0 hml
          rw [HDL.out, HS.out] at hml
          have hx2 := HSkip.out m hm0 hst
          clear H2 h2 h1 hi10 hx hst hlf hlt10 h35
          go_wp2_with fail
          refine (H1'.out _).mono ?_
          rintro e w1 ⟨rfl, rfl⟩
          go_wp2_with fail
          refine (H2'.out _).mono ?_
          rintro e w1 ⟨rfl, rfl⟩
          go_wp2_with fail
          refine (HI.out _).mono ?_
          rintro e w1 ⟨rfl, rfl⟩
          go_wp2_with fail
          go_roundw
          case rel => exact ⟨k + m, A, n, c, ts, by go_num, by omega, rfl, ho, by omega, hx2, kw⟩
          case measure => simp [intOf]; omega
      have h2f : isLineF l = false := by simpa using h2
      rw [h2f] at H2
      have H2' := Lib.hid H2
      clear H2
      have H3 := fun u => beginsRemark_ok q u
      rw [HRest.out] at H3
      by_cases h3 : isRemarkF l = true
      · rw [h3] at H3
        have H3' := Lib.hid H3
        have h2q : 2 ≤ q.size := by
          rw [← HDL.out]
          have h4 : begF [47, 42] l = true := by
            unfold isRemarkF at h3
            simp at h3
            exact h3.1
          have := (List.isPrefixOf_iff_prefix.1 h4).length_le
          simpa using this
        have hC := closedSize_ok q 2 wr (by omega) h2q hL1
        rw [HRest.out] at hC
        have hst : stepF l = if closedF l 2 = 0 then .bad else .skip (closedF l 2) := by
          rw [HC.out] at h2 h3 ⊢
          rw [stepF, if_neg h1, if_neg h2, if_pos h3]
        have hle := closedF_le l 2 (by rw [HDL.out]; exact h2q)
        rw [HDL.out] at hle
        generalize closedF l 2 = m at hC hst hle
        have HCl := Lib.hid hC
        by_cases hm0 : m = 0
        · subst hm0
          rw [if_pos rfl] at hst
          have hR := HBad.out hst
          subst hR
          clear H3 h3 h2 h2f h1 h1f hC hst hx hle
          go_wp2_with fail
          refine (H1'.out _).mono ?_
          rintro e w1 ⟨rfl, rfl⟩
          go_wp2_with fail
          refine (H2'.out _).mono ?_
          rintro e w1 ⟨rfl, rfl⟩
          go_wp2_with fail
          refine (H3'.out _).mono ?_
          rintro e w1 ⟨rfl, rfl⟩
          go_wp2_with fail
          refine HCl.out.mono ?_
          rintro e w1 ⟨rfl, rfl⟩
          go_wp2_with fail
          try rw [Exit.noGoto_ret]
          go_ret2
          exact ⟨none, 0, 0, 2, [], rfl, OT.nil _ _ _, by rw [HA.out]; rfl, kw⟩
        · rw [if_neg hm0] at hst
          have hx2 := HSkip.out m hm0 hst
          have hml := hle.1
          rw [HS.out] at hml
          clear H3 h3 h2 h2f h1 h1f hC hst hx hle
          go_wp2_with fail
          refine (H1'.out _).mono ?_
          rintro e w1 ⟨rfl, rfl⟩
          go_wp2_with fail
          refine (H2'.out _).mono ?_
          rintro e w1 ⟨rfl, rfl⟩
          go_wp2_with fail
          refine (H3'.out _).mono ?_
          rintro e w1 ⟨rfl, rfl⟩
          go_wp2_with fail
          refine HCl.out.mono ?_
          rintro e w1 ⟨rfl, rfl⟩
          go_wp2_with fail
          go_roundw
          case rel => exact ⟨k + m, A, n, c, ts, by go_num, by omega, rfl, ho, by omega, hx2, kw⟩
          case measure => simp [intOf]; omega
      have h3f : isRemarkF l = false := by simpa using h3
      rw [h3f] at H3
      have H3' := Lib.hid H3
      clear H3
      have hFi := first_ok q b r' wr (by omega) (by rw [HRest.out]; exact HC.out) hL1
      unfold tokV at hFi
      rw [HRest.out] at hFi
      have HFi := Lib.hid hFi
      have hst : stepF l = match firstF l with | none => .bad | some (kd, t, m) => .tok kd t m := by
        rw [HC.out] at h2 h3 ⊢
        rw [stepF, if_neg h1, if_neg h2, if_neg h3]
        cases firstF (b :: r') <;> rfl
      have hfi : firstI l = (firstF l).map fun x => ((x.1 : Int), x.2.1, x.2.2) := rfl
      have hsizes := firstF_size (l := l)
      rw [hfi] at HFi
      rw [HDL.out, HS.out] at hsizes
      cases hff : firstF l with
      | none =>
        rw [hff] at hst HFi
        have hR := HBad.out hst
        subst hR
        clear h3 h3f h2 h2f h1 h1f hst hx hFi hfi hsizes
        go_wp2_with fail
        refine (H1'.out _).mono ?_
        rintro e w1 ⟨rfl, rfl⟩
        go_wp2_with fail
        refine (H2'.out _).mono ?_
        rintro e w1 ⟨rfl, rfl⟩
        go_wp2_with fail
        refine (H3'.out _).mono ?_
        rintro e w1 ⟨rfl, rfl⟩
        go_wp2_with fail
        refine HFi.out.mono ?_
        rintro e w1 ⟨k1, r1, n1, rfl, ⟨rfl, rfl, rfl⟩, b1⟩
        go_wp2_with fail
        try rw [Exit.noGoto_ret]
        go_ret2
        exact ⟨none, 0, 0, 2, [], rfl, OT.nil _ _ _, by rw [HA.out]; rfl, kp_alloc (kp_trans kw b1) _⟩
      | some x =>
        obtain ⟨kd, t, m⟩ := x
        rw [hff] at hst HFi
        obtain ⟨hm0, hml⟩ := hsizes kd t m hff
        have hx2 := HTok.out m kd t (by omega) hst
        have hmn : ¬ (m : Int) = 0 := by omega
        have hmb : ((m : Int) == 0) = false := by simp only [beq_eq_false_iff_ne, ne_eq]; exact hmn
        clear h3 h3f h2 h2f h1 h1f hst hx hFi hfi hsizes hff hmn
        go_wp2_with fail
        refine (H1'.out _).mono ?_
        rintro e w1 ⟨rfl, rfl⟩
        go_wp2_with fail
        refine (H2'.out _).mono ?_
        rintro e w1 ⟨rfl, rfl⟩
        go_wp2_with fail
        refine (H3'.out _).mono ?_
        rintro e w1 ⟨rfl, rfl⟩
        go_wp2_with fail
        refine HFi.out.mono ?_
        rintro e w1 ⟨k1, r1, n1, rfl, ⟨rfl, hr1, rfl⟩, b1⟩
        have ho1 := ho.next b1
        have kw1 := kp_trans kw b1
        have hsrc : ∀ X, Rd ((w1.alloc X).alloc (.cells #[.int .i64 (kd : Int), .string r1] 24)) (w1.heap.size + 1 + 1) (some ⟨w1.heap.size + 1, 0, none⟩) [.int .i64 (kd : Int), .string r1] := fun X => by
          have := Rd.new (w1.alloc X) 24 [.int .i64 (kd : Int), .string r1]
          simpa using this
        have HSRC := Lib.hid hsrc
        have hsw := kw1.size
        clear hsrc
        go_wp2_with (at_builtin; refine wpList_append_rds rfl _ _ _ rfl w.heap.size 24 i0 _ 2 24 Tryd.underlying22 hi hz0 hz1 hz2 rfl (by omega) _ n _ rfl ((ho1.own.alloc _).alloc _) _ _ _ _ [.int .i64 (kd : Int), .string r1] rfl rfl (HSRC.out _) (by simp [Value.oneCell']) (by unfold maxLen; omega) (by omega) (by simp; omega) ?_; intro v3 w3 hown3 hg3; obtain ⟨A3, c3, rfl, ho3⟩ := OT.push hown3)
        go_roundw
        case rel => exact ⟨k + n1, A3, n + 1, c3, ts ++ [⟨kd, r1⟩], by go_num, by omega, rfl, ho3, by omega, Lib.hid (by rw [hx2.out, saysT_append]; cases lexF (s.data.toList.drop (k + n1)) <;> simp [saysT, Tk.says, hr1]), (kp_alloc (kp_alloc kw1 _) _).trans (below_own_s ((ho1.own.alloc _).alloc _) hg3 (by simp; omega))⟩
        case measure => simp [intOf]; omega
    · obtain rfl : k = s.size := by omega
      have hR : R = some (saysT ts) := by rw [hx.out, List.drop_eq_nil_of_le (by rw [hlen.out]; exact Nat.le_refl _), lexF_nil]; simp
      subst hR
      clear hx
      go_wp2_with fail
      try rw [Exit.noGoto_ret]
      go_ret2
      exact ⟨A, n, c, 0, ts, rfl, ho, by rw [HA.out], kw⟩
end Go.Proofs.YtliadhpnkgpemaaDoor
