/-
  The document's layer 4: what stands between quotes; remarks and blanks: contracts.
-/
import Derived.Test.YtliadhpnkgpemaaDoorRfC
namespace Go.Proofs.YtliadhpnkgpemaaDoor
open Go.RowKit
set_option maxRecDepth 100000

/-- what stands between quotes, as a call answers it -/
def AnsB (x : Option (List UInt8 × Nat)) (i : Nat) (r : ByteArray) (n : Int) : Prop :=
  match x with
  | none => n = -1
  | some (t, m) => r.data.toList = t ∧ n = (i + 1 + m : Nat)

set_option maxHeartbeats 2000000 in
theorem between_ok (s : ByteArray) (i : Nat) (c : UInt8) (rest : List UInt8) (w : World) (hs : s.size ≤ 1000000) (hl : s.data.toList.drop i = c :: rest) :
    Calls Tryd.prog 70 #[.string s, .int .i64 (i : Int)] w fun e w' => ∃ r n, e = .returned (.tuple #[.string r, .int .i64 n]) ∧ AnsB (quotedF c rest) i r n ∧ Below w.heap.size w w' := by
  obtain ⟨i0, hi, hz0, hz1, hz2⟩ := info_parts byteinfo
  have hlen := Lib.hid (text_len s)
  have hil : i < s.size := by
    rcases Nat.lt_or_ge i s.size with h | h
    · exact h
    · rw [List.drop_eq_nil_of_le (by rw [text_len]; exact h)] at hl; cases hl
  have hc0 : s[i] = c := by
    rw [text_at s i hil]
    have e0 : (s.data.toList.drop i)[0]? = some c := by rw [hl]; rfl
    rw [List.getElem?_drop] at e0
    exact (List.getElem?_eq_some_iff.1 e0).2
  have hx : rest = s.data.toList.drop (i + 1) := by
    rw [← List.drop_drop, hl]; rfl
  subst hx
  generalize hR0 : quotedF c (s.data.toList.drop (i + 1)) = R
  have HR := Lib.hid hR0
  clear hR0 hl
  go_enter Tryd.func70, Tryd.ntmps70
  go_wp2
  go_loopw [1, 7] (fun v o wr => ∃ (k n : Nat) (A : Option Addr) (cp : Nat) (done : List UInt8), v = .int .i64 k ∧ i + 1 ≤ k ∧ k ≤ s.size ∧ n ≤ k ∧ o = .slice A n cp ∧ Ow wr w.heap.size A n cp done ∧ Hid (R = (quotedF c (s.data.toList.drop k)).map fun x => (done ++ x.1, x.2 + k - (i + 1))) ∧ Below w.heap.size w wr) (fun v _ _ => s.size - (intOf v).toNat)
  case atStart => exact ⟨i + 1, 0, _, _, [], by go_num, Nat.le_refl _, by omega, by omega, rfl, Ow.empty w, Lib.hid (by rw [HR.out]; cases R <;> simp), kp_new _ _⟩
  case round =>
    obtain ⟨k, n, A, cp, done, rfl, hk1, hks, hn, rfl, ho, hx, kw⟩ := hrel
    clear HR
    have hsw := kw.size
    by_cases hlt : k < s.size
    · have hkl : k < s.data.toList.length := by rw [hlen.out]; exact hlt
      have hb := text_at s k hlt
      have hd : s.data.toList.drop k = s.data.toList[k] :: s.data.toList.drop (k + 1) := List.drop_eq_getElem_cons hkl
      rw [hd] at hx
      generalize s.data.toList[k] = b at hb hd hx
      clear hd
      by_cases hbc : b = c
      · subst hbc
        by_cases h1 : k + 1 < s.size
        · have hb1 := text_at s (k + 1) h1
          have hd1 : s.data.toList.drop (k + 1) = s.data.toList[k + 1]'(by rw [hlen.out]; exact h1) :: s.data.toList.drop (k + 1 + 1) := List.drop_eq_getElem_cons _
          rw [hd1] at hx
          generalize s.data.toList[k + 1]'(by rw [hlen.out]; exact h1) = d at hb1 hd1 hx
          clear hd1
          by_cases hdb : d = b
          · subst hdb
            rw [quotedF_twice] at hx
            have hx2 : Hid (R = (quotedF d (s.data.toList.drop (k + 2))).map fun x => (done ++ [d] ++ x.1, x.2 + (k + 2) - (i + 1))) := Lib.hid (by
              rw [hx.out]
              cases quotedF d (s.data.toList.drop (k + 2)) <;> simp
              try omega)
            clear hx
            go_wp2_with (first
              | (at_builtin; refine wpList_append_rd rfl _ _ _ rfl w.heap.size 5 i0 _ 1 Tryd.underlying47 hi hz0 hz1 hz2 rfl _ n _ rfl (ho.own.alloc _) (wr.heap.size + 1) _ _ _ [_] rfl rfl (Rd.new _ _ _) (by simp [Value.oneCell']) (by unfold maxLen; omega) (by omega) (by simp; omega) ?_; intro v2 w2 hown2 hg2; obtain ⟨A2, c2, rfl, ho2⟩ := Ow.push hown2; have kw2 := (kp_alloc kw (.cells #[.int .u8 _] 5)).trans (below_own (ho.own.alloc _) hg2 (by simp; omega)); have hsw2 := kw2.size))
            go_roundw
            case rel => exact ⟨k + 2, n + 1, A2, c2, done ++ [d], by go_num, by omega, by omega, by omega, rfl, ho2, hx2, kw2⟩
            case measure => simp [intOf]; omega
          · have hR : R = some (done, k - i) := by rw [hx.out, quotedF_ends (by simpa using hdb)]; simp; omega
            subst hR
            have hdb2 := byte_eq_no hdb
            have hT := ho.text
            clear hx
            go_wp2_with fail
            go_ret2
            exact ⟨_, _, rfl, ⟨by simp, by omega⟩, kw⟩
        · have hR : R = some (done, k - i) := by rw [hx.out, List.drop_eq_nil_of_le (by rw [hlen.out]; omega), quotedF_ends (by simp)]; simp; omega
          subst hR
          have hT := ho.text
          clear hx
          go_wp2_with fail
          go_ret2
          exact ⟨_, _, rfl, ⟨by simp, by omega⟩, kw⟩
      · rw [quotedF_other hbc] at hx
        have hx2 : Hid (R = (quotedF c (s.data.toList.drop (k + 1))).map fun x => (done ++ [b] ++ x.1, x.2 + (k + 1) - (i + 1))) := Lib.hid (by
          rw [hx.out]
          cases quotedF c (s.data.toList.drop (k + 1)) <;> simp
          try omega)
        have hbc2 := byte_eq_no hbc
        clear hx
        go_wp2_with (first
          | (at_builtin; refine wpList_append_rd rfl _ _ _ rfl w.heap.size 5 i0 _ 1 Tryd.underlying47 hi hz0 hz1 hz2 rfl _ n _ rfl (ho.own.alloc _) (wr.heap.size + 1) _ _ _ [_] rfl rfl (Rd.new _ _ _) (by simp [Value.oneCell']) (by unfold maxLen; omega) (by omega) (by simp; omega) ?_; intro v2 w2 hown2 hg2; obtain ⟨A2, c2, rfl, ho2⟩ := Ow.push hown2; have kw2 := (kp_alloc kw (.cells #[.int .u8 _] 5)).trans (below_own (ho.own.alloc _) hg2 (by simp; omega)); have hsw2 := kw2.size))
        go_roundw
        case rel => exact ⟨k + 1, n + 1, A2, c2, done ++ [b], by go_num, by omega, by omega, by omega, rfl, ho2, hx2, kw2⟩
        case measure => simp [intOf]; omega
    · have hR : R = none := by rw [hx.out, List.drop_eq_nil_of_le (by rw [hlen.out]; omega)]; rfl
      subst hR
      clear hx
      go_wp2_with fail
      go_ret2
      exact ⟨⟨#[]⟩, -1, rfl, rfl, kw⟩

/-- a remark, or a blank: how many bytes; below 0: it doesn't end -/
def skipF : List UInt8 → Int
  | [] => 0
  | c :: r =>
    if blankF c then 1
    else if isRemarkF (c :: r) then (if closedF (c :: r) 2 = 0 then -1 else closedF (c :: r) 2)
    else if isLineF (c :: r) then lineF (c :: r)
    else 0
def skipA (l : List UInt8) (i : Nat) : Int := if skipF (l.drop i) < 0 then -1 else (i : Int) + skipF (l.drop i)

theorem index_byte (l : List UInt8) (q : UInt8) : Lib.index l [q] = Lib.indexByte l q := by
  induction l with
  | nil => rfl
  | cons b r ih =>
    unfold Lib.index Lib.indexByte
    rw [ih]
    by_cases h : b = q
    · subst h; simp
    · have h1 : ([q].isPrefixOf (b :: r)) = false := by
        rw [List.isPrefixOf]
        simp
        exact fun e => h e.symm
      have h2 : (b == q) = false := by simpa using h
      rw [h1, h2]

theorem beg_hash (c : UInt8) (r : List UInt8) : begF [35] (c :: r) = decide (c.toNat = 35) := by
  unfold begF Lib.hasPrefix
  rw [List.isPrefixOf, Bool.eq_iff_iff]
  simp
  constructor
  · rintro rfl; rfl
  · intro h
    exact UInt8.toNat_inj.1 (by rw [h]; rfl)

set_option maxHeartbeats 2000000 in
theorem skip_ok (s : ByteArray) (i : Nat) (c : UInt8) (r : List UInt8) (w : World) (hs : s.size ≤ 1000000) (hl : s.data.toList.drop i = c :: r) :
    Calls Tryd.prog 35 #[.string s, .int .i64 (i : Int)] w fun e w' => e = .returned (.int .i64 (skipA s.data.toList i)) ∧ Below w.heap.size w w' := by
  have hil : i < s.size := by
    rcases Nat.lt_or_ge i s.size with h | h
    · exact h
    · rw [List.drop_eq_nil_of_le (by rw [text_len]; exact h)] at hl; cases hl
  have hc0 : s[i] = c := by
    rw [text_at s i hil]
    have e0 : (s.data.toList.drop i)[0]? = some c := by rw [hl]; rfl
    rw [List.getElem?_drop] at e0
    exact (List.getElem?_eq_some_iff.1 e0).2
  have hrl : r.length + 1 = s.size - i := by
    have := congrArg List.length hl
    rw [List.length_drop, text_len] at this
    simpa using this.symm
  have hA : skipA s.data.toList i = if skipF (c :: r) < 0 then -1 else (i : Int) + skipF (c :: r) := by unfold skipA; rw [hl]
  have HL := Lib.hid hl
  have H1 := fun u => rblank_ok c u
  by_cases h1 : blankF c = true
  · have hF : skipA s.data.toList i = (i : Int) + 1 := by rw [hA, skipF, if_pos h1]; rfl
    rw [h1] at H1
    have H1' := Lib.hid H1
    have HF := Lib.hid hF
    clear H1 hF hA hl h1
    go_enter Tryd.func35, Tryd.ntmps35
    go_wp2_with fail
    refine (H1'.out _).mono ?_
    rintro e w1 ⟨rfl, rfl⟩
    go_wp2_with fail
    go_ret
    exact ⟨by rw [HF.out]; rfl, Below.refl _ _⟩
  have h1f : blankF c = false := by simpa using h1
  rw [h1f] at H1
  have H1' := Lib.hid H1
  clear H1
  have hP1 := fun u => rat_ok s ⟨#[47, 42]⟩ i u (by omega) hs (by decide) (by decide)
  have hP2 := fun u => rat_ok s ⟨#[47, 42, 43]⟩ i u (by omega) hs (by decide) (by decide)
  have hP3 := fun u => rat_ok s ⟨#[45, 45]⟩ i u (by omega) hs (by decide) (by decide)
  have hP4 := fun u => rat_ok s ⟨#[35]⟩ i u (by omega) hs (by decide) (by decide)
  rw [show (⟨#[47, 42]⟩ : ByteArray).data.toList = [47, 42] from rfl, hl] at hP1
  rw [show (⟨#[47, 42, 43]⟩ : ByteArray).data.toList = [47, 42, 43] from rfl, hl] at hP2
  rw [show (⟨#[45, 45]⟩ : ByteArray).data.toList = [45, 45] from rfl, hl] at hP3
  rw [show (⟨#[35]⟩ : ByteArray).data.toList = [35] from rfl, hl, beg_hash] at hP4
  by_cases h2 : isRemarkF (c :: r) = true
  · have h2a : begF [47, 42] (c :: r) = true ∧ begF [47, 42, 43] (c :: r) = false := by
      unfold isRemarkF at h2
      simpa using h2
    have h2l : 2 ≤ s.size - i := by
      have := (List.isPrefixOf_iff_prefix.1 h2a.1).length_le
      simp at this
      omega
    have hfi := rfind_ok s ⟨#[42, 47]⟩ (i + 2) w (by omega) hs (by decide) (by decide)
    rw [show (⟨#[42, 47]⟩ : ByteArray).data.toList = ends2 from rfl] at hfi
    rw [h2a.1] at hP1
    rw [h2a.2] at hP2
    have hge := Lib.index_ge (s.data.toList.drop (i + 2)) ends2
    have hroom : 0 ≤ Lib.index (s.data.toList.drop (i + 2)) ends2 → (Lib.index (s.data.toList.drop (i + 2)) ends2).toNat + 2 ≤ s.size - (i + 2) := fun h => by
      have := index_room h (by decide)
      rw [List.length_drop, text_len] at this
      exact this
    have hcl : closedF (c :: r) 2 = if Lib.index (s.data.toList.drop (i + 2)) ends2 < 0 then 0 else 2 + (Lib.index (s.data.toList.drop (i + 2)) ends2).toNat + 2 := by
      unfold closedF
      rw [← hl, List.drop_drop]
    have hff : findF s.data.toList ends2 (i + 2) = if Lib.index (s.data.toList.drop (i + 2)) ends2 < 0 then -1 else ((i + 2 : Nat) : Int) + Lib.index (s.data.toList.drop (i + 2)) ends2 := rfl
    have hsk : skipF (c :: r) = if closedF (c :: r) 2 = 0 then -1 else (closedF (c :: r) 2 : Int) := by rw [skipF, if_neg h1, if_pos h2]
    rw [hsk, hcl] at hA
    rw [hff] at hfi
    generalize Lib.index (s.data.toList.drop (i + 2)) ends2 = x at hge hroom hA hfi
    by_cases hx : x < 0
    · rw [if_pos hx] at hA hfi
      have HA := Lib.hid hA
      have HP1 := Lib.hid hP1
      have HP2 := Lib.hid hP2
      have HFi := Lib.hid hfi
      clear hA hP1 hP2 hP3 hP4 hfi hsk hcl hff h2 h2a h1 h1f hl
      go_enter Tryd.func35, Tryd.ntmps35
      go_wp2_with fail
      refine (H1'.out _).mono ?_
      rintro e w1 ⟨rfl, rfl⟩
      go_wp2_with fail
      refine (HP1.out _).mono ?_
      rintro e w1 ⟨rfl, rfl⟩
      go_wp2_with fail
      refine (HP2.out _).mono ?_
      rintro e w1 ⟨rfl, rfl⟩
      go_wp2_with fail
      refine HFi.out.mono ?_
      rintro e w1 ⟨rfl, rfl⟩
      go_wp2_with fail
      go_ret
      exact ⟨by rw [HA.out]; rfl, Below.refl _ _⟩
    · rw [if_neg hx] at hA hfi
      obtain ⟨m, rfl⟩ : ∃ m : Nat, x = m := ⟨x.toNat, by omega⟩
      have hr := hroom (by omega)
      rw [Int.toNat_natCast] at hr hA
      have hA2 : skipA s.data.toList i = ((i + 2 + m + 2 : Nat) : Int) := by
        rw [hA, if_neg (by omega), if_neg (by omega)]
        omega
      have HA := Lib.hid hA2
      have HP1 := Lib.hid hP1
      have HP2 := Lib.hid hP2
      have HFi := Lib.hid hfi
      clear hA hA2 hP1 hP2 hP3 hP4 hfi hsk hcl hff h2 h2a h1 h1f hl
      go_enter Tryd.func35, Tryd.ntmps35
      go_wp2_with fail
      refine (H1'.out _).mono ?_
      rintro e w1 ⟨rfl, rfl⟩
      go_wp2_with fail
      refine (HP1.out _).mono ?_
      rintro e w1 ⟨rfl, rfl⟩
      go_wp2_with fail
      refine (HP2.out _).mono ?_
      rintro e w1 ⟨rfl, rfl⟩
      go_wp2_with fail
      refine HFi.out.mono ?_
      rintro e w1 ⟨rfl, rfl⟩
      go_wp2_with fail
      go_ret
      exact ⟨by rw [HA.out]; simp, Below.refl _ _⟩
  have h2f : isRemarkF (c :: r) = false := by simpa using h2
  have hA3 : skipA s.data.toList i = if isLineF (c :: r) then (i : Int) + lineF (c :: r) else (i : Int) := by
    rw [hA, skipF, if_neg h1, if_neg h2]
    split
    · rw [if_neg (by omega)]
    · simp
  have hrem : isRemarkF (c :: r) = (begF [47, 42] (c :: r) && !begF [47, 42, 43] (c :: r)) := rfl
  rw [h2f] at hrem
  have hline : isLineF (c :: r) = (decide (c.toNat = 35) || begF [45, 45] (c :: r)) := rfl
  have hfi := fun u t (ht : t.data.toList = [10]) => rfind_ok s t i u (by omega) hs (by rw [← text_len, ht]; decide) (by rw [← text_len, ht]; decide)
  have hlf : lineF (c :: r) = if Lib.indexByte (c :: r) 10 < 0 then s.size - i else (Lib.indexByte (c :: r) 10).toNat := by unfold lineF; rw [List.length_cons, hrl]
  have hff : findF s.data.toList [10] i = if Lib.indexByte (c :: r) 10 < 0 then -1 else (i : Int) + Lib.indexByte (c :: r) 10 := by unfold findF; rw [hl, index_byte]
  have hge := indexByte_lt.indexByte_ge1 (c :: r) 10
  have hroom := fun h => indexByte_lt (l := c :: r) (c := 10) h
  rw [List.length_cons, hrl] at hroom
  rw [hlf] at hA3
  generalize Lib.indexByte (c :: r) 10 = x at hA3 hff hge hroom
  clear hA hlf h2 h2f h1 h1f
  generalize begF [47, 42] (c :: r) = a1 at hP1 hrem
  generalize begF [47, 42, 43] (c :: r) = a2 at hP2 hrem
  generalize begF [45, 45] (c :: r) = b1 at hP3 hline
  generalize decide (c.toNat = 35) = b2 at hP4 hline
  rw [hline] at hA3
  clear hline hl
  have HA := Lib.hid hA3
  have HP1 := Lib.hid hP1
  have HP2 := Lib.hid hP2
  have HP3 := Lib.hid hP3
  have HP4 := Lib.hid hP4
  have HFF := Lib.hid hff
  have HFi := Lib.hid hfi
  have hrem2 : a1 = false ∨ (a1 = true ∧ a2 = true) := by
    cases a1 <;> cases a2 <;> simp at hrem ⊢
  clear hA3 hP1 hP2 hP3 hP4 hff hfi hrem
  rcases hrem2 with rfl | ⟨rfl, rfl⟩
  focus
    go_enter Tryd.func35, Tryd.ntmps35
    go_wp2_with fail
    refine (H1'.out _).mono ?_
    rintro e w1 ⟨rfl, rfl⟩
    go_wp2_with fail
    refine (HP1.out _).mono ?_
    rintro e w1 ⟨rfl, rfl⟩
    go_wp2_with fail
  rotate_left
  focus
    go_enter Tryd.func35, Tryd.ntmps35
    go_wp2_with fail
    refine (H1'.out _).mono ?_
    rintro e w1 ⟨rfl, rfl⟩
    go_wp2_with fail
    refine (HP1.out _).mono ?_
    rintro e w1 ⟨rfl, rfl⟩
    go_wp2_with fail
    refine (HP2.out _).mono ?_
    rintro e w1 ⟨rfl, rfl⟩
    go_wp2_with fail
  all_goals
    refine (HP3.out _).mono ?_
    rintro e w1 ⟨rfl, rfl⟩
    have hT : (convert 47 9 (.slice (some ⟨w.heap.size, 0, none⟩) 1 1)).run Tryd.prog (w.alloc (.cells #[.int .u8 10] 5)) = .ok (.string ⟨#[10]⟩) (w.alloc (.cells #[.int .u8 10] 5)) := (Ow.new1 w w.heap.size (Nat.le_refl _) (.int .u8 10) 10 rfl).text
    have kw := kp_new w (.cells #[.int .u8 10] 5)
    have hF10 := HFi.out (w.alloc (.cells #[.int .u8 10] 5)) ⟨#[10]⟩ rfl
    rw [show (⟨#[10]⟩ : ByteArray).data.toList = [10] from rfl, HFF.out] at hF10
    have HF10 := Lib.hid hF10
    clear hF10
    by_cases hb : (b2 || b1) = true
    · rw [if_pos hb] at HA
      have hbb : b1 = true ∨ (b1 = false ∧ b2 = true) := by cases b1 <;> cases b2 <;> simp at hb ⊢
      by_cases hx : x < 0
      · rw [if_pos hx] at HA HF10
        have hsi : (i : Int) + ((s.size - i : Nat) : Int) = (s.size : Int) := by omega
        have HSI := Lib.hid hsi
        clear hsi
        rcases hbb with rfl | ⟨rfl, rfl⟩
        all_goals
          go_wp2_with (go_at_call 66; refine (HP4.out _).mono ?_; rintro e w1 ⟨rfl, rfl⟩)
          refine HF10.out.mono ?_
          rintro e w1 ⟨rfl, rfl⟩
          go_wp2_with fail
          go_ret
          exact ⟨by rw [HA.out, HSI.out]; rfl, kw⟩
      · rw [if_neg hx] at HA HF10
        obtain ⟨m, rfl⟩ : ∃ m : Nat, x = m := ⟨x.toNat, by omega⟩
        have hr := hroom (by omega)
        rw [Int.toNat_natCast] at hr
        have hxm : ¬ ((i : Int) + (m : Int)) < 0 := by omega
        rcases hbb with rfl | ⟨rfl, rfl⟩
        all_goals
          go_wp2_with (go_at_call 66; refine (HP4.out _).mono ?_; rintro e w1 ⟨rfl, rfl⟩)
          refine HF10.out.mono ?_
          rintro e w1 ⟨rfl, rfl⟩
          go_wp2_with fail
          go_ret
          exact ⟨by rw [HA.out]; rfl, kw⟩
    · rw [if_neg hb] at HA
      obtain ⟨rfl, rfl⟩ : b1 = false ∧ b2 = false := by cases b1 <;> cases b2 <;> simp at hb ⊢
      go_wp2_with fail
      refine (HP4.out _).mono ?_
      rintro e w1 ⟨rfl, rfl⟩
      go_wp2_with fail
      go_ret
      exact ⟨by rw [HA.out]; rfl, Below.refl _ _⟩
end Go.Proofs.YtliadhpnkgpemaaDoor
