/-
  Contracts and plain functions that the law stands on, part 3 of 24.
-/
import Derived.Test.YtdhnpmagapbmhaaGreatDoorQD2
import Derived.Shelf.Strings.MapGrows
import Derived.BigQuiet
import Derived.KernelRfl
namespace Go.Proofs.YtdhnpmagapbmhaaGreatDoor
/- The document's layer 4: what stands between quotes; remarks and blanks: contracts. -/
section
open Go.RowKit
set_option maxRecDepth 100000
def AnsB (x : Option (List UInt8 × Nat)) (i : Nat) (r : ByteArray) (n : Int) : Prop :=
 match x with
 | none => n = -1
 | some (t, m) => r.data.toList = t ∧ n = (i + 1 + m : Nat)
set_option maxHeartbeats 2000000 in
theorem between_ok (s : ByteArray) (i : Nat) (c : UInt8) (rest : List UInt8) (w : World) (hs : s.size ≤ 140737488351232) (hl : s.data.toList.drop i = c :: rest) :
 Calls Tryz.prog 166 #[.string s, .int .i64 (i : Int)] w fun e w' => ∃ r n, e = .returned (.tuple #[.string r, .int .i64 n]) ∧ AnsB (quotedF c rest) i r n ∧ Below w.heap.size w w' := by
 obtain ⟨i0, hi, hz0, hz1, hz2⟩ := info_parts byteinfo; have hlen := hid (text_len s)
 have hil : i < s.size := by
  rcases Nat.lt_or_ge i s.size with h | h
  · exact h
  · rw [List.drop_eq_nil_of_le (by rw [text_len]; exact h)] at hl; cases hl
 have hc0 : s[i] = c := by
  rw [text_at s i hil]; have e0 : (s.data.toList.drop i)[0]? = some c := by rw [hl]; rfl
  rw [List.getElem?_drop] at e0; exact (List.getElem?_eq_some_iff.1 e0).2
 have hx : rest = s.data.toList.drop (i + 1) := by
  rw [← List.drop_drop, hl]; rfl
 subst hx; generalize hR0 : quotedF c (s.data.toList.drop (i + 1)) = R; have HR := hid hR0; clear hR0 hl; go_enter Tryz.func166, Tryz.ntmps166
 go_wp2
 go_loopw [1, 7] (fun v o wr => ∃ (k n : Nat) (A : Option Addr) (cp : Nat) (done : List UInt8), v = .int .i64 k ∧ i + 1 ≤ k ∧ k ≤ s.size ∧ n ≤ k ∧ o = .slice A n cp ∧ Ow wr w.heap.size A n cp done ∧ Hid (R = (quotedF c (s.data.toList.drop k)).map fun x => (done ++ x.1, x.2 + k - (i + 1))) ∧ Below w.heap.size w wr) (fun v _ _ => s.size - (intOf v).toNat)
 case atStart => exact ⟨i + 1, 0, _, _, [], by go_num, Nat.le_refl _, by omega, by omega, rfl, Ow.empty w, hid (by rw [HR.out]; cases R <;> simp), kp_new _ _⟩
 case round =>
  obtain ⟨k, n, A, cp, done, rfl, hk1, hks, hn, rfl, ho, hx, kw⟩ := hrel; clear HR; have hsw := kw.size; by_cases hlt : k < s.size
  · have hkl : k < s.data.toList.length := by rw [hlen.out]; exact hlt
    have hb := text_at s k hlt; have hd : s.data.toList.drop k = s.data.toList[k] :: s.data.toList.drop (k + 1) := List.drop_eq_getElem_cons hkl; rw [hd] at hx; generalize s.data.toList[k] = b at hb hd hx; clear hd; by_cases hbc : b = c
    · subst hbc; by_cases h1 : k + 1 < s.size
      · have hb1 := text_at s (k + 1) h1; have hd1 : s.data.toList.drop (k + 1) = s.data.toList[k + 1]'(by rw [hlen.out]; exact h1) :: s.data.toList.drop (k + 1 + 1) := List.drop_eq_getElem_cons _; rw [hd1] at hx; generalize s.data.toList[k + 1]'(by rw [hlen.out]; exact h1) = d at hb1 hd1 hx; clear hd1; by_cases hdb : d = b
        · subst hdb; rw [quotedF_twice] at hx
          have hx2 : Hid (R = (quotedF d (s.data.toList.drop (k + 2))).map fun x => (done ++ [d] ++ x.1, x.2 + (k + 2) - (i + 1))) := hid (by
           rw [hx.out]; cases quotedF d (s.data.toList.drop (k + 2)) <;> simp
           try omega)
          clear hx
          go_wp2_with (first
           | (at_builtin; refine wpList_append_rd rfl _ _ _ rfl w.heap.size 5 i0 _ 1 Tryz.underlying193 hi hz0 hz1 hz2 rfl _ n _ rfl (ho.own.alloc _) (wr.heap.size + 1) _ _ _ [_] rfl rfl (Rd.new _ _ _) (by simp [Value.oneCell']) (by unfold maxLen; omega) (by omega) (by simp; omega) ?_; intro v2 w2 hown2 hg2; obtain ⟨A2, c2, rfl, ho2⟩ := Ow.push hown2; have kw2 := (kp_alloc kw (.cells #[.int .u8 _] 5)).trans (below_own (ho.own.alloc _) hg2 (by simp; omega)); have hsw2 := kw2.size))
          go_roundw
          case rel => exact ⟨k + 2, n + 1, A2, c2, done ++ [d], by go_num, by omega, by omega, by omega, rfl, ho2, hx2, kw2⟩
          case measure => simp [intOf]; omega
        · have hR : R = some (done, k - i) := by rw [hx.out, quotedF_ends (by simpa using hdb)]; simp; omega
          subst hR; have hdb2 := byte_eq_no hdb; have hT := ho.text; clear hx; go_wp2_with fail; go_ret2; exact ⟨_, _, rfl, ⟨by simp, by omega⟩, kw⟩
      · have hR : R = some (done, k - i) := by rw [hx.out, List.drop_eq_nil_of_le (by rw [hlen.out]; omega), quotedF_ends (by simp)]; simp; omega
        subst hR; have hT := ho.text; clear hx; go_wp2_with fail; go_ret2; exact ⟨_, _, rfl, ⟨by simp, by omega⟩, kw⟩
    · rw [quotedF_other hbc] at hx
      have hx2 : Hid (R = (quotedF c (s.data.toList.drop (k + 1))).map fun x => (done ++ [b] ++ x.1, x.2 + (k + 1) - (i + 1))) := hid (by
       rw [hx.out]; cases quotedF c (s.data.toList.drop (k + 1)) <;> simp
       try omega)
      have hbc2 := byte_eq_no hbc; clear hx
      go_wp2_with (first
       | (at_builtin; refine wpList_append_rd rfl _ _ _ rfl w.heap.size 5 i0 _ 1 Tryz.underlying193 hi hz0 hz1 hz2 rfl _ n _ rfl (ho.own.alloc _) (wr.heap.size + 1) _ _ _ [_] rfl rfl (Rd.new _ _ _) (by simp [Value.oneCell']) (by unfold maxLen; omega) (by omega) (by simp; omega) ?_; intro v2 w2 hown2 hg2; obtain ⟨A2, c2, rfl, ho2⟩ := Ow.push hown2; have kw2 := (kp_alloc kw (.cells #[.int .u8 _] 5)).trans (below_own (ho.own.alloc _) hg2 (by simp; omega)); have hsw2 := kw2.size))
      go_roundw
      case rel => exact ⟨k + 1, n + 1, A2, c2, done ++ [b], by go_num, by omega, by omega, by omega, rfl, ho2, hx2, kw2⟩
      case measure => simp [intOf]; omega
  · have hR : R = none := by rw [hx.out, List.drop_eq_nil_of_le (by rw [hlen.out]; omega)]; rfl
    subst hR; clear hx; go_wp2_with fail; go_ret2; exact ⟨⟨#[]⟩, -1, rfl, rfl, kw⟩
def skipF : List UInt8 → Int
 | [] => 0
 | c :: r =>
   if blankF c then 1
   else if isRemarkF (c :: r) then (if closedF (c :: r) 2 = 0 then -1 else closedF (c :: r) 2)
   else if isLineF (c :: r) then lineF (c :: r)
   else 0
def skipA (l : List UInt8) (i : Nat) : Int := if skipF (l.drop i) < 0 then -1 else (i : Int) + skipF (l.drop i)
theorem index_byte (l : List UInt8) (q : UInt8) : Lib.index l [q] = Lib.indexByte l q := by
 induction l with
 | nil => rfl
 | cons b r ih =>
   unfold Lib.index Lib.indexByte; rw [ih]; by_cases h : b = q
   · subst h; simp
   · have h1 : ([q].isPrefixOf (b :: r)) = false := by
      rw [List.isPrefixOf]; simp; exact fun e => h e.symm
     have h2 : (b == q) = false := by simpa using h
     rw [h1, h2]
theorem beg_hash (c : UInt8) (r : List UInt8) : begF [35] (c :: r) = decide (c.toNat = 35) := by
 unfold begF Lib.hasPrefix; rw [List.isPrefixOf, Bool.eq_iff_iff]; simp; constructor
 · rintro rfl; rfl
 · intro h; exact UInt8.toNat_inj.1 (by rw [h]; rfl)
set_option maxHeartbeats 2000000 in
theorem skip_ok (s : ByteArray) (i : Nat) (c : UInt8) (r : List UInt8) (w : World) (hs : s.size ≤ 140737488351232) (hl : s.data.toList.drop i = c :: r) :
 Calls Tryz.prog 132 #[.string s, .int .i64 (i : Int)] w fun e w' => e = .returned (.int .i64 (skipA s.data.toList i)) ∧ Below w.heap.size w w' := by
 have hil : i < s.size := by
  rcases Nat.lt_or_ge i s.size with h | h
  · exact h
  · rw [List.drop_eq_nil_of_le (by rw [text_len]; exact h)] at hl; cases hl
 have hc0 : s[i] = c := by
  rw [text_at s i hil]; have e0 : (s.data.toList.drop i)[0]? = some c := by rw [hl]; rfl
  rw [List.getElem?_drop] at e0; exact (List.getElem?_eq_some_iff.1 e0).2
 have hrl : r.length + 1 = s.size - i := by
  have := congrArg List.length hl; rw [List.length_drop, text_len] at this; simpa using this.symm
 have hA : skipA s.data.toList i = if skipF (c :: r) < 0 then -1 else (i : Int) + skipF (c :: r) := by unfold skipA; rw [hl]
 have HL := hid hl; have H1 := fun u => rblank_ok c u; by_cases h1 : blankF c = true
 · have hF : skipA s.data.toList i = (i : Int) + 1 := by rw [hA, skipF, if_pos h1]; rfl
   rw [h1] at H1; have H1' := hid H1; have HF := hid hF; clear H1 hF hA hl h1; go_enter Tryz.func132, Tryz.ntmps132; go_wp2_with fail; refine (H1'.out _).mono ?_; rintro e w1 ⟨rfl, rfl⟩; go_wp2_with fail; go_ret; exact ⟨by rw [HF.out]; rfl, Below.refl _ _⟩
 have h1f : blankF c = false := by simpa using h1
 rw [h1f] at H1; have H1' := hid H1; clear H1; have hP1 := fun u => rat_ok s ⟨#[47, 42]⟩ i u (by omega) hs (by decide) (by decide); have hP2 := fun u => rat_ok s ⟨#[47, 42, 43]⟩ i u (by omega) hs (by decide) (by decide); have hP3 := fun u => rat_ok s ⟨#[45, 45]⟩ i u (by omega) hs (by decide) (by decide); have hP4 := fun u => rat_ok s ⟨#[35]⟩ i u (by omega) hs (by decide) (by decide); rw [show (⟨#[47, 42]⟩ : ByteArray).data.toList = [47, 42] from rfl, hl] at hP1; rw [show (⟨#[47, 42, 43]⟩ : ByteArray).data.toList = [47, 42, 43] from rfl, hl] at hP2; rw [show (⟨#[45, 45]⟩ : ByteArray).data.toList = [45, 45] from rfl, hl] at hP3; rw [show (⟨#[35]⟩ : ByteArray).data.toList = [35] from rfl, hl, beg_hash] at hP4; by_cases h2 : isRemarkF (c :: r) = true
 · have h2a : begF [47, 42] (c :: r) = true ∧ begF [47, 42, 43] (c :: r) = false := by
    unfold isRemarkF at h2; simpa using h2
   have h2l : 2 ≤ s.size - i := by
    have := (List.isPrefixOf_iff_prefix.1 h2a.1).length_le; simp at this
    omega
   have hfi := rfind_ok s ⟨#[42, 47]⟩ (i + 2) w (by omega) hs (by decide) (by decide); rw [show (⟨#[42, 47]⟩ : ByteArray).data.toList = ends2 from rfl] at hfi; rw [h2a.1] at hP1; rw [h2a.2] at hP2; have hge := Lib.index_ge (s.data.toList.drop (i + 2)) ends2
   have hroom : 0 ≤ Lib.index (s.data.toList.drop (i + 2)) ends2 → (Lib.index (s.data.toList.drop (i + 2)) ends2).toNat + 2 ≤ s.size - (i + 2) := fun h => by
    have := index_room h (by decide); rw [List.length_drop, text_len] at this; exact this
   have hcl : closedF (c :: r) 2 = if Lib.index (s.data.toList.drop (i + 2)) ends2 < 0 then 0 else 2 + (Lib.index (s.data.toList.drop (i + 2)) ends2).toNat + 2 := by
    unfold closedF; rw [← hl, List.drop_drop]
   have hff : findF s.data.toList ends2 (i + 2) = if Lib.index (s.data.toList.drop (i + 2)) ends2 < 0 then -1 else ((i + 2 : Nat) : Int) + Lib.index (s.data.toList.drop (i + 2)) ends2 := rfl; have hsk : skipF (c :: r) = if closedF (c :: r) 2 = 0 then -1 else (closedF (c :: r) 2 : Int) := by rw [skipF, if_neg h1, if_pos h2]
   rw [hsk, hcl] at hA; rw [hff] at hfi; generalize Lib.index (s.data.toList.drop (i + 2)) ends2 = x at hge hroom hA hfi; by_cases hx : x < 0
   · rw [if_pos hx] at hA hfi; have HA := hid hA; have HP1 := hid hP1; have HP2 := hid hP2; have HFi := hid hfi; clear hA hP1 hP2 hP3 hP4 hfi hsk hcl hff h2 h2a h1 h1f hl; go_enter Tryz.func132, Tryz.ntmps132; go_wp2_with fail; refine (H1'.out _).mono ?_; rintro e w1 ⟨rfl, rfl⟩; go_wp2_with fail; refine (HP1.out _).mono ?_; rintro e w1 ⟨rfl, rfl⟩; go_wp2_with fail; refine (HP2.out _).mono ?_; rintro e w1 ⟨rfl, rfl⟩; go_wp2_with fail; refine HFi.out.mono ?_; rintro e w1 ⟨rfl, rfl⟩; go_wp2_with fail; go_ret; exact ⟨by rw [HA.out]; rfl, Below.refl _ _⟩
   · rw [if_neg hx] at hA hfi; obtain ⟨m, rfl⟩ : ∃ m : Nat, x = m := ⟨x.toNat, by omega⟩; have hr := hroom (by omega); rw [Int.toNat_natCast] at hr hA
     have hA2 : skipA s.data.toList i = ((i + 2 + m + 2 : Nat) : Int) := by
      rw [hA, if_neg (by omega), if_neg (by omega)]; omega
     have HA := hid hA2; have HP1 := hid hP1; have HP2 := hid hP2; have HFi := hid hfi; clear hA hA2 hP1 hP2 hP3 hP4 hfi hsk hcl hff h2 h2a h1 h1f hl; go_enter Tryz.func132, Tryz.ntmps132; go_wp2_with fail; refine (H1'.out _).mono ?_; rintro e w1 ⟨rfl, rfl⟩; go_wp2_with fail; refine (HP1.out _).mono ?_; rintro e w1 ⟨rfl, rfl⟩; go_wp2_with fail; refine (HP2.out _).mono ?_; rintro e w1 ⟨rfl, rfl⟩; go_wp2_with fail; refine HFi.out.mono ?_; rintro e w1 ⟨rfl, rfl⟩; go_wp2_with fail; go_ret; exact ⟨by rw [HA.out]; simp, Below.refl _ _⟩
 have h2f : isRemarkF (c :: r) = false := by simpa using h2
 have hA3 : skipA s.data.toList i = if isLineF (c :: r) then (i : Int) + lineF (c :: r) else (i : Int) := by
  rw [hA, skipF, if_neg h1, if_neg h2]; split
  · rw [if_neg (by omega)]
  · simp
 have hrem : isRemarkF (c :: r) = (begF [47, 42] (c :: r) && !begF [47, 42, 43] (c :: r)) := rfl; rw [h2f] at hrem; have hline : isLineF (c :: r) = (decide (c.toNat = 35) || begF [45, 45] (c :: r)) := rfl; have hfi := fun u t (ht : t.data.toList = [10]) => rfind_ok s t i u (by omega) hs (by rw [← text_len, ht]; decide) (by rw [← text_len, ht]; decide); have hlf : lineF (c :: r) = if Lib.indexByte (c :: r) 10 < 0 then s.size - i else (Lib.indexByte (c :: r) 10).toNat := by unfold lineF; rw [List.length_cons, hrl]
 have hff : findF s.data.toList [10] i = if Lib.indexByte (c :: r) 10 < 0 then -1 else (i : Int) + Lib.indexByte (c :: r) 10 := by unfold findF; rw [hl, index_byte]
 have hge := indexByte_lt.indexByte_ge1 (c :: r) 10; have hroom := fun h => indexByte_lt (l := c :: r) (c := 10) h; rw [List.length_cons, hrl] at hroom; rw [hlf] at hA3; generalize Lib.indexByte (c :: r) 10 = x at hA3 hff hge hroom; clear hA hlf h2 h2f h1 h1f; generalize begF [47, 42] (c :: r) = a1 at hP1 hrem; generalize begF [47, 42, 43] (c :: r) = a2 at hP2 hrem; generalize begF [45, 45] (c :: r) = b1 at hP3 hline; generalize decide (c.toNat = 35) = b2 at hP4 hline; rw [hline] at hA3; clear hline hl; have HA := hid hA3; have HP1 := hid hP1; have HP2 := hid hP2; have HP3 := hid hP3; have HP4 := hid hP4; have HFF := hid hff; have HFi := hid hfi
 have hrem2 : a1 = false ∨ (a1 = true ∧ a2 = true) := by
  cases a1 <;> cases a2 <;> simp at hrem ⊢
 clear hA3 hP1 hP2 hP3 hP4 hff hfi hrem; rcases hrem2 with rfl | ⟨rfl, rfl⟩
 focus
  go_enter Tryz.func132, Tryz.ntmps132; go_wp2_with fail; refine (H1'.out _).mono ?_; rintro e w1 ⟨rfl, rfl⟩; go_wp2_with fail; refine (HP1.out _).mono ?_; rintro e w1 ⟨rfl, rfl⟩; go_wp2_with fail
 rotate_left
 focus
  go_enter Tryz.func132, Tryz.ntmps132; go_wp2_with fail; refine (H1'.out _).mono ?_; rintro e w1 ⟨rfl, rfl⟩; go_wp2_with fail; refine (HP1.out _).mono ?_; rintro e w1 ⟨rfl, rfl⟩; go_wp2_with fail; refine (HP2.out _).mono ?_; rintro e w1 ⟨rfl, rfl⟩; go_wp2_with fail
 all_goals
  refine (HP3.out _).mono ?_; rintro e w1 ⟨rfl, rfl⟩; have hT : (convert 193 9 (.slice (some ⟨w.heap.size, 0, none⟩) 1 1)).run Tryz.prog (w.alloc (.cells #[.int .u8 10] 5)) = .ok (.string ⟨#[10]⟩) (w.alloc (.cells #[.int .u8 10] 5)) := (Ow.new1 w w.heap.size (Nat.le_refl _) (.int .u8 10) 10 rfl).text; have kw := kp_new w (.cells #[.int .u8 10] 5); have hF10 := HFi.out (w.alloc (.cells #[.int .u8 10] 5)) ⟨#[10]⟩ rfl; rw [show (⟨#[10]⟩ : ByteArray).data.toList = [10] from rfl, HFF.out] at hF10; have HF10 := hid hF10; clear hF10; by_cases hb : (b2 || b1) = true
  · rw [if_pos hb] at HA; have hbb : b1 = true ∨ (b1 = false ∧ b2 = true) := by cases b1 <;> cases b2 <;> simp at hb ⊢
    by_cases hx : x < 0
    · rw [if_pos hx] at HA HF10; have hsi : (i : Int) + ((s.size - i : Nat) : Int) = (s.size : Int) := by omega
      have HSI := hid hsi; clear hsi; rcases hbb with rfl | ⟨rfl, rfl⟩
      all_goals
       go_wp2_with (go_at_call 160; refine (HP4.out _).mono ?_; rintro e w1 ⟨rfl, rfl⟩); refine HF10.out.mono ?_; rintro e w1 ⟨rfl, rfl⟩; go_wp2_with fail; go_ret; exact ⟨by rw [HA.out, HSI.out]; rfl, kw⟩
    · rw [if_neg hx] at HA HF10; obtain ⟨m, rfl⟩ : ∃ m : Nat, x = m := ⟨x.toNat, by omega⟩; have hr := hroom (by omega); rw [Int.toNat_natCast] at hr; have hxm : ¬ ((i : Int) + (m : Int)) < 0 := by omega
      rcases hbb with rfl | ⟨rfl, rfl⟩
      all_goals
       go_wp2_with (go_at_call 160; refine (HP4.out _).mono ?_; rintro e w1 ⟨rfl, rfl⟩); refine HF10.out.mono ?_; rintro e w1 ⟨rfl, rfl⟩; go_wp2_with fail; go_ret; exact ⟨by rw [HA.out]; rfl, kw⟩
  · rw [if_neg hb] at HA; obtain ⟨rfl, rfl⟩ : b1 = false ∧ b2 = false := by cases b1 <;> cases b2 <;> simp at hb ⊢
    go_wp2_with fail; refine (HP4.out _).mono ?_; rintro e w1 ⟨rfl, rfl⟩; go_wp2_with fail; go_ret; exact ⟨by rw [HA.out]; rfl, Below.refl _ _⟩
end

/- The document's layer 4: the token at a place: contract. -/
section
open Go.RowKit
set_option maxRecDepth 100000
def rtokF : List UInt8 → Option (Int × List UInt8 × Nat)
 | [] => none
 | c :: r =>
   if begF [47, 42, 43] (c :: r) then (hintF (c :: r)).map fun x => (5, x.1, x.2)
   else if letterF c then some (1, greatF ((c :: r).take (runF lodF (c :: r))), runF lodF (c :: r))
   else if digitF c then some (4, (c :: r).take (runF digitF (c :: r)), runF digitF (c :: r))
   else if c.toNat = 34 ∨ c.toNat = 96 then (quotedF c r).map fun x => (2, x.1, x.2 + 1)
   else if c.toNat = 39 then (quotedF c r).map fun x => (3, x.1, x.2 + 1)
   else if 33 ≤ c.toNat ∧ c.toNat ≤ 126 then some (6, [c], 1)
   else none
def AnsT (x : Option (Int × List UInt8 × Nat)) (i : Nat) (k : Int) (r : ByteArray) (n : Int) : Prop :=
 match x with
 | none => n = -1
 | some (k', t, m) => k = k' ∧ r.data.toList = t ∧ n = (i + m : Nat)
def TokTo (s : ByteArray) (i : Nat) (w : World) (x : Option (Int × List UInt8 × Nat)) : Prop :=
 Calls Tryz.prog 133 #[.string s, .int .i64 (i : Int)] w fun e w' => ∃ k r n, e = .returned (.tuple #[tokV k r, .int .i64 n]) ∧ AnsT x i k r n ∧ Below w.heap.size w w'
theorem place {s : ByteArray} {i : Nat} {c : UInt8} {r : List UInt8} (hl : s.data.toList.drop i = c :: r) : ∃ h : i < s.size, s[i] = c := by
 have hil : i < s.size := by
  rcases Nat.lt_or_ge i s.size with h | h
  · exact h
  · rw [List.drop_eq_nil_of_le (by rw [text_len]; exact h)] at hl; cases hl
 refine ⟨hil, ?_⟩; rw [text_at s i hil]; have e0 : (s.data.toList.drop i)[0]? = some c := by rw [hl]; rfl
 rw [List.getElem?_drop] at e0; exact (List.getElem?_eq_some_iff.1 e0).2
theorem tok_block (w : World) : (w.alloc (.cells #[.int .i64 0, .string ⟨#[]⟩] 182)).heap[w.heap.size]? = some (.cells #[.int .i64 0, .string ⟨#[]⟩] 182 (0, 0)) ∧ w.heap.size < (w.alloc (.cells #[.int .i64 0, .string ⟨#[]⟩] 182)).heap.size ∧ Below w.heap.size w (w.alloc (.cells #[.int .i64 0, .string ⟨#[]⟩] 182)) :=
 ⟨heap_alloc_new w _, by simp, kp_new w _⟩
set_option maxHeartbeats 1000000 in
theorem rhint_ok (s : ByteArray) (i : Nat) (c : UInt8) (r : List UInt8) (w : World) (hs : s.size ≤ 140737488351232) (hl : s.data.toList.drop i = c :: r) (h1 : begF [47, 42, 43] (c :: r) = true) :
 TokTo s i w ((hintF (c :: r)).map fun x => (5, x.1, x.2)) := by
 unfold TokTo tokV; obtain ⟨hil, hc0⟩ := place hl; obtain ⟨hB, hz, kw⟩ := tok_block w
 have h3 : 3 ≤ s.size - i := by
  have h3 := (List.isPrefixOf_iff_prefix.1 h1).length_le; have := congrArg List.length hl; rw [List.length_drop, text_len] at this; rw [this]; simpa using h3
 have hP := fun u => rat_ok s ⟨#[47, 42, 43]⟩ i u (by omega) hs (by decide) (by decide); rw [show (⟨#[47, 42, 43]⟩ : ByteArray).data.toList = [47, 42, 43] from rfl, hl, h1] at hP; have hfi := fun u => rfind_ok s ⟨#[42, 47]⟩ (i + 3) u (by omega) hs (by decide) (by decide); rw [show (⟨#[42, 47]⟩ : ByteArray).data.toList = ends2 from rfl, show findF s.data.toList ends2 (i + 3) = if Lib.index (s.data.toList.drop (i + 3)) ends2 < 0 then -1 else ((i + 3 : Nat) : Int) + Lib.index (s.data.toList.drop (i + 3)) ends2 from rfl] at hfi
 have hroom : 0 ≤ Lib.index (s.data.toList.drop (i + 3)) ends2 → (Lib.index (s.data.toList.drop (i + 3)) ends2).toNat + 2 ≤ s.size - (i + 3) := fun h => by
  have := index_room h (by decide); rw [List.length_drop, text_len] at this; exact this
 have hcl : closedF (c :: r) 3 = if Lib.index (s.data.toList.drop (i + 3)) ends2 < 0 then 0 else 3 + (Lib.index (s.data.toList.drop (i + 3)) ends2).toNat + 2 := by
  unfold closedF; rw [← hl, List.drop_drop]
 have hH : hintF (c :: r) = if closedF (c :: r) 3 = 0 then none else some (trimF (((c :: r).take (closedF (c :: r) 3 - 2)).drop 3), closedF (c :: r) 3) := rfl; rw [hcl] at hH; have htk : ∀ m, ((c :: r).take (3 + m)).drop 3 = (s.data.toList.drop (i + 3)).take m := fun m => by rw [List.drop_take, ← hl, List.drop_drop, Nat.add_sub_cancel_left]
 have HB := hid hB; have HZ := hid hz; have HP := hid hP; generalize Lib.index (s.data.toList.drop (i + 3)) ends2 = x at hfi hroom hH; clear hB hz hP hcl; by_cases hx : x < 0
 · rw [if_pos hx] at hH hfi; rw [hH]; have HFi := hid hfi; clear hH hfi hl htk hroom; go_enter Tryz.func133, Tryz.ntmps133; go_wp2_with fail; refine (HP.out _).mono ?_; rintro e w1 ⟨rfl, rfl⟩; go_wp2_with fail; refine (HFi.out _).mono ?_; rintro e w1 ⟨rfl, rfl⟩; obtain ⟨x0, x1, f0, f1⟩ := cells2 HB.out; go_wp2_with fail; refine bodyPost_ret (v := .tuple #[.agg #[.int .i64 0, .string ⟨#[]⟩], .int .i64 (-1)]) ?_ rfl ⟨0, ⟨#[]⟩, -1, rfl, rfl, ?_⟩
   · rw [results_cell_tmp rfl]; go_simp
   · first | exact kw | exact ((kw.setCell (Nat.le_refl _) _).setCell (Nat.le_refl _) _)
 · rw [if_neg hx] at hfi hH; obtain ⟨m, rfl⟩ : ∃ m : Nat, x = m := ⟨x.toNat, by omega⟩; have hr := hroom (by omega); rw [Int.toNat_natCast] at hr hH; rw [if_neg (by omega), show 3 + m + 2 - 2 = 3 + m from by omega, htk] at hH; have hT := fun u => rtrim_ok (s.extract (i + 3) (i + 3 + m)) u (by rw [ByteArray.size_extract]; omega); rw [text_cut, show i + 3 + m - (i + 3) = m from by omega] at hT; rw [hH]; have HFi := hid hfi; have HT := hid hT; have e1 : ((i : Int) + 3).toNat = i + 3 := by omega
   have e2 : ((i : Int) + 3 + (m : Int)).toNat = i + 3 + m := by omega
   have e3 : ¬ ((i : Int) + 3 + (m : Int)) < 0 := by omega
   clear hH hfi hl htk hroom hT; go_enter Tryz.func133, Tryz.ntmps133; go_wp2_with fail; refine (HP.out _).mono ?_; rintro e w1 ⟨rfl, rfl⟩; go_wp2_with fail; refine (HFi.out _).mono ?_; rintro e w1 ⟨rfl, rfl⟩; go_wp2_with fail; refine (HT.out _).mono ?_; rintro e w1 ⟨rr, rfl, hrr, rfl⟩; obtain ⟨x0, x1, f0, f1⟩ := cells2 HB.out; go_wp2_with fail; refine bodyPost_ret (v := .tuple #[.agg #[.int .i64 5, .string rr], .int .i64 ((i + (3 + m + 2) : Nat) : Int)]) ?_ rfl ⟨5, rr, _, rfl, ⟨rfl, hrr, rfl⟩, ?_⟩
   · rw [results_cell_tmp rfl]; go_simp
     try omega
   · first | exact kw | exact ((kw.setCell (Nat.le_refl _) _).setCell (Nat.le_refl _) _) | exact kp_new _ _
end

/- The document's layer 4: the token at a place, words and numbers and signs: contracts. -/
section
open Go.RowKit
set_option maxRecDepth 100000
theorem runF_at {p : UInt8 → Bool} {l : List UInt8} {k : Nat} (h : k < l.length) : runF p (l.drop k) = if p l[k] then runF p (l.drop (k + 1)) + 1 else 0 := by
 rw [List.drop_eq_getElem_cons h, runF]
set_option maxHeartbeats 2000000 in
theorem rword_ok (s : ByteArray) (i : Nat) (c : UInt8) (r : List UInt8) (w : World) (hs : s.size ≤ 140737488351232) (hl : s.data.toList.drop i = c :: r) (h1 : begF [47, 42, 43] (c :: r) = false) (h2 : letterF c = true) :
 TokTo s i w (some (1, greatF ((c :: r).take (runF lodF (c :: r))), runF lodF (c :: r))) := by
 unfold TokTo tokV; obtain ⟨hil, hc0⟩ := place hl; obtain ⟨hB, hz, kw⟩ := tok_block w; have hP := fun u => rat_ok s ⟨#[47, 42, 43]⟩ i u (by omega) hs (by decide) (by decide); rw [show (⟨#[47, 42, 43]⟩ : ByteArray).data.toList = [47, 42, 43] from rfl, hl, h1] at hP; have H2 := fun u => rletter_ok c u; rw [h2] at H2; have hlen := hid (text_len s); have hle := runF_le lodF (c :: r); have hrl : (c :: r).length = s.size - i := by rw [← hl, List.length_drop, text_len]
 rw [hrl] at hle; have htk : ∀ m, (s.extract i (i + m)).data.toList = (c :: r).take m := fun m => by rw [text_cut, hl, Nat.add_sub_cancel_left]
 have hR : runF lodF (c :: r) = runF lodF (s.data.toList.drop i) := by rw [hl]
 generalize runF lodF (c :: r) = R at hR hle ⊢; have HR := hid hR; have HB := hid hB; have HZ := hid hz; have HP := hid hP; have H2' := hid H2; have HTK := hid htk; clear hB hz hP H2 h1 h2 hrl htk hR hl; go_enter Tryz.func133, Tryz.ntmps133; go_wp2_with fail; refine (HP.out _).mono ?_; rintro e w1 ⟨rfl, rfl⟩; go_wp2_with fail; refine (H2'.out _).mono ?_; rintro e w1 ⟨rfl, rfl⟩; go_wp2_with fail
 go_loop [8] (fun v => ∃ k : Nat, v = .int .i64 k ∧ i ≤ k ∧ k ≤ s.size ∧ Hid (R = (k - i) + runF lodF (s.data.toList.drop k))) (fun v => s.size - (intOf v).toNat)
 case atStart => exact ⟨i, rfl, Nat.le_refl _, by omega, hid (by rw [HR.out]; omega)⟩
 case round =>
  obtain ⟨k, rfl, hk, hks, hx⟩ := hrel; clear HR
  have hcase : (k < s.size ∧ R ≠ k - i) ∨ R = k - i := by
   by_cases h : R = k - i
   · exact .inr h
   · refine .inl ⟨?_, h⟩; rcases Nat.lt_or_ge k s.size with h3 | h3
     · exact h3
     · exfalso; apply h; rw [hx.out, List.drop_eq_nil_of_le (by rw [hlen.out]; exact h3)]; rfl
  by_cases hlt : k < s.size
  · have hb := text_at s k hlt; have hkl : k < s.data.toList.length := by rw [hlen.out]; exact hlt
    have hstep := runF_at (p := lodF) hkl; rw [hstep] at hx; generalize s.data.toList[k] = b at hb hx hstep; clear hstep; have hL := fun u => rletter_ok b u; have hD := fun u => rdigit_ok b u; cases hlo : letterF b
    · rw [hlo] at hL; cases hdi : digitF b
      · rw [hdi] at hD
        have hR2 : R = k - i := by
         rw [hx.out, if_neg (by simp [lodF, hlo, hdi])]; rfl
        subst hR2; have HL := hid hL; have HD := hid hD; have ek : i + (k - i) = k := by omega
        have hG := fun u => word_ok (s.extract i k) u (by rw [ByteArray.size_extract]; omega); have ht := HTK.out (k - i); rw [ek] at ht; rw [ht] at hG; have HG := hid hG; have HE := hid ek; clear hL hD hlo hdi hx hG ht ek hcase; go_wp2_with fail; refine (HL.out _).mono ?_; rintro e w1 ⟨rfl, rfl⟩; go_wp2_with fail; refine (HD.out _).mono ?_; rintro e w1 ⟨rfl, rfl⟩; go_wp2_with fail; refine (HG.out _).mono ?_; rintro e w2 ⟨rr, rfl, hrr, k2⟩; obtain ⟨x0, x1, f0, f1⟩ := cells2 ((k2.block _ HZ.out).trans HB.out); go_wp2_with fail; refine bodyPost_ret (v := .tuple #[.agg #[.int .i64 1, .string rr], .int .i64 (k : Int)]) ?_ rfl ⟨1, rr, _, rfl, ⟨rfl, hrr, by rw [HE.out]⟩, ?_⟩
        · rw [results_cell_tmp rfl]; go_simp
        · exact (((kp_trans kw k2).setCell (Nat.le_refl _) _).setCell (Nat.le_refl _) _)
      · rw [hdi] at hD
        have hx2 : Hid (R = (k + 1 - i) + runF lodF (s.data.toList.drop (k + 1))) := hid (by
         rw [hx.out, if_pos (by simp [lodF, hdi])]
         omega)
        have HL := hid hL; have HD := hid hD; clear hL hD hlo hdi hx hcase; go_wp2_with fail; refine (HL.out _).mono ?_; rintro e w1 ⟨rfl, rfl⟩; go_wp2_with fail; refine (HD.out _).mono ?_; rintro e w1 ⟨rfl, rfl⟩; go_wp2_with fail
        go_round
        case rel => exact ⟨k + 1, by go_num, by omega, by omega, hx2⟩
        case measure => simp [intOf]; omega
    · rw [hlo] at hL
      have hx2 : Hid (R = (k + 1 - i) + runF lodF (s.data.toList.drop (k + 1))) := hid (by
       rw [hx.out, if_pos (by simp [lodF, hlo])]
       omega)
      have HL := hid hL; clear hL hlo hx hcase hD; go_wp2_with fail; refine (HL.out _).mono ?_; rintro e w1 ⟨rfl, rfl⟩; go_wp2_with fail
      go_round
      case rel => exact ⟨k + 1, by go_num, by omega, by omega, hx2⟩
      case measure => simp [intOf]; omega
  · have hR2 : R = k - i := by rcases hcase with h | h <;> omega
    subst hR2; have ek : i + (k - i) = k := by omega
    have hG := fun u => word_ok (s.extract i k) u (by rw [ByteArray.size_extract]; omega); have ht := HTK.out (k - i); rw [ek] at ht; rw [ht] at hG; have HG := hid hG; have HE := hid ek; clear hx hG ht ek hcase; go_wp2_with fail; refine (HG.out _).mono ?_; rintro e w2 ⟨rr, rfl, hrr, k2⟩; obtain ⟨x0, x1, f0, f1⟩ := cells2 ((k2.block _ HZ.out).trans HB.out); go_wp2_with fail; refine bodyPost_ret (v := .tuple #[.agg #[.int .i64 1, .string rr], .int .i64 (k : Int)]) ?_ rfl ⟨1, rr, _, rfl, ⟨rfl, hrr, by rw [HE.out]⟩, ?_⟩
    · rw [results_cell_tmp rfl]; go_simp
    · exact (((kp_trans kw k2).setCell (Nat.le_refl _) _).setCell (Nat.le_refl _) _)
set_option maxHeartbeats 2000000 in
theorem rnumber_ok (s : ByteArray) (i : Nat) (c : UInt8) (r : List UInt8) (w : World) (hs : s.size ≤ 140737488351232) (hl : s.data.toList.drop i = c :: r) (h1 : begF [47, 42, 43] (c :: r) = false) (h2 : letterF c = false) (h3 : digitF c = true) :
 TokTo s i w (some (4, (c :: r).take (runF digitF (c :: r)), runF digitF (c :: r))) := by
 unfold TokTo tokV; obtain ⟨hil, hc0⟩ := place hl; obtain ⟨hB, hz, kw⟩ := tok_block w; have hP := fun u => rat_ok s ⟨#[47, 42, 43]⟩ i u (by omega) hs (by decide) (by decide); rw [show (⟨#[47, 42, 43]⟩ : ByteArray).data.toList = [47, 42, 43] from rfl, hl, h1] at hP; have H2 := fun u => rletter_ok c u; rw [h2] at H2; have H3 := fun u => rdigit_ok c u; rw [h3] at H3; have hlen := hid (text_len s); have hle := runF_le digitF (c :: r); have hrl : (c :: r).length = s.size - i := by rw [← hl, List.length_drop, text_len]
 rw [hrl] at hle; have htk : ∀ m, (s.extract i (i + m)).data.toList = (c :: r).take m := fun m => by rw [text_cut, hl, Nat.add_sub_cancel_left]
 have hR : runF digitF (c :: r) = runF digitF (s.data.toList.drop i) := by rw [hl]
 generalize runF digitF (c :: r) = R at hR hle ⊢; have HR := hid hR; have HB := hid hB; have HZ := hid hz; have HP := hid hP; have H2' := hid H2; have H3' := hid H3; have HTK := hid htk; clear hB hz hP H2 H3 h1 h2 h3 hrl htk hR hl; go_enter Tryz.func133, Tryz.ntmps133; go_wp2_with fail; refine (HP.out _).mono ?_; rintro e w1 ⟨rfl, rfl⟩; go_wp2_with fail; refine (H2'.out _).mono ?_; rintro e w1 ⟨rfl, rfl⟩; go_wp2_with fail; refine (H3'.out _).mono ?_; rintro e w1 ⟨rfl, rfl⟩; go_wp2_with fail
 go_loop [9] (fun v => ∃ k : Nat, v = .int .i64 k ∧ i ≤ k ∧ k ≤ s.size ∧ Hid (R = (k - i) + runF digitF (s.data.toList.drop k))) (fun v => s.size - (intOf v).toNat)
 case atStart => exact ⟨i, rfl, Nat.le_refl _, by omega, hid (by rw [HR.out]; omega)⟩
 case round =>
  obtain ⟨k, rfl, hk, hks, hx⟩ := hrel; clear HR; by_cases hlt : k < s.size
  · have hb := text_at s k hlt; have hkl : k < s.data.toList.length := by rw [hlen.out]; exact hlt
    have hstep := runF_at (p := digitF) hkl; rw [hstep] at hx; generalize s.data.toList[k] = b at hb hx hstep; clear hstep; have hD := fun u => rdigit_ok b u; cases hdi : digitF b
    · rw [hdi] at hD
      have hR2 : R = k - i := by
       rw [hx.out, if_neg (by simp [hdi])]; rfl
      subst hR2; have HD := hid hD; have ek : i + (k - i) = k := by omega
      have ht := HTK.out (k - i); rw [ek] at ht; have HT := hid ht; have HE := hid ek; clear hD hdi hx ht ek; obtain ⟨x0, x1, f0, f1⟩ := cells2 HB.out; go_wp2_with fail; refine (HD.out _).mono ?_; rintro e w1 ⟨rfl, rfl⟩; go_wp2_with fail; refine bodyPost_ret (v := .tuple #[.agg #[.int .i64 4, .string (s.extract i k)], .int .i64 (k : Int)]) ?_ rfl ⟨4, s.extract i k, _, rfl, ⟨rfl, HT.out, by rw [HE.out]⟩, ?_⟩
      · rw [results_cell_tmp rfl]; go_simp
      · first | exact kw | exact ((kw.setCell (Nat.le_refl _) _).setCell (Nat.le_refl _) _) | exact kp_new _ _
    · rw [hdi] at hD
      have hx2 : Hid (R = (k + 1 - i) + runF digitF (s.data.toList.drop (k + 1))) := hid (by
       rw [hx.out, if_pos (by simp [hdi])]
       omega)
      have HD := hid hD; clear hD hdi hx; go_wp2_with fail; refine (HD.out _).mono ?_; rintro e w1 ⟨rfl, rfl⟩; go_wp2_with fail
      go_round
      case rel => exact ⟨k + 1, by go_num, by omega, by omega, hx2⟩
      case measure => simp [intOf]; omega
  · have hR2 : R = k - i := by
     rw [hx.out, List.drop_eq_nil_of_le (by rw [hlen.out]; omega)]; rfl
    subst hR2; have ek : i + (k - i) = k := by omega
    have ht := HTK.out (k - i); rw [ek] at ht; have HT := hid ht; have HE := hid ek; clear hx ht ek; obtain ⟨x0, x1, f0, f1⟩ := cells2 HB.out; go_wp2_with fail; refine bodyPost_ret (v := .tuple #[.agg #[.int .i64 4, .string (s.extract i k)], .int .i64 (k : Int)]) ?_ rfl ⟨4, s.extract i k, _, rfl, ⟨rfl, HT.out, by rw [HE.out]⟩, ?_⟩
    · rw [results_cell_tmp rfl]; go_simp
    · first | exact kw | exact ((kw.setCell (Nat.le_refl _) _).setCell (Nat.le_refl _) _) | exact kp_new _ _
end

/- The document's layer 4: the token at a place, quotes and signs; all of it: contracts. -/
section
open Go.RowKit
set_option maxRecDepth 100000
set_option maxHeartbeats 1000000 in
theorem rname_ok (s : ByteArray) (i : Nat) (c : UInt8) (r : List UInt8) (w : World) (hs : s.size ≤ 140737488351232) (hl : s.data.toList.drop i = c :: r) (h1 : begF [47, 42, 43] (c :: r) = false) (h2 : letterF c = false) (h3 : digitF c = false) (h4 : c.toNat = 34 ∨ c.toNat = 96) :
 TokTo s i w ((quotedF c r).map fun x => (2, x.1, x.2 + 1)) := by
 unfold TokTo tokV; obtain ⟨hil, hc0⟩ := place hl; obtain ⟨hB, hz, kw⟩ := tok_block w; have hP := fun u => rat_ok s ⟨#[47, 42, 43]⟩ i u (by omega) hs (by decide) (by decide); rw [show (⟨#[47, 42, 43]⟩ : ByteArray).data.toList = [47, 42, 43] from rfl, hl, h1] at hP; have H2 := fun u => rletter_ok c u; rw [h2] at H2; have H3 := fun u => rdigit_ok c u; rw [h3] at H3; have HB := hid hB; have HZ := hid hz; have HP := hid hP; have H2' := hid H2; have H3' := hid H3; have HL := hid hl; clear hB hz hP H2 H3 h1 h2 h3; have hQ := fun u => between_ok s i c r u hs HL.out; have HQ := hid hQ
 have h4b : (((c.toNat : Int) == 34) = true) ∨ (((c.toNat : Int) == 34) = false ∧ ((c.toNat : Int) == 96) = true) := by
  simp only [beq_iff_eq, beq_eq_false_iff_ne, ne_eq]; omega
 clear hQ h4 hl; rcases h4b with h4a | ⟨h4a, h4c⟩
 all_goals
  go_enter Tryz.func133, Tryz.ntmps133; go_wp2_with fail; refine (HP.out _).mono ?_; rintro e w1 ⟨rfl, rfl⟩; go_wp2_with fail; refine (H2'.out _).mono ?_; rintro e w1 ⟨rfl, rfl⟩; go_wp2_with fail; refine (H3'.out _).mono ?_; rintro e w1 ⟨rfl, rfl⟩; go_wp2_with fail; refine (HQ.out _).mono ?_; rintro e w2 ⟨rr, n, rfl, hA, k2⟩; obtain ⟨x0, x1, f0, f1⟩ := cells2 ((k2.block _ HZ.out).trans HB.out); go_wp2_with fail; refine bodyPost_ret (v := .tuple #[.agg #[.int .i64 2, .string rr], .int .i64 n]) ?_ rfl ⟨2, rr, n, rfl, ?_, ?_⟩
  · rw [results_cell_tmp rfl]; go_simp
  · cases hq : quotedF c r with
    | none => rw [hq] at hA; exact hA
    | some x => rw [hq] at hA; exact ⟨rfl, hA.1, by rw [hA.2]; congr 1; omega⟩
  · exact (((kp_trans kw k2).setCell (Nat.le_refl _) _).setCell (Nat.le_refl _) _)
set_option maxHeartbeats 1000000 in
theorem rstring_ok (s : ByteArray) (i : Nat) (c : UInt8) (r : List UInt8) (w : World) (hs : s.size ≤ 140737488351232) (hl : s.data.toList.drop i = c :: r) (h1 : begF [47, 42, 43] (c :: r) = false) (h2 : letterF c = false) (h3 : digitF c = false) (h4 : c.toNat = 39) :
 TokTo s i w ((quotedF c r).map fun x => (3, x.1, x.2 + 1)) := by
 unfold TokTo tokV; obtain ⟨hil, hc0⟩ := place hl; obtain ⟨hB, hz, kw⟩ := tok_block w; have hP := fun u => rat_ok s ⟨#[47, 42, 43]⟩ i u (by omega) hs (by decide) (by decide); rw [show (⟨#[47, 42, 43]⟩ : ByteArray).data.toList = [47, 42, 43] from rfl, hl, h1] at hP; have H2 := fun u => rletter_ok c u; rw [h2] at H2; have H3 := fun u => rdigit_ok c u; rw [h3] at H3; have HB := hid hB; have HZ := hid hz; have HP := hid hP; have H2' := hid H2; have H3' := hid H3; have HL := hid hl; clear hB hz hP H2 H3 h1 h2 h3; have hQ := fun u => between_ok s i c r u hs HL.out; have HQ := hid hQ; have h4a : ((c.toNat : Int) == 34) = false := by simp only [beq_eq_false_iff_ne, ne_eq]; omega
 have h4b : ((c.toNat : Int) == 96) = false := by simp only [beq_eq_false_iff_ne, ne_eq]; omega
 have h4c : ((c.toNat : Int) == 39) = true := by simp only [beq_iff_eq]; omega
 clear hQ h4 hl; go_enter Tryz.func133, Tryz.ntmps133; go_wp2_with fail; refine (HP.out _).mono ?_; rintro e w1 ⟨rfl, rfl⟩; go_wp2_with fail; refine (H2'.out _).mono ?_; rintro e w1 ⟨rfl, rfl⟩; go_wp2_with fail; refine (H3'.out _).mono ?_; rintro e w1 ⟨rfl, rfl⟩; go_wp2_with fail; refine (HQ.out _).mono ?_; rintro e w2 ⟨rr, n, rfl, hA, k2⟩; obtain ⟨x0, x1, f0, f1⟩ := cells2 ((k2.block _ HZ.out).trans HB.out); go_wp2_with fail; refine bodyPost_ret (v := .tuple #[.agg #[.int .i64 3, .string rr], .int .i64 n]) ?_ rfl ⟨3, rr, n, rfl, ?_, ?_⟩
 · rw [results_cell_tmp rfl]; go_simp
 · cases hq : quotedF c r with
   | none => rw [hq] at hA; exact hA
   | some x => rw [hq] at hA; exact ⟨rfl, hA.1, by rw [hA.2]; congr 1; omega⟩
 · exact (((kp_trans kw k2).setCell (Nat.le_refl _) _).setCell (Nat.le_refl _) _)
set_option maxHeartbeats 1000000 in
theorem rsign_ok (s : ByteArray) (i : Nat) (c : UInt8) (r : List UInt8) (w : World) (hs : s.size ≤ 140737488351232) (hl : s.data.toList.drop i = c :: r) (h1 : begF [47, 42, 43] (c :: r) = false) (h2 : letterF c = false) (h3 : digitF c = false) (h4 : ¬ (c.toNat = 34 ∨ c.toNat = 96)) (h5 : ¬ c.toNat = 39) :
 TokTo s i w (if 33 ≤ c.toNat ∧ c.toNat ≤ 126 then some (6, [c], 1) else none) := by
 unfold TokTo tokV; obtain ⟨hil, hc0⟩ := place hl; obtain ⟨hB, hz, kw⟩ := tok_block w; have hP := fun u => rat_ok s ⟨#[47, 42, 43]⟩ i u (by omega) hs (by decide) (by decide); rw [show (⟨#[47, 42, 43]⟩ : ByteArray).data.toList = [47, 42, 43] from rfl, hl, h1] at hP; have H2 := fun u => rletter_ok c u; rw [h2] at H2; have H3 := fun u => rdigit_ok c u; rw [h3] at H3; have HB := hid hB; have HZ := hid hz; have HP := hid hP; have H2' := hid H2; have H3' := hid H3; have HL := hid hl; clear hB hz hP H2 H3 h1 h2 h3; have h4a : ((c.toNat : Int) == 34) = false := by simp only [beq_eq_false_iff_ne, ne_eq]; omega
 have h4b : ((c.toNat : Int) == 96) = false := by simp only [beq_eq_false_iff_ne, ne_eq]; omega
 have h4c : ((c.toNat : Int) == 39) = false := by simp only [beq_eq_false_iff_ne, ne_eq]; omega
 have ht : (s.extract i (i + 1)).data.toList = [c] := by rw [text_cut, hl, Nat.add_sub_cancel_left]; rfl
 have HT := hid ht; have e1 : ((i : Int) + 1).toNat = i + 1 := by omega
 clear h4 h5 hl ht; by_cases h6 : 33 ≤ c.toNat ∧ c.toNat ≤ 126
 · rw [if_pos h6]; obtain ⟨h6, h7⟩ := h6; go_enter Tryz.func133, Tryz.ntmps133; go_wp2_with fail; refine (HP.out _).mono ?_; rintro e w1 ⟨rfl, rfl⟩; go_wp2_with fail; refine (H2'.out _).mono ?_; rintro e w1 ⟨rfl, rfl⟩; go_wp2_with fail; refine (H3'.out _).mono ?_; rintro e w1 ⟨rfl, rfl⟩; obtain ⟨x0, x1, f0, f1⟩ := cells2 HB.out; go_wp2_with fail; refine bodyPost_ret (v := .tuple #[.agg #[.int .i64 6, .string (s.extract i (i + 1))], .int .i64 ((i + 1 : Nat) : Int)]) ?_ rfl ⟨6, s.extract i (i + 1), _, rfl, ⟨rfl, HT.out, rfl⟩, ?_⟩
   · rw [results_cell_tmp rfl]; go_simp
   · first | exact kw | exact ((kw.setCell (Nat.le_refl _) _).setCell (Nat.le_refl _) _) | exact kp_new _ _
 · rw [if_neg h6]; have h7 : (¬ 33 ≤ c.toNat) ∨ (33 ≤ c.toNat ∧ ¬ c.toNat ≤ 126) := by omega
   clear h6; rcases h7 with h6 | ⟨h6, h7⟩
   all_goals
    go_enter Tryz.func133, Tryz.ntmps133; go_wp2_with fail; refine (HP.out _).mono ?_; rintro e w1 ⟨rfl, rfl⟩; go_wp2_with fail; refine (H2'.out _).mono ?_; rintro e w1 ⟨rfl, rfl⟩; go_wp2_with fail; refine (H3'.out _).mono ?_; rintro e w1 ⟨rfl, rfl⟩; obtain ⟨x0, x1, f0, f1⟩ := cells2 HB.out; go_wp2_with fail; refine bodyPost_ret (v := .tuple #[.agg #[.int .i64 0, .string ⟨#[]⟩], .int .i64 (-1)]) ?_ rfl ⟨0, ⟨#[]⟩, -1, rfl, rfl, ?_⟩
    · rw [results_cell_tmp rfl]; go_simp
    · first | exact kw | exact ((kw.setCell (Nat.le_refl _) _).setCell (Nat.le_refl _) _) | exact kp_new _ _
theorem token_ok (s : ByteArray) (i : Nat) (w : World) (hs : s.size ≤ 140737488351232) (hi : i < s.size) : TokTo s i w (rtokF (s.data.toList.drop i)) := by
 obtain ⟨c, r, hl⟩ : ∃ c r, s.data.toList.drop i = c :: r := ⟨_, _, List.drop_eq_getElem_cons (by rw [text_len]; exact hi)⟩; rw [hl, rtokF]; by_cases h1 : begF [47, 42, 43] (c :: r) = true
 · rw [if_pos h1]; exact rhint_ok s i c r w hs hl h1
 rw [if_neg h1]; have h1f : begF [47, 42, 43] (c :: r) = false := by simpa using h1
 by_cases h2 : letterF c = true
 · rw [if_pos h2]; exact rword_ok s i c r w hs hl h1f h2
 rw [if_neg h2]; have h2f : letterF c = false := by simpa using h2
 by_cases h3 : digitF c = true
 · rw [if_pos h3]; exact rnumber_ok s i c r w hs hl h1f h2f h3
 rw [if_neg h3]; have h3f : digitF c = false := by simpa using h3
 by_cases h4 : c.toNat = 34 ∨ c.toNat = 96
 · rw [if_pos h4]; exact rname_ok s i c r w hs hl h1f h2f h3f h4
 rw [if_neg h4]; by_cases h5 : c.toNat = 39
 · rw [if_pos h5]; exact rstring_ok s i c r w hs hl h1f h2f h3f h5
 rw [if_neg h5]; exact rsign_ok s i c r w hs hl h1f h2f h3f h4 h5
end

/- The document's layer 4: a statement's tokens: contract. -/
section
open Go.RowKit
set_option maxRecDepth 100000
theorem beg_two (a b : UInt8) (c : UInt8) (r : List UInt8) (h : begF [a, b] (c :: r) = true) : c = a := by
 unfold begF Lib.hasPrefix at h; rw [List.isPrefixOf] at h; simp at h
 exact h.1.symm
theorem beg_three (a b d : UInt8) (c : UInt8) (r : List UInt8) (h : begF [a, b, d] (c :: r) = true) : c = a := by
 unfold begF Lib.hasPrefix at h; rw [List.isPrefixOf] at h; simp at h
 exact h.1.symm
theorem remark_no_line (c : UInt8) (r : List UInt8) (h : isRemarkF (c :: r) = true) : isLineF (c :: r) = false := by
 unfold isRemarkF at h; simp only [Bool.and_eq_true] at h; have hc := beg_two _ _ _ _ h.1; subst hc; unfold isLineF
 cases hb : begF [45, 45] ((47 : UInt8) :: r) with
 | false => rfl
 | true => exact absurd (beg_two _ _ _ _ hb) (by decide)
theorem line_pos (c : UInt8) (r : List UInt8) (h1 : blankF c = false) : 0 < lineF (c :: r) := by
 unfold lineF; split
 · simp
 · rename_i hx
   have hc : (c == 10) = false := by
    simp only [beq_eq_false_iff_ne, ne_eq]; rintro rfl
    revert h1
    decide
   rw [Lib.indexByte, hc] at hx ⊢; simp only [Bool.false_eq_true, if_false] at hx ⊢; have hge := indexByte_lt.indexByte_ge1 r 10; split
   · rename_i h; rw [if_pos h] at hx; omega
   · rename_i h
     have : Lib.indexByte r 10 ≠ -1 := by simpa using h
     omega
theorem step_bad (c : UInt8) (r : List UInt8) (h : skipF (c :: r) < 0) : stepF (c :: r) = .bad := by
 rw [skipF] at h; split at h
 · omega
 rename_i h1
 split at h
 · rename_i h2
   rw [stepF, if_neg h1, if_neg (by rw [remark_no_line c r h2]; simp), if_pos h2]; split at h
   · rename_i h3; rw [if_pos h3]
   · omega
 split at h
 · omega
 · omega
theorem step_skip (c : UInt8) (r : List UInt8) (m : Nat) (h : skipF (c :: r) = m) (hm : 0 < m) : stepF (c :: r) = .skip m := by
 rw [skipF] at h; split at h
 · rename_i h1
   rw [stepF, if_pos h1]; congr 1; omega
 rename_i h1
 split at h
 · rename_i h2
   rw [stepF, if_neg h1, if_neg (by rw [remark_no_line c r h2]; simp), if_pos h2]; split at h
   · omega
   · rename_i h3
     rw [if_neg h3]; congr 1; omega
 split at h
 · rename_i h3
   rw [stepF, if_neg h1, if_pos h3]; congr 1; omega
 · omega
theorem rtok_first (c : UInt8) (r : List UInt8) (h1 : blankF c = false) (h2 : isLineF (c :: r) = false) : rtokF (c :: r) = firstI (c :: r) := by
 have h35 : ¬ c.toNat = 35 := by
  intro h; change (decide (c.toNat = 35) || begF [45, 45] (c :: r)) = false at h2; rw [decide_eq_true h] at h2; simp at h2
 have hsign : signF c = (!(decide (c.toNat ≤ 32) || decide (126 < c.toNat) || lodF c) && (decide (c.toNat ≠ 34) && decide (c.toNat ≠ 96) && decide (c.toNat ≠ 39) && decide (c.toNat ≠ 35))) := rfl; unfold firstI; rw [rtokF]; simp only [firstF]; by_cases hb : begF [47, 42, 43] (c :: r) = true
 · have hc := beg_three _ _ _ _ _ hb; subst hc; rw [if_pos hb, if_neg (by decide), if_neg (by decide), if_neg (by decide), if_neg (by decide), if_pos hb]; unfold hintF; split <;> rfl
 rw [if_neg hb]; split
 · rfl
 split
 · rfl
 split
 · simp only [Option.map_map]; rfl
 split
 · simp only [Option.map_map]; rfl
 rename_i hl hd hq hs
 have hlod : lodF c = false := by simp [lodF, hl, hd]
 rw [hlod] at hsign; by_cases h6 : 33 ≤ c.toNat ∧ c.toNat ≤ 126
 · have : signF c = true := by
    rw [hsign]; simp; omega
   rw [if_pos h6, if_pos this]; rfl
 · have : signF c = false := by
    rw [hsign]; simp; omega
   rw [if_neg h6, this]; rfl
theorem step_first (c : UInt8) (r : List UInt8) (h : skipF (c :: r) = 0) : blankF c = false ∧ isLineF (c :: r) = false ∧ stepF (c :: r) = match firstF (c :: r) with | none => .bad | some (k, t, n) => .tok k t n := by
 rw [skipF] at h; split at h
 · omega
 rename_i h1
 have h1f : blankF c = false := by simpa using h1
 split at h
 · rename_i h2
   split at h
   · omega
   · rename_i h3; omega
 rename_i h2
 split at h
 · have := line_pos c r h1f; omega
 rename_i h3
 refine ⟨h1f, by simpa using h3, ?_⟩; rw [stepF, if_neg h1, if_neg h3, if_neg h2]; cases firstF (c :: r) <;> rfl
theorem skip_le : ∀ l : List UInt8, skipF l ≤ l.length
 | [] => by simp [skipF]
 | c :: r => by
   rw [skipF]; split
   · simp; omega
   split
   · rename_i h2
     have h2a : begF [47, 42] (c :: r) = true := by
      unfold isRemarkF at h2; simp only [Bool.and_eq_true] at h2; exact h2.1
     have h3 := (List.isPrefixOf_iff_prefix.1 h2a).length_le; have := (closedF_le (c :: r) 2 (by simpa using h3)).1; split <;> omega
   split
   · unfold lineF; split
     · omega
     · have := indexByte_lt (l := c :: r) (c := 10) (by omega); omega
   · omega
theorem OT.empty (e : TypeId) (w : World) : OT e (w.alloc (.cells #[] e)) w.heap.size (some ⟨w.heap.size, 0, none⟩) 0 0 [] :=
 ⟨own_new_s w w.heap.size 2 e 0 [] rfl (Nat.le_refl _) (by simp [maxLen]), Nat.le_refl _⟩
set_option maxHeartbeats 2000000 in
theorem rlex_ok (s : ByteArray) (w : World) (hm : s.size ≤ maxLen) : LexTo 109 182 s w := by
 unfold LexTo; unfold maxLen at hm; by_cases hlong : 200 < s.size
 · have hA : lexA s.data.toList = ([], 4) := by unfold lexA; rw [text_len, if_pos hlong]
   have HA := hid hA; clear hA; go_enter Tryz.func109, Tryz.ntmps109; go_wp2_with fail; go_ret2; exact ⟨none, 0, 0, 4, [], rfl, OT.nil _ _ _, by rw [HA.out]; rfl, Below.refl _ _⟩
 have hA : ∀ R, lexF s.data.toList = R → lexA s.data.toList = (match R with | none => ([], 2) | some x => (x, 0)) := fun R h => by unfold lexA; rw [text_len, if_neg hlong, h]; cases R <;> rfl
 generalize hR0 : lexF s.data.toList = R at hA; have hA1 := hA R rfl; have HA := hid hA1; have HR := hid hR0; have hlen := hid (text_len s); clear hA hA1 hR0; obtain ⟨i0, hi, hz0, hz1, hz2⟩ := info_parts tkinfoR; go_enter Tryz.func109, Tryz.ntmps109
 go_wp2
 go_loopw [4, 5] (fun l4 at_ wr => ∃ (k : Nat) (A : Option Addr) (n c : Nat) (ts : List Tk), at_ = .int .i64 k ∧ k ≤ s.size ∧ l4 = .slice A n c ∧ OT 182 wr w.heap.size A n c ts ∧ n ≤ k ∧ Hid (R = (lexF (s.data.toList.drop k)).map (saysT ts ++ ·)) ∧ Below w.heap.size w wr) (fun _ at_ _ => s.size - (intOf at_).toNat)
 case atStart => exact ⟨0, _, 0, _, [], rfl, Nat.zero_le _, rfl, OT.empty _ w, Nat.le_refl _, hid (by rw [← HR.out]; simp [saysT]), kp_new _ _⟩
 case round =>
  obtain ⟨k, A, n, c, ts, rfl, hks, rfl, ho, hnk, hx, kw⟩ := hrel; clear HR; by_cases hlt : k < s.size
  · have hkl : k < s.data.toList.length := by rw [hlen.out]; exact hlt
    obtain ⟨b, r', hcons⟩ : ∃ b r', s.data.toList.drop k = b :: r' := ⟨_, _, List.drop_eq_getElem_cons hkl⟩; have hne : s.data.toList.drop k ≠ [] := by rw [hcons]; simp
    have hdd : ∀ j, (s.data.toList.drop k).drop j = s.data.toList.drop (k + j) := fun j => by rw [List.drop_drop]
    have hdl : (s.data.toList.drop k).length = s.size - k := by rw [List.length_drop, hlen.out]
    have hS := skip_ok s k b r' wr (by omega) hcons; have hT := fun u => token_ok s k u (by omega) hlt; have hA : skipA s.data.toList k = if skipF (b :: r') < 0 then -1 else (k : Int) + skipF (b :: r') := by unfold skipA; rw [hcons]
    rw [hA] at hS; rw [hcons] at hT; by_cases h1 : skipF (b :: r') < 0
    · rw [if_pos h1] at hS; have hR : R = none := by rw [hx.out, lexF_bad hne (by rw [hcons]; exact step_bad b r' h1)]; rfl
      subst hR; have HS := hid hS; clear hS hT hA hx h1; go_wp2_with fail; refine HS.out.mono ?_; rintro e w1 ⟨rfl, k1⟩; go_wp2_with fail; go_ret2; exact ⟨none, 0, 0, 2, [], rfl, OT.nil _ _ _, by rw [HA.out]; rfl, kp_trans kw k1⟩
    rw [if_neg h1] at hS; by_cases h2 : skipF (b :: r') = 0
    · rw [h2] at hS; obtain ⟨hb1, hb2, hst⟩ := step_first b r' h2; have hrt := rtok_first b r' hb1 hb2; rw [hrt] at hT; unfold TokTo tokV at hT; have hfi : firstI (b :: r') = (firstF (b :: r')).map fun x => ((x.1 : Int), x.2.1, x.2.2) := rfl; rw [hfi] at hT; have hsizes := firstF_size (l := b :: r'); have hbl : (b :: r').length = s.size - k := by rw [← hcons, hdl]
      rw [hbl] at hsizes; have e0 : (k : Int) + 0 = (k : Int) := by omega
      rw [e0] at hS; have HS := hid hS
      cases hff : firstF (b :: r') with
      | none =>
        rw [hff] at hst hT; have hR : R = none := by rw [hx.out, lexF_bad hne (by rw [hcons]; exact hst)]; rfl
        subst hR; have HT := hid hT; clear hS hT hA hx h1 h2 hst hrt hsizes hbl hfi hff e0; go_wp2_with fail; refine HS.out.mono ?_; rintro e w1 ⟨rfl, k1⟩; go_wp2_with fail; refine (HT.out _).mono ?_; rintro e w2 ⟨kd, rr, nn, rfl, rfl, k2⟩; go_wp2_with fail; go_ret2; exact ⟨none, 0, 0, 2, [], rfl, OT.nil _ _ _, by rw [HA.out]; rfl, kp_alloc (kp_trans kw (kp_trans k1 k2)) _⟩
      | some x =>
        obtain ⟨kd, t, m⟩ := x; rw [hff] at hst hT; obtain ⟨hm0, hml⟩ := hsizes kd t m hff; have hx2 : Hid (R = ((lexF (s.data.toList.drop (k + m))).map (((kd : Int), t) :: ·)).map (saysT ts ++ ·)) := hid (by rw [hx.out, lexF_tok hne (by rw [hcons]; exact hst) (by omega), hdd]); have HT := hid hT; clear hS hT hA hx h1 h2 hst hrt hsizes hbl hfi hff e0 hcons hne hdd hdl; go_wp2_with fail; refine HS.out.mono ?_; rintro e w1 ⟨rfl, k1⟩; go_wp2_with fail; refine (HT.out _).mono ?_; rintro e w2 ⟨kd2, r1, nn, rfl, ⟨rfl, hr1, rfl⟩, k2⟩; have k12 := kp_trans k1 k2; have ho1 := ho.next k12; have kw1 := kp_trans kw k12; have hnn : ¬ ((k + m : Nat) : Int) < 0 := by omega
        have hsrc : ∀ X, Rd ((w2.alloc X).alloc (.cells #[.int .i64 (kd : Int), .string r1] 182)) (w2.heap.size + 1 + 1) (some ⟨w2.heap.size + 1, 0, none⟩) [.int .i64 (kd : Int), .string r1] := fun X => by
         have := Rd.new (w2.alloc X) 182 [.int .i64 (kd : Int), .string r1]; simpa using this
        have HSRC := hid hsrc; have hsw := kw1.size; clear hsrc; go_wp2_with (at_builtin; refine wpList_append_rds rfl _ _ _ rfl w.heap.size 182 i0 _ 2 24 Tryz.underlying179 hi hz0 hz1 hz2 rfl (by omega) _ n _ rfl ((ho1.own.alloc _).alloc _) _ _ _ _ [.int .i64 (kd : Int), .string r1] rfl rfl (HSRC.out _) (by simp [Value.oneCell']) (by unfold maxLen; omega) (by omega) (by simp; omega) ?_; intro v3 w3 hown3 hg3; obtain ⟨A3, c3, rfl, ho3⟩ := OT.push hown3); go_roundw
        case rel => exact ⟨k + m, A3, n + 1, c3, ts ++ [⟨kd, r1⟩], by go_num, by omega, rfl, ho3, by omega, hid (by rw [hx2.out, saysT_append]; cases lexF (s.data.toList.drop (k + m)) <;> simp [saysT, Tk.says, hr1]), (kp_alloc (kp_alloc kw1 _) _).trans (below_own_s ((ho1.own.alloc _).alloc _) hg3 (by simp; omega))⟩
        case measure => simp [intOf]; omega
    · obtain ⟨m, hm⟩ : ∃ m : Nat, skipF (b :: r') = m := ⟨(skipF (b :: r')).toNat, by omega⟩; rw [hm] at hS
      have hmb : m ≤ s.size - k := by
       have h3 := skip_le (b :: r'); rw [hm, ← hcons, hdl] at h3; omega
      have hx2 : Hid (R = (lexF (s.data.toList.drop (k + m))).map (saysT ts ++ ·)) := hid (by rw [hx.out, lexF_skip hne (by rw [hcons]; exact step_skip b r' m hm (by omega)) (by omega), hdd]); have HS := hid hS; have hm0 : 0 < m := by omega
      clear hS hT hA hx h1 h2 hm hcons hne hdd hdl; go_wp2_with fail; refine HS.out.mono ?_; rintro e w1 ⟨rfl, k1⟩; go_wp2_with fail; go_roundw
      case rel => exact ⟨k + m, A, n, c, ts, by go_num, by omega, rfl, ho.next k1, by omega, hx2, kp_trans kw k1⟩
      case measure => simp [intOf]; omega
  · obtain rfl : k = s.size := by omega
    have hR : R = some (saysT ts) := by rw [hx.out, List.drop_eq_nil_of_le (by rw [hlen.out]; exact Nat.le_refl _), lexF_nil]; simp
    subst hR; clear hx; go_wp2_with fail; go_ret2; exact ⟨A, n, c, 0, rfl, ts, ho, by rw [HA.out], kw⟩
end

/- The document's layer 4: which tokens may be: contract. -/
section
open Go.RowKit
set_option maxRecDepth 100000
theorem skip_plain (c : UInt8) (r : List UInt8) (h1 : blankF c = false) (h2 : begF [47, 42] (c :: r) = false) (h3 : c.toNat ≠ 35) (h4 : begF [45, 45] (c :: r) = false) : skipF (c :: r) = 0 := by
 have hr : isRemarkF (c :: r) = false := by unfold isRemarkF; rw [h2]; rfl
 have hl : isLineF (c :: r) = false := by
  show (decide (c.toNat = 35) || begF [45, 45] (c :: r)) = false; rw [decide_eq_false h3, h4]; rfl
 rw [skipF, h1, hr, hl]; rfl
theorem beg_not {a b c : UInt8} {r : List UInt8} (h : c ≠ a) : begF [a, b] (c :: r) = false := by
 cases hb : begF [a, b] (c :: r) with
 | false => rfl
 | true => exact absurd (beg_two _ _ _ _ hb) h
theorem lod_plain (c : UInt8) (h : lodF c = true) : blankF c = false ∧ c ≠ 47 ∧ c ≠ 45 ∧ c.toNat ≠ 35 := by
 have := by_all (fun c => !lodF c || (!blankF c && (decide (c ≠ 47) && (decide (c ≠ 45) && decide (c.toNat ≠ 35))))) (by decide +kernel) c; rw [h] at this; simp only [Bool.not_true, Bool.false_or, Bool.and_eq_true, Bool.not_eq_true', decide_eq_true_eq] at this; exact this
theorem skip_lod (c : UInt8) (r : List UInt8) (h : lodF c = true) : skipF (c :: r) = 0 := by
 obtain ⟨h1, h2, h3, h4⟩ := lod_plain c h; exact skip_plain c r h1 (beg_not h2) h4 (beg_not h3)
theorem digit_no_letter (c : UInt8) (h : digitF c = true) : letterF c = false := by
 have := by_all (fun c => !digitF c || !letterF c) (by decide +kernel) c; rw [h] at this; simpa using this
theorem sign_parts (c : UInt8) : signF c = true ↔ (33 ≤ c.toNat ∧ c.toNat ≤ 126 ∧ letterF c = false ∧ digitF c = false ∧ c.toNat ≠ 34 ∧ c.toNat ≠ 96 ∧ c.toNat ≠ 39 ∧ c.toNat ≠ 35) := by
 have hs : signF c = (!(decide (c.toNat ≤ 32) || decide (126 < c.toNat) || lodF c) && (decide (c.toNat ≠ 34) && decide (c.toNat ≠ 96) && decide (c.toNat ≠ 39) && decide (c.toNat ≠ 35))) := rfl; have hl : lodF c = (letterF c || digitF c) := rfl; rw [hs, hl]; cases letterF c <;> cases digitF c <;> simp <;> omega
theorem blank_lt (c : UInt8) (h : 33 ≤ c.toNat) : blankF c = false := by
 have := by_all (fun c => decide (c.toNat < 33) || !blankF c) (by decide +kernel) c; simp only [Bool.or_eq_true, decide_eq_true_eq, Bool.not_eq_true'] at this; rcases this with h1 | h1
 · omega
 · exact h1
end

/- The document's layer 4: which tokens may be, by the call: contract. -/
section
open Go.RowKit
set_option maxRecDepth 100000
end

/- What is written of rows of tokens, by package lex: contract. -/
section
open Go.RowKit
set_option maxRecDepth 100000
theorem Bd.next {B b : Nat} {l : List UInt8} {w w' : World} (h : Bd B b l w) (hb : Below w.heap.size w w') : Bd B b l w' :=
 Or.elim h (fun x => .inl (Lib.BuilderAtF.below x hb)) (fun x => .inr (Lib.BuilderAtF.below x hb))
theorem Bd.lt {B b : Nat} {l : List UInt8} {w : World} (h : Bd B b l w) : b < w.heap.size := by
 rcases h with ⟨_, v, hb, _⟩ | ⟨_, v, hb, _⟩
 · exact (Array.getElem?_eq_some_iff.1 hb).1
 · exact (Array.getElem?_eq_some_iff.1 hb).1
theorem Kept.cells {b k : Nat} {w w' : World} {cs : Array Value} {t : TypeId} {fz : Nat × Nat} (h : Kept b w w') (hk : w.heap[k]? = some (.cells cs t fz)) (hkb : k ≠ b) (ht : t ≠ 5) : w'.heap[k]? = some (.cells cs t fz) :=
 h k _ hk (fun e => hkb (Option.some.inj e)) (fun c fz' e => by
  simp only [Obj.cells.injEq] at e
  exact ht e.2.1)
def sumT (ts : List Tk) : Nat := (ts.map fun t => t.t.size + 1).sum
theorem sumT_append (a b : List Tk) : sumT (a ++ b) = sumT a + sumT b := by simp [sumT]
theorem sumT_at {ts : List Tk} {k : Nat} (h : k < ts.length) : sumT (ts.take k) + ts[k].t.size + 1 ≤ sumT ts := by
 have e : sumT ts = sumT (ts.take k) + sumT (ts.drop k) := by rw [← sumT_append, List.take_append_drop]
 rw [e, List.drop_eq_getElem_cons h]; simp only [sumT, List.map_cons, List.sum_cons]; omega
theorem sumT_len : ∀ ts : List Tk, ts.length ≤ sumT ts
 | [] => Nat.zero_le _
 | t :: r => by
   have := sumT_len r; simp only [sumT, List.map_cons, List.sum_cons, List.length_cons] at this ⊢; omega
def writeF : List (Int × List UInt8) → List UInt8
 | [] => []
 | t :: r => writtenF t.1 t.2 ++ r.flatMap fun t => 32 :: writtenF t.1 t.2
theorem writeF_next (l : List (Int × List UInt8)) (x : Int × List UInt8) (h : l ≠ []) : writeF (l ++ [x]) = writeF l ++ [32] ++ writtenF x.1 x.2 := by
 cases l with
 | nil => exact absurd rfl h
 | cons t r => simp [writeF]
theorem writeF_len : ∀ ts : List Tk, (writeF (saysT ts)).length ≤ 8 * sumT ts := by
 have key : ∀ ts : List Tk, ((saysT ts).flatMap fun t => 32 :: writtenF t.1 t.2).length ≤ 8 * sumT ts := by
  intro ts
  induction ts with
  | nil => simp [saysT, sumT]
  | cons t r ih =>
    have h1 := writtenF_length t.k t.t.data.toList; have h2 := text_len t.t; simp only [saysT, List.map_cons, List.flatMap_cons, List.length_append, List.length_cons, sumT, List.sum_cons, Tk.says] at ih ⊢; omega
 intro ts
 cases ts with
 | nil => simp [saysT, writeF, sumT]
 | cons t r =>
   have h1 := writtenF_length t.k t.t.data.toList; have h2 := text_len t.t; have h3 := key r; simp only [saysT, List.map_cons, writeF, List.length_append, sumT, List.sum_cons, Tk.says] at h3 ⊢; omega
set_option maxHeartbeats 2000000 in
theorem write_ok (A : Option Addr) (n c : Nat) (ts : List Tk) (w : World) (h : TR w A n ts) (hm : sumT ts ≤ 1000000) (hL : Lw w) :
 Calls Tryz.prog 201 #[.slice A n c] w fun e w' => ∃ r : ByteArray, e = .returned (.string r) ∧ r.data.toList = writeF (saysT ts) ∧ Below w.heap.size w w' := by
 have hlen := hid h.len
 have hn : n ≤ 1000000 := by
  have := sumT_len ts; have := h.len; omega
 go_enter Tryz.func201, Tryz.ntmps201
 go_wp2
 go_loopw [8] (fun v8 wr => ∃ (k : Nat), v8 = .int .i64 k ∧ k ≤ n ∧ Bd w.heap.size w.heap.size (writeF (saysT (ts.take k))) wr ∧ Below w.heap.size w wr) (fun v8 _ => n - (intOf v8).toNat)
 case atStart => exact ⟨0, rfl, Nat.zero_le _, Bd.new w w.heap.size (Nat.le_refl _), kp_new _ _⟩
 case round =>
  obtain ⟨k, rfl, hk, hI, kw⟩ := hrel; by_cases hlt : k < n
  · have hkl : k < ts.length := by rw [hlen.out]; exact hlt
    obtain ⟨ad, rfl, hbl, hcells⟩ := h.at_ hkl; obtain ⟨c0, c1⟩ := hcells wr kw; have hsum := sumT_at hkl; have hwl := writeF_len (ts.take k)
    have hnext : saysT (ts.take (k + 1)) = saysT (ts.take k) ++ [(ts[k].k, ts[k].t.data.toList)] := by
     rw [List.take_succ_eq_append_getElem hkl, saysT_append]; rfl
    have hne : 0 < k → saysT (ts.take k) ≠ [] := fun h0 e => by
     have := congrArg List.length e; rw [saysT_length, List.length_take, Nat.min_eq_left (by omega)] at this; exact absurd this (by simp; omega)
    have HW := hid fun u (hu : Lw u) => written_ok ts[k].k ts[k].t u hu (by omega); generalize ts[k].k = kd at *; generalize ts[k].t = tx at *; generalize hwk : writeF (saysT (ts.take k)) = wk at hI hwl; have HN := hid hnext; have HNE := hid hne; have HWK := hid hwk; have hbz := hI.lt; have hL1 := hL.next kw; clear hcells hnext hne hwk; have hI1 := hI.alloc (.cells #[.int .i64 kd, .string tx] 142); have kw1 := kp_alloc kw (.cells #[.int .i64 kd, .string tx] 142); have hT := heap_alloc_new wr (.cells #[.int .i64 kd, .string tx] 142); have hz1 : wr.heap.size < (wr.alloc (.cells #[.int .i64 kd, .string tx] 142)).heap.size := by simp
    have HT := hid hT; have HZ := hid hz1; clear hT hz1; by_cases hk0 : k = 0
    · subst hk0
      have hnx : Hid (writeF (saysT (ts.take (0 + 1))) = wk ++ writtenF kd tx.data.toList) := hid (by
       rw [HN.out, ← HWK.out]
       simp [saysT, writeF])
      have e0 : ad.add (0 * 2) = ad := by unfold Addr.add; simp
      rw [e0] at c0 c1; clear e0; obtain ⟨f0, f1, _, _⟩ := cells2 HT.out; go_wp2_with fail; refine (HW.out _ (hL1.next (kp_new _ _))).mono ?_; rintro e w2 ⟨r, rfl, hr, k2⟩
      have hrl : r.size ≤ 2 * tx.size + 7 := by
       have h1 := writtenF_length kd tx.data.toList; have h2 := text_len tx; have h3 := text_len r; rw [hr] at h3; omega
      have HS := hid (writeString_s w.heap.size w.heap.size wk r w2 (hI1.next k2) (by omega) (by omega) (by have := kw1.size; have := k2.size; omega)); go_wp2_with fail; refine HS.out.mono ?_; rintro e w3 ⟨rfl, hI3, b3, _⟩; go_wp2_with fail; go_roundw
      case rel => exact ⟨0 + 1, by go_num, by omega, by rw [hnx.out, ← hr]; exact hI3, (kp_trans kw1 k2).trans b3⟩
      case measure => simp [intOf]; omega
    · have hnx : Hid (writeF (saysT (ts.take (k + 1))) = wk ++ [32] ++ writtenF kd tx.data.toList) := hid (by
       rw [HN.out, writeF_next _ _ (HNE.out (by omega)), HWK.out])
      have hW1 := writeByte_s w.heap.size w.heap.size wk 32 _ hI1 (by omega) (by have := kw1.size; omega); rw [show (((32 : UInt8).toNat : Nat) : Int) = 32 from rfl] at hW1; have HW1 := hid hW1; have hpos : (0 : Int) < (k : Int) := by omega
      clear hW1; go_wp2_with fail; refine HW1.out.mono ?_; rintro e w2 ⟨rfl, hI2, b2, k2⟩; obtain ⟨f0, f1, _, _⟩ := cells2 (k2.cells HT.out (by omega) (by decide)); have kw2 := kw1.trans b2; go_wp2_with fail; refine (HW.out _ (hL.next kw2)).mono ?_; rintro e w3 ⟨r, rfl, hr, k3⟩
      have hrl : r.size ≤ 2 * tx.size + 7 := by
       have h1 := writtenF_length kd tx.data.toList; have h2 := text_len tx; have h3 := text_len r; rw [hr] at h3; omega
      have HS := hid (writeString_s w.heap.size w.heap.size (wk ++ [32]) r w3 (hI2.next k3) (by simp; omega) (by omega) (by have := kw2.size; have := k3.size; omega)); go_wp2_with fail; refine HS.out.mono ?_; rintro e w4 ⟨rfl, hI4, b4, _⟩; go_wp2_with fail; go_roundw
      case rel => exact ⟨k + 1, by go_num, by omega, by rw [hnx.out, ← hr]; exact hI4, (kp_trans kw2 k3).trans b4⟩
      case measure => simp [intOf]; omega
  · obtain rfl : k = n := by omega
    rw [List.take_of_length_le (by rw [hlen.out]; exact Nat.le_refl _)] at hI; have HS := hid (string_s w.heap.size w.heap.size _ wr hI kw.size); clear hI; go_wp2_with fail; refine HS.out.mono ?_; rintro e w2 ⟨r, rfl, hr, b2⟩; go_wp2_with fail; go_ret; exact ⟨r, rfl, hr, kw.trans b2⟩
end

/- Rows of tokens: are they the same, are they large, may they be; the statements' own copies of them: contracts. -/
section
open Go.RowKit
set_option maxRecDepth 100000
end

/- The calls whose answers the document fixes, at layer 4: they answer so. -/
section
open Go.RowKit
set_option maxRecDepth 100000
theorem lexA_some {l : List UInt8} {y : List (Int × List UInt8)} (h : lexF l = some y) (hl : l.length ≤ 200) : lexA l = (y, 0) := by
 unfold lexA; rw [if_neg (by omega), h]
end

/- The document's layer 4: what is written of tokens that may be: contract. -/
section
open Go.RowKit
set_option maxRecDepth 100000
theorem right_kind {k : Int} {l : List UInt8} (h : rightF k l = true) : k = 1 ∨ k = 2 ∨ k = 3 ∨ k = 4 ∨ k = 5 ∨ k = 6 := by
 unfold rightF at h; by_cases h0 : k = 1 ∨ k = 2 ∨ k = 3 ∨ k = 4 ∨ k = 5 ∨ k = 6
 · exact h0
 · rw [if_neg (by omega), if_neg (by omega), if_neg (by omega), if_neg (by omega), if_neg (by omega)] at h; cases h
end

/- A region that draws its order, gone through once an operation; operations whose guard is known to fail are left out. -/
section
open Go.RowKit
def WantsNot (ops : Array Oper) (a : Act) (o : Oper) : Prop :=
 match o.guard with
 | none => False
 | some (j, b) => ∃ t, dstOf ops j = some t ∧ a.tmps.getD t undef = .bool (!b)
theorem wants_not {ops : Array Oper} {a : Act} {o : Oper} (h : WantsNot ops a o) : Region.wanted o (yielded ops a.tmps) = false := by
 unfold WantsNot at h; unfold Region.wanted; split at h
 · cases h
 · rename_i j b hg
   obtain ⟨t, ht, hv⟩ := h; rw [hg]
   have hlt : t < a.tmps.size := by
    rcases Nat.lt_or_ge t a.tmps.size with h | h
    · exact h
    · rw [Array.getD_eq_getD_getElem?, Array.getElem?_eq_none h] at hv; simp [undef] at hv
   rw [Array.getD_eq_getD_getElem?, Array.getElem?_eq_getElem hlt] at hv; simp only [Option.getD_some] at hv; unfold dstOf at ht; simp [yielded, ht, Array.getElem?_eq_getElem hlt, hv]
section
variable {P : Program} {ops : Array Oper} {Q : Exit → Act → World → Prop}
end
end

/- LexTells: the tokens of any statement, whether any token may be, and what is written of tokens are as the document says: the walk. -/
section
open Go.RowKit
set_option maxRecDepth 100000
theorem step_size {l : List UInt8} (h : l ≠ []) : (∀ m, stepF l = .skip m → m ≤ l.length) ∧ ∀ k t m, stepF l = .tok k t m → m ≤ l.length := by
 cases l with
 | nil => exact absurd rfl h
 | cons c r =>
   rw [stepF]; by_cases h1 : blankF c = true
   · rw [if_pos h1]; exact ⟨fun m e => by injection e with e; simp; omega, fun k t m e => by cases e⟩
   rw [if_neg h1]; by_cases h2 : isLineF (c :: r) = true
   · rw [if_pos h2]; refine ⟨fun m e => ?_, fun k t m e => by cases e⟩; injection e with e; subst e; unfold lineF; split
     · exact Nat.le_refl _
     · have := indexByte_lt (l := c :: r) (c := 10) (by omega); omega
   rw [if_neg h2]; by_cases h3 : isRemarkF (c :: r) = true
   · rw [if_pos h3]
     have h2a : begF [47, 42] (c :: r) = true := by
      unfold isRemarkF at h3; simp only [Bool.and_eq_true] at h3; exact h3.1
     have h5 := (List.isPrefixOf_iff_prefix.1 h2a).length_le; have := (closedF_le (c :: r) 2 (by simpa using h5)).1; split
     · exact ⟨fun m e => (by cases e), fun k t m e => by cases e⟩
     · exact ⟨fun m e => (by injection e with e; omega), fun k t m e => by cases e⟩
   rw [if_neg h3]
   cases hf : firstF (c :: r) with
   | none => exact ⟨fun m e => (by cases e), fun k t m e => by cases e⟩
   | some x =>
     obtain ⟨k, t, n⟩ := x; have := (firstF_size k t n hf).2; refine ⟨fun m e => (by cases e), fun k' t' m e => ?_⟩; simp only [Step.tok.injEq] at e; omega
theorem lexF_len : ∀ (n : Nat) (l : List UInt8) (x : List (Int × List UInt8)), l.length ≤ n → lexF l = some x → x.length ≤ l.length := by
 intro n
 induction n with
 | zero =>
   intro l x hl h; obtain rfl : l = [] := List.eq_nil_of_length_eq_zero (by omega); rw [lexF_nil] at h; injection h with h; subst h; exact Nat.le_refl _
 | succ n ih =>
   intro l x hl h; by_cases hne : l = []
   · subst hne; rw [lexF_nil] at h; injection h with h; subst h; exact Nat.le_refl _
   obtain ⟨hs1, hs2⟩ := step_size hne
   cases hst : stepF l with
   | bad => rw [lexF_bad hne hst] at h; cases h
   | skip m =>
     by_cases hm : m = 0
     · rw [lexF, dif_neg hne, hst] at h; simp [hm] at h
     · rw [lexF_skip hne hst hm] at h; have := ih (l.drop m) x (by rw [List.length_drop]; omega) h; rw [List.length_drop] at this; omega
   | tok k t m =>
     have hml := hs2 k t m hst; by_cases hm : m = 0
     · rw [lexF, dif_neg hne, hst] at h; simp [hm] at h
     · rw [lexF_tok hne hst hm] at h; obtain ⟨y, hy, rfl⟩ := Option.map_eq_some_iff.1 h; have := ih (l.drop m) y (by rw [List.length_drop]; omega) hy; rw [List.length_drop] at this; simp; omega
theorem lexA_len (l : List UInt8) : (lexA l).1.length ≤ 200 := by
 unfold lexA; split
 · simp
 · cases h : lexF l with
   | none => simp
   | some x =>
     have := lexF_len l.length l x (Nat.le_refl _) h; simp; omega
end
end Go.Proofs.YtdhnpmagapbmhaaGreatDoor
