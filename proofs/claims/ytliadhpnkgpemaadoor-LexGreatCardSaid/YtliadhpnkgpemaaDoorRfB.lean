/-
  The document's layer 4: blanks cut off, what stands between quotes, words: contracts.
-/
import Derived.Test.YtliadhpnkgpemaaDoorRfA
namespace Go.Proofs.YtliadhpnkgpemaaDoor
open Go.RowKit
set_option maxRecDepth 100000

/-- blanks at the ends are cut off, the first ones first -/
def trimR (l : List UInt8) : List UInt8 := ((l.dropWhile blankF).reverse.dropWhile blankF).reverse

theorem dropWhile_append_all {p : UInt8 → Bool} : ∀ (a b : List UInt8), (∀ x ∈ a, p x = true) → (a ++ b).dropWhile p = b.dropWhile p
  | [], _, _ => rfl
  | x :: a, b, h => by
    have := dropWhile_append_all a b (fun y hy => h y (List.mem_cons_of_mem _ hy))
    rw [List.cons_append, List.dropWhile_cons_of_pos (h x (by simp)), this]
theorem dropWhile_append_some {p : UInt8 → Bool} : ∀ (a b : List UInt8), (∃ x ∈ a, p x = false) → (a ++ b).dropWhile p = a.dropWhile p ++ b
  | [], _, ⟨x, h, _⟩ => by simp at h
  | x :: a, b, h => by
    by_cases hx : p x = true
    · rw [List.cons_append, List.dropWhile_cons_of_pos hx, List.dropWhile_cons_of_pos hx]
      refine dropWhile_append_some a b ?_
      obtain ⟨y, hy, hp⟩ := h
      rcases List.mem_cons.1 hy with rfl | hy
      · rw [hx] at hp; cases hp
      · exact ⟨y, hy, hp⟩
    · rw [List.cons_append, List.dropWhile_cons_of_neg hx, List.dropWhile_cons_of_neg hx]
      rfl

/-- the end cut off by one -/
def rtrim (p : UInt8 → Bool) (l : List UInt8) : List UInt8 := (l.reverse.dropWhile p).reverse
theorem rtrim_cons {p : UInt8 → Bool} (x : UInt8) (l : List UInt8) : rtrim p (x :: l) = if (∃ y ∈ l, p y = false) then x :: rtrim p l else (if p x = true then [] else [x]) := by
  unfold rtrim
  rw [List.reverse_cons]
  by_cases h : ∃ y ∈ l, p y = false
  · rw [if_pos h, dropWhile_append_some _ _ (by obtain ⟨y, hy, hp⟩ := h; exact ⟨y, List.mem_reverse.2 hy, hp⟩)]
    simp
  · rw [if_neg h, dropWhile_append_all _ _ (fun y hy => by
      rcases hb : p y with _ | _
      · exact absurd ⟨y, List.mem_reverse.1 hy, hb⟩ h
      · rfl)]
    by_cases hx : p x = true
    · rw [List.dropWhile_cons_of_pos hx, if_pos hx]; rfl
    · rw [List.dropWhile_cons_of_neg hx, if_neg hx]; rfl
theorem rtrim_all {p : UInt8 → Bool} {l : List UInt8} (h : ∀ x ∈ l, p x = true) : rtrim p l = [] := by
  unfold rtrim
  have := dropWhile_append_all (p := p) l.reverse [] (fun x hx => h x (List.mem_reverse.1 hx))
  rw [List.append_nil] at this
  rw [this]
  rfl
theorem trim_sides {p : UInt8 → Bool} : ∀ l : List UInt8, (rtrim p l).dropWhile p = rtrim p (l.dropWhile p)
  | [] => rfl
  | x :: l => by
    by_cases hx : p x = true
    · rw [List.dropWhile_cons_of_pos hx, ← trim_sides l, rtrim_cons]
      by_cases h : ∃ y ∈ l, p y = false
      · rw [if_pos h, List.dropWhile_cons_of_pos hx]
      · rw [if_neg h, if_pos hx, rtrim_all (fun y hy => by
          rcases hb : p y with _ | _
          · exact absurd ⟨y, hy, hb⟩ h
          · rfl)]
    · rw [List.dropWhile_cons_of_neg hx, rtrim_cons]
      by_cases h : ∃ y ∈ l, p y = false
      · rw [if_pos h, List.dropWhile_cons_of_neg hx]
      · rw [if_neg h, if_neg hx, List.dropWhile_cons_of_neg hx]
theorem blanks_contains (c : UInt8) : blanks4.contains c = blankF c := by
  have := by_all (fun c => blanks4.contains c == blankF c) (by decide +kernel) c
  simpa using this
theorem trimF_R (l : List UInt8) : trimF l = trimR l := by
  have hp : (blanks4.contains ·) = blankF := funext blanks_contains
  unfold trimF Lib.trimS Lib.trimLeftS Lib.trimRightS trimR
  rw [hp]
  exact trim_sides l

theorem dropWhile_front {p : UInt8 → Bool} {c : UInt8} {r : List UInt8} (h : p c = true) : (c :: r).dropWhile p = r.dropWhile p := List.dropWhile_cons_of_pos h
theorem dropWhile_stays {p : UInt8 → Bool} {c : UInt8} {r : List UInt8} (h : p c = false) : (c :: r).dropWhile p = c :: r := List.dropWhile_cons_of_neg (by simp [h])
theorem rtrim_front {p : UInt8 → Bool} {c : UInt8} {r : List UInt8} (h : p c = true) : rtrim p (r ++ [c]) = rtrim p r := by
  unfold rtrim
  rw [List.reverse_append]
  exact congrArg List.reverse (dropWhile_front h)
theorem rtrim_stays {p : UInt8 → Bool} {c : UInt8} {r : List UInt8} (h : p c = false) : rtrim p (r ++ [c]) = r ++ [c] := by
  unfold rtrim
  rw [List.reverse_append]
  show ((c :: r.reverse).dropWhile p).reverse = _
  rw [dropWhile_stays h]
  simp

def strOf : Value → ByteArray
  | .string s => s
  | _ => ⟨#[]⟩

set_option maxHeartbeats 1000000 in
theorem rtrim_ok (s : ByteArray) (w : World) (hs : s.size ≤ 1000000) : Calls Tryd.prog 43 #[.string s] w fun e w' => ∃ r : ByteArray, e = .returned (.string r) ∧ r.data.toList = trimF s.data.toList ∧ w = w' := by
  rw [trimF_R]
  have hT : trimR s.data.toList = rtrim blankF (s.data.toList.dropWhile blankF) := rfl
  rw [hT]
  generalize hd : s.data.toList.dropWhile blankF = dl
  have HD := Lib.hid hd
  clear hd hT
  go_enter Tryd.func43, Tryd.ntmps43
  go_wp2
  go_loop [0] (fun v => ∃ q : ByteArray, v = .string q ∧ q.size ≤ s.size ∧ Hid (q.data.toList.dropWhile blankF = dl)) (fun v => (strOf v).size)
  case atStart => exact ⟨s, rfl, Nat.le_refl _, HD⟩
  case round =>
    obtain ⟨q, rfl, hq, hx⟩ := hrel
    clear HD
    by_cases h0 : q.size = 0
    · have hn : q.data.toList = [] := List.eq_nil_of_length_eq_zero (by rw [text_len]; exact h0)
      have hdl : dl = [] := by rw [← hx.out, hn]; rfl
      subst hdl
      clear hx
      have HQ : Hid (rtrim blankF q.data.toList = rtrim blankF []) := Lib.hid (by rw [hn])
      clear hn
      go_wp2
      go_loop [0] (fun v => ∃ q2 : ByteArray, v = .string q2 ∧ q2.size ≤ s.size ∧ Hid (rtrim blankF q2.data.toList = rtrim blankF ([] : List UInt8))) (fun v => (strOf v).size)
      case atStart => exact ⟨q, rfl, hq, HQ⟩
      case round =>
        obtain ⟨q2, rfl, hq2, hx2⟩ := hrel
        clear HQ
        by_cases h02 : q2.size = 0
        · have hn2 : q2.data.toList = [] := List.eq_nil_of_length_eq_zero (by rw [text_len]; exact h02)
          have hr2 : Hid (q2.data.toList = rtrim blankF ([] : List UInt8)) := Lib.hid (by rw [← hx2.out, hn2]; rfl)
          clear hx2 hn2
          go_wp2_with fail
          go_ret
          exact ⟨q2, rfl, hr2.out, rfl⟩
        · have hp2 : 0 < q2.size := by omega
          have hlast : q2.data.toList = q2.data.toList.take (q2.size - 1) ++ [q2.data.toList[q2.size - 1]'(by rw [text_len]; omega)] := by
            rw [← List.take_succ_eq_append_getElem, List.take_of_length_le (by rw [text_len]; omega)]
          have hb2 := text_at q2 (q2.size - 1) (by omega)
          generalize q2.data.toList[q2.size - 1]'(by rw [text_len]; omega) = c at hlast hb2
          have hfront := text_front q2 (q2.size - 1)
          have hidx : ((q2.size : Int) + -1).toNat = q2.size - 1 := by omega
          have hin : (0 : Int) ≤ (q2.size : Int) + -1 := by omega
          have hB := fun u => rblank_ok c u
          have hsz2 : (q2.extract 0 (q2.size - 1)).size = q2.size - 1 := by rw [ByteArray.size_extract]; omega
          cases hc : blankF c
          · rw [hc] at hB
            have hr2 : Hid (q2.data.toList = rtrim blankF ([] : List UInt8)) := Lib.hid (by rw [← hx2.out, hlast, rtrim_stays hc])
            have HB := Lib.hid hB
            clear hB hx2 hlast hc hfront hsz2
            go_wp2_with fail
            refine (HB.out _).mono ?_
            rintro e w1 ⟨rfl, rfl⟩
            go_wp2_with fail
            go_ret
            exact ⟨q2, rfl, hr2.out, rfl⟩
          · rw [hc] at hB
            have hr2 : Hid (rtrim blankF (q2.extract 0 (q2.size - 1)).data.toList = rtrim blankF ([] : List UInt8)) := Lib.hid (by rw [hfront, ← hx2.out]; conv => rhs; rw [hlast, rtrim_front hc])
            have HB := Lib.hid hB
            have HS2 := Lib.hid hsz2
            clear hB hx2 hlast hc hfront hsz2
            go_wp2_with fail
            refine (HB.out _).mono ?_
            rintro e w1 ⟨rfl, rfl⟩
            go_wp2_with fail
            go_round
            case rel => exact ⟨q2.extract 0 (q2.size - 1), rfl, by rw [HS2.out]; omega, hr2⟩
            case measure => simp only [strOf]; rw [HS2.out]; omega
    · have hp : 0 < q.size := by omega
      obtain ⟨c, r, hl⟩ : ∃ c r, q.data.toList = c :: r := by
        cases h : q.data.toList with
        | nil => have := text_len q; rw [h] at this; simp at this; omega
        | cons c r => exact ⟨c, r, rfl⟩
      have hb := text_at q 0 hp
      have hb0 : q[0] = c := by rw [hb]; simp [hl]
      clear hb
      have hrest := text_rest q 1
      have hsz : (q.extract 1 q.size).size = q.size - 1 := by rw [ByteArray.size_extract]; omega
      have hB := fun u => rblank_ok c u
      cases hc : blankF c
      · rw [hc] at hB
        have hql : q.data.toList = dl := by rw [← hx.out, hl, dropWhile_stays hc]
        have HQ : Hid (rtrim blankF q.data.toList = rtrim blankF dl) := Lib.hid (by rw [hql])
        have HB := Lib.hid hB
        clear hB hx hc hrest hsz hl hql
        go_wp2_with fail
        refine (HB.out _).mono ?_
        rintro e w1 ⟨rfl, rfl⟩
        go_wp2
        go_loop [0] (fun v => ∃ q2 : ByteArray, v = .string q2 ∧ q2.size ≤ s.size ∧ Hid (rtrim blankF q2.data.toList = rtrim blankF dl)) (fun v => (strOf v).size)
        case atStart => exact ⟨q, rfl, hq, HQ⟩
        case round =>
          obtain ⟨q2, rfl, hq2, hx2⟩ := hrel
          clear HQ
          by_cases h02 : q2.size = 0
          · have hn2 : q2.data.toList = [] := List.eq_nil_of_length_eq_zero (by rw [text_len]; exact h02)
            have hr2 : Hid (q2.data.toList = rtrim blankF dl) := Lib.hid (by rw [← hx2.out, hn2]; rfl)
            clear hx2 hn2
            go_wp2_with fail
            go_ret
            exact ⟨q2, rfl, hr2.out, rfl⟩
          · have hp2 : 0 < q2.size := by omega
            have hlast : q2.data.toList = q2.data.toList.take (q2.size - 1) ++ [q2.data.toList[q2.size - 1]'(by rw [text_len]; omega)] := by
              rw [← List.take_succ_eq_append_getElem, List.take_of_length_le (by rw [text_len]; omega)]
            have hb2 := text_at q2 (q2.size - 1) (by omega)
            generalize q2.data.toList[q2.size - 1]'(by rw [text_len]; omega) = c at hlast hb2
            have hfront := text_front q2 (q2.size - 1)
            have hidx : ((q2.size : Int) + -1).toNat = q2.size - 1 := by omega
            have hin : (0 : Int) ≤ (q2.size : Int) + -1 := by omega
            have hB := fun u => rblank_ok c u
            have hsz2 : (q2.extract 0 (q2.size - 1)).size = q2.size - 1 := by rw [ByteArray.size_extract]; omega
            cases hc : blankF c
            · rw [hc] at hB
              have hr2 : Hid (q2.data.toList = rtrim blankF dl) := Lib.hid (by rw [← hx2.out, hlast, rtrim_stays hc])
              have HB := Lib.hid hB
              clear hB hx2 hlast hc hfront hsz2
              go_wp2_with fail
              refine (HB.out _).mono ?_
              rintro e w1 ⟨rfl, rfl⟩
              go_wp2_with fail
              go_ret
              exact ⟨q2, rfl, hr2.out, rfl⟩
            · rw [hc] at hB
              have hr2 : Hid (rtrim blankF (q2.extract 0 (q2.size - 1)).data.toList = rtrim blankF dl) := Lib.hid (by rw [hfront, ← hx2.out]; conv => rhs; rw [hlast, rtrim_front hc])
              have HB := Lib.hid hB
              have HS2 := Lib.hid hsz2
              clear hB hx2 hlast hc hfront hsz2
              go_wp2_with fail
              refine (HB.out _).mono ?_
              rintro e w1 ⟨rfl, rfl⟩
              go_wp2_with fail
              go_round
              case rel => exact ⟨q2.extract 0 (q2.size - 1), rfl, by rw [HS2.out]; omega, hr2⟩
              case measure => simp only [strOf]; rw [HS2.out]; omega
      · rw [hc] at hB
        have hr2 : Hid ((q.extract 1 q.size).data.toList.dropWhile blankF = dl) := Lib.hid (by rw [hrest, ← hx.out, hl, dropWhile_front hc]; rfl)
        have HB := Lib.hid hB
        have HS := Lib.hid hsz
        clear hB hx hc hrest hsz hl
        go_wp2_with fail
        refine (HB.out _).mono ?_
        rintro e w1 ⟨rfl, rfl⟩
        go_wp2_with fail
        go_round
        case rel => exact ⟨q.extract 1 q.size, rfl, by rw [HS.out]; omega, hr2⟩
        case measure => simp only [strOf]; rw [HS.out]; omega
end Go.Proofs.YtliadhpnkgpemaaDoor
