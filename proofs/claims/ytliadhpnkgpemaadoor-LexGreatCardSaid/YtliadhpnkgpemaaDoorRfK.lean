/-
  Rows of tokens: are they the same, are they large, may they be; the statements' own copies of them: contracts.
-/
import Derived.Test.YtliadhpnkgpemaaDoorRfJ
import Derived.Test.YtliadhpnkgpemaaDoorLexJ
import Derived.BigQuiet
namespace Go.Proofs.YtliadhpnkgpemaaDoor
open Go.RowKit
set_option maxRecDepth 100000

theorem take_same {α : Type} [DecidableEq α] {xs ys : List α} {k : Nat} (hx : k < xs.length) (hy : k < ys.length) (h : xs.take k = ys.take k) (he : xs[k] = ys[k]) : xs.take (k + 1) = ys.take (k + 1) := by
  rw [List.take_succ_eq_append_getElem hx, List.take_succ_eq_append_getElem hy, h, he]

set_option maxHeartbeats 2000000 in
theorem tsame_quiet (A A' : Option Addr) (n n' c c' : Nat) (xs ys : List Tk) (w : World) (hx : TR w A n xs) (hy : TR w A' n' ys) (hn : n ≤ 1000000) (hn' : n' ≤ 1000000) (b : Bool) (hb : Hid (decide (xs = ys) = b)) :
    Calls Tryd.prog 11 #[.slice A n c, .slice A' n' c'] w fun e w' => e = .returned (.bool b) ∧ ∃ m, w' = w.drewN m := by
  by_cases hll : n = n'
  · subst hll
    have hlx := Lib.hid hx.len
    have hly := Lib.hid hy.len
    go_enter Tryd.func11, Tryd.ntmps11
    go_wp2
    go_loopw [5] (fun i wr => ∃ k m : Nat, k ≤ n ∧ i = .int .i64 k ∧ Hid (xs.take k = ys.take k) ∧ wr = w.drewN m) (fun i _ => n - (intOf i).toNat)
    case atStart => exact ⟨0, 0, Nat.zero_le _, rfl, Lib.hid (by simp), rfl⟩
    case round =>
      obtain ⟨k, m, hk, rfl, he, hw⟩ := hrel
      have hx' : TR wr A n xs := by subst hw; exact hx.next (kp_drewN _ _)
      have hy' : TR wr A' n ys := by subst hw; exact hy.next (kp_drewN _ _)
      have HW := Lib.hid hw
      clear hw hx hy
      by_cases hlt : k < n
      · have hkx : k < xs.length := by rw [hlx.out]; omega
        have hky : k < ys.length := by rw [hly.out]; omega
        obtain ⟨ad, rfl, _, hc⟩ := hx'.at_ hkx
        obtain ⟨ad', rfl, _, hc'⟩ := hy'.at_ hky
        obtain ⟨c0, c1⟩ := hc _ (Below.refl _ _)
        obtain ⟨d0, d1⟩ := hc' _ (Below.refl _ _)
        clear hc hc' hx' hy'
        have hE := fun u => neq_tokens 37 rfl xs[k].k ys[k].k xs[k].t ys[k].t u
        by_cases hee : xs[k] = ys[k]
        · have hsn : Hid (xs.take (k + 1) = ys.take (k + 1)) := Lib.hid (take_same hkx hky he.out hee)
          have hd : (!decide ((⟨xs[k].k, xs[k].t⟩ : Tk) = ⟨ys[k].k, ys[k].t⟩)) = false := by
            rw [decide_eq_true (by exact hee)]; rfl
          rw [hd] at hE
          clear hee hd
          generalize xs[k].k = x at *
          generalize ys[k].k = y at *
          generalize xs[k].t = s at *
          generalize ys[k].t = t at *
          go_wp2
          go_quiet (fail)
          go_wp2
          go_roundw
          case rel => exact ⟨k + 1, m + nq, by omega, by go_num, hsn, by rw [HW.out, World.drewN_drewN]⟩
          case measure => simp [intOf]; omega
        · have hf : b = false := by
            rw [← hb.out]
            simp only [decide_eq_false_iff_not]
            rintro rfl
            exact hee rfl
          subst hf
          have hd : (!decide ((⟨xs[k].k, xs[k].t⟩ : Tk) = ⟨ys[k].k, ys[k].t⟩)) = true := by
            rw [decide_eq_false (by exact hee)]; rfl
          rw [hd] at hE
          clear hee hd
          generalize xs[k].k = x at *
          generalize ys[k].k = y at *
          generalize xs[k].t = s at *
          generalize ys[k].t = t at *
          go_wp2
          go_quiet (fail)
          go_wp2
          go_ret
          exact ⟨rfl, m + nq, by rw [HW.out, World.drewN_drewN]⟩
      · have hf : b = true := by
          rw [← hb.out]
          have h1 := he.out
          rw [List.take_of_length_le (by rw [hlx.out]; omega), List.take_of_length_le (by rw [hly.out]; omega)] at h1
          simp [h1]
        subst hf
        go_wp2
        go_ret
        exact ⟨rfl, m, HW.out⟩
  · have hf : b = false := by
      rw [← hb.out]
      simp only [decide_eq_false_iff_not]
      rintro rfl
      have := hx.len
      have := hy.len
      omega
    subst hf
    have ht : ((n : Int) != (n' : Int)) = true := by rw [bne_iff_ne]; omega
    go_enter Tryd.func11, Tryd.ntmps11
    go_wp2
    go_ret
    exact ⟨rfl, 0, rfl⟩
theorem tsame_ok (A A' : Option Addr) (n n' c c' : Nat) (xs ys : List Tk) (w : World) (hx : TR w A n xs) (hy : TR w A' n' ys) (hn : n ≤ 1000000) (hn' : n' ≤ 1000000) (b : Bool) (hb : Hid (decide (xs = ys) = b)) :
    Calls Tryd.prog 11 #[.slice A n c, .slice A' n' c'] w fun e w' => e = .returned (.bool b) ∧ Below w.heap.size w w' :=
  (tsame_quiet A A' n n' c c' xs ys w hx hy hn hn' b hb).mono fun _ _ ⟨he, _, hm⟩ => ⟨he, hm ▸ kp_drewN _ _⟩

set_option maxHeartbeats 1000000 in
theorem tlarge_ok (A : Option Addr) (n c : Nat) (ts : List Tk) (w : World) (h : TR w A n ts) (hn : n ≤ 140737488351232) (ht : ∀ t ∈ ts, t.t.size ≤ 140737488351232) :
    Calls Tryd.prog 7 #[.slice A n c] w fun e w' => e = .returned (.bool (decide (2000 < sumT ts))) ∧ w = w' := by
  have hlen := Lib.hid h.len
  have HT := Lib.hid ht
  clear ht
  go_enter Tryd.func7, Tryd.ntmps7
  go_wp2
  go_loop [3, 4] (fun v i => ∃ k m : Nat, k ≤ n ∧ i = .int .i64 k ∧ v = .int .i64 m ∧ Hid (m = sumT (ts.take k)) ∧ m ≤ 140737488353234) (fun _ i => n - (intOf i).toNat)
  case atStart => exact ⟨0, 0, Nat.zero_le _, rfl, rfl, Lib.hid rfl, by omega⟩
  case round =>
    obtain ⟨k, m, hk, rfl, rfl, hm, hmb⟩ := hrel
    by_cases hlt : k < n
    · have hkl : k < ts.length := by rw [hlen.out]; exact hlt
      by_cases hm2 : m ≤ 2000
      · obtain ⟨ad, rfl, _, hc⟩ := h.at_ hkl
        obtain ⟨c0, c1⟩ := hc _ (Below.refl _ _)
        have hts := HT.out _ (List.getElem_mem hkl)
        have hnx : Hid (m + ts[k].t.size + 1 = sumT (ts.take (k + 1))) := Lib.hid (by
          rw [List.take_succ_eq_append_getElem hkl, sumT_append, ← hm.out]
          simp [sumT]
          omega)
        clear hc
        generalize ts[k].k = x at *
        generalize ts[k].t = s at *
        go_wp2
        go_round
        case rel => exact ⟨k + 1, m + s.size + 1, by omega, by go_num, by go_num, hnx, by omega⟩
        case measure => simp [intOf]; omega
      · have hle : sumT (ts.take k) ≤ sumT ts := by
          have e : sumT ts = sumT (ts.take k) + sumT (ts.drop k) := by rw [← sumT_append, List.take_append_drop]
          omega
        have hd : decide (2000 < sumT ts) = true := decide_eq_true (by have := hm.out; omega)
        have HD := Lib.hid hd
        have hm3 : ¬ (m : Int) ≤ 2000 := by omega
        clear hd hle
        go_wp2
        go_ret
        refine ⟨ret_bool ?_, rfl⟩
        rw [HD.out]
    · obtain rfl : k = n := by omega
      have hd : decide (2000 < sumT ts) = decide ((2000 : Int) < (m : Int)) := by
        have := hm.out
        rw [List.take_of_length_le (by rw [hlen.out]; exact Nat.le_refl _)] at this
        rw [← this, Bool.eq_iff_iff]
        simp
        omega
      have HD := Lib.hid hd
      clear hd
      go_wp2
      go_ret
      exact ⟨ret_bool (by rw [HD.out]), rfl⟩

set_option maxHeartbeats 2000000 in
theorem tokens_ok (A : Option Addr) (n c : Nat) (ts : List Tk) (w : World) (h : TR w A n ts) (hn : n * 24 ≤ 140737488351232) :
    Calls Tryd.prog 8 #[.slice A n c] w fun e w' => ∃ A' c', e = .returned (.slice A' n c') ∧ TR w' A' n ts ∧ Below w.heap.size w w' := by
  obtain ⟨i0, hi, hz0, hz1, hz2⟩ := info_parts tkinfoR
  have hlen := Lib.hid h.len
  go_enter Tryd.func8, Tryd.ntmps8
  go_wp2
  go_loopw [3, 9] (fun o i wr => ∃ (k : Nat) (B : Option Addr) (d : Nat), k ≤ n ∧ i = .int .i64 k ∧ o = .slice B k d ∧ OT 37 wr w.heap.size B k d (ts.take k) ∧ Below w.heap.size w wr) (fun _ i _ => n - (intOf i).toNat)
  case atStart => exact ⟨0, _, _, Nat.zero_le _, rfl, rfl, OT.empty _ w, kp_new _ _⟩
  case round =>
    obtain ⟨k, B, d, hk, rfl, rfl, ho, kw⟩ := hrel
    by_cases hlt : k < n
    · have hkl : k < ts.length := by rw [hlen.out]; exact hlt
      obtain ⟨ad, rfl, _, hc⟩ := h.at_ hkl
      obtain ⟨c0, c1⟩ := hc _ kw
      have hnx : Hid (tkC (ts.take (k + 1)) = tkC (ts.take k) ++ [.int .i64 ts[k].k, .string ts[k].t]) := Lib.hid (tkC_next ts k hkl)
      have hsw := kw.size
      clear hc
      generalize ts[k].k = x at *
      generalize ts[k].t = s at *
      have hsrc : ∀ X, Rd ((wr.alloc X).alloc (.cells #[.int .i64 x, .string s] 37)) (wr.heap.size + 1 + 1) (some ⟨wr.heap.size + 1, 0, none⟩) [.int .i64 x, .string s] := fun X => by
        have := Rd.new (wr.alloc X) 37 [.int .i64 x, .string s]
        simpa using this
      have HSRC := Lib.hid hsrc
      clear hsrc
      go_wp2_with (at_builtin; refine wpList_append_rds rfl _ _ _ rfl w.heap.size 37 i0 _ 2 24 Tryd.underlying27 hi hz0 hz1 hz2 rfl (by omega) _ k _ rfl ((ho.own.alloc _).alloc _) _ _ _ _ [.int .i64 x, .string s] rfl rfl (HSRC.out _) (by simp [Value.oneCell']) (by unfold maxLen; omega) (by omega) (by simp; omega) ?_; intro v3 w3 hown3 hg3)
      rw [← hnx.out] at hown3
      obtain ⟨A3, c3, rfl, h3, _⟩ := own_form_s hown3
      go_roundw
      case rel => exact ⟨k + 1, A3, c3, by omega, by go_num, rfl, ⟨hown3, h3⟩, (kp_alloc (kp_alloc kw _) _).trans (below_own_s ((ho.own.alloc _).alloc _) hg3 (by simp; omega))⟩
      case measure => simp [intOf]; omega
    · obtain rfl : k = n := by omega
      rw [List.take_of_length_le (by rw [hlen.out]; exact Nat.le_refl _)] at ho
      go_wp2_with fail
      go_ret
      exact ⟨B, d, rfl, ho.tr, kw⟩

def mayF (ts : List Tk) : Bool := ts.all fun t => rightF t.k t.t.data.toList

set_option maxHeartbeats 1000000 in
theorem may_ok (A : Option Addr) (n c : Nat) (ts : List Tk) (w : World) (h : TR w A n ts) (hn : n ≤ 1000000) (hs : ∀ t ∈ ts, t.t.size ≤ 1000000) :
    Calls Tryd.prog 14 #[.slice A n c] w fun e w' => e = .returned (.bool (mayF ts)) ∧ Below w.heap.size w w' := by
  have hlen := Lib.hid h.len
  have HS := Lib.hid hs
  clear hs
  go_enter Tryd.func14, Tryd.ntmps14
  go_wp2
  go_loopw [7] (fun i wr => ∃ (k : Nat), k ≤ n ∧ i = .int .i64 k ∧ Hid (mayF ts = mayF (ts.drop k)) ∧ Below w.heap.size w wr) (fun i _ => n - (intOf i).toNat)
  case atStart => exact ⟨0, Nat.zero_le _, rfl, Lib.hid rfl, Below.refl _ _⟩
  case round =>
    obtain ⟨k, hk, rfl, hx, kw⟩ := hrel
    by_cases hlt : k < n
    · have hkl : k < ts.length := by rw [hlen.out]; exact hlt
      obtain ⟨ad, rfl, _, hc⟩ := h.at_ hkl
      obtain ⟨c0, c1⟩ := hc _ kw
      have hst : mayF (ts.drop k) = (rightF ts[k].k ts[k].t.data.toList && mayF (ts.drop (k + 1))) := by
        rw [List.drop_eq_getElem_cons hkl]
        rfl
      rw [hst] at hx
      have hR := fun u => rright_ok ts[k].k ts[k].t u (HS.out _ (List.getElem_mem hkl))
      unfold RightTo at hR
      clear hc hst
      generalize rightF ts[k].k ts[k].t.data.toList = b at *
      generalize ts[k].k = x at *
      generalize ts[k].t = s at *
      have HR := Lib.hid hR
      clear hR
      cases b
      · have hF : mayF ts = false := by rw [hx.out]; rfl
        have HF := Lib.hid hF
        clear hF hx
        go_wp2_with fail
        refine (HR.out _).mono ?_
        rintro e w1 ⟨rfl, k1⟩
        go_wp2_with fail
        go_ret
        exact ⟨by rw [HF.out]; rfl, kp_trans (kp_alloc kw _) k1⟩
      · have hx2 : Hid (mayF ts = mayF (ts.drop (k + 1))) := Lib.hid (by rw [hx.out]; rfl)
        clear hx
        go_wp2_with fail
        refine (HR.out _).mono ?_
        rintro e w1 ⟨rfl, k1⟩
        go_wp2_with fail
        go_roundw
        case rel => exact ⟨k + 1, by omega, by go_num, hx2, kp_trans (kp_alloc kw _) k1⟩
        case measure => simp [intOf]; omega
    · obtain rfl : k = n := by omega
      have hF : mayF ts = true := by rw [hx.out, List.drop_eq_nil_of_le (by rw [hlen.out]; exact Nat.le_refl _)]; rfl
      have HF := Lib.hid hF
      clear hF hx
      go_wp2_with fail
      go_ret
      exact ⟨by rw [HF.out]; rfl, kw⟩
end Go.Proofs.YtliadhpnkgpemaaDoor
