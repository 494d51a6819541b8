/-
  Contracts and plain functions that the law stands on, part 9 of 24.
-/
import Derived.Test.YtaoegiohnebnhaaGreatDoorQD8
import Derived.Test.YtaoegiohnebnhaaGreatDoorShelf4
import Derived.OneCell
namespace Go.Proofs.YtaoegiohnebnhaaGreatDoor
/- The document's layer 6: what is read of a table and written to it: contracts. -/
section
open Go.RowKit
set_option maxRecDepth 100000

set_option maxHeartbeats 4000000 in
theorem rreads_ok (d : Int) (k v : ByteArray) (A : Option Addr) (n c : Nat) (ts : List Kv) (w : World) (h : KR w A n ts) (hs : Srt ts) (hn : n ≤ 1000) :
    Calls Tryz.prog 51 #[.agg #[.int .i64 d, .string k, .string v], .slice A n c] w fun e w' => ∃ A' n' c', e = .returned (.slice A' n' c') ∧ XR w' A' n' (readsF d k ts) ∧ n' ≤ 2000 ∧ Below w.heap.size w w' := by
  obtain ⟨i0, hi, hz0, hz1, hz2⟩ := info_parts strinfo6
  have kw := kp_new w (.cells #[.int .i64 d, .string k, .string v] 89)
  have HF := Lib.hid (fold_reads d k hs)
  have HL := Lib.hid h.len
  have HH := Lib.hid h
  have hbx : ∀ u, Below (w.alloc (.cells #[.int .i64 d, .string k, .string v] 89)).heap.size (w.alloc (.cells #[.int .i64 d, .string k, .string v] 89)) u → _ := fun u hu => box3 hu
  have HBX := Lib.hid hbx
  have h0 := kp_new (w.alloc (.cells #[.int .i64 d, .string k, .string v] 89)) (.cells #[] 9)
  have HK0 := Lib.hid h0
  have hown0 : Hid (((w.alloc (.cells #[.int .i64 d, .string k, .string v] 89)).alloc (.cells #[] 9)).ownsRow (w.heap.size + 1) 9 1 (.slice (some ⟨w.heap.size + 1, 0, none⟩) 0 0) 0 []) := Lib.hid (by
    have := own_new_s (w.alloc (.cells #[.int .i64 d, .string k, .string v] 89)) (w.heap.size + 1) 1 9 0 [] rfl (by simp) (by simp [maxLen])
    simpa using this)
  clear hbx h hs h0
  go_enter Tryz.func51, Tryz.ntmps51
  go_wp2_with fail
  go_loopw [5, 6] (fun o i wr => ∃ (q z : Nat) (B : Option Addr) (e : Nat), q ≤ n ∧ z ≤ 2 * q ∧ i = .int .i64 q ∧ o = .slice B z e ∧ wr.ownsRow (w.heap.size + 1) 9 1 (.slice B z e) z (tvs ((ts.take q).foldl (stepR d k) [])) ∧ Below (w.alloc (.cells #[.int .i64 d, .string k, .string v] 89)).heap.size (w.alloc (.cells #[.int .i64 d, .string k, .string v] 89)) wr) (fun _ i _ => n - (intOf i).toNat)
  case atStart => exact ⟨0, 0, _, 0, Nat.zero_le _, Nat.zero_le _, rfl, rfl, hown0.out, HK0.out⟩
  case round =>
    obtain ⟨q, z, B, e, hq, hz, rfl, rfl, ho, kr⟩ := hrel
    have K0 := kp_trans kw kr
    have hsw : w.heap.size + 1 ≤ wr.heap.size := by have := kr.size; simpa using this
    by_cases hlt : q < n
    · have hkl : q < ts.length := by rw [HL.out]; exact hlt
      obtain ⟨b0, b1, _⟩ := HBX.out wr kr
      have hfold : Hid ((ts.take (q + 1)).foldl (stepR d k) [] = stepR d k ((ts.take q).foldl (stepR d k) []) ts[q]) := Lib.hid (by
        rw [List.take_succ_eq_append_getElem hkl, List.foldl_append]
        rfl)
      have hlo : ((ts.take q).foldl (stepR d k) []).length = z := by have := ho.1; rw [tvs_length] at this; omega
      obtain ⟨ad, rfl, had, hc⟩ := HH.out.at_ hkl
      have HC := Lib.hid hc
      obtain ⟨c0, c1⟩ := hc _ K0
      have hst : stepR d k ((ts.take q).foldl (stepR d k) []) ts[q] = if d = 1 ∧ ts[q].k = k then (ts.take q).foldl (stepR d k) [] ++ [ts[q].v] else if d = 2 ∧ ((ts.take q).foldl (stepR d k) []).length < 20 then (ts.take q).foldl (stepR d k) [] ++ [ts[q].k, ts[q].v] else (ts.take q).foldl (stepR d k) [] := rfl
      rw [hlo] at hst
      rw [hst] at hfold
      have hz2000 : z ≤ 2000 := by omega
      have HZ := Lib.hid hz
      clear hc hst hlo hz
      generalize (ts.take q).foldl (stepR d k) [] = acc at *
      generalize ts[q].k = x at *
      generalize ts[q].v = y at *
      by_cases h1 : d = 1
      · subst h1
        by_cases hxk : x = k
        · have hq1 : (x.toList == k.toList) = true := by rw [hxk]; simp
          have hf : Hid ((ts.take (q + 1)).foldl (stepR 1 k) [] = acc ++ [y]) := Lib.hid (by rw [hfold.out, if_pos ⟨rfl, hxk⟩])
          clear hfold hxk
          go_wp2_with fail
          go_quiet (fail)
          have kq : Below wr.heap.size wr (wr.drewN nq) := kp_drewN wr nq
          have hoq : (wr.drewN nq).ownsRow (w.heap.size + 1) 9 1 (.slice B z e) z (tvs acc) := own_below_s ho kq (Nat.le_refl _)
          have KQ := kp_trans K0 kq
          have krq := kp_trans kr kq
          generalize wr.drewN nq = wq at *
          obtain ⟨d0, d1⟩ := HC.out _ KQ
          obtain ⟨g0, g1, _⟩ := HBX.out wq krq
          have HO := Lib.hid (hoq.alloc (.cells #[.string y] 9))
          have HSRC : Hid (Rd (wq.alloc (.cells #[.string y] 9)) (wq.heap.size + 1) (some ⟨wq.heap.size, 0, none⟩) [.string y]) := Lib.hid (Rd.new wq 9 [.string y])
          have HSW := Lib.hid (show w.heap.size + 1 ≤ (wq.alloc (.cells #[.string y] 9)).heap.size by have := krq.size; simp at this ⊢; omega)
          clear ho hoq c0 c1 b0 b1 kr kq K0
          go_wp2_with (at_builtin; refine wpList_append_rd rfl _ _ _ rfl (w.heap.size + 1) 9 i0 _ 16 Tryz.underlying34 hi hz0 hz1 hz2 rfl _ z _ rfl HO.out _ _ _ _ [.string y] rfl rfl HSRC.out (by simp [Value.oneCell']) (by unfold maxLen; omega) (by omega) HSW.out ?_; intro v3 w3 hown3 hg3; obtain ⟨A3, c3, rfl, _, _⟩ := own_form hown3; have k3 := (kp_alloc krq (.cells #[.string y] 9)).trans ((below_own_s HO.out hg3 HSW.out).mono (by simp)); obtain ⟨e0, e1, _⟩ := HBX.out w3 k3)
          go_roundw
          case rel =>
            refine ⟨q + 1, z + 1, A3, c3, by omega, by have := HZ.out; omega, by go_num, rfl, ?_, k3⟩
            rw [hf.out, tvs_append]
            exact hown3
          case measure => simp [intOf]; omega
        · have hq1 : (x.toList == k.toList) = false := by
            simp only [beq_eq_false_iff_ne, ne_eq]
            exact fun h => hxk (bytes_ext h)
          have hf : Hid ((ts.take (q + 1)).foldl (stepR 1 k) [] = acc) := Lib.hid (by rw [hfold.out, if_neg (fun h => hxk h.2), if_neg (by omega)])
          clear hfold hxk
          go_wp2_with fail
          go_quiet (fail)
          have kq : Below wr.heap.size wr (wr.drewN nq) := kp_drewN wr nq
          have hoq : Hid ((wr.drewN nq).ownsRow (w.heap.size + 1) 9 1 (.slice B z e) z (tvs acc)) := Lib.hid (own_below_s ho kq (Nat.le_refl _))
          have krq := kp_trans kr kq
          generalize wr.drewN nq = wq at *
          obtain ⟨g0, g1, _⟩ := HBX.out wq krq
          clear ho c0 c1 b0 b1 kr kq K0
          go_wp2_with fail
          go_roundw
          case rel => exact ⟨q + 1, z, B, e, by omega, by have := HZ.out; omega, by go_num, rfl, by rw [hf.out]; exact hoq.out, krq⟩
          case measure => simp [intOf]; omega
      · have n1 : (d == 1) = false := by simpa using h1
        by_cases h2 : d = 2 ∧ z < 20
        · obtain ⟨rfl, hz20⟩ := h2
          have hz20i : (z : Int) < 20 := by omega
          have hf : Hid ((ts.take (q + 1)).foldl (stepR 2 k) [] = acc ++ [x, y]) := Lib.hid (by rw [hfold.out, if_neg (by omega), if_pos ⟨rfl, hz20⟩])
          clear hfold h1
          go_wp2_with fail
          go_quiet (fail)
          have kq : Below wr.heap.size wr (wr.drewN nq) := kp_drewN wr nq
          have hoq : (wr.drewN nq).ownsRow (w.heap.size + 1) 9 1 (.slice B z e) z (tvs acc) := own_below_s ho kq (Nat.le_refl _)
          have KQ := kp_trans K0 kq
          have krq := kp_trans kr kq
          generalize wr.drewN nq = wq at *
          obtain ⟨d0, d1⟩ := HC.out _ KQ
          obtain ⟨g0, g1, _⟩ := HBX.out wq krq
          have HOQ := Lib.hid hoq
          have hql : (q : Int) < (n : Int) := by omega
          clear ho hoq c0 c1 b0 b1 kr kq K0
          have HO := Lib.hid (HOQ.out.drew.alloc (.cells #[.string x, .string y] 9))
          have HSRC : Hid (Rd (wq.drew.alloc (.cells #[.string x, .string y] 9)) (wq.heap.size + 1) (some ⟨wq.heap.size, 0, none⟩) [.string x, .string y]) := Lib.hid (Rd.new wq.drew 9 [.string x, .string y])
          have HSW := Lib.hid (show w.heap.size + 1 ≤ (wq.drew.alloc (.cells #[.string x, .string y] 9)).heap.size by have := krq.size; simp at this ⊢; omega)
          clear HOQ
          go_wp2_with fail
          go_region_law (refine step_append_rd rfl (.tmp 43) (.tmp 54) _ rfl (w.heap.size + 1) 9 i0 _ 16 Tryz.underlying34 hi hz0 hz1 hz2 rfl _ z _ rfl HO.out _ _ _ _ [.string x, .string y] rfl rfl HSRC.out (by simp [Value.oneCell']) (by unfold maxLen; omega) (by omega) HSW.out ?_; intro v3 w3 hown3 hg3; obtain ⟨A3, c3, rfl, _, _⟩ := own_form hown3; have k3 := (kp_alloc (krq.drew) (.cells #[.string x, .string y] 9)).trans ((below_own_s HO.out hg3 HSW.out).mono (by simp)); obtain ⟨e0, e1, _⟩ := HBX.out w3 k3)
          all_goals
            go_wp2_with fail
            go_roundw
            case rel =>
              refine ⟨q + 1, z + 2, A3, c3, by omega, by have := HZ.out; omega, by go_num, rfl, ?_, k3⟩
              rw [hf.out, tvs_append]
              exact hown3
            case measure => simp [intOf]; omega
        · have hf : Hid ((ts.take (q + 1)).foldl (stepR d k) [] = acc) := Lib.hid (by rw [hfold.out, if_neg (fun h => h1 h.1), if_neg h2])
          have hg : (d == 2) = false ∨ ((d == 2) = true ∧ ¬ (z : Int) < 20) := by
            by_cases hd : d = 2
            · exact .inr ⟨by simpa using hd, by have := fun h => h2 ⟨hd, h⟩; omega⟩
            · exact .inl (by simpa using hd)
          clear hfold h1 h2
          rcases hg with hg | ⟨hg, hg2⟩
          all_goals
            go_wp2_with fail
            go_quiet (fail)
            have kq : Below wr.heap.size wr (wr.drewN nq) := kp_drewN wr nq
            have hoq : Hid ((wr.drewN nq).ownsRow (w.heap.size + 1) 9 1 (.slice B z e) z (tvs acc)) := Lib.hid (own_below_s ho kq (Nat.le_refl _))
            have krq := kp_trans kr kq
            generalize wr.drewN nq = wq at *
            obtain ⟨g0, g1, _⟩ := HBX.out wq krq
            clear ho c0 c1 b0 b1 kr kq K0
            go_wp2_with fail
            go_roundw
            case rel => exact ⟨q + 1, z, B, e, by omega, by have := HZ.out; omega, by go_num, rfl, by rw [hf.out]; exact hoq.out, krq⟩
            case measure => simp [intOf]; omega
    · obtain rfl : q = n := by omega
      rw [List.take_of_length_le (by rw [HL.out]; exact Nat.le_refl _), HF.out] at ho
      go_wp2_with fail
      go_ret
      exact ⟨B, z, e, rfl, XR.of_own ho, by omega, K0⟩
end

/- The document's layer 6: what is written to a table: contract. -/
section
open Go.RowKit
set_option maxRecDepth 100000

set_option maxHeartbeats 8000000 in
theorem rwrites_ok (d : Int) (k v : ByteArray) (A : Option Addr) (n c : Nat) (ts : List Kv) (w : World) (h : KR w A n ts) (hs : Srt ts) (hn : n ≤ 900) :
    Calls Tryz.prog 39 #[.agg #[.int .i64 d, .string k, .string v], .slice A n c] w fun e w' => ∃ A' n' c', e = .returned (.tuple #[.slice A' n' c', .int .i64 (writesF d k v ts).2]) ∧ KR w' A' n' (writesF d k v ts).1 ∧ n' ≤ 2000 ∧ Below w.heap.size w w' := by
  obtain ⟨i0, hi, hz0, hz1, hz2⟩ := info_parts kvinfoR
  have kw := kp_new w (.cells #[.int .i64 d, .string k, .string v] 89)
  have hF := fold_writes d k v hs
  generalize writesF d k v ts = W at *
  have HF := Lib.hid hF
  clear hF
  have HL := Lib.hid h.len
  have HH := Lib.hid h
  have hbx : ∀ u, Below (w.alloc (.cells #[.int .i64 d, .string k, .string v] 89)).heap.size (w.alloc (.cells #[.int .i64 d, .string k, .string v] 89)) u → _ := fun u hu => box3 hu
  have HBX := Lib.hid hbx
  have h0 := kp_new (w.alloc (.cells #[.int .i64 d, .string k, .string v] 89)) (.cells #[] 49)
  have HK0 := Lib.hid h0
  have hown0 : Hid (OK 49 ((w.alloc (.cells #[.int .i64 d, .string k, .string v] 89)).alloc (.cells #[] 49)) (w.heap.size + 1) (some ⟨w.heap.size + 1, 0, none⟩) 0 0 []) := Lib.hid (by
    have := OK.empty 49 (w.alloc (.cells #[.int .i64 d, .string k, .string v] 89))
    simpa using this)
  clear hbx h hs h0
  go_enter Tryz.func39, Tryz.ntmps39
  go_wp2_with fail
  go_loopw [6, 7, 8, 9] (fun o m f i wr => ∃ (q z : Nat) (B : Option Addr) (e : Nat) (acc : List Kv) (nn : Int) (dn : Bool), q ≤ n ∧ z ≤ 2 * q ∧ i = .int .i64 q ∧ o = .slice B z e ∧ m = .int .i64 nn ∧ f = .bool dn ∧ Hid ((ts.take q).foldl (stepW d k v) ⟨[], 0, false⟩ = ⟨acc, nn, dn⟩) ∧ Hid (OK 49 wr (w.heap.size + 1) B z e acc) ∧ Below (w.alloc (.cells #[.int .i64 d, .string k, .string v] 89)).heap.size (w.alloc (.cells #[.int .i64 d, .string k, .string v] 89)) wr) (fun _ _ _ i _ => n - (intOf i).toNat)
  case atStart => exact ⟨0, 0, _, 0, [], 0, false, Nat.zero_le _, Nat.zero_le _, rfl, rfl, rfl, rfl, Lib.hid rfl, hown0, HK0.out⟩
  case round =>
    obtain ⟨q, z, B, e, acc, nn, dn, hq, hz, rfl, rfl, rfl, rfl, hst, ho', kr⟩ := hrel
    have ho := ho'.out
    clear ho'
    have K0 := kp_trans kw kr
    have hsw : w.heap.size + 1 ≤ wr.heap.size := by have := kr.size; simpa using this
    by_cases hlt : q < n
    · have hkl : q < ts.length := by rw [HL.out]; exact hlt
      obtain ⟨b0, b1, b2⟩ := HBX.out wr kr
      have hfold : Hid ((ts.take (q + 1)).foldl (stepW d k v) ⟨[], 0, false⟩ = stepW d k v ⟨acc, nn, dn⟩ ts[q]) := Lib.hid (by
        rw [List.take_succ_eq_append_getElem hkl, List.foldl_append, hst.out]
        rfl)
      obtain ⟨ad, rfl, had, hc⟩ := HH.out.at_ hkl
      have HC := Lib.hid hc
      obtain ⟨c0, c1⟩ := hc _ K0
      have hz2000 : z ≤ 2000 := by omega
      have HZ := Lib.hid hz
      have eta : ts[q] = ⟨ts[q].k, ts[q].v⟩ := rfl
      rw [eta] at hfold
      clear hc hz hst eta
      generalize ts[q].k = x at *
      generalize ts[q].v = y at *
      by_cases hxk : x = k
      · subst hxk
        have hq1 : (x.toList == x.toList) = true := by simp
        have hq2 : Op.bytesLess x.toList x.toList = false := ltB_irrefl x
        by_cases h3 : d = 3
        · subst h3
          cases dn
          all_goals
            have hf : Hid ((ts.take (q + 1)).foldl (stepW 3 x v) ⟨[], 0, false⟩ = ⟨acc ++ [⟨x, v⟩], 1, true⟩) := Lib.hid (by rw [hfold.out, stepW]; rw [if_neg (by rw [ltB_irrefl]; simp), if_neg (by simp)]; simp)
            clear hfold
            go_wp2_with fail
            go_quiet (fail)
            have kq : Below wr.heap.size wr (wr.drewN nq) := kp_drewN wr nq
            have hoq_wq := ho.next kq
            have K_wq := kp_trans K0 kq
            have kr_wq := kp_trans kr kq
            generalize wr.drewN nq = wq at *
            obtain ⟨d0_wq, d1_wq⟩ := HC.out _ K_wq
            obtain ⟨g0_wq, g1_wq, g2_wq⟩ := HBX.out wq kr_wq
            clear kq
            go_wp2_with fail
            go_quiet (fail)
            have kq : Below wq.heap.size wq (wq.drewN nq) := kp_drewN wq nq
            have hoq_wp := hoq_wq.next kq
            have K_wp := kp_trans K_wq kq
            have kr_wp := kp_trans kr_wq kq
            generalize wq.drewN nq = wp at *
            obtain ⟨d0_wp, d1_wp⟩ := HC.out _ K_wp
            obtain ⟨g0_wp, g1_wp, g2_wp⟩ := HBX.out wp kr_wp
            clear kq
            have HO_a := Lib.hid (hoq_wp.own.alloc (.cells #[.string x, .string v] 49))
            have HSRC_a : Hid (Rd (wp.alloc (.cells #[.string x, .string v] 49)) (wp.heap.size + 1) (some ⟨wp.heap.size, 0, none⟩) [.string x, .string v]) := Lib.hid (Rd.new wp 49 [.string x, .string v])
            have HSW_a := Lib.hid (show w.heap.size + 1 ≤ (wp.alloc (.cells #[.string x, .string v] 49)).heap.size by have := kr_wp.size; simp at this ⊢; omega)
            have HKR_a := Lib.hid (kp_alloc kr_wp (.cells #[.string x, .string v] 49))
            clear hoq_wp
            go_wp2_with (at_builtin; refine wpList_append_rds rfl _ _ _ rfl (w.heap.size + 1) 49 i0 _ 2 32 Tryz.underlying44 hi hz0 hz1 hz2 rfl (by omega) _ (z) _ rfl HO_a.out _ _ _ _ [.string x, .string v] rfl rfl HSRC_a.out (by simp [Value.oneCell']) (by unfold maxLen; omega) (by omega) HSW_a.out ?_; intro v3 w3 hown3 hg3; obtain ⟨A_a, c_a, rfl, ho_a⟩ := OK.push hown3; have kr_w3 := HKR_a.out.trans ((below_own_s HO_a.out hg3 HSW_a.out).mono (by simp)); have K_w3 := kp_trans kw kr_w3; obtain ⟨e0, e1, e2⟩ := HBX.out w3 kr_w3; obtain ⟨f0, f1⟩ := HC.out _ K_w3; clear hown3 hg3)
            go_roundw
            case rel => exact ⟨q + 1, z + 1, A_a, c_a, acc ++ [⟨x, v⟩], 1, true, by omega, by have := HZ.out; omega, by go_num, rfl, rfl, rfl, hf, Lib.hid ho_a, kr_w3⟩
            case measure => simp [intOf]; omega
        · have n3 : (d == 3) = false := by simpa using h3
          by_cases hl3 : d < 3
          · have hl5 : ¬ 5 < d := by omega
            have hf : Hid ((ts.take (q + 1)).foldl (stepW d x v) ⟨[], 0, false⟩ = ⟨acc ++ [⟨x, y⟩], nn, dn⟩) := Lib.hid (by rw [hfold.out, stepW]; rw [if_neg (by omega), if_pos (.inr (.inl hl3))])
            clear hfold h3
            go_wp2_with fail
            go_quiet (fail)
            have kq : Below wr.heap.size wr (wr.drewN nq) := kp_drewN wr nq
            have hoq_wq := ho.next kq
            have K_wq := kp_trans K0 kq
            have kr_wq := kp_trans kr kq
            generalize wr.drewN nq = wq at *
            obtain ⟨d0_wq, d1_wq⟩ := HC.out _ K_wq
            obtain ⟨g0_wq, g1_wq, g2_wq⟩ := HBX.out wq kr_wq
            clear kq
            go_wp2_with fail
            go_quiet (fail)
            have kq : Below wq.heap.size wq (wq.drewN nq) := kp_drewN wq nq
            have hoq_wp := hoq_wq.next kq
            have K_wp := kp_trans K_wq kq
            have kr_wp := kp_trans kr_wq kq
            generalize wq.drewN nq = wp at *
            obtain ⟨d0_wp, d1_wp⟩ := HC.out _ K_wp
            obtain ⟨g0_wp, g1_wp, g2_wp⟩ := HBX.out wp kr_wp
            clear kq
            have HO_a := Lib.hid (hoq_wp.own.alloc (.cells #[.string x, .string y] 49))
            have HSRC_a : Hid (Rd (wp.alloc (.cells #[.string x, .string y] 49)) (wp.heap.size + 1) (some ⟨wp.heap.size, 0, none⟩) [.string x, .string y]) := Lib.hid (Rd.new wp 49 [.string x, .string y])
            have HSW_a := Lib.hid (show w.heap.size + 1 ≤ (wp.alloc (.cells #[.string x, .string y] 49)).heap.size by have := kr_wp.size; simp at this ⊢; omega)
            have HKR_a := Lib.hid (kp_alloc kr_wp (.cells #[.string x, .string y] 49))
            clear hoq_wp
            go_wp2_with (at_builtin; refine wpList_append_rds rfl _ _ _ rfl (w.heap.size + 1) 49 i0 _ 2 32 Tryz.underlying44 hi hz0 hz1 hz2 rfl (by omega) _ (z) _ rfl HO_a.out _ _ _ _ [.string x, .string y] rfl rfl HSRC_a.out (by simp [Value.oneCell']) (by unfold maxLen; omega) (by omega) HSW_a.out ?_; intro v3 w3 hown3 hg3; obtain ⟨A_a, c_a, rfl, ho_a⟩ := OK.push hown3; have kr_w3 := HKR_a.out.trans ((below_own_s HO_a.out hg3 HSW_a.out).mono (by simp)); have K_w3 := kp_trans kw kr_w3; obtain ⟨e0, e1, e2⟩ := HBX.out w3 kr_w3; obtain ⟨f0, f1⟩ := HC.out _ K_w3; clear hown3 hg3)
            go_roundw
            case rel => exact ⟨q + 1, z + 1, A_a, c_a, acc ++ [⟨x, y⟩], nn, dn, by omega, by have := HZ.out; omega, by go_num, rfl, rfl, rfl, hf, Lib.hid ho_a, kr_w3⟩
            case measure => simp [intOf]; omega
          by_cases hg5 : 5 < d
          · have hl3' : ¬ d < 3 := hl3
            have hf : Hid ((ts.take (q + 1)).foldl (stepW d x v) ⟨[], 0, false⟩ = ⟨acc ++ [⟨x, y⟩], nn, dn⟩) := Lib.hid (by rw [hfold.out, stepW]; rw [if_neg (by omega), if_pos (.inr (.inr hg5))])
            clear hfold h3
            go_wp2_with fail
            go_quiet (fail)
            have kq : Below wr.heap.size wr (wr.drewN nq) := kp_drewN wr nq
            have hoq_wq := ho.next kq
            have K_wq := kp_trans K0 kq
            have kr_wq := kp_trans kr kq
            generalize wr.drewN nq = wq at *
            obtain ⟨d0_wq, d1_wq⟩ := HC.out _ K_wq
            obtain ⟨g0_wq, g1_wq, g2_wq⟩ := HBX.out wq kr_wq
            clear kq
            go_wp2_with fail
            go_quiet (fail)
            have kq : Below wq.heap.size wq (wq.drewN nq) := kp_drewN wq nq
            have hoq_wp := hoq_wq.next kq
            have K_wp := kp_trans K_wq kq
            have kr_wp := kp_trans kr_wq kq
            generalize wq.drewN nq = wp at *
            obtain ⟨d0_wp, d1_wp⟩ := HC.out _ K_wp
            obtain ⟨g0_wp, g1_wp, g2_wp⟩ := HBX.out wp kr_wp
            clear kq
            have HO_a := Lib.hid (hoq_wp.own.alloc (.cells #[.string x, .string y] 49))
            have HSRC_a : Hid (Rd (wp.alloc (.cells #[.string x, .string y] 49)) (wp.heap.size + 1) (some ⟨wp.heap.size, 0, none⟩) [.string x, .string y]) := Lib.hid (Rd.new wp 49 [.string x, .string y])
            have HSW_a := Lib.hid (show w.heap.size + 1 ≤ (wp.alloc (.cells #[.string x, .string y] 49)).heap.size by have := kr_wp.size; simp at this ⊢; omega)
            have HKR_a := Lib.hid (kp_alloc kr_wp (.cells #[.string x, .string y] 49))
            clear hoq_wp
            go_wp2_with (at_builtin; refine wpList_append_rds rfl _ _ _ rfl (w.heap.size + 1) 49 i0 _ 2 32 Tryz.underlying44 hi hz0 hz1 hz2 rfl (by omega) _ (z) _ rfl HO_a.out _ _ _ _ [.string x, .string y] rfl rfl HSRC_a.out (by simp [Value.oneCell']) (by unfold maxLen; omega) (by omega) HSW_a.out ?_; intro v3 w3 hown3 hg3; obtain ⟨A_a, c_a, rfl, ho_a⟩ := OK.push hown3; have kr_w3 := HKR_a.out.trans ((below_own_s HO_a.out hg3 HSW_a.out).mono (by simp)); have K_w3 := kp_trans kw kr_w3; obtain ⟨e0, e1, e2⟩ := HBX.out w3 kr_w3; obtain ⟨f0, f1⟩ := HC.out _ K_w3; clear hown3 hg3)
            go_roundw
            case rel => exact ⟨q + 1, z + 1, A_a, c_a, acc ++ [⟨x, y⟩], nn, dn, by omega, by have := HZ.out; omega, by go_num, rfl, rfl, rfl, hf, Lib.hid ho_a, kr_w3⟩
            case measure => simp [intOf]; omega
          by_cases h4 : d = 4
          · subst h4
            have hf : Hid ((ts.take (q + 1)).foldl (stepW 4 x v) ⟨[], 0, false⟩ = ⟨acc ++ [⟨x, v⟩], 1, true⟩) := Lib.hid (by rw [hfold.out, stepW]; rw [if_neg (by simp), if_neg (by simp)]; simp)
            clear hfold h3 n3
            go_wp2_with fail
            go_quiet (fail)
            have kq : Below wr.heap.size wr (wr.drewN nq) := kp_drewN wr nq
            have hoq_wq := ho.next kq
            have K_wq := kp_trans K0 kq
            have kr_wq := kp_trans kr kq
            generalize wr.drewN nq = wq at *
            obtain ⟨d0_wq, d1_wq⟩ := HC.out _ K_wq
            obtain ⟨g0_wq, g1_wq, g2_wq⟩ := HBX.out wq kr_wq
            clear kq
            go_wp2_with fail
            go_quiet (fail)
            have kq : Below wq.heap.size wq (wq.drewN nq) := kp_drewN wq nq
            have hoq_wp := hoq_wq.next kq
            have K_wp := kp_trans K_wq kq
            have kr_wp := kp_trans kr_wq kq
            generalize wq.drewN nq = wp at *
            obtain ⟨d0_wp, d1_wp⟩ := HC.out _ K_wp
            obtain ⟨g0_wp, g1_wp, g2_wp⟩ := HBX.out wp kr_wp
            clear kq
            have HO_a := Lib.hid (hoq_wp.own.alloc (.cells #[.string x, .string v] 49))
            have HSRC_a : Hid (Rd (wp.alloc (.cells #[.string x, .string v] 49)) (wp.heap.size + 1) (some ⟨wp.heap.size, 0, none⟩) [.string x, .string v]) := Lib.hid (Rd.new wp 49 [.string x, .string v])
            have HSW_a := Lib.hid (show w.heap.size + 1 ≤ (wp.alloc (.cells #[.string x, .string v] 49)).heap.size by have := kr_wp.size; simp at this ⊢; omega)
            have HKR_a := Lib.hid (kp_alloc kr_wp (.cells #[.string x, .string v] 49))
            clear hoq_wp
            go_wp2_with (at_builtin; refine wpList_append_rds rfl _ _ _ rfl (w.heap.size + 1) 49 i0 _ 2 32 Tryz.underlying44 hi hz0 hz1 hz2 rfl (by omega) _ (z) _ rfl HO_a.out _ _ _ _ [.string x, .string v] rfl rfl HSRC_a.out (by simp [Value.oneCell']) (by unfold maxLen; omega) (by omega) HSW_a.out ?_; intro v3 w3 hown3 hg3; obtain ⟨A_a, c_a, rfl, ho_a⟩ := OK.push hown3; have kr_w3 := HKR_a.out.trans ((below_own_s HO_a.out hg3 HSW_a.out).mono (by simp)); have K_w3 := kp_trans kw kr_w3; obtain ⟨e0, e1, e2⟩ := HBX.out w3 kr_w3; obtain ⟨f0, f1⟩ := HC.out _ K_w3; clear hown3 hg3)
            go_roundw
            case rel => exact ⟨q + 1, z + 1, A_a, c_a, acc ++ [⟨x, v⟩], 1, true, by omega, by have := HZ.out; omega, by go_num, rfl, rfl, rfl, hf, Lib.hid ho_a, kr_w3⟩
            case measure => simp [intOf]; omega
          · obtain rfl : d = 5 := by omega
            have hf : Hid ((ts.take (q + 1)).foldl (stepW 5 x v) ⟨[], 0, false⟩ = ⟨acc, 1, true⟩) := Lib.hid (by rw [hfold.out, stepW]; rw [if_neg (by simp), if_neg (by simp)]; simp)
            clear hfold h3 n3 h4
            go_wp2_with fail
            go_quiet (fail)
            have kq : Below wr.heap.size wr (wr.drewN nq) := kp_drewN wr nq
            have hoq_wq := ho.next kq
            have K_wq := kp_trans K0 kq
            have kr_wq := kp_trans kr kq
            generalize wr.drewN nq = wq at *
            obtain ⟨d0_wq, d1_wq⟩ := HC.out _ K_wq
            obtain ⟨g0_wq, g1_wq, g2_wq⟩ := HBX.out wq kr_wq
            clear kq
            go_wp2_with fail
            go_quiet (fail)
            have kq : Below wq.heap.size wq (wq.drewN nq) := kp_drewN wq nq
            have hoq_wp := hoq_wq.next kq
            have K_wp := kp_trans K_wq kq
            have kr_wp := kp_trans kr_wq kq
            generalize wq.drewN nq = wp at *
            obtain ⟨d0_wp, d1_wp⟩ := HC.out _ K_wp
            obtain ⟨g0_wp, g1_wp, g2_wp⟩ := HBX.out wp kr_wp
            clear kq
            go_wp2_with fail
            go_roundw
            case rel => exact ⟨q + 1, z, B, e, acc, 1, true, by omega, by have := HZ.out; omega, by go_num, rfl, rfl, rfl, hf, Lib.hid hoq_wp, kr_wp⟩
            case measure => simp [intOf]; omega
      · have hq1 : (x.toList == k.toList) = false := by
          simp only [beq_eq_false_iff_ne, ne_eq]
          exact fun h => hxk (bytes_ext h)
        by_cases h3 : d = 3
        · subst h3
          cases dn with
          | true =>
            have hf : Hid ((ts.take (q + 1)).foldl (stepW 3 k v) ⟨[], 0, false⟩ = ⟨acc ++ [⟨x, y⟩], nn, true⟩) := Lib.hid (by rw [hfold.out, stepW]; rw [if_neg (by simp), if_pos (.inl hxk)])
            clear hfold hxk
            go_wp2_with fail
            go_quiet (fail)
            have kq : Below wr.heap.size wr (wr.drewN nq) := kp_drewN wr nq
            have hoq_wq := ho.next kq
            have K_wq := kp_trans K0 kq
            have kr_wq := kp_trans kr kq
            generalize wr.drewN nq = wq at *
            obtain ⟨d0_wq, d1_wq⟩ := HC.out _ K_wq
            obtain ⟨g0_wq, g1_wq, g2_wq⟩ := HBX.out wq kr_wq
            clear kq
            go_wp2_with fail
            go_quiet (fail)
            have kq : Below wq.heap.size wq (wq.drewN nq) := kp_drewN wq nq
            have hoq_wp := hoq_wq.next kq
            have K_wp := kp_trans K_wq kq
            have kr_wp := kp_trans kr_wq kq
            generalize wq.drewN nq = wp at *
            obtain ⟨d0_wp, d1_wp⟩ := HC.out _ K_wp
            obtain ⟨g0_wp, g1_wp, g2_wp⟩ := HBX.out wp kr_wp
            clear kq
            have HO_a := Lib.hid (hoq_wp.own.alloc (.cells #[.string x, .string y] 49))
            have HSRC_a : Hid (Rd (wp.alloc (.cells #[.string x, .string y] 49)) (wp.heap.size + 1) (some ⟨wp.heap.size, 0, none⟩) [.string x, .string y]) := Lib.hid (Rd.new wp 49 [.string x, .string y])
            have HSW_a := Lib.hid (show w.heap.size + 1 ≤ (wp.alloc (.cells #[.string x, .string y] 49)).heap.size by have := kr_wp.size; simp at this ⊢; omega)
            have HKR_a := Lib.hid (kp_alloc kr_wp (.cells #[.string x, .string y] 49))
            clear hoq_wp
            go_wp2_with (at_builtin; refine wpList_append_rds rfl _ _ _ rfl (w.heap.size + 1) 49 i0 _ 2 32 Tryz.underlying44 hi hz0 hz1 hz2 rfl (by omega) _ (z) _ rfl HO_a.out _ _ _ _ [.string x, .string y] rfl rfl HSRC_a.out (by simp [Value.oneCell']) (by unfold maxLen; omega) (by omega) HSW_a.out ?_; intro v3 w3 hown3 hg3; obtain ⟨A_a, c_a, rfl, ho_a⟩ := OK.push hown3; have kr_w3 := HKR_a.out.trans ((below_own_s HO_a.out hg3 HSW_a.out).mono (by simp)); have K_w3 := kp_trans kw kr_w3; obtain ⟨e0, e1, e2⟩ := HBX.out w3 kr_w3; obtain ⟨f0, f1⟩ := HC.out _ K_w3; clear hown3 hg3)
            go_roundw
            case rel => exact ⟨q + 1, z + 1, A_a, c_a, acc ++ [⟨x, y⟩], nn, true, by omega, by have := HZ.out; omega, by go_num, rfl, rfl, rfl, hf, Lib.hid ho_a, kr_w3⟩
            case measure => simp [intOf]; omega
          | false =>
            cases hlt2 : ltB x k with
            | true =>
              have hq2 : Op.bytesLess x.toList k.toList = true := hlt2
              have hf : Hid ((ts.take (q + 1)).foldl (stepW 3 k v) ⟨[], 0, false⟩ = ⟨acc ++ [⟨x, y⟩], nn, false⟩) := Lib.hid (by rw [hfold.out, stepW]; rw [if_neg (by rw [ltB_asymm hlt2]; simp), if_pos (.inl hxk)])
              clear hfold hxk hlt2
              go_wp2_with fail
              go_quiet (fail)
              have kq : Below wr.heap.size wr (wr.drewN nq) := kp_drewN wr nq
              have hoq_wq := ho.next kq
              have K_wq := kp_trans K0 kq
              have kr_wq := kp_trans kr kq
              generalize wr.drewN nq = wq at *
              obtain ⟨d0_wq, d1_wq⟩ := HC.out _ K_wq
              obtain ⟨g0_wq, g1_wq, g2_wq⟩ := HBX.out wq kr_wq
              clear kq
              go_wp2_with fail
              go_quiet (fail)
              have kq : Below wq.heap.size wq (wq.drewN nq) := kp_drewN wq nq
              have hoq_wp := hoq_wq.next kq
              have K_wp := kp_trans K_wq kq
              have kr_wp := kp_trans kr_wq kq
              generalize wq.drewN nq = wp at *
              obtain ⟨d0_wp, d1_wp⟩ := HC.out _ K_wp
              obtain ⟨g0_wp, g1_wp, g2_wp⟩ := HBX.out wp kr_wp
              clear kq
              have HO_a := Lib.hid (hoq_wp.own.alloc (.cells #[.string x, .string y] 49))
              have HSRC_a : Hid (Rd (wp.alloc (.cells #[.string x, .string y] 49)) (wp.heap.size + 1) (some ⟨wp.heap.size, 0, none⟩) [.string x, .string y]) := Lib.hid (Rd.new wp 49 [.string x, .string y])
              have HSW_a := Lib.hid (show w.heap.size + 1 ≤ (wp.alloc (.cells #[.string x, .string y] 49)).heap.size by have := kr_wp.size; simp at this ⊢; omega)
              have HKR_a := Lib.hid (kp_alloc kr_wp (.cells #[.string x, .string y] 49))
              clear hoq_wp
              go_wp2_with (at_builtin; refine wpList_append_rds rfl _ _ _ rfl (w.heap.size + 1) 49 i0 _ 2 32 Tryz.underlying44 hi hz0 hz1 hz2 rfl (by omega) _ (z) _ rfl HO_a.out _ _ _ _ [.string x, .string y] rfl rfl HSRC_a.out (by simp [Value.oneCell']) (by unfold maxLen; omega) (by omega) HSW_a.out ?_; intro v3 w3 hown3 hg3; obtain ⟨A_a, c_a, rfl, ho_a⟩ := OK.push hown3; have kr_w3 := HKR_a.out.trans ((below_own_s HO_a.out hg3 HSW_a.out).mono (by simp)); have K_w3 := kp_trans kw kr_w3; obtain ⟨e0, e1, e2⟩ := HBX.out w3 kr_w3; obtain ⟨f0, f1⟩ := HC.out _ K_w3; clear hown3 hg3)
              go_roundw
              case rel => exact ⟨q + 1, z + 1, A_a, c_a, acc ++ [⟨x, y⟩], nn, false, by omega, by have := HZ.out; omega, by go_num, rfl, rfl, rfl, hf, Lib.hid ho_a, kr_w3⟩
              case measure => simp [intOf]; omega
            | false =>
              have hq2 : Op.bytesLess x.toList k.toList = false := hlt2
              have hgt : ltB k x = true := by
                cases h : ltB k x with
                | true => rfl
                | false => exact absurd (ltB_total hlt2 h) hxk
              have hf : Hid ((ts.take (q + 1)).foldl (stepW 3 k v) ⟨[], 0, false⟩ = ⟨acc ++ [⟨k, v⟩] ++ [⟨x, y⟩], nn, true⟩) := Lib.hid (by rw [hfold.out, stepW]; rw [if_pos ⟨rfl, rfl, hgt⟩])
              clear hfold hxk hlt2 hgt
              go_wp2_with fail
              go_quiet (fail)
              have kq : Below wr.heap.size wr (wr.drewN nq) := kp_drewN wr nq
              have hoq_wq := ho.next kq
              have K_wq := kp_trans K0 kq
              have kr_wq := kp_trans kr kq
              generalize wr.drewN nq = wq at *
              obtain ⟨d0_wq, d1_wq⟩ := HC.out _ K_wq
              obtain ⟨g0_wq, g1_wq, g2_wq⟩ := HBX.out wq kr_wq
              clear kq
              have HO_a := Lib.hid (hoq_wq.own.alloc (.cells #[.string k, .string v] 49))
              have HSRC_a : Hid (Rd (wq.alloc (.cells #[.string k, .string v] 49)) (wq.heap.size + 1) (some ⟨wq.heap.size, 0, none⟩) [.string k, .string v]) := Lib.hid (Rd.new wq 49 [.string k, .string v])
              have HSW_a := Lib.hid (show w.heap.size + 1 ≤ (wq.alloc (.cells #[.string k, .string v] 49)).heap.size by have := kr_wq.size; simp at this ⊢; omega)
              have HKR_a := Lib.hid (kp_alloc kr_wq (.cells #[.string k, .string v] 49))
              clear hoq_wq
              go_wp2_with (at_builtin; refine wpList_append_rds rfl _ _ _ rfl (w.heap.size + 1) 49 i0 _ 2 32 Tryz.underlying44 hi hz0 hz1 hz2 rfl (by omega) _ (z) _ rfl HO_a.out _ _ _ _ [.string k, .string v] rfl rfl HSRC_a.out (by simp [Value.oneCell']) (by unfold maxLen; omega) (by omega) HSW_a.out ?_; intro v3 w3 hown3 hg3; obtain ⟨A_a, c_a, rfl, ho_a⟩ := OK.push hown3; have kr_w3 := HKR_a.out.trans ((below_own_s HO_a.out hg3 HSW_a.out).mono (by simp)); have K_w3 := kp_trans kw kr_w3; obtain ⟨e0, e1, e2⟩ := HBX.out w3 kr_w3; obtain ⟨f0, f1⟩ := HC.out _ K_w3; clear hown3 hg3)
              go_quiet (fail)
              have kq : Below w3.heap.size w3 (w3.drewN nq) := kp_drewN w3 nq
              have hoq_wp := ho_a.next kq
              have K_wp := kp_trans K_w3 kq
              have kr_wp := kp_trans kr_w3 kq
              generalize w3.drewN nq = wp at *
              obtain ⟨d0_wp, d1_wp⟩ := HC.out _ K_wp
              obtain ⟨g0_wp, g1_wp, g2_wp⟩ := HBX.out wp kr_wp
              clear kq
              have HO_b := Lib.hid (hoq_wp.own.alloc (.cells #[.string x, .string y] 49))
              have HSRC_b : Hid (Rd (wp.alloc (.cells #[.string x, .string y] 49)) (wp.heap.size + 1) (some ⟨wp.heap.size, 0, none⟩) [.string x, .string y]) := Lib.hid (Rd.new wp 49 [.string x, .string y])
              have HSW_b := Lib.hid (show w.heap.size + 1 ≤ (wp.alloc (.cells #[.string x, .string y] 49)).heap.size by have := kr_wp.size; simp at this ⊢; omega)
              have HKR_b := Lib.hid (kp_alloc kr_wp (.cells #[.string x, .string y] 49))
              clear hoq_wp
              go_wp2_with (at_builtin; refine wpList_append_rds rfl _ _ _ rfl (w.heap.size + 1) 49 i0 _ 2 32 Tryz.underlying44 hi hz0 hz1 hz2 rfl (by omega) _ (z + 1) _ rfl HO_b.out _ _ _ _ [.string x, .string y] rfl rfl HSRC_b.out (by simp [Value.oneCell']) (by unfold maxLen; omega) (by omega) HSW_b.out ?_; intro v3 w4 hown3 hg3; obtain ⟨A_b, c_b, rfl, ho_b⟩ := OK.push hown3; have kr_w4 := HKR_b.out.trans ((below_own_s HO_b.out hg3 HSW_b.out).mono (by simp)); have K_w4 := kp_trans kw kr_w4; obtain ⟨e0, e1, e2⟩ := HBX.out w4 kr_w4; obtain ⟨f0, f1⟩ := HC.out _ K_w4; clear hown3 hg3)
              go_roundw
              case rel => exact ⟨q + 1, z + 1 + 1, A_b, c_b, acc ++ [⟨k, v⟩] ++ [⟨x, y⟩], nn, true, by omega, by have := HZ.out; omega, by go_num, rfl, rfl, rfl, hf, Lib.hid ho_b, kr_w4⟩
              case measure => simp [intOf]; omega
        · have n3 : (d == 3) = false := by simpa using h3
          have hf : Hid ((ts.take (q + 1)).foldl (stepW d k v) ⟨[], 0, false⟩ = ⟨acc ++ [⟨x, y⟩], nn, dn⟩) := Lib.hid (by rw [hfold.out, stepW]; rw [if_neg (fun h => h3 h.1), if_pos (.inl hxk)])
          clear hfold hxk h3
          go_wp2_with fail
          go_quiet (fail)
          have kq : Below wr.heap.size wr (wr.drewN nq) := kp_drewN wr nq
          have hoq_wq := ho.next kq
          have K_wq := kp_trans K0 kq
          have kr_wq := kp_trans kr kq
          generalize wr.drewN nq = wq at *
          obtain ⟨d0_wq, d1_wq⟩ := HC.out _ K_wq
          obtain ⟨g0_wq, g1_wq, g2_wq⟩ := HBX.out wq kr_wq
          clear kq
          go_wp2_with fail
          go_quiet (fail)
          have kq : Below wq.heap.size wq (wq.drewN nq) := kp_drewN wq nq
          have hoq_wp := hoq_wq.next kq
          have K_wp := kp_trans K_wq kq
          have kr_wp := kp_trans kr_wq kq
          generalize wq.drewN nq = wp at *
          obtain ⟨d0_wp, d1_wp⟩ := HC.out _ K_wp
          obtain ⟨g0_wp, g1_wp, g2_wp⟩ := HBX.out wp kr_wp
          clear kq
          have HO_a := Lib.hid (hoq_wp.own.alloc (.cells #[.string x, .string y] 49))
          have HSRC_a : Hid (Rd (wp.alloc (.cells #[.string x, .string y] 49)) (wp.heap.size + 1) (some ⟨wp.heap.size, 0, none⟩) [.string x, .string y]) := Lib.hid (Rd.new wp 49 [.string x, .string y])
          have HSW_a := Lib.hid (show w.heap.size + 1 ≤ (wp.alloc (.cells #[.string x, .string y] 49)).heap.size by have := kr_wp.size; simp at this ⊢; omega)
          have HKR_a := Lib.hid (kp_alloc kr_wp (.cells #[.string x, .string y] 49))
          clear hoq_wp
          go_wp2_with (at_builtin; refine wpList_append_rds rfl _ _ _ rfl (w.heap.size + 1) 49 i0 _ 2 32 Tryz.underlying44 hi hz0 hz1 hz2 rfl (by omega) _ (z) _ rfl HO_a.out _ _ _ _ [.string x, .string y] rfl rfl HSRC_a.out (by simp [Value.oneCell']) (by unfold maxLen; omega) (by omega) HSW_a.out ?_; intro v3 w3 hown3 hg3; obtain ⟨A_a, c_a, rfl, ho_a⟩ := OK.push hown3; have kr_w3 := HKR_a.out.trans ((below_own_s HO_a.out hg3 HSW_a.out).mono (by simp)); have K_w3 := kp_trans kw kr_w3; obtain ⟨e0, e1, e2⟩ := HBX.out w3 kr_w3; obtain ⟨f0, f1⟩ := HC.out _ K_w3; clear hown3 hg3)
          go_roundw
          case rel => exact ⟨q + 1, z + 1, A_a, c_a, acc ++ [⟨x, y⟩], nn, dn, by omega, by have := HZ.out; omega, by go_num, rfl, rfl, rfl, hf, Lib.hid ho_a, kr_w3⟩
          case measure => simp [intOf]; omega
    · obtain rfl : q = n := by omega
      obtain ⟨b0, b1, b2⟩ := HBX.out wr kr
      rw [List.take_of_length_le (by rw [HL.out]; exact Nat.le_refl _)] at hst
      have hF := HF.out
      rw [hst.out] at hF
      have hfin : finalW d k v ⟨acc, nn, dn⟩ = (if d = 3 ∧ dn = false then acc ++ [⟨k, v⟩] else acc, if d = 3 then 1 else nn) := rfl
      rw [hfin] at hF
      clear hst hfin
      have HW := Lib.hid hF
      clear hF
      by_cases h3 : d = 3
      · subst h3
        cases dn with
        | true =>
          have hW : W = (acc, 1) := by rw [← HW.out]; simp
          have H1 : Hid (W.1 = _) := Lib.hid (congrArg Prod.fst hW)
          have H2 : Hid (W.2 = _) := Lib.hid (congrArg Prod.snd hW)
          clear HW hW
          go_wp2_with fail
          go_ret2
          exact ⟨B, z, ⟨e, by rw [H2.out]; rfl⟩, by rw [H1.out]; exact ho.kr, by omega, K0⟩
        | false =>
          have hW : W = (acc ++ [⟨k, v⟩], 1) := by rw [← HW.out]; simp
          have H1 : Hid (W.1 = _) := Lib.hid (congrArg Prod.fst hW)
          have H2 : Hid (W.2 = _) := Lib.hid (congrArg Prod.snd hW)
          clear HW hW
          have HO_a := Lib.hid (ho.own.alloc (.cells #[.string k, .string v] 49))
          have HSRC_a : Hid (Rd (wr.alloc (.cells #[.string k, .string v] 49)) (wr.heap.size + 1) (some ⟨wr.heap.size, 0, none⟩) [.string k, .string v]) := Lib.hid (Rd.new wr 49 [.string k, .string v])
          have HSW_a := Lib.hid (show w.heap.size + 1 ≤ (wr.alloc (.cells #[.string k, .string v] 49)).heap.size by have := kr.size; simp at this ⊢; omega)
          have HKR_a := Lib.hid (kp_alloc kr (.cells #[.string k, .string v] 49))
          clear ho
          go_wp2_with (at_builtin; refine wpList_append_rds rfl _ _ _ rfl (w.heap.size + 1) 49 i0 _ 2 32 Tryz.underlying44 hi hz0 hz1 hz2 rfl (by omega) _ (z) _ rfl HO_a.out _ _ _ _ [.string k, .string v] rfl rfl HSRC_a.out (by simp [Value.oneCell']) (by unfold maxLen; omega) (by omega) HSW_a.out ?_; intro v3 w3 hown3 hg3; obtain ⟨A_a, c_a, rfl, ho_a⟩ := OK.push hown3; have kr_w3 := HKR_a.out.trans ((below_own_s HO_a.out hg3 HSW_a.out).mono (by simp)); have K_w3 := kp_trans kw kr_w3; obtain ⟨e0, e1, e2⟩ := HBX.out w3 kr_w3; clear hown3 hg3)
          go_ret2
          exact ⟨A_a, z + 1, ⟨c_a, by rw [H2.out]; rfl⟩, by rw [H1.out]; exact ho_a.kr, by omega, K_w3⟩
      · have n3 : (d == 3) = false := by simpa using h3
        have hW : W = (acc, nn) := by rw [← HW.out, if_neg (fun h => h3 h.1), if_neg h3]
        have H1 : Hid (W.1 = _) := Lib.hid (congrArg Prod.fst hW)
        have H2 : Hid (W.2 = _) := Lib.hid (congrArg Prod.snd hW)
        clear HW hW h3
        go_wp2_with fail
        go_ret2
        exact ⟨B, z, ⟨e, by rw [H2.out]; rfl⟩, by rw [H1.out]; exact ho.kr, by omega, K0⟩
end

/- strings.TrimRight at the cutset that the shapes use: contract. -/
section
open Go.RowKit
set_option maxRecDepth 100000

theorem chop_s (s : ByteArray) (w : World) (hs : s.size ≤ 1000000000) : Calls Tryz.prog 115 #[.string s, .string ⟨#[32, 59]⟩] w fun e w' => ∃ r : ByteArray, e = .returned (.string r) ∧ r.data.toList = chopF s.data.toList ∧ Below w.heap.size w w' := by
  have h := Any.strings_TrimRight_laid Tryz.lays162 (by kernel_rfl) s ⟨#[32, 59]⟩ w (by omega) (by decide) (ascii_of_all (by decide))
  change Calls Tryz.prog 115 _ _ _ at h
  exact h.mono fun _ _ ⟨he, hb⟩ => ⟨_, he, by simp [chopF, cut2], hb⟩
end

/- What is written of tokens whose Strings are emptied, and the texts of these, by the call shaped of package plan: contract. -/
section
open Go.RowKit
set_option maxRecDepth 100000

def bts (ss : List ByteArray) : List (List UInt8) := ss.map fun x => x.data.toList
theorem bts_append (a b : List ByteArray) : bts (a ++ b) = bts a ++ bts b := by simp [bts]
theorem says_next (us : List Tk) (k : Nat) (h : k < us.length) : saysT (us.take (k + 1)) = saysT (us.take k) ++ [us[k].says] := by
  rw [List.take_succ_eq_append_getElem h, saysT_append]
  rfl
/-- the tokens that stay, their Strings emptied -/
def stayF (l : List Tok) : List Tok := (keptF l).map emptyF
theorem stay_hint (l : List Tok) (t : List UInt8) : stayF (l ++ [(5, t)]) = stayF l := by simp [stayF, keptF, isHintF]
theorem stay_str (l : List Tok) (t : List UInt8) : stayF (l ++ [(3, t)]) = stayF l ++ [(3, [])] := by simp [stayF, keptF, isHintF, emptyF]
theorem stay_other (l : List Tok) (k : Int) (t : List UInt8) (h5 : k ≠ 5) (h3 : k ≠ 3) : stayF (l ++ [(k, t)]) = stayF l ++ [(k, t)] := by simp [stayF, keptF, isHintF, emptyF, h5, h3]
theorem strs_hint (l : List Tok) (t : List UInt8) : strsF (keptF (l ++ [(5, t)])) = strsF (keptF l) := by simp [strsF, keptF, isHintF]
theorem strs_str (l : List Tok) (t : List UInt8) : strsF (keptF (l ++ [(3, t)])) = strsF (keptF l) ++ [t] := by simp [strsF, keptF, isHintF, isStrF]
theorem strs_other (l : List Tok) (k : Int) (t : List UInt8) (h5 : k ≠ 5) (h3 : k ≠ 3) : strsF (keptF (l ++ [(k, t)])) = strsF (keptF l) := by simp [strsF, keptF, isHintF, isStrF, h5, h3]

theorem own_ne_type {w : World} {base n size : Nat} {e t : TypeId} {v : Value} {xs : List Value} (h : w.ownsRow base e size v n xs) {b : Nat} {cs : Array Value} {fz : Nat × Nat} (hb : w.heap[b]? = some (.cells cs t fz)) (ht : t ≠ e) : v.ownBlock ≠ some b := by
  rcases h.2 with ⟨rfl, _⟩ | ⟨g, cap, cur, rfl, _, hg, _⟩
  · simp [Value.ownBlock]
  · simp only [Value.ownBlock, ne_eq, Option.some.injEq]
    rintro rfl
    rw [hg] at hb
    simp only [Option.some.injEq, Obj.cells.injEq] at hb
    exact ht hb.2.1.symm

set_option maxHeartbeats 4000000 in
theorem shaped_ok (A : Option Addr) (n c : Nat) (us : List Tk) (w : World) (h : TR w A n us) (hn : n ≤ 400) (hsz : ∀ t ∈ us, t.t.size ≤ 400) (hL : Lw w) :
    Calls Tryz.prog 82 #[.slice A n c] w fun e w' => ∃ (r : ByteArray) (A2 : Option Addr) (n2 c2 : Nat) (ss : List ByteArray), e = .returned (.tuple #[.string r, .slice A2 n2 c2]) ∧ r.data.toList = shapeF (keptF (saysT us)) ∧ XR w' A2 n2 ss ∧ bts ss = strsF (keptF (saysT us)) ∧ Below w.heap.size w w' := by
  obtain ⟨i0, hi, hz0, hz1, hz2⟩ := info_parts strinfo6
  obtain ⟨j0, gi, gz0, gz1, gz2⟩ := info_parts tkinfo
  have HL := Lib.hid h.len
  have HH := Lib.hid h
  have HZ := Lib.hid hsz
  have HLw := Lib.hid hL
  clear h hsz hL
  go_enter Tryz.func82, Tryz.ntmps82
  go_wp2_with fail
  go_loopw [4, 5, 10] (fun v u i wr => ∃ (k z1 z2 : Nat) (A1 A2 : Option Addr) (c1 c2 : Nat) (ks : List Tk) (ss : List ByteArray), k ≤ n ∧ z1 ≤ k ∧ z2 ≤ k ∧ v = .slice A1 z1 c1 ∧ u = .slice A2 z2 c2 ∧ i = .int .i64 k ∧
    Hid (OT 135 wr w.heap.size A1 z1 c1 ks) ∧ Hid (wr.ownsRow w.heap.size 9 1 (.slice A2 z2 c2) z2 (tvs ss)) ∧ Hid (saysT ks = stayF (saysT (us.take k))) ∧ Hid (bts ss = strsF (keptF (saysT (us.take k)))) ∧ Hid (sumT ks ≤ k * 401) ∧ Below w.heap.size w wr) (fun _ _ i _ => n - (intOf i).toNat)
  case atStart => exact ⟨0, 0, 0, none, none, 0, 0, [], [], Nat.zero_le _, Nat.le_refl _, Nat.le_refl _, rfl, rfl, rfl, Lib.hid (OT.nil _ _ _), Lib.hid (World.ownsRow_nil _ _ _ _), Lib.hid rfl, Lib.hid rfl, Lib.hid (Nat.zero_le _), Below.refl _ _⟩
  case round =>
    obtain ⟨k, z1, z2, A1, A2, c1, c2, ks, ss, hk, q1, q2, rfl, rfl, rfl, ho, hx, hs, hb, hm, k0⟩ := hrel
    have hsz0 := k0.size
    by_cases hlt : k < n
    · have hkl : k < us.length := by rw [HL.out]; exact hlt
      obtain ⟨ad, rfl, had, hcc⟩ := HH.out.at_ hkl
      obtain ⟨x0, x1⟩ := hcc _ k0
      have hsn := says_next us k hkl
      have hte : us[k].says = (us[k].k, us[k].t.data.toList) := rfl
      rw [hte] at hsn
      have htz := HZ.out us[k] (List.getElem_mem hkl)
      clear hcc hte
      generalize us[k].k = x at *
      generalize us[k].t = y at *
      have kb : Below w.heap.size w (wr.alloc (.cells #[.int .i64 x, .string y] 135)) := kp_alloc k0 _
      by_cases h5 : x = 5
      · subst h5
        have hs2 : Hid (saysT ks = stayF (saysT (us.take (k + 1)))) := Lib.hid (by rw [hsn, stay_hint]; exact hs.out)
        have hb2 : Hid (bts ss = strsF (keptF (saysT (us.take (k + 1))))) := Lib.hid (by rw [hsn, strs_hint]; exact hb.out)
        have hm2 : Hid (sumT ks ≤ (k + 1) * 401) := Lib.hid (by have := hm.out; omega)
        clear hsn hs hb hm
        go_wp2_with fail
        go_roundw
        case rel => exact ⟨k + 1, z1, z2, A1, A2, c1, c2, ks, ss, by omega, by omega, by omega, rfl, rfl, by go_num, Lib.hid (ho.out.next (kp_new wr _)), Lib.hid (hx.out.alloc _), hs2, hb2, hm2, kb⟩
        case measure => simp [intOf]; omega
      have n5 : (x == 5) = false := by simpa using h5
      by_cases h3 : x = 3
      · subst h3
        have hs2 : Hid (saysT (ks ++ [⟨3, ⟨#[]⟩⟩]) = stayF (saysT (us.take (k + 1)))) := Lib.hid (by rw [hsn, stay_str, saysT_append, hs.out]; rfl)
        have hb2 : Hid (bts (ss ++ [y]) = strsF (keptF (saysT (us.take (k + 1))))) := Lib.hid (by rw [hsn, strs_str, bts_append, hb.out]; rfl)
        have hm2 : Hid (sumT (ks ++ [⟨3, ⟨#[]⟩⟩]) ≤ (k + 1) * 401) := Lib.hid (by
          have := hm.out
          rw [sumT_append, show sumT [(⟨3, ⟨#[]⟩⟩ : Tk)] = 1 from rfl]
          omega)
        have hap : ∀ w', ((wr.alloc (.cells #[.int .i64 3, .string y] 135)).alloc (.cells #[.string y] 9)).grownBy w' (Value.slice A2 z2 c2).ownBlock → OT 135 w' w.heap.size A1 z1 c1 ks := fun w' hg =>
          ⟨own_apart ((ho.out.own.alloc _).alloc _) ((hx.out.alloc _).alloc _) (by decide) hg, ho.out.cap⟩
        have hbx : ((wr.alloc (.cells #[.int .i64 3, .string y] 135)).alloc (.cells #[.string y] 9)).heap[wr.heap.size]? = some (.cells #[.int .i64 3, .string y] 135 (0, 0)) := by
          exact (World.grownBy_alloc _ _ none).block wr.heap.size (by simp) (by simp) |>.trans (heap_alloc_new wr _)
        have hne2 : some wr.heap.size ≠ (Value.slice A2 z2 c2).ownBlock := fun e => by have := (hx.out.lt _ e.symm).2; omega
        have hne1 : (Value.slice A1 z1 c1).ownBlock ≠ some wr.heap.size := fun e => by have := (ho.out.own.lt _ e).2; omega
        have HX2 := Lib.hid ((hx.out.alloc (.cells #[.int .i64 3, .string y] 135)).alloc (.cells #[.string y] 9))
        have HSRC : Hid (Rd ((wr.alloc (.cells #[.int .i64 3, .string y] 135)).alloc (.cells #[.string y] 9)) (wr.heap.size + 1 + 1) (some ⟨wr.heap.size + 1, 0, none⟩) [.string y]) := Lib.hid (by
          have := Rd.new (wr.alloc (.cells #[.int .i64 3, .string y] 135)) 9 [.string y]
          simpa using this)
        have kb2 : Below w.heap.size w ((wr.alloc (.cells #[.int .i64 3, .string y] 135)).alloc (.cells #[.string y] 9)) := kp_alloc kb _
        have HAP := Lib.hid hap
        have HBX := Lib.hid hbx
        have HN2 := Lib.hid hne2
        have HN1 := Lib.hid hne1
        have HS2 := Lib.hid (show w.heap.size ≤ ((wr.alloc (.cells #[.int .i64 3, .string y] 135)).alloc (.cells #[.string y] 9)).heap.size by simp; omega)
        clear hsn hs hb hm hap hbx hne2 hne1
        go_wp2_with (first
          | (at_builtin; refine wpList_append_rd rfl _ _ _ rfl w.heap.size 9 i0 _ 16 Tryz.underlying34 hi hz0 hz1 hz2 rfl _ z2 _ rfl HX2.out _ _ _ _ [.string y] rfl rfl HSRC.out (by simp [Value.oneCell']) (by unfold maxLen; omega) (by omega) HS2.out ?_; intro v3 w3 hown3 hg3; obtain ⟨A3, c3, rfl, hcap3, _⟩ := own_form hown3; have hb3 := Lib.hid ((hg3.block _ (by simp; omega) HN2.out).trans HBX.out); obtain ⟨d0, d1, f0, f1⟩ := cells2 hb3.out;
             have HOT := Lib.hid ((ownsRow_setCell_other (HAP.out w3 hg3).own (a := ⟨wr.heap.size, 1, none⟩) HN1.out (.string ⟨#[]⟩)).alloc (.cells #[.int .i64 3, .string ⟨#[]⟩] 135));
             have HXT := Lib.hid (ownsRow_setCell_other (a := ⟨wr.heap.size, 1, none⟩) hown3 (own_ne_type hown3 hb3.out (by decide)) (.string ⟨#[]⟩));
             have HSR3 : Hid (Rd ((w3.setCell ⟨wr.heap.size, 1, none⟩ (.string ⟨#[]⟩)).alloc (.cells #[.int .i64 3, .string ⟨#[]⟩] 135)) (w3.heap.size + 1) (some ⟨w3.heap.size, 0, none⟩) [.int .i64 3, .string ⟨#[]⟩]) := Lib.hid (by have := Rd.new (w3.setCell ⟨wr.heap.size, 1, none⟩ (.string ⟨#[]⟩)) 135 [.int .i64 3, .string ⟨#[]⟩]; simpa using this))
          | (at_builtin; refine wpList_append_rds rfl _ _ _ rfl w.heap.size 135 j0 _ 2 24 Tryz.underlying106 gi gz0 gz1 gz2 rfl (by omega) _ z1 _ rfl HOT.out _ _ _ _ [.int .i64 3, .string ⟨#[]⟩] rfl rfl HSR3.out (by simp [Value.oneCell']) (by unfold maxLen; omega) (by omega) (by simp; have := hg3.size; have := HS2.out; omega) ?_; intro v4 w4 hown4 hg4; obtain ⟨A4, c4, rfl, ho4⟩ := OT.push hown4))
        go_roundw
        case rel =>
          have k3 : Below w.heap.size w w3 := kb2.trans (below_own HX2.out hg3 HS2.out)
          have k3b : Below w.heap.size w ((w3.setCell ⟨wr.heap.size, 1, none⟩ (.string ⟨#[]⟩)).alloc (.cells #[.int .i64 3, .string ⟨#[]⟩] 135)) := kp_alloc (k3.setCell hsz0 _) _
          have hx4 := own_apart (HXT.out.alloc (.cells #[.int .i64 3, .string ⟨#[]⟩] 135)) HOT.out (by decide) hg4
          refine ⟨k + 1, z1 + 1, z2 + 1, A4, A3, c4, c3, ks ++ [⟨3, ⟨#[]⟩⟩], ss ++ [y], by omega, by omega, by omega, rfl, rfl, by go_num, Lib.hid ho4, Lib.hid ?_, hs2, hb2, hm2, k3b.trans (below_own_s HOT.out hg4 k3b.size)⟩
          rw [tvs_append]
          exact hx4
        case measure => simp [intOf]; omega
      · have n3 : (x == 3) = false := by simpa using h3
        have hs2 : Hid (saysT (ks ++ [⟨x, y⟩]) = stayF (saysT (us.take (k + 1)))) := Lib.hid (by rw [hsn, stay_other _ _ _ h5 h3, saysT_append, hs.out]; rfl)
        have hb2 : Hid (bts ss = strsF (keptF (saysT (us.take (k + 1))))) := Lib.hid (by rw [hsn, strs_other _ _ _ h5 h3, hb.out])
        have hm2 : Hid (sumT (ks ++ [⟨x, y⟩]) ≤ (k + 1) * 401) := Lib.hid (by
          have := hm.out
          rw [sumT_append, show sumT [(⟨x, y⟩ : Tk)] = y.size + 1 from by simp [sumT]]
          omega)
        have HOT := Lib.hid ((ho.out.own.alloc (.cells #[.int .i64 x, .string y] 135)).alloc (.cells #[.int .i64 x, .string y] 135))
        have HX2 := Lib.hid ((hx.out.alloc (.cells #[.int .i64 x, .string y] 135)).alloc (.cells #[.int .i64 x, .string y] 135))
        have HSRC : Hid (Rd ((wr.alloc (.cells #[.int .i64 x, .string y] 135)).alloc (.cells #[.int .i64 x, .string y] 135)) (wr.heap.size + 1 + 1) (some ⟨wr.heap.size + 1, 0, none⟩) [.int .i64 x, .string y]) := Lib.hid (by
          have := Rd.new (wr.alloc (.cells #[.int .i64 x, .string y] 135)) 135 [.int .i64 x, .string y]
          simpa using this)
        have kb2 : Below w.heap.size w ((wr.alloc (.cells #[.int .i64 x, .string y] 135)).alloc (.cells #[.int .i64 x, .string y] 135)) := kp_alloc kb _
        clear hsn hs hb hm ho hx h5 h3
        go_wp2_with (at_builtin; refine wpList_append_rds rfl _ _ _ rfl w.heap.size 135 j0 _ 2 24 Tryz.underlying106 gi gz0 gz1 gz2 rfl (by omega) _ z1 _ rfl HOT.out _ _ _ _ [.int .i64 x, .string y] rfl rfl HSRC.out (by simp [Value.oneCell']) (by unfold maxLen; omega) (by omega) kb2.size ?_; intro v4 w4 hown4 hg4; obtain ⟨A4, c4, rfl, ho4⟩ := OT.push hown4)
        go_roundw
        case rel => exact ⟨k + 1, z1 + 1, z2, A4, A2, c4, c2, ks ++ [⟨x, y⟩], ss, by omega, by omega, by omega, rfl, rfl, by go_num, Lib.hid ho4, Lib.hid (own_apart HX2.out HOT.out (by decide) hg4), hs2, hb2, hm2, kb2.trans (below_own_s HOT.out hg4 kb2.size)⟩
        case measure => simp [intOf]; omega
    · obtain rfl : k = n := by omega
      rw [List.take_of_length_le (by rw [HL.out]; exact Nat.le_refl _)] at hs hb
      have HL2 := Lib.hid (HLw.out.below k0 (by obtain ⟨m, hm⟩ := HLw.out; exact World.block_lt_of_cell? _ _ hm))
      have hmm : sumT ks ≤ 1000000 := by have := hm.out; omega
      have hwl := writeF_len ks
      go_wp2_with fail
      refine (write_ok A1 z1 c1 ks wr ho.out.tr hmm HL2.out).mono ?_
      rintro e w1 ⟨r, rfl, hr, k1⟩
      have hrs : r.size ≤ 1000000000 := by
        have := text_len r
        rw [hr] at this
        omega
      go_wp2_with fail
      refine (chop_s r w1 hrs).mono ?_
      rintro e w2 ⟨r2, rfl, hr2, k2⟩
      go_wp2_with fail
      go_ret2
      have kk := kp_trans k1 k2
      refine ⟨r2, A2, z2, c2, ss, rfl, ?_, (XR.of_own hx.out).next kk, hb.out, kp_trans k0 kk⟩
      rw [hr2, hr, hs.out]
      rfl
end

/- The forms, what each does, and Of, by calls of package plan: contracts. -/
section
open Go.RowKit
set_option maxRecDepth 100000

def formC : List Value := [.string tGet, .func (.func 117) #[] #[], .string tAll, .func (.func 118) #[] #[], .string tPut, .func (.func 119) #[] #[], .string tChg, .func (.func 120) #[] #[], .string tDel, .func (.func 121) #[] #[]]

theorem forms_ok (w : World) : Calls Tryz.prog 83 #[] w fun e w' => e = .returned (.slice (some ⟨w.heap.size, 0, none⟩) 5 5) ∧ w' = w.alloc (.cells formC.toArray 163) := by
  go_enter Tryz.func83, Tryz.ntmps83
  go_wp2_with fail
  go_ret
  exact ⟨rfl, rfl⟩

set_option maxHeartbeats 1000000 in
theorem do1_ok (A : Option Addr) (n c : Nat) (x : ByteArray) (ss : List ByteArray) (w : World) (h : XR w A n (x :: ss)) :
    Calls Tryz.prog 117 #[.slice A n c] w fun e w' => e = .returned (planV 1 x ⟨#[]⟩) ∧ Below w.heap.size w w' := by
  obtain ⟨ad, rfl, had, hc⟩ := h.at_ (j := 0) (by simp)
  have hlen := h.len
  rw [List.length_cons] at hlen
  have h0 : (0 : Int) < (n : Int) := by omega
  rw [show ad.add 0 = ad from rfl, List.getElem_cons_zero] at hc
  clear h hlen
  go_enter Tryz.func117, Tryz.ntmps117
  go_wp2_with fail
  refine bodyPost_ret (v := planV 1 x ⟨#[]⟩) ?_ rfl ⟨rfl, kp_new _ _⟩
  rw [results_cell1 rfl]
  unfold planV
  go_simp
set_option maxHeartbeats 1000000 in
theorem do5_ok (A : Option Addr) (n c : Nat) (x : ByteArray) (ss : List ByteArray) (w : World) (h : XR w A n (x :: ss)) :
    Calls Tryz.prog 121 #[.slice A n c] w fun e w' => e = .returned (planV 5 x ⟨#[]⟩) ∧ Below w.heap.size w w' := by
  obtain ⟨ad, rfl, had, hc⟩ := h.at_ (j := 0) (by simp)
  have hlen := h.len
  rw [List.length_cons] at hlen
  have h0 : (0 : Int) < (n : Int) := by omega
  rw [show ad.add 0 = ad from rfl, List.getElem_cons_zero] at hc
  clear h hlen
  go_enter Tryz.func121, Tryz.ntmps121
  go_wp2_with fail
  refine bodyPost_ret (v := planV 5 x ⟨#[]⟩) ?_ rfl ⟨rfl, kp_new _ _⟩
  rw [results_cell1 rfl]
  unfold planV
  go_simp

theorem do2_ok (A : Option Addr) (n c : Nat) (w : World) :
    Calls Tryz.prog 118 #[.slice A n c] w fun e w' => e = .returned (planV 2 ⟨#[]⟩ ⟨#[]⟩) ∧ Below w.heap.size w w' := by
  go_enter Tryz.func118, Tryz.ntmps118
  go_wp2_with fail
  refine bodyPost_ret (v := planV 2 ⟨#[]⟩ ⟨#[]⟩) ?_ rfl ⟨rfl, kp_new _ _⟩
  rw [results_cell1 rfl]
  unfold planV
  go_simp
set_option maxHeartbeats 1000000 in
theorem do3_ok (A : Option Addr) (n c : Nat) (x y : ByteArray) (ss : List ByteArray) (w : World) (h : XR w A n (x :: y :: ss)) :
    Calls Tryz.prog 119 #[.slice A n c] w fun e w' => e = .returned (planV 3 x y) ∧ Below w.heap.size w w' := by
  obtain ⟨ad, rfl, had, hc⟩ := h.at_ (j := 0) (by simp)
  obtain ⟨ad', e', _, hc'⟩ := h.at_ (j := 1) (by simp)
  injection e' with e'
  subst e'
  have hlen := h.len
  rw [List.length_cons, List.length_cons] at hlen
  have h0 : (0 : Int) < (n : Int) := by omega
  have h1 : (1 : Int) < (n : Int) := by omega
  rw [show ad.add 0 = ad from rfl, List.getElem_cons_zero] at hc
  rw [show ad.add 1 = ⟨ad.block, ad.off + 1, none⟩ from rfl, List.getElem_cons_succ, List.getElem_cons_zero] at hc'
  have kw := kp_new w (.cells #[.int .i64 0, .string ⟨#[]⟩, .string ⟨#[]⟩] 122)
  rw [← kw.cell had] at hc
  rw [← kw.cell (show (⟨ad.block, ad.off + 1, none⟩ : Addr).block < w.heap.size from had)] at hc'
  clear h hlen
  go_enter Tryz.func119, Tryz.ntmps119
  go_wp2_with fail
  go_region
  all_goals
    go_wp2_with fail
    refine bodyPost_ret (v := planV 3 x y) ?_ rfl ⟨rfl, ?_⟩
    · rw [results_cell1 rfl]
      unfold planV
      go_simp
    · exact (kp_new _ _).drew
set_option maxHeartbeats 1000000 in
theorem do4_ok (A : Option Addr) (n c : Nat) (x y : ByteArray) (ss : List ByteArray) (w : World) (h : XR w A n (x :: y :: ss)) :
    Calls Tryz.prog 120 #[.slice A n c] w fun e w' => e = .returned (planV 4 y x) ∧ Below w.heap.size w w' := by
  obtain ⟨ad, rfl, had, hc⟩ := h.at_ (j := 0) (by simp)
  obtain ⟨ad', e', _, hc'⟩ := h.at_ (j := 1) (by simp)
  injection e' with e'
  subst e'
  have hlen := h.len
  rw [List.length_cons, List.length_cons] at hlen
  have h0 : (0 : Int) < (n : Int) := by omega
  have h1 : (1 : Int) < (n : Int) := by omega
  rw [show ad.add 0 = ad from rfl, List.getElem_cons_zero] at hc
  rw [show ad.add 1 = ⟨ad.block, ad.off + 1, none⟩ from rfl, List.getElem_cons_succ, List.getElem_cons_zero] at hc'
  have kw := kp_new w (.cells #[.int .i64 0, .string ⟨#[]⟩, .string ⟨#[]⟩] 122)
  rw [← kw.cell had] at hc
  rw [← kw.cell (show (⟨ad.block, ad.off + 1, none⟩ : Addr).block < w.heap.size from had)] at hc'
  clear h hlen
  go_enter Tryz.func120, Tryz.ntmps120
  go_wp2_with fail
  go_region
  all_goals
    go_wp2_with fail
    refine bodyPost_ret (v := planV 4 y x) ?_ rfl ⟨rfl, ?_⟩
    · rw [results_cell1 rfl]
      unfold planV
      go_simp
    · exact (kp_new _ _).drew
end
end Go.Proofs.YtaoegiohnebnhaaGreatDoor
