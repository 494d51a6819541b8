/-
  Contracts and plain functions that the law stands on, part 8 of 24.
-/
import Derived.Test.YtdhnpmagapbmhaaGreatDoorQD7
import Derived.Test.YtdhnpmagapbmhaaGreatDoorShelf4
import Derived.OneCell
import Derived.Laws.EntriesVeiled
namespace Go.Proofs.YtdhnpmagapbmhaaGreatDoor
/- The document's layer 6: what is written to a table: contract. -/
section
open Go.RowKit
set_option maxRecDepth 100000
set_option maxHeartbeats 8000000 in
theorem rwrites_ok (d : Int) (k v : ByteArray) (A : Option Addr) (n c : Nat) (ts : List Kv) (w : World) (h : KR w A n ts) (hs : Srt ts) (hn : n ≤ 900) :
 Calls Tryz.prog 115 #[.agg #[.int .i64 d, .string k, .string v], .slice A n c] w fun e w' => ∃ A' n' c', e = .returned (.tuple #[.slice A' n' c', .int .i64 (writesF d k v ts).2]) ∧ KR w' A' n' (writesF d k v ts).1 ∧ n' ≤ 2000 ∧ Below w.heap.size w w' := by
 obtain ⟨i0, hi, hz0, hz1, hz2⟩ := info_parts kvinfoR; have kw := kp_new w (.cells #[.int .i64 d, .string k, .string v] 163); have hF := fold_writes d k v hs; generalize writesF d k v ts = W at *; have HF := hid hF; clear hF; have HL := hid h.len; have HH := hid h; have hbx : ∀ u, Below (w.alloc (.cells #[.int .i64 d, .string k, .string v] 163)).heap.size (w.alloc (.cells #[.int .i64 d, .string k, .string v] 163)) u → _ := fun u hu => box3 hu; have HBX := hid hbx; have h0 := kp_new (w.alloc (.cells #[.int .i64 d, .string k, .string v] 163)) (.cells #[] 187); have HK0 := hid h0
 have hown0 : Hid (OK 187 ((w.alloc (.cells #[.int .i64 d, .string k, .string v] 163)).alloc (.cells #[] 187)) (w.heap.size + 1) (some ⟨w.heap.size + 1, 0, none⟩) 0 0 []) := hid (by
  have := OK.empty 187 (w.alloc (.cells #[.int .i64 d, .string k, .string v] 163))
  simpa using this)
 clear hbx h hs h0; go_enter Tryz.func115, Tryz.ntmps115; go_wp2_with fail
 go_loopw [6, 7, 8, 9] (fun o m f i wr => ∃ (q z : Nat) (B : Option Addr) (e : Nat) (acc : List Kv) (nn : Int) (dn : Bool), q ≤ n ∧ z ≤ 2 * q ∧ i = .int .i64 q ∧ o = .slice B z e ∧ m = .int .i64 nn ∧ f = .bool dn ∧ Hid ((ts.take q).foldl (stepW d k v) ⟨[], 0, false⟩ = ⟨acc, nn, dn⟩) ∧ Hid (OK 187 wr (w.heap.size + 1) B z e acc) ∧ Below (w.alloc (.cells #[.int .i64 d, .string k, .string v] 163)).heap.size (w.alloc (.cells #[.int .i64 d, .string k, .string v] 163)) wr) (fun _ _ _ i _ => n - (intOf i).toNat)
 case atStart => exact ⟨0, 0, _, 0, [], 0, false, Nat.zero_le _, Nat.zero_le _, rfl, rfl, rfl, rfl, hid rfl, hown0, HK0.out⟩
 case round =>
  obtain ⟨q, z, B, e, acc, nn, dn, hq, hz, rfl, rfl, rfl, rfl, hst, ho', kr⟩ := hrel; have ho := ho'.out; clear ho'; have K0 := kp_trans kw kr; have hsw : w.heap.size + 1 ≤ wr.heap.size := by have := kr.size; simpa using this
  by_cases hlt : q < n
  · have hkl : q < ts.length := by rw [HL.out]; exact hlt
    obtain ⟨b0, b1, b2⟩ := HBX.out wr kr
    have hfold : Hid ((ts.take (q + 1)).foldl (stepW d k v) ⟨[], 0, false⟩ = stepW d k v ⟨acc, nn, dn⟩ ts[q]) := hid (by
     rw [List.take_succ_eq_append_getElem hkl, List.foldl_append, hst.out]
     rfl)
    obtain ⟨ad, rfl, had, hc⟩ := HH.out.at_ hkl; have HC := hid hc; obtain ⟨c0, c1⟩ := hc _ K0; have hz2000 : z ≤ 2000 := by omega
    have HZ := hid hz; have eta : ts[q] = ⟨ts[q].k, ts[q].v⟩ := rfl; rw [eta] at hfold; clear hc hz hst eta; generalize ts[q].k = x at *; generalize ts[q].v = y at *; by_cases hxk : x = k
    · subst hxk; have hq1 : (x.toList == x.toList) = true := by simp
      have hq2 : Op.bytesLess x.toList x.toList = false := ltB_irrefl x; by_cases h3 : d = 3
      · subst h3; cases dn
        all_goals
         have hf : Hid ((ts.take (q + 1)).foldl (stepW 3 x v) ⟨[], 0, false⟩ = ⟨acc ++ [⟨x, v⟩], 1, true⟩) := hid (by rw [hfold.out, stepW]; rw [if_neg (by rw [ltB_irrefl]; simp), if_neg (by simp)]; simp); clear hfold; go_wp2_with fail; go_quiet (fail); have kq : Below wr.heap.size wr (wr.drewN nq) := kp_drewN wr nq; have hoq_wq := ho.next kq; have K_wq := kp_trans K0 kq; have kr_wq := kp_trans kr kq; generalize wr.drewN nq = wq at *; obtain ⟨d0_wq, d1_wq⟩ := HC.out _ K_wq; obtain ⟨g0_wq, g1_wq, g2_wq⟩ := HBX.out wq kr_wq; clear kq; go_wp2_with fail; go_quiet (fail); have kq : Below wq.heap.size wq (wq.drewN nq) := kp_drewN wq nq; have hoq_wp := hoq_wq.next kq; have K_wp := kp_trans K_wq kq; have kr_wp := kp_trans kr_wq kq; generalize wq.drewN nq = wp at *; obtain ⟨d0_wp, d1_wp⟩ := HC.out _ K_wp; obtain ⟨g0_wp, g1_wp, g2_wp⟩ := HBX.out wp kr_wp; clear kq; have HO_a := hid (hoq_wp.own.alloc (.cells #[.string x, .string v] 187)); have HSRC_a : Hid (Rd (wp.alloc (.cells #[.string x, .string v] 187)) (wp.heap.size + 1) (some ⟨wp.heap.size, 0, none⟩) [.string x, .string v]) := hid (Rd.new wp 187 [.string x, .string v]); have HSW_a := hid (show w.heap.size + 1 ≤ (wp.alloc (.cells #[.string x, .string v] 187)).heap.size by have := kr_wp.size; simp at this ⊢; omega); have HKR_a := hid (kp_alloc kr_wp (.cells #[.string x, .string v] 187)); clear hoq_wp; go_wp2_with (at_builtin; refine wpList_append_rds rfl _ _ _ rfl (w.heap.size + 1) 187 i0 _ 2 32 Tryz.underlying165 hi hz0 hz1 hz2 rfl (by omega) _ (z) _ rfl HO_a.out _ _ _ _ [.string x, .string v] rfl rfl HSRC_a.out (by simp [Value.oneCell']) (by unfold maxLen; omega) (by omega) HSW_a.out ?_; intro v3 w3 hown3 hg3; obtain ⟨A_a, c_a, rfl, ho_a⟩ := OK.push hown3; have kr_w3 := HKR_a.out.trans ((below_own_s HO_a.out hg3 HSW_a.out).mono (by simp)); have K_w3 := kp_trans kw kr_w3; obtain ⟨e0, e1, e2⟩ := HBX.out w3 kr_w3; obtain ⟨f0, f1⟩ := HC.out _ K_w3; clear hown3 hg3); go_roundw
         case rel => exact ⟨q + 1, z + 1, A_a, c_a, acc ++ [⟨x, v⟩], 1, true, by omega, by have := HZ.out; omega, by go_num, rfl, rfl, rfl, hf, hid ho_a, kr_w3⟩
         case measure => simp [intOf]; omega
      · have n3 : (d == 3) = false := by simpa using h3
        by_cases hl3 : d < 3
        · have hl5 : ¬ 5 < d := by omega
          have hf : Hid ((ts.take (q + 1)).foldl (stepW d x v) ⟨[], 0, false⟩ = ⟨acc ++ [⟨x, y⟩], nn, dn⟩) := hid (by rw [hfold.out, stepW]; rw [if_neg (by omega), if_pos (.inr (.inl hl3))]); clear hfold h3; go_wp2_with fail; go_quiet (fail); have kq : Below wr.heap.size wr (wr.drewN nq) := kp_drewN wr nq; have hoq_wq := ho.next kq; have K_wq := kp_trans K0 kq; have kr_wq := kp_trans kr kq; generalize wr.drewN nq = wq at *; obtain ⟨d0_wq, d1_wq⟩ := HC.out _ K_wq; obtain ⟨g0_wq, g1_wq, g2_wq⟩ := HBX.out wq kr_wq; clear kq; go_wp2_with fail; go_quiet (fail); have kq : Below wq.heap.size wq (wq.drewN nq) := kp_drewN wq nq; have hoq_wp := hoq_wq.next kq; have K_wp := kp_trans K_wq kq; have kr_wp := kp_trans kr_wq kq; generalize wq.drewN nq = wp at *; obtain ⟨d0_wp, d1_wp⟩ := HC.out _ K_wp; obtain ⟨g0_wp, g1_wp, g2_wp⟩ := HBX.out wp kr_wp; clear kq; have HO_a := hid (hoq_wp.own.alloc (.cells #[.string x, .string y] 187)); have HSRC_a : Hid (Rd (wp.alloc (.cells #[.string x, .string y] 187)) (wp.heap.size + 1) (some ⟨wp.heap.size, 0, none⟩) [.string x, .string y]) := hid (Rd.new wp 187 [.string x, .string y]); have HSW_a := hid (show w.heap.size + 1 ≤ (wp.alloc (.cells #[.string x, .string y] 187)).heap.size by have := kr_wp.size; simp at this ⊢; omega); have HKR_a := hid (kp_alloc kr_wp (.cells #[.string x, .string y] 187)); clear hoq_wp; go_wp2_with (at_builtin; refine wpList_append_rds rfl _ _ _ rfl (w.heap.size + 1) 187 i0 _ 2 32 Tryz.underlying165 hi hz0 hz1 hz2 rfl (by omega) _ (z) _ rfl HO_a.out _ _ _ _ [.string x, .string y] rfl rfl HSRC_a.out (by simp [Value.oneCell']) (by unfold maxLen; omega) (by omega) HSW_a.out ?_; intro v3 w3 hown3 hg3; obtain ⟨A_a, c_a, rfl, ho_a⟩ := OK.push hown3; have kr_w3 := HKR_a.out.trans ((below_own_s HO_a.out hg3 HSW_a.out).mono (by simp)); have K_w3 := kp_trans kw kr_w3; obtain ⟨e0, e1, e2⟩ := HBX.out w3 kr_w3; obtain ⟨f0, f1⟩ := HC.out _ K_w3; clear hown3 hg3); go_roundw
          case rel => exact ⟨q + 1, z + 1, A_a, c_a, acc ++ [⟨x, y⟩], nn, dn, by omega, by have := HZ.out; omega, by go_num, rfl, rfl, rfl, hf, hid ho_a, kr_w3⟩
          case measure => simp [intOf]; omega
        by_cases hg5 : 5 < d
        · have hl3' : ¬ d < 3 := hl3; have hf : Hid ((ts.take (q + 1)).foldl (stepW d x v) ⟨[], 0, false⟩ = ⟨acc ++ [⟨x, y⟩], nn, dn⟩) := hid (by rw [hfold.out, stepW]; rw [if_neg (by omega), if_pos (.inr (.inr hg5))]); clear hfold h3; go_wp2_with fail; go_quiet (fail); have kq : Below wr.heap.size wr (wr.drewN nq) := kp_drewN wr nq; have hoq_wq := ho.next kq; have K_wq := kp_trans K0 kq; have kr_wq := kp_trans kr kq; generalize wr.drewN nq = wq at *; obtain ⟨d0_wq, d1_wq⟩ := HC.out _ K_wq; obtain ⟨g0_wq, g1_wq, g2_wq⟩ := HBX.out wq kr_wq; clear kq; go_wp2_with fail; go_quiet (fail); have kq : Below wq.heap.size wq (wq.drewN nq) := kp_drewN wq nq; have hoq_wp := hoq_wq.next kq; have K_wp := kp_trans K_wq kq; have kr_wp := kp_trans kr_wq kq; generalize wq.drewN nq = wp at *; obtain ⟨d0_wp, d1_wp⟩ := HC.out _ K_wp; obtain ⟨g0_wp, g1_wp, g2_wp⟩ := HBX.out wp kr_wp; clear kq; have HO_a := hid (hoq_wp.own.alloc (.cells #[.string x, .string y] 187)); have HSRC_a : Hid (Rd (wp.alloc (.cells #[.string x, .string y] 187)) (wp.heap.size + 1) (some ⟨wp.heap.size, 0, none⟩) [.string x, .string y]) := hid (Rd.new wp 187 [.string x, .string y]); have HSW_a := hid (show w.heap.size + 1 ≤ (wp.alloc (.cells #[.string x, .string y] 187)).heap.size by have := kr_wp.size; simp at this ⊢; omega); have HKR_a := hid (kp_alloc kr_wp (.cells #[.string x, .string y] 187)); clear hoq_wp; go_wp2_with (at_builtin; refine wpList_append_rds rfl _ _ _ rfl (w.heap.size + 1) 187 i0 _ 2 32 Tryz.underlying165 hi hz0 hz1 hz2 rfl (by omega) _ (z) _ rfl HO_a.out _ _ _ _ [.string x, .string y] rfl rfl HSRC_a.out (by simp [Value.oneCell']) (by unfold maxLen; omega) (by omega) HSW_a.out ?_; intro v3 w3 hown3 hg3; obtain ⟨A_a, c_a, rfl, ho_a⟩ := OK.push hown3; have kr_w3 := HKR_a.out.trans ((below_own_s HO_a.out hg3 HSW_a.out).mono (by simp)); have K_w3 := kp_trans kw kr_w3; obtain ⟨e0, e1, e2⟩ := HBX.out w3 kr_w3; obtain ⟨f0, f1⟩ := HC.out _ K_w3; clear hown3 hg3); go_roundw
          case rel => exact ⟨q + 1, z + 1, A_a, c_a, acc ++ [⟨x, y⟩], nn, dn, by omega, by have := HZ.out; omega, by go_num, rfl, rfl, rfl, hf, hid ho_a, kr_w3⟩
          case measure => simp [intOf]; omega
        by_cases h4 : d = 4
        · subst h4; have hf : Hid ((ts.take (q + 1)).foldl (stepW 4 x v) ⟨[], 0, false⟩ = ⟨acc ++ [⟨x, v⟩], 1, true⟩) := hid (by rw [hfold.out, stepW]; rw [if_neg (by simp), if_neg (by simp)]; simp); clear hfold h3 n3; go_wp2_with fail; go_quiet (fail); have kq : Below wr.heap.size wr (wr.drewN nq) := kp_drewN wr nq; have hoq_wq := ho.next kq; have K_wq := kp_trans K0 kq; have kr_wq := kp_trans kr kq; generalize wr.drewN nq = wq at *; obtain ⟨d0_wq, d1_wq⟩ := HC.out _ K_wq; obtain ⟨g0_wq, g1_wq, g2_wq⟩ := HBX.out wq kr_wq; clear kq; go_wp2_with fail; go_quiet (fail); have kq : Below wq.heap.size wq (wq.drewN nq) := kp_drewN wq nq; have hoq_wp := hoq_wq.next kq; have K_wp := kp_trans K_wq kq; have kr_wp := kp_trans kr_wq kq; generalize wq.drewN nq = wp at *; obtain ⟨d0_wp, d1_wp⟩ := HC.out _ K_wp; obtain ⟨g0_wp, g1_wp, g2_wp⟩ := HBX.out wp kr_wp; clear kq; have HO_a := hid (hoq_wp.own.alloc (.cells #[.string x, .string v] 187)); have HSRC_a : Hid (Rd (wp.alloc (.cells #[.string x, .string v] 187)) (wp.heap.size + 1) (some ⟨wp.heap.size, 0, none⟩) [.string x, .string v]) := hid (Rd.new wp 187 [.string x, .string v]); have HSW_a := hid (show w.heap.size + 1 ≤ (wp.alloc (.cells #[.string x, .string v] 187)).heap.size by have := kr_wp.size; simp at this ⊢; omega); have HKR_a := hid (kp_alloc kr_wp (.cells #[.string x, .string v] 187)); clear hoq_wp; go_wp2_with (at_builtin; refine wpList_append_rds rfl _ _ _ rfl (w.heap.size + 1) 187 i0 _ 2 32 Tryz.underlying165 hi hz0 hz1 hz2 rfl (by omega) _ (z) _ rfl HO_a.out _ _ _ _ [.string x, .string v] rfl rfl HSRC_a.out (by simp [Value.oneCell']) (by unfold maxLen; omega) (by omega) HSW_a.out ?_; intro v3 w3 hown3 hg3; obtain ⟨A_a, c_a, rfl, ho_a⟩ := OK.push hown3; have kr_w3 := HKR_a.out.trans ((below_own_s HO_a.out hg3 HSW_a.out).mono (by simp)); have K_w3 := kp_trans kw kr_w3; obtain ⟨e0, e1, e2⟩ := HBX.out w3 kr_w3; obtain ⟨f0, f1⟩ := HC.out _ K_w3; clear hown3 hg3); go_roundw
          case rel => exact ⟨q + 1, z + 1, A_a, c_a, acc ++ [⟨x, v⟩], 1, true, by omega, by have := HZ.out; omega, by go_num, rfl, rfl, rfl, hf, hid ho_a, kr_w3⟩
          case measure => simp [intOf]; omega
        · obtain rfl : d = 5 := by omega
          have hf : Hid ((ts.take (q + 1)).foldl (stepW 5 x v) ⟨[], 0, false⟩ = ⟨acc, 1, true⟩) := hid (by rw [hfold.out, stepW]; rw [if_neg (by simp), if_neg (by simp)]; simp); clear hfold h3 n3 h4; go_wp2_with fail; go_quiet (fail); have kq : Below wr.heap.size wr (wr.drewN nq) := kp_drewN wr nq; have hoq_wq := ho.next kq; have K_wq := kp_trans K0 kq; have kr_wq := kp_trans kr kq; generalize wr.drewN nq = wq at *; obtain ⟨d0_wq, d1_wq⟩ := HC.out _ K_wq; obtain ⟨g0_wq, g1_wq, g2_wq⟩ := HBX.out wq kr_wq; clear kq; go_wp2_with fail; go_quiet (fail); have kq : Below wq.heap.size wq (wq.drewN nq) := kp_drewN wq nq; have hoq_wp := hoq_wq.next kq; have K_wp := kp_trans K_wq kq; have kr_wp := kp_trans kr_wq kq; generalize wq.drewN nq = wp at *; obtain ⟨d0_wp, d1_wp⟩ := HC.out _ K_wp; obtain ⟨g0_wp, g1_wp, g2_wp⟩ := HBX.out wp kr_wp; clear kq; go_wp2_with fail; go_roundw
          case rel => exact ⟨q + 1, z, B, e, acc, 1, true, by omega, by have := HZ.out; omega, by go_num, rfl, rfl, rfl, hf, hid hoq_wp, kr_wp⟩
          case measure => simp [intOf]; omega
    · have hq1 : (x.toList == k.toList) = false := by
       simp only [beq_eq_false_iff_ne, ne_eq]; exact fun h => hxk (bytes_ext h)
      by_cases h3 : d = 3
      · subst h3
        cases dn with
        | true =>
          have hf : Hid ((ts.take (q + 1)).foldl (stepW 3 k v) ⟨[], 0, false⟩ = ⟨acc ++ [⟨x, y⟩], nn, true⟩) := hid (by rw [hfold.out, stepW]; rw [if_neg (by simp), if_pos (.inl hxk)]); clear hfold hxk; go_wp2_with fail; go_quiet (fail); have kq : Below wr.heap.size wr (wr.drewN nq) := kp_drewN wr nq; have hoq_wq := ho.next kq; have K_wq := kp_trans K0 kq; have kr_wq := kp_trans kr kq; generalize wr.drewN nq = wq at *; obtain ⟨d0_wq, d1_wq⟩ := HC.out _ K_wq; obtain ⟨g0_wq, g1_wq, g2_wq⟩ := HBX.out wq kr_wq; clear kq; go_wp2_with fail; go_quiet (fail); have kq : Below wq.heap.size wq (wq.drewN nq) := kp_drewN wq nq; have hoq_wp := hoq_wq.next kq; have K_wp := kp_trans K_wq kq; have kr_wp := kp_trans kr_wq kq; generalize wq.drewN nq = wp at *; obtain ⟨d0_wp, d1_wp⟩ := HC.out _ K_wp; obtain ⟨g0_wp, g1_wp, g2_wp⟩ := HBX.out wp kr_wp; clear kq; have HO_a := hid (hoq_wp.own.alloc (.cells #[.string x, .string y] 187)); have HSRC_a : Hid (Rd (wp.alloc (.cells #[.string x, .string y] 187)) (wp.heap.size + 1) (some ⟨wp.heap.size, 0, none⟩) [.string x, .string y]) := hid (Rd.new wp 187 [.string x, .string y]); have HSW_a := hid (show w.heap.size + 1 ≤ (wp.alloc (.cells #[.string x, .string y] 187)).heap.size by have := kr_wp.size; simp at this ⊢; omega); have HKR_a := hid (kp_alloc kr_wp (.cells #[.string x, .string y] 187)); clear hoq_wp; go_wp2_with (at_builtin; refine wpList_append_rds rfl _ _ _ rfl (w.heap.size + 1) 187 i0 _ 2 32 Tryz.underlying165 hi hz0 hz1 hz2 rfl (by omega) _ (z) _ rfl HO_a.out _ _ _ _ [.string x, .string y] rfl rfl HSRC_a.out (by simp [Value.oneCell']) (by unfold maxLen; omega) (by omega) HSW_a.out ?_; intro v3 w3 hown3 hg3; obtain ⟨A_a, c_a, rfl, ho_a⟩ := OK.push hown3; have kr_w3 := HKR_a.out.trans ((below_own_s HO_a.out hg3 HSW_a.out).mono (by simp)); have K_w3 := kp_trans kw kr_w3; obtain ⟨e0, e1, e2⟩ := HBX.out w3 kr_w3; obtain ⟨f0, f1⟩ := HC.out _ K_w3; clear hown3 hg3); go_roundw
          case rel => exact ⟨q + 1, z + 1, A_a, c_a, acc ++ [⟨x, y⟩], nn, true, by omega, by have := HZ.out; omega, by go_num, rfl, rfl, rfl, hf, hid ho_a, kr_w3⟩
          case measure => simp [intOf]; omega
        | false =>
          cases hlt2 : ltB x k with
          | true =>
            have hq2 : Op.bytesLess x.toList k.toList = true := hlt2; have hf : Hid ((ts.take (q + 1)).foldl (stepW 3 k v) ⟨[], 0, false⟩ = ⟨acc ++ [⟨x, y⟩], nn, false⟩) := hid (by rw [hfold.out, stepW]; rw [if_neg (by rw [ltB_asymm hlt2]; simp), if_pos (.inl hxk)]); clear hfold hxk hlt2; go_wp2_with fail; go_quiet (fail); have kq : Below wr.heap.size wr (wr.drewN nq) := kp_drewN wr nq; have hoq_wq := ho.next kq; have K_wq := kp_trans K0 kq; have kr_wq := kp_trans kr kq; generalize wr.drewN nq = wq at *; obtain ⟨d0_wq, d1_wq⟩ := HC.out _ K_wq; obtain ⟨g0_wq, g1_wq, g2_wq⟩ := HBX.out wq kr_wq; clear kq; go_wp2_with fail; go_quiet (fail); have kq : Below wq.heap.size wq (wq.drewN nq) := kp_drewN wq nq; have hoq_wp := hoq_wq.next kq; have K_wp := kp_trans K_wq kq; have kr_wp := kp_trans kr_wq kq; generalize wq.drewN nq = wp at *; obtain ⟨d0_wp, d1_wp⟩ := HC.out _ K_wp; obtain ⟨g0_wp, g1_wp, g2_wp⟩ := HBX.out wp kr_wp; clear kq; have HO_a := hid (hoq_wp.own.alloc (.cells #[.string x, .string y] 187)); have HSRC_a : Hid (Rd (wp.alloc (.cells #[.string x, .string y] 187)) (wp.heap.size + 1) (some ⟨wp.heap.size, 0, none⟩) [.string x, .string y]) := hid (Rd.new wp 187 [.string x, .string y]); have HSW_a := hid (show w.heap.size + 1 ≤ (wp.alloc (.cells #[.string x, .string y] 187)).heap.size by have := kr_wp.size; simp at this ⊢; omega); have HKR_a := hid (kp_alloc kr_wp (.cells #[.string x, .string y] 187)); clear hoq_wp; go_wp2_with (at_builtin; refine wpList_append_rds rfl _ _ _ rfl (w.heap.size + 1) 187 i0 _ 2 32 Tryz.underlying165 hi hz0 hz1 hz2 rfl (by omega) _ (z) _ rfl HO_a.out _ _ _ _ [.string x, .string y] rfl rfl HSRC_a.out (by simp [Value.oneCell']) (by unfold maxLen; omega) (by omega) HSW_a.out ?_; intro v3 w3 hown3 hg3; obtain ⟨A_a, c_a, rfl, ho_a⟩ := OK.push hown3; have kr_w3 := HKR_a.out.trans ((below_own_s HO_a.out hg3 HSW_a.out).mono (by simp)); have K_w3 := kp_trans kw kr_w3; obtain ⟨e0, e1, e2⟩ := HBX.out w3 kr_w3; obtain ⟨f0, f1⟩ := HC.out _ K_w3; clear hown3 hg3); go_roundw
            case rel => exact ⟨q + 1, z + 1, A_a, c_a, acc ++ [⟨x, y⟩], nn, false, by omega, by have := HZ.out; omega, by go_num, rfl, rfl, rfl, hf, hid ho_a, kr_w3⟩
            case measure => simp [intOf]; omega
          | false =>
            have hq2 : Op.bytesLess x.toList k.toList = false := hlt2
            have hgt : ltB k x = true := by
             cases h : ltB k x with
             | true => rfl
             | false => exact absurd (ltB_total hlt2 h) hxk
            have hf : Hid ((ts.take (q + 1)).foldl (stepW 3 k v) ⟨[], 0, false⟩ = ⟨acc ++ [⟨k, v⟩] ++ [⟨x, y⟩], nn, true⟩) := hid (by rw [hfold.out, stepW]; rw [if_pos ⟨rfl, rfl, hgt⟩]); clear hfold hxk hlt2 hgt; go_wp2_with fail; go_quiet (fail); have kq : Below wr.heap.size wr (wr.drewN nq) := kp_drewN wr nq; have hoq_wq := ho.next kq; have K_wq := kp_trans K0 kq; have kr_wq := kp_trans kr kq; generalize wr.drewN nq = wq at *; obtain ⟨d0_wq, d1_wq⟩ := HC.out _ K_wq; obtain ⟨g0_wq, g1_wq, g2_wq⟩ := HBX.out wq kr_wq; clear kq; have HO_a := hid (hoq_wq.own.alloc (.cells #[.string k, .string v] 187)); have HSRC_a : Hid (Rd (wq.alloc (.cells #[.string k, .string v] 187)) (wq.heap.size + 1) (some ⟨wq.heap.size, 0, none⟩) [.string k, .string v]) := hid (Rd.new wq 187 [.string k, .string v]); have HSW_a := hid (show w.heap.size + 1 ≤ (wq.alloc (.cells #[.string k, .string v] 187)).heap.size by have := kr_wq.size; simp at this ⊢; omega); have HKR_a := hid (kp_alloc kr_wq (.cells #[.string k, .string v] 187)); clear hoq_wq; go_wp2_with (at_builtin; refine wpList_append_rds rfl _ _ _ rfl (w.heap.size + 1) 187 i0 _ 2 32 Tryz.underlying165 hi hz0 hz1 hz2 rfl (by omega) _ (z) _ rfl HO_a.out _ _ _ _ [.string k, .string v] rfl rfl HSRC_a.out (by simp [Value.oneCell']) (by unfold maxLen; omega) (by omega) HSW_a.out ?_; intro v3 w3 hown3 hg3; obtain ⟨A_a, c_a, rfl, ho_a⟩ := OK.push hown3; have kr_w3 := HKR_a.out.trans ((below_own_s HO_a.out hg3 HSW_a.out).mono (by simp)); have K_w3 := kp_trans kw kr_w3; obtain ⟨e0, e1, e2⟩ := HBX.out w3 kr_w3; obtain ⟨f0, f1⟩ := HC.out _ K_w3; clear hown3 hg3); go_quiet (fail); have kq : Below w3.heap.size w3 (w3.drewN nq) := kp_drewN w3 nq; have hoq_wp := ho_a.next kq; have K_wp := kp_trans K_w3 kq; have kr_wp := kp_trans kr_w3 kq; generalize w3.drewN nq = wp at *; obtain ⟨d0_wp, d1_wp⟩ := HC.out _ K_wp; obtain ⟨g0_wp, g1_wp, g2_wp⟩ := HBX.out wp kr_wp; clear kq; have HO_b := hid (hoq_wp.own.alloc (.cells #[.string x, .string y] 187)); have HSRC_b : Hid (Rd (wp.alloc (.cells #[.string x, .string y] 187)) (wp.heap.size + 1) (some ⟨wp.heap.size, 0, none⟩) [.string x, .string y]) := hid (Rd.new wp 187 [.string x, .string y]); have HSW_b := hid (show w.heap.size + 1 ≤ (wp.alloc (.cells #[.string x, .string y] 187)).heap.size by have := kr_wp.size; simp at this ⊢; omega); have HKR_b := hid (kp_alloc kr_wp (.cells #[.string x, .string y] 187)); clear hoq_wp; go_wp2_with (at_builtin; refine wpList_append_rds rfl _ _ _ rfl (w.heap.size + 1) 187 i0 _ 2 32 Tryz.underlying165 hi hz0 hz1 hz2 rfl (by omega) _ (z + 1) _ rfl HO_b.out _ _ _ _ [.string x, .string y] rfl rfl HSRC_b.out (by simp [Value.oneCell']) (by unfold maxLen; omega) (by omega) HSW_b.out ?_; intro v3 w4 hown3 hg3; obtain ⟨A_b, c_b, rfl, ho_b⟩ := OK.push hown3; have kr_w4 := HKR_b.out.trans ((below_own_s HO_b.out hg3 HSW_b.out).mono (by simp)); have K_w4 := kp_trans kw kr_w4; obtain ⟨e0, e1, e2⟩ := HBX.out w4 kr_w4; obtain ⟨f0, f1⟩ := HC.out _ K_w4; clear hown3 hg3)
            go_roundw
            case rel => exact ⟨q + 1, z + 1 + 1, A_b, c_b, acc ++ [⟨k, v⟩] ++ [⟨x, y⟩], nn, true, by omega, by have := HZ.out; omega, by go_num, rfl, rfl, rfl, hf, hid ho_b, kr_w4⟩
            case measure => simp [intOf]; omega
      · have n3 : (d == 3) = false := by simpa using h3
        have hf : Hid ((ts.take (q + 1)).foldl (stepW d k v) ⟨[], 0, false⟩ = ⟨acc ++ [⟨x, y⟩], nn, dn⟩) := hid (by rw [hfold.out, stepW]; rw [if_neg (fun h => h3 h.1), if_pos (.inl hxk)]); clear hfold hxk h3; go_wp2_with fail; go_quiet (fail); have kq : Below wr.heap.size wr (wr.drewN nq) := kp_drewN wr nq; have hoq_wq := ho.next kq; have K_wq := kp_trans K0 kq; have kr_wq := kp_trans kr kq; generalize wr.drewN nq = wq at *; obtain ⟨d0_wq, d1_wq⟩ := HC.out _ K_wq; obtain ⟨g0_wq, g1_wq, g2_wq⟩ := HBX.out wq kr_wq; clear kq; go_wp2_with fail; go_quiet (fail); have kq : Below wq.heap.size wq (wq.drewN nq) := kp_drewN wq nq; have hoq_wp := hoq_wq.next kq; have K_wp := kp_trans K_wq kq; have kr_wp := kp_trans kr_wq kq; generalize wq.drewN nq = wp at *; obtain ⟨d0_wp, d1_wp⟩ := HC.out _ K_wp; obtain ⟨g0_wp, g1_wp, g2_wp⟩ := HBX.out wp kr_wp; clear kq; have HO_a := hid (hoq_wp.own.alloc (.cells #[.string x, .string y] 187)); have HSRC_a : Hid (Rd (wp.alloc (.cells #[.string x, .string y] 187)) (wp.heap.size + 1) (some ⟨wp.heap.size, 0, none⟩) [.string x, .string y]) := hid (Rd.new wp 187 [.string x, .string y]); have HSW_a := hid (show w.heap.size + 1 ≤ (wp.alloc (.cells #[.string x, .string y] 187)).heap.size by have := kr_wp.size; simp at this ⊢; omega); have HKR_a := hid (kp_alloc kr_wp (.cells #[.string x, .string y] 187)); clear hoq_wp; go_wp2_with (at_builtin; refine wpList_append_rds rfl _ _ _ rfl (w.heap.size + 1) 187 i0 _ 2 32 Tryz.underlying165 hi hz0 hz1 hz2 rfl (by omega) _ (z) _ rfl HO_a.out _ _ _ _ [.string x, .string y] rfl rfl HSRC_a.out (by simp [Value.oneCell']) (by unfold maxLen; omega) (by omega) HSW_a.out ?_; intro v3 w3 hown3 hg3; obtain ⟨A_a, c_a, rfl, ho_a⟩ := OK.push hown3; have kr_w3 := HKR_a.out.trans ((below_own_s HO_a.out hg3 HSW_a.out).mono (by simp)); have K_w3 := kp_trans kw kr_w3; obtain ⟨e0, e1, e2⟩ := HBX.out w3 kr_w3; obtain ⟨f0, f1⟩ := HC.out _ K_w3; clear hown3 hg3); go_roundw
        case rel => exact ⟨q + 1, z + 1, A_a, c_a, acc ++ [⟨x, y⟩], nn, dn, by omega, by have := HZ.out; omega, by go_num, rfl, rfl, rfl, hf, hid ho_a, kr_w3⟩
        case measure => simp [intOf]; omega
  · obtain rfl : q = n := by omega
    obtain ⟨b0, b1, b2⟩ := HBX.out wr kr; rw [List.take_of_length_le (by rw [HL.out]; exact Nat.le_refl _)] at hst; have hF := HF.out; rw [hst.out] at hF; have hfin : finalW d k v ⟨acc, nn, dn⟩ = (if d = 3 ∧ dn = false then acc ++ [⟨k, v⟩] else acc, if d = 3 then 1 else nn) := rfl; rw [hfin] at hF; clear hst hfin; have HW := hid hF; clear hF; by_cases h3 : d = 3
    · subst h3
      cases dn with
      | true =>
        have hW : W = (acc, 1) := by rw [← HW.out]; simp
        have H1 : Hid (W.1 = _) := hid (congrArg Prod.fst hW); have H2 : Hid (W.2 = _) := hid (congrArg Prod.snd hW); clear HW hW; go_wp2_with fail; go_ret2; exact ⟨B, z, ⟨e, by rw [H2.out]; rfl⟩, by rw [H1.out]; exact ho.kr, by omega, K0⟩
      | false =>
        have hW : W = (acc ++ [⟨k, v⟩], 1) := by rw [← HW.out]; simp
        have H1 : Hid (W.1 = _) := hid (congrArg Prod.fst hW); have H2 : Hid (W.2 = _) := hid (congrArg Prod.snd hW); clear HW hW; have HO_a := hid (ho.own.alloc (.cells #[.string k, .string v] 187)); have HSRC_a : Hid (Rd (wr.alloc (.cells #[.string k, .string v] 187)) (wr.heap.size + 1) (some ⟨wr.heap.size, 0, none⟩) [.string k, .string v]) := hid (Rd.new wr 187 [.string k, .string v]); have HSW_a := hid (show w.heap.size + 1 ≤ (wr.alloc (.cells #[.string k, .string v] 187)).heap.size by have := kr.size; simp at this ⊢; omega); have HKR_a := hid (kp_alloc kr (.cells #[.string k, .string v] 187)); clear ho; go_wp2_with (at_builtin; refine wpList_append_rds rfl _ _ _ rfl (w.heap.size + 1) 187 i0 _ 2 32 Tryz.underlying165 hi hz0 hz1 hz2 rfl (by omega) _ (z) _ rfl HO_a.out _ _ _ _ [.string k, .string v] rfl rfl HSRC_a.out (by simp [Value.oneCell']) (by unfold maxLen; omega) (by omega) HSW_a.out ?_; intro v3 w3 hown3 hg3; obtain ⟨A_a, c_a, rfl, ho_a⟩ := OK.push hown3; have kr_w3 := HKR_a.out.trans ((below_own_s HO_a.out hg3 HSW_a.out).mono (by simp)); have K_w3 := kp_trans kw kr_w3; obtain ⟨e0, e1, e2⟩ := HBX.out w3 kr_w3; clear hown3 hg3); go_ret2; exact ⟨A_a, z + 1, ⟨c_a, by rw [H2.out]; rfl⟩, by rw [H1.out]; exact ho_a.kr, by omega, K_w3⟩
    · have n3 : (d == 3) = false := by simpa using h3
      have hW : W = (acc, nn) := by rw [← HW.out, if_neg (fun h => h3 h.1), if_neg h3]
      have H1 : Hid (W.1 = _) := hid (congrArg Prod.fst hW); have H2 : Hid (W.2 = _) := hid (congrArg Prod.snd hW); clear HW hW h3; go_wp2_with fail; go_ret2; exact ⟨B, z, ⟨e, by rw [H2.out]; rfl⟩, by rw [H1.out]; exact ho.kr, by omega, K0⟩
end

/- strings.TrimRight at the cutset that the shapes use: contract. -/
section
open Go.RowKit
set_option maxRecDepth 100000
theorem chop_s (s : ByteArray) (w : World) (hs : s.size ≤ 1000000000) : Calls Tryz.prog 200 #[.string s, .string ⟨#[32, 59]⟩] w fun e w' => ∃ r : ByteArray, e = .returned (.string r) ∧ r.data.toList = chopF s.data.toList ∧ Below w.heap.size w w' := by
 have h := Any.strings_TrimRight_laid Tryz.lays162 (by kernel_rfl) s ⟨#[32, 59]⟩ w (by omega) (by decide) (ascii_of_all (by decide)); change Calls Tryz.prog 200 _ _ _ at h; exact h.mono fun _ _ ⟨he, hb⟩ => ⟨_, he, by simp [chopF, cut2], hb⟩
end

/- What is written of tokens whose Strings are emptied, and the texts of these, by the call shaped of package plan: contract. -/
section
open Go.RowKit
set_option maxRecDepth 100000
def bts (ss : List ByteArray) : List (List UInt8) := ss.map fun x => x.data.toList
theorem bts_append (a b : List ByteArray) : bts (a ++ b) = bts a ++ bts b := by simp [bts]
theorem says_next (us : List Tk) (k : Nat) (h : k < us.length) : saysT (us.take (k + 1)) = saysT (us.take k) ++ [us[k].says] := by
 rw [List.take_succ_eq_append_getElem h, saysT_append]; rfl
def stayF (l : List Tok) : List Tok := (keptF l).map emptyF
theorem stay_hint (l : List Tok) (t : List UInt8) : stayF (l ++ [(5, t)]) = stayF l := by simp [stayF, keptF, isHintF]
theorem stay_str (l : List Tok) (t : List UInt8) : stayF (l ++ [(3, t)]) = stayF l ++ [(3, [])] := by simp [stayF, keptF, isHintF, emptyF]
theorem stay_other (l : List Tok) (k : Int) (t : List UInt8) (h5 : k ≠ 5) (h3 : k ≠ 3) : stayF (l ++ [(k, t)]) = stayF l ++ [(k, t)] := by simp [stayF, keptF, isHintF, emptyF, h5, h3]
theorem strs_hint (l : List Tok) (t : List UInt8) : strsF (keptF (l ++ [(5, t)])) = strsF (keptF l) := by simp [strsF, keptF, isHintF]
theorem strs_str (l : List Tok) (t : List UInt8) : strsF (keptF (l ++ [(3, t)])) = strsF (keptF l) ++ [t] := by simp [strsF, keptF, isHintF, isStrF]
theorem strs_other (l : List Tok) (k : Int) (t : List UInt8) (h5 : k ≠ 5) (h3 : k ≠ 3) : strsF (keptF (l ++ [(k, t)])) = strsF (keptF l) := by simp [strsF, keptF, isHintF, isStrF, h5, h3]
theorem own_ne_type {w : World} {base n size : Nat} {e t : TypeId} {v : Value} {xs : List Value} (h : w.ownsRow base e size v n xs) {b : Nat} {cs : Array Value} {fz : Nat × Nat} (hb : w.heap[b]? = some (.cells cs t fz)) (ht : t ≠ e) : v.ownBlock ≠ some b := by
 rcases h.2 with ⟨rfl, _⟩ | ⟨g, cap, cur, rfl, _, hg, _⟩
 · simp [Value.ownBlock]
 · simp only [Value.ownBlock, ne_eq, Option.some.injEq]; rintro rfl; rw [hg] at hb; simp only [Option.some.injEq, Obj.cells.injEq] at hb; exact ht hb.2.1.symm
set_option maxHeartbeats 4000000 in
theorem shaped_ok (A : Option Addr) (n c : Nat) (us : List Tk) (w : World) (h : TR w A n us) (hn : n ≤ 400) (hsz : ∀ t ∈ us, t.t.size ≤ 400) (hL : Lw w) :
 Calls Tryz.prog 182 #[.slice A n c] w fun e w' => ∃ (r : ByteArray) (A2 : Option Addr) (n2 c2 : Nat) (ss : List ByteArray), e = .returned (.tuple #[.string r, .slice A2 n2 c2]) ∧ r.data.toList = shapeF (keptF (saysT us)) ∧ XR w' A2 n2 ss ∧ bts ss = strsF (keptF (saysT us)) ∧ Below w.heap.size w w' := by
 obtain ⟨i0, hi, hz0, hz1, hz2⟩ := info_parts strinfo6; obtain ⟨j0, gi, gz0, gz1, gz2⟩ := info_parts tkinfo; have HL := hid h.len; have HH := hid h; have HZ := hid hsz; have HLw := hid hL; clear h hsz hL; go_enter Tryz.func182, Tryz.ntmps182; go_wp2_with fail
 go_loopw [4, 5, 10] (fun v u i wr => ∃ (k z1 z2 : Nat) (A1 A2 : Option Addr) (c1 c2 : Nat) (ks : List Tk) (ss : List ByteArray), k ≤ n ∧ z1 ≤ k ∧ z2 ≤ k ∧ v = .slice A1 z1 c1 ∧ u = .slice A2 z2 c2 ∧ i = .int .i64 k ∧
  Hid (OT 142 wr w.heap.size A1 z1 c1 ks) ∧ Hid (wr.ownsRow w.heap.size 9 1 (.slice A2 z2 c2) z2 (tvs ss)) ∧ Hid (saysT ks = stayF (saysT (us.take k))) ∧ Hid (bts ss = strsF (keptF (saysT (us.take k)))) ∧ Hid (sumT ks ≤ k * 401) ∧ Below w.heap.size w wr) (fun _ _ i _ => n - (intOf i).toNat)
 case atStart => exact ⟨0, 0, 0, none, none, 0, 0, [], [], Nat.zero_le _, Nat.le_refl _, Nat.le_refl _, rfl, rfl, rfl, hid (OT.nil _ _ _), hid (World.ownsRow_nil _ _ _ _), hid rfl, hid rfl, hid (Nat.zero_le _), Below.refl _ _⟩
 case round =>
  obtain ⟨k, z1, z2, A1, A2, c1, c2, ks, ss, hk, q1, q2, rfl, rfl, rfl, ho, hx, hs, hb, hm, k0⟩ := hrel; have hsz0 := k0.size; by_cases hlt : k < n
  · have hkl : k < us.length := by rw [HL.out]; exact hlt
    obtain ⟨ad, rfl, had, hcc⟩ := HH.out.at_ hkl; obtain ⟨x0, x1⟩ := hcc _ k0; have hsn := says_next us k hkl; have hte : us[k].says = (us[k].k, us[k].t.data.toList) := rfl; rw [hte] at hsn; have htz := HZ.out us[k] (List.getElem_mem hkl); clear hcc hte; generalize us[k].k = x at *; generalize us[k].t = y at *; have kb : Below w.heap.size w (wr.alloc (.cells #[.int .i64 x, .string y] 142)) := kp_alloc k0 _; by_cases h5 : x = 5
    · subst h5; have hs2 : Hid (saysT ks = stayF (saysT (us.take (k + 1)))) := hid (by rw [hsn, stay_hint]; exact hs.out); have hb2 : Hid (bts ss = strsF (keptF (saysT (us.take (k + 1))))) := hid (by rw [hsn, strs_hint]; exact hb.out); have hm2 : Hid (sumT ks ≤ (k + 1) * 401) := hid (by have := hm.out; omega); clear hsn hs hb hm; go_wp2_with fail; go_roundw
      case rel => exact ⟨k + 1, z1, z2, A1, A2, c1, c2, ks, ss, by omega, by omega, by omega, rfl, rfl, by go_num, hid (ho.out.next (kp_new wr _)), hid (hx.out.alloc _), hs2, hb2, hm2, kb⟩
      case measure => simp [intOf]; omega
    have n5 : (x == 5) = false := by simpa using h5
    by_cases h3 : x = 3
    · subst h3; have hs2 : Hid (saysT (ks ++ [⟨3, ⟨#[]⟩⟩]) = stayF (saysT (us.take (k + 1)))) := hid (by rw [hsn, stay_str, saysT_append, hs.out]; rfl); have hb2 : Hid (bts (ss ++ [y]) = strsF (keptF (saysT (us.take (k + 1))))) := hid (by rw [hsn, strs_str, bts_append, hb.out]; rfl)
      have hm2 : Hid (sumT (ks ++ [⟨3, ⟨#[]⟩⟩]) ≤ (k + 1) * 401) := hid (by
       have := hm.out; rw [sumT_append, show sumT [(⟨3, ⟨#[]⟩⟩ : Tk)] = 1 from rfl]
       omega)
      have hap : ∀ w', ((wr.alloc (.cells #[.int .i64 3, .string y] 142)).alloc (.cells #[.string y] 9)).grownBy w' (Value.slice A2 z2 c2).ownBlock → OT 142 w' w.heap.size A1 z1 c1 ks := fun w' hg =>
       ⟨own_apart ((ho.out.own.alloc _).alloc _) ((hx.out.alloc _).alloc _) (by decide) hg, ho.out.cap⟩
      have hbx : ((wr.alloc (.cells #[.int .i64 3, .string y] 142)).alloc (.cells #[.string y] 9)).heap[wr.heap.size]? = some (.cells #[.int .i64 3, .string y] 142 (0, 0)) := by
       exact (World.grownBy_alloc _ _ none).block wr.heap.size (by simp) (by simp) |>.trans (heap_alloc_new wr _)
      have hne2 : some wr.heap.size ≠ (Value.slice A2 z2 c2).ownBlock := fun e => by have := (hx.out.lt _ e.symm).2; omega
      have hne1 : (Value.slice A1 z1 c1).ownBlock ≠ some wr.heap.size := fun e => by have := (ho.out.own.lt _ e).2; omega
      have HX2 := hid ((hx.out.alloc (.cells #[.int .i64 3, .string y] 142)).alloc (.cells #[.string y] 9))
      have HSRC : Hid (Rd ((wr.alloc (.cells #[.int .i64 3, .string y] 142)).alloc (.cells #[.string y] 9)) (wr.heap.size + 1 + 1) (some ⟨wr.heap.size + 1, 0, none⟩) [.string y]) := hid (by
       have := Rd.new (wr.alloc (.cells #[.int .i64 3, .string y] 142)) 9 [.string y]
       simpa using this)
      have kb2 : Below w.heap.size w ((wr.alloc (.cells #[.int .i64 3, .string y] 142)).alloc (.cells #[.string y] 9)) := kp_alloc kb _; have HAP := hid hap; have HBX := hid hbx; have HN2 := hid hne2; have HN1 := hid hne1; have HS2 := hid (show w.heap.size ≤ ((wr.alloc (.cells #[.int .i64 3, .string y] 142)).alloc (.cells #[.string y] 9)).heap.size by simp; omega); clear hsn hs hb hm hap hbx hne2 hne1
      go_wp2_with (first
       | (at_builtin; refine wpList_append_rd rfl _ _ _ rfl w.heap.size 9 i0 _ 16 Tryz.underlying35 hi hz0 hz1 hz2 rfl _ z2 _ rfl HX2.out _ _ _ _ [.string y] rfl rfl HSRC.out (by simp [Value.oneCell']) (by unfold maxLen; omega) (by omega) HS2.out ?_; intro v3 w3 hown3 hg3; obtain ⟨A3, c3, rfl, hcap3, _⟩ := own_form hown3; have hb3 := hid ((hg3.block _ (by simp; omega) HN2.out).trans HBX.out); obtain ⟨d0, d1, f0, f1⟩ := cells2 hb3.out;
          have HOT := hid ((ownsRow_setCell_other (HAP.out w3 hg3).own (a := ⟨wr.heap.size, 1, none⟩) HN1.out (.string ⟨#[]⟩)).alloc (.cells #[.int .i64 3, .string ⟨#[]⟩] 142));
          have HXT := hid (ownsRow_setCell_other (a := ⟨wr.heap.size, 1, none⟩) hown3 (own_ne_type hown3 hb3.out (by decide)) (.string ⟨#[]⟩));
          have HSR3 : Hid (Rd ((w3.setCell ⟨wr.heap.size, 1, none⟩ (.string ⟨#[]⟩)).alloc (.cells #[.int .i64 3, .string ⟨#[]⟩] 142)) (w3.heap.size + 1) (some ⟨w3.heap.size, 0, none⟩) [.int .i64 3, .string ⟨#[]⟩]) := hid (by have := Rd.new (w3.setCell ⟨wr.heap.size, 1, none⟩ (.string ⟨#[]⟩)) 142 [.int .i64 3, .string ⟨#[]⟩]; simpa using this))
       | (at_builtin; refine wpList_append_rds rfl _ _ _ rfl w.heap.size 142 j0 _ 2 24 Tryz.underlying119 gi gz0 gz1 gz2 rfl (by omega) _ z1 _ rfl HOT.out _ _ _ _ [.int .i64 3, .string ⟨#[]⟩] rfl rfl HSR3.out (by simp [Value.oneCell']) (by unfold maxLen; omega) (by omega) (by simp; have := hg3.size; have := HS2.out; omega) ?_; intro v4 w4 hown4 hg4; obtain ⟨A4, c4, rfl, ho4⟩ := OT.push hown4))
      go_roundw
      case rel =>
       have k3 : Below w.heap.size w w3 := kb2.trans (below_own HX2.out hg3 HS2.out); have k3b : Below w.heap.size w ((w3.setCell ⟨wr.heap.size, 1, none⟩ (.string ⟨#[]⟩)).alloc (.cells #[.int .i64 3, .string ⟨#[]⟩] 142)) := kp_alloc (k3.setCell hsz0 _) _; have hx4 := own_apart (HXT.out.alloc (.cells #[.int .i64 3, .string ⟨#[]⟩] 142)) HOT.out (by decide) hg4; refine ⟨k + 1, z1 + 1, z2 + 1, A4, A3, c4, c3, ks ++ [⟨3, ⟨#[]⟩⟩], ss ++ [y], by omega, by omega, by omega, rfl, rfl, by go_num, hid ho4, hid ?_, hs2, hb2, hm2, k3b.trans (below_own_s HOT.out hg4 k3b.size)⟩; rw [tvs_append]; exact hx4
      case measure => simp [intOf]; omega
    · have n3 : (x == 3) = false := by simpa using h3
      have hs2 : Hid (saysT (ks ++ [⟨x, y⟩]) = stayF (saysT (us.take (k + 1)))) := hid (by rw [hsn, stay_other _ _ _ h5 h3, saysT_append, hs.out]; rfl); have hb2 : Hid (bts ss = strsF (keptF (saysT (us.take (k + 1))))) := hid (by rw [hsn, strs_other _ _ _ h5 h3, hb.out])
      have hm2 : Hid (sumT (ks ++ [⟨x, y⟩]) ≤ (k + 1) * 401) := hid (by
       have := hm.out; rw [sumT_append, show sumT [(⟨x, y⟩ : Tk)] = y.size + 1 from by simp [sumT]]
       omega)
      have HOT := hid ((ho.out.own.alloc (.cells #[.int .i64 x, .string y] 142)).alloc (.cells #[.int .i64 x, .string y] 142)); have HX2 := hid ((hx.out.alloc (.cells #[.int .i64 x, .string y] 142)).alloc (.cells #[.int .i64 x, .string y] 142))
      have HSRC : Hid (Rd ((wr.alloc (.cells #[.int .i64 x, .string y] 142)).alloc (.cells #[.int .i64 x, .string y] 142)) (wr.heap.size + 1 + 1) (some ⟨wr.heap.size + 1, 0, none⟩) [.int .i64 x, .string y]) := hid (by
       have := Rd.new (wr.alloc (.cells #[.int .i64 x, .string y] 142)) 142 [.int .i64 x, .string y]
       simpa using this)
      have kb2 : Below w.heap.size w ((wr.alloc (.cells #[.int .i64 x, .string y] 142)).alloc (.cells #[.int .i64 x, .string y] 142)) := kp_alloc kb _; clear hsn hs hb hm ho hx h5 h3; go_wp2_with (at_builtin; refine wpList_append_rds rfl _ _ _ rfl w.heap.size 142 j0 _ 2 24 Tryz.underlying119 gi gz0 gz1 gz2 rfl (by omega) _ z1 _ rfl HOT.out _ _ _ _ [.int .i64 x, .string y] rfl rfl HSRC.out (by simp [Value.oneCell']) (by unfold maxLen; omega) (by omega) kb2.size ?_; intro v4 w4 hown4 hg4; obtain ⟨A4, c4, rfl, ho4⟩ := OT.push hown4); go_roundw
      case rel => exact ⟨k + 1, z1 + 1, z2, A4, A2, c4, c2, ks ++ [⟨x, y⟩], ss, by omega, by omega, by omega, rfl, rfl, by go_num, hid ho4, hid (own_apart HX2.out HOT.out (by decide) hg4), hs2, hb2, hm2, kb2.trans (below_own_s HOT.out hg4 kb2.size)⟩
      case measure => simp [intOf]; omega
  · obtain rfl : k = n := by omega
    rw [List.take_of_length_le (by rw [HL.out]; exact Nat.le_refl _)] at hs hb; have HL2 := hid (HLw.out.below k0 (by obtain ⟨m, hm⟩ := HLw.out; exact World.block_lt_of_cell? _ _ hm)); have hmm : sumT ks ≤ 1000000 := by have := hm.out; omega
    have hwl := writeF_len ks; go_wp2_with fail; refine (write_ok A1 z1 c1 ks wr ho.out.tr hmm HL2.out).mono ?_; rintro e w1 ⟨r, rfl, hr, k1⟩
    have hrs : r.size ≤ 1000000000 := by
     have := text_len r; rw [hr] at this; omega
    go_wp2_with fail; refine (chop_s r w1 hrs).mono ?_; rintro e w2 ⟨r2, rfl, hr2, k2⟩; go_wp2_with fail; go_ret2; have kk := kp_trans k1 k2; refine ⟨r2, A2, z2, c2, ss, rfl, ?_, (XR.of_own hx.out).next kk, hb.out, kp_trans k0 kk⟩; rw [hr2, hr, hs.out]; rfl
end

/- The forms, what each does, and Of, by calls of package plan: contracts. -/
section
open Go.RowKit
set_option maxRecDepth 100000
def formC : List Value := [.string tGet, .func (.func 202) #[] #[], .string tAll, .func (.func 203) #[] #[], .string tPut, .func (.func 204) #[] #[], .string tChg, .func (.func 205) #[] #[], .string tDel, .func (.func 206) #[] #[]]
theorem forms_ok (w : World) : Calls Tryz.prog 183 #[] w fun e w' => e = .returned (.slice (some ⟨w.heap.size, 0, none⟩) 5 5) ∧ w' = w.alloc (.cells formC.toArray 259) := by
 go_enter Tryz.func183, Tryz.ntmps183; go_wp2_with fail; go_ret; exact ⟨rfl, rfl⟩
set_option maxHeartbeats 1000000 in
theorem do1_ok (A : Option Addr) (n c : Nat) (x : ByteArray) (ss : List ByteArray) (w : World) (h : XR w A n (x :: ss)) :
 Calls Tryz.prog 202 #[.slice A n c] w fun e w' => e = .returned (planV 1 x ⟨#[]⟩) ∧ Below w.heap.size w w' := by
 obtain ⟨ad, rfl, had, hc⟩ := h.at_ (j := 0) (by simp); have hlen := h.len; rw [List.length_cons] at hlen; have h0 : (0 : Int) < (n : Int) := by omega
 rw [show ad.add 0 = ad from rfl, List.getElem_cons_zero] at hc; clear h hlen; go_enter Tryz.func202, Tryz.ntmps202; go_wp2_with fail; refine bodyPost_ret (v := planV 1 x ⟨#[]⟩) ?_ rfl ⟨rfl, kp_new _ _⟩; rw [results_cell1 rfl]; unfold planV; go_simp
set_option maxHeartbeats 1000000 in
theorem do5_ok (A : Option Addr) (n c : Nat) (x : ByteArray) (ss : List ByteArray) (w : World) (h : XR w A n (x :: ss)) :
 Calls Tryz.prog 206 #[.slice A n c] w fun e w' => e = .returned (planV 5 x ⟨#[]⟩) ∧ Below w.heap.size w w' := by
 obtain ⟨ad, rfl, had, hc⟩ := h.at_ (j := 0) (by simp); have hlen := h.len; rw [List.length_cons] at hlen; have h0 : (0 : Int) < (n : Int) := by omega
 rw [show ad.add 0 = ad from rfl, List.getElem_cons_zero] at hc; clear h hlen; go_enter Tryz.func206, Tryz.ntmps206; go_wp2_with fail; refine bodyPost_ret (v := planV 5 x ⟨#[]⟩) ?_ rfl ⟨rfl, kp_new _ _⟩; rw [results_cell1 rfl]; unfold planV; go_simp
theorem do2_ok (A : Option Addr) (n c : Nat) (w : World) :
 Calls Tryz.prog 203 #[.slice A n c] w fun e w' => e = .returned (planV 2 ⟨#[]⟩ ⟨#[]⟩) ∧ Below w.heap.size w w' := by
 go_enter Tryz.func203, Tryz.ntmps203; go_wp2_with fail; refine bodyPost_ret (v := planV 2 ⟨#[]⟩ ⟨#[]⟩) ?_ rfl ⟨rfl, kp_new _ _⟩; rw [results_cell1 rfl]; unfold planV; go_simp
set_option maxHeartbeats 1000000 in
theorem do3_ok (A : Option Addr) (n c : Nat) (x y : ByteArray) (ss : List ByteArray) (w : World) (h : XR w A n (x :: y :: ss)) :
 Calls Tryz.prog 204 #[.slice A n c] w fun e w' => e = .returned (planV 3 x y) ∧ Below w.heap.size w w' := by
 obtain ⟨ad, rfl, had, hc⟩ := h.at_ (j := 0) (by simp); obtain ⟨ad', e', _, hc'⟩ := h.at_ (j := 1) (by simp); injection e' with e'; subst e'; have hlen := h.len; rw [List.length_cons, List.length_cons] at hlen; have h0 : (0 : Int) < (n : Int) := by omega
 have h1 : (1 : Int) < (n : Int) := by omega
 rw [show ad.add 0 = ad from rfl, List.getElem_cons_zero] at hc; rw [show ad.add 1 = ⟨ad.block, ad.off + 1, none⟩ from rfl, List.getElem_cons_succ, List.getElem_cons_zero] at hc'; have kw := kp_new w (.cells #[.int .i64 0, .string ⟨#[]⟩, .string ⟨#[]⟩] 229); rw [← kw.cell had] at hc; rw [← kw.cell (show (⟨ad.block, ad.off + 1, none⟩ : Addr).block < w.heap.size from had)] at hc'; clear h hlen; go_enter Tryz.func204, Tryz.ntmps204; go_wp2_with fail; go_region
 all_goals
  go_wp2_with fail; refine bodyPost_ret (v := planV 3 x y) ?_ rfl ⟨rfl, ?_⟩
  · rw [results_cell1 rfl]; unfold planV; go_simp
  · exact (kp_new _ _).drew
set_option maxHeartbeats 1000000 in
theorem do4_ok (A : Option Addr) (n c : Nat) (x y : ByteArray) (ss : List ByteArray) (w : World) (h : XR w A n (x :: y :: ss)) :
 Calls Tryz.prog 205 #[.slice A n c] w fun e w' => e = .returned (planV 4 y x) ∧ Below w.heap.size w w' := by
 obtain ⟨ad, rfl, had, hc⟩ := h.at_ (j := 0) (by simp); obtain ⟨ad', e', _, hc'⟩ := h.at_ (j := 1) (by simp); injection e' with e'; subst e'; have hlen := h.len; rw [List.length_cons, List.length_cons] at hlen; have h0 : (0 : Int) < (n : Int) := by omega
 have h1 : (1 : Int) < (n : Int) := by omega
 rw [show ad.add 0 = ad from rfl, List.getElem_cons_zero] at hc; rw [show ad.add 1 = ⟨ad.block, ad.off + 1, none⟩ from rfl, List.getElem_cons_succ, List.getElem_cons_zero] at hc'; have kw := kp_new w (.cells #[.int .i64 0, .string ⟨#[]⟩, .string ⟨#[]⟩] 229); rw [← kw.cell had] at hc; rw [← kw.cell (show (⟨ad.block, ad.off + 1, none⟩ : Addr).block < w.heap.size from had)] at hc'; clear h hlen; go_enter Tryz.func205, Tryz.ntmps205; go_wp2_with fail; go_region
 all_goals
  go_wp2_with fail; refine bodyPost_ret (v := planV 4 y x) ?_ rfl ⟨rfl, ?_⟩
  · rw [results_cell1 rfl]; unfold planV; go_simp
  · exact (kp_new _ _).drew
end

/- What a statement does, by the call Of of package plan: contract. -/
section
open Go.RowKit
set_option maxRecDepth 100000
def doing (d : Int) (k v : ByteArray) : Doing := (d, k.data.toList, v.data.toList)
def OfTo (f : FuncId) (s : ByteArray) (w : World) : Prop :=
 Calls Tryz.prog f #[.string s] w fun e w' => ∃ d k v, e = .returned (planV d k v) ∧ doing d k v = planA s.data.toList ∧ Below w.heap.size w w'
theorem text_iff {r t : ByteArray} : r = t ↔ r.data.toList = t.data.toList := ⟨fun h => by rw [h], text_ext⟩
theorem pick_by {L : List Tok} {r : ByteArray} {ss : List ByteArray} (hL : ∀ t ∈ L, t.1 ≠ 5 → rightF t.1 t.2 = true) (hr : r.data.toList = shapeF (keptF L)) (hs : bts ss = strsF (keptF L)) :
 (r = tGet → ∃ x rest, ss = x :: rest ∧ planF (bodyF L) = doing 1 x ⟨#[]⟩) ∧
 (r = tAll → planF (bodyF L) = doing 2 ⟨#[]⟩ ⟨#[]⟩) ∧
 (r = tPut → ∃ x y rest, ss = x :: y :: rest ∧ planF (bodyF L) = doing 3 x y) ∧
 (r = tChg → ∃ x y rest, ss = x :: y :: rest ∧ planF (bodyF L) = doing 4 y x) ∧
 (r = tDel → ∃ x rest, ss = x :: rest ∧ planF (bodyF L) = doing 5 x ⟨#[]⟩) ∧
 (r ≠ tGet → r ≠ tAll → r ≠ tPut → r ≠ tChg → r ≠ tDel → planF (bodyF L) = doing 0 ⟨#[]⟩ ⟨#[]⟩) := by
 have key : ∀ (f : List Tok) (t : ByteArray), (∀ t ∈ f, rightF t.1 t.2 = true ∧ t.1 ≠ 5) → writeF f = t.data.toList → (r = t ↔ (bodyF L).map emptyF = f) := fun f t hf ht => by
  rw [text_iff, hr, ← ht]; exact shape_iff hL f hf
 have k1 := key fGet tGet (by decide) tGet_is; have k2 := key fAll tAll (by decide) tAll_is; have k3 := key fPut tPut (by decide) tPut_is; have k4 := key fChg tChg (by decide) tChg_is; have k5 := key fDel tDel (by decide) tDel_is; rw [strs_body] at hs
 have hlen : ∀ f, (bodyF L).map emptyF = f → ss.length = (strsF f).length := fun f h => by
  rw [← strs_len h, ← hs]; simp [bts]
 have one : ∀ n, ss.length = n + 1 → ∃ x rest, ss = x :: rest := fun n h => by
  cases ss with
  | nil => cases h
  | cons x rest => exact ⟨x, rest, rfl⟩
 have two : ∀ n, ss.length = n + 2 → ∃ x y rest, ss = x :: y :: rest := fun n h => by
  cases ss with
  | nil => cases h
  | cons x rest =>
    cases rest with
    | nil => simp at h
    | cons y rest => exact ⟨x, y, rest, rfl⟩
 unfold planF; rw [← hs]; refine ⟨fun h => ?_, fun h => ?_, fun h => ?_, fun h => ?_, fun h => ?_, fun h1 h2 h3 h4 h5 => ?_⟩
 · have e := k1.1 h; obtain ⟨x, rest, rfl⟩ := one 0 (hlen _ e); exact ⟨x, rest, rfl, by rw [e]; rfl⟩
 · have e := k2.1 h; rw [e]; rfl
 · have e := k3.1 h; obtain ⟨x, y, rest, rfl⟩ := two 0 (hlen _ e); exact ⟨x, y, rest, rfl, by rw [e]; rfl⟩
 · have e := k4.1 h; obtain ⟨x, y, rest, rfl⟩ := two 0 (hlen _ e); exact ⟨x, y, rest, rfl, by rw [e]; rfl⟩
 · have e := k5.1 h; obtain ⟨x, rest, rfl⟩ := one 0 (hlen _ e); exact ⟨x, rest, rfl, by rw [e]; rfl⟩
 · unfold pickF; rw [if_neg (fun e => h1 (k1.2 e)), if_neg (fun e => h2 (k2.2 e)), if_neg (fun e => h3 (k3.2 e)), if_neg (fun e => h4 (k4.2 e)), if_neg (fun e => h5 (k5.2 e))]; rfl
theorem txt_eq (r t : ByteArray) : (t.toList == r.toList) = decide (r = t) := by
 rw [Bool.eq_iff_iff]; simp only [beq_iff_eq, decide_eq_true_eq]; exact ⟨fun h => (bytes_ext h).symm, fun h => by rw [h]⟩
theorem says_short {ts : List Tk} {m : Nat} (h : ∀ t ∈ saysT ts, t.2.length ≤ m) : ∀ t ∈ ts, t.t.size ≤ m := fun t ht => by
 have := h t.says (List.mem_map.2 ⟨t, ht, rfl⟩); simpa [Tk.says, text_len] using this
theorem cells3f {w : World} {b : Nat} {x y z : Value} {t : TypeId} (h : w.heap[b]? = some (.cells #[x, y, z] t (0, 0))) : w.cell? ⟨b, 0, none⟩ = some x ∧ w.cell? ⟨b, 1, none⟩ = some y ∧ w.cell? ⟨b, 2, none⟩ = some z ∧ w.frozen? ⟨b, 0, none⟩ = false ∧ w.frozen? ⟨b, 1, none⟩ = false ∧ w.frozen? ⟨b, 2, none⟩ = false := by
 obtain ⟨a1, a2, a3⟩ := cells3 h; refine ⟨a1, a2, a3, ?_, ?_, ?_⟩ <;> simp [World.frozen?, h]
set_option maxHeartbeats 8000000 in
theorem of_ok (s : ByteArray) (w : World) (hm : s.size ≤ maxLen) (hL : Lw w) : OfTo 157 s w := by
 have kw := kp_new w (.cells #[.int .i64 0, .string ⟨#[]⟩, .string ⟨#[]⟩] 229); have hlx := lex_ok s _ hm (hL.next kw); unfold LexTo at hlx; have hlen := lexA_len s.data.toList; have hok := lexA_ok s.data.toList; have hright := lexA_right s.data.toList; have hP : planA s.data.toList = planF (bodyF (lexA s.data.toList).1) := rfl; unfold OfTo; generalize planA s.data.toList = R at *; have HP := hid hP; have HX := hid hlx; have HLN := hid hlen; have HOK := hid hok; have HRT := hid hright; have HLw := hid hL; clear hP hlx hlen hok hright hL; go_enter Tryz.func157, Tryz.ntmps157; go_wp2_with fail; refine HX.out.mono ?_; rintro e w1 ⟨A, n, c, er, ts, rfl, ho, hla, k1⟩; rw [← hla] at HLN HOK HRT HP; have HLA := hid hla; have K1 := kp_trans kw k1; have hn : n ≤ 200 := by rw [← ho.len, ← saysT_length]; exact HLN.out
 have hb1 : Hid (w1.heap[w.heap.size]? = some (.cells #[.int .i64 0, .string ⟨#[]⟩, .string ⟨#[]⟩] 229 (0, 0))) := hid ((k1.block _ (by simp)).trans (heap_alloc_new w _)); have HS := hid (shaped_ok A n c ts w1 ho.tr (by omega) (fun t ht => Nat.le_trans (says_short (m := 200) (fun t ht => (HOK.out t ht).1) t ht) (by decide)) (HLw.out.next K1)); clear hla HX k1; go_wp2_with fail; refine HS.out.mono ?_; rintro e w2 ⟨r, A2, n2, c2, ss, rfl, hr, hx, hs, k2⟩; have HPK := hid (pick_by HRT.out hr hs); have HXR := hid hx; have K2 := kp_trans K1 k2; have hlt1 : w.heap.size < w1.heap.size := (Array.getElem?_eq_some_iff.1 hb1.out).1; have hb2 : Hid (w2.heap[w.heap.size]? = some (.cells #[.int .i64 0, .string ⟨#[]⟩, .string ⟨#[]⟩] 229 (0, 0))) := hid ((k2.block _ hlt1).trans hb1.out); clear HS hr hs hx k2; go_wp2_with fail; refine (forms_ok w2).mono ?_; rintro e w3 ⟨rfl, hw3⟩; have hlt2 : w.heap.size < w2.heap.size := (Array.getElem?_eq_some_iff.1 hb2.out).1; have k3 : Below w2.heap.size w2 w3 := by rw [hw3]; exact kp_new _ _
 have hF : w3.heap[w2.heap.size]? = some (.cells formC.toArray 259 (0, 0)) := by rw [hw3]; exact heap_alloc_new w2 _
 have hb3 : Hid (w3.heap[w.heap.size]? = some (.cells #[.int .i64 0, .string ⟨#[]⟩, .string ⟨#[]⟩] 229 (0, 0))) := hid ((k3.block _ hlt2).trans hb2.out); have hlt3 : w2.heap.size < w3.heap.size := (Array.getElem?_eq_some_iff.1 hF).1; have K3 := kp_trans K2 k3; have HX3 := hid (HXR.out.next k3); have HF := hid hF; have HK3 := hid K3; clear hw3 hF hb1 hb2 HXR; generalize w2.heap.size = F at *; go_wp2_with fail
 go_loopw [21] (fun i wr => ∃ k : Nat, k ≤ 5 ∧ i = .int .i64 k ∧ Hid ((0 < k → r ≠ tGet) ∧ (1 < k → r ≠ tAll) ∧ (2 < k → r ≠ tPut) ∧ (3 < k → r ≠ tChg) ∧ (4 < k → r ≠ tDel)) ∧ Below w3.heap.size w3 wr) (fun i _ => 5 - (intOf i).toNat)
 case atStart => exact ⟨0, by omega, rfl, hid ⟨by omega, by omega, by omega, by omega, by omega⟩, Below.refl _ _⟩
 case round =>
  obtain ⟨k, hk, rfl, hne, k4⟩ := hrel; have hFr : wr.heap[F]? = some (.cells formC.toArray 259 (0, 0)) := (k4.block _ hlt3).trans HF.out; have hbr : wr.heap[w.heap.size]? = some (.cells #[.int .i64 0, .string ⟨#[]⟩, .string ⟨#[]⟩] 229 (0, 0)) := (k4.block _ (by omega)).trans hb3.out
  have hc : ∀ j u, formC[j]? = some u → wr.cell? ⟨F, j, none⟩ = some u := fun j u hu => by
   rw [cell_of_row _ _ j formC.toArray _ (0, 0) hFr]; simpa using hu
  rcases (by omega : k = 0 ∨ k = 1 ∨ k = 2 ∨ k = 3 ∨ k = 4 ∨ k = 5) with rfl | rfl | rfl | rfl | rfl | rfl
  · have c0 := hc 0 _ rfl; have c1 := hc 1 _ rfl; clear hc hFr; by_cases he : r = tGet
    · have hq : (tGet.toList == r.toList) = true := by rw [txt_eq, decide_eq_true he]
      obtain ⟨x, rest, hss, hpl⟩ := HPK.out.1 he; subst hss; have HPL := hid (hpl.symm.trans HP.out.symm); have HB := hid hbr; clear he hpl hne hbr; generalize tGet = g at *; go_wp2_with fail; refine (do1_ok A2 n2 c2 x rest _ ((HX3.out.next k4).next (kp_new wr _))).mono ?_; rintro e w5 ⟨rfl, k5⟩; have K4 := kp_new wr (.cells #[.string g, .func (.func 202) #[] #[]] 259); have K5 : Below wr.heap.size wr w5 := kp_trans K4 k5; obtain ⟨d0, d1, d2, f0, f1, f2⟩ := cells3f ((K5.block _ ((Array.getElem?_eq_some_iff.1 HB.out).1)).trans HB.out); have KW : Below w.heap.size w w5 := kp_trans (kp_trans HK3.out k4) K5; clear k5 K4 K5; unfold planV; go_wp2_with fail; refine bodyPost_ret (v := planV 1 x ⟨#[]⟩) ?_ rfl ⟨1, x, ⟨#[]⟩, rfl, HPL.out, ((KW.setCell (Nat.le_refl _) _).setCell (Nat.le_refl _) _).setCell (Nat.le_refl _) _⟩; rw [results_cell1 rfl]; unfold planV; go_simp
    · have hq : (tGet.toList == r.toList) = false := by rw [txt_eq, decide_eq_false he]
      have hne2 : Hid ((0 < 1 → r ≠ tGet) ∧ (1 < 1 → r ≠ tAll) ∧ (2 < 1 → r ≠ tPut) ∧ (3 < 1 → r ≠ tChg) ∧ (4 < 1 → r ≠ tDel)) := hid ⟨fun _ => he, (by omega), (by omega), (by omega), (by omega)⟩; clear he hne hbr; obtain ⟨g, hg⟩ : ∃ g, g = tGet := ⟨_, rfl⟩; rw [← hg] at c0 hq; clear hg; go_wp2_with fail; go_roundw
      case rel => exact ⟨1, by omega, by go_num, hne2, kp_alloc k4 _⟩
      case measure => simp [intOf]
  · have c0 := hc 2 _ rfl; have c1 := hc 3 _ rfl; clear hc hFr; by_cases he : r = tAll
    · have hq : (tAll.toList == r.toList) = true := by rw [txt_eq, decide_eq_true he]
      have hpl := HPK.out.2.1 he; have hss := True.intro; have HPL := hid (hpl.symm.trans HP.out.symm); have HB := hid hbr; clear he hpl hne hbr; generalize tAll = g at *; go_wp2_with fail; refine (do2_ok A2 n2 c2 _).mono ?_; rintro e w5 ⟨rfl, k5⟩; have K4 := kp_new wr (.cells #[.string g, .func (.func 203) #[] #[]] 259); have K5 : Below wr.heap.size wr w5 := kp_trans K4 k5; obtain ⟨d0, d1, d2, f0, f1, f2⟩ := cells3f ((K5.block _ ((Array.getElem?_eq_some_iff.1 HB.out).1)).trans HB.out); have KW : Below w.heap.size w w5 := kp_trans (kp_trans HK3.out k4) K5; clear k5 K4 K5; unfold planV; go_wp2_with fail; refine bodyPost_ret (v := planV 2 ⟨#[]⟩ ⟨#[]⟩) ?_ rfl ⟨2, ⟨#[]⟩, ⟨#[]⟩, rfl, HPL.out, ((KW.setCell (Nat.le_refl _) _).setCell (Nat.le_refl _) _).setCell (Nat.le_refl _) _⟩; rw [results_cell1 rfl]; unfold planV; go_simp
    · have hq : (tAll.toList == r.toList) = false := by rw [txt_eq, decide_eq_false he]
      have hne2 : Hid ((0 < 2 → r ≠ tGet) ∧ (1 < 2 → r ≠ tAll) ∧ (2 < 2 → r ≠ tPut) ∧ (3 < 2 → r ≠ tChg) ∧ (4 < 2 → r ≠ tDel)) := hid ⟨fun _ => hne.out.1 (by omega), fun _ => he, (by omega), (by omega), (by omega)⟩; clear he hne hbr; obtain ⟨g, hg⟩ : ∃ g, g = tAll := ⟨_, rfl⟩; rw [← hg] at c0 hq; clear hg; go_wp2_with fail; go_roundw
      case rel => exact ⟨2, by omega, by go_num, hne2, kp_alloc k4 _⟩
      case measure => simp [intOf]
  · have c0 := hc 4 _ rfl; have c1 := hc 5 _ rfl; clear hc hFr; by_cases he : r = tPut
    · have hq : (tPut.toList == r.toList) = true := by rw [txt_eq, decide_eq_true he]
      obtain ⟨x, y, rest, hss, hpl⟩ := HPK.out.2.2.1 he; subst hss; have HPL := hid (hpl.symm.trans HP.out.symm); have HB := hid hbr; clear he hpl hne hbr; generalize tPut = g at *; go_wp2_with fail; refine (do3_ok A2 n2 c2 x y rest _ ((HX3.out.next k4).next (kp_new wr _))).mono ?_; rintro e w5 ⟨rfl, k5⟩; have K4 := kp_new wr (.cells #[.string g, .func (.func 204) #[] #[]] 259); have K5 : Below wr.heap.size wr w5 := kp_trans K4 k5; obtain ⟨d0, d1, d2, f0, f1, f2⟩ := cells3f ((K5.block _ ((Array.getElem?_eq_some_iff.1 HB.out).1)).trans HB.out); have KW : Below w.heap.size w w5 := kp_trans (kp_trans HK3.out k4) K5; clear k5 K4 K5; unfold planV; go_wp2_with fail; refine bodyPost_ret (v := planV 3 x y) ?_ rfl ⟨3, x, y, rfl, HPL.out, ((KW.setCell (Nat.le_refl _) _).setCell (Nat.le_refl _) _).setCell (Nat.le_refl _) _⟩; rw [results_cell1 rfl]; unfold planV; go_simp
    · have hq : (tPut.toList == r.toList) = false := by rw [txt_eq, decide_eq_false he]
      have hne2 : Hid ((0 < 3 → r ≠ tGet) ∧ (1 < 3 → r ≠ tAll) ∧ (2 < 3 → r ≠ tPut) ∧ (3 < 3 → r ≠ tChg) ∧ (4 < 3 → r ≠ tDel)) := hid ⟨fun _ => hne.out.1 (by omega), fun _ => hne.out.2.1 (by omega), fun _ => he, (by omega), (by omega)⟩; clear he hne hbr; obtain ⟨g, hg⟩ : ∃ g, g = tPut := ⟨_, rfl⟩; rw [← hg] at c0 hq; clear hg; go_wp2_with fail; go_roundw
      case rel => exact ⟨3, by omega, by go_num, hne2, kp_alloc k4 _⟩
      case measure => simp [intOf]
  · have c0 := hc 6 _ rfl; have c1 := hc 7 _ rfl; clear hc hFr; by_cases he : r = tChg
    · have hq : (tChg.toList == r.toList) = true := by rw [txt_eq, decide_eq_true he]
      obtain ⟨x, y, rest, hss, hpl⟩ := HPK.out.2.2.2.1 he; subst hss; have HPL := hid (hpl.symm.trans HP.out.symm); have HB := hid hbr; clear he hpl hne hbr; generalize tChg = g at *; go_wp2_with fail; refine (do4_ok A2 n2 c2 x y rest _ ((HX3.out.next k4).next (kp_new wr _))).mono ?_; rintro e w5 ⟨rfl, k5⟩; have K4 := kp_new wr (.cells #[.string g, .func (.func 205) #[] #[]] 259); have K5 : Below wr.heap.size wr w5 := kp_trans K4 k5; obtain ⟨d0, d1, d2, f0, f1, f2⟩ := cells3f ((K5.block _ ((Array.getElem?_eq_some_iff.1 HB.out).1)).trans HB.out); have KW : Below w.heap.size w w5 := kp_trans (kp_trans HK3.out k4) K5; clear k5 K4 K5; unfold planV; go_wp2_with fail; refine bodyPost_ret (v := planV 4 y x) ?_ rfl ⟨4, y, x, rfl, HPL.out, ((KW.setCell (Nat.le_refl _) _).setCell (Nat.le_refl _) _).setCell (Nat.le_refl _) _⟩; rw [results_cell1 rfl]; unfold planV; go_simp
    · have hq : (tChg.toList == r.toList) = false := by rw [txt_eq, decide_eq_false he]
      have hne2 : Hid ((0 < 4 → r ≠ tGet) ∧ (1 < 4 → r ≠ tAll) ∧ (2 < 4 → r ≠ tPut) ∧ (3 < 4 → r ≠ tChg) ∧ (4 < 4 → r ≠ tDel)) := hid ⟨fun _ => hne.out.1 (by omega), fun _ => hne.out.2.1 (by omega), fun _ => hne.out.2.2.1 (by omega), fun _ => he, (by omega)⟩; clear he hne hbr; obtain ⟨g, hg⟩ : ∃ g, g = tChg := ⟨_, rfl⟩; rw [← hg] at c0 hq; clear hg; go_wp2_with fail; go_roundw
      case rel => exact ⟨4, by omega, by go_num, hne2, kp_alloc k4 _⟩
      case measure => simp [intOf]
  · have c0 := hc 8 _ rfl; have c1 := hc 9 _ rfl; clear hc hFr; by_cases he : r = tDel
    · have hq : (tDel.toList == r.toList) = true := by rw [txt_eq, decide_eq_true he]
      obtain ⟨x, rest, hss, hpl⟩ := HPK.out.2.2.2.2.1 he; subst hss; have HPL := hid (hpl.symm.trans HP.out.symm); have HB := hid hbr; clear he hpl hne hbr; generalize tDel = g at *; go_wp2_with fail; refine (do5_ok A2 n2 c2 x rest _ ((HX3.out.next k4).next (kp_new wr _))).mono ?_; rintro e w5 ⟨rfl, k5⟩; have K4 := kp_new wr (.cells #[.string g, .func (.func 206) #[] #[]] 259); have K5 : Below wr.heap.size wr w5 := kp_trans K4 k5; obtain ⟨d0, d1, d2, f0, f1, f2⟩ := cells3f ((K5.block _ ((Array.getElem?_eq_some_iff.1 HB.out).1)).trans HB.out); have KW : Below w.heap.size w w5 := kp_trans (kp_trans HK3.out k4) K5; clear k5 K4 K5; unfold planV; go_wp2_with fail; refine bodyPost_ret (v := planV 5 x ⟨#[]⟩) ?_ rfl ⟨5, x, ⟨#[]⟩, rfl, HPL.out, ((KW.setCell (Nat.le_refl _) _).setCell (Nat.le_refl _) _).setCell (Nat.le_refl _) _⟩; rw [results_cell1 rfl]; unfold planV; go_simp
    · have hq : (tDel.toList == r.toList) = false := by rw [txt_eq, decide_eq_false he]
      have hne2 : Hid ((0 < 5 → r ≠ tGet) ∧ (1 < 5 → r ≠ tAll) ∧ (2 < 5 → r ≠ tPut) ∧ (3 < 5 → r ≠ tChg) ∧ (4 < 5 → r ≠ tDel)) := hid ⟨fun _ => hne.out.1 (by omega), fun _ => hne.out.2.1 (by omega), fun _ => hne.out.2.2.1 (by omega), fun _ => hne.out.2.2.2.1 (by omega), fun _ => he⟩; clear he hne hbr; obtain ⟨g, hg⟩ : ∃ g, g = tDel := ⟨_, rfl⟩; rw [← hg] at c0 hq; clear hg; go_wp2_with fail; go_roundw
      case rel => exact ⟨5, by omega, by go_num, hne2, kp_alloc k4 _⟩
      case measure => simp [intOf]
  · obtain ⟨d0, d1, d2, f0, f1, f2⟩ := cells3f hbr; have HPL := hid ((HPK.out.2.2.2.2.2 (hne.out.1 (by omega)) (hne.out.2.1 (by omega)) (hne.out.2.2.1 (by omega)) (hne.out.2.2.2.1 (by omega)) (hne.out.2.2.2.2 (by omega))).symm.trans HP.out.symm); have KW : Below w.heap.size w wr := kp_trans HK3.out k4; clear hne hc hFr hbr; go_wp2_with fail; refine bodyPost_ret (v := planV 0 ⟨#[]⟩ ⟨#[]⟩) ?_ rfl ⟨0, ⟨#[]⟩, ⟨#[]⟩, rfl, HPL.out, ((KW.setCell (Nat.le_refl _) _).setCell (Nat.le_refl _) _).setCell (Nat.le_refl _) _⟩; rw [results_cell1 rfl]; unfold planV; go_simp
end

/- Rows of tokens and words of package class: contracts. -/
section
open Go.RowKit
set_option maxRecDepth 100000
theorem TR.head {w : World} {A : Option Addr} {n : Nat} {t : Tk} {r : List Tk} (h : TR w A n (t :: r)) : ∃ ad, A = some ad ∧ ad.block < w.heap.size ∧ ∀ w', Below w.heap.size w w' → w'.cell? ad = some (.int .i64 t.k) ∧ w'.cell? ⟨ad.block, ad.off + 1, none⟩ = some (.string t.t) := by
 obtain ⟨ad, hA, hb, hc⟩ := h.at_ (j := 0) (by simp); exact ⟨ad, hA, hb, fun w' hw => by simpa [Addr.add] using hc w' hw⟩
theorem hasWord_ok (A : Option Addr) (n c : Nat) (ts : List Tk) (B : Option Addr) (m d : Nat) (ws : List ByteArray) (w : World) (h : TR w A n ts) (hs : SR w B m ws) (hn : n ≤ 1000000) (hm : m ≤ 1000000) :
 Calls Tryz.prog 77 #[.slice A n c, .slice B m d] w fun e w' => e = .returned (.bool (hasF (saysT ts) (txs ws))) ∧ Below w.heap.size w w' := by
 have hlen := hid h.len; go_enter Tryz.func77, Tryz.ntmps77
 go_wp2
 go_loopw [9] (fun i wr => ∃ k : Nat, k ≤ n ∧ i = .int .i64 k ∧ Hid (hasF (saysT ts) (txs ws) = hasF (saysT (ts.drop k)) (txs ws)) ∧ Below w.heap.size w wr) (fun i _ => n - (intOf i).toNat)
 case atStart => exact ⟨0, Nat.zero_le _, rfl, hid rfl, Below.refl _ _⟩
 case round =>
  obtain ⟨k, hk, rfl, hx, kw⟩ := hrel; by_cases hlt : k < n
  · have hkl : k < ts.length := by rw [hlen.out]; exact hlt
    obtain ⟨ad, rfl, _, hc⟩ := h.at_ hkl; obtain ⟨c0, c1⟩ := hc _ kw
    have hst : hasF (saysT (ts.drop k)) (txs ws) = (wordF (txs ws) ts[k].says || hasF (saysT (ts.drop (k + 1))) (txs ws)) := by
     rw [List.drop_eq_getElem_cons hkl]; rfl
    rw [hst] at hx; have kw2 := kp_trans kw (kp_new wr (.cells #[.int .i64 ts[k].k, .string ts[k].t] 142)); have hC := hid (isWord_ok ts[k] B m d ws _ (hs.next kw2) hm); clear hc hst; generalize wordF (txs ws) ts[k].says = b at *; generalize ts[k].k = x at *; generalize ts[k].t = s at *; cases b
    · have hx2 : Hid (hasF (saysT ts) (txs ws) = hasF (saysT (ts.drop (k + 1))) (txs ws)) := hid (by rw [hx.out]; rfl); clear hx; go_wp2_with fail; refine hC.out.mono ?_; rintro e w1 ⟨rfl, k1⟩; go_wp2_with fail; go_roundw
      case rel => exact ⟨k + 1, by omega, by go_num, hx2, kp_trans kw2 k1⟩
      case measure => simp [intOf]; omega
    · have hF : hasF (saysT ts) (txs ws) = true := by rw [hx.out]; rfl
      have HF := hid hF; clear hF hx; go_wp2_with fail; refine hC.out.mono ?_; rintro e w1 ⟨rfl, k1⟩; go_wp2_with fail; go_ret; exact ⟨by rw [HF.out]; rfl, kp_trans kw2 k1⟩
  · obtain rfl : k = n := by omega
    have hF : hasF (saysT ts) (txs ws) = false := by rw [hx.out, List.drop_eq_nil_of_le (by rw [hlen.out]; exact Nat.le_refl _)]; rfl
    have HF := hid hF; clear hF hx; go_wp2_with fail; go_ret; exact ⟨by rw [HF.out]; rfl, kw⟩
theorem beginsWith_ok (A : Option Addr) (n c : Nat) (ts : List Tk) (B : Option Addr) (m d : Nat) (ws : List ByteArray) (w : World) (h : TR w A n ts) (hs : SR w B m ws) (hm : m ≤ 1000000) :
 Calls Tryz.prog 80 #[.slice A n c, .slice B m d] w fun e w' => e = .returned (.bool (headF (saysT ts) (txs ws))) ∧ Below w.heap.size w w' := by
 cases ts with
 | nil =>
   obtain rfl : 0 = n := h.len; go_enter Tryz.func80, Tryz.ntmps80; go_wp2_with fail; go_ret; exact ⟨rfl, Below.refl _ _⟩
 | cons t r =>
   have hn : 0 < n := by have := h.len; simp at this; omega
   obtain ⟨ad, rfl, _, hc⟩ := h.head; obtain ⟨c0, c1⟩ := hc _ (Below.refl _ _); have hC := hid (isWord_ok t B m d ws w hs hm); have hF : headF (saysT (t :: r)) (txs ws) = wordF (txs ws) t.says := rfl; rw [hF]; clear hc hF; generalize wordF (txs ws) t.says = b at *; obtain ⟨k, s⟩ := t; go_enter Tryz.func80, Tryz.ntmps80; go_wp2_with fail; refine hC.out.mono ?_; rintro e w1 ⟨rfl, k1⟩; go_wp2_with fail; go_ret; exact ⟨rfl, k1⟩
theorem isBare_ok (A : Option Addr) (n c : Nat) (ts : List Tk) (B : Option Addr) (m d : Nat) (ws : List ByteArray) (w : World) (h : TR w A n ts) (hs : SR w B m ws) (hm : m ≤ 1000000) (hn : n ≤ 1000000) :
 Calls Tryz.prog 79 #[.slice A n c, .slice B m d] w fun e w' => e = .returned (.bool (bareF (saysT ts) (txs ws))) ∧ Below w.heap.size w w' := by
 cases ts with
 | nil =>
   obtain rfl : 0 = n := h.len; go_enter Tryz.func79, Tryz.ntmps79; go_wp2_with fail; go_ret; exact ⟨rfl, Below.refl _ _⟩
 | cons t r =>
   have hl : r.length + 1 = n := by have := h.len; simpa using this
   by_cases h1 : n = 1
   · subst h1; obtain rfl : r = [] := List.eq_nil_of_length_eq_zero (by omega); obtain ⟨ad, rfl, _, hc⟩ := h.head; obtain ⟨c0, c1⟩ := hc _ (Below.refl _ _); have hC := hid (isWord_ok t B m d ws w hs hm); have hF : bareF (saysT [t]) (txs ws) = wordF (txs ws) t.says := rfl; rw [hF]; clear hc hF; generalize wordF (txs ws) t.says = b at *; obtain ⟨k, s⟩ := t; go_enter Tryz.func79, Tryz.ntmps79; go_wp2_with fail; refine hC.out.mono ?_; rintro e w1 ⟨rfl, k1⟩; go_wp2_with fail; go_ret; exact ⟨rfl, k1⟩
   · have hF : bareF (saysT (t :: r)) (txs ws) = false := by
      unfold bareF; rw [saysT_length, List.length_cons, hl, decide_eq_false h1, decide_eq_false (by omega)]; rfl
     have h0 : ¬ n = 0 := by omega
     rw [hF]; clear hF hl; go_enter Tryz.func79, Tryz.ntmps79; go_wp2_with fail; go_ret; exact ⟨ret_bool (by simpa using h0), Below.refl _ _⟩
theorem classIf_ok (c : Int) (b : Bool) (w : World) : Calls Tryz.prog 78 #[.int .i64 c, .bool b] w fun e w' => e = .returned (.int .i64 (ifF c b)) ∧ w = w' := by
 cases b
 all_goals
  go_enter Tryz.func78, Tryz.ntmps78; go_wp2_with fail; go_ret; exact ⟨rfl, rfl⟩
end
end Go.Proofs.YtdhnpmagapbmhaaGreatDoor
