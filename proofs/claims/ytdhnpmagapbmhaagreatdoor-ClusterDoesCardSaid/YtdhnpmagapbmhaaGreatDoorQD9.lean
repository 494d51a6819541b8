/-
  Contracts and plain functions that the law stands on, part 9 of 24.
-/
import Derived.Test.YtdhnpmagapbmhaaGreatDoorQD8
import Derived.KernelRfl
import Derived.Laws.EntriesVeiled
namespace Go.Proofs.YtdhnpmagapbmhaaGreatDoor
/- selected, withoutEnd of package class: contracts. -/
section
open Go.RowKit
set_option maxRecDepth 100000
theorem selected_ok (A : Option Addr) (n c : Nat) (ts : List Tk) (b : Bool) (w : World) (h : TR w A n ts) (hn : n ≤ 1000000) :
 Calls Tryz.prog 76 #[.slice A n c, .bool b] w fun e w' => e = .returned (.int .i64 (selF (saysT ts) b)) ∧ Below w.heap.size w w' := by
 have kw := kp_new w (.cells #[.string ⟨#[73, 78, 83, 69, 82, 84]⟩, .string ⟨#[85, 80, 68, 65, 84, 69]⟩, .string ⟨#[68, 69, 76, 69, 84, 69]⟩, .string ⟨#[82, 69, 80, 76, 65, 67, 69]⟩, .string ⟨#[73, 78, 84, 79]⟩, .string ⟨#[83, 72, 65, 82, 69]⟩] 9); have hS := SR.new w 9 [⟨#[73, 78, 83, 69, 82, 84]⟩, ⟨#[85, 80, 68, 65, 84, 69]⟩, ⟨#[68, 69, 76, 69, 84, 69]⟩, ⟨#[82, 69, 80, 76, 65, 67, 69]⟩, ⟨#[73, 78, 84, 79]⟩, ⟨#[83, 72, 65, 82, 69]⟩]; have hC := hid (hasWord_ok A n c ts _ 6 6 _ _ (h.next kw) hS hn (by decide)); have hF : selF (saysT ts) b = if hasF (saysT ts) six then 2 else ifF 1 b := rfl; have hE : txs [⟨#[73, 78, 83, 69, 82, 84]⟩, ⟨#[85, 80, 68, 65, 84, 69]⟩, ⟨#[68, 69, 76, 69, 84, 69]⟩, ⟨#[82, 69, 80, 76, 65, 67, 69]⟩, ⟨#[73, 78, 84, 79]⟩, ⟨#[83, 72, 65, 82, 69]⟩] = six := rfl; rw [hE] at hC; rw [hF]; clear hS hF hE; generalize hasF (saysT ts) six = x at *; cases x
 · go_enter Tryz.func76, Tryz.ntmps76; go_wp2_with fail; refine hC.out.mono ?_; rintro e w1 ⟨rfl, k1⟩; go_wp2_with fail; refine (classIf_ok 1 b w1).mono ?_; rintro e w2 ⟨rfl, rfl⟩; go_wp2_with fail; go_ret; exact ⟨rfl, kp_trans kw k1⟩
 · go_enter Tryz.func76, Tryz.ntmps76; go_wp2_with fail; refine hC.out.mono ?_; rintro e w1 ⟨rfl, k1⟩; go_wp2_with fail; go_ret; exact ⟨rfl, kp_trans kw k1⟩
theorem TR.front {w : World} {A : Option Addr} {n : Nat} {ts : List Tk} (h : TR w A n ts) {k : Nat} (hk : k ≤ n) : TR w A k (ts.take k) :=
 ⟨by rw [List.length_take, h.len]; omega, by
  have := h.rd.front (k * 2)
  have e : (tkC ts).take (k * 2) = tkC (ts.take k) := by
   have h1 : tkC ts = tkC (ts.take k) ++ tkC (ts.drop k) := by rw [← tkC_append, List.take_append_drop]
   rw [h1, List.take_append_of_le_length (by rw [tkC_length, List.length_take, h.len]; omega), List.take_of_length_le (by rw [tkC_length, List.length_take]; omega)]
  rwa [e] at this⟩
set_option maxHeartbeats 400000 in
theorem withoutEnd_ok (A : Option Addr) (n c : Nat) (ts : List Tk) (w : World) (h : TR w A n ts) (hc : n ≤ c) (hn : n ≤ 1000000) :
 Calls Tryz.prog 49 #[.slice A n c] w fun e w' => ∃ k, e = .returned (.slice A k c) ∧ k ≤ n ∧ saysT (ts.take k) = endF (saysT ts) ∧ Below w.heap.size w w' := by
 have hlen := hid h.len; go_enter Tryz.func49, Tryz.ntmps49
 go_wp2
 go_loopw [0] (fun v wr => ∃ k : Nat, k ≤ n ∧ v = .slice A k c ∧ Hid (endF (saysT ts) = endF (saysT (ts.take k))) ∧ Below w.heap.size w wr) (fun v _ => match v with | .slice _ k _ => k | _ => 0)
 case atStart => exact ⟨n, Nat.le_refl _, rfl, hid (by rw [List.take_of_length_le (by rw [hlen.out]; exact Nat.le_refl _)]), Below.refl _ _⟩
 case round =>
  obtain ⟨k, hk, rfl, hx, kw⟩ := hrel
  cases k with
  | zero =>
    have hF : saysT (ts.take 0) = endF (saysT ts) := by rw [hx.out]; rfl
    have HF := hid hF; clear hF hx; go_wp2_with fail; go_ret; exact ⟨0, rfl, hk, HF.out, kw⟩
  | succ j =>
    have hjl : j < ts.length := by rw [hlen.out]; omega
    obtain ⟨ad, rfl, _, hcc⟩ := h.at_ hjl; obtain ⟨c0, c1⟩ := hcc _ kw; have hS := hid (isStop_ok ts[j] wr)
    have hst : saysT (ts.take (j + 1)) = saysT (ts.take j) ++ [ts[j].says] := by
     rw [List.take_succ_eq_append_getElem hjl, saysT_append]; rfl
    rw [hst] at hx; have HST := hid hst; have e1 : ((j + 1 : Nat) : Int) - 1 = (j : Int) := by omega
    clear hcc hst
    cases hs : stopF ts[j].says with
    | false =>
      have hF : saysT (ts.take (j + 1)) = endF (saysT ts) := by rw [hx.out, endF_last hs, HST.out]
      have HF := hid hF; rw [hs] at hS; clear hF hx hs; generalize ts[j].k = x at *; generalize ts[j].t = s at *; go_wp2_with fail; refine hS.out.mono ?_; rintro e w1 ⟨rfl, k1⟩; go_wp2_with fail; go_ret; exact ⟨j + 1, rfl, hk, HF.out, kp_trans kw k1⟩
    | true =>
      have hx2 : Hid (endF (saysT ts) = endF (saysT (ts.take j))) := hid (by rw [hx.out, endF_stop hs]); rw [hs] at hS; clear hx hs; generalize ts[j].k = x at *; generalize ts[j].t = s at *; go_wp2_with fail; refine hS.out.mono ?_; rintro e w1 ⟨rfl, k1⟩; go_wp2_with fail; go_roundw
      case rel => exact ⟨j, by omega, rfl, hx2, kp_trans kw k1⟩
      case measure => simp
end

/- The document's layer 6: are tokens a form's, and which are its Strings: contracts. -/
section
open Go.RowKit
set_option maxRecDepth 100000
theorem empty_eq {a b : Int} {x y : List UInt8} : emptyF (a, x) = emptyF (b, y) ↔ a = b ∧ (a = 3 ∨ x = y) := by
 unfold emptyF; by_cases ha : a = 3
 · subst ha; by_cases hb : b = 3
   · subst hb; simp
   · rw [if_pos rfl, if_neg hb]; constructor
     · intro h; exact absurd (Prod.mk.inj h).1.symm hb
     · rintro ⟨h, _⟩; exact absurd h.symm hb
 · by_cases hb : b = 3
   · subst hb; rw [if_neg ha, if_pos rfl]; constructor
     · intro h; exact absurd (Prod.mk.inj h).1 ha
     · rintro ⟨h, _⟩; exact absurd h ha
   · rw [if_neg ha, if_neg hb]; constructor
     · intro h; exact ⟨(Prod.mk.inj h).1, .inr (Prod.mk.inj h).2⟩
     · rintro ⟨h, h2⟩; rw [h, h2.resolve_left ha]
theorem strs_push (l : List Tok) (a : Int) (x : List UInt8) : strsF (l ++ [(a, x)]) = if a = 3 then strsF l ++ [x] else strsF l := by
 rw [strsF_append]; by_cases h : a = 3
 · subst h; simp [strsF, isStrF]
 · rw [if_neg h]; simp [strsF, isStrF, h]
def StrsTo (ts fs : List Tk) (w : World) (e : Ending) (w' : World) : Prop :=
 ∃ (A' : Option Addr) (n' c' : Nat) (ss : List ByteArray) (b : Bool), e = .returned (.tuple #[.slice A' n' c', .bool b]) ∧ b = decide ((saysT ts).map emptyF = (saysT fs).map emptyF) ∧ (b = true → XR w' A' n' ss ∧ bts ss = strsF (saysT ts)) ∧ Below w.heap.size w w'
set_option maxHeartbeats 4000000 in
theorem strs_ok (A A' : Option Addr) (n n' c c' : Nat) (ts fs : List Tk) (w : World) (hx : TR w A n ts) (hy : TR w A' n' fs) (hn : n ≤ 1000) (hn' : n' ≤ 1000) :
 Calls Tryz.prog 113 #[.slice A n c, .slice A' n' c'] w (StrsTo ts fs w) := by
 obtain ⟨i0, hi, hz0, hz1, hz2⟩ := info_parts strinfo6; have hlx := hid hx.len; have hly := hid hy.len; unfold StrsTo; have hown0 := hid (own_new_s w w.heap.size 1 9 0 [] rfl (Nat.le_refl _) (by simp [maxLen])); have kw := kp_new w (.cells #[] 9); by_cases hll : n = n'
 · subst hll; have HX := hid hx; have HY := hid hy; have HK0 := hid kw; clear hx hy kw; go_enter Tryz.func113, Tryz.ntmps113; go_wp2_with fail
   go_loopw [6, 7] (fun o i wr => ∃ (q z : Nat) (B : Option Addr) (e : Nat) (ss : List ByteArray), q ≤ n ∧ z ≤ q ∧ i = .int .i64 q ∧ o = .slice B z e ∧ Hid (wr.ownsRow w.heap.size 9 1 (.slice B z e) z (tvs ss)) ∧ Hid (bts ss = strsF (saysT (ts.take q))) ∧ Hid ((saysT (ts.take q)).map emptyF = (saysT (fs.take q)).map emptyF) ∧ Below w.heap.size w wr) (fun _ i _ => n - (intOf i).toNat)
   case atStart => exact ⟨0, 0, _, 0, [], Nat.zero_le _, Nat.le_refl _, rfl, rfl, hown0, hid rfl, hid rfl, HK0.out⟩
   case round =>
    obtain ⟨q, z, B, e, ss, hq, hz, rfl, rfl, ho, hs, he, k0⟩ := hrel; by_cases hlt : q < n
    · have hkx : q < ts.length := by rw [hlx.out]; omega
      have hky : q < fs.length := by rw [hly.out]; omega
      obtain ⟨ad, rfl, _, hc⟩ := HX.out.at_ hkx; obtain ⟨ad', rfl, _, hc'⟩ := HY.out.at_ hky; obtain ⟨c0, c1⟩ := hc _ k0; obtain ⟨d0, d1⟩ := hc' _ k0; have HC := hid hc; have hsx := says_next ts q hkx; have hsy := says_next fs q hky; have htx : ts[q].says = (ts[q].k, ts[q].t.data.toList) := rfl; have hty : fs[q].says = (fs[q].k, fs[q].t.data.toList) := rfl; rw [htx] at hsx; rw [hty] at hsy; have hev : emptyF (ts[q].k, ts[q].t.data.toList) = emptyF (fs[q].k, fs[q].t.data.toList) ↔ _ := empty_eq
      have hno : ¬ emptyF (ts[q].k, ts[q].t.data.toList) = emptyF (fs[q].k, fs[q].t.data.toList) → Hid (decide ((saysT ts).map emptyF = (saysT fs).map emptyF) = false) := fun h => hid (decide_eq_false (fun hh => h (by
       have h1 : ((saysT ts).map emptyF)[q]? = ((saysT fs).map emptyF)[q]? := by rw [hh]
       rw [List.getElem?_map, List.getElem?_map] at h1; have h2 : (saysT ts)[q]? = some ts[q].says := by simp [saysT, hkx]
       have h3 : (saysT fs)[q]? = some fs[q].says := by simp [saysT, hky]
       rw [h2, h3] at h1
       simpa [htx, hty] using h1)))
      have hyes : emptyF (ts[q].k, ts[q].t.data.toList) = emptyF (fs[q].k, fs[q].t.data.toList) → Hid ((saysT (ts.take (q + 1))).map emptyF = (saysT (fs.take (q + 1))).map emptyF) := fun h => hid (by
       rw [hsx, hsy, List.map_append, List.map_append, he.out]
       simp [h])
      have hst : Hid (strsF (saysT (ts.take (q + 1))) = if ts[q].k = 3 then strsF (saysT (ts.take q)) ++ [ts[q].t.data.toList] else strsF (saysT (ts.take q))) := hid (by rw [hsx, strs_push]); clear hc hc' hsx hsy htx hty; generalize ts[q].k = a at *; generalize fs[q].k = b at *; generalize ts[q].t = x at *; generalize fs[q].t = y at *; by_cases hab : a = b
      case neg =>
       have hN := hno (fun h => hab (hev.1 h).1); have hab2 : (a != b) = true := by simpa using hab
       clear hno hyes hev hst hab; go_wp2_with fail; go_quiet (fail); go_wp2_with fail; go_ret2; exact ⟨none, 0, 0, [], false, rfl, hN.out.symm, (fun h => by cases h), k0.trans ((kp_drewN wr nq).mono k0.size)⟩
      subst hab; by_cases h3 : a = 3
      · subst h3; have hY := hyes (hev.2 ⟨rfl, .inl rfl⟩); have hb2 : Hid (bts (ss ++ [x]) = strsF (saysT (ts.take (q + 1)))) := hid (by rw [hst.out, if_pos rfl, bts_append, hs.out]; rfl); clear hno hyes hev hst hs; go_wp2_with fail; go_quiet (fail); have kq : Below wr.heap.size wr (wr.drewN nq) := kp_drewN wr nq; have hoq := own_below_s ho.out kq (Nat.le_refl _); have KQ := kp_trans k0 kq; generalize wr.drewN nq = wq at *; obtain ⟨g0, g1⟩ := HC.out _ KQ; have HO := hid (hoq.alloc (.cells #[.string x] 9)); have HSRC : Hid (Rd (wq.alloc (.cells #[.string x] 9)) (wq.heap.size + 1) (some ⟨wq.heap.size, 0, none⟩) [.string x]) := hid (Rd.new wq 9 [.string x]); have HSW := hid (show w.heap.size ≤ (wq.alloc (.cells #[.string x] 9)).heap.size by simp; have := KQ.size; omega); have KA := kp_alloc KQ (.cells #[.string x] 9); clear ho hoq c0 c1 d0 d1 kq; go_wp2_with (at_builtin; refine wpList_append_rd rfl _ _ _ rfl w.heap.size 9 i0 _ 16 Tryz.underlying35 hi hz0 hz1 hz2 rfl _ z _ rfl HO.out _ _ _ _ [.string x] rfl rfl HSRC.out (by simp [Value.oneCell']) (by unfold maxLen; omega) (by omega) HSW.out ?_; intro v3 w3 hown3 hg3; obtain ⟨A3, c3, rfl, _, _⟩ := own_form hown3); go_roundw
        case rel =>
         refine ⟨q + 1, z + 1, A3, c3, ss ++ [x], by omega, by omega, by go_num, rfl, hid ?_, hb2, hY, KA.trans (below_own_s HO.out hg3 HSW.out)⟩; rw [tvs_append]; exact hown3
        case measure => simp [intOf]; omega
      · have hn3 : (a != 3) = true := by simpa using h3
        have hn3b : (a == 3) = false := by simpa using h3
        have haa : (a != a) = false := by simp
        by_cases hxy : x = y
        · subst hxy; have hxx : (x.toList == x.toList) = true := by simp
          have hY := hyes (hev.2 ⟨rfl, .inr rfl⟩); have hb2 : Hid (bts ss = strsF (saysT (ts.take (q + 1)))) := hid (by rw [hst.out, if_neg h3]; exact hs.out); clear hno hyes hev hst hs h3; go_wp2_with fail; go_quiet (fail); have kq : Below wr.heap.size wr (wr.drewN nq) := kp_drewN wr nq; have hoq := hid (own_below_s ho.out kq (Nat.le_refl _)); have KQ := kp_trans k0 kq; generalize wr.drewN nq = wq at *; obtain ⟨g0, g1⟩ := HC.out _ KQ; clear ho c0 c1 d0 d1 kq; go_wp2_with fail; go_roundw
          case rel => exact ⟨q + 1, z, B, e, ss, by omega, by omega, by go_num, rfl, hoq, hb2, hY, KQ⟩
          case measure => simp [intOf]; omega
        · have hxy2 : (x.toList == y.toList) = false := by
           simp only [beq_eq_false_iff_ne, ne_eq]; exact fun h => hxy (bytes_ext h)
          have hN := hno (fun h => (hev.1 h).2.elim h3 (fun hh => hxy (text_ext hh))); clear hno hyes hev hst h3 hxy; go_wp2_with fail; go_quiet (fail); go_wp2_with fail; go_ret2; exact ⟨none, 0, 0, [], false, rfl, hN.out.symm, (fun h => by cases h), k0.trans ((kp_drewN wr nq).mono k0.size)⟩
    · obtain rfl : q = n := by omega
      rw [List.take_of_length_le (by rw [hlx.out]; exact Nat.le_refl _)] at hs he; rw [List.take_of_length_le (by rw [hly.out]; exact Nat.le_refl _)] at he; go_wp2_with fail; go_ret2; exact ⟨B, z, e, ss, true, rfl, (decide_eq_true he.out).symm, fun _ => ⟨XR.of_own ho.out, hs.out⟩, k0⟩
 · have hN : Hid (decide ((saysT ts).map emptyF = (saysT fs).map emptyF) = false) := hid (decide_eq_false (fun hh => hll (by
    have := congrArg List.length hh; rw [List.length_map, List.length_map, saysT_length, saysT_length, hlx.out, hly.out] at this
    exact this)))
   have ht : ((n : Int) != (n' : Int)) = true := by rw [bne_iff_ne]; omega
   go_enter Tryz.func113, Tryz.ntmps113; go_wp2_with fail; go_ret2; exact ⟨none, 0, 0, [], false, rfl, hN.out.symm, (fun h => by cases h), kw⟩
theorem form_ok (s : ByteArray) (w : World) (hm : s.size ≤ maxLen) : Calls Tryz.prog 114 #[.string s] w fun e w' => ∃ A n c ts, e = .returned (.slice A n c) ∧ TR w' A n ts ∧ saysT ts = (lexA s.data.toList).1 ∧ Below w.heap.size w w' := by
 have hlx := rlex_ok s w hm; unfold LexTo at hlx; have HX := hid hlx; clear hlx; go_enter Tryz.func114, Tryz.ntmps114; go_wp2_with fail; refine HX.out.mono ?_; rintro e w1 ⟨A, n, c, er, ts, rfl, ho, hla, k1⟩; have HLA := hid (congrArg Prod.fst hla); have HO := hid ho; clear hla ho HX; go_wp2_with fail; go_ret; exact ⟨A, n, c, ts, rfl, HO.out.tr, HLA.out, k1⟩
end

/- The document's layer 6: what a statement does: contract. -/
section
open Go.RowKit
set_option maxRecDepth 100000
theorem lex6_fGet : lexF [115, 101, 108, 101, 99, 116, 32, 118, 32, 102, 114, 111, 109, 32, 107, 118, 32, 119, 104, 101, 114, 101, 32, 107, 32, 61, 32, 39, 39] = some [(1, [83, 69, 76, 69, 67, 84]), (1, [86]), (1, [70, 82, 79, 77]), (1, [75, 86]), (1, [87, 72, 69, 82, 69]), (1, [75]), (6, [61]), (3, [])] := by
 rw [lexF_tok (k := 1) (t := [83, 69, 76, 69, 67, 84]) (n := 6) (by simp) (by kernel_rfl) (by decide)]; simp only [List.drop_succ_cons, List.drop_zero]; rw [lexF_skip (n := 1) (by simp) (by kernel_rfl) (by decide)]; simp only [List.drop_succ_cons, List.drop_zero]; rw [lexF_tok (k := 1) (t := [86]) (n := 1) (by simp) (by kernel_rfl) (by decide)]; simp only [List.drop_succ_cons, List.drop_zero]; rw [lexF_skip (n := 1) (by simp) (by kernel_rfl) (by decide)]; simp only [List.drop_succ_cons, List.drop_zero]; rw [lexF_tok (k := 1) (t := [70, 82, 79, 77]) (n := 4) (by simp) (by kernel_rfl) (by decide)]; simp only [List.drop_succ_cons, List.drop_zero]; rw [lexF_skip (n := 1) (by simp) (by kernel_rfl) (by decide)]; simp only [List.drop_succ_cons, List.drop_zero]; rw [lexF_tok (k := 1) (t := [75, 86]) (n := 2) (by simp) (by kernel_rfl) (by decide)]; simp only [List.drop_succ_cons, List.drop_zero]; rw [lexF_skip (n := 1) (by simp) (by kernel_rfl) (by decide)]; simp only [List.drop_succ_cons, List.drop_zero]; rw [lexF_tok (k := 1) (t := [87, 72, 69, 82, 69]) (n := 5) (by simp) (by kernel_rfl) (by decide)]; simp only [List.drop_succ_cons, List.drop_zero]; rw [lexF_skip (n := 1) (by simp) (by kernel_rfl) (by decide)]; simp only [List.drop_succ_cons, List.drop_zero]; rw [lexF_tok (k := 1) (t := [75]) (n := 1) (by simp) (by kernel_rfl) (by decide)]; simp only [List.drop_succ_cons, List.drop_zero]; rw [lexF_skip (n := 1) (by simp) (by kernel_rfl) (by decide)]; simp only [List.drop_succ_cons, List.drop_zero]; rw [lexF_tok (k := 6) (t := [61]) (n := 1) (by simp) (by kernel_rfl) (by decide)]; simp only [List.drop_succ_cons, List.drop_zero]; rw [lexF_skip (n := 1) (by simp) (by kernel_rfl) (by decide)]; simp only [List.drop_succ_cons, List.drop_zero]; rw [lexF_tok (k := 3) (t := []) (n := 2) (by simp) (by kernel_rfl) (by decide)]; simp only [List.drop_succ_cons, List.drop_zero]; rw [lexF_nil]; rfl
theorem form_Get (w : World) : Calls Tryz.prog 114 #[.string ⟨#[115, 101, 108, 101, 99, 116, 32, 118, 32, 102, 114, 111, 109, 32, 107, 118, 32, 119, 104, 101, 114, 101, 32, 107, 32, 61, 32, 39, 39]⟩] w fun e w' => ∃ A n c ts, e = .returned (.slice A n c) ∧ TR w' A n ts ∧ (saysT ts).map emptyF = fGet ∧ n ≤ 20 ∧ Below w.heap.size w w' :=
 (form_ok ⟨#[115, 101, 108, 101, 99, 116, 32, 118, 32, 102, 114, 111, 109, 32, 107, 118, 32, 119, 104, 101, 114, 101, 32, 107, 32, 61, 32, 39, 39]⟩ w (by decide)).mono fun e w' ⟨A, n, c, ts, he, ht, hs, hb⟩ => by
  rw [show (⟨#[115, 101, 108, 101, 99, 116, 32, 118, 32, 102, 114, 111, 109, 32, 107, 118, 32, 119, 104, 101, 114, 101, 32, 107, 32, 61, 32, 39, 39]⟩ : ByteArray).data.toList = [115, 101, 108, 101, 99, 116, 32, 118, 32, 102, 114, 111, 109, 32, 107, 118, 32, 119, 104, 101, 114, 101, 32, 107, 32, 61, 32, 39, 39] from rfl, lexA_some lex6_fGet (by decide)] at hs; have hs2 : saysT ts = fGet := hs; refine ⟨A, n, c, ts, he, ht, by rw [hs2]; decide, ?_, hb⟩; rw [← ht.len, ← saysT_length, hs2]; decide
theorem lex6_fAll : lexF [115, 101, 108, 101, 99, 116, 32, 42, 32, 102, 114, 111, 109, 32, 107, 118] = some [(1, [83, 69, 76, 69, 67, 84]), (6, [42]), (1, [70, 82, 79, 77]), (1, [75, 86])] := by
 rw [lexF_tok (k := 1) (t := [83, 69, 76, 69, 67, 84]) (n := 6) (by simp) (by kernel_rfl) (by decide)]; simp only [List.drop_succ_cons, List.drop_zero]; rw [lexF_skip (n := 1) (by simp) (by kernel_rfl) (by decide)]; simp only [List.drop_succ_cons, List.drop_zero]; rw [lexF_tok (k := 6) (t := [42]) (n := 1) (by simp) (by kernel_rfl) (by decide)]; simp only [List.drop_succ_cons, List.drop_zero]; rw [lexF_skip (n := 1) (by simp) (by kernel_rfl) (by decide)]; simp only [List.drop_succ_cons, List.drop_zero]; rw [lexF_tok (k := 1) (t := [70, 82, 79, 77]) (n := 4) (by simp) (by kernel_rfl) (by decide)]; simp only [List.drop_succ_cons, List.drop_zero]; rw [lexF_skip (n := 1) (by simp) (by kernel_rfl) (by decide)]; simp only [List.drop_succ_cons, List.drop_zero]; rw [lexF_tok (k := 1) (t := [75, 86]) (n := 2) (by simp) (by kernel_rfl) (by decide)]; simp only [List.drop_succ_cons, List.drop_zero]; rw [lexF_nil]; rfl
theorem form_All (w : World) : Calls Tryz.prog 114 #[.string ⟨#[115, 101, 108, 101, 99, 116, 32, 42, 32, 102, 114, 111, 109, 32, 107, 118]⟩] w fun e w' => ∃ A n c ts, e = .returned (.slice A n c) ∧ TR w' A n ts ∧ (saysT ts).map emptyF = fAll ∧ n ≤ 20 ∧ Below w.heap.size w w' :=
 (form_ok ⟨#[115, 101, 108, 101, 99, 116, 32, 42, 32, 102, 114, 111, 109, 32, 107, 118]⟩ w (by decide)).mono fun e w' ⟨A, n, c, ts, he, ht, hs, hb⟩ => by
  rw [show (⟨#[115, 101, 108, 101, 99, 116, 32, 42, 32, 102, 114, 111, 109, 32, 107, 118]⟩ : ByteArray).data.toList = [115, 101, 108, 101, 99, 116, 32, 42, 32, 102, 114, 111, 109, 32, 107, 118] from rfl, lexA_some lex6_fAll (by decide)] at hs; have hs2 : saysT ts = fAll := hs; refine ⟨A, n, c, ts, he, ht, by rw [hs2]; decide, ?_, hb⟩; rw [← ht.len, ← saysT_length, hs2]; decide
theorem lex6_fPut : lexF [105, 110, 115, 101, 114, 116, 32, 105, 110, 116, 111, 32, 107, 118, 32, 118, 97, 108, 117, 101, 115, 32, 40, 39, 39, 44, 32, 39, 39, 41] = some [(1, [73, 78, 83, 69, 82, 84]), (1, [73, 78, 84, 79]), (1, [75, 86]), (1, [86, 65, 76, 85, 69, 83]), (6, [40]), (3, []), (6, [44]), (3, []), (6, [41])] := by
 rw [lexF_tok (k := 1) (t := [73, 78, 83, 69, 82, 84]) (n := 6) (by simp) (by kernel_rfl) (by decide)]; simp only [List.drop_succ_cons, List.drop_zero]; rw [lexF_skip (n := 1) (by simp) (by kernel_rfl) (by decide)]; simp only [List.drop_succ_cons, List.drop_zero]; rw [lexF_tok (k := 1) (t := [73, 78, 84, 79]) (n := 4) (by simp) (by kernel_rfl) (by decide)]; simp only [List.drop_succ_cons, List.drop_zero]; rw [lexF_skip (n := 1) (by simp) (by kernel_rfl) (by decide)]; simp only [List.drop_succ_cons, List.drop_zero]; rw [lexF_tok (k := 1) (t := [75, 86]) (n := 2) (by simp) (by kernel_rfl) (by decide)]; simp only [List.drop_succ_cons, List.drop_zero]; rw [lexF_skip (n := 1) (by simp) (by kernel_rfl) (by decide)]; simp only [List.drop_succ_cons, List.drop_zero]; rw [lexF_tok (k := 1) (t := [86, 65, 76, 85, 69, 83]) (n := 6) (by simp) (by kernel_rfl) (by decide)]; simp only [List.drop_succ_cons, List.drop_zero]; rw [lexF_skip (n := 1) (by simp) (by kernel_rfl) (by decide)]; simp only [List.drop_succ_cons, List.drop_zero]; rw [lexF_tok (k := 6) (t := [40]) (n := 1) (by simp) (by kernel_rfl) (by decide)]; simp only [List.drop_succ_cons, List.drop_zero]; rw [lexF_tok (k := 3) (t := []) (n := 2) (by simp) (by kernel_rfl) (by decide)]; simp only [List.drop_succ_cons, List.drop_zero]; rw [lexF_tok (k := 6) (t := [44]) (n := 1) (by simp) (by kernel_rfl) (by decide)]; simp only [List.drop_succ_cons, List.drop_zero]; rw [lexF_skip (n := 1) (by simp) (by kernel_rfl) (by decide)]; simp only [List.drop_succ_cons, List.drop_zero]; rw [lexF_tok (k := 3) (t := []) (n := 2) (by simp) (by kernel_rfl) (by decide)]; simp only [List.drop_succ_cons, List.drop_zero]; rw [lexF_tok (k := 6) (t := [41]) (n := 1) (by simp) (by kernel_rfl) (by decide)]; simp only [List.drop_succ_cons, List.drop_zero]; rw [lexF_nil]; rfl
theorem form_Put (w : World) : Calls Tryz.prog 114 #[.string ⟨#[105, 110, 115, 101, 114, 116, 32, 105, 110, 116, 111, 32, 107, 118, 32, 118, 97, 108, 117, 101, 115, 32, 40, 39, 39, 44, 32, 39, 39, 41]⟩] w fun e w' => ∃ A n c ts, e = .returned (.slice A n c) ∧ TR w' A n ts ∧ (saysT ts).map emptyF = fPut ∧ n ≤ 20 ∧ Below w.heap.size w w' :=
 (form_ok ⟨#[105, 110, 115, 101, 114, 116, 32, 105, 110, 116, 111, 32, 107, 118, 32, 118, 97, 108, 117, 101, 115, 32, 40, 39, 39, 44, 32, 39, 39, 41]⟩ w (by decide)).mono fun e w' ⟨A, n, c, ts, he, ht, hs, hb⟩ => by
  rw [show (⟨#[105, 110, 115, 101, 114, 116, 32, 105, 110, 116, 111, 32, 107, 118, 32, 118, 97, 108, 117, 101, 115, 32, 40, 39, 39, 44, 32, 39, 39, 41]⟩ : ByteArray).data.toList = [105, 110, 115, 101, 114, 116, 32, 105, 110, 116, 111, 32, 107, 118, 32, 118, 97, 108, 117, 101, 115, 32, 40, 39, 39, 44, 32, 39, 39, 41] from rfl, lexA_some lex6_fPut (by decide)] at hs; have hs2 : saysT ts = fPut := hs; refine ⟨A, n, c, ts, he, ht, by rw [hs2]; decide, ?_, hb⟩; rw [← ht.len, ← saysT_length, hs2]; decide
theorem lex6_fChg : lexF [117, 112, 100, 97, 116, 101, 32, 107, 118, 32, 115, 101, 116, 32, 118, 32, 61, 32, 39, 39, 32, 119, 104, 101, 114, 101, 32, 107, 32, 61, 32, 39, 39] = some [(1, [85, 80, 68, 65, 84, 69]), (1, [75, 86]), (1, [83, 69, 84]), (1, [86]), (6, [61]), (3, []), (1, [87, 72, 69, 82, 69]), (1, [75]), (6, [61]), (3, [])] := by
 rw [lexF_tok (k := 1) (t := [85, 80, 68, 65, 84, 69]) (n := 6) (by simp) (by kernel_rfl) (by decide)]; simp only [List.drop_succ_cons, List.drop_zero]; rw [lexF_skip (n := 1) (by simp) (by kernel_rfl) (by decide)]; simp only [List.drop_succ_cons, List.drop_zero]; rw [lexF_tok (k := 1) (t := [75, 86]) (n := 2) (by simp) (by kernel_rfl) (by decide)]; simp only [List.drop_succ_cons, List.drop_zero]; rw [lexF_skip (n := 1) (by simp) (by kernel_rfl) (by decide)]; simp only [List.drop_succ_cons, List.drop_zero]; rw [lexF_tok (k := 1) (t := [83, 69, 84]) (n := 3) (by simp) (by kernel_rfl) (by decide)]; simp only [List.drop_succ_cons, List.drop_zero]; rw [lexF_skip (n := 1) (by simp) (by kernel_rfl) (by decide)]; simp only [List.drop_succ_cons, List.drop_zero]; rw [lexF_tok (k := 1) (t := [86]) (n := 1) (by simp) (by kernel_rfl) (by decide)]; simp only [List.drop_succ_cons, List.drop_zero]; rw [lexF_skip (n := 1) (by simp) (by kernel_rfl) (by decide)]; simp only [List.drop_succ_cons, List.drop_zero]; rw [lexF_tok (k := 6) (t := [61]) (n := 1) (by simp) (by kernel_rfl) (by decide)]; simp only [List.drop_succ_cons, List.drop_zero]; rw [lexF_skip (n := 1) (by simp) (by kernel_rfl) (by decide)]; simp only [List.drop_succ_cons, List.drop_zero]; rw [lexF_tok (k := 3) (t := []) (n := 2) (by simp) (by kernel_rfl) (by decide)]; simp only [List.drop_succ_cons, List.drop_zero]; rw [lexF_skip (n := 1) (by simp) (by kernel_rfl) (by decide)]; simp only [List.drop_succ_cons, List.drop_zero]; rw [lexF_tok (k := 1) (t := [87, 72, 69, 82, 69]) (n := 5) (by simp) (by kernel_rfl) (by decide)]; simp only [List.drop_succ_cons, List.drop_zero]; rw [lexF_skip (n := 1) (by simp) (by kernel_rfl) (by decide)]; simp only [List.drop_succ_cons, List.drop_zero]; rw [lexF_tok (k := 1) (t := [75]) (n := 1) (by simp) (by kernel_rfl) (by decide)]; simp only [List.drop_succ_cons, List.drop_zero]; rw [lexF_skip (n := 1) (by simp) (by kernel_rfl) (by decide)]; simp only [List.drop_succ_cons, List.drop_zero]; rw [lexF_tok (k := 6) (t := [61]) (n := 1) (by simp) (by kernel_rfl) (by decide)]; simp only [List.drop_succ_cons, List.drop_zero]; rw [lexF_skip (n := 1) (by simp) (by kernel_rfl) (by decide)]; simp only [List.drop_succ_cons, List.drop_zero]; rw [lexF_tok (k := 3) (t := []) (n := 2) (by simp) (by kernel_rfl) (by decide)]; simp only [List.drop_succ_cons, List.drop_zero]; rw [lexF_nil]; rfl
theorem form_Chg (w : World) : Calls Tryz.prog 114 #[.string ⟨#[117, 112, 100, 97, 116, 101, 32, 107, 118, 32, 115, 101, 116, 32, 118, 32, 61, 32, 39, 39, 32, 119, 104, 101, 114, 101, 32, 107, 32, 61, 32, 39, 39]⟩] w fun e w' => ∃ A n c ts, e = .returned (.slice A n c) ∧ TR w' A n ts ∧ (saysT ts).map emptyF = fChg ∧ n ≤ 20 ∧ Below w.heap.size w w' :=
 (form_ok ⟨#[117, 112, 100, 97, 116, 101, 32, 107, 118, 32, 115, 101, 116, 32, 118, 32, 61, 32, 39, 39, 32, 119, 104, 101, 114, 101, 32, 107, 32, 61, 32, 39, 39]⟩ w (by decide)).mono fun e w' ⟨A, n, c, ts, he, ht, hs, hb⟩ => by
  rw [show (⟨#[117, 112, 100, 97, 116, 101, 32, 107, 118, 32, 115, 101, 116, 32, 118, 32, 61, 32, 39, 39, 32, 119, 104, 101, 114, 101, 32, 107, 32, 61, 32, 39, 39]⟩ : ByteArray).data.toList = [117, 112, 100, 97, 116, 101, 32, 107, 118, 32, 115, 101, 116, 32, 118, 32, 61, 32, 39, 39, 32, 119, 104, 101, 114, 101, 32, 107, 32, 61, 32, 39, 39] from rfl, lexA_some lex6_fChg (by decide)] at hs; have hs2 : saysT ts = fChg := hs; refine ⟨A, n, c, ts, he, ht, by rw [hs2]; decide, ?_, hb⟩; rw [← ht.len, ← saysT_length, hs2]; decide
theorem lex6_fDel : lexF [100, 101, 108, 101, 116, 101, 32, 102, 114, 111, 109, 32, 107, 118, 32, 119, 104, 101, 114, 101, 32, 107, 32, 61, 32, 39, 39] = some [(1, [68, 69, 76, 69, 84, 69]), (1, [70, 82, 79, 77]), (1, [75, 86]), (1, [87, 72, 69, 82, 69]), (1, [75]), (6, [61]), (3, [])] := by
 rw [lexF_tok (k := 1) (t := [68, 69, 76, 69, 84, 69]) (n := 6) (by simp) (by kernel_rfl) (by decide)]; simp only [List.drop_succ_cons, List.drop_zero]; rw [lexF_skip (n := 1) (by simp) (by kernel_rfl) (by decide)]; simp only [List.drop_succ_cons, List.drop_zero]; rw [lexF_tok (k := 1) (t := [70, 82, 79, 77]) (n := 4) (by simp) (by kernel_rfl) (by decide)]; simp only [List.drop_succ_cons, List.drop_zero]; rw [lexF_skip (n := 1) (by simp) (by kernel_rfl) (by decide)]; simp only [List.drop_succ_cons, List.drop_zero]; rw [lexF_tok (k := 1) (t := [75, 86]) (n := 2) (by simp) (by kernel_rfl) (by decide)]; simp only [List.drop_succ_cons, List.drop_zero]; rw [lexF_skip (n := 1) (by simp) (by kernel_rfl) (by decide)]; simp only [List.drop_succ_cons, List.drop_zero]; rw [lexF_tok (k := 1) (t := [87, 72, 69, 82, 69]) (n := 5) (by simp) (by kernel_rfl) (by decide)]; simp only [List.drop_succ_cons, List.drop_zero]; rw [lexF_skip (n := 1) (by simp) (by kernel_rfl) (by decide)]; simp only [List.drop_succ_cons, List.drop_zero]; rw [lexF_tok (k := 1) (t := [75]) (n := 1) (by simp) (by kernel_rfl) (by decide)]; simp only [List.drop_succ_cons, List.drop_zero]; rw [lexF_skip (n := 1) (by simp) (by kernel_rfl) (by decide)]; simp only [List.drop_succ_cons, List.drop_zero]; rw [lexF_tok (k := 6) (t := [61]) (n := 1) (by simp) (by kernel_rfl) (by decide)]; simp only [List.drop_succ_cons, List.drop_zero]; rw [lexF_skip (n := 1) (by simp) (by kernel_rfl) (by decide)]; simp only [List.drop_succ_cons, List.drop_zero]; rw [lexF_tok (k := 3) (t := []) (n := 2) (by simp) (by kernel_rfl) (by decide)]; simp only [List.drop_succ_cons, List.drop_zero]; rw [lexF_nil]; rfl
theorem form_Del (w : World) : Calls Tryz.prog 114 #[.string ⟨#[100, 101, 108, 101, 116, 101, 32, 102, 114, 111, 109, 32, 107, 118, 32, 119, 104, 101, 114, 101, 32, 107, 32, 61, 32, 39, 39]⟩] w fun e w' => ∃ A n c ts, e = .returned (.slice A n c) ∧ TR w' A n ts ∧ (saysT ts).map emptyF = fDel ∧ n ≤ 20 ∧ Below w.heap.size w w' :=
 (form_ok ⟨#[100, 101, 108, 101, 116, 101, 32, 102, 114, 111, 109, 32, 107, 118, 32, 119, 104, 101, 114, 101, 32, 107, 32, 61, 32, 39, 39]⟩ w (by decide)).mono fun e w' ⟨A, n, c, ts, he, ht, hs, hb⟩ => by
  rw [show (⟨#[100, 101, 108, 101, 116, 101, 32, 102, 114, 111, 109, 32, 107, 118, 32, 119, 104, 101, 114, 101, 32, 107, 32, 61, 32, 39, 39]⟩ : ByteArray).data.toList = [100, 101, 108, 101, 116, 101, 32, 102, 114, 111, 109, 32, 107, 118, 32, 119, 104, 101, 114, 101, 32, 107, 32, 61, 32, 39, 39] from rfl, lexA_some lex6_fDel (by decide)] at hs; have hs2 : saysT ts = fDel := hs; refine ⟨A, n, c, ts, he, ht, by rw [hs2]; decide, ?_, hb⟩; rw [← ht.len, ← saysT_length, hs2]; decide
set_option maxHeartbeats 1000000 in
theorem keep_step {l : List Tok} {t : Tok} (h : t.1 = 5) : keptF (l ++ [t]) = keptF l := by simp [keptF, isHintF, h]
theorem keep_more {l : List Tok} {t : Tok} (h : t.1 ≠ 5) : keptF (l ++ [t]) = keptF l ++ [t] := by simp [keptF, isHintF, h]
theorem strs_form {L : List Tok} {ss : List ByteArray} {f : List Tok} (h : L.map emptyF = f) (hs : bts ss = strsF L) : ss.length = (strsF f).length := by
 rw [← strs_len h, ← hs]; simp [bts]
theorem one_of {ss : List ByteArray} (h : ss.length = 1) : ∃ x, ss = [x] := by
 match ss, h with
 | [x], _ => exact ⟨x, rfl⟩
theorem two_of {ss : List ByteArray} (h : ss.length = 2) : ∃ x y, ss = [x, y] := by
 match ss, h with
 | [x, y], _ => exact ⟨x, y, rfl⟩
set_option maxHeartbeats 16000000 in
theorem rof_ok (s : ByteArray) (w : World) (hm : s.size ≤ maxLen) : OfTo 90 s w := by
 obtain ⟨j0, gi, gz0, gz1, gz2⟩ := info_parts tkinfoR; have kw := kp_new w (.cells #[.int .i64 0, .string ⟨#[]⟩, .string ⟨#[]⟩] 163); have hlx := rlex_ok s (w.alloc (.cells #[.int .i64 0, .string ⟨#[]⟩, .string ⟨#[]⟩] 163)) hm; unfold LexTo at hlx; have hlen := lexA_len s.data.toList; have herr := lexA_err s.data.toList; have hP : planA s.data.toList = planF (bodyF (lexA s.data.toList).1) := rfl; unfold OfTo; generalize planA s.data.toList = R at *; have HP := hid hP; have HX := hid hlx; have HLN := hid hlen; have HER := hid herr; clear hP hlx hlen herr; go_enter Tryz.func90, Tryz.ntmps90; go_wp2_with fail; refine HX.out.mono ?_; rintro e w1 ⟨A, n, c, er, ts, rfl, ho, hla, k1⟩; rw [← hla] at HLN HP HER; clear hla HX; have hb1 : Hid (∀ u, Below w1.heap.size w1 u → u.heap[w.heap.size]? = some (.cells #[.int .i64 0, .string ⟨#[]⟩, .string ⟨#[]⟩] 163 (0, 0))) := hid fun u hu => ((kp_trans k1 hu).block _ (by simp)).trans (heap_alloc_new w _); have K1 := kp_trans kw k1; have hlt1 : w.heap.size + 1 ≤ w1.heap.size := by have := k1.size; simpa using this
 have hn : n ≤ 200 := by rw [← ho.len, ← saysT_length]; exact HLN.out
 by_cases he0 : er = 0
 case neg =>
  have hne : (er != 0) = true := by simpa using he0
  obtain ⟨d0, d1, d2, f0, f1, f2⟩ := cells3f (hb1.out w1 (Below.refl _ _)); have hR : Hid (doing 0 ⟨#[]⟩ ⟨#[]⟩ = R) := hid (by rw [HP.out, HER.out he0]; rfl); clear he0; go_wp2_with fail; refine bodyPost_ret (v := planV 0 ⟨#[]⟩ ⟨#[]⟩) ?_ rfl ⟨0, ⟨#[]⟩, ⟨#[]⟩, rfl, hR.out, ((K1.setCell (Nat.le_refl _) _).setCell (Nat.le_refl _) _).setCell (Nat.le_refl _) _⟩; rw [results_cell1 rfl]; unfold planV; go_simp
 subst he0; have HTR := hid ho.tr; have hlenT := hid ho.len; have hown0 : Hid (OT 182 (w1.alloc (.cells #[] 182)) w1.heap.size (some ⟨w1.heap.size, 0, none⟩) 0 0 []) := hid (OT.empty _ _); have hk0 := hid (kp_new w1 (.cells #[] 182)); clear ho; go_wp2_with fail
 go_loopw [5, 6] (fun o i wr => ∃ (q z : Nat) (B : Option Addr) (e : Nat) (ms : List Tk), q ≤ n ∧ z ≤ q ∧ i = .int .i64 q ∧ o = .slice B z e ∧ Hid (OT 182 wr w1.heap.size B z e ms) ∧ Hid (saysT ms = keptF (saysT (ts.take q))) ∧ Below w1.heap.size w1 wr) (fun _ i _ => n - (intOf i).toNat)
 case atStart => exact ⟨0, 0, _, 0, [], Nat.zero_le _, Nat.le_refl _, rfl, rfl, hown0, hid rfl, hk0.out⟩
 case round =>
  obtain ⟨q, z, B, e, ms, hq, hz, rfl, rfl, hom, hms, k2⟩ := hrel; have hsz2 := k2.size; by_cases hlt : q < n
  · have hkl : q < ts.length := by rw [hlenT.out]; exact hlt
    obtain ⟨ad, rfl, had, hc⟩ := HTR.out.at_ hkl; obtain ⟨c0, c1⟩ := hc _ k2; have hsn := says_next ts q hkl; have hte : ts[q].says = (ts[q].k, ts[q].t.data.toList) := rfl; rw [hte] at hsn; clear hc hte; generalize ts[q].k = x at *; generalize ts[q].t = y at *; by_cases h5 : x = 5
    · subst h5; have hms2 : Hid (saysT ms = keptF (saysT (ts.take (q + 1)))) := hid (by rw [hsn, keep_step (by rfl)]; exact hms.out); clear hsn hms; go_wp2_with fail; go_roundw
      case rel => exact ⟨q + 1, z, B, e, ms, by omega, by omega, by go_num, rfl, hom, hms2, k2⟩
      case measure => simp [intOf]; omega
    · have n5 : (x != 5) = true := by simpa using h5
      have hms2 : Hid (saysT (ms ++ [⟨x, y⟩]) = keptF (saysT (ts.take (q + 1)))) := hid (by rw [hsn, keep_more h5, saysT_append, hms.out]; rfl); have HO := hid (hom.out.own.alloc (.cells #[.int .i64 x, .string y] 182)); have HSRC : Hid (Rd (wr.alloc (.cells #[.int .i64 x, .string y] 182)) (wr.heap.size + 1) (some ⟨wr.heap.size, 0, none⟩) [.int .i64 x, .string y]) := hid (Rd.new wr 182 [.int .i64 x, .string y]); have KA := hid (kp_alloc k2 (.cells #[.int .i64 x, .string y] 182)); clear hsn hms hom h5; go_wp2_with (at_builtin; refine wpList_append_rds rfl _ _ _ rfl w1.heap.size 182 j0 _ 2 24 Tryz.underlying179 gi gz0 gz1 gz2 rfl (by omega) _ z _ rfl HO.out _ _ _ _ [.int .i64 x, .string y] rfl rfl HSRC.out (by simp [Value.oneCell']) (by unfold maxLen; omega) (by omega) KA.out.size ?_; intro v4 w4 hown4 hg4; obtain ⟨A4, c4, rfl, ho4⟩ := OT.push hown4); go_roundw
      case rel => exact ⟨q + 1, z + 1, A4, c4, ms ++ [⟨x, y⟩], by omega, by omega, by go_num, rfl, hid ho4, hms2, KA.out.trans (below_own_s HO.out hg4 KA.out.size)⟩
      case measure => simp [intOf]; omega
  · obtain rfl : q = n := by omega
    rw [List.take_of_length_le (by rw [hlenT.out]; exact Nat.le_refl _)] at hms; have HM := hid hom.out.tr; have hze := hom.out.cap; have hlm := hid hom.out.len; have K2 := kp_trans K1 k2; have HB2 := hid (fun u (hu : Below wr.heap.size wr u) => hb1.out u (kp_trans k2 hu)); clear hom hsz2; obtain ⟨wo, hwo⟩ : ∃ x, x = wr := ⟨wr, rfl⟩; subst hwo; go_wp2_with fail
    go_loopw [5] (fun o wr => ∃ j : Nat, j ≤ z ∧ o = .slice B j e ∧ Hid (endF (saysT ms) = endF (saysT (ms.take j))) ∧ Below wo.heap.size wo wr) (fun v _ => match v with | .slice _ k _ => k | _ => 0)
    case atStart => exact ⟨z, Nat.le_refl _, rfl, hid (by rw [List.take_of_length_le (by rw [hlm.out]; exact Nat.le_refl _)]), Below.refl _ _⟩
    case round =>
     obtain ⟨j, hj, rfl, hx, k3⟩ := hrel
     have hstop : (∃ j', j = j' + 1 ∧ ∃ hjl : j' < ms.length, stopF ms[j'].says = true) ∨ Hid (saysT (ms.take j) = endF (saysT ms)) := by
      cases j with
      | zero => exact .inr (hid (by rw [hx.out]; rfl))
      | succ j' =>
        have hjl : j' < ms.length := by rw [hlm.out]; omega
        have hst := says_next ms j' hjl
        cases hs : stopF ms[j'].says with
        | true => exact .inl ⟨j', rfl, hjl, hs⟩
        | false => exact .inr (hid (by rw [hx.out, hst, endF_last hs]))
     rcases hstop with ⟨j', rfl, hjl, hs⟩ | hend
     · obtain ⟨ad, rfl, _, hcc⟩ := HM.out.at_ hjl; obtain ⟨c0, c1⟩ := hcc _ k3; have hst := says_next ms j' hjl; have hx2 : Hid (endF (saysT ms) = endF (saysT (ms.take j'))) := hid (by rw [hx.out, hst, endF_stop hs]); have his := stop_is hs; have hk6 : ms[j'].k = 6 := congrArg Prod.fst his; have ht59 : ms[j'].t = ⟨#[59]⟩ := text_ext (congrArg Prod.snd his); rw [hk6] at c0; rw [ht59] at c1; have e1 : ((j' + 1 : Nat) : Int) - 1 = (j' : Int) := by omega
       clear hcc hst hx hs his hk6 ht59; go_wp2_with fail; go_roundw
       case rel => exact ⟨j', by omega, rfl, hx2, k3⟩
       case measure => simp
     · have HMJ := hid (HM.out.front hj); have hbody : Hid (saysT (ms.take j) = bodyF (saysT ts)) := hid (by rw [hend.out, hms.out]; rfl); have hj200 : j ≤ 1000 := by omega
       have K3 := kp_trans K2 k3; have HB3 := hid (fun u (hu : Below wr.heap.size wr u) => HB2.out u (kp_trans k3 hu)); have HM3 := hid (fun u (hu : Below wr.heap.size wr u) => HMJ.out.next (kp_trans k3 hu))
       have hguard : (∃ j', j = j' + 1 ∧ ∃ hjl : j' < ms.length, (ms[j'].k = 6 → ms[j'].t ≠ ⟨#[59]⟩)) ∨ j = 0 := by
        cases j with
        | zero => exact .inr rfl
        | succ j' =>
          have hjl : j' < ms.length := by rw [hlm.out]; omega
          refine .inl ⟨j', rfl, hjl, fun h6 h59 => ?_⟩; have hst := says_next ms j' hjl
          have hs : stopF ms[j'].says = true := by
           have e : ms[j'].says = (6, [59]) := by
            show (ms[j'].k, ms[j'].t.data.toList) = _; rw [h6, h59]
           rw [e]; rfl
          have h1 := hend.out; rw [hx.out, hst, endF_stop hs] at h1; have h2 := congrArg List.length h1; obtain ⟨st, h3, _⟩ := endF_split (saysT (ms.take j')); have h4 := congrArg List.length h3; rw [List.length_append] at h2 h4; simp at h2
          omega
       have HP2 : Hid (R = planF (saysT (ms.take j))) := hid (by rw [HP.out, hbody.out]); clear hend hx hbody
       have hcut : j = 0 ∨ ∃ j', j = j' + 1 ∧ ∃ ad, B = some ad ∧ ∃ (a : Int) (x : ByteArray), (a = 6 → x ≠ ⟨#[59]⟩) ∧ wr.cell? (ad.add (j' * 2)) = some (.int .i64 a) ∧ wr.cell? ⟨(ad.add (j' * 2)).block, (ad.add (j' * 2)).off + 1, none⟩ = some (.string x) := by
        rcases hguard with ⟨j', rfl, hjl, hne⟩ | rfl
        · obtain ⟨ad, rfl, _, hcc⟩ := HM.out.at_ hjl; obtain ⟨c0, c1⟩ := hcc _ k3; exact .inr ⟨j', rfl, ad, rfl, _, _, hne, c0, c1⟩
        · exact .inl rfl
       clear hguard; have HMS := hid (rfl : ms.take j = ms.take j); obtain ⟨mj, hmj⟩ : ∃ mj, Hid (ms.take j = mj) := ⟨_, HMS⟩; rw [hmj.out] at HP2 HM3; clear HMJ HMS hmj hms HP HM; rcases hcut with rfl | ⟨j', rfl, ad, rfl, a, x, hne, c0, c1⟩
       · go_wp2_with fail; refine (form_Get _).mono ?_; rintro e u1 ⟨F1, nf1, cf1, fs1, rfl, hf1, hfs1, hnf1, kf1⟩; have P1 : Below wr.heap.size wr u1 := kp_trans (Below.refl _ _) kf1; have HST1 := hid (strs_ok B F1 0 nf1 e cf1 mj fs1 u1 (HM3.out _ P1) hf1 hj200 (by omega)); unfold StrsTo at HST1; go_wp2_with fail; refine HST1.out.mono ?_; rintro e' v1 ⟨S1, ns1, cs1, ss1, b1, rfl, hb1, hyes1, kv1⟩; have Q1 := kp_trans P1 kv1; rw [hfs1] at hb1; clear HST1 hf1 hfs1 kf1
         cases b1 with
         | true =>
           obtain ⟨hxr, hss⟩ := hyes1 rfl; have hfe := of_decide_eq_true hb1.symm; obtain ⟨x, rfl⟩ := one_of (strs_form hfe hss); have hR : Hid (doing 1 x ⟨#[]⟩ = R) := hid (by rw [HP2.out, planF, ← hss, hfe]; rfl); obtain ⟨sd, rfl, hsd, g0⟩ := hxr.at_ (j := 0) (by simp); rw [show sd.add 0 = sd from rfl, List.getElem_cons_zero] at g0; obtain rfl : ns1 = 1 := hxr.len.symm; obtain ⟨d0, d1, d2, f0, f1, f2⟩ := cells3f (HB3.out v1 Q1); have KW := kp_trans K3 Q1; clear hss hfe hb1 hyes1 hxr; go_wp2_with fail; refine bodyPost_ret (v := planV 1 x ⟨#[]⟩) ?_ rfl ⟨1, x, ⟨#[]⟩, rfl, hR.out, ((KW.setCell (Nat.le_refl _) _).setCell (Nat.le_refl _) _).setCell (Nat.le_refl _) _⟩
           · rw [results_cell1 rfl]; unfold planV; go_simp
         | false =>
         have hno1 : Hid (¬ (saysT mj).map emptyF = fGet) := hid (of_decide_eq_false hb1.symm); clear hb1 hyes1; go_wp2_with fail; refine (form_All _).mono ?_; rintro e u2 ⟨F2, nf2, cf2, fs2, rfl, hf2, hfs2, hnf2, kf2⟩; have P2 : Below wr.heap.size wr u2 := kp_trans Q1 kf2; have HST2 := hid (strs_ok B F2 0 nf2 e cf2 mj fs2 u2 (HM3.out _ P2) hf2 hj200 (by omega)); unfold StrsTo at HST2; go_wp2_with fail; refine HST2.out.mono ?_; rintro e' v2 ⟨S2, ns2, cs2, ss2, b2, rfl, hb2, hyes2, kv2⟩; have Q2 := kp_trans P2 kv2; rw [hfs2] at hb2; clear HST2 hf2 hfs2 kf2
         cases b2 with
         | true =>
           obtain ⟨hxr, hss⟩ := hyes2 rfl; have hfe := of_decide_eq_true hb2.symm; have hR : Hid (doing 2 ⟨#[]⟩ ⟨#[]⟩ = R) := hid (by rw [HP2.out, planF, hfe]; rfl); obtain ⟨d0, d1, d2, f0, f1, f2⟩ := cells3f (HB3.out v2 Q2); have KW := kp_trans K3 Q2; clear hss hfe hb2 hyes2 hxr; go_wp2_with fail; refine bodyPost_ret (v := planV 2 ⟨#[]⟩ ⟨#[]⟩) ?_ rfl ⟨2, ⟨#[]⟩, ⟨#[]⟩, rfl, hR.out, ((KW.setCell (Nat.le_refl _) _).setCell (Nat.le_refl _) _).setCell (Nat.le_refl _) _⟩
           · rw [results_cell1 rfl]; unfold planV; go_simp
         | false =>
         have hno2 : Hid (¬ (saysT mj).map emptyF = fAll) := hid (of_decide_eq_false hb2.symm); clear hb2 hyes2; go_wp2_with fail; refine (form_Put _).mono ?_; rintro e u3 ⟨F3, nf3, cf3, fs3, rfl, hf3, hfs3, hnf3, kf3⟩; have P3 : Below wr.heap.size wr u3 := kp_trans Q2 kf3; have HST3 := hid (strs_ok B F3 0 nf3 e cf3 mj fs3 u3 (HM3.out _ P3) hf3 hj200 (by omega)); unfold StrsTo at HST3; go_wp2_with fail; refine HST3.out.mono ?_; rintro e' v3 ⟨S3, ns3, cs3, ss3, b3, rfl, hb3, hyes3, kv3⟩; have Q3 := kp_trans P3 kv3; rw [hfs3] at hb3; clear HST3 hf3 hfs3 kf3
         cases b3 with
         | true =>
           obtain ⟨hxr, hss⟩ := hyes3 rfl; have hfe := of_decide_eq_true hb3.symm; obtain ⟨x, y, rfl⟩ := two_of (strs_form hfe hss); have hR : Hid (doing 3 x y = R) := hid (by rw [HP2.out, planF, ← hss, hfe]; rfl); obtain ⟨sd, rfl, hsd, g0⟩ := hxr.at_ (j := 0) (by simp); obtain ⟨sd', e'', _, g1⟩ := hxr.at_ (j := 1) (by simp); injection e'' with e''; subst e''; rw [show sd.add 0 = sd from rfl, List.getElem_cons_zero] at g0; rw [show sd.add 1 = ⟨sd.block, sd.off + 1, none⟩ from rfl, List.getElem_cons_succ, List.getElem_cons_zero] at g1; obtain rfl : ns3 = 2 := hxr.len.symm; obtain ⟨d0, d1, d2, f0, f1, f2⟩ := cells3f (HB3.out v3 Q3); have KW := kp_trans K3 Q3; clear hss hfe hb3 hyes3 hxr; go_wp2_with fail; go_region
           all_goals
            go_wp2_with fail; refine bodyPost_ret (v := planV 3 x y) ?_ rfl ⟨3, x, y, rfl, hR.out, ?_⟩
            · rw [results_cell1 rfl]; unfold planV; go_simp
            · exact ((KW.drew.setCell (Nat.le_refl _) _).setCell (Nat.le_refl _) _).setCell (Nat.le_refl _) _
         | false =>
         have hno3 : Hid (¬ (saysT mj).map emptyF = fPut) := hid (of_decide_eq_false hb3.symm); clear hb3 hyes3; go_wp2_with fail; refine (form_Chg _).mono ?_; rintro e u4 ⟨F4, nf4, cf4, fs4, rfl, hf4, hfs4, hnf4, kf4⟩; have P4 : Below wr.heap.size wr u4 := kp_trans Q3 kf4; have HST4 := hid (strs_ok B F4 0 nf4 e cf4 mj fs4 u4 (HM3.out _ P4) hf4 hj200 (by omega)); unfold StrsTo at HST4; go_wp2_with fail; refine HST4.out.mono ?_; rintro e' v4 ⟨S4, ns4, cs4, ss4, b4, rfl, hb4, hyes4, kv4⟩; have Q4 := kp_trans P4 kv4; rw [hfs4] at hb4; clear HST4 hf4 hfs4 kf4
         cases b4 with
         | true =>
           obtain ⟨hxr, hss⟩ := hyes4 rfl; have hfe := of_decide_eq_true hb4.symm; obtain ⟨x, y, rfl⟩ := two_of (strs_form hfe hss); have hR : Hid (doing 4 y x = R) := hid (by rw [HP2.out, planF, ← hss, hfe]; rfl); obtain ⟨sd, rfl, hsd, g0⟩ := hxr.at_ (j := 0) (by simp); obtain ⟨sd', e'', _, g1⟩ := hxr.at_ (j := 1) (by simp); injection e'' with e''; subst e''; rw [show sd.add 0 = sd from rfl, List.getElem_cons_zero] at g0; rw [show sd.add 1 = ⟨sd.block, sd.off + 1, none⟩ from rfl, List.getElem_cons_succ, List.getElem_cons_zero] at g1; obtain rfl : ns4 = 2 := hxr.len.symm; obtain ⟨d0, d1, d2, f0, f1, f2⟩ := cells3f (HB3.out v4 Q4); have KW := kp_trans K3 Q4; clear hss hfe hb4 hyes4 hxr; go_wp2_with fail; go_region
           all_goals
            go_wp2_with fail; refine bodyPost_ret (v := planV 4 y x) ?_ rfl ⟨4, y, x, rfl, hR.out, ?_⟩
            · rw [results_cell1 rfl]; unfold planV; go_simp
            · exact ((KW.drew.setCell (Nat.le_refl _) _).setCell (Nat.le_refl _) _).setCell (Nat.le_refl _) _
         | false =>
         have hno4 : Hid (¬ (saysT mj).map emptyF = fChg) := hid (of_decide_eq_false hb4.symm); clear hb4 hyes4; go_wp2_with fail; refine (form_Del _).mono ?_; rintro e u5 ⟨F5, nf5, cf5, fs5, rfl, hf5, hfs5, hnf5, kf5⟩; have P5 : Below wr.heap.size wr u5 := kp_trans Q4 kf5; have HST5 := hid (strs_ok B F5 0 nf5 e cf5 mj fs5 u5 (HM3.out _ P5) hf5 hj200 (by omega)); unfold StrsTo at HST5; go_wp2_with fail; refine HST5.out.mono ?_; rintro e' v5 ⟨S5, ns5, cs5, ss5, b5, rfl, hb5, hyes5, kv5⟩; have Q5 := kp_trans P5 kv5; rw [hfs5] at hb5; clear HST5 hf5 hfs5 kf5
         cases b5 with
         | true =>
           obtain ⟨hxr, hss⟩ := hyes5 rfl; have hfe := of_decide_eq_true hb5.symm; obtain ⟨x, rfl⟩ := one_of (strs_form hfe hss); have hR : Hid (doing 5 x ⟨#[]⟩ = R) := hid (by rw [HP2.out, planF, ← hss, hfe]; rfl); obtain ⟨sd, rfl, hsd, g0⟩ := hxr.at_ (j := 0) (by simp); rw [show sd.add 0 = sd from rfl, List.getElem_cons_zero] at g0; obtain rfl : ns5 = 1 := hxr.len.symm; obtain ⟨d0, d1, d2, f0, f1, f2⟩ := cells3f (HB3.out v5 Q5); have KW := kp_trans K3 Q5; clear hss hfe hb5 hyes5 hxr; go_wp2_with fail; refine bodyPost_ret (v := planV 5 x ⟨#[]⟩) ?_ rfl ⟨5, x, ⟨#[]⟩, rfl, hR.out, ((KW.setCell (Nat.le_refl _) _).setCell (Nat.le_refl _) _).setCell (Nat.le_refl _) _⟩
           · rw [results_cell1 rfl]; unfold planV; go_simp
         | false =>
         have hno5 : Hid (¬ (saysT mj).map emptyF = fDel) := hid (of_decide_eq_false hb5.symm); clear hb5 hyes5; obtain ⟨d0, d1, d2, f0, f1, f2⟩ := cells3f (HB3.out v5 Q5); have KW := kp_trans K3 Q5
         have hR : Hid (doing 0 ⟨#[]⟩ ⟨#[]⟩ = R) := hid (by
          rw [HP2.out, planF]; unfold pickF; rw [if_neg hno1.out, if_neg hno2.out, if_neg hno3.out, if_neg hno4.out, if_neg hno5.out]
          rfl)
         go_wp2_with fail; refine bodyPost_ret (v := planV 0 ⟨#[]⟩ ⟨#[]⟩) ?_ rfl ⟨0, ⟨#[]⟩, ⟨#[]⟩, rfl, hR.out, ((KW.setCell (Nat.le_refl _) _).setCell (Nat.le_refl _) _).setCell (Nat.le_refl _) _⟩; rw [results_cell1 rfl]; unfold planV; go_simp
       · have e1 : ((j' + 1 : Nat) : Int) - 1 = (j' : Int) := by omega
         by_cases h6 : a = 6
         · subst h6
           have h59 : (x.toList == [59]) = false := by
            simp only [beq_eq_false_iff_ne, ne_eq]; exact fun h => hne rfl (bytes_ext (by rw [h, ByteArray.toList_eq]))
           clear hne; go_wp2_with fail; refine (form_Get _).mono ?_; rintro e u1 ⟨F1, nf1, cf1, fs1, rfl, hf1, hfs1, hnf1, kf1⟩; have P1 : Below wr.heap.size wr u1 := kp_trans (Below.refl _ _) kf1; have HST1 := hid (strs_ok (some ad) F1 (j' + 1) nf1 e cf1 mj fs1 u1 (HM3.out _ P1) hf1 hj200 (by omega)); unfold StrsTo at HST1; go_wp2_with fail; refine HST1.out.mono ?_; rintro e' v1 ⟨S1, ns1, cs1, ss1, b1, rfl, hb1, hyes1, kv1⟩; have Q1 := kp_trans P1 kv1; rw [hfs1] at hb1; clear HST1 hf1 hfs1 kf1
           cases b1 with
           | true =>
             obtain ⟨hxr, hss⟩ := hyes1 rfl; have hfe := of_decide_eq_true hb1.symm; obtain ⟨x, rfl⟩ := one_of (strs_form hfe hss); have hR : Hid (doing 1 x ⟨#[]⟩ = R) := hid (by rw [HP2.out, planF, ← hss, hfe]; rfl); obtain ⟨sd, rfl, hsd, g0⟩ := hxr.at_ (j := 0) (by simp); rw [show sd.add 0 = sd from rfl, List.getElem_cons_zero] at g0; obtain rfl : ns1 = 1 := hxr.len.symm; obtain ⟨d0, d1, d2, f0, f1, f2⟩ := cells3f (HB3.out v1 Q1); have KW := kp_trans K3 Q1; clear hss hfe hb1 hyes1 hxr; go_wp2_with fail; refine bodyPost_ret (v := planV 1 x ⟨#[]⟩) ?_ rfl ⟨1, x, ⟨#[]⟩, rfl, hR.out, ((KW.setCell (Nat.le_refl _) _).setCell (Nat.le_refl _) _).setCell (Nat.le_refl _) _⟩
             · rw [results_cell1 rfl]; unfold planV; go_simp
           | false =>
           have hno1 : Hid (¬ (saysT mj).map emptyF = fGet) := hid (of_decide_eq_false hb1.symm); clear hb1 hyes1; go_wp2_with fail; refine (form_All _).mono ?_; rintro e u2 ⟨F2, nf2, cf2, fs2, rfl, hf2, hfs2, hnf2, kf2⟩; have P2 : Below wr.heap.size wr u2 := kp_trans Q1 kf2; have HST2 := hid (strs_ok (some ad) F2 (j' + 1) nf2 e cf2 mj fs2 u2 (HM3.out _ P2) hf2 hj200 (by omega)); unfold StrsTo at HST2; go_wp2_with fail; refine HST2.out.mono ?_; rintro e' v2 ⟨S2, ns2, cs2, ss2, b2, rfl, hb2, hyes2, kv2⟩; have Q2 := kp_trans P2 kv2; rw [hfs2] at hb2; clear HST2 hf2 hfs2 kf2
           cases b2 with
           | true =>
             obtain ⟨hxr, hss⟩ := hyes2 rfl; have hfe := of_decide_eq_true hb2.symm; have hR : Hid (doing 2 ⟨#[]⟩ ⟨#[]⟩ = R) := hid (by rw [HP2.out, planF, hfe]; rfl); obtain ⟨d0, d1, d2, f0, f1, f2⟩ := cells3f (HB3.out v2 Q2); have KW := kp_trans K3 Q2; clear hss hfe hb2 hyes2 hxr; go_wp2_with fail; refine bodyPost_ret (v := planV 2 ⟨#[]⟩ ⟨#[]⟩) ?_ rfl ⟨2, ⟨#[]⟩, ⟨#[]⟩, rfl, hR.out, ((KW.setCell (Nat.le_refl _) _).setCell (Nat.le_refl _) _).setCell (Nat.le_refl _) _⟩
             · rw [results_cell1 rfl]; unfold planV; go_simp
           | false =>
           have hno2 : Hid (¬ (saysT mj).map emptyF = fAll) := hid (of_decide_eq_false hb2.symm); clear hb2 hyes2; go_wp2_with fail; refine (form_Put _).mono ?_; rintro e u3 ⟨F3, nf3, cf3, fs3, rfl, hf3, hfs3, hnf3, kf3⟩; have P3 : Below wr.heap.size wr u3 := kp_trans Q2 kf3; have HST3 := hid (strs_ok (some ad) F3 (j' + 1) nf3 e cf3 mj fs3 u3 (HM3.out _ P3) hf3 hj200 (by omega)); unfold StrsTo at HST3; go_wp2_with fail; refine HST3.out.mono ?_; rintro e' v3 ⟨S3, ns3, cs3, ss3, b3, rfl, hb3, hyes3, kv3⟩; have Q3 := kp_trans P3 kv3; rw [hfs3] at hb3; clear HST3 hf3 hfs3 kf3
           cases b3 with
           | true =>
             obtain ⟨hxr, hss⟩ := hyes3 rfl; have hfe := of_decide_eq_true hb3.symm; obtain ⟨x, y, rfl⟩ := two_of (strs_form hfe hss); have hR : Hid (doing 3 x y = R) := hid (by rw [HP2.out, planF, ← hss, hfe]; rfl); obtain ⟨sd, rfl, hsd, g0⟩ := hxr.at_ (j := 0) (by simp); obtain ⟨sd', e'', _, g1⟩ := hxr.at_ (j := 1) (by simp); injection e'' with e''; subst e''; rw [show sd.add 0 = sd from rfl, List.getElem_cons_zero] at g0; rw [show sd.add 1 = ⟨sd.block, sd.off + 1, none⟩ from rfl, List.getElem_cons_succ, List.getElem_cons_zero] at g1; obtain rfl : ns3 = 2 := hxr.len.symm; obtain ⟨d0, d1, d2, f0, f1, f2⟩ := cells3f (HB3.out v3 Q3); have KW := kp_trans K3 Q3; clear hss hfe hb3 hyes3 hxr; go_wp2_with fail; go_region
             all_goals
              go_wp2_with fail; refine bodyPost_ret (v := planV 3 x y) ?_ rfl ⟨3, x, y, rfl, hR.out, ?_⟩
              · rw [results_cell1 rfl]; unfold planV; go_simp
              · exact ((KW.drew.setCell (Nat.le_refl _) _).setCell (Nat.le_refl _) _).setCell (Nat.le_refl _) _
           | false =>
           have hno3 : Hid (¬ (saysT mj).map emptyF = fPut) := hid (of_decide_eq_false hb3.symm); clear hb3 hyes3; go_wp2_with fail; refine (form_Chg _).mono ?_; rintro e u4 ⟨F4, nf4, cf4, fs4, rfl, hf4, hfs4, hnf4, kf4⟩; have P4 : Below wr.heap.size wr u4 := kp_trans Q3 kf4; have HST4 := hid (strs_ok (some ad) F4 (j' + 1) nf4 e cf4 mj fs4 u4 (HM3.out _ P4) hf4 hj200 (by omega)); unfold StrsTo at HST4; go_wp2_with fail; refine HST4.out.mono ?_; rintro e' v4 ⟨S4, ns4, cs4, ss4, b4, rfl, hb4, hyes4, kv4⟩; have Q4 := kp_trans P4 kv4; rw [hfs4] at hb4; clear HST4 hf4 hfs4 kf4
           cases b4 with
           | true =>
             obtain ⟨hxr, hss⟩ := hyes4 rfl; have hfe := of_decide_eq_true hb4.symm; obtain ⟨x, y, rfl⟩ := two_of (strs_form hfe hss); have hR : Hid (doing 4 y x = R) := hid (by rw [HP2.out, planF, ← hss, hfe]; rfl); obtain ⟨sd, rfl, hsd, g0⟩ := hxr.at_ (j := 0) (by simp); obtain ⟨sd', e'', _, g1⟩ := hxr.at_ (j := 1) (by simp); injection e'' with e''; subst e''; rw [show sd.add 0 = sd from rfl, List.getElem_cons_zero] at g0; rw [show sd.add 1 = ⟨sd.block, sd.off + 1, none⟩ from rfl, List.getElem_cons_succ, List.getElem_cons_zero] at g1; obtain rfl : ns4 = 2 := hxr.len.symm; obtain ⟨d0, d1, d2, f0, f1, f2⟩ := cells3f (HB3.out v4 Q4); have KW := kp_trans K3 Q4; clear hss hfe hb4 hyes4 hxr; go_wp2_with fail; go_region
             all_goals
              go_wp2_with fail; refine bodyPost_ret (v := planV 4 y x) ?_ rfl ⟨4, y, x, rfl, hR.out, ?_⟩
              · rw [results_cell1 rfl]; unfold planV; go_simp
              · exact ((KW.drew.setCell (Nat.le_refl _) _).setCell (Nat.le_refl _) _).setCell (Nat.le_refl _) _
           | false =>
           have hno4 : Hid (¬ (saysT mj).map emptyF = fChg) := hid (of_decide_eq_false hb4.symm); clear hb4 hyes4; go_wp2_with fail; refine (form_Del _).mono ?_; rintro e u5 ⟨F5, nf5, cf5, fs5, rfl, hf5, hfs5, hnf5, kf5⟩; have P5 : Below wr.heap.size wr u5 := kp_trans Q4 kf5; have HST5 := hid (strs_ok (some ad) F5 (j' + 1) nf5 e cf5 mj fs5 u5 (HM3.out _ P5) hf5 hj200 (by omega)); unfold StrsTo at HST5; go_wp2_with fail; refine HST5.out.mono ?_; rintro e' v5 ⟨S5, ns5, cs5, ss5, b5, rfl, hb5, hyes5, kv5⟩; have Q5 := kp_trans P5 kv5; rw [hfs5] at hb5; clear HST5 hf5 hfs5 kf5
           cases b5 with
           | true =>
             obtain ⟨hxr, hss⟩ := hyes5 rfl; have hfe := of_decide_eq_true hb5.symm; obtain ⟨x, rfl⟩ := one_of (strs_form hfe hss); have hR : Hid (doing 5 x ⟨#[]⟩ = R) := hid (by rw [HP2.out, planF, ← hss, hfe]; rfl); obtain ⟨sd, rfl, hsd, g0⟩ := hxr.at_ (j := 0) (by simp); rw [show sd.add 0 = sd from rfl, List.getElem_cons_zero] at g0; obtain rfl : ns5 = 1 := hxr.len.symm; obtain ⟨d0, d1, d2, f0, f1, f2⟩ := cells3f (HB3.out v5 Q5); have KW := kp_trans K3 Q5; clear hss hfe hb5 hyes5 hxr; go_wp2_with fail; refine bodyPost_ret (v := planV 5 x ⟨#[]⟩) ?_ rfl ⟨5, x, ⟨#[]⟩, rfl, hR.out, ((KW.setCell (Nat.le_refl _) _).setCell (Nat.le_refl _) _).setCell (Nat.le_refl _) _⟩
             · rw [results_cell1 rfl]; unfold planV; go_simp
           | false =>
           have hno5 : Hid (¬ (saysT mj).map emptyF = fDel) := hid (of_decide_eq_false hb5.symm); clear hb5 hyes5; obtain ⟨d0, d1, d2, f0, f1, f2⟩ := cells3f (HB3.out v5 Q5); have KW := kp_trans K3 Q5
           have hR : Hid (doing 0 ⟨#[]⟩ ⟨#[]⟩ = R) := hid (by
            rw [HP2.out, planF]; unfold pickF; rw [if_neg hno1.out, if_neg hno2.out, if_neg hno3.out, if_neg hno4.out, if_neg hno5.out]
            rfl)
           go_wp2_with fail; refine bodyPost_ret (v := planV 0 ⟨#[]⟩ ⟨#[]⟩) ?_ rfl ⟨0, ⟨#[]⟩, ⟨#[]⟩, rfl, hR.out, ((KW.setCell (Nat.le_refl _) _).setCell (Nat.le_refl _) _).setCell (Nat.le_refl _) _⟩; rw [results_cell1 rfl]; unfold planV; go_simp
         · have n6 : (a == 6) = false := by simpa using h6
           clear hne h6; go_wp2_with fail; refine (form_Get _).mono ?_; rintro e u1 ⟨F1, nf1, cf1, fs1, rfl, hf1, hfs1, hnf1, kf1⟩; have P1 : Below wr.heap.size wr u1 := kp_trans (Below.refl _ _) kf1; have HST1 := hid (strs_ok (some ad) F1 (j' + 1) nf1 e cf1 mj fs1 u1 (HM3.out _ P1) hf1 hj200 (by omega)); unfold StrsTo at HST1; go_wp2_with fail; refine HST1.out.mono ?_; rintro e' v1 ⟨S1, ns1, cs1, ss1, b1, rfl, hb1, hyes1, kv1⟩; have Q1 := kp_trans P1 kv1; rw [hfs1] at hb1; clear HST1 hf1 hfs1 kf1
           cases b1 with
           | true =>
             obtain ⟨hxr, hss⟩ := hyes1 rfl; have hfe := of_decide_eq_true hb1.symm; obtain ⟨x, rfl⟩ := one_of (strs_form hfe hss); have hR : Hid (doing 1 x ⟨#[]⟩ = R) := hid (by rw [HP2.out, planF, ← hss, hfe]; rfl); obtain ⟨sd, rfl, hsd, g0⟩ := hxr.at_ (j := 0) (by simp); rw [show sd.add 0 = sd from rfl, List.getElem_cons_zero] at g0; obtain rfl : ns1 = 1 := hxr.len.symm; obtain ⟨d0, d1, d2, f0, f1, f2⟩ := cells3f (HB3.out v1 Q1); have KW := kp_trans K3 Q1; clear hss hfe hb1 hyes1 hxr; go_wp2_with fail; refine bodyPost_ret (v := planV 1 x ⟨#[]⟩) ?_ rfl ⟨1, x, ⟨#[]⟩, rfl, hR.out, ((KW.setCell (Nat.le_refl _) _).setCell (Nat.le_refl _) _).setCell (Nat.le_refl _) _⟩
             · rw [results_cell1 rfl]; unfold planV; go_simp
           | false =>
           have hno1 : Hid (¬ (saysT mj).map emptyF = fGet) := hid (of_decide_eq_false hb1.symm); clear hb1 hyes1; go_wp2_with fail; refine (form_All _).mono ?_; rintro e u2 ⟨F2, nf2, cf2, fs2, rfl, hf2, hfs2, hnf2, kf2⟩; have P2 : Below wr.heap.size wr u2 := kp_trans Q1 kf2; have HST2 := hid (strs_ok (some ad) F2 (j' + 1) nf2 e cf2 mj fs2 u2 (HM3.out _ P2) hf2 hj200 (by omega)); unfold StrsTo at HST2; go_wp2_with fail; refine HST2.out.mono ?_; rintro e' v2 ⟨S2, ns2, cs2, ss2, b2, rfl, hb2, hyes2, kv2⟩; have Q2 := kp_trans P2 kv2; rw [hfs2] at hb2; clear HST2 hf2 hfs2 kf2
           cases b2 with
           | true =>
             obtain ⟨hxr, hss⟩ := hyes2 rfl; have hfe := of_decide_eq_true hb2.symm; have hR : Hid (doing 2 ⟨#[]⟩ ⟨#[]⟩ = R) := hid (by rw [HP2.out, planF, hfe]; rfl); obtain ⟨d0, d1, d2, f0, f1, f2⟩ := cells3f (HB3.out v2 Q2); have KW := kp_trans K3 Q2; clear hss hfe hb2 hyes2 hxr; go_wp2_with fail; refine bodyPost_ret (v := planV 2 ⟨#[]⟩ ⟨#[]⟩) ?_ rfl ⟨2, ⟨#[]⟩, ⟨#[]⟩, rfl, hR.out, ((KW.setCell (Nat.le_refl _) _).setCell (Nat.le_refl _) _).setCell (Nat.le_refl _) _⟩
             · rw [results_cell1 rfl]; unfold planV; go_simp
           | false =>
           have hno2 : Hid (¬ (saysT mj).map emptyF = fAll) := hid (of_decide_eq_false hb2.symm); clear hb2 hyes2; go_wp2_with fail; refine (form_Put _).mono ?_; rintro e u3 ⟨F3, nf3, cf3, fs3, rfl, hf3, hfs3, hnf3, kf3⟩; have P3 : Below wr.heap.size wr u3 := kp_trans Q2 kf3; have HST3 := hid (strs_ok (some ad) F3 (j' + 1) nf3 e cf3 mj fs3 u3 (HM3.out _ P3) hf3 hj200 (by omega)); unfold StrsTo at HST3; go_wp2_with fail; refine HST3.out.mono ?_; rintro e' v3 ⟨S3, ns3, cs3, ss3, b3, rfl, hb3, hyes3, kv3⟩; have Q3 := kp_trans P3 kv3; rw [hfs3] at hb3; clear HST3 hf3 hfs3 kf3
           cases b3 with
           | true =>
             obtain ⟨hxr, hss⟩ := hyes3 rfl; have hfe := of_decide_eq_true hb3.symm; obtain ⟨x, y, rfl⟩ := two_of (strs_form hfe hss); have hR : Hid (doing 3 x y = R) := hid (by rw [HP2.out, planF, ← hss, hfe]; rfl); obtain ⟨sd, rfl, hsd, g0⟩ := hxr.at_ (j := 0) (by simp); obtain ⟨sd', e'', _, g1⟩ := hxr.at_ (j := 1) (by simp); injection e'' with e''; subst e''; rw [show sd.add 0 = sd from rfl, List.getElem_cons_zero] at g0; rw [show sd.add 1 = ⟨sd.block, sd.off + 1, none⟩ from rfl, List.getElem_cons_succ, List.getElem_cons_zero] at g1; obtain rfl : ns3 = 2 := hxr.len.symm; obtain ⟨d0, d1, d2, f0, f1, f2⟩ := cells3f (HB3.out v3 Q3); have KW := kp_trans K3 Q3; clear hss hfe hb3 hyes3 hxr; go_wp2_with fail; go_region
             all_goals
              go_wp2_with fail; refine bodyPost_ret (v := planV 3 x y) ?_ rfl ⟨3, x, y, rfl, hR.out, ?_⟩
              · rw [results_cell1 rfl]; unfold planV; go_simp
              · exact ((KW.drew.setCell (Nat.le_refl _) _).setCell (Nat.le_refl _) _).setCell (Nat.le_refl _) _
           | false =>
           have hno3 : Hid (¬ (saysT mj).map emptyF = fPut) := hid (of_decide_eq_false hb3.symm); clear hb3 hyes3; go_wp2_with fail; refine (form_Chg _).mono ?_; rintro e u4 ⟨F4, nf4, cf4, fs4, rfl, hf4, hfs4, hnf4, kf4⟩; have P4 : Below wr.heap.size wr u4 := kp_trans Q3 kf4; have HST4 := hid (strs_ok (some ad) F4 (j' + 1) nf4 e cf4 mj fs4 u4 (HM3.out _ P4) hf4 hj200 (by omega)); unfold StrsTo at HST4; go_wp2_with fail; refine HST4.out.mono ?_; rintro e' v4 ⟨S4, ns4, cs4, ss4, b4, rfl, hb4, hyes4, kv4⟩; have Q4 := kp_trans P4 kv4; rw [hfs4] at hb4; clear HST4 hf4 hfs4 kf4
           cases b4 with
           | true =>
             obtain ⟨hxr, hss⟩ := hyes4 rfl; have hfe := of_decide_eq_true hb4.symm; obtain ⟨x, y, rfl⟩ := two_of (strs_form hfe hss); have hR : Hid (doing 4 y x = R) := hid (by rw [HP2.out, planF, ← hss, hfe]; rfl); obtain ⟨sd, rfl, hsd, g0⟩ := hxr.at_ (j := 0) (by simp); obtain ⟨sd', e'', _, g1⟩ := hxr.at_ (j := 1) (by simp); injection e'' with e''; subst e''; rw [show sd.add 0 = sd from rfl, List.getElem_cons_zero] at g0; rw [show sd.add 1 = ⟨sd.block, sd.off + 1, none⟩ from rfl, List.getElem_cons_succ, List.getElem_cons_zero] at g1; obtain rfl : ns4 = 2 := hxr.len.symm; obtain ⟨d0, d1, d2, f0, f1, f2⟩ := cells3f (HB3.out v4 Q4); have KW := kp_trans K3 Q4; clear hss hfe hb4 hyes4 hxr; go_wp2_with fail; go_region
             all_goals
              go_wp2_with fail; refine bodyPost_ret (v := planV 4 y x) ?_ rfl ⟨4, y, x, rfl, hR.out, ?_⟩
              · rw [results_cell1 rfl]; unfold planV; go_simp
              · exact ((KW.drew.setCell (Nat.le_refl _) _).setCell (Nat.le_refl _) _).setCell (Nat.le_refl _) _
           | false =>
           have hno4 : Hid (¬ (saysT mj).map emptyF = fChg) := hid (of_decide_eq_false hb4.symm); clear hb4 hyes4; go_wp2_with fail; refine (form_Del _).mono ?_; rintro e u5 ⟨F5, nf5, cf5, fs5, rfl, hf5, hfs5, hnf5, kf5⟩; have P5 : Below wr.heap.size wr u5 := kp_trans Q4 kf5; have HST5 := hid (strs_ok (some ad) F5 (j' + 1) nf5 e cf5 mj fs5 u5 (HM3.out _ P5) hf5 hj200 (by omega)); unfold StrsTo at HST5; go_wp2_with fail; refine HST5.out.mono ?_; rintro e' v5 ⟨S5, ns5, cs5, ss5, b5, rfl, hb5, hyes5, kv5⟩; have Q5 := kp_trans P5 kv5; rw [hfs5] at hb5; clear HST5 hf5 hfs5 kf5
           cases b5 with
           | true =>
             obtain ⟨hxr, hss⟩ := hyes5 rfl; have hfe := of_decide_eq_true hb5.symm; obtain ⟨x, rfl⟩ := one_of (strs_form hfe hss); have hR : Hid (doing 5 x ⟨#[]⟩ = R) := hid (by rw [HP2.out, planF, ← hss, hfe]; rfl); obtain ⟨sd, rfl, hsd, g0⟩ := hxr.at_ (j := 0) (by simp); rw [show sd.add 0 = sd from rfl, List.getElem_cons_zero] at g0; obtain rfl : ns5 = 1 := hxr.len.symm; obtain ⟨d0, d1, d2, f0, f1, f2⟩ := cells3f (HB3.out v5 Q5); have KW := kp_trans K3 Q5; clear hss hfe hb5 hyes5 hxr; go_wp2_with fail; refine bodyPost_ret (v := planV 5 x ⟨#[]⟩) ?_ rfl ⟨5, x, ⟨#[]⟩, rfl, hR.out, ((KW.setCell (Nat.le_refl _) _).setCell (Nat.le_refl _) _).setCell (Nat.le_refl _) _⟩
             · rw [results_cell1 rfl]; unfold planV; go_simp
           | false =>
           have hno5 : Hid (¬ (saysT mj).map emptyF = fDel) := hid (of_decide_eq_false hb5.symm); clear hb5 hyes5; obtain ⟨d0, d1, d2, f0, f1, f2⟩ := cells3f (HB3.out v5 Q5); have KW := kp_trans K3 Q5
           have hR : Hid (doing 0 ⟨#[]⟩ ⟨#[]⟩ = R) := hid (by
            rw [HP2.out, planF]; unfold pickF; rw [if_neg hno1.out, if_neg hno2.out, if_neg hno3.out, if_neg hno4.out, if_neg hno5.out]
            rfl)
           go_wp2_with fail; refine bodyPost_ret (v := planV 0 ⟨#[]⟩ ⟨#[]⟩) ?_ rfl ⟨0, ⟨#[]⟩, ⟨#[]⟩, rfl, hR.out, ((KW.setCell (Nat.le_refl _) _).setCell (Nat.le_refl _) _).setCell (Nat.le_refl _) _⟩; rw [results_cell1 rfl]; unfold planV; go_simp
end
end Go.Proofs.YtdhnpmagapbmhaaGreatDoor
