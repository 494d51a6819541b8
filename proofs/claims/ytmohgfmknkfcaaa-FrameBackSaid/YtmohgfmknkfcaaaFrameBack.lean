/-
  FrameBack answers true for every input: frames come back from their bytes, one behind the other, whatever stands behind, and never more than 302 bytes are kept. No condition.
-/
import Derived.Test.YtmohgfmknkfcaaaAwake2
import Derived.Test.YtmohgfmknkfcaaaFrameI
import Derived.Test.YtmohgfmknkfcaaaFrameM
import Derived.Test.YtmohgfmknkfcaaaOpenF
namespace Go.Proofs.Ytmohgfmknkfcaaa
open Go.RowKit

theorem wires_next (rs : List Rep) (k : Nat) (h : k < rs.length) : wires (says (rs.take (k + 1))) = wires (says (rs.take k)) ++ (be 2 (rs[k].p.bs.length + 1) ++ (rs[k].k :: rs[k].p.bs)) := by
  rw [says_next rs k h]
  simp [wires, Rep.says]
theorem wires_len : ∀ (fs : List (UInt8 × List UInt8)), (∀ f ∈ fs, f.2.length ≤ 300) → (wires fs).length ≤ 303 * fs.length
  | [], _ => by simp [wires]
  | f :: r, h => by
    have h1 := wires_len r fun g hg => h g (by simp [hg])
    have h2 := h f (by simp)
    have e : wires (f :: r) = (be 2 (f.2.length + 1) ++ (f.1 :: f.2)) ++ wires r := by simp [wires]
    rw [e]
    simp only [List.length_append, be_length, List.length_cons]
    omega

set_option maxRecDepth 100000 in
set_option maxHeartbeats 4000000 in
theorem frameBack_walk (A : Option Addr) (n c : Nat) (rs : List Rep) (Am : Option Addr) (lm cm : Nat) (more : List UInt8) (w : World) (hf : FR w A n rs) (hcs : ∀ r ∈ rs, r.p.c ≤ 140737488351232) (hr : Sl w w.heap.size Am lm cm more) (hn : n ≤ 6) (hm : lm ≤ 2000) :
    Calls Try.prog 6 #[.slice A n c, .slice Am lm cm] w fun e w' => e = .returned (.bool true) ∧ Below w.heap.size w w' := by
  obtain ⟨j0, hj, hy0, hy1, hy2⟩ := info_parts u8info
  have d1 : decide ((6 : Int) < (n : Int)) = false := by simp; omega
  have d2 : decide ((2000 : Int) < (lm : Int)) = false := by simp; omega
  have HLEN := Lib.hid hf.len
  have HCS := Lib.hid hcs
  have HML := Lib.hid hr.len
  clear hcs
  go_enter Try.func6, Try.ntmps6
  go_wp2_with fail
  refine (awake2 w).mono ?_
  rintro e w1 ⟨rfl, k1⟩
  go_wp2_with fail
  go_loopw [5, 28] (fun v5 v28 wr => ∃ (q L : Nat) (A5 : Option Addr) (c5 : Nat), v28 = .int .i64 q ∧ v5 = .slice A5 L c5 ∧ q ≤ n ∧ L ≤ 303 * q ∧ Hid (∀ r ∈ rs.take q, r.k ≠ 0 ∧ r.p.bs.length ≤ 300) ∧ Ow wr w.heap.size A5 L c5 (wires (says (rs.take q))) ∧ Below w.heap.size w wr) (fun _ v28 _ => n - (intOf v28).toNat)
  case atStart => exact ⟨0, 0, none, 0, rfl, rfl, Nat.zero_le _, by omega, Lib.hid (fun r hr => by simp at hr), Ow.nil _ _, k1⟩
  case round =>
    obtain ⟨q, L, A5, c5, rfl, rfl, hq, hL, HOK, ho5, kr⟩ := hrel
    by_cases hlt : q < n
    · have hql : q < rs.length := by rw [HLEN.out]; exact hlt
      obtain ⟨ad, rfl, hbl, hcells⟩ := hf.rd.addr (by rw [repCells_length]; omega)
      have hc0 : wr.cell? (ad.add (q * 2)) = some (.int .u8 (rs[q].k.toNat : Int)) := by
        rw [kr.cell (by rw [add_block]; exact hbl)]; exact hcells _ _ (repCells_at rs q hql).1
      have hc1 : wr.cell? ⟨(ad.add (q * 2)).block, (ad.add (q * 2)).off + 1, none⟩ = some (.slice rs[q].p.A rs[q].p.l rs[q].p.c) := by
        have e1 : (⟨(ad.add (q * 2)).block, (ad.add (q * 2)).off + 1, none⟩ : Addr) = ad.add (q * 2 + 1) := by rw [← add_add]; rfl
        rw [e1, kr.cell (by rw [add_block]; exact hbl)]; exact hcells _ _ (repCells_at rs q hql).2
      have hbody := (hf.body _ (List.getElem_mem hql)).next kr
      have hcap := HCS.out _ (List.getElem_mem hql)
      have HW := Lib.hid (wires_next rs q hql)
      have HTK : Hid (rs[q].k ≠ 0 → rs[q].p.bs.length ≤ 300 → ∀ r ∈ rs.take (q + 1), r.k ≠ 0 ∧ r.p.bs.length ≤ 300) := Lib.hid fun h1 h2 r hr => by
        rw [List.take_succ_eq_append_getElem hql] at hr
        rcases List.mem_append.1 hr with h | h
        · exact HOK.out r h
        · simp at h; subst h; exact ⟨h1, h2⟩
      generalize rs[q].k = k at *
      generalize rs[q].p.A = Ab at *
      generalize rs[q].p.l = lb at *
      generalize rs[q].p.c = cb at *
      generalize rs[q].p.bs = bb at *
      clear hcells
      have hlb := hbody.cap
      have HBB := Lib.hid hbody.len
      generalize hw2 : wr.alloc (.cells #[.int .u8 (k.toNat : Int), .slice Ab lb cb] 24) = w2
      have k2 : Below wr.heap.size wr w2 := by rw [← hw2]; exact kp_new _ _
      have b2 : w2.heap[wr.heap.size]? = some (.cells #[.int .u8 (k.toNat : Int), .slice Ab lb cb] 24 (0, 0)) := by rw [← hw2]; exact heap_alloc_new _ _
      have z2 : wr.heap.size < w2.heap.size := (Array.getElem?_eq_some_iff.1 b2).1
      obtain ⟨x0, x1, _, _⟩ := two_cells b2
      have HW2 := Lib.hid hw2
      have B2 := Lib.hid b2
      clear hw2 b2
      have hY := bytes_any k Ab bb lb cb w2 (hbody.next k2)
      unfold AnsY frV bytesF at hY
      by_cases h0 : k = 0
      · rw [if_pos h0] at hY
        have hkk : ((k.toNat : Int) == 0) = true := by rw [h0]; rfl
        have HY := Lib.hid hY
        clear hY h0
        go_wp2_with fail
        rw [HW2.out]
        go_wp2_with fail
        refine HY.out.mono ?_
        rintro e w3 ⟨A3, l3, c3, rfl, ho3, k3⟩
        obtain ⟨y0, y1, _, _⟩ := two_cells ((k3.block _ z2).trans B2.out)
        clear x0 x1
        go_wp2_with fail
        go_ret
        exact ⟨rfl, kp_trans (kp_trans kr k2) k3⟩
      rw [if_neg h0] at hY
      have hkk := kind_zero h0
      by_cases h1 : 300 < bb.length
      · rw [if_pos h1] at hY
        have HY := Lib.hid hY
        have e1 : decide ((300 : Int) < (lb : Int)) = true := by rw [HBB.out] at h1; simp; omega
        clear hY
        go_wp2_with fail
        rw [HW2.out]
        go_wp2_with fail
        refine HY.out.mono ?_
        rintro e w3 ⟨A3, l3, c3, rfl, ho3, k3⟩
        obtain ⟨y0, y1, _, _⟩ := two_cells ((k3.block _ z2).trans B2.out)
        clear x0 x1
        go_wp2_with fail
        go_ret
        exact ⟨rfl, kp_trans (kp_trans kr k2) k3⟩
      rw [if_neg h1] at hY
      have hTK := HTK.out h0 (by omega)
      have hback := readF_back k bb more h0 (by omega)
      have hwl : (be 2 (bb.length + 1) ++ (k :: bb)).length = 3 + bb.length := by simp only [List.length_append, be_length, List.length_cons]; omega
      generalize hwire : be 2 (bb.length + 1) ++ (k :: bb) = wire at *
      have hbl2 : bb.length ≤ 300 := by omega
      have HY := Lib.hid hY
      have HTK2 := Lib.hid hTK
      have HBK := Lib.hid hback
      have HWL := Lib.hid hwl
      clear hY hTK hback hwl hwire HTK h1
      go_wp2_with fail
      rw [HW2.out]
      go_wp2_with fail
      refine HY.out.mono ?_
      rintro e w3 ⟨A3, l3, c3, rfl, ho3, k3⟩
      have kw3 := kp_trans (kp_trans kr k2) k3
      have hl3 : 3 + bb.length = l3 := by rw [← HWL.out]; exact ho3.len
      have hl3' : l3 ≤ 303 := by omega
      have HL3 := Lib.hid hl3
      clear hl3
      have z3 : wr.heap.size < w3.heap.size := by have := k3.size; omega
      have hB3 := Lib.hid ((k3.block _ z2).trans B2.out)
      clear x0 x1
      have k4 := kp_new w3 (.cells #[] 5)
      have ho4 : Ow (w3.alloc (.cells #[] 5)) w3.heap.size (some ⟨w3.heap.size, 0, none⟩) 0 0 [] := Ow.new w3 w3.heap.size (Nat.le_refl _) [] (by simp)
      have ho34 := ho3.next k4
      have HO3 := Lib.hid ho3.len
      go_wp2_with (at_builtin; first
        | (refine wpList_append_rd rfl (.tmp 49) (.tmp 50) _ rfl w3.heap.size 5 j0 _ 1 Try.underlying22 hj hy0 hy1 hy2 rfl _ 0 _ rfl ho4.own _ _ _ _ (bvs wire) rfl (by rw [bvs_length]; exact HO3.out) ho34.sl.rd (bvs_one _) (by unfold maxLen; omega) (by omega) (by simp) ?_; intro v6 w6 hown6 hg6; rw [← bvs_append, List.nil_append, Nat.zero_add] at hown6; obtain ⟨A6, c6, rfl, ho6⟩ := Ow.mk' hown6; have k6 := k4.trans (below_own ho4.own hg6 (by simp)); have hr6 := hr.next (kp_trans kw3 k6))
        | (refine wpList_append_rd rfl (.tmp 51) (.tmp 52) _ rfl w3.heap.size 5 j0 _ 1 Try.underlying22 hj hy0 hy1 hy2 rfl _ l3 _ rfl ho6.own _ _ _ _ (bvs more) rfl (by rw [bvs_length]; exact HML.out) hr6.rd (bvs_one _) (by unfold maxLen; omega) (by omega) k6.size ?_; intro v7 w7 hown7 hg7; rw [← bvs_append] at hown7; obtain ⟨A7, c7, rfl, ho7⟩ := Ow.mk' hown7; have k7 := k6.trans (below_own ho6.own hg7 k6.size)))
      have hread := read_any A7 (wire ++ more) (l3 + lm) c7 w7 ho7.sl (by omega)
      rw [HBK.out, HL3.out] at hread
      unfold AnsF frV at hread
      refine hread.mono ?_
      clear hread
      rintro e w8 ⟨A8, l8, c8, rfl, ho8, k8⟩
      simp only at ho8
      have k38 := kp_trans k7 k8
      have z8 : wr.heap.size < w8.heap.size := by have := k38.size; omega
      have hB8 := (k38.block _ z3).trans hB3.out
      generalize hw9 : w8.alloc (.cells #[.int .u8 (k.toNat : Int), .slice A8 l8 c8] 24) = w9
      have k9 : Below w8.heap.size w8 w9 := by rw [← hw9]; exact kp_new _ _
      obtain ⟨q0, q1, _, _⟩ := two_cells hB8
      have HW9 := Lib.hid hw9
      clear hw9 hB8
      have k39 := kp_trans k38 k9
      have hb9 := hbody.next (kp_trans (kp_trans k2 k3) k39)
      have ho89 := ho8.next k9
      have ho59 := ho5.next (kp_trans (kp_trans k2 k3) k39)
      have hw39 := ho3.next k39
      go_wp2_with fail
      rw [HW9.out]
      have hsame := fsame_any k k A8 Ab bb bb l8 c8 lb cb w9 ho89.sl hb9 true (Lib.hid (by simp))
      unfold frV at hsame
      refine hsame.mono ?_
      clear hsame
      rintro e wa ⟨rfl, ka⟩
      have kwa := kp_trans (kp_trans kw3 k39) ka
      have ho5a := ho59.next ka
      have hw3a := hw39.next ka
      clear q0 q1
      go_wp2_with (at_builtin; refine wpList_append_rd rfl (.tmp 72) (.tmp 73) _ rfl w.heap.size 5 j0 _ 1 Try.underlying22 hj hy0 hy1 hy2 rfl _ L _ rfl ho5a.own _ _ _ _ (bvs wire) rfl (by rw [bvs_length]; exact HO3.out) hw3a.sl.rd (bvs_one _) (by unfold maxLen; omega) (by omega) kwa.size ?_; intro vb wb hownb hgb; rw [← bvs_append] at hownb; obtain ⟨Abb, cbb, rfl, hob⟩ := Ow.mk' hownb; have kb := kwa.trans (below_own ho5a.own hgb kwa.size))
      go_roundw
      case rel => exact ⟨q + 1, L + l3, Abb, cbb, by go_num, rfl, by omega, by omega, HTK2, by rw [HW.out]; exact hob, kb⟩
      case measure => simp [intOf]; omega
    · obtain rfl : q = n := by omega
      have htk : rs.take q = rs := List.take_of_length_le (by rw [HLEN.out]; exact Nat.le_refl _)
      rw [htk] at ho5
      have hok := HOK.out
      rw [htk] at hok
      have hall := allF_back (says rs) (fun f hf => by
        obtain ⟨r, hr, rfl⟩ := List.mem_map.1 hf
        exact hok r hr)
      have hbig : ∀ r ∈ rs, r.p.bs.length ≤ 1000000 := fun r hr => by have := (hok r hr).2; omega
      have HB := Lib.hid hbig
      have hmore := allF_rest more
      have e1 : feedF [] 0 (wires (says rs)) = (says rs, [], 0) := by rw [feedF, if_pos rfl, List.nil_append, hall]
      have e2 : feedF [] 0 more = allF more := by rw [feedF, if_pos rfl, List.nil_append]
      have E1 := Lib.hid e1
      have E2 := Lib.hid e2
      have hm302 : ((allF more).2.1.length : Int) ≤ 302 := by have := hmore.1; omega
      clear htk hok hall hbig hmore HOK e1 e2
      go_wp2_with fail
      refine (new_any wr (wr.heap.size + 1)).mono ?_
      rintro e w2 ⟨rfl, hd2, hz2, k2⟩
      have hsb := kr.size
      have ho52 := ho5.next k2
      have kw2 := kp_trans kr k2
      generalize hbb : wr.heap.size = b at *
      have z2 : b + 1 ≤ w2.heap.size := by omega
      clear hbb hz2
      have hfeed := feed_any w2 b (b + 1) [] _ 0 hd2 z2 A5 L c5 ho52.sl (by simp; omega)
      rw [E1.out] at hfeed
      unfold FeedsTo at hfeed
      have HF := Lib.hid hfeed
      clear hfeed
      go_wp2_with fail
      refine HF.out.mono ?_
      rintro e w3 ⟨A3, n3, c3, rs3, rfl, hs3, hf3, hn3, hd3, hb3⟩
      have z3 : b + 1 ≤ w3.heap.size := by have := hb3.size; omega
      have kw3 : Below w.heap.size w w3 := kw2.trans (hb3.below hsb (by omega))
      (try simp only at hs3 hd3)
      have hn3' : n3 = q := by
        rw [← hf3.len, ← HLEN.out]
        have := congrArg List.length hs3
        simpa [says] using this
      have hn3'' : n3 ≤ 6 := by omega
      have HS3 := Lib.hid hs3
      clear hs3 hn3'
      go_wp2_with fail
      refine (pending_any _ b (b + 1) [] 0 hd3).mono ?_
      rintro e w' ⟨rfl, rfl⟩
      go_wp2_with fail
      refine (frames_any _ _ _ rs3 _ hf3.fr (by omega)).mono ?_
      rintro e wa ⟨Aa, ca, rfl, hfa, ka⟩
      have hfl := hf.next (kp_trans kw3 ka)
      go_wp2_with fail
      refine (frames_any _ _ _ rs _ hfl (by omega)).mono ?_
      rintro e wb ⟨Ab, cb, rfl, hfb, kb⟩
      have hrs3 : ∀ r ∈ rs3, r.p.bs.length ≤ 1000000 := fun r hr => by
        have h1 : r.says ∈ says rs := by rw [← HS3.out]; exact List.mem_map.2 ⟨r, hr, rfl⟩
        obtain ⟨r', hr', e'⟩ := List.mem_map.1 h1
        have h2 := HB.out r' hr'
        simp only [Rep.says, Prod.mk.injEq] at e'
        rw [← e'.2]
        exact h2
      go_wp2_with fail
      refine (rsame_kp _ _ rs3 rs _ _ _ _ _ (hfa.next kb) hfb (by omega) hrs3 true (Lib.hid (by rw [HS3.out]; simp))).mono ?_
      rintro e wc ⟨rfl, kc⟩
      have k3c := kp_trans (kp_trans ka kb) kc
      have zc : b + 1 ≤ wc.heap.size := by have := k3c.size; omega
      have kwc := kp_trans kw3 k3c
      have hfeed := feed_any wc b (b + 1) [] more 0 (hd3.next k3c) zc Am lm cm (hr.next kwc) (by simp; omega)
      rw [E2.out] at hfeed
      unfold FeedsTo at hfeed
      have HF2 := Lib.hid hfeed
      clear hfeed
      go_wp2_with fail
      refine HF2.out.mono ?_
      rintro e wd ⟨Ad, nd, cd, rsd, rfl, hsd, hfd, hnd, hdd, hbd⟩
      clear hsd
      go_wp2_with fail
      refine (pending_any _ b (b + 1) _ _ hdd).mono ?_
      rintro e w' ⟨rfl, rfl⟩
      go_wp2_with fail
      go_ret
      exact ⟨by simp, kwc.trans (hbd.below hsb (by omega))⟩

theorem frameBack_any (A : Option Addr) (n c : Nat) (rs : List Rep) (Am : Option Addr) (lm cm : Nat) (more : List UInt8) (w : World) (hf : FR w A n rs) (hcs : ∀ r ∈ rs, r.p.c ≤ 140737488351232) (_ : n ≤ c) (_ : c * 32 ≤ 140737488351232) (hr : Sl w w.heap.size Am lm cm more) (_ : cm ≤ 140737488351232) :
    Calls Try.prog 6 #[.slice A n c, .slice Am lm cm] w fun e w' => e = .returned (.bool true) ∧ Below w.heap.size w w' := by
  have hlc := hr.cap
  by_cases hn : n ≤ 6
  · by_cases hm : lm ≤ 2000
    · exact frameBack_walk A n c rs Am lm cm more w hf hcs hr hn hm
    · have d1 : decide ((6 : Int) < (n : Int)) = false := by simp; omega
      have d2 : decide ((2000 : Int) < (lm : Int)) = true := by simp; omega
      clear hf hcs hr
      go_enter Try.func6, Try.ntmps6
      go_wp2_with fail
      refine (awake2 w).mono ?_
      rintro e w1 ⟨rfl, k1⟩
      go_wp2_with fail
      go_ret
      exact ⟨rfl, k1⟩
  · have d1 : decide ((6 : Int) < (n : Int)) = true := by simp; omega
    clear hf hcs hr
    go_enter Try.func6, Try.ntmps6
    go_wp2_with fail
    refine (awake2 w).mono ?_
    rintro e w1 ⟨rfl, k1⟩
    go_wp2_with fail
    go_ret
    exact ⟨rfl, k1⟩

namespace FrameBack
open Go.ChangeShapes Go.WideShapes Go.ChangeAt
open Go.ChangeMaps (open_string)

theorem contract (H : Type) (enc : TypeId × Value → H) (W : World) (base : Nat) (args : Array Value) (ds gs : List (DataW H)) (before : List MemPlace)
    (hval : ∀ (j : Nat) t v, Try.f6.params[j]? = some t → args[j]? = some v → Value.okWide Try.prog W .any base t v)
    (hW : DataW.Whole enc Try.prog Try.f6.params.toList Rows.frameBackSpec.vars false W args.toList ds gs before)
    (hsz0 : (DataW.weightsEach Try.prog (Try.f6.params.toList ++ Rows.frameBackSpec.plain.varTypes Try.prog) (ds ++ gs)).all (· ≤ reachBytes) = true) :
    Calls Try.prog 6 args W fun e W' => ∃ v, e = .returned v ∧ Rows.frameBackSpec.post enc Try.prog Try.f6 false true false false W args v W' := by
  have hW' := hW
  obtain ⟨p, q, hA0, hV, rfl, _, _⟩ := hW
  have hA : DataW.TrodAll enc Try.prog W 0 (fun _ => true) true Try.f6.params.toList args.toList ds p := hA0
  have hsz : (DataW.weightsEach Try.prog (Try.f6.params.toList ++ Rows.frameBackSpec.plain.varTypes Try.prog) (ds ++ gs)).all (· ≤ reachBytes) = true := hsz0
  clear hsz0
  rw [Try.params6] at hA hval hsz
  obtain ⟨v0, vs0, d0, ds0, p0, q0, hargs, rfl, rfl, h0, t0⟩ := trodAll_cons hA
  obtain ⟨v1, vs1, d1, ds1, p1, q1, rfl, rfl, rfl, h1, t1⟩ := trodAll_cons t0
  obtain ⟨rfl, rfl, rfl⟩ := trodAll_nil t1
  obtain rfl : args = #[v0, v1] := by cases args; simp_all
  obtain ⟨rfl, rfl⟩ := trodVars_none hV
  obtain ⟨A0, l0, c0, rs0, rfl, r0, m0, q0, g0⟩ := open_frames (hval 0 44 v0 rfl rfl) h0 (light_of hsz (j := 0) rfl rfl)
  obtain ⟨A1, l1, c1, bs1, rfl, r1, g1⟩ := open_bytes_w Try.underlying22 Try.underlying5 (by kernel_rfl) (by kernel_rfl) (hval 1 22 v1 rfl rfl) h1 (light_of hsz (j := 1) rfl rfl)
  refine (frameBack_any A0 l0 c0 rs0 A1 l1 c1 bs1 W r0 m0 q0 g0 r1 g1).mono fun e W' ⟨he, hb⟩ => ⟨_, he, ?_⟩
  exact law_post laid0 (by rw [Try.params6]; decide +kernel) rfl (by kernel_rfl) Try.underlying4 hW' rfl hb

set_option maxRecDepth 100000 in
theorem lifted (os : Os) (started : os.Started) (H : Type) (enc : TypeId × Value → H) :
    ReturnsInHanded {} Try.checked os 6 .any (Rows.frameBackSpec.pre6 enc Try.prog Try.f6 Rows.frameBackRow.domain false) (Rows.frameBackSpec.post enc Try.prog Try.f6 false true false false) := by
  refine returnsInHanded_of_change_sized (C := Try.checked) own0 started (by kernel_rfl) Try.func6
    (ChangeSpec.witness6 (enc := enc) (C := Try.checked) false ⟨#[], #[.slice none 0 0, .slice none 0 0], []⟩ 8 (by kernel_rfl) (by kernel_rfl) (by kernel_rfl) (by kernel_rfl)) ?_
  intro W base args ds gs before hval hW _ hsz _
  exact contract H enc W base args ds gs before hval hW hsz

theorem proved : Rows.FrameBackSaid :=
  OpenClaim.holds_of_wide 6 Try.f6 rfl rfl rfl rfl rfl rfl rfl ⟨rfl, rfl, rfl, rfl, rfl⟩ rfl rfl rfl rfl rfl (by kernel_rfl) Try.func6 (by kernel_rfl)
    (of_decide_eq_true (by kernel_rfl)) (by unfold Func.isWrapper; first | (rw [if_pos (by decide +kernel)]; kernel_rfl) | (rw [if_neg (by decide +kernel)]; exact ⟨rfl, rfl⟩))
    (fun os started H enc _ => lifted os started H enc)
end FrameBack
end Go.Proofs.Ytmohgfmknkfcaaa
