/-
  FrameFeeds answers true for every input: feed by feed, the frames that are told, the error, and how many bytes are kept, are as the document's own All says. No condition.
-/
import Derived.Test.YtmohgfmknkfcaaaAwake2
import Derived.Test.YtmohgfmknkfcaaaFrameI
import Derived.Test.YtmohgfmknkfcaaaFrameM
import Derived.Test.YtmohgfmknkfcaaaOpenP
namespace Go.Proofs.Ytmohgfmknkfcaaa
open Go.RowKit

theorem fed_facts {rs : List Rep} {bs : List UInt8} (h : says rs = (allF bs).1) : rs.length ≤ bs.length ∧ ∀ r ∈ rs, r.p.bs.length ≤ 1000000 := by
  obtain ⟨_, _, h3, h4, _⟩ := allF_rest bs
  rw [← h] at h3 h4
  refine ⟨by simpa [says] using h3, fun r hr => ?_⟩
  have := h4 r.says (List.mem_map.2 ⟨r, hr, rfl⟩)
  simp only [Rep.says] at this
  omega

set_option maxRecDepth 100000 in
set_option maxHeartbeats 4000000 in
theorem frameFeeds_walk (A : Option Addr) (n c : Nat) (ps : List Part) (w : World) (hlen : ps.length = n) (hrd : Rd w w.heap.size A (ps.map fun p => Value.slice p.A p.l p.c)) (hps : ∀ p ∈ ps, Sl w w.heap.size p.A p.l p.c p.bs ∧ p.c ≤ 140737488351232) (hn : n ≤ 40) :
    Calls Try.prog 4 #[.slice A n c] w fun e w' => e = .returned (.bool true) ∧ Below w.heap.size w w' := by
  obtain ⟨j0, hj, hy0, hy1, hy2⟩ := info_parts u8info
  have d1 : decide ((40 : Int) < (n : Int)) = false := by simp; omega
  have HLEN := Lib.hid hlen
  have HPS := Lib.hid hps
  clear hlen hps
  go_enter Try.func4, Try.ntmps4
  go_wp2_with fail
  refine (awake2 w).mono ?_
  rintro e w1 ⟨rfl, k1⟩
  go_wp2_with fail
  refine (new_any w1 (w1.heap.size + 1)).mono ?_
  rintro e w2 ⟨rfl, hd2, hz2, kb2⟩
  have hsb := k1.size
  generalize hbb : w1.heap.size = b at *
  have z2 : b + 1 ≤ w2.heap.size := by omega
  have k2 : Below w.heap.size w w2 := k1.trans (kb2.mono (by omega))
  clear hbb hz2 kb2 k1
  go_wp2_with fail
  go_loopw [4, 5, 6, 20] (fun v4 v5 v6 v20 wr => ∃ (q z : Nat) (x : Int) (kept : List UInt8) (A4 : Option Addr) (l4 c4 : Nat), v20 = .int .i64 q ∧ v6 = .int .i64 z ∧ v5 = .int .i64 x ∧ v4 = .slice A4 l4 c4 ∧ q ≤ n ∧ z ≤ 2000 ∧ kept.length ≤ z ∧ (x ≠ 0 → kept = []) ∧ Ow wr (b + 1) A4 l4 c4 kept ∧ Dec wr b (b + 1) kept x ∧ b + 1 ≤ wr.heap.size ∧ Below w.heap.size w wr) (fun _ _ _ v20 _ => n - (intOf v20).toNat)
  case atStart => exact ⟨0, 0, 0, [], none, 0, 0, rfl, rfl, rfl, rfl, Nat.zero_le _, by omega, by simp, fun _ => rfl, Ow.nil _ _, hd2, z2, k2⟩
  case round =>
    obtain ⟨q, z, x, kept, A4, l4, c4, rfl, rfl, rfl, rfl, hq, hz, hkz, hx0, ho4, hd, zr, kr⟩ := hrel
    by_cases hlt : q < n
    · have hql : q < ps.length := by rw [HLEN.out]; exact hlt
      obtain ⟨ad, rfl, hbl, hcell⟩ := hrd.at_ (k := q) (by simpa using hql)
      have hcell1 : wr.cell? (ad.add q) = some (.slice ps[q].A ps[q].l ps[q].c) := by
        rw [kr.cell (by rw [add_block]; exact hbl), hcell]; simp
      obtain ⟨hsp, hcp⟩ := HPS.out _ (List.getElem_mem hql)
      have hlp := hsp.cap
      have hlb := hsp.len
      generalize ps[q].A = Ap at *
      generalize ps[q].l = lp at *
      generalize ps[q].c = cp at *
      generalize ps[q].bs = bp at *
      clear hcell
      by_cases hbig : 2000 < z + lp
      · go_wp2_with fail
        go_ret
        exact ⟨rfl, kr⟩
      · have hl4 := ho4.len
        have hfeed := feed_any wr b (b + 1) kept bp x hd zr Ap lp cp (hsp.next kr) (by omega)
        unfold FeedsTo at hfeed
        by_cases hx : x = 0
        · subst hx
          have e1 : feedF kept 0 bp = allF (kept ++ bp) := by rw [feedF, if_pos rfl]
          rw [e1] at hfeed
          have hall := rall_any
          have hfacts : ∀ rs : List Rep, says rs = (allF (kept ++ bp)).1 → rs.length ≤ (kept ++ bp).length ∧ ∀ r ∈ rs, r.p.bs.length ≤ 1000000 := fun rs h => fed_facts h
          obtain ⟨r1, r2, _, _, r5⟩ := allF_rest (kept ++ bp)
          have hLen : (kept ++ bp).length = l4 + lp := by rw [List.length_append, hl4, hlb]
          rw [hLen] at r2 hfacts
          have hkl : l4 ≤ z := by omega
          have hall : ∀ (w : World) (A : Option Addr) (c : Nat), Sl w w.heap.size A (l4 + lp) c (kept ++ bp) → AllTo #[.slice A (l4 + lp) c] w (l4 + lp) (allF (kept ++ bp)) := fun w A c h => rall_any w _ A _ c h (by omega)
          generalize allF (kept ++ bp) = R at *
          obtain ⟨f1, f2, f3⟩ := R
          simp only at hfeed r1 r2 r5 hfacts
          have HALL := Lib.hid hall
          have HFA := Lib.hid hfacts
          have HF := Lib.hid hfeed
          have H4 := Lib.hid hl4
          have HR5 := Lib.hid r5
          have hR2 : f2.length ≤ l4 + lp := r2
          clear hall hfacts hfeed e1 hLen hl4 hlb r1 r2 r5 hx0 hkz
          go_wp2_with fail
          refine HF.out.mono ?_
          rintro e w3 ⟨A3, n3, c3, rs3, rfl, hs3, hf3, hn3, hd3, hb3⟩
          have kw3 : Below w.heap.size w w3 := kr.trans (hb3.below hsb (by omega))
          have z3 : b + 1 ≤ w3.heap.size := by have := hb3.size; omega
          have ho43 := ho4.bel hb3 (by omega)
          obtain ⟨hr3, hl3⟩ := HFA.out _ hs3
          rw [hf3.len] at hr3
          have HL3 := Lib.hid hl3
          have HS3 := Lib.hid hs3
          clear hl3 hs3
          have k4 := kp_new w3 (.cells #[] 30)
          have ho44 := ho43.next k4
          have hsp4 := (hsp.next kw3).next k4
          have hf4 := hf3.next k4
          have hd4 := hd3.next k4
          have kw4 := kp_trans kw3 k4
          have hz4 : w3.heap.size + 1 = (w3.alloc (.cells #[] 30)).heap.size := by simp
          generalize hw4 : w3.alloc (.cells #[] 30) = w4 at *
          have HW4 := Lib.hid hw4
          have HZ4 := Lib.hid hz4
          have z4 : b + 1 ≤ w4.heap.size := by omega
          clear hw4 hz4 k4 ho43 hf3 hd3
          have k5 := kp_new w4 (.cells #[] 5)
          have ho5 : Ow (w4.alloc (.cells #[] 5)) w4.heap.size (some ⟨w4.heap.size, 0, none⟩) 0 0 [] := Ow.new w4 w4.heap.size (Nat.le_refl _) [] (by simp)
          have ho45 := ho44.next k5
          have hsp5 := hsp4.next k5
          go_wp2_with (at_builtin; (try rw [HW4.out]); (try rw [HZ4.out]); first
            | (refine wpList_append_rd rfl (.tmp 40) (.tmp 41) _ rfl w4.heap.size 5 j0 _ 1 Try.underlying22 hj hy0 hy1 hy2 rfl _ 0 _ rfl ho5.own _ _ _ _ (bvs kept) rfl (by rw [bvs_length]; exact H4.out) ho45.sl.rd (bvs_one _) (by unfold maxLen; omega) (by omega) (by simp) ?_; intro v6 w6 hown6 hg6; rw [← bvs_append, List.nil_append, Nat.zero_add] at hown6; obtain ⟨A6, c6, rfl, ho6⟩ := Ow.mk' hown6; have k6 := k5.trans (below_own ho5.own hg6 (by simp)); have hsp6 := hsp4.next k6)
            | (refine wpList_append_rd rfl (.tmp 42) (.tmp 43) _ rfl w4.heap.size 5 j0 _ 1 Try.underlying22 hj hy0 hy1 hy2 rfl _ l4 _ rfl ho6.own _ _ _ _ (bvs bp) rfl (by rw [bvs_length]; exact hsp.len) hsp6.rd (bvs_one _) (by unfold maxLen; omega) (by omega) k6.size ?_; intro v7 w7 hown7 hg7; rw [← bvs_append] at hown7; obtain ⟨A7, c7, rfl, ho7⟩ := Ow.mk' hown7; have k7 := k6.trans (below_own ho6.own hg7 k6.size)))
          refine Calls.mono (HALL.out w7 A7 c7 ho7.sl) ?_
          rintro e w8 ⟨A8, n8, c8, rs8, A9, l9, c9, rfl, hs8, hf8, hn8, ho9, kb8⟩
          have k8 := kp_trans k7 kb8
          have hfr := (hf4.next k8).fr
          have z8 : b + 1 ≤ w8.heap.size := by have := k8.size; omega
          have hd8 := hd4.next k8
          have H9 := Lib.hid ho9.len
          simp only at hs8
          have HS8 := Lib.hid hs8
          clear hs8
          go_wp2_with fail
          refine (frames_any _ _ _ rs3 _ hfr (by omega)).mono ?_
          rintro e wa ⟨Aa, ca, rfl, hfa, ka⟩
          go_wp2_with fail
          refine (rsame_kp _ _ rs3 rs8 _ _ _ _ _ hfa (hf8.next ka) (by omega) HL3.out true (Lib.hid (by rw [HS3.out, HS8.out]; simp))).mono ?_
          rintro e wb ⟨rfl, kb⟩
          have kab := kp_trans ka kb
          go_wp2_with fail
          refine (pending_any _ b (b + 1) f2 f3 (hd8.next kab)).mono ?_
          rintro e w' ⟨rfl, rfl⟩
          have e9 : ((f2.length : Int) != (l9 : Int)) = false := by rw [H9.out]; simp
          go_wp2_with fail
          go_roundw
          case rel =>
            refine ⟨q + 1, z + lp, f3, f2, A9, l9, c9, by go_num, by go_num, rfl, rfl, by omega, by omega, by omega, HR5.out, ?_, hd8.next kab, ?_, ?_⟩
            · exact (ho9.base (by have := k7.size; omega)).next kab
            · have := kab.size; omega
            · exact kp_trans (kp_trans kw4 k8) kab
          case measure => simp [intOf]; omega
        · have e1 : feedF kept x bp = ([], kept, x) := by rw [feedF, if_neg hx]
          rw [e1] at hfeed
          obtain rfl := hx0 hx
          have ex : (x == 0) = false := by simpa using hx
          have HF := Lib.hid hfeed
          have HX := Lib.hid hx
          have H4 := Lib.hid hl4
          clear hfeed e1 hx hx0 hl4
          go_wp2_with fail
          refine HF.out.mono ?_
          rintro e w3 ⟨A3, n3, c3, rs3, rfl, hs3, hf3, hn3, hd3, hb3⟩
          obtain rfl := says_none hs3
          obtain rfl : 0 = n3 := hf3.len
          have kw3 : Below w.heap.size w w3 := kr.trans (hb3.below hsb (by omega))
          have z3 : b + 1 ≤ w3.heap.size := by have := hb3.size; omega
          have ho43 := ho4.bel hb3 (by omega)
          have k4 := kp_new w3 (.cells #[] 30)
          have hf4 := (hf3.next k4).fr
          have hd4 := hd3.next k4
          have kw4 := kp_trans kw3 k4
          have ho44 := ho43.next k4
          go_wp2_with fail
          refine (frames_any _ _ _ [] _ hf4 (by omega)).mono ?_
          rintro e wa ⟨Aa, ca, rfl, hfa, ka⟩
          go_wp2_with fail
          refine (rsame_kp _ _ [] [] _ _ _ _ _ hfa ⟨rfl, .inl rfl, fun r hr => by simp at hr⟩ (by omega) (fun r hr => by simp at hr) true (Lib.hid (by simp))).mono ?_
          rintro e wb ⟨rfl, kb⟩
          have kab := kp_trans ka kb
          have exx : (x != x) = false := by simp
          go_wp2_with fail
          refine (pending_any _ b (b + 1) [] x (hd4.next kab)).mono ?_
          rintro e w' ⟨rfl, rfl⟩
          have e9 : (((0 : Nat) : Int) != (l4 : Int)) = false := by rw [← H4.out]; simp
          go_wp2_with fail
          go_roundw
          case rel =>
            refine ⟨q + 1, z + lp, x, [], A4, l4, c4, by go_num, by go_num, rfl, rfl, by omega, by omega, by simp, fun _ => rfl, ho44.next kab, hd4.next kab, ?_, kp_trans kw4 kab⟩
            have := kab.size
            have := k4.size
            omega
          case measure => simp [intOf]; omega
    · go_wp2_with fail
      go_ret
      exact ⟨rfl, kr⟩

theorem frameFeeds_any (A : Option Addr) (n c : Nat) (ps : List Part) (w : World) (hlen : ps.length = n) (hrd : Rd w w.heap.size A (ps.map fun p => Value.slice p.A p.l p.c)) (hps : ∀ p ∈ ps, Sl w w.heap.size p.A p.l p.c p.bs ∧ p.c ≤ 140737488351232) (_ : n ≤ c) (_ : c * 24 ≤ 140737488351232) :
    Calls Try.prog 4 #[.slice A n c] w fun e w' => e = .returned (.bool true) ∧ Below w.heap.size w w' := by
  by_cases hn : n ≤ 40
  · exact frameFeeds_walk A n c ps w hlen hrd hps hn
  · have d1 : decide ((40 : Int) < (n : Int)) = true := by simp; omega
    clear hlen hrd hps
    go_enter Try.func4, Try.ntmps4
    go_wp2_with fail
    refine (awake2 w).mono ?_
    rintro e w1 ⟨rfl, k1⟩
    go_wp2_with fail
    go_ret
    exact ⟨rfl, k1⟩

namespace FrameFeeds
open Go.ChangeShapes Go.WideShapes Go.ChangeAt
open Go.ChangeMaps (open_string)

theorem contract (H : Type) (enc : TypeId × Value → H) (W : World) (base : Nat) (args : Array Value) (ds gs : List (DataW H)) (before : List MemPlace)
    (hval : ∀ (j : Nat) t v, Try.f4.params[j]? = some t → args[j]? = some v → Value.okWide Try.prog W .any base t v)
    (hW : DataW.Whole enc Try.prog Try.f4.params.toList Rows.frameFeedsSpec.vars false W args.toList ds gs before)
    (hsz0 : (DataW.weightsEach Try.prog (Try.f4.params.toList ++ Rows.frameFeedsSpec.plain.varTypes Try.prog) (ds ++ gs)).all (· ≤ reachBytes) = true) :
    Calls Try.prog 4 args W fun e W' => ∃ v, e = .returned v ∧ Rows.frameFeedsSpec.post enc Try.prog Try.f4 false true false false W args v W' := by
  have hW' := hW
  obtain ⟨p, q, hA0, hV, rfl, _, _⟩ := hW
  have hA : DataW.TrodAll enc Try.prog W 0 (fun _ => true) true Try.f4.params.toList args.toList ds p := hA0
  have hsz : (DataW.weightsEach Try.prog (Try.f4.params.toList ++ Rows.frameFeedsSpec.plain.varTypes Try.prog) (ds ++ gs)).all (· ≤ reachBytes) = true := hsz0
  clear hsz0
  rw [Try.params4] at hA hval hsz
  obtain ⟨v0, vs0, d0, ds0, p0, q0, hargs, rfl, rfl, h0, t0⟩ := trodAll_cons hA
  obtain ⟨rfl, rfl, rfl⟩ := trodAll_nil t0
  obtain rfl : args = #[v0] := by cases args; simp_all
  obtain ⟨rfl, rfl⟩ := trodVars_none hV
  obtain ⟨A0, l0, c0, ps0, rfl, n0, r0, m0, q0, g0⟩ := open_parts (hval 0 41 v0 rfl rfl) h0 (light_of hsz (j := 0) rfl rfl)
  refine (frameFeeds_any A0 l0 c0 ps0 W n0 r0 m0 q0 g0).mono fun e W' ⟨he, hb⟩ => ⟨_, he, ?_⟩
  exact law_post laid0 (by rw [Try.params4]; decide +kernel) rfl (by kernel_rfl) Try.underlying4 hW' rfl hb

set_option maxRecDepth 100000 in
theorem lifted (os : Os) (started : os.Started) (H : Type) (enc : TypeId × Value → H) :
    ReturnsInHanded {} Try.checked os 4 .any (Rows.frameFeedsSpec.pre6 enc Try.prog Try.f4 Rows.frameFeedsRow.domain false) (Rows.frameFeedsSpec.post enc Try.prog Try.f4 false true false false) := by
  refine returnsInHanded_of_change_sized (C := Try.checked) own0 started (by kernel_rfl) Try.func4
    (ChangeSpec.witness6 (enc := enc) (C := Try.checked) false ⟨#[], #[.slice none 0 0], []⟩ 8 (by kernel_rfl) (by kernel_rfl) (by kernel_rfl) (by kernel_rfl)) ?_
  intro W base args ds gs before hval hW _ hsz _
  exact contract H enc W base args ds gs before hval hW hsz

theorem proved : Rows.FrameFeedsSaid :=
  OpenClaim.holds_of_wide 4 Try.f4 rfl rfl rfl rfl rfl rfl rfl ⟨rfl, rfl, rfl, rfl, rfl⟩ rfl rfl rfl rfl rfl (by kernel_rfl) Try.func4 (by kernel_rfl)
    (of_decide_eq_true (by kernel_rfl)) (by unfold Func.isWrapper; first | (rw [if_pos (by decide +kernel)]; kernel_rfl) | (rw [if_neg (by decide +kernel)]; exact ⟨rfl, rfl⟩))
    (fun os started H enc _ => lifted os started H enc)
end FrameFeeds
end Go.Proofs.Ytmohgfmknkfcaaa
