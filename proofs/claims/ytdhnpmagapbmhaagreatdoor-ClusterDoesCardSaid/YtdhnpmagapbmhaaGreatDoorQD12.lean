/-
  Contracts and plain functions that the law stands on, part 12 of 24.
-/
import Derived.Test.YtdhnpmagapbmhaaGreatDoorQD11
import Derived.Deep.Cut
import Derived.Laws.StructEq
namespace Go.Proofs.YtdhnpmagapbmhaaGreatDoor
/- The document's layer 15: Run: contract. -/
section
open Go.RowKit
set_option maxRecDepth 100000
theorem XR.poke {u u' : World} {A : Option Addr} {m rb : Nat} {cs : Array Value} {t : TypeId} {ss : List ByteArray} (h : XR u A m ss) (hb : u.heap[rb]? = some (.cells cs t (0, 0))) (hns : ∀ (i : Nat) (s : ByteArray), cs[i]? ≠ some (.string s)) (hk : ∀ k, k ≠ rb → u'.heap[k]? = u.heap[k]?) (hz : u.heap.size ≤ u'.heap.size) : XR u' A m ss := by
 refine ⟨h.len, ?_⟩; rcases h.rd with h1 | ⟨ad, e, hlt, hc⟩
 · exact .inl h1
 · cases ss with
   | nil => exact .inl rfl
   | cons s r =>
     have h0 := hc 0 (.string s) (by simp [tvs])
     have hne : ad.block ≠ rb := fun e2 => by
      have e3 : (ad.add 0).block = rb := by rw [add_block]; exact e2
      simp only [World.cell?, e3, hb] at h0; split at h0
      · cases h0
      · exact hns _ _ h0
     exact .inr ⟨ad, e, Nat.lt_of_lt_of_le hlt hz, fun j x hx => (World.cell?_of_block (by rw [add_block]; exact hk _ hne)).trans (hc j x hx)⟩
def rpV (r : Rp) (A : Option Addr) (m d : Nat) : Value := .agg #[.int .i64 r.e, .int .u64 r.ep, .int .u64 r.pl, .slice A m d]
section
variable {b : Nat} {n : Nd} {S : Nat → Prop} {w : World} {k : Nat}
set_option maxHeartbeats 32000000 in
theorem rrun15_ok (c e : Int) (rd : Bool) (s : ByteArray) (h : (RN b n).p S w) (hI : NdI k n) (hk : k ≤ 800) (hs : Sm s) (hc0 : -9223372036854775808 ≤ c) (hc1 : c ≤ 9223372036854775807) :
 Calls Tryz.prog 62 #[.pointer (some ⟨b, 0, none⟩), .int .i64 c, .int .u64 e, .bool rd, .string s] w fun e' w' => ∃ A m d, e' = .returned (rpV (runNd n c e rd s).1 A m d) ∧ XR w' A m (runNd n c e rd s).1.ts ∧ Turn (RN b (runNd n c e rd s).2) S w w' := by
 suffices hall : ∀ R : Ending → World → Prop, (∀ e' w', (∃ A m d, e' = .returned (rpV (runNd n c e rd s).1 A m d) ∧ XR w' A m (runNd n c e rd s).1.ts ∧ Turn (RN b (runNd n c e rd s).2) S w w') → R e' w') → Calls Tryz.prog 62 #[.pointer (some ⟨b, 0, none⟩), .int .i64 c, .int .u64 e, .bool rd, .string s] w R from hall _ fun _ _ h => h
 intro R hR; have HT := hid h; have HI := hid hI; have hown := RN.own h; have hbw := (RN b n).lt h b hown; obtain ⟨w2, hw2⟩ : ∃ u, w.alloc (.cells #[.int .i64 0, .int .u64 0, .int .u64 0, .slice none 0 0] 37) = u := ⟨_, rfl⟩; have k2 : Below w.heap.size w w2 := hw2 ▸ kp_new _ _; have hr2 : w2.heap[w.heap.size]? = some (.cells #[.int .i64 0, .int .u64 0, .int .u64 0, .slice none 0 0] 37 (0, 0)) := hw2 ▸ heap_alloc_new w _; obtain ⟨rb, hrb⟩ : ∃ x, w.heap.size = x := ⟨_, rfl⟩; have hz2 : w2.heap.size = rb + 1 := by rw [← hw2, ← hrb]; simp
 have HCS := hid (rclass_ok s w2 (by unfold Sm at hs; unfold maxLen; omega)); obtain ⟨is, his⟩ : ∃ x, clsT s = x := ⟨_, rfl⟩; have hcs : classA s.data.toList = is := his; rw [hcs] at HCS; have HW2 := hid hw2; have HRB := hid hrb; rw [hrb] at hr2; have HR2 := hid hr2; have HK2 := hid k2; have HZ2 := hid hz2; have HS := hid hs; have HC := hid (And.intro hc0 hc1); have hrun : runNd n c e rd s = if whyNd n e rd is ≠ 0 then (⟨whyNd n e rd is, n.ep, n.lg.length, []⟩, n) else if is ≠ 1 then (⟨(doNd n c is s).1, (doNd n c is s).2.ep, (doNd n c is s).2.lg.length, []⟩, (doNd n c is s).2) else (⟨0, n.ep, n.lg.length, rdT s (tabN n.lg (waitsNd n c))⟩, n) := by unfold runNd; rw [his]
 obtain ⟨er, her⟩ : ∃ x, whyNd n e rd is = x := ⟨_, rfl⟩; have HER := hid her; rw [her] at hrun; rw [hrun] at hR; obtain ⟨AL, nl, cl, AO, no, co, os, hx0⟩ := h; have hnl : n.lg.length = nl := hx0.lg.len; have hnl2 : nl ≤ 200 := by rw [← hnl]; exact hI.lg
 have hwp : IntKind.u64.wrap (nl : Int) = nl := by rw [IntKind.wrap_u64]; omega
 have HX := hid hx0; rw [hnl] at hR; have HE : Hid (er ≠ 0 → ∀ w', Turn (RN b n) S w w' → R (.returned (.agg #[.int .i64 er, .int .u64 n.ep, .int .u64 nl, .slice none 0 0])) w') := hid fun h1 w' ht => hR _ _ (by rw [if_pos h1]; exact ⟨none, 0, 0, rfl, XR.nil _, ht⟩); have HDD : Hid (er = 0 → is ≠ 1 → ∀ w' (m : Nat), (doNd n c is s).2.lg.length = m → Turn (RN b (doNd n c is s).2) S w w' → R (.returned (.agg #[.int .i64 (doNd n c is s).1, .int .u64 (doNd n c is s).2.ep, .int .u64 m, .slice none 0 0])) w') := hid fun h0 h1 w' m hm ht => hR _ _ (by rw [if_neg (fun h => h h0), if_pos h1, ← hm]; exact ⟨none, 0, 0, rfl, XR.nil _, ht⟩); have HRD : Hid (er = 0 → is = 1 → ∀ w' A m d, XR w' A m (rdT s (tabN n.lg (waitsNd n c))) → Turn (RN b n) S w w' → R (.returned (.agg #[.int .i64 0, .int .u64 n.ep, .int .u64 nl, .slice A m d])) w') := hid fun h0 h1 w' A m d hx ht => hR _ _ (by rw [if_neg (fun h => h h0), if_neg (fun h => h h1)]; exact ⟨A, m, d, rfl, hx, ht⟩); clear hI hs hc0 hc1 hw2 k2 hr2 hz2 hcs his hrun hrb hR her hx0 hnl hnl2; go_enter Tryz.func62, Tryz.ntmps62; go_wp2_with fail; rw [HW2.out, HRB.out]; refine HCS.out.mono ?_; rintro e3 w3 ⟨rfl, k3⟩; have hb3 : Below w.heap.size w w3 := HK2.out.trans (k3.mono HK2.out.size); have hx3 := HX.out.keep (fun k e => hb3.block k (HX.out.lt k e)) hb3.size; obtain ⟨c0, c1, c2, c3, _⟩ := hx3.tops; have hr3 : w3.heap[rb]? = some (.cells #[.int .i64 0, .int .u64 0, .int .u64 0, .slice none 0 0] 37 (0, 0)) := (k3.block rb (by have := HZ2.out; omega)).trans HR2.out; obtain ⟨r0, f0⟩ := cellsAt hr3 0 (v := .int .i64 0) rfl; obtain ⟨r1, f1⟩ := cellsAt hr3 1 (v := .int .u64 0) rfl; obtain ⟨r2, f2⟩ := cellsAt hr3 2 (v := .int .u64 0) rfl; obtain ⟨r3, f3⟩ := cellsAt hr3 3 (v := .slice none 0 0) rfl; have hbr : b ≠ rb := by have := HRB.out; omega
 have HB3 := hid hb3; have HX3 := hid hx3; have HR3 := hid hr3; have HZ3 : Hid (w2.heap.size ≤ w3.heap.size) := hid k3.size; clear hb3 hx3 hr3 k3 HCS
 go_upto_if 21 with fail
 go_cut [2, 3, 11, 12] from 14 (fun s2 s3 s11 s12 wx => s2 = .int .u64 e ∧ s3 = .bool rd ∧ s11 = .int .i64 is ∧ s12 = .int .i64 er ∧ wx = w3)
 case first =>
  have hy := HER.out; clear HE HDD HRD HER r0 f0 r1 f1 r2 f2 r3 f3; by_cases he : e ≠ n.ep
  · have HY : Hid (8 = er) := hid ((if_pos he).symm.trans hy); have he' : (e == n.ep) = false := by simpa using he
    clear hy he; go_wp2_with fail; go_meet; exact ⟨rfl, rfl, rfl, by rw [HY.out], rfl⟩
  have he' : (e == n.ep) = true := by simpa using he
  by_cases h2 : is = 0 ∨ (rd = true ∧ is ≠ 1)
  · have HY : Hid (2 = er) := hid (by rw [← hy]; unfold whyNd; rw [if_neg he, if_pos h2]); by_cases h0 : is = 0
    · have g0 : (is == 0) = true := by simpa using h0
      clear hy he h2 h0; go_wp2_with fail; go_meet; exact ⟨rfl, rfl, rfl, by rw [HY.out], rfl⟩
    · obtain ⟨rfl, h1⟩ := h2.resolve_left h0; have g0 : (is == 0) = false := by simpa using h0
      have g1 : (is == 1) = false := by simpa using h1
      clear hy he h2 h0 h1; go_wp2_with fail; go_meet; exact ⟨rfl, rfl, rfl, by rw [HY.out], rfl⟩
  have g0 : (is == 0) = false := by simpa using fun h => h2 (.inl h)
  by_cases h7 : rd = false ∧ n.ld = false
  · have HY : Hid (7 = er) := hid (by rw [← hy]; unfold whyNd; rw [if_neg he, if_neg h2, if_pos h7]); obtain ⟨rfl, hld⟩ := h7; clear hy he h2; go_wp2_with fail; go_meet; exact ⟨rfl, rfl, rfl, by rw [HY.out], rfl⟩
  have HY : Hid (0 = er) := hid (by rw [← hy]; unfold whyNd; rw [if_neg he, if_neg h2, if_neg h7])
  cases rd with
  | true =>
    have g1 : (is == 1) = true := by simpa using fun h => h2 (.inr ⟨rfl, h⟩)
    clear hy he h2 h7; go_wp2_with fail; go_meet; exact ⟨rfl, rfl, rfl, by rw [HY.out], rfl⟩
  | false =>
    have hld : n.ld = true := by
     cases hl : n.ld with
     | true => rfl
     | false => exact absurd ⟨rfl, hl⟩ h7
    clear hy he h2 h7; go_wp2_with fail; go_meet; exact ⟨rfl, rfl, rfl, by rw [HY.out], rfl⟩
 case rest =>
 obtain ⟨rfl, rfl, rfl, rfl, hw⟩ := hcut; rw [hw]; clear hw; clear HER; by_cases h0 : er ≠ 0
 · have g0 : (er == 0) = false := by simpa using h0
   have HEE := hid (HE.out h0); clear HE HDD HRD h0; go_wp2_with fail; go_region
   all_goals
    go_wp2_with fail; refine bodyPost_ret (v := .agg #[.int .i64 er, .int .u64 n.ep, .int .u64 nl, .slice none 0 0]) ?_ rfl (HEE.out _ ?_)
    · rw [results_cell1 rfl]; go_simp
    · refine Turn.same HT.out ?_; exact ((((HB3.out.setCell (Nat.le_of_eq HRB.out) _).setCell (Nat.le_of_eq HRB.out) _).setCell (Nat.le_of_eq HRB.out) _).setCell (Nat.le_of_eq HRB.out) _).drew
 have h00 : er = 0 := by simpa using h0
 have g0 : (er == 0) = true := by simpa using h00
 clear h0 HE; by_cases h1 : is ≠ 1
 · have g1 : (is == 1) = false := by simpa using h1
   have HEE := hid (HDD.out h00 h1); clear HDD HRD h00 h1; have HDO := hid (rdo15_ok c is s (Thing.next HT.out HB3.out) HI.out.lg HI.out.nd (by have := HI.out.ol; omega) fun o ho => (HI.out.oc o ho).2.2.1); have HNI := hid (HI.out.does (c := c) (is := is) HS.out HC.out.1 HC.out.2); obtain ⟨ed, hed⟩ : ∃ x, (doNd n c is s).1 = x := ⟨_, rfl⟩; obtain ⟨nd, hnd⟩ : ∃ x, (doNd n c is s).2 = x := ⟨_, rfl⟩; rw [hed, hnd] at HDO HEE; rw [hnd] at HNI; clear hed hnd hwp r0 f0 r1 f1 r2 f2 r3 f3; go_wp2_with fail; refine HDO.out.mono ?_; rintro e4 w4 ⟨rfl, ⟨⟨S4, hp4, hs4⟩, ho4⟩⟩; obtain ⟨AL4, nl4, cl4, AO4, no4, co4, os4, hx4⟩ := hp4; have hnl4 : nd.lg.length = nl4 := hx4.lg.len; have hnl2 : nl4 ≤ 200 := by rw [← hnl4]; exact HNI.out.lg
   have hwp : IntKind.u64.wrap (nl4 : Int) = nl4 := by rw [IntKind.wrap_u64]; omega
   have HNL4 := hid hnl4; have hrS : ¬ S rb := fun e => by have := (RN b n).lt HT.out rb e; have := HRB.out; omega
   have hr4 := (ho4.block rb (Array.getElem?_eq_some_iff.1 HR3.out).1 hrS).trans HR3.out; obtain ⟨c0, c1, c2, c3, _⟩ := hx4.tops; obtain ⟨r0, f0⟩ := cellsAt hr4 0 (v := .int .i64 0) rfl; obtain ⟨r1, f1⟩ := cellsAt hr4 1 (v := .int .u64 0) rfl; obtain ⟨r2, f2⟩ := cellsAt hr4 2 (v := .int .u64 0) rfl; obtain ⟨r3, f3⟩ := cellsAt hr4 3 (v := .slice none 0 0) rfl; have HX4 := hid hx4; have HHS := hid (And.intro hs4 (And.intro ho4 hrS)); clear hx4 hnl4 hs4 ho4 hrS hr4 HDO; go_wp2_with fail; go_region
   all_goals
    go_wp2_with fail; refine bodyPost_ret (v := .agg #[.int .i64 ed, .int .u64 nd.ep, .int .u64 nl4, .slice none 0 0]) ?_ rfl (HEE.out _ nl4 HNL4.out ?_)
    · rw [results_cell1 rfl]; go_simp
    · obtain ⟨hs4, ho4, hrS⟩ := HHS.out; have hz3 := HZ3.out; have hz2 := HZ2.out; have hwb := HRB.out
      have hn4 : ∀ k, S4 k → k ≠ rb := fun k hk e => by
       subst e; rcases hs4 k hk with e | e
       · exact hrS e
       · omega
      refine ⟨⟨S4, ⟨_, _, _, _, _, _, _, HX4.out.keep (fun k hk => (set_other (hn4 k hk)).trans ((set_other (hn4 k hk)).trans ((set_other (hn4 k hk)).trans (set_other (hn4 k hk))))) (by show _ ≤ (World.drew _).heap.size; rw [show ∀ u : World, u.drew.heap = u.heap from fun _ => rfl, set_size, set_size, set_size, set_size]; exact Nat.le_refl _)⟩, fun k hk => (hs4 k hk).imp id fun e => by omega⟩, ?_⟩; have ho := (Off.of S HB3.out).trans ho4 fun _ h => .inl h; exact ((((ho.setCell (.inr (Nat.le_of_eq hwb)) _).setCell (.inr (Nat.le_of_eq hwb)) _).setCell (.inr (Nat.le_of_eq hwb)) _).setCell (.inr (Nat.le_of_eq hwb)) _).drew
 have h11 : is = 1 := by simpa using h1
 have g1 : (is == 1) = true := by simpa using h11
 have HEE := hid (HRD.out h00 h11); clear HDD HRD h00 h1 h11; obtain ⟨ts, hts⟩ : ∃ x, waitsNd n c = x := ⟨_, rfl⟩
 have hws : ∀ s ∈ ts, Sm s := by
  rw [← hts]; unfold waitsNd
  cases ho : opOf c n.op with
  | none => intro s hs; cases hs
  | some xs =>
    obtain ⟨o, hm, _, rfl⟩ := opOf_mem ho; exact (HI.out.oc o hm).2.2.2
 have hwl : ts.length ≤ 200 := by
  rw [← hts]; unfold waitsNd
  cases ho : opOf c n.op with
  | none => exact Nat.zero_le _
  | some xs =>
    obtain ⟨o, hm, _, rfl⟩ := opOf_mem ho; exact (HI.out.oc o hm).2.2.1
 have HWS := hid hws; have HWL := hid hwl; obtain ⟨tb, htb⟩ : ∃ x, tabN n.lg ts = x := ⟨_, rfl⟩; have HSRT : Hid (Srt tb) := hid (by rw [← htb]; exact tabN_srt _ _); have HTBL : Hid (tb.length ≤ 400) := hid (by rw [← htb]; have := tabN_len n.lg ts; have := HI.out.lg; omega); obtain ⟨rs, hrs⟩ : ∃ x, rdT s tb = x := ⟨_, rfl⟩; have HRS := hid hrs; have HTB := hid htb; rw [hts, htb, hrs] at HEE; clear hws hwl htb hrs; have hol := HI.out.ol; have HFN := hid (fun (u : World) (hu : Below w.heap.size w u) => rfind15_ok c (Thing.next HT.out hu) (by omega : n.op.length ≤ 1000)); obtain ⟨w4, hw4⟩ : ∃ u, w3.alloc (.cells #[] 9) = u := ⟨_, rfl⟩; have k4 : Below w3.heap.size w3 w4 := hw4 ▸ kp_new _ _; have hb4 : Below w.heap.size w w4 := HB3.out.trans (k4.mono HB3.out.size); have hx4 := HX.out.keep (fun k e => hb4.block k (HX.out.lt k e)) hb4.size; obtain ⟨d0, _, d2, d3, _⟩ := hx4.tops; have hr4 := (k4.block rb (Array.getElem?_eq_some_iff.1 HR3.out).1).trans HR3.out; have HX4 := hid hx4; have HB4 := hid hb4; have HR4 := hid hr4; have HW4 := hid hw4; have HW3S : Hid (w3.heap.size < w4.heap.size) := hid (by rw [← hw4]; simp); have hblt : b < w3.heap.size := Nat.lt_of_lt_of_le hbw HB3.out.size; clear hx4 hb4 k4 hr4 hw4 r0 f0 r1 f1 r2 f2 r3 f3; go_wp2_with fail; rw [HW4.out]; refine (HFN.out w4 HB4.out).mono ?_; rintro e5 w5 ⟨rfl, rfl⟩; clear HW4
 go_upto_if 77 with fail
 go_cut [13] from 14 (fun s13 wx => ∃ (tA : Option Addr) (tn td : Nat), s13 = .slice tA tn td ∧ Hid (tn ≤ 200) ∧ Hid (XR wx tA tn ts) ∧ Hid (Below w4.heap.size w4 wx))
 case first =>
  clear HEE; by_cases hneg : idxOp c n.op < 0
  · have hts0 : ts = [] := by
     rw [← hts]; unfold waitsNd; rw [opOf_none.2 (idxOp_no hneg)]; rfl
    have HWX : Hid (XR w4 (some ⟨w3.heap.size, 0, none⟩) 0 ts) := hid (by rw [hts0]; exact ⟨rfl, .inl rfl⟩); have hge : ¬ 0 ≤ idxOp c n.op := by omega
    clear hts hts0; go_wp2_with fail; go_meet; exact ⟨some ⟨w3.heap.size, 0, none⟩, 0, 0, rfl, hid (by decide), HWX, hid (Below.refl _ _)⟩
  · obtain ⟨i, hi⟩ : ∃ i : Nat, idxOp c n.op = i := ⟨(idxOp c n.op).toNat, by omega⟩; obtain ⟨hil, hop⟩ := idxOp_of hi
    have hts0 : n.op[i].ts = ts := by
     rw [← hts]; unfold waitsNd; rw [hop]; rfl
    have hlen := HX.out.len; have holen := HX.out.olen; have hio : i < os.length := by omega
    have hin : (i : Int) < (no : Int) := by omega
    have hi0 : (0 : Int) ≤ (i : Int) := by omega
    obtain ⟨g, rfl, hSg, hgb, z0, z1, _⟩ := HX4.out.opat hio; have hxr := (HX4.out.at_ i hio hil).2; rw [hts0] at hxr; obtain ⟨tA, hA⟩ : ∃ x, os[i].A = x := ⟨_, rfl⟩; obtain ⟨tn, hn⟩ : ∃ x, os[i].n = x := ⟨_, rfl⟩; obtain ⟨td, hd0⟩ : ∃ x, os[i].d = x := ⟨_, rfl⟩; rw [hA, hn] at hxr; rw [hA, hn, hd0] at z1; have HWX0 := hid hxr; have HWN : Hid (tn ≤ 200) := hid (by rw [← hxr.len]; exact HWL.out); rw [hi] at HFN; clear hts hts0 hop hxr hA hn hd0 hlen holen hneg; have h0i : (0 : Int) ≤ idxOp c n.op := by omega
    go_wp2_with fail; go_quiet (first | (go_at_call 88; refine (HFN.out _ (HB4.out.trans ((kp_drewN w4 _).mono HB4.out.size))).mono ?_; rintro e6 w6 ⟨rfl, rfl⟩; refine ⟨rfl, _, rfl⟩)); obtain ⟨w6, hw6⟩ : ∃ x, w4.drewN nq = x := ⟨_, rfl⟩; have q6 : Below w4.heap.size w4 w6 := hw6 ▸ kp_drewN w4 nq; rw [hw6]; clear hw6; go_wp2_with fail; go_meet; exact ⟨tA, tn, td, rfl, HWN, hid (HWX0.out.next q6), hid q6⟩
 case rest =>
 obtain ⟨tA, tn, td, rfl, HWN, HWX, HK5⟩ := hcut; have HB4X := hid (HB4.out.trans (HK5.out.mono HB4.out.size)); have HX4 := hid (HX4.out.keep (fun k e => HK5.out.block k (HX4.out.lt k e)) HK5.out.size); have HR4 := hid ((HK5.out.block rb (Array.getElem?_eq_some_iff.1 HR4.out).1).trans HR4.out); clear hts d0 d2 d3 HFN HK5; go_wp2_with fail; obtain ⟨FN, hFN⟩ : ∃ F : World → Prop, ∀ z, F z ↔ (∃ A m d, z.heap[rb]? = some (.cells #[.int .i64 0, .int .u64 n.ep, .int .u64 nl, .slice A m d] 37 (0, 0)) ∧ XR z A m rs ∧ Below w.heap.size w z) := ⟨_, fun _ => Iff.rfl⟩; have HFNN := hid hFN; clear hFN; have HKR : Hid (∀ (i : Nat) (u : World), Kp2 17 17 i u u) := hid (Kp2.refl _ _); refine wp_region_specs6 (S := SL6 17 wc FN) (Kp := Kp2 17 17) (Sp := [(88, Stl.eq (.pointer (some ⟨b, 0, none⟩))), (89, Stl.eq (.pointer (some ⟨b, 0, none⟩))), (90, Stl.eq (.pointer (some ⟨b, 0, none⟩))), (91, Stl.eq (.int .u64 n.ep)), (92, Stl.eq (.pointer (some ⟨b, 0, none⟩))), (93, Stl.eq (.pointer (some ⟨b, 0, none⟩))), (94, Stl.eq (.pointer (some ⟨b, 2, none⟩))), (95, Stl.eq (.slice AL nl cl)), (96, Stl.eq (.int .i64 nl)), (97, Stl.eq (.int .u64 nl)), (98, Stl.eq (.string s)), (99, belL 17 17 (fun _ _ => True) (fun _ _ _ _ _ => trivial) (fun v => ∃ d k v2, v = .agg #[.int .i64 d, .string k, .string v2] ∧ doing d k v2 = planA s.data.toList)), (100, Stl.eq (.pointer (some ⟨b, 0, none⟩))), (101, Stl.eq (.slice (tA) tn td)), (102, shL 17 17 (fun D m e => .slice D m e) (fun u D m => KR u D m tb) (fun _ _ _ _ h hb => h.next hb)), (103, shL 17 17 (fun D m e => .slice D m e) (fun u D m => XR u D m rs) (fun _ _ _ _ h hb => h.next hb)), (104, shL 17 17 (fun D m e => .agg #[.int .i64 0, .int .u64 n.ep, .int .u64 nl, .slice D m e]) (fun u D m => XR u D m rs) (fun _ _ _ _ h hb => h.next hb))]) (by kernel_rfl) (by kernel_rfl) (SL6.of rfl (kp_drewN _ 1)) ?_ ?_
 · refine .cons ?_ ?_
   · intro L a u hL hst hS hdep hq hno; refine .inl ⟨trivial, ?_⟩; have g0 := gd (v := .pointer (some ⟨b, 0, none⟩)) (hst.out 0 (by kernel_rfl)); go_simp; exact Went6.same (HKR.out _ _) hS rfl
   refine .cons ?_ ?_
   · intro L a u hL hst hS hdep hq hno; refine .inl ⟨trivial, ?_⟩; have g88 := gd (hdep 88); go_simp; exact Went6.same (HKR.out _ _) hS rfl
   refine .cons ?_ ?_
   · intro L a u hL hst hS hdep hq hno; refine .inl ⟨trivial, ?_⟩; have g89 := gd (hdep 89); go_simp; exact Went6.same (HKR.out _ _) hS rfl
   refine .cons ?_ ?_
   · intro L a u hL hst hS hdep hq hno; refine .inl ⟨trivial, ?_⟩; have g90 := gd (hdep 90); have h20 : L 17 = false := hno 12 17; have hB : Below wc.heap.size wc u := SL6.ahead hS h20; have hS2 : ∀ u', Below wc.heap.size wc u' → SL6 17 wc FN L u' := fun u' h => SL6.of h20 h; obtain ⟨y0, _, y2, _⟩ := (HX4.out.keep (fun k e => hB.block k (HX4.out.lt k e)) hB.size).tops; go_simp; exact Went6.same (HKR.out _ _) hS rfl
   refine .cons ?_ ?_
   · intro L a u hL hst hS hdep hq hno; refine .inl ⟨trivial, ?_⟩; have g0 := gd (v := .pointer (some ⟨b, 0, none⟩)) (hst.out 0 (by kernel_rfl)); go_simp; exact Went6.same (HKR.out _ _) hS rfl
   refine .cons ?_ ?_
   · intro L a u hL hst hS hdep hq hno; refine .inl ⟨trivial, ?_⟩; have g92 := gd (hdep 92); go_simp; exact Went6.same (HKR.out _ _) hS rfl
   refine .cons ?_ ?_
   · intro L a u hL hst hS hdep hq hno; refine .inl ⟨trivial, ?_⟩; have g93 := gd (hdep 93); go_simp; exact Went6.same (HKR.out _ _) hS rfl
   refine .cons ?_ ?_
   · intro L a u hL hst hS hdep hq hno; refine .inl ⟨trivial, ?_⟩; have g94 := gd (hdep 94); have h20 : L 17 = false := hno 12 17; have hB : Below wc.heap.size wc u := SL6.ahead hS h20; have hS2 : ∀ u', Below wc.heap.size wc u' → SL6 17 wc FN L u' := fun u' h => SL6.of h20 h; obtain ⟨y0, _, y2, _⟩ := (HX4.out.keep (fun k e => hB.block k (HX4.out.lt k e)) hB.size).tops; go_simp; exact Went6.same (HKR.out _ _) hS rfl
   refine .cons ?_ ?_
   · intro L a u hL hst hS hdep hq hno; refine .inl ⟨trivial, ?_⟩; have g95 := gd (hdep 95); go_simp; exact Went6.same (HKR.out _ _) hS rfl
   refine .cons ?_ ?_
   · intro L a u hL hst hS hdep hq hno; refine .inl ⟨trivial, ?_⟩; have g96 := gd (hdep 96); go_simp; exact Went6.same (HKR.out _ _) hS rfl
   refine .cons ?_ ?_
   · intro L a u hL hst hS hdep hq hno; refine .inl ⟨trivial, ?_⟩; have g4 := gd (v := .string s) (hst.out 4 (by kernel_rfl)); go_simp; exact Went6.same (HKR.out _ _) hS rfl
   refine .cons ?_ ?_
   · intro L a u hL hst hS hdep hq hno; refine .inl ⟨trivial, ?_⟩; have g98 := gd (hdep 98); go_simp; have h20 : L 17 = false := hno 12 17; have hB : Below wc.heap.size wc u := SL6.ahead hS h20; have hS2 : ∀ u', Below wc.heap.size wc u' → SL6 17 wc FN L u' := fun u' h => SL6.of h20 h; have hof := rof_ok s u (by have := HS.out; unfold Sm at this; unfold maxLen; omega); unfold OfTo at hof; refine hof.mono ?_; rintro e' u' ⟨pd, pk, pv, rfl, g9, hb'⟩; exact Went6.next (hS2 _ (hB.trans (hb'.mono hB.size))) (fun _ _ => hb') ⟨⟨pd, pk, pv, rfl, g9⟩, fun _ _ => trivial⟩
   refine .cons ?_ ?_
   · intro L a u hL hst hS hdep hq hno; refine .inl ⟨trivial, ?_⟩; have g0 := gd (v := .pointer (some ⟨b, 0, none⟩)) (hst.out 0 (by kernel_rfl)); go_simp; exact Went6.same (HKR.out _ _) hS rfl
   refine .cons ?_ ?_
   · intro L a u hL hst hS hdep hq hno; refine .inl ⟨trivial, ?_⟩; have g13 := gd (v := .slice (tA) tn td) (hst.out 13 (by kernel_rfl)); go_simp; exact Went6.same (HKR.out _ _) hS rfl
   refine .cons ?_ ?_
   · intro L a u hL hst hS hdep hq hno; refine .inl ⟨trivial, ?_⟩; have g100 := gd (hdep 100); have g101 := gd (hdep 101); go_simp; have h20 : L 17 = false := hno 12 17; have hB : Below wc.heap.size wc u := SL6.ahead hS h20; have hS2 : ∀ u', Below wc.heap.size wc u' → SL6 17 wc FN L u' := fun u' h => SL6.of h20 h; have hbw : Below w.heap.size w u := HB4X.out.trans (hB.mono HB4X.out.size); have htl := rtable15_ok (tA) (tn) (td) ts (Thing.next HT.out hbw) HI.out.lg (fun x hx => (HI.out.lt x hx).1) (HWX.out.next hB) (HWN.out) HWS.out; rw [HTB.out] at htl; refine htl.mono ?_; rintro e' u' ⟨D2, m2, e2, rfl, g2, hb'⟩; exact Went6.next (hS2 _ (hB.trans (hb'.mono hB.size))) (fun _ _ => hb') ⟨D2, m2, e2, rfl, fun _ _ => g2⟩
   refine .cons ?_ ?_
   · intro L a u hL hst hS hdep hq hno; obtain ⟨⟨pd, pk, pv, h99, g9⟩, _⟩ := hdep 99; obtain ⟨D2, m2, e2, h102, r102⟩ := hdep 102; refine .inl ⟨trivial, ?_⟩; have g99 := gd h99; have g102 := gd h102; go_simp; have h20 : L 17 = false := hno 12 17; have hB : Below wc.heap.size wc u := SL6.ahead hS h20; have hS2 : ∀ u', Below wc.heap.size wc u' → SL6 17 wc FN L u' := fun u' h => SL6.of h20 h; have hkr := r102 h20 h20; refine (rreads_ok pd pk pv D2 m2 e2 tb u hkr HSRT.out (by have := hkr.len; have := HTBL.out; omega)).mono ?_; rintro e' u' ⟨D3, m3, e3, rfl, g3, _, hb'⟩; refine Went6.next (hS2 _ (hB.trans (hb'.mono hB.size))) (fun _ _ => hb') ⟨D3, m3, e3, rfl, fun _ _ => ?_⟩; rw [← HRS.out, rdT_of g9]; exact g3
   refine .cons ?_ ?_
   · intro L a u hL hst hS hdep hq hno; obtain ⟨D3, m3, e3, h103, r103⟩ := hdep 103; refine .inl ⟨trivial, ?_⟩; have g91 := gd (hdep 91); have g97 := gd (hdep 97); have g103 := gd h103; go_simp; have h20 : L 17 = false := hno 12 17; have hB : Below wc.heap.size wc u := SL6.ahead hS h20; have hS2 : ∀ u', Below wc.heap.size wc u' → SL6 17 wc FN L u' := fun u' h => SL6.of h20 h; exact Went6.same (HKR.out _ _) (hS2 _ hB) ⟨D3, m3, e3, rfl, fun _ _ => r103 h20 h20⟩
   refine .cons ?_ ?_
   · intro L a u hL hst hS hdep hq hno; obtain ⟨D4, m4, e4, h104, r104⟩ := hdep 104; refine .inl ⟨trivial, ?_⟩; have g10 := gd (v := .pointer (some ⟨rb, 0, none⟩)) (hst.out 10 (by kernel_rfl)); have g104 := gd h104; have hB : Below wc.heap.size wc u := SL6.ahead hS hL; have hru := (hB.block rb (Array.getElem?_eq_some_iff.1 HR4.out).1).trans HR4.out; obtain ⟨r0, f0⟩ := cellsAt hru 0 (v := .int .i64 0) rfl; obtain ⟨r1, f1⟩ := cellsAt hru 1 (v := .int .u64 0) rfl; obtain ⟨r2, f2⟩ := cellsAt hru 2 (v := .int .u64 0) rfl; obtain ⟨r3, f3⟩ := cellsAt hru 3 (v := .slice none 0 0) rfl; go_simp; have hx5 := r104 hL hL; have hq : ∀ k, k ≠ rb → ((((u.setCell ⟨rb, 0, none⟩ (.int .i64 0)).setCell ⟨rb, 1, none⟩ (.int .u64 n.ep)).setCell ⟨rb, 2, none⟩ (.int .u64 nl)).setCell ⟨rb, 3, none⟩ (.slice D4 m4 e4)).heap[k]? = u.heap[k]? := fun k hk => (set_other hk).trans ((set_other hk).trans ((set_other hk).trans (set_other hk))); have hb5 : Below w.heap.size w u := HB4X.out.trans (hB.mono HB4X.out.size); have hwb := Nat.le_of_eq HRB.out; exact ⟨undef, rfl, SL6.last done_same ((HFNN.out _).2 ⟨D4, m4, e4, heap_setCell_same _ rb 3 _ _ (.slice D4 m4 e4) (heap_setCell_same _ rb 2 _ _ (.int .u64 nl) (heap_setCell_same _ rb 1 _ _ (.int .u64 n.ep) (heap_setCell_same u rb 0 _ _ (.int .i64 0) hru))), hx5.poke hru (by intro i s2; match i with | 0 => simp | 1 => simp | 2 => simp | 3 => simp | i + 4 => simp) hq (by rw [set_size, set_size, set_size, set_size]; exact Nat.le_refl _), (((hb5.setCell hwb _).setCell hwb _).setCell hwb _).setCell hwb _⟩), fun h _ => absurd rfl h, fun t e => by cases e⟩
   exact EachOp.nil
 · intro L a u hLs hst hS hdep; have h88 : a.tmps.getD 88 undef = .pointer (some ⟨b, 0, none⟩) := hdep 88; have h89 : a.tmps.getD 89 undef = .pointer (some ⟨b, 0, none⟩) := hdep 89; have h90 : a.tmps.getD 90 undef = .pointer (some ⟨b, 0, none⟩) := hdep 90; have h91 : a.tmps.getD 91 undef = .int .u64 n.ep := hdep 91; have h92 : a.tmps.getD 92 undef = .pointer (some ⟨b, 0, none⟩) := hdep 92; have h93 : a.tmps.getD 93 undef = .pointer (some ⟨b, 0, none⟩) := hdep 93; have h94 : a.tmps.getD 94 undef = .pointer (some ⟨b, 2, none⟩) := hdep 94; have h95 : a.tmps.getD 95 undef = .slice AL nl cl := hdep 95; have h96 : a.tmps.getD 96 undef = .int .i64 nl := hdep 96; have h97 : a.tmps.getD 97 undef = .int .u64 nl := hdep 97; have h98 : a.tmps.getD 98 undef = .string s := hdep 98; obtain ⟨⟨pd, pk, pv, h99, g9⟩, _⟩ := hdep 99; have h100 : a.tmps.getD 100 undef = .pointer (some ⟨b, 0, none⟩) := hdep 100; have h101 : a.tmps.getD 101 undef = .slice (tA) tn td := hdep 101; obtain ⟨D2, m2, e2, h102, r102⟩ := hdep 102; obtain ⟨D3, m3, e3, h103, r103⟩ := hdep 103; obtain ⟨D4, m4, e4, h104, r104⟩ := hdep 104; have hfr := hst.frame [(88, .pointer (some ⟨b, 0, none⟩)), (89, .pointer (some ⟨b, 0, none⟩)), (90, .pointer (some ⟨b, 0, none⟩)), (91, .int .u64 n.ep), (92, .pointer (some ⟨b, 0, none⟩)), (93, .pointer (some ⟨b, 0, none⟩)), (94, .pointer (some ⟨b, 2, none⟩)), (95, .slice AL nl cl), (96, .int .i64 nl), (97, .int .u64 nl), (98, .string s), (99, .agg #[.int .i64 pd, .string pk, .string pv]), (100, .pointer (some ⟨b, 0, none⟩)), (101, .slice (tA) tn td), (102, .slice D2 m2 e2), (103, .slice D3 m3 e3), (104, .agg #[.int .i64 0, .int .u64 n.ep, .int .u64 nl, .slice D4 m4 e4])] (by kernel_rfl) ⟨h88, h89, h90, h91, h92, h93, h94, h95, h96, h97, h98, h99, h100, h101, h102, h103, h104, trivial⟩; clear hst hdep h88 h89 h90 h91 h92 h93 h94 h95 h96 h97 h98 h99 h100 h101 h102 h103 h104; subst hfr; simp only [List.foldl_cons, List.foldl_nil, List.setIfInBounds_toArray, List.set_cons_zero, List.set_cons_succ]; obtain ⟨A9, m9, d9, hr9, hx9, hb9⟩ := (HFNN.out u).1 (SL6.done hS (hLs 17 (by kernel_rfl))); obtain ⟨r0, _⟩ := cellsAt hr9 0 (v := .int .i64 0) rfl; obtain ⟨r1, _⟩ := cellsAt hr9 1 (v := .int .u64 n.ep) rfl; obtain ⟨r2, _⟩ := cellsAt hr9 2 (v := .int .u64 nl) rfl; obtain ⟨r3, _⟩ := cellsAt hr9 3 (v := .slice A9 m9 d9) rfl; have HFX := hid hx9; have HFB := hid hb9; clear hS hLs hr9 hx9 hb9; go_wp2_with fail; refine bodyPost_ret (v := .agg #[.int .i64 0, .int .u64 n.ep, .int .u64 nl, .slice A9 m9 d9]) ?_ rfl (HEE.out _ A9 m9 d9 HFX.out (Turn.same HT.out HFB.out)); rw [results_cell1 rfl]; go_simp
end
end

/- Layer 15: what the laws ask of the project's node, as one statement (to be proved of the landed code), over a thing that is the node; the law's of, entries, reply. -/
section
open Go.RowKit
set_option maxRecDepth 100000
structure Told1 (Y : Thing) (S : Nat → Prop) (A : Option Addr) (w w' : World) : Prop where
 at_ : ∃ S', Y.p S' w' ∧ (∀ k, S' k → S k ∨ w.heap.size ≤ k) ∧ ∀ ad, A = some ad → w.heap.size ≤ ad.block ∧ ad.block < w'.heap.size ∧ ¬ S' ad.block
 off : Off S w w'
theorem Told1.turn {Y : Thing} {S : Nat → Prop} {A : Option Addr} {w w' : World} (h : Told1 Y S A w w') : Turn Y S w w' := by
 obtain ⟨⟨S', h1, h2, _⟩, h4⟩ := h; exact ⟨⟨S', h1, h2⟩, h4⟩
def I64n (i : Int) : Prop := -9223372036854775808 ≤ i ∧ i ≤ 9223372036854775807
def U64n (n : Int) : Prop := 0 ≤ n ∧ n < 18446744073709551616
end

/- Three things of one kind, in blocks of their own, as one thing (no function of the program is named here). -/
section
open Go.RowKit
set_option maxRecDepth 100000
section
variable {α : Type} {Y : Nat → α → Thing} {bs : Nat → Nat} {ns : Nat → α} {S : Nat → Prop} {w w' : World} {P : Program}
def upd3 (ns : Nat → α) (i : Nat) (x : α) : Nat → α := fun j => if j = i then x else ns j
theorem upd3_at (ns : Nat → α) (i : Nat) (x : α) : upd3 ns i x i = x := if_pos rfl
theorem upd3_ne (ns : Nat → α) {i j : Nat} (x : α) (h : j ≠ i) : upd3 ns i x j = ns j := if_neg h
end
end

/- Layer 15: acts, plain and as rows; the law's large: contract. -/
section
open Go.RowKit
set_option maxRecDepth 100000
structure Ac8 where
 d : Int
 nd : Int
 fr : Int
 c : Int
 m : Int
 e : Int
 rd : Bool
 t : ByteArray
instance : Inhabited Ac8 := ⟨⟨0, 0, 0, 0, 0, 0, false, ⟨#[]⟩⟩⟩
structure To15 where
 r : Rp
 is : Bool
 many : Int
def noRp : Rp := ⟨0, 0, 0, []⟩
end

/- Layer 15, plain: what follows of a node's acts (no function of the program is named here). -/
section
open Go.RowKit
set_option maxRecDepth 100000
structure Grew (n n' : Nd) (er : Int) : Prop where
 ep : n'.ep = n.ep
 ld : n'.ld = n.ld
 lg : ∃ es, n'.lg = n.lg ++ es ∧ ∀ x ∈ es, x.e = n.ep
 no : er ≠ 0 → n'.lg = n.lg
theorem Grew.same (n : Nd) (op : List Op15) (er : Int) : Grew n { n with op := op } er := ⟨rfl, rfl, ⟨[], by simp, fun _ h => nomatch h⟩, fun _ => rfl⟩
theorem layNd_grew (n : Nd) (op : List Op15) (ts : List ByteArray) : Grew n (layNd { n with op := op } ts).2 (layNd { n with op := op } ts).1 := by
 unfold layNd; split
 · exact Grew.same n op 5
 · refine ⟨rfl, rfl, ⟨_, rfl, fun x hx => ?_⟩, fun h => absurd rfl h⟩; obtain ⟨t, _, rfl⟩ := List.mem_map.1 hx; rfl
theorem doNd_grew (n : Nd) (c is : Int) (s : ByteArray) : Grew n (doNd n c is s).2 (doNd n c is s).1 := by
 unfold doNd; split
 · split
   · exact Grew.same n n.op 7
   split
   · exact layNd_grew n (dropOp c n.op) _
   split
   · exact Grew.same n _ 0
   split
   · split
     · exact Grew.same n n.op 5
     · exact Grew.same n _ 0
   · exact Grew.same n n.op 0
 · split
   · exact Grew.same n n.op 7
   split
   · exact Grew.same n _ 0
   split
   · exact layNd_grew n n.op _
   · exact Grew.same n n.op 0
theorem why_none {n : Nd} {e : Int} {rd : Bool} {is : Int} (h : whyNd n e rd is = 0) : e = n.ep ∧ is ≠ 0 ∧ (rd = true → is = 1) ∧ (rd = false → n.ld = true) := by
 unfold whyNd at h; split at h
 · omega
 rename_i h1
 split at h
 · omega
 rename_i h2
 split at h
 · omega
 rename_i h3
 refine ⟨Decidable.not_not.1 h1, fun e => h2 (.inl e), fun e => Decidable.not_not.1 fun e2 => h2 (.inr ⟨e, e2⟩), fun e => ?_⟩
 cases hl : n.ld with
 | true => rfl
 | false => exact absurd ⟨e, hl⟩ h3
structure Fenced (n : Nd) (e : Int) (rd : Bool) (s : ByteArray) (r : Rp) (n' : Nd) : Prop where
 grew : Grew n n' r.e
 ep : r.ep = n.ep
 pl : r.pl = n'.lg.length
 who : n'.lg ≠ n.lg → r.e = 0 ∧ e = n.ep ∧ n.ld = true ∧ rd = false ∧ clsT s ≠ 1 ∧ clsT s ≠ 0
 stale : e ≠ n.ep → r.e = 8
 leads : n.ld = false → rd = false → r.e ≠ 0
 texts : r.ts ≠ [] → clsT s = 1
theorem run_fenced (n : Nd) (c e : Int) (rd : Bool) (s : ByteArray) : Fenced n e rd s (runNd n c e rd s).1 (runNd n c e rd s).2 := by
 unfold runNd; by_cases h1 : whyNd n e rd (clsT s) ≠ 0
 · rw [if_pos h1]; exact ⟨Grew.same n n.op _, rfl, rfl, fun h => absurd rfl h, fun h => by show whyNd n e rd (clsT s) = 8; unfold whyNd; rw [if_pos h], fun _ _ => h1, fun h => absurd rfl h⟩
 · obtain ⟨he, h0, hr, hl⟩ := why_none (Decidable.not_not.1 h1); rw [if_neg h1]; by_cases h2 : clsT s ≠ 1
   · rw [if_pos h2]; have g := doNd_grew n c (clsT s) s
     have hrd : rd = false := by
      cases hrd : rd with
      | false => rfl
      | true => exact absurd (hr hrd) h2
     refine ⟨g, g.ep, rfl, fun h => ⟨?_, he, hl hrd, hrd, h2, h0⟩, fun h => absurd he h, (fun a b => by rw [hl b] at a; cases a), fun h => absurd rfl h⟩; exact Decidable.not_not.1 fun h3 => h (g.no h3)
   · rw [if_neg h2]; exact ⟨Grew.same n n.op _, rfl, rfl, fun h => absurd rfl h, fun h => absurd he h, fun a b => (by rw [hl b] at a; cases a), fun _ => Decidable.not_not.1 h2⟩
section
variable {n : Nd} {E : Int} {L : List Lg} {m : Int}
end
end

/- A cluster, plain: its nodes, the newest promotion; what each call answers and leaves; what it comes to be (no function of the program is named here). -/
section
open Go.RowKit
set_option maxRecDepth 100000
structure Pr16 where
 e : Int
 p : Int
 c : Int
deriving DecidableEq
instance : Inhabited Pr16 := ⟨⟨0, 0, 0⟩⟩
structure Cu where
 n : Nat
 ns : Nat → Nd
 pm : Pr16
def newCu (n : Nat) : Cu := ⟨n, upd3 (fun _ => newNd) 0 (leadNd newNd 1), ⟨1, 0, 0⟩⟩
def Cu.Is (c : Cu) (n : Int) : Prop := 0 ≤ n ∧ n < c.n
instance (c : Cu) (n : Int) : Decidable (c.Is n) := inferInstanceAs (Decidable (_ ∧ _))
def Cu.at (c : Cu) (n : Int) : Nd := c.ns n.toNat
def Cu.first (c : Cu) : Nd := c.at c.pm.p
def Cu.put (c : Cu) (n : Int) (x : Nd) : Cu := ⟨c.n, upd3 c.ns n.toNat x, c.pm⟩
def nextPm (c : Cu) (n : Int) : Pr16 := ⟨c.pm.e + 1, n, sameLg (c.at n).lg c.first.lg⟩
def proCu (c : Cu) (n : Int) : (Pr16 × Int) × Cu :=
 if ¬ c.Is n then ((⟨0, 0, 0⟩, 6), c) else if n = c.pm.p then ((⟨0, 0, 0⟩, 7), c)
 else ((nextPm c n, 0), ⟨c.n, upd3 c.ns n.toNat (leadNd (c.at n) (c.pm.e + 1)), nextPm c n⟩)
def cpyCu (c : Cu) (n m : Int) : Int × Cu :=
 if ¬ c.Is n ∨ n = c.pm.p then (0, c) else ((copyNd (c.at n) c.first m).1, c.put n (copyNd (c.at n) c.first m).2)
def runCu (c : Cu) (n cn e : Int) (rd : Bool) (s : ByteArray) : Rp × Cu :=
 if ¬ c.Is n then (⟨6, 0, 0, []⟩, c) else ((runNd (c.at n) cn e rd s).1, c.put n (runNd (c.at n) cn e rd s).2)
def clsCu (c : Cu) (n cn : Int) : Bool × Cu :=
 if ¬ c.Is n then (false, c) else (decide (0 ≤ idxOp cn (c.at n).op), c.put n (closeNd (c.at n) cn))
def epCu (c : Cu) (n : Int) : Int := if c.Is n then (c.at n).ep else 0
def ldCu (c : Cu) (n : Int) : Bool := if c.Is n then (c.at n).ld else false
def lgCu (c : Cu) (n : Int) : List Lg := if c.Is n then (c.at n).lg else []
def lagCu (c : Cu) (n : Int) : Int := if ¬ c.Is n then 0 else if (c.at n).ep ≠ c.pm.e then c.first.lg.length else c.first.lg.length - (c.at n).lg.length
structure Ac7 where
 d : Int
 nd : Int
 c : Int
 m : Int
 e : Int
 rd : Bool
 t : ByteArray
instance : Inhabited Ac7 := ⟨⟨0, 0, 0, 0, 0, false, ⟨#[]⟩⟩⟩
structure Ac7.Fine (x : Ac7) : Prop where
 d : I64n x.d
 nd : I64n x.nd
 c : I64n x.c
 m : I64n x.m
 e : U64n x.e
structure To16 where
 r : Rp
 is : Bool
 p : Pr16
 e : Int
 many : Int
def noPr : Pr16 := ⟨0, 0, 0⟩
def epX (c : Cu) (x : Ac7) : Int := if x.e = 0 then epCu c x.nd else x.e
def actCu (c : Cu) (x : Ac7) : To16 × Cu :=
 if x.d = 0 then (⟨(runCu c x.nd x.c (epX c x) x.rd x.t).1, false, noPr, 0, 0⟩, (runCu c x.nd x.c (epX c x) x.rd x.t).2)
 else if x.d = 1 then (⟨noRp, (clsCu c x.nd x.c).1, noPr, 0, 0⟩, (clsCu c x.nd x.c).2)
 else if x.d = 2 then (⟨noRp, false, (proCu c x.nd).1.1, (proCu c x.nd).1.2, 0⟩, (proCu c x.nd).2)
 else (⟨noRp, false, noPr, 0, (cpyCu c x.nd x.m).1⟩, (cpyCu c x.nd x.m).2)
structure CuI (k : Nat) (c : Cu) : Prop where
 n1 : 1 ≤ c.n
 n6 : c.n ≤ 6
 nd : ∀ i, NdI k (c.ns i)
 is : c.Is c.pm.p
 e1 : 1 ≤ c.pm.e
 ek : c.pm.e ≤ k + 1
 fe : c.first.ep = c.pm.e
 fl : c.first.ld = true
 ep : ∀ i, i < c.n → (c.ns i).ep ≤ c.pm.e
 pre : ∀ i, i < c.n → (c.ns i).ep = c.pm.e → (c.ns i).lg = c.first.lg.take (c.ns i).lg.length
 one : ∀ i j, i < c.n → j < c.n → i ≠ j → (c.ns i).ld = true → (c.ns j).ld = true → (c.ns i).ep ≠ (c.ns j).ep
 c0 : 0 ≤ c.pm.c
 cl : c.pm.c ≤ c.first.lg.length
theorem Cu.Is.lt {c : Cu} {n : Int} (h : c.Is n) : n.toNat < c.n ∧ ((n.toNat : Nat) : Int) = n := by
 unfold Cu.Is at h; omega
theorem Cu.Is.ne {c : Cu} {n m : Int} (h : c.Is n) (k : c.Is m) (e : n ≠ m) : n.toNat ≠ m.toNat := by
 unfold Cu.Is at h k; omega
theorem CuI.new {n : Nat} (h1 : 1 ≤ n) (h6 : n ≤ 6) : CuI 0 (newCu n) := by
 have h0 : (newCu n).ns 0 = ⟨1, true, [], []⟩ := rfl; have hj : ∀ j, j ≠ 0 → (newCu n).ns j = newNd := fun j hj => upd3_ne (fun _ => newNd) (leadNd newNd 1) hj
 have hall : ∀ i, NdI 0 ((newCu n).ns i) := fun i => by
  by_cases hi : i = 0
  · subst hi; exact NdI.new.lead (e := 1) (by decide) (by decide)
  · rw [hj i hi]; exact NdI.new
 refine ⟨h1, h6, hall, ⟨Int.le_refl _, by show (0 : Int) < n; omega⟩, Int.le_refl _, Int.le_refl _, rfl, rfl, fun i _ => ?_, fun i _ _ => ?_, fun i j _ _ hij hi hj' => ?_, Int.le_refl _, Int.le_refl _⟩
 · by_cases hi : i = 0
   · subst hi; exact Int.le_refl _
   · rw [hj i hi]; exact Int.le_refl _
 · by_cases hi : i = 0
   · subst hi; rfl
   · rw [hj i hi]; rfl
 · by_cases h : i = 0
   · subst h; rw [hj j (fun e => hij e.symm)] at hj'; cases hj'
   · rw [hj i h] at hi; cases hi
section
variable {k : Nat} {c : Cu}
theorem CuI.more {k' : Nat} (h : CuI k c) (hk : k ≤ k') : CuI k' c := { h with nd := fun i => (h.nd i).more hk, ek := by have := h.ek; omega }
theorem CuI.pre_le (h : CuI k c) {i : Nat} (hi : i < c.n) (he : (c.ns i).ep = c.pm.e) : (c.ns i).lg.length ≤ c.first.lg.length := by
 have := congrArg List.length (h.pre i hi he); rw [List.length_take] at this; omega
theorem CuI.other (h : CuI k c) {n : Int} (hn : c.Is n) (hp : n ≠ c.pm.p) {x : Nd} (hx : NdI (k + 1) x) (he : x.ep ≤ c.pm.e) (hpre : x.ep = c.pm.e → x.lg = c.first.lg.take x.lg.length) (ho : x.ld = true → (c.at n).ld = true ∧ x.ep = (c.at n).ep) : CuI (k + 1) (c.put n x) := by
 obtain ⟨hn1, hn2⟩ := hn.lt; obtain ⟨hp1, hp2⟩ := h.is.lt; have hne : c.pm.p.toNat ≠ n.toNat := fun e => hp (by omega); have hf : (c.put n x).first = c.first := upd3_ne c.ns x hne; have hat : (c.put n x).ns n.toNat = x := upd3_at _ _ _; have hot : ∀ j, j ≠ n.toNat → (c.put n x).ns j = c.ns j := fun j hj => upd3_ne c.ns x hj; refine ⟨h.n1, h.n6, fun i => ?_, h.is, h.e1, by have := h.ek; show c.pm.e ≤ _; omega, by rw [hf]; exact h.fe, by rw [hf]; exact h.fl, fun i hi => ?_, fun i hi => ?_, fun i j hi hj hij => ?_, h.c0, by rw [hf]; exact h.cl⟩
 · by_cases hi : i = n.toNat
   · subst hi; rw [hat]; exact hx
   · rw [hot i hi]; exact (h.nd i).more (Nat.le_succ k)
 · by_cases hi' : i = n.toNat
   · subst hi'; rw [hat]; exact he
   · rw [hot i hi']; exact h.ep i hi
 · rw [hf]; by_cases hi' : i = n.toNat
   · subst hi'; rw [hat]; exact hpre
   · rw [hot i hi']; exact h.pre i hi
 · by_cases hi' : i = n.toNat
   · subst hi'; rw [hat, hot j (fun e => hij e.symm)]; intro a b; obtain ⟨a1, a2⟩ := ho a; rw [a2]; exact h.one _ j hi hj hij a1 b
   · rw [hot i hi']; by_cases hj' : j = n.toNat
     · subst hj'; rw [hat]; intro a b; obtain ⟨b1, b2⟩ := ho b; rw [b2]; exact h.one i _ hi hj hij a b1
     · rw [hot j hj']; exact h.one i j hi hj hij
theorem CuI.grown (h : CuI k c) {x : Nd} (hx : NdI (k + 1) x) (he : x.ep = c.first.ep) (hl : x.ld = c.first.ld) (es : List Lg) (hg : x.lg = c.first.lg ++ es) : CuI (k + 1) (c.put c.pm.p x) := by
 obtain ⟨hp1, hp2⟩ := h.is.lt; have hf : (c.put c.pm.p x).first = x := upd3_at _ _ _; have hat : (c.put c.pm.p x).ns c.pm.p.toNat = x := upd3_at _ _ _; have hot : ∀ j, j ≠ c.pm.p.toNat → (c.put c.pm.p x).ns j = c.ns j := fun j hj => upd3_ne c.ns x hj; have hep : x.ep = (c.ns c.pm.p.toNat).ep := he; have hld : x.ld = (c.ns c.pm.p.toNat).ld := hl; refine ⟨h.n1, h.n6, fun i => ?_, h.is, h.e1, by have := h.ek; show c.pm.e ≤ _; omega, by rw [hf, he]; exact h.fe, by rw [hf, hl]; exact h.fl, fun i hi => ?_, fun i hi => ?_, fun i j hi hj hij => ?_, h.c0, ?_⟩
 · by_cases hi : i = c.pm.p.toNat
   · subst hi; rw [hat]; exact hx
   · rw [hot i hi]; exact (h.nd i).more (Nat.le_succ k)
 · by_cases hi' : i = c.pm.p.toNat
   · subst hi'; rw [hat, he]; exact Int.le_of_eq h.fe
   · rw [hot i hi']; exact h.ep i hi
 · rw [hf]; by_cases hi' : i = c.pm.p.toNat
   · subst hi'; rw [hat]; intro _; rw [List.take_length]
   · rw [hot i hi']; intro a; have h1 := h.pre_le hi a; have h2 := h.pre i hi a; rw [hg, List.take_append_of_le_length h1]; exact h2
 · by_cases hi' : i = c.pm.p.toNat
   · subst hi'; rw [hat, hot j (fun e => hij e.symm), hep, hld]; exact h.one _ j hi hj hij
   · rw [hot i hi']; by_cases hj' : j = c.pm.p.toNat
     · subst hj'; rw [hat, hep, hld]; exact h.one i _ hi hj hij
     · rw [hot j hj']; exact h.one i j hi hj hij
 · have := h.cl; rw [hf, hg, List.length_append]; show c.pm.c ≤ _; omega
theorem CuI.run (h : CuI k c) {n cn e : Int} {rd : Bool} {s : ByteArray} (hs : Sm s) (hc : I64n cn) : CuI (k + 1) (runCu c n cn e rd s).2 := by
 unfold runCu; by_cases hn : c.Is n
 · rw [if_neg (Decidable.not_not.2 hn)]; have hf := run_fenced (c.at n) cn e rd s; have hx : NdI (k + 1) (runNd (c.at n) cn e rd s).2 := (h.nd _).run hs hc.1 hc.2; obtain ⟨es, hes, _⟩ := hf.grew.lg; by_cases hp : n = c.pm.p
   · subst hp; exact h.grown hx hf.grew.ep hf.grew.ld es hes
   · refine h.other hn hp hx (by rw [hf.grew.ep]; exact h.ep _ hn.lt.1) (fun he => ?_) fun hl => ⟨by rw [← hf.grew.ld]; exact hl, hf.grew.ep⟩; by_cases hsame : (runNd (c.at n) cn e rd s).2.lg = (c.at n).lg
     · rw [hsame]; exact h.pre _ hn.lt.1 (by rw [← he]; exact hf.grew.ep.symm)
     · obtain ⟨_, _, hl, _⟩ := hf.who hsame; refine absurd ?_ (h.one _ _ hn.lt.1 h.is.lt.1 (hn.ne h.is hp) hl h.fl); rw [show (c.ns n.toNat).ep = c.pm.e from by rw [← he]; exact hf.grew.ep.symm]; exact h.fe.symm
 · rw [if_pos hn]; exact h.more (Nat.le_succ k)
theorem CuI.close (h : CuI k c) (n cn : Int) : CuI (k + 1) (clsCu c n cn).2 := by
 unfold clsCu; by_cases hn : c.Is n
 · rw [if_neg (Decidable.not_not.2 hn)]; have hx : NdI (k + 1) (closeNd (c.at n) cn) := ((h.nd _).close cn).more (Nat.le_succ k); by_cases hp : n = c.pm.p
   · subst hp; exact h.grown hx rfl rfl [] (List.append_nil _).symm
   · exact h.other hn hp hx (h.ep _ hn.lt.1) (fun he => h.pre _ hn.lt.1 he) fun hl => ⟨hl, rfl⟩
 · rw [if_pos hn]; exact h.more (Nat.le_succ k)
theorem take_take_len {l : List Lg} (m : Nat) : l.take m = l.take (l.take m).length := by
 rw [List.length_take]; rcases Nat.le_total m l.length with h | h
 · rw [Nat.min_eq_left h]
 · rw [Nat.min_eq_right h, List.take_length, List.take_of_length_le h]
theorem copy_does (n f : Nd) (m : Int) : (copyNd n f m = (0, n) ∧ (f.ep < n.ep ∨ (f.ep = n.ep ∧ n.ld = true))) ∨ (n.ep ≤ f.ep ∧ (copyNd n f m).2.ep = f.ep ∧ (copyNd n f m).2.ld = false ∧ (copyNd n f m).2.lg = f.lg.take (sameLg n.lg f.lg + manyNd n f m) ∧ (copyNd n f m).1 = manyNd n f m) := by
 unfold copyNd; by_cases h : f.ep < n.ep ∨ (f.ep = n.ep ∧ n.ld = true)
 · rw [if_pos h]; exact .inl ⟨rfl, h⟩
 · rw [if_neg h]; refine .inr ⟨by omega, ?_, ?_, rfl, rfl⟩
   · unfold turnNd; by_cases h2 : n.ep < f.ep
     · rw [if_pos h2]
     · rw [if_neg h2]; show n.ep = f.ep; omega
   · unfold turnNd; by_cases h2 : n.ep < f.ep
     · rw [if_pos h2]
     · rw [if_neg h2]
       cases hl : n.ld with
       | false => rfl
       | true => exact absurd (.inr ⟨by omega, hl⟩) h
theorem CuI.copy (h : CuI k c) (n m : Int) : CuI (k + 1) (cpyCu c n m).2 := by
 unfold cpyCu; by_cases hn : ¬ c.Is n ∨ n = c.pm.p
 · rw [if_pos hn]; exact h.more (Nat.le_succ k)
 · rw [if_neg hn]; have hi : c.Is n := Decidable.not_not.1 fun e => hn (.inl e); have hp : n ≠ c.pm.p := fun e => hn (.inr e); have hx : NdI (k + 1) (copyNd (c.at n) c.first m).2 := ((h.nd _).copy (h.nd _) m).more (Nat.le_succ k); rcases copy_does (c.at n) c.first m with ⟨e, _⟩ | ⟨h1, h2, h3, h4, _⟩
   · rw [e] at hx ⊢; exact h.other hi hp hx (h.ep _ hi.lt.1) (fun he => h.pre _ hi.lt.1 he) fun hl => ⟨hl, rfl⟩
   · refine h.other hi hp hx (by rw [h2]; exact Int.le_of_eq h.fe) (fun _ => ?_) fun hl => by rw [h3] at hl; cases hl
     rw [h4]; exact take_take_len _
theorem CuI.lead_ (h : CuI k c) {n : Int} (hn : c.Is n) : leadNd (c.at n) (c.pm.e + 1) = ⟨c.pm.e + 1, true, (c.at n).lg, []⟩ := by
 unfold leadNd; have := h.ep _ hn.lt.1; rw [if_neg (by show ¬ c.pm.e + 1 < (c.ns n.toNat).ep; omega)]
theorem CuI.promote (h : CuI k c) (hk : k ≤ 100000) (n : Int) : CuI (k + 1) (proCu c n).2 := by
 unfold proCu; by_cases hn : c.Is n
 · rw [if_neg (Decidable.not_not.2 hn)]; by_cases hp : n = c.pm.p
   · rw [if_pos hp]; exact h.more (Nat.le_succ k)
   · rw [if_neg hp, h.lead_ hn]; have hek := h.ek; have he1 := h.e1; obtain ⟨x, hx⟩ : ∃ x, (⟨c.pm.e + 1, true, (c.at n).lg, []⟩ : Nd) = x := ⟨_, rfl⟩; have hxe : x.ep = c.pm.e + 1 := by rw [← hx]
     have hxd : x.ld = true := by rw [← hx]
     have hxl : x.lg = (c.at n).lg := by rw [← hx]
     have hxi : NdI (k + 1) x := by
      have := ((h.nd n.toNat).lead (e := c.pm.e + 1) (by omega) (by omega)).more (Nat.le_succ k); rw [show leadNd (c.ns n.toNat) (c.pm.e + 1) = x from (h.lead_ hn).trans hx] at this; exact this
     rw [hx]; dsimp only; have hat : upd3 c.ns n.toNat x n.toNat = x := upd3_at _ _ _; have hot : ∀ j, j ≠ n.toNat → upd3 c.ns n.toNat x j = c.ns j := fun j hj => upd3_ne c.ns x hj; have hs := sameLg_le (c.at n).lg c.first.lg; refine ⟨h.n1, h.n6, fun i => ?_, hn, by show (1 : Int) ≤ c.pm.e + 1; omega, by show c.pm.e + 1 ≤ _; omega, by show (upd3 c.ns n.toNat x n.toNat).ep = c.pm.e + 1; rw [hat]; exact hxe, by show (upd3 c.ns n.toNat x n.toNat).ld = true; rw [hat]; exact hxd, fun i hi => ?_, fun i hi => ?_, fun i j hi hj hij => ?_, ?_, ?_⟩
     · by_cases hi : i = n.toNat
       · subst hi; show NdI _ (upd3 _ _ _ _); rw [hat]; exact hxi
       · show NdI _ (upd3 _ _ _ _); rw [hot i hi]; exact (h.nd i).more (Nat.le_succ k)
     · show (upd3 c.ns n.toNat x i).ep ≤ c.pm.e + 1; by_cases hi' : i = n.toNat
       · subst hi'; rw [hat]; omega
       · rw [hot i hi']; have := h.ep i hi; omega
     · show (upd3 c.ns n.toNat x i).ep = c.pm.e + 1 → (upd3 c.ns n.toNat x i).lg = (upd3 c.ns n.toNat x n.toNat).lg.take (upd3 c.ns n.toNat x i).lg.length; by_cases hi' : i = n.toNat
       · subst hi'; intro _; rw [List.take_length]
       · rw [hot i hi']; intro e; have := h.ep i hi; omega
     · show (upd3 c.ns n.toNat x i).ld = true → (upd3 c.ns n.toNat x j).ld = true → (upd3 c.ns n.toNat x i).ep ≠ (upd3 c.ns n.toNat x j).ep; by_cases hi' : i = n.toNat
       · subst hi'; rw [hat, hot j (fun e => hij e.symm)]; intro _ _ e; have := h.ep j hj; omega
       · rw [hot i hi']; by_cases hj' : j = n.toNat
         · subst hj'; rw [hat]; intro _ _ e; have := h.ep i hi; omega
         · rw [hot j hj']; exact h.one i j hi hj hij
     · show (0 : Int) ≤ (sameLg (c.at n).lg c.first.lg : Nat); omega
     · show ((sameLg (c.at n).lg c.first.lg : Nat) : Int) ≤ ((upd3 c.ns n.toNat x n.toNat).lg.length : Nat); rw [hat, hxl]; omega
 · rw [if_pos hn]; exact h.more (Nat.le_succ k)
theorem CuI.act (h : CuI k c) (hk : k ≤ 100000) {x : Ac7} (hx : x.Fine) (ht : Sm x.t) : CuI (k + 1) (actCu c x).2 := by
 unfold actCu; split
 · exact h.run ht hx.c
 split
 · exact h.close _ _
 split
 · exact h.promote hk _
 · exact h.copy _ _
end
end

/- The document's layer 15: entries that are compared; Same, Alike: contracts. -/
section
open Go.RowKit
set_option maxRecDepth 100000
theorem neq_ents (T : TypeId) (hT : T = 100) (k k' : Int) (t t' : ByteArray) (w : World) : (binOp .neq T (.agg #[.int .u64 k, .string t]) (.agg #[.int .u64 k', .string t'])).run Tryz.prog w = .ok (.bool (!decide ((⟨k, t⟩ : Lg) = ⟨k', t'⟩))) w := by
 subst hT; have hf : (Tryz.prog.fieldsOf 100) = (match Tryz.prog.underlying 100 with | some (.struct fs) => fs | _ => #[]) := rfl; have hu := Tryz.underlying100; rw [hu] at hf; rw [run_neq_struct, run_equalIn_agg (P := Tryz.prog) w 9999 _ _ _ (by rw [hf]; exact hu) (by kernel_rfl), hf]; have h9 := Tryz.underlying9; have hz9 := Tryz.sizeOf9; have ha9 := Tryz.isAgg9; have h8 := Tryz.underlying32; have hz8 := Tryz.sizeOf32; have ha8 := Tryz.isAgg32; have p1 : ∀ (x : Int) (u : ByteArray) (w : World), (part 32 #[.int .u64 x, .string u] 0).run Tryz.prog w = .ok (.int .u64 x) w := fun x u w => by simp [part, hz8, ha8]
 have p2 : ∀ (x : Int) (u : ByteArray) (w : World), (part 9 #[.int .u64 x, .string u] 1).run Tryz.prog w = .ok (.string u) w := fun x u w => by simp [part, hz9, ha9]
 have e1 : ∀ (x y : Int) (w : World), (Op.equalIn 9999 32 (.int .u64 x) (.int .u64 y)).run Tryz.prog w = .ok (x == y) w := fun x y w => run_equalIn_int w 9998 32 .u64 .u64 x y h8; have e2 : ∀ (x y : ByteArray) (w : World), (Op.equalIn 9999 9 (.string x) (.string y)).run Tryz.prog w = .ok (x.toList == y.toList) w := fun x y w => run_equalIn_string w 9998 9 x y h9; have ht : t.toList = t'.toList ↔ t = t' := ⟨bytes_ext, fun h => by rw [h]⟩; by_cases h1 : k = k'
 · by_cases h2 : t = t'
   · simp [Op.eqFields, p1, p2, e1, e2, h1, h2]
   · simp [Op.eqFields, p1, p2, e1, e2, ht, h1, h2]
 · simp [Op.eqFields, p1, p2, e1, e2, h1]
theorem eql_ents (T : TypeId) (hT : T = 100) (k k' : Int) (t t' : ByteArray) (w : World) : (binOp .eql T (.agg #[.int .u64 k, .string t]) (.agg #[.int .u64 k', .string t'])).run Tryz.prog w = .ok (.bool (decide ((⟨k, t⟩ : Lg) = ⟨k', t'⟩))) w := by
 subst hT; have hf : (Tryz.prog.fieldsOf 100) = (match Tryz.prog.underlying 100 with | some (.struct fs) => fs | _ => #[]) := rfl; have hu := Tryz.underlying100; rw [hu] at hf; rw [run_eql_struct, run_equalIn_agg (P := Tryz.prog) w 9999 _ _ _ (by rw [hf]; exact hu) (by kernel_rfl), hf]; have h9 := Tryz.underlying9; have hz9 := Tryz.sizeOf9; have ha9 := Tryz.isAgg9; have h8 := Tryz.underlying32; have hz8 := Tryz.sizeOf32; have ha8 := Tryz.isAgg32; have p1 : ∀ (x : Int) (u : ByteArray) (w : World), (part 32 #[.int .u64 x, .string u] 0).run Tryz.prog w = .ok (.int .u64 x) w := fun x u w => by simp [part, hz8, ha8]
 have p2 : ∀ (x : Int) (u : ByteArray) (w : World), (part 9 #[.int .u64 x, .string u] 1).run Tryz.prog w = .ok (.string u) w := fun x u w => by simp [part, hz9, ha9]
 have e1 : ∀ (x y : Int) (w : World), (Op.equalIn 9999 32 (.int .u64 x) (.int .u64 y)).run Tryz.prog w = .ok (x == y) w := fun x y w => run_equalIn_int w 9998 32 .u64 .u64 x y h8; have e2 : ∀ (x y : ByteArray) (w : World), (Op.equalIn 9999 9 (.string x) (.string y)).run Tryz.prog w = .ok (x.toList == y.toList) w := fun x y w => run_equalIn_string w 9998 9 x y h9; have ht : t.toList = t'.toList ↔ t = t' := ⟨bytes_ext, fun h => by rw [h]⟩; by_cases h1 : k = k'
 · by_cases h2 : t = t'
   · simp [Op.eqFields, p1, p2, e1, e2, h1, h2]
   · simp [Op.eqFields, p1, p2, e1, e2, ht, h1, h2]
 · simp [Op.eqFields, p1, p2, e1, e2, h1]
set_option maxHeartbeats 2000000 in
theorem rsame15_ok (A A' : Option Addr) (n n' c c' : Nat) (xs ys : List Lg) (w : World) (hx : LR w A n xs) (hy : LR w A' n' ys) (hn : n ≤ 1000000) (hn' : n' ≤ 1000000) (b : Bool) (hb : Hid (decide (xs = ys) = b)) :
 Calls Tryz.prog 19 #[.slice A n c, .slice A' n' c'] w fun e w' => e = .returned (.bool b) ∧ ∃ m, w' = w.drewN m := by
 by_cases hll : n = n'
 · subst hll; have hlx := hid hx.len; have hly := hid hy.len; go_enter Tryz.func19, Tryz.ntmps19
   go_wp2
   go_loopw [5] (fun i wr => ∃ k m : Nat, k ≤ n ∧ i = .int .i64 k ∧ Hid (xs.take k = ys.take k) ∧ wr = w.drewN m) (fun i _ => n - (intOf i).toNat)
   case atStart => exact ⟨0, 0, Nat.zero_le _, rfl, hid (by simp), rfl⟩
   case round =>
    obtain ⟨k, m, hk, rfl, he, hw⟩ := hrel; have hx' : LR wr A n xs := by subst hw; exact hx.next (kp_drewN _ _)
    have hy' : LR wr A' n ys := by subst hw; exact hy.next (kp_drewN _ _)
    have HW := hid hw; clear hw hx hy; by_cases hlt : k < n
    · have hkx : k < xs.length := by rw [hlx.out]; omega
      have hky : k < ys.length := by rw [hly.out]; omega
      obtain ⟨ad, rfl, _, hc⟩ := hx'.at_ hkx; obtain ⟨ad', rfl, _, hc'⟩ := hy'.at_ hky; obtain ⟨c0, c1⟩ := hc _ (Below.refl _ _); obtain ⟨d0, d1⟩ := hc' _ (Below.refl _ _); clear hc hc' hx' hy'; have hE := fun u => neq_ents 100 rfl xs[k].e ys[k].e xs[k].t ys[k].t u; by_cases hee : xs[k] = ys[k]
      · have hsn : Hid (xs.take (k + 1) = ys.take (k + 1)) := hid (take_same6 hkx hky he.out hee)
        have hd : (!decide ((⟨xs[k].e, xs[k].t⟩ : Lg) = ⟨ys[k].e, ys[k].t⟩)) = false := by
         rw [decide_eq_true (by exact hee)]; rfl
        rw [hd] at hE; clear hee hd; generalize xs[k].e = x at *; generalize ys[k].e = y at *; generalize xs[k].t = s at *; generalize ys[k].t = t at *
        go_wp2
        go_quiet (fail)
        go_wp2
        go_roundw
        case rel => exact ⟨k + 1, m + nq, by omega, by go_num, hsn, by rw [HW.out, World.drewN_drewN]⟩
        case measure => simp [intOf]; omega
      · have hf : b = false := by
         rw [← hb.out]; simp only [decide_eq_false_iff_not]; rintro rfl; exact hee rfl
        subst hf
        have hd : (!decide ((⟨xs[k].e, xs[k].t⟩ : Lg) = ⟨ys[k].e, ys[k].t⟩)) = true := by
         rw [decide_eq_false (by exact hee)]; rfl
        rw [hd] at hE; clear hee hd; generalize xs[k].e = x at *; generalize ys[k].e = y at *; generalize xs[k].t = s at *; generalize ys[k].t = t at *
        go_wp2
        go_quiet (fail)
        go_wp2
        go_ret; exact ⟨rfl, m + nq, by rw [HW.out, World.drewN_drewN]⟩
    · have hf : b = true := by
       rw [← hb.out]; have h1 := he.out; rw [List.take_of_length_le (by rw [hlx.out]; omega), List.take_of_length_le (by rw [hly.out]; omega)] at h1; simp [h1]
      subst hf
      go_wp2
      go_ret; exact ⟨rfl, m, HW.out⟩
 · have hf : b = false := by
    rw [← hb.out]; simp only [decide_eq_false_iff_not]; rintro rfl; have := hx.len; have := hy.len; omega
   subst hf; have ht : ((n : Int) != (n' : Int)) = true := by rw [bne_iff_ne]; omega
   go_enter Tryz.func19, Tryz.ntmps19
   go_wp2
   go_ret; exact ⟨rfl, 0, rfl⟩
theorem ralike15_ok (r : Rp) (A A' : Option Addr) (m m' d d' : Nat) (w : World) (hx : XR w A m r.ts) (hy : XR w A' m' r.ts) (hm : m ≤ 1000000) (hm' : m' ≤ 1000000) :
 Calls Tryz.prog 14 #[.agg #[.int .i64 r.e, .int .u64 r.ep, .int .u64 r.pl, .slice A m d], .agg #[.int .i64 r.e, .int .u64 r.ep, .int .u64 r.pl, .slice A' m' d']] w fun e w' => e = .returned (.bool true) ∧ Below w.heap.size w w' := by
 obtain ⟨e, ep, pl, ts⟩ := r; dsimp only at hx hy ⊢; obtain ⟨w2, hw2⟩ : ∃ u, (w.alloc (.cells #[.int .i64 e, .int .u64 ep, .int .u64 pl, .slice A m d] 37)).alloc (.cells #[.int .i64 e, .int .u64 ep, .int .u64 pl, .slice A' m' d'] 37) = u := ⟨_, rfl⟩; have k2 : Below w.heap.size w w2 := hw2 ▸ kp_alloc (kp_new _ _) _; have HQ := hid (texts6_ok A A' m m' d d' ts ts w2 (hx.next k2) (hy.next k2) hm hm' true (hid (by simp))); have HW := hid hw2; have HK := hid k2; clear hx hy hw2 k2; go_enter Tryz.func14, Tryz.ntmps14; go_wp2_with fail; rw [HW.out]; refine HQ.out.mono ?_; rintro e3 w3 ⟨rfl, q, rfl⟩; have HB := hid (HK.out.trans ((kp_drewN w2 q).mono HK.out.size)); generalize w2.drewN q = w4 at *; clear HQ; go_wp2_with fail; go_ret; exact ⟨rfl, HB.out⟩
end
end Go.Proofs.YtdhnpmagapbmhaaGreatDoor
