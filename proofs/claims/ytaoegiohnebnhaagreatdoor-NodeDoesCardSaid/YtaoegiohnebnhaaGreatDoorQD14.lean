/-
  Contracts and plain functions that the law stands on, part 14 of 24.
-/
import Derived.Test.YtaoegiohnebnhaaGreatDoorQD13
namespace Go.Proofs.YtaoegiohnebnhaaGreatDoor
/- The document's layer 15: Run: contract. -/
section
open Go.RowKit
set_option maxRecDepth 100000

theorem XR.poke {u u' : World} {A : Option Addr} {m rb : Nat} {cs : Array Value} {t : TypeId} {ss : List ByteArray} (h : XR u A m ss) (hb : u.heap[rb]? = some (.cells cs t (0, 0))) (hns : ∀ (i : Nat) (s : ByteArray), cs[i]? ≠ some (.string s)) (hk : ∀ k, k ≠ rb → u'.heap[k]? = u.heap[k]?) (hz : u.heap.size ≤ u'.heap.size) : XR u' A m ss := by
  refine ⟨h.len, ?_⟩
  rcases h.rd with h1 | ⟨ad, e, hlt, hc⟩
  · exact .inl h1
  · cases ss with
    | nil => exact .inl rfl
    | cons s r =>
      have h0 := hc 0 (.string s) (by simp [tvs])
      have hne : ad.block ≠ rb := fun e2 => by
        have e3 : (ad.add 0).block = rb := by rw [add_block]; exact e2
        simp only [World.cell?, e3, hb] at h0
        split at h0
        · cases h0
        · exact hns _ _ h0
      exact .inr ⟨ad, e, Nat.lt_of_lt_of_le hlt hz, fun j x hx => (World.cell?_of_block (by rw [add_block]; exact hk _ hne)).trans (hc j x hx)⟩
def rpV (r : Rp) (A : Option Addr) (m d : Nat) : Value := .agg #[.int .i64 r.e, .int .u64 r.ep, .int .u64 r.pl, .slice A m d]
section
variable {b : Nat} {n : Nd} {S : Nat → Prop} {w : World} {k : Nat}
set_option maxHeartbeats 32000000 in
theorem rrun15_ok (c e : Int) (rd : Bool) (s : ByteArray) (h : (RN b n).p S w) (hI : NdI k n) (hk : k ≤ 800) (hs : Sm s) (hc0 : -9223372036854775808 ≤ c) (hc1 : c ≤ 9223372036854775807) :
    Calls Tryz.prog 33 #[.pointer (some ⟨b, 0, none⟩), .int .i64 c, .int .u64 e, .bool rd, .string s] w fun e' w' => ∃ A m d, e' = .returned (rpV (runNd n c e rd s).1 A m d) ∧ XR w' A m (runNd n c e rd s).1.ts ∧ Turn (RN b (runNd n c e rd s).2) S w w' := by
  have HT := Lib.hid h
  have HI := Lib.hid hI
  have hown := RN.own h
  have hbw := (RN b n).lt h b hown
  obtain ⟨w2, hw2⟩ : ∃ u, w.alloc (.cells #[.int .i64 0, .int .u64 0, .int .u64 0, .slice none 0 0] 36) = u := ⟨_, rfl⟩
  have k2 : Below w.heap.size w w2 := hw2 ▸ kp_new _ _
  have hr2 : w2.heap[w.heap.size]? = some (.cells #[.int .i64 0, .int .u64 0, .int .u64 0, .slice none 0 0] 36 (0, 0)) := hw2 ▸ heap_alloc_new w _
  obtain ⟨rb, hrb⟩ : ∃ x, w.heap.size = x := ⟨_, rfl⟩
  have hz2 : w2.heap.size = rb + 1 := by rw [← hw2, ← hrb]; simp
  have HCS := Lib.hid (rclass_ok s w2 (by unfold Sm at hs; unfold maxLen; omega))
  obtain ⟨is, his⟩ : ∃ x, clsT s = x := ⟨_, rfl⟩
  have hcs : classA s.data.toList = is := his
  rw [hcs] at HCS
  have HW2 := Lib.hid hw2
  have HRB := Lib.hid hrb
  rw [hrb] at hr2
  have HR2 := Lib.hid hr2
  have HK2 := Lib.hid k2
  have HZ2 := Lib.hid hz2
  have HS := Lib.hid hs
  have HC := Lib.hid (And.intro hc0 hc1)
  have hrun : runNd n c e rd s = if whyNd n e rd is ≠ 0 then (⟨whyNd n e rd is, n.ep, n.lg.length, []⟩, n) else if is ≠ 1 then (⟨(doNd n c is s).1, (doNd n c is s).2.ep, (doNd n c is s).2.lg.length, []⟩, (doNd n c is s).2) else (⟨0, n.ep, n.lg.length, rdT s (tabN n.lg (waitsNd n c))⟩, n) := by unfold runNd; rw [his]
  rw [hrun]
  clear h hI hs hc0 hc1 hw2 k2 hr2 hz2 hcs his hrun hrb
  have ENTRY : True := trivial
  by_cases he : e ≠ n.ep
  · have hy : whyNd n e rd is = 8 := if_pos he
    rw [hy, if_pos (by decide)]
    have he' : (e == n.ep) = false := by simpa using he
    clear hy he
    obtain ⟨AL, nl, cl, AO, no, co, os, hx0⟩ := HT.out
    have hnl : n.lg.length = nl := hx0.lg.len
    have hnl2 : nl ≤ 200 := by rw [← hnl]; exact HI.out.lg
    have hwp : IntKind.u64.wrap (nl : Int) = nl := by rw [IntKind.wrap_u64]; omega
    rw [hnl]
    have HX := Lib.hid hx0
    have HNL := Lib.hid hnl
    clear hx0 hnl
    go_enter Tryz.func33, Tryz.ntmps33
    go_wp2_with fail
    rw [HW2.out, HRB.out]
    refine HCS.out.mono ?_
    rintro e3 w3 ⟨rfl, k3⟩
    have hb3 : Below w.heap.size w w3 := HK2.out.trans (k3.mono HK2.out.size)
    have hx3 := HX.out.keep (fun k e => hb3.block k (HX.out.lt k e)) hb3.size
    obtain ⟨c0, c1, c2, c3, _⟩ := hx3.tops
    have hr3 : w3.heap[rb]? = some (.cells #[.int .i64 0, .int .u64 0, .int .u64 0, .slice none 0 0] 36 (0, 0)) := (k3.block rb (by have := HZ2.out; omega)).trans HR2.out
    obtain ⟨r0, f0⟩ := cellsAt hr3 0 (v := .int .i64 0) rfl
    obtain ⟨r1, f1⟩ := cellsAt hr3 1 (v := .int .u64 0) rfl
    obtain ⟨r2, f2⟩ := cellsAt hr3 2 (v := .int .u64 0) rfl
    obtain ⟨r3, f3⟩ := cellsAt hr3 3 (v := .slice none 0 0) rfl
    have hbr : b ≠ rb := by have := HRB.out; omega
    have HB3 := Lib.hid hb3
    have HX3 := Lib.hid hx3
    have HR3 := Lib.hid hr3
    have HZ3 : Hid (w2.heap.size ≤ w3.heap.size) := Lib.hid k3.size
    clear hb3 hx3 hr3 k3 HCS
    go_wp2_with fail
    go_region
    all_goals
      go_wp2_with fail
      refine bodyPost_ret (v := .agg #[.int .i64 8, .int .u64 n.ep, .int .u64 nl, .slice none 0 0]) ?_ rfl ⟨none, 0, 0, rfl, XR.nil _, ?_⟩
      · rw [results_cell1 rfl]
        go_simp
      · refine Turn.same HT.out ?_
        exact ((((HB3.out.setCell (Nat.le_of_eq HRB.out) _).setCell (Nat.le_of_eq HRB.out) _).setCell (Nat.le_of_eq HRB.out) _).setCell (Nat.le_of_eq HRB.out) _).drew
  have he0 : e = n.ep := by simpa using he
  subst he0
  by_cases h2 : is = 0 ∨ (rd = true ∧ is ≠ 1)
  · have hy : whyNd n n.ep rd is = 2 := by unfold whyNd; rw [if_neg (by simp), if_pos h2]
    rw [hy, if_pos (by decide)]
    clear hy he
    by_cases h0 : is = 0
    · subst h0
      clear h2
      obtain ⟨AL, nl, cl, AO, no, co, os, hx0⟩ := HT.out
      have hnl : n.lg.length = nl := hx0.lg.len
      have hnl2 : nl ≤ 200 := by rw [← hnl]; exact HI.out.lg
      have hwp : IntKind.u64.wrap (nl : Int) = nl := by rw [IntKind.wrap_u64]; omega
      rw [hnl]
      have HX := Lib.hid hx0
      have HNL := Lib.hid hnl
      clear hx0 hnl
      go_enter Tryz.func33, Tryz.ntmps33
      go_wp2_with fail
      rw [HW2.out, HRB.out]
      refine HCS.out.mono ?_
      rintro e3 w3 ⟨rfl, k3⟩
      have hb3 : Below w.heap.size w w3 := HK2.out.trans (k3.mono HK2.out.size)
      have hx3 := HX.out.keep (fun k e => hb3.block k (HX.out.lt k e)) hb3.size
      obtain ⟨c0, c1, c2, c3, _⟩ := hx3.tops
      have hr3 : w3.heap[rb]? = some (.cells #[.int .i64 0, .int .u64 0, .int .u64 0, .slice none 0 0] 36 (0, 0)) := (k3.block rb (by have := HZ2.out; omega)).trans HR2.out
      obtain ⟨r0, f0⟩ := cellsAt hr3 0 (v := .int .i64 0) rfl
      obtain ⟨r1, f1⟩ := cellsAt hr3 1 (v := .int .u64 0) rfl
      obtain ⟨r2, f2⟩ := cellsAt hr3 2 (v := .int .u64 0) rfl
      obtain ⟨r3, f3⟩ := cellsAt hr3 3 (v := .slice none 0 0) rfl
      have hbr : b ≠ rb := by have := HRB.out; omega
      have HB3 := Lib.hid hb3
      have HX3 := Lib.hid hx3
      have HR3 := Lib.hid hr3
      have HZ3 : Hid (w2.heap.size ≤ w3.heap.size) := Lib.hid k3.size
      clear hb3 hx3 hr3 k3 HCS
      go_wp2_with fail
      go_region
      all_goals
        go_wp2_with fail
        refine bodyPost_ret (v := .agg #[.int .i64 2, .int .u64 n.ep, .int .u64 nl, .slice none 0 0]) ?_ rfl ⟨none, 0, 0, rfl, XR.nil _, ?_⟩
        · rw [results_cell1 rfl]
          go_simp
        · refine Turn.same HT.out ?_
          exact ((((HB3.out.setCell (Nat.le_of_eq HRB.out) _).setCell (Nat.le_of_eq HRB.out) _).setCell (Nat.le_of_eq HRB.out) _).setCell (Nat.le_of_eq HRB.out) _).drew
    · obtain ⟨rfl, h1⟩ : rd = true ∧ is ≠ 1 := h2.resolve_left h0
      have g0 : (is == 0) = false := by simpa using h0
      have g1 : (is == 1) = false := by simpa using h1
      clear h2 h0 h1
      obtain ⟨AL, nl, cl, AO, no, co, os, hx0⟩ := HT.out
      have hnl : n.lg.length = nl := hx0.lg.len
      have hnl2 : nl ≤ 200 := by rw [← hnl]; exact HI.out.lg
      have hwp : IntKind.u64.wrap (nl : Int) = nl := by rw [IntKind.wrap_u64]; omega
      rw [hnl]
      have HX := Lib.hid hx0
      have HNL := Lib.hid hnl
      clear hx0 hnl
      go_enter Tryz.func33, Tryz.ntmps33
      go_wp2_with fail
      rw [HW2.out, HRB.out]
      refine HCS.out.mono ?_
      rintro e3 w3 ⟨rfl, k3⟩
      have hb3 : Below w.heap.size w w3 := HK2.out.trans (k3.mono HK2.out.size)
      have hx3 := HX.out.keep (fun k e => hb3.block k (HX.out.lt k e)) hb3.size
      obtain ⟨c0, c1, c2, c3, _⟩ := hx3.tops
      have hr3 : w3.heap[rb]? = some (.cells #[.int .i64 0, .int .u64 0, .int .u64 0, .slice none 0 0] 36 (0, 0)) := (k3.block rb (by have := HZ2.out; omega)).trans HR2.out
      obtain ⟨r0, f0⟩ := cellsAt hr3 0 (v := .int .i64 0) rfl
      obtain ⟨r1, f1⟩ := cellsAt hr3 1 (v := .int .u64 0) rfl
      obtain ⟨r2, f2⟩ := cellsAt hr3 2 (v := .int .u64 0) rfl
      obtain ⟨r3, f3⟩ := cellsAt hr3 3 (v := .slice none 0 0) rfl
      have hbr : b ≠ rb := by have := HRB.out; omega
      have HB3 := Lib.hid hb3
      have HX3 := Lib.hid hx3
      have HR3 := Lib.hid hr3
      have HZ3 : Hid (w2.heap.size ≤ w3.heap.size) := Lib.hid k3.size
      clear hb3 hx3 hr3 k3 HCS
      go_wp2_with fail
      go_region
      all_goals
        go_wp2_with fail
        refine bodyPost_ret (v := .agg #[.int .i64 2, .int .u64 n.ep, .int .u64 nl, .slice none 0 0]) ?_ rfl ⟨none, 0, 0, rfl, XR.nil _, ?_⟩
        · rw [results_cell1 rfl]
          go_simp
        · refine Turn.same HT.out ?_
          exact ((((HB3.out.setCell (Nat.le_of_eq HRB.out) _).setCell (Nat.le_of_eq HRB.out) _).setCell (Nat.le_of_eq HRB.out) _).setCell (Nat.le_of_eq HRB.out) _).drew
  by_cases h7 : rd = false ∧ n.ld = false
  · have hy : whyNd n n.ep rd is = 7 := by unfold whyNd; rw [if_neg (by simp), if_neg h2, if_pos h7]
    rw [hy, if_pos (by decide)]
    obtain ⟨rfl, hld⟩ := h7
    have g0 : (is == 0) = false := by simpa using fun h => h2 (.inl h)
    clear hy h2 he
    obtain ⟨AL, nl, cl, AO, no, co, os, hx0⟩ := HT.out
    have hnl : n.lg.length = nl := hx0.lg.len
    have hnl2 : nl ≤ 200 := by rw [← hnl]; exact HI.out.lg
    have hwp : IntKind.u64.wrap (nl : Int) = nl := by rw [IntKind.wrap_u64]; omega
    rw [hnl]
    have HX := Lib.hid hx0
    have HNL := Lib.hid hnl
    clear hx0 hnl
    go_enter Tryz.func33, Tryz.ntmps33
    go_wp2_with fail
    rw [HW2.out, HRB.out]
    refine HCS.out.mono ?_
    rintro e3 w3 ⟨rfl, k3⟩
    have hb3 : Below w.heap.size w w3 := HK2.out.trans (k3.mono HK2.out.size)
    have hx3 := HX.out.keep (fun k e => hb3.block k (HX.out.lt k e)) hb3.size
    obtain ⟨c0, c1, c2, c3, _⟩ := hx3.tops
    have hr3 : w3.heap[rb]? = some (.cells #[.int .i64 0, .int .u64 0, .int .u64 0, .slice none 0 0] 36 (0, 0)) := (k3.block rb (by have := HZ2.out; omega)).trans HR2.out
    obtain ⟨r0, f0⟩ := cellsAt hr3 0 (v := .int .i64 0) rfl
    obtain ⟨r1, f1⟩ := cellsAt hr3 1 (v := .int .u64 0) rfl
    obtain ⟨r2, f2⟩ := cellsAt hr3 2 (v := .int .u64 0) rfl
    obtain ⟨r3, f3⟩ := cellsAt hr3 3 (v := .slice none 0 0) rfl
    have hbr : b ≠ rb := by have := HRB.out; omega
    have HB3 := Lib.hid hb3
    have HX3 := Lib.hid hx3
    have HR3 := Lib.hid hr3
    have HZ3 : Hid (w2.heap.size ≤ w3.heap.size) := Lib.hid k3.size
    clear hb3 hx3 hr3 k3 HCS
    go_wp2_with fail
    go_region
    all_goals
      go_wp2_with fail
      refine bodyPost_ret (v := .agg #[.int .i64 7, .int .u64 n.ep, .int .u64 nl, .slice none 0 0]) ?_ rfl ⟨none, 0, 0, rfl, XR.nil _, ?_⟩
      · rw [results_cell1 rfl]
        go_simp
      · refine Turn.same HT.out ?_
        exact ((((HB3.out.setCell (Nat.le_of_eq HRB.out) _).setCell (Nat.le_of_eq HRB.out) _).setCell (Nat.le_of_eq HRB.out) _).setCell (Nat.le_of_eq HRB.out) _).drew
  have hy : whyNd n n.ep rd is = 0 := by unfold whyNd; rw [if_neg (by simp), if_neg h2, if_neg h7]
  rw [hy, if_neg (by decide)]
  clear hy he
  have g0 : (is == 0) = false := by simpa using fun h => h2 (.inl h)
  by_cases h1 : is ≠ 1
  · rw [if_pos h1]
    obtain rfl : rd = false := by
      cases rd with
      | false => rfl
      | true => exact absurd (.inr ⟨rfl, h1⟩) h2
    have hld : n.ld = true := by
      cases hl : n.ld with
      | true => rfl
      | false => exact absurd ⟨rfl, hl⟩ h7
    have g1 : (is == 1) = false := by simpa using h1
    clear h1 h2 h7
    obtain ⟨AL, nl, cl, AO, no, co, os, hx0⟩ := HT.out
    have hnl : n.lg.length = nl := hx0.lg.len
    have hnl2 : nl ≤ 200 := by rw [← hnl]; exact HI.out.lg
    have hwp : IntKind.u64.wrap (nl : Int) = nl := by rw [IntKind.wrap_u64]; omega
    have HX := Lib.hid hx0
    have HNL := Lib.hid hnl
    clear hx0 hnl
    have HDO := Lib.hid (fun (u : World) (hu : Below w.heap.size w u) => rdo15_ok c is s (Thing.next HT.out hu) HI.out.lg HI.out.nd (by have := HI.out.ol; omega) fun o ho => (HI.out.oc o ho).2.2.1)
    have HNI := Lib.hid (HI.out.does (c := c) (is := is) HS.out HC.out.1 HC.out.2)
    obtain ⟨er, her⟩ : ∃ x, (doNd n c is s).1 = x := ⟨_, rfl⟩
    obtain ⟨nd, hnd⟩ : ∃ x, (doNd n c is s).2 = x := ⟨_, rfl⟩
    rw [her, hnd] at HDO ⊢
    rw [hnd] at HNI
    clear her hnd hwp hnl2
    go_enter Tryz.func33, Tryz.ntmps33
    go_wp2_with fail
    rw [HW2.out, HRB.out]
    refine HCS.out.mono ?_
    rintro e3 w3 ⟨rfl, k3⟩
    have hb3 : Below w.heap.size w w3 := HK2.out.trans (k3.mono HK2.out.size)
    have hx3 := HX.out.keep (fun k e => hb3.block k (HX.out.lt k e)) hb3.size
    obtain ⟨c0, c1, c2, c3, _⟩ := hx3.tops
    have hr3 : w3.heap[rb]? = some (.cells #[.int .i64 0, .int .u64 0, .int .u64 0, .slice none 0 0] 36 (0, 0)) := (k3.block rb (by have := HZ2.out; omega)).trans HR2.out
    obtain ⟨r0, f0⟩ := cellsAt hr3 0 (v := .int .i64 0) rfl
    obtain ⟨r1, f1⟩ := cellsAt hr3 1 (v := .int .u64 0) rfl
    obtain ⟨r2, f2⟩ := cellsAt hr3 2 (v := .int .u64 0) rfl
    obtain ⟨r3, f3⟩ := cellsAt hr3 3 (v := .slice none 0 0) rfl
    have hbr : b ≠ rb := by have := HRB.out; omega
    have HB3 := Lib.hid hb3
    have HX3 := Lib.hid hx3
    have HR3 := Lib.hid hr3
    have HZ3 : Hid (w2.heap.size ≤ w3.heap.size) := Lib.hid k3.size
    clear hb3 hx3 hr3 k3 HCS
    clear r0 f0 r1 f1 r2 f2 r3 f3
    go_wp2_with fail
    refine (HDO.out w3 HB3.out).mono ?_
    rintro e4 w4 ⟨rfl, ⟨⟨S4, hp4, hs4⟩, ho4⟩⟩
    obtain ⟨AL4, nl4, cl4, AO4, no4, co4, os4, hx4⟩ := hp4
    have hnl4 : nd.lg.length = nl4 := hx4.lg.len
    have hnl2 : nl4 ≤ 200 := by rw [← hnl4]; exact HNI.out.lg
    have hwp : IntKind.u64.wrap (nl4 : Int) = nl4 := by rw [IntKind.wrap_u64]; omega
    have HNL4 := Lib.hid hnl4
    have hrS : ¬ S rb := fun e => by have := (RN b n).lt HT.out rb e; have := HRB.out; omega
    have hr4 := (ho4.block rb (Array.getElem?_eq_some_iff.1 HR3.out).1 hrS).trans HR3.out
    obtain ⟨c0, c1, c2, c3, _⟩ := hx4.tops
    obtain ⟨r0, f0⟩ := cellsAt hr4 0 (v := .int .i64 0) rfl
    obtain ⟨r1, f1⟩ := cellsAt hr4 1 (v := .int .u64 0) rfl
    obtain ⟨r2, f2⟩ := cellsAt hr4 2 (v := .int .u64 0) rfl
    obtain ⟨r3, f3⟩ := cellsAt hr4 3 (v := .slice none 0 0) rfl
    have HX4 := Lib.hid hx4
    have HHS := Lib.hid (And.intro hs4 (And.intro ho4 hrS))
    clear hx4 hnl4 hs4 ho4 hrS hr4 HDO
    go_wp2_with fail
    go_region
    all_goals
      go_wp2_with fail
      refine bodyPost_ret (v := .agg #[.int .i64 er, .int .u64 nd.ep, .int .u64 nl4, .slice none 0 0]) ?_ rfl ⟨none, 0, 0, by rw [← HNL4.out]; rfl, XR.nil _, ?_⟩
      · rw [results_cell1 rfl]
        go_simp
      · obtain ⟨hs4, ho4, hrS⟩ := HHS.out
        have hz3 := HZ3.out
        have hz2 := HZ2.out
        have hwb := HRB.out
        have hn4 : ∀ k, S4 k → k ≠ rb := fun k hk e => by
          subst e
          rcases hs4 k hk with e | e
          · exact hrS e
          · omega
        refine ⟨⟨S4, ⟨_, _, _, _, _, _, _, HX4.out.keep (fun k hk => (set_other (hn4 k hk)).trans ((set_other (hn4 k hk)).trans ((set_other (hn4 k hk)).trans (set_other (hn4 k hk))))) (by show _ ≤ (World.drew _).heap.size; rw [show ∀ u : World, u.drew.heap = u.heap from fun _ => rfl, set_size, set_size, set_size, set_size]; exact Nat.le_refl _)⟩, fun k hk => (hs4 k hk).imp id fun e => by omega⟩, ?_⟩
        have ho := (Off.of S HB3.out).trans ho4 fun _ h => .inl h
        exact ((((ho.setCell (.inr (Nat.le_of_eq hwb)) _).setCell (.inr (Nat.le_of_eq hwb)) _).setCell (.inr (Nat.le_of_eq hwb)) _).setCell (.inr (Nat.le_of_eq hwb)) _).drew
  · obtain rfl : is = 1 := by simpa using h1
    rw [if_neg (by simp)]
    clear h1 h2 g0
    cases rd with
    | true =>
      clear h7
      obtain ⟨AL, nl, cl, AO, no, co, os, hx0⟩ := HT.out
      have hnl : n.lg.length = nl := hx0.lg.len
      have hnl2 : nl ≤ 200 := by rw [← hnl]; exact HI.out.lg
      have hwp : IntKind.u64.wrap (nl : Int) = nl := by rw [IntKind.wrap_u64]; omega
      rw [hnl]
      have HX := Lib.hid hx0
      have HNL := Lib.hid hnl
      clear hx0 hnl
      obtain ⟨ts, hts⟩ : ∃ x, waitsNd n c = x := ⟨_, rfl⟩
      have hws : ∀ s ∈ ts, Sm s := by
        rw [← hts]
        unfold waitsNd
        cases ho : opOf c n.op with
        | none => intro s hs; cases hs
        | some xs =>
          obtain ⟨o, hm, _, rfl⟩ := opOf_mem ho
          exact (HI.out.oc o hm).2.2.2
      have hwl : ts.length ≤ 200 := by
        rw [← hts]
        unfold waitsNd
        cases ho : opOf c n.op with
        | none => exact Nat.zero_le _
        | some xs =>
          obtain ⟨o, hm, _, rfl⟩ := opOf_mem ho
          exact (HI.out.oc o hm).2.2.1
      have HWS := Lib.hid hws
      have HWL := Lib.hid hwl
      obtain ⟨tb, htb⟩ : ∃ x, tabN n.lg ts = x := ⟨_, rfl⟩
      have HSRT : Hid (Srt tb) := Lib.hid (by rw [← htb]; exact tabN_srt _ _)
      have HTBL : Hid (tb.length ≤ 400) := Lib.hid (by rw [← htb]; have := tabN_len n.lg ts; have := HI.out.lg; omega)
      obtain ⟨rs, hrs⟩ : ∃ x, rdT s tb = x := ⟨_, rfl⟩
      have HRS := Lib.hid hrs
      have HTB := Lib.hid htb
      rw [hts, htb, hrs]
      clear hws hwl htb hrs
      -- where the waiting texts lie
      have hol := HI.out.ol
      have HFN := Lib.hid (fun (u : World) (hu : Below w.heap.size w u) => rfind15_ok c (Thing.next HT.out hu) (by omega : n.op.length ≤ 1000))
      go_enter Tryz.func33, Tryz.ntmps33
      go_wp2_with fail
      rw [HW2.out, HRB.out]
      refine HCS.out.mono ?_
      rintro e3 w3 ⟨rfl, k3⟩
      have hb3 : Below w.heap.size w w3 := HK2.out.trans (k3.mono HK2.out.size)
      have hx3 := HX.out.keep (fun k e => hb3.block k (HX.out.lt k e)) hb3.size
      obtain ⟨c0, c1, c2, c3, _⟩ := hx3.tops
      have hr3 : w3.heap[rb]? = some (.cells #[.int .i64 0, .int .u64 0, .int .u64 0, .slice none 0 0] 36 (0, 0)) := (k3.block rb (by have := HZ2.out; omega)).trans HR2.out
      obtain ⟨r0, f0⟩ := cellsAt hr3 0 (v := .int .i64 0) rfl
      obtain ⟨r1, f1⟩ := cellsAt hr3 1 (v := .int .u64 0) rfl
      obtain ⟨r2, f2⟩ := cellsAt hr3 2 (v := .int .u64 0) rfl
      obtain ⟨r3, f3⟩ := cellsAt hr3 3 (v := .slice none 0 0) rfl
      have hbr : b ≠ rb := by have := HRB.out; omega
      have HB3 := Lib.hid hb3
      have HX3 := Lib.hid hx3
      have HR3 := Lib.hid hr3
      have HZ3 : Hid (w2.heap.size ≤ w3.heap.size) := Lib.hid k3.size
      clear hb3 hx3 hr3 k3 HCS
      obtain ⟨w4, hw4⟩ : ∃ u, w3.alloc (.cells #[] 9) = u := ⟨_, rfl⟩
      have k4 : Below w3.heap.size w3 w4 := hw4 ▸ kp_new _ _
      have hb4 : Below w.heap.size w w4 := HB3.out.trans (k4.mono HB3.out.size)
      have hx4 := HX.out.keep (fun k e => hb4.block k (HX.out.lt k e)) hb4.size
      obtain ⟨d0, _, d2, d3, _⟩ := hx4.tops
      have hr4 := (k4.block rb (Array.getElem?_eq_some_iff.1 HR3.out).1).trans HR3.out
      have HX4 := Lib.hid hx4
      have HB4 := Lib.hid hb4
      have HR4 := Lib.hid hr4
      have HW4 := Lib.hid hw4
      have HW3S : Hid (w3.heap.size < w4.heap.size) := Lib.hid (by rw [← hw4]; simp)
      have hblt : b < w3.heap.size := Nat.lt_of_lt_of_le hbw HB3.out.size
      clear hx4 hb4 k4 hr4 hw4 r0 f0 r1 f1 r2 f2 r3 f3
      by_cases hneg : idxOp c n.op < 0
      · have hts0 : ts = [] := by
          rw [← hts]
          unfold waitsNd
          rw [opOf_none.2 (idxOp_no hneg)]
          rfl
        have HWX : Hid (XR w4 (some ⟨w3.heap.size, 0, none⟩) 0 ts) := Lib.hid (by rw [hts0]; exact ⟨rfl, .inl rfl⟩)
        have hge : ¬ 0 ≤ idxOp c n.op := by omega
        obtain ⟨ix, hix⟩ : ∃ x, idxOp c n.op = x := ⟨_, rfl⟩
        rw [hix] at HFN hneg hge
        clear hix hts hts0
        go_wp2_with fail
        rw [HW4.out]
        refine (HFN.out w4 HB4.out).mono ?_
        rintro e5 w5 ⟨rfl, rfl⟩
        have HB4X := HB4
        have HWN : Hid ((0 : Nat) ≤ 200) := Lib.hid (by decide)
        clear HW4
        go_wp2_with fail
        obtain ⟨FN, hFN⟩ : ∃ F : World → Prop, ∀ z, F z ↔ (∃ A m d, z.heap[rb]? = some (.cells #[.int .i64 0, .int .u64 n.ep, .int .u64 nl, .slice A m d] 36 (0, 0)) ∧ XR z A m rs ∧ Below w.heap.size w z) := ⟨_, fun _ => Iff.rfl⟩
        have HFNN := Lib.hid hFN
        clear hFN
        have HKR : Hid (∀ (i : Nat) (u : World), Kp2 17 17 i u u) := Lib.hid (Kp2.refl _ _)
        refine wp_region_specs6 (S := SL6 17 w4 FN) (Kp := Kp2 17 17) (Sp := [(88, Stl.eq (.pointer (some ⟨b, 0, none⟩))), (89, Stl.eq (.pointer (some ⟨b, 0, none⟩))), (90, Stl.eq (.pointer (some ⟨b, 0, none⟩))), (91, Stl.eq (.int .u64 n.ep)), (92, Stl.eq (.pointer (some ⟨b, 0, none⟩))), (93, Stl.eq (.pointer (some ⟨b, 0, none⟩))), (94, Stl.eq (.pointer (some ⟨b, 2, none⟩))), (95, Stl.eq (.slice AL nl cl)), (96, Stl.eq (.int .i64 nl)), (97, Stl.eq (.int .u64 nl)), (98, Stl.eq (.string s)), (99, belL 17 17 (fun _ _ => True) (fun _ _ _ _ _ => trivial) (fun v => ∃ d k v2, v = .agg #[.int .i64 d, .string k, .string v2] ∧ doing d k v2 = planA s.data.toList)), (100, Stl.eq (.pointer (some ⟨b, 0, none⟩))), (101, Stl.eq (.slice (some ⟨w3.heap.size, 0, none⟩) 0 0)), (102, shL 17 17 (fun D m e => .slice D m e) (fun u D m => KR u D m tb) (fun _ _ _ _ h hb => h.next hb)), (103, shL 17 17 (fun D m e => .slice D m e) (fun u D m => XR u D m rs) (fun _ _ _ _ h hb => h.next hb)), (104, shL 17 17 (fun D m e => .agg #[.int .i64 0, .int .u64 n.ep, .int .u64 nl, .slice D m e]) (fun u D m => XR u D m rs) (fun _ _ _ _ h hb => h.next hb))]) (by kernel_rfl) (by kernel_rfl) (SL6.of rfl (kp_drewN _ 1)) ?_ ?_
        · refine EachOp.cons ?_ ?_
          · intro L a u hL hst hS hdep hq hno
            have h0 : a.tmps.getD 0 undef = .pointer (some ⟨b, 0, none⟩) := hst.out 0 (by kernel_rfl)
            refine .inl ⟨trivial, ?_⟩
            have g0 := gd h0
            go_simp
            exact Went6.same (HKR.out _ _) hS rfl
          refine EachOp.cons ?_ ?_
          · intro L a u hL hst hS hdep hq hno
            have h88 : a.tmps.getD 88 undef = .pointer (some ⟨b, 0, none⟩) := hdep 88 (by kernel_rfl)
            refine .inl ⟨trivial, ?_⟩
            have g88 := gd h88
            go_simp
            exact Went6.same (HKR.out _ _) hS rfl
          refine EachOp.cons ?_ ?_
          · intro L a u hL hst hS hdep hq hno
            have h89 : a.tmps.getD 89 undef = .pointer (some ⟨b, 0, none⟩) := hdep 89 (by kernel_rfl)
            refine .inl ⟨trivial, ?_⟩
            have g89 := gd h89
            go_simp
            exact Went6.same (HKR.out _ _) hS rfl
          refine EachOp.cons ?_ ?_
          · intro L a u hL hst hS hdep hq hno
            have h90 : a.tmps.getD 90 undef = .pointer (some ⟨b, 0, none⟩) := hdep 90 (by kernel_rfl)
            refine .inl ⟨trivial, ?_⟩
            have g90 := gd h90
            have h20 : L 17 = false := hno 12 17 (by kernel_rfl)
            have hB : Below w4.heap.size w4 u := SL6.ahead hS h20
            have hS2 : ∀ u', Below w4.heap.size w4 u' → SL6 17 w4 FN L u' := fun u' h => SL6.of h20 h
            obtain ⟨y0, _, y2, _⟩ := (HX4.out.keep (fun k e => hB.block k (HX4.out.lt k e)) hB.size).tops
            go_simp
            exact Went6.same (HKR.out _ _) hS rfl
          refine EachOp.cons ?_ ?_
          · intro L a u hL hst hS hdep hq hno
            have h0 : a.tmps.getD 0 undef = .pointer (some ⟨b, 0, none⟩) := hst.out 0 (by kernel_rfl)
            refine .inl ⟨trivial, ?_⟩
            have g0 := gd h0
            go_simp
            exact Went6.same (HKR.out _ _) hS rfl
          refine EachOp.cons ?_ ?_
          · intro L a u hL hst hS hdep hq hno
            have h92 : a.tmps.getD 92 undef = .pointer (some ⟨b, 0, none⟩) := hdep 92 (by kernel_rfl)
            refine .inl ⟨trivial, ?_⟩
            have g92 := gd h92
            go_simp
            exact Went6.same (HKR.out _ _) hS rfl
          refine EachOp.cons ?_ ?_
          · intro L a u hL hst hS hdep hq hno
            have h93 : a.tmps.getD 93 undef = .pointer (some ⟨b, 0, none⟩) := hdep 93 (by kernel_rfl)
            refine .inl ⟨trivial, ?_⟩
            have g93 := gd h93
            go_simp
            exact Went6.same (HKR.out _ _) hS rfl
          refine EachOp.cons ?_ ?_
          · intro L a u hL hst hS hdep hq hno
            have h94 : a.tmps.getD 94 undef = .pointer (some ⟨b, 2, none⟩) := hdep 94 (by kernel_rfl)
            refine .inl ⟨trivial, ?_⟩
            have g94 := gd h94
            have h20 : L 17 = false := hno 12 17 (by kernel_rfl)
            have hB : Below w4.heap.size w4 u := SL6.ahead hS h20
            have hS2 : ∀ u', Below w4.heap.size w4 u' → SL6 17 w4 FN L u' := fun u' h => SL6.of h20 h
            obtain ⟨y0, _, y2, _⟩ := (HX4.out.keep (fun k e => hB.block k (HX4.out.lt k e)) hB.size).tops
            go_simp
            exact Went6.same (HKR.out _ _) hS rfl
          refine EachOp.cons ?_ ?_
          · intro L a u hL hst hS hdep hq hno
            have h95 : a.tmps.getD 95 undef = .slice AL nl cl := hdep 95 (by kernel_rfl)
            refine .inl ⟨trivial, ?_⟩
            have g95 := gd h95
            go_simp
            exact Went6.same (HKR.out _ _) hS rfl
          refine EachOp.cons ?_ ?_
          · intro L a u hL hst hS hdep hq hno
            have h96 : a.tmps.getD 96 undef = .int .i64 nl := hdep 96 (by kernel_rfl)
            refine .inl ⟨trivial, ?_⟩
            have g96 := gd h96
            go_simp
            exact Went6.same (HKR.out _ _) hS rfl
          refine EachOp.cons ?_ ?_
          · intro L a u hL hst hS hdep hq hno
            have h4 : a.tmps.getD 4 undef = .string s := hst.out 4 (by kernel_rfl)
            refine .inl ⟨trivial, ?_⟩
            have g4 := gd h4
            go_simp
            exact Went6.same (HKR.out _ _) hS rfl
          refine EachOp.cons ?_ ?_
          · intro L a u hL hst hS hdep hq hno
            have h98 : a.tmps.getD 98 undef = .string s := hdep 98 (by kernel_rfl)
            refine .inl ⟨trivial, ?_⟩
            have g98 := gd h98
            go_simp
            have h20 : L 17 = false := hno 12 17 (by kernel_rfl)
            have hB : Below w4.heap.size w4 u := SL6.ahead hS h20
            have hS2 : ∀ u', Below w4.heap.size w4 u' → SL6 17 w4 FN L u' := fun u' h => SL6.of h20 h
            have hof := rof_ok s u (by have := HS.out; unfold Sm at this; unfold maxLen; omega)
            unfold OfTo at hof
            refine hof.mono ?_
            rintro e' u' ⟨pd, pk, pv, rfl, g9, hb'⟩
            exact Went6.next (hS2 _ (hB.trans (hb'.mono hB.size))) (fun _ _ => hb') ⟨⟨pd, pk, pv, rfl, g9⟩, fun _ _ => trivial⟩
          refine EachOp.cons ?_ ?_
          · intro L a u hL hst hS hdep hq hno
            have h0 : a.tmps.getD 0 undef = .pointer (some ⟨b, 0, none⟩) := hst.out 0 (by kernel_rfl)
            refine .inl ⟨trivial, ?_⟩
            have g0 := gd h0
            go_simp
            exact Went6.same (HKR.out _ _) hS rfl
          refine EachOp.cons ?_ ?_
          · intro L a u hL hst hS hdep hq hno
            have h13 : a.tmps.getD 13 undef = .slice (some ⟨w3.heap.size, 0, none⟩) 0 0 := hst.out 13 (by kernel_rfl)
            refine .inl ⟨trivial, ?_⟩
            have g13 := gd h13
            go_simp
            exact Went6.same (HKR.out _ _) hS rfl
          refine EachOp.cons ?_ ?_
          · intro L a u hL hst hS hdep hq hno
            have h100 : a.tmps.getD 100 undef = .pointer (some ⟨b, 0, none⟩) := hdep 100 (by kernel_rfl)
            have h101 : a.tmps.getD 101 undef = .slice (some ⟨w3.heap.size, 0, none⟩) 0 0 := hdep 101 (by kernel_rfl)
            refine .inl ⟨trivial, ?_⟩
            have g100 := gd h100
            have g101 := gd h101
            go_simp
            have h20 : L 17 = false := hno 12 17 (by kernel_rfl)
            have hB : Below w4.heap.size w4 u := SL6.ahead hS h20
            have hS2 : ∀ u', Below w4.heap.size w4 u' → SL6 17 w4 FN L u' := fun u' h => SL6.of h20 h
            have hbw : Below w.heap.size w u := HB4X.out.trans (hB.mono HB4X.out.size)
            have htl := rtable15_ok (some ⟨w3.heap.size, 0, none⟩) (0) (0) ts (Thing.next HT.out hbw) HI.out.lg (fun x hx => (HI.out.lt x hx).1) (HWX.out.next hB) (HWN.out) HWS.out
            rw [HTB.out] at htl
            refine htl.mono ?_
            rintro e' u' ⟨D2, m2, e2, rfl, g2, hb'⟩
            exact Went6.next (hS2 _ (hB.trans (hb'.mono hB.size))) (fun _ _ => hb') ⟨D2, m2, e2, rfl, fun _ _ => g2⟩
          refine EachOp.cons ?_ ?_
          · intro L a u hL hst hS hdep hq hno
            obtain ⟨⟨pd, pk, pv, h99, g9⟩, _⟩ := hdep 99 (by kernel_rfl)
            obtain ⟨D2, m2, e2, h102, r102⟩ := hdep 102 (by kernel_rfl)
            refine .inl ⟨trivial, ?_⟩
            have g99 := gd h99
            have g102 := gd h102
            go_simp
            have h20 : L 17 = false := hno 12 17 (by kernel_rfl)
            have hB : Below w4.heap.size w4 u := SL6.ahead hS h20
            have hS2 : ∀ u', Below w4.heap.size w4 u' → SL6 17 w4 FN L u' := fun u' h => SL6.of h20 h
            have hkr := r102 h20 h20
            refine (rreads_ok pd pk pv D2 m2 e2 tb u hkr HSRT.out (by have := hkr.len; have := HTBL.out; omega)).mono ?_
            rintro e' u' ⟨D3, m3, e3, rfl, g3, _, hb'⟩
            refine Went6.next (hS2 _ (hB.trans (hb'.mono hB.size))) (fun _ _ => hb') ⟨D3, m3, e3, rfl, fun _ _ => ?_⟩
            rw [← HRS.out, rdT_of g9]
            exact g3
          refine EachOp.cons ?_ ?_
          · intro L a u hL hst hS hdep hq hno
            have h91 : a.tmps.getD 91 undef = .int .u64 n.ep := hdep 91 (by kernel_rfl)
            have h97 : a.tmps.getD 97 undef = .int .u64 nl := hdep 97 (by kernel_rfl)
            obtain ⟨D3, m3, e3, h103, r103⟩ := hdep 103 (by kernel_rfl)
            refine .inl ⟨trivial, ?_⟩
            have g91 := gd h91
            have g97 := gd h97
            have g103 := gd h103
            go_simp
            have h20 : L 17 = false := hno 12 17 (by kernel_rfl)
            have hB : Below w4.heap.size w4 u := SL6.ahead hS h20
            have hS2 : ∀ u', Below w4.heap.size w4 u' → SL6 17 w4 FN L u' := fun u' h => SL6.of h20 h
            exact Went6.same (HKR.out _ _) (hS2 _ hB) ⟨D3, m3, e3, rfl, fun _ _ => r103 h20 h20⟩
          refine EachOp.cons ?_ ?_
          · intro L a u hL hst hS hdep hq hno
            have h10 : a.tmps.getD 10 undef = .pointer (some ⟨rb, 0, none⟩) := hst.out 10 (by kernel_rfl)
            obtain ⟨D4, m4, e4, h104, r104⟩ := hdep 104 (by kernel_rfl)
            refine .inl ⟨trivial, ?_⟩
            have g10 := gd h10
            have g104 := gd h104
            have hB : Below w4.heap.size w4 u := SL6.ahead hS hL
            have hru := (hB.block rb (Array.getElem?_eq_some_iff.1 HR4.out).1).trans HR4.out
            obtain ⟨r0, f0⟩ := cellsAt hru 0 (v := .int .i64 0) rfl
            obtain ⟨r1, f1⟩ := cellsAt hru 1 (v := .int .u64 0) rfl
            obtain ⟨r2, f2⟩ := cellsAt hru 2 (v := .int .u64 0) rfl
            obtain ⟨r3, f3⟩ := cellsAt hru 3 (v := .slice none 0 0) rfl
            go_simp
            have hx5 := r104 hL hL
            have hq : ∀ k, k ≠ rb → ((((u.setCell ⟨rb, 0, none⟩ (.int .i64 0)).setCell ⟨rb, 1, none⟩ (.int .u64 n.ep)).setCell ⟨rb, 2, none⟩ (.int .u64 nl)).setCell ⟨rb, 3, none⟩ (.slice D4 m4 e4)).heap[k]? = u.heap[k]? := fun k hk => (set_other hk).trans ((set_other hk).trans ((set_other hk).trans (set_other hk)))
            have hb5 : Below w.heap.size w u := HB4X.out.trans (hB.mono HB4X.out.size)
            have hwb := Nat.le_of_eq HRB.out
            exact ⟨undef, rfl, SL6.last done_same ((HFNN.out _).2 ⟨D4, m4, e4, heap_setCell_same _ rb 3 _ _ (.slice D4 m4 e4) (heap_setCell_same _ rb 2 _ _ (.int .u64 nl) (heap_setCell_same _ rb 1 _ _ (.int .u64 n.ep) (heap_setCell_same u rb 0 _ _ (.int .i64 0) hru))), hx5.poke hru (by intro i s2; match i with | 0 => simp | 1 => simp | 2 => simp | 3 => simp | i + 4 => simp) hq (by rw [set_size, set_size, set_size, set_size]; exact Nat.le_refl _), (((hb5.setCell hwb _).setCell hwb _).setCell hwb _).setCell hwb _⟩), fun h _ => absurd rfl h, fun t e => by cases e⟩
          exact EachOp.nil
        · intro L a u hLs hst hS hdep
          have h88 : a.tmps.getD 88 undef = .pointer (some ⟨b, 0, none⟩) := hdep 88 (by kernel_rfl)
          have h89 : a.tmps.getD 89 undef = .pointer (some ⟨b, 0, none⟩) := hdep 89 (by kernel_rfl)
          have h90 : a.tmps.getD 90 undef = .pointer (some ⟨b, 0, none⟩) := hdep 90 (by kernel_rfl)
          have h91 : a.tmps.getD 91 undef = .int .u64 n.ep := hdep 91 (by kernel_rfl)
          have h92 : a.tmps.getD 92 undef = .pointer (some ⟨b, 0, none⟩) := hdep 92 (by kernel_rfl)
          have h93 : a.tmps.getD 93 undef = .pointer (some ⟨b, 0, none⟩) := hdep 93 (by kernel_rfl)
          have h94 : a.tmps.getD 94 undef = .pointer (some ⟨b, 2, none⟩) := hdep 94 (by kernel_rfl)
          have h95 : a.tmps.getD 95 undef = .slice AL nl cl := hdep 95 (by kernel_rfl)
          have h96 : a.tmps.getD 96 undef = .int .i64 nl := hdep 96 (by kernel_rfl)
          have h97 : a.tmps.getD 97 undef = .int .u64 nl := hdep 97 (by kernel_rfl)
          have h98 : a.tmps.getD 98 undef = .string s := hdep 98 (by kernel_rfl)
          obtain ⟨⟨pd, pk, pv, h99, g9⟩, _⟩ := hdep 99 (by kernel_rfl)
          have h100 : a.tmps.getD 100 undef = .pointer (some ⟨b, 0, none⟩) := hdep 100 (by kernel_rfl)
          have h101 : a.tmps.getD 101 undef = .slice (some ⟨w3.heap.size, 0, none⟩) 0 0 := hdep 101 (by kernel_rfl)
          obtain ⟨D2, m2, e2, h102, r102⟩ := hdep 102 (by kernel_rfl)
          obtain ⟨D3, m3, e3, h103, r103⟩ := hdep 103 (by kernel_rfl)
          obtain ⟨D4, m4, e4, h104, r104⟩ := hdep 104 (by kernel_rfl)
          have hfr := hst.frame [(88, .pointer (some ⟨b, 0, none⟩)), (89, .pointer (some ⟨b, 0, none⟩)), (90, .pointer (some ⟨b, 0, none⟩)), (91, .int .u64 n.ep), (92, .pointer (some ⟨b, 0, none⟩)), (93, .pointer (some ⟨b, 0, none⟩)), (94, .pointer (some ⟨b, 2, none⟩)), (95, .slice AL nl cl), (96, .int .i64 nl), (97, .int .u64 nl), (98, .string s), (99, .agg #[.int .i64 pd, .string pk, .string pv]), (100, .pointer (some ⟨b, 0, none⟩)), (101, .slice (some ⟨w3.heap.size, 0, none⟩) 0 0), (102, .slice D2 m2 e2), (103, .slice D3 m3 e3), (104, .agg #[.int .i64 0, .int .u64 n.ep, .int .u64 nl, .slice D4 m4 e4])] (by kernel_rfl) ⟨h88, h89, h90, h91, h92, h93, h94, h95, h96, h97, h98, h99, h100, h101, h102, h103, h104, trivial⟩
          clear hst hdep h88 h89 h90 h91 h92 h93 h94 h95 h96 h97 h98 h99 h100 h101 h102 h103 h104
          subst hfr
          simp only [List.foldl_cons, List.foldl_nil, List.setIfInBounds_toArray, List.set_cons_zero, List.set_cons_succ]
          obtain ⟨A9, m9, d9, hr9, hx9, hb9⟩ := (HFNN.out u).1 (SL6.done hS (hLs 17 (by kernel_rfl)))
          obtain ⟨r0, _⟩ := cellsAt hr9 0 (v := .int .i64 0) rfl
          obtain ⟨r1, _⟩ := cellsAt hr9 1 (v := .int .u64 n.ep) rfl
          obtain ⟨r2, _⟩ := cellsAt hr9 2 (v := .int .u64 nl) rfl
          obtain ⟨r3, _⟩ := cellsAt hr9 3 (v := .slice A9 m9 d9) rfl
          have HFX := Lib.hid hx9
          have HFB := Lib.hid hb9
          clear hS hLs hr9 hx9 hb9
          go_wp2_with fail
          refine bodyPost_ret (v := .agg #[.int .i64 0, .int .u64 n.ep, .int .u64 nl, .slice A9 m9 d9]) ?_ rfl (by first | exact ⟨A9, m9, d9, rfl, HFX.out, Turn.same HT.out HFB.out⟩ | exact ⟨A9, m9, ⟨d9, rfl⟩, HFX.out, Turn.same HT.out HFB.out⟩)
          rw [results_cell1 rfl]
          go_simp
      · obtain ⟨i, hi⟩ : ∃ i : Nat, idxOp c n.op = i := ⟨(idxOp c n.op).toNat, by omega⟩
        obtain ⟨hil, hop⟩ := idxOp_of hi
        have hts0 : n.op[i].ts = ts := by
          rw [← hts]
          unfold waitsNd
          rw [hop]
          rfl
        have hlen := HX.out.len
        have holen := HX.out.olen
        have hio : i < os.length := by omega
        have hin : (i : Int) < (no : Int) := by omega
        have hi0 : (0 : Int) ≤ (i : Int) := by omega
        obtain ⟨g, rfl, hSg, hgb, z0, z1, _⟩ := HX4.out.opat hio
        have hxr := (HX4.out.at_ i hio hil).2
        rw [hts0] at hxr
        obtain ⟨tA, hA⟩ : ∃ x, os[i].A = x := ⟨_, rfl⟩
        obtain ⟨tn, hn⟩ : ∃ x, os[i].n = x := ⟨_, rfl⟩
        obtain ⟨td, hd0⟩ : ∃ x, os[i].d = x := ⟨_, rfl⟩
        rw [hA, hn] at hxr
        rw [hA, hn, hd0] at z1
        have HWX0 := Lib.hid hxr
        have HWN : Hid (tn ≤ 200) := Lib.hid (by rw [← hxr.len]; exact HWL.out)
        rw [hi] at HFN
        clear hts hts0 hop hxr hA hn hd0 hlen holen hneg
        go_wp2_with fail
        rw [HW4.out]
        refine (HFN.out w4 HB4.out).mono ?_
        rintro e5 w5 ⟨rfl, rfl⟩
        clear HW4
        go_wp2_with fail
        go_quiet (first | (go_at_call 50; refine (HFN.out _ (HB4.out.trans ((kp_drewN w4 _).mono HB4.out.size))).mono ?_; rintro e6 w6 ⟨rfl, rfl⟩; refine ⟨rfl, _, rfl⟩))
        obtain ⟨w6, hw6⟩ : ∃ x, w4.drewN nq = x := ⟨_, rfl⟩
        have q6 : Below w4.heap.size w4 w6 := hw6 ▸ kp_drewN w4 nq
        rw [hw6]
        have HB4X := Lib.hid (HB4.out.trans (q6.mono HB4.out.size))
        have HWX := Lib.hid (HWX0.out.next q6)
        have HX4 := Lib.hid (HX4.out.keep (fun k e => q6.block k (HX4.out.lt k e)) q6.size)
        have HR4 := Lib.hid ((q6.block rb (Array.getElem?_eq_some_iff.1 HR4.out).1).trans HR4.out)
        clear hw6 q6
        go_wp2_with fail
        obtain ⟨FN, hFN⟩ : ∃ F : World → Prop, ∀ z, F z ↔ (∃ A m d, z.heap[rb]? = some (.cells #[.int .i64 0, .int .u64 n.ep, .int .u64 nl, .slice A m d] 36 (0, 0)) ∧ XR z A m rs ∧ Below w.heap.size w z) := ⟨_, fun _ => Iff.rfl⟩
        have HFNN := Lib.hid hFN
        clear hFN
        have HKR : Hid (∀ (i : Nat) (u : World), Kp2 17 17 i u u) := Lib.hid (Kp2.refl _ _)
        refine wp_region_specs6 (S := SL6 17 w6 FN) (Kp := Kp2 17 17) (Sp := [(88, Stl.eq (.pointer (some ⟨b, 0, none⟩))), (89, Stl.eq (.pointer (some ⟨b, 0, none⟩))), (90, Stl.eq (.pointer (some ⟨b, 0, none⟩))), (91, Stl.eq (.int .u64 n.ep)), (92, Stl.eq (.pointer (some ⟨b, 0, none⟩))), (93, Stl.eq (.pointer (some ⟨b, 0, none⟩))), (94, Stl.eq (.pointer (some ⟨b, 2, none⟩))), (95, Stl.eq (.slice AL nl cl)), (96, Stl.eq (.int .i64 nl)), (97, Stl.eq (.int .u64 nl)), (98, Stl.eq (.string s)), (99, belL 17 17 (fun _ _ => True) (fun _ _ _ _ _ => trivial) (fun v => ∃ d k v2, v = .agg #[.int .i64 d, .string k, .string v2] ∧ doing d k v2 = planA s.data.toList)), (100, Stl.eq (.pointer (some ⟨b, 0, none⟩))), (101, Stl.eq (.slice (tA) tn td)), (102, shL 17 17 (fun D m e => .slice D m e) (fun u D m => KR u D m tb) (fun _ _ _ _ h hb => h.next hb)), (103, shL 17 17 (fun D m e => .slice D m e) (fun u D m => XR u D m rs) (fun _ _ _ _ h hb => h.next hb)), (104, shL 17 17 (fun D m e => .agg #[.int .i64 0, .int .u64 n.ep, .int .u64 nl, .slice D m e]) (fun u D m => XR u D m rs) (fun _ _ _ _ h hb => h.next hb))]) (by kernel_rfl) (by kernel_rfl) (SL6.of rfl (kp_drewN _ 1)) ?_ ?_
        · refine EachOp.cons ?_ ?_
          · intro L a u hL hst hS hdep hq hno
            have h0 : a.tmps.getD 0 undef = .pointer (some ⟨b, 0, none⟩) := hst.out 0 (by kernel_rfl)
            refine .inl ⟨trivial, ?_⟩
            have g0 := gd h0
            go_simp
            exact Went6.same (HKR.out _ _) hS rfl
          refine EachOp.cons ?_ ?_
          · intro L a u hL hst hS hdep hq hno
            have h88 : a.tmps.getD 88 undef = .pointer (some ⟨b, 0, none⟩) := hdep 88 (by kernel_rfl)
            refine .inl ⟨trivial, ?_⟩
            have g88 := gd h88
            go_simp
            exact Went6.same (HKR.out _ _) hS rfl
          refine EachOp.cons ?_ ?_
          · intro L a u hL hst hS hdep hq hno
            have h89 : a.tmps.getD 89 undef = .pointer (some ⟨b, 0, none⟩) := hdep 89 (by kernel_rfl)
            refine .inl ⟨trivial, ?_⟩
            have g89 := gd h89
            go_simp
            exact Went6.same (HKR.out _ _) hS rfl
          refine EachOp.cons ?_ ?_
          · intro L a u hL hst hS hdep hq hno
            have h90 : a.tmps.getD 90 undef = .pointer (some ⟨b, 0, none⟩) := hdep 90 (by kernel_rfl)
            refine .inl ⟨trivial, ?_⟩
            have g90 := gd h90
            have h20 : L 17 = false := hno 12 17 (by kernel_rfl)
            have hB : Below w6.heap.size w6 u := SL6.ahead hS h20
            have hS2 : ∀ u', Below w6.heap.size w6 u' → SL6 17 w6 FN L u' := fun u' h => SL6.of h20 h
            obtain ⟨y0, _, y2, _⟩ := (HX4.out.keep (fun k e => hB.block k (HX4.out.lt k e)) hB.size).tops
            go_simp
            exact Went6.same (HKR.out _ _) hS rfl
          refine EachOp.cons ?_ ?_
          · intro L a u hL hst hS hdep hq hno
            have h0 : a.tmps.getD 0 undef = .pointer (some ⟨b, 0, none⟩) := hst.out 0 (by kernel_rfl)
            refine .inl ⟨trivial, ?_⟩
            have g0 := gd h0
            go_simp
            exact Went6.same (HKR.out _ _) hS rfl
          refine EachOp.cons ?_ ?_
          · intro L a u hL hst hS hdep hq hno
            have h92 : a.tmps.getD 92 undef = .pointer (some ⟨b, 0, none⟩) := hdep 92 (by kernel_rfl)
            refine .inl ⟨trivial, ?_⟩
            have g92 := gd h92
            go_simp
            exact Went6.same (HKR.out _ _) hS rfl
          refine EachOp.cons ?_ ?_
          · intro L a u hL hst hS hdep hq hno
            have h93 : a.tmps.getD 93 undef = .pointer (some ⟨b, 0, none⟩) := hdep 93 (by kernel_rfl)
            refine .inl ⟨trivial, ?_⟩
            have g93 := gd h93
            go_simp
            exact Went6.same (HKR.out _ _) hS rfl
          refine EachOp.cons ?_ ?_
          · intro L a u hL hst hS hdep hq hno
            have h94 : a.tmps.getD 94 undef = .pointer (some ⟨b, 2, none⟩) := hdep 94 (by kernel_rfl)
            refine .inl ⟨trivial, ?_⟩
            have g94 := gd h94
            have h20 : L 17 = false := hno 12 17 (by kernel_rfl)
            have hB : Below w6.heap.size w6 u := SL6.ahead hS h20
            have hS2 : ∀ u', Below w6.heap.size w6 u' → SL6 17 w6 FN L u' := fun u' h => SL6.of h20 h
            obtain ⟨y0, _, y2, _⟩ := (HX4.out.keep (fun k e => hB.block k (HX4.out.lt k e)) hB.size).tops
            go_simp
            exact Went6.same (HKR.out _ _) hS rfl
          refine EachOp.cons ?_ ?_
          · intro L a u hL hst hS hdep hq hno
            have h95 : a.tmps.getD 95 undef = .slice AL nl cl := hdep 95 (by kernel_rfl)
            refine .inl ⟨trivial, ?_⟩
            have g95 := gd h95
            go_simp
            exact Went6.same (HKR.out _ _) hS rfl
          refine EachOp.cons ?_ ?_
          · intro L a u hL hst hS hdep hq hno
            have h96 : a.tmps.getD 96 undef = .int .i64 nl := hdep 96 (by kernel_rfl)
            refine .inl ⟨trivial, ?_⟩
            have g96 := gd h96
            go_simp
            exact Went6.same (HKR.out _ _) hS rfl
          refine EachOp.cons ?_ ?_
          · intro L a u hL hst hS hdep hq hno
            have h4 : a.tmps.getD 4 undef = .string s := hst.out 4 (by kernel_rfl)
            refine .inl ⟨trivial, ?_⟩
            have g4 := gd h4
            go_simp
            exact Went6.same (HKR.out _ _) hS rfl
          refine EachOp.cons ?_ ?_
          · intro L a u hL hst hS hdep hq hno
            have h98 : a.tmps.getD 98 undef = .string s := hdep 98 (by kernel_rfl)
            refine .inl ⟨trivial, ?_⟩
            have g98 := gd h98
            go_simp
            have h20 : L 17 = false := hno 12 17 (by kernel_rfl)
            have hB : Below w6.heap.size w6 u := SL6.ahead hS h20
            have hS2 : ∀ u', Below w6.heap.size w6 u' → SL6 17 w6 FN L u' := fun u' h => SL6.of h20 h
            have hof := rof_ok s u (by have := HS.out; unfold Sm at this; unfold maxLen; omega)
            unfold OfTo at hof
            refine hof.mono ?_
            rintro e' u' ⟨pd, pk, pv, rfl, g9, hb'⟩
            exact Went6.next (hS2 _ (hB.trans (hb'.mono hB.size))) (fun _ _ => hb') ⟨⟨pd, pk, pv, rfl, g9⟩, fun _ _ => trivial⟩
          refine EachOp.cons ?_ ?_
          · intro L a u hL hst hS hdep hq hno
            have h0 : a.tmps.getD 0 undef = .pointer (some ⟨b, 0, none⟩) := hst.out 0 (by kernel_rfl)
            refine .inl ⟨trivial, ?_⟩
            have g0 := gd h0
            go_simp
            exact Went6.same (HKR.out _ _) hS rfl
          refine EachOp.cons ?_ ?_
          · intro L a u hL hst hS hdep hq hno
            have h13 : a.tmps.getD 13 undef = .slice (tA) tn td := hst.out 13 (by kernel_rfl)
            refine .inl ⟨trivial, ?_⟩
            have g13 := gd h13
            go_simp
            exact Went6.same (HKR.out _ _) hS rfl
          refine EachOp.cons ?_ ?_
          · intro L a u hL hst hS hdep hq hno
            have h100 : a.tmps.getD 100 undef = .pointer (some ⟨b, 0, none⟩) := hdep 100 (by kernel_rfl)
            have h101 : a.tmps.getD 101 undef = .slice (tA) tn td := hdep 101 (by kernel_rfl)
            refine .inl ⟨trivial, ?_⟩
            have g100 := gd h100
            have g101 := gd h101
            go_simp
            have h20 : L 17 = false := hno 12 17 (by kernel_rfl)
            have hB : Below w6.heap.size w6 u := SL6.ahead hS h20
            have hS2 : ∀ u', Below w6.heap.size w6 u' → SL6 17 w6 FN L u' := fun u' h => SL6.of h20 h
            have hbw : Below w.heap.size w u := HB4X.out.trans (hB.mono HB4X.out.size)
            have htl := rtable15_ok (tA) (tn) (td) ts (Thing.next HT.out hbw) HI.out.lg (fun x hx => (HI.out.lt x hx).1) (HWX.out.next hB) (HWN.out) HWS.out
            rw [HTB.out] at htl
            refine htl.mono ?_
            rintro e' u' ⟨D2, m2, e2, rfl, g2, hb'⟩
            exact Went6.next (hS2 _ (hB.trans (hb'.mono hB.size))) (fun _ _ => hb') ⟨D2, m2, e2, rfl, fun _ _ => g2⟩
          refine EachOp.cons ?_ ?_
          · intro L a u hL hst hS hdep hq hno
            obtain ⟨⟨pd, pk, pv, h99, g9⟩, _⟩ := hdep 99 (by kernel_rfl)
            obtain ⟨D2, m2, e2, h102, r102⟩ := hdep 102 (by kernel_rfl)
            refine .inl ⟨trivial, ?_⟩
            have g99 := gd h99
            have g102 := gd h102
            go_simp
            have h20 : L 17 = false := hno 12 17 (by kernel_rfl)
            have hB : Below w6.heap.size w6 u := SL6.ahead hS h20
            have hS2 : ∀ u', Below w6.heap.size w6 u' → SL6 17 w6 FN L u' := fun u' h => SL6.of h20 h
            have hkr := r102 h20 h20
            refine (rreads_ok pd pk pv D2 m2 e2 tb u hkr HSRT.out (by have := hkr.len; have := HTBL.out; omega)).mono ?_
            rintro e' u' ⟨D3, m3, e3, rfl, g3, _, hb'⟩
            refine Went6.next (hS2 _ (hB.trans (hb'.mono hB.size))) (fun _ _ => hb') ⟨D3, m3, e3, rfl, fun _ _ => ?_⟩
            rw [← HRS.out, rdT_of g9]
            exact g3
          refine EachOp.cons ?_ ?_
          · intro L a u hL hst hS hdep hq hno
            have h91 : a.tmps.getD 91 undef = .int .u64 n.ep := hdep 91 (by kernel_rfl)
            have h97 : a.tmps.getD 97 undef = .int .u64 nl := hdep 97 (by kernel_rfl)
            obtain ⟨D3, m3, e3, h103, r103⟩ := hdep 103 (by kernel_rfl)
            refine .inl ⟨trivial, ?_⟩
            have g91 := gd h91
            have g97 := gd h97
            have g103 := gd h103
            go_simp
            have h20 : L 17 = false := hno 12 17 (by kernel_rfl)
            have hB : Below w6.heap.size w6 u := SL6.ahead hS h20
            have hS2 : ∀ u', Below w6.heap.size w6 u' → SL6 17 w6 FN L u' := fun u' h => SL6.of h20 h
            exact Went6.same (HKR.out _ _) (hS2 _ hB) ⟨D3, m3, e3, rfl, fun _ _ => r103 h20 h20⟩
          refine EachOp.cons ?_ ?_
          · intro L a u hL hst hS hdep hq hno
            have h10 : a.tmps.getD 10 undef = .pointer (some ⟨rb, 0, none⟩) := hst.out 10 (by kernel_rfl)
            obtain ⟨D4, m4, e4, h104, r104⟩ := hdep 104 (by kernel_rfl)
            refine .inl ⟨trivial, ?_⟩
            have g10 := gd h10
            have g104 := gd h104
            have hB : Below w6.heap.size w6 u := SL6.ahead hS hL
            have hru := (hB.block rb (Array.getElem?_eq_some_iff.1 HR4.out).1).trans HR4.out
            obtain ⟨r0, f0⟩ := cellsAt hru 0 (v := .int .i64 0) rfl
            obtain ⟨r1, f1⟩ := cellsAt hru 1 (v := .int .u64 0) rfl
            obtain ⟨r2, f2⟩ := cellsAt hru 2 (v := .int .u64 0) rfl
            obtain ⟨r3, f3⟩ := cellsAt hru 3 (v := .slice none 0 0) rfl
            go_simp
            have hx5 := r104 hL hL
            have hq : ∀ k, k ≠ rb → ((((u.setCell ⟨rb, 0, none⟩ (.int .i64 0)).setCell ⟨rb, 1, none⟩ (.int .u64 n.ep)).setCell ⟨rb, 2, none⟩ (.int .u64 nl)).setCell ⟨rb, 3, none⟩ (.slice D4 m4 e4)).heap[k]? = u.heap[k]? := fun k hk => (set_other hk).trans ((set_other hk).trans ((set_other hk).trans (set_other hk)))
            have hb5 : Below w.heap.size w u := HB4X.out.trans (hB.mono HB4X.out.size)
            have hwb := Nat.le_of_eq HRB.out
            exact ⟨undef, rfl, SL6.last done_same ((HFNN.out _).2 ⟨D4, m4, e4, heap_setCell_same _ rb 3 _ _ (.slice D4 m4 e4) (heap_setCell_same _ rb 2 _ _ (.int .u64 nl) (heap_setCell_same _ rb 1 _ _ (.int .u64 n.ep) (heap_setCell_same u rb 0 _ _ (.int .i64 0) hru))), hx5.poke hru (by intro i s2; match i with | 0 => simp | 1 => simp | 2 => simp | 3 => simp | i + 4 => simp) hq (by rw [set_size, set_size, set_size, set_size]; exact Nat.le_refl _), (((hb5.setCell hwb _).setCell hwb _).setCell hwb _).setCell hwb _⟩), fun h _ => absurd rfl h, fun t e => by cases e⟩
          exact EachOp.nil
        · intro L a u hLs hst hS hdep
          have h88 : a.tmps.getD 88 undef = .pointer (some ⟨b, 0, none⟩) := hdep 88 (by kernel_rfl)
          have h89 : a.tmps.getD 89 undef = .pointer (some ⟨b, 0, none⟩) := hdep 89 (by kernel_rfl)
          have h90 : a.tmps.getD 90 undef = .pointer (some ⟨b, 0, none⟩) := hdep 90 (by kernel_rfl)
          have h91 : a.tmps.getD 91 undef = .int .u64 n.ep := hdep 91 (by kernel_rfl)
          have h92 : a.tmps.getD 92 undef = .pointer (some ⟨b, 0, none⟩) := hdep 92 (by kernel_rfl)
          have h93 : a.tmps.getD 93 undef = .pointer (some ⟨b, 0, none⟩) := hdep 93 (by kernel_rfl)
          have h94 : a.tmps.getD 94 undef = .pointer (some ⟨b, 2, none⟩) := hdep 94 (by kernel_rfl)
          have h95 : a.tmps.getD 95 undef = .slice AL nl cl := hdep 95 (by kernel_rfl)
          have h96 : a.tmps.getD 96 undef = .int .i64 nl := hdep 96 (by kernel_rfl)
          have h97 : a.tmps.getD 97 undef = .int .u64 nl := hdep 97 (by kernel_rfl)
          have h98 : a.tmps.getD 98 undef = .string s := hdep 98 (by kernel_rfl)
          obtain ⟨⟨pd, pk, pv, h99, g9⟩, _⟩ := hdep 99 (by kernel_rfl)
          have h100 : a.tmps.getD 100 undef = .pointer (some ⟨b, 0, none⟩) := hdep 100 (by kernel_rfl)
          have h101 : a.tmps.getD 101 undef = .slice (tA) tn td := hdep 101 (by kernel_rfl)
          obtain ⟨D2, m2, e2, h102, r102⟩ := hdep 102 (by kernel_rfl)
          obtain ⟨D3, m3, e3, h103, r103⟩ := hdep 103 (by kernel_rfl)
          obtain ⟨D4, m4, e4, h104, r104⟩ := hdep 104 (by kernel_rfl)
          have hfr := hst.frame [(88, .pointer (some ⟨b, 0, none⟩)), (89, .pointer (some ⟨b, 0, none⟩)), (90, .pointer (some ⟨b, 0, none⟩)), (91, .int .u64 n.ep), (92, .pointer (some ⟨b, 0, none⟩)), (93, .pointer (some ⟨b, 0, none⟩)), (94, .pointer (some ⟨b, 2, none⟩)), (95, .slice AL nl cl), (96, .int .i64 nl), (97, .int .u64 nl), (98, .string s), (99, .agg #[.int .i64 pd, .string pk, .string pv]), (100, .pointer (some ⟨b, 0, none⟩)), (101, .slice (tA) tn td), (102, .slice D2 m2 e2), (103, .slice D3 m3 e3), (104, .agg #[.int .i64 0, .int .u64 n.ep, .int .u64 nl, .slice D4 m4 e4])] (by kernel_rfl) ⟨h88, h89, h90, h91, h92, h93, h94, h95, h96, h97, h98, h99, h100, h101, h102, h103, h104, trivial⟩
          clear hst hdep h88 h89 h90 h91 h92 h93 h94 h95 h96 h97 h98 h99 h100 h101 h102 h103 h104
          subst hfr
          simp only [List.foldl_cons, List.foldl_nil, List.setIfInBounds_toArray, List.set_cons_zero, List.set_cons_succ]
          obtain ⟨A9, m9, d9, hr9, hx9, hb9⟩ := (HFNN.out u).1 (SL6.done hS (hLs 17 (by kernel_rfl)))
          obtain ⟨r0, _⟩ := cellsAt hr9 0 (v := .int .i64 0) rfl
          obtain ⟨r1, _⟩ := cellsAt hr9 1 (v := .int .u64 n.ep) rfl
          obtain ⟨r2, _⟩ := cellsAt hr9 2 (v := .int .u64 nl) rfl
          obtain ⟨r3, _⟩ := cellsAt hr9 3 (v := .slice A9 m9 d9) rfl
          have HFX := Lib.hid hx9
          have HFB := Lib.hid hb9
          clear hS hLs hr9 hx9 hb9
          go_wp2_with fail
          refine bodyPost_ret (v := .agg #[.int .i64 0, .int .u64 n.ep, .int .u64 nl, .slice A9 m9 d9]) ?_ rfl (by first | exact ⟨A9, m9, d9, rfl, HFX.out, Turn.same HT.out HFB.out⟩ | exact ⟨A9, m9, ⟨d9, rfl⟩, HFX.out, Turn.same HT.out HFB.out⟩)
          rw [results_cell1 rfl]
          go_simp
    | false =>
      have hld : n.ld = true := by
        cases hl : n.ld with
        | true => rfl
        | false => exact absurd ⟨rfl, hl⟩ h7
      clear h7
      obtain ⟨AL, nl, cl, AO, no, co, os, hx0⟩ := HT.out
      have hnl : n.lg.length = nl := hx0.lg.len
      have hnl2 : nl ≤ 200 := by rw [← hnl]; exact HI.out.lg
      have hwp : IntKind.u64.wrap (nl : Int) = nl := by rw [IntKind.wrap_u64]; omega
      rw [hnl]
      have HX := Lib.hid hx0
      have HNL := Lib.hid hnl
      clear hx0 hnl
      obtain ⟨ts, hts⟩ : ∃ x, waitsNd n c = x := ⟨_, rfl⟩
      have hws : ∀ s ∈ ts, Sm s := by
        rw [← hts]
        unfold waitsNd
        cases ho : opOf c n.op with
        | none => intro s hs; cases hs
        | some xs =>
          obtain ⟨o, hm, _, rfl⟩ := opOf_mem ho
          exact (HI.out.oc o hm).2.2.2
      have hwl : ts.length ≤ 200 := by
        rw [← hts]
        unfold waitsNd
        cases ho : opOf c n.op with
        | none => exact Nat.zero_le _
        | some xs =>
          obtain ⟨o, hm, _, rfl⟩ := opOf_mem ho
          exact (HI.out.oc o hm).2.2.1
      have HWS := Lib.hid hws
      have HWL := Lib.hid hwl
      obtain ⟨tb, htb⟩ : ∃ x, tabN n.lg ts = x := ⟨_, rfl⟩
      have HSRT : Hid (Srt tb) := Lib.hid (by rw [← htb]; exact tabN_srt _ _)
      have HTBL : Hid (tb.length ≤ 400) := Lib.hid (by rw [← htb]; have := tabN_len n.lg ts; have := HI.out.lg; omega)
      obtain ⟨rs, hrs⟩ : ∃ x, rdT s tb = x := ⟨_, rfl⟩
      have HRS := Lib.hid hrs
      have HTB := Lib.hid htb
      rw [hts, htb, hrs]
      clear hws hwl htb hrs
      -- where the waiting texts lie
      have hol := HI.out.ol
      have HFN := Lib.hid (fun (u : World) (hu : Below w.heap.size w u) => rfind15_ok c (Thing.next HT.out hu) (by omega : n.op.length ≤ 1000))
      go_enter Tryz.func33, Tryz.ntmps33
      go_wp2_with fail
      rw [HW2.out, HRB.out]
      refine HCS.out.mono ?_
      rintro e3 w3 ⟨rfl, k3⟩
      have hb3 : Below w.heap.size w w3 := HK2.out.trans (k3.mono HK2.out.size)
      have hx3 := HX.out.keep (fun k e => hb3.block k (HX.out.lt k e)) hb3.size
      obtain ⟨c0, c1, c2, c3, _⟩ := hx3.tops
      have hr3 : w3.heap[rb]? = some (.cells #[.int .i64 0, .int .u64 0, .int .u64 0, .slice none 0 0] 36 (0, 0)) := (k3.block rb (by have := HZ2.out; omega)).trans HR2.out
      obtain ⟨r0, f0⟩ := cellsAt hr3 0 (v := .int .i64 0) rfl
      obtain ⟨r1, f1⟩ := cellsAt hr3 1 (v := .int .u64 0) rfl
      obtain ⟨r2, f2⟩ := cellsAt hr3 2 (v := .int .u64 0) rfl
      obtain ⟨r3, f3⟩ := cellsAt hr3 3 (v := .slice none 0 0) rfl
      have hbr : b ≠ rb := by have := HRB.out; omega
      have HB3 := Lib.hid hb3
      have HX3 := Lib.hid hx3
      have HR3 := Lib.hid hr3
      have HZ3 : Hid (w2.heap.size ≤ w3.heap.size) := Lib.hid k3.size
      clear hb3 hx3 hr3 k3 HCS
      obtain ⟨w4, hw4⟩ : ∃ u, w3.alloc (.cells #[] 9) = u := ⟨_, rfl⟩
      have k4 : Below w3.heap.size w3 w4 := hw4 ▸ kp_new _ _
      have hb4 : Below w.heap.size w w4 := HB3.out.trans (k4.mono HB3.out.size)
      have hx4 := HX.out.keep (fun k e => hb4.block k (HX.out.lt k e)) hb4.size
      obtain ⟨d0, _, d2, d3, _⟩ := hx4.tops
      have hr4 := (k4.block rb (Array.getElem?_eq_some_iff.1 HR3.out).1).trans HR3.out
      have HX4 := Lib.hid hx4
      have HB4 := Lib.hid hb4
      have HR4 := Lib.hid hr4
      have HW4 := Lib.hid hw4
      have HW3S : Hid (w3.heap.size < w4.heap.size) := Lib.hid (by rw [← hw4]; simp)
      have hblt : b < w3.heap.size := Nat.lt_of_lt_of_le hbw HB3.out.size
      clear hx4 hb4 k4 hr4 hw4 r0 f0 r1 f1 r2 f2 r3 f3
      by_cases hneg : idxOp c n.op < 0
      · have hts0 : ts = [] := by
          rw [← hts]
          unfold waitsNd
          rw [opOf_none.2 (idxOp_no hneg)]
          rfl
        have HWX : Hid (XR w4 (some ⟨w3.heap.size, 0, none⟩) 0 ts) := Lib.hid (by rw [hts0]; exact ⟨rfl, .inl rfl⟩)
        have hge : ¬ 0 ≤ idxOp c n.op := by omega
        obtain ⟨ix, hix⟩ : ∃ x, idxOp c n.op = x := ⟨_, rfl⟩
        rw [hix] at HFN hneg hge
        clear hix hts hts0
        go_wp2_with fail
        rw [HW4.out]
        refine (HFN.out w4 HB4.out).mono ?_
        rintro e5 w5 ⟨rfl, rfl⟩
        have HB4X := HB4
        have HWN : Hid ((0 : Nat) ≤ 200) := Lib.hid (by decide)
        clear HW4
        go_wp2_with fail
        obtain ⟨FN, hFN⟩ : ∃ F : World → Prop, ∀ z, F z ↔ (∃ A m d, z.heap[rb]? = some (.cells #[.int .i64 0, .int .u64 n.ep, .int .u64 nl, .slice A m d] 36 (0, 0)) ∧ XR z A m rs ∧ Below w.heap.size w z) := ⟨_, fun _ => Iff.rfl⟩
        have HFNN := Lib.hid hFN
        clear hFN
        have HKR : Hid (∀ (i : Nat) (u : World), Kp2 17 17 i u u) := Lib.hid (Kp2.refl _ _)
        refine wp_region_specs6 (S := SL6 17 w4 FN) (Kp := Kp2 17 17) (Sp := [(88, Stl.eq (.pointer (some ⟨b, 0, none⟩))), (89, Stl.eq (.pointer (some ⟨b, 0, none⟩))), (90, Stl.eq (.pointer (some ⟨b, 0, none⟩))), (91, Stl.eq (.int .u64 n.ep)), (92, Stl.eq (.pointer (some ⟨b, 0, none⟩))), (93, Stl.eq (.pointer (some ⟨b, 0, none⟩))), (94, Stl.eq (.pointer (some ⟨b, 2, none⟩))), (95, Stl.eq (.slice AL nl cl)), (96, Stl.eq (.int .i64 nl)), (97, Stl.eq (.int .u64 nl)), (98, Stl.eq (.string s)), (99, belL 17 17 (fun _ _ => True) (fun _ _ _ _ _ => trivial) (fun v => ∃ d k v2, v = .agg #[.int .i64 d, .string k, .string v2] ∧ doing d k v2 = planA s.data.toList)), (100, Stl.eq (.pointer (some ⟨b, 0, none⟩))), (101, Stl.eq (.slice (some ⟨w3.heap.size, 0, none⟩) 0 0)), (102, shL 17 17 (fun D m e => .slice D m e) (fun u D m => KR u D m tb) (fun _ _ _ _ h hb => h.next hb)), (103, shL 17 17 (fun D m e => .slice D m e) (fun u D m => XR u D m rs) (fun _ _ _ _ h hb => h.next hb)), (104, shL 17 17 (fun D m e => .agg #[.int .i64 0, .int .u64 n.ep, .int .u64 nl, .slice D m e]) (fun u D m => XR u D m rs) (fun _ _ _ _ h hb => h.next hb))]) (by kernel_rfl) (by kernel_rfl) (SL6.of rfl (kp_drewN _ 1)) ?_ ?_
        · refine EachOp.cons ?_ ?_
          · intro L a u hL hst hS hdep hq hno
            have h0 : a.tmps.getD 0 undef = .pointer (some ⟨b, 0, none⟩) := hst.out 0 (by kernel_rfl)
            refine .inl ⟨trivial, ?_⟩
            have g0 := gd h0
            go_simp
            exact Went6.same (HKR.out _ _) hS rfl
          refine EachOp.cons ?_ ?_
          · intro L a u hL hst hS hdep hq hno
            have h88 : a.tmps.getD 88 undef = .pointer (some ⟨b, 0, none⟩) := hdep 88 (by kernel_rfl)
            refine .inl ⟨trivial, ?_⟩
            have g88 := gd h88
            go_simp
            exact Went6.same (HKR.out _ _) hS rfl
          refine EachOp.cons ?_ ?_
          · intro L a u hL hst hS hdep hq hno
            have h89 : a.tmps.getD 89 undef = .pointer (some ⟨b, 0, none⟩) := hdep 89 (by kernel_rfl)
            refine .inl ⟨trivial, ?_⟩
            have g89 := gd h89
            go_simp
            exact Went6.same (HKR.out _ _) hS rfl
          refine EachOp.cons ?_ ?_
          · intro L a u hL hst hS hdep hq hno
            have h90 : a.tmps.getD 90 undef = .pointer (some ⟨b, 0, none⟩) := hdep 90 (by kernel_rfl)
            refine .inl ⟨trivial, ?_⟩
            have g90 := gd h90
            have h20 : L 17 = false := hno 12 17 (by kernel_rfl)
            have hB : Below w4.heap.size w4 u := SL6.ahead hS h20
            have hS2 : ∀ u', Below w4.heap.size w4 u' → SL6 17 w4 FN L u' := fun u' h => SL6.of h20 h
            obtain ⟨y0, _, y2, _⟩ := (HX4.out.keep (fun k e => hB.block k (HX4.out.lt k e)) hB.size).tops
            go_simp
            exact Went6.same (HKR.out _ _) hS rfl
          refine EachOp.cons ?_ ?_
          · intro L a u hL hst hS hdep hq hno
            have h0 : a.tmps.getD 0 undef = .pointer (some ⟨b, 0, none⟩) := hst.out 0 (by kernel_rfl)
            refine .inl ⟨trivial, ?_⟩
            have g0 := gd h0
            go_simp
            exact Went6.same (HKR.out _ _) hS rfl
          refine EachOp.cons ?_ ?_
          · intro L a u hL hst hS hdep hq hno
            have h92 : a.tmps.getD 92 undef = .pointer (some ⟨b, 0, none⟩) := hdep 92 (by kernel_rfl)
            refine .inl ⟨trivial, ?_⟩
            have g92 := gd h92
            go_simp
            exact Went6.same (HKR.out _ _) hS rfl
          refine EachOp.cons ?_ ?_
          · intro L a u hL hst hS hdep hq hno
            have h93 : a.tmps.getD 93 undef = .pointer (some ⟨b, 0, none⟩) := hdep 93 (by kernel_rfl)
            refine .inl ⟨trivial, ?_⟩
            have g93 := gd h93
            go_simp
            exact Went6.same (HKR.out _ _) hS rfl
          refine EachOp.cons ?_ ?_
          · intro L a u hL hst hS hdep hq hno
            have h94 : a.tmps.getD 94 undef = .pointer (some ⟨b, 2, none⟩) := hdep 94 (by kernel_rfl)
            refine .inl ⟨trivial, ?_⟩
            have g94 := gd h94
            have h20 : L 17 = false := hno 12 17 (by kernel_rfl)
            have hB : Below w4.heap.size w4 u := SL6.ahead hS h20
            have hS2 : ∀ u', Below w4.heap.size w4 u' → SL6 17 w4 FN L u' := fun u' h => SL6.of h20 h
            obtain ⟨y0, _, y2, _⟩ := (HX4.out.keep (fun k e => hB.block k (HX4.out.lt k e)) hB.size).tops
            go_simp
            exact Went6.same (HKR.out _ _) hS rfl
          refine EachOp.cons ?_ ?_
          · intro L a u hL hst hS hdep hq hno
            have h95 : a.tmps.getD 95 undef = .slice AL nl cl := hdep 95 (by kernel_rfl)
            refine .inl ⟨trivial, ?_⟩
            have g95 := gd h95
            go_simp
            exact Went6.same (HKR.out _ _) hS rfl
          refine EachOp.cons ?_ ?_
          · intro L a u hL hst hS hdep hq hno
            have h96 : a.tmps.getD 96 undef = .int .i64 nl := hdep 96 (by kernel_rfl)
            refine .inl ⟨trivial, ?_⟩
            have g96 := gd h96
            go_simp
            exact Went6.same (HKR.out _ _) hS rfl
          refine EachOp.cons ?_ ?_
          · intro L a u hL hst hS hdep hq hno
            have h4 : a.tmps.getD 4 undef = .string s := hst.out 4 (by kernel_rfl)
            refine .inl ⟨trivial, ?_⟩
            have g4 := gd h4
            go_simp
            exact Went6.same (HKR.out _ _) hS rfl
          refine EachOp.cons ?_ ?_
          · intro L a u hL hst hS hdep hq hno
            have h98 : a.tmps.getD 98 undef = .string s := hdep 98 (by kernel_rfl)
            refine .inl ⟨trivial, ?_⟩
            have g98 := gd h98
            go_simp
            have h20 : L 17 = false := hno 12 17 (by kernel_rfl)
            have hB : Below w4.heap.size w4 u := SL6.ahead hS h20
            have hS2 : ∀ u', Below w4.heap.size w4 u' → SL6 17 w4 FN L u' := fun u' h => SL6.of h20 h
            have hof := rof_ok s u (by have := HS.out; unfold Sm at this; unfold maxLen; omega)
            unfold OfTo at hof
            refine hof.mono ?_
            rintro e' u' ⟨pd, pk, pv, rfl, g9, hb'⟩
            exact Went6.next (hS2 _ (hB.trans (hb'.mono hB.size))) (fun _ _ => hb') ⟨⟨pd, pk, pv, rfl, g9⟩, fun _ _ => trivial⟩
          refine EachOp.cons ?_ ?_
          · intro L a u hL hst hS hdep hq hno
            have h0 : a.tmps.getD 0 undef = .pointer (some ⟨b, 0, none⟩) := hst.out 0 (by kernel_rfl)
            refine .inl ⟨trivial, ?_⟩
            have g0 := gd h0
            go_simp
            exact Went6.same (HKR.out _ _) hS rfl
          refine EachOp.cons ?_ ?_
          · intro L a u hL hst hS hdep hq hno
            have h13 : a.tmps.getD 13 undef = .slice (some ⟨w3.heap.size, 0, none⟩) 0 0 := hst.out 13 (by kernel_rfl)
            refine .inl ⟨trivial, ?_⟩
            have g13 := gd h13
            go_simp
            exact Went6.same (HKR.out _ _) hS rfl
          refine EachOp.cons ?_ ?_
          · intro L a u hL hst hS hdep hq hno
            have h100 : a.tmps.getD 100 undef = .pointer (some ⟨b, 0, none⟩) := hdep 100 (by kernel_rfl)
            have h101 : a.tmps.getD 101 undef = .slice (some ⟨w3.heap.size, 0, none⟩) 0 0 := hdep 101 (by kernel_rfl)
            refine .inl ⟨trivial, ?_⟩
            have g100 := gd h100
            have g101 := gd h101
            go_simp
            have h20 : L 17 = false := hno 12 17 (by kernel_rfl)
            have hB : Below w4.heap.size w4 u := SL6.ahead hS h20
            have hS2 : ∀ u', Below w4.heap.size w4 u' → SL6 17 w4 FN L u' := fun u' h => SL6.of h20 h
            have hbw : Below w.heap.size w u := HB4X.out.trans (hB.mono HB4X.out.size)
            have htl := rtable15_ok (some ⟨w3.heap.size, 0, none⟩) (0) (0) ts (Thing.next HT.out hbw) HI.out.lg (fun x hx => (HI.out.lt x hx).1) (HWX.out.next hB) (HWN.out) HWS.out
            rw [HTB.out] at htl
            refine htl.mono ?_
            rintro e' u' ⟨D2, m2, e2, rfl, g2, hb'⟩
            exact Went6.next (hS2 _ (hB.trans (hb'.mono hB.size))) (fun _ _ => hb') ⟨D2, m2, e2, rfl, fun _ _ => g2⟩
          refine EachOp.cons ?_ ?_
          · intro L a u hL hst hS hdep hq hno
            obtain ⟨⟨pd, pk, pv, h99, g9⟩, _⟩ := hdep 99 (by kernel_rfl)
            obtain ⟨D2, m2, e2, h102, r102⟩ := hdep 102 (by kernel_rfl)
            refine .inl ⟨trivial, ?_⟩
            have g99 := gd h99
            have g102 := gd h102
            go_simp
            have h20 : L 17 = false := hno 12 17 (by kernel_rfl)
            have hB : Below w4.heap.size w4 u := SL6.ahead hS h20
            have hS2 : ∀ u', Below w4.heap.size w4 u' → SL6 17 w4 FN L u' := fun u' h => SL6.of h20 h
            have hkr := r102 h20 h20
            refine (rreads_ok pd pk pv D2 m2 e2 tb u hkr HSRT.out (by have := hkr.len; have := HTBL.out; omega)).mono ?_
            rintro e' u' ⟨D3, m3, e3, rfl, g3, _, hb'⟩
            refine Went6.next (hS2 _ (hB.trans (hb'.mono hB.size))) (fun _ _ => hb') ⟨D3, m3, e3, rfl, fun _ _ => ?_⟩
            rw [← HRS.out, rdT_of g9]
            exact g3
          refine EachOp.cons ?_ ?_
          · intro L a u hL hst hS hdep hq hno
            have h91 : a.tmps.getD 91 undef = .int .u64 n.ep := hdep 91 (by kernel_rfl)
            have h97 : a.tmps.getD 97 undef = .int .u64 nl := hdep 97 (by kernel_rfl)
            obtain ⟨D3, m3, e3, h103, r103⟩ := hdep 103 (by kernel_rfl)
            refine .inl ⟨trivial, ?_⟩
            have g91 := gd h91
            have g97 := gd h97
            have g103 := gd h103
            go_simp
            have h20 : L 17 = false := hno 12 17 (by kernel_rfl)
            have hB : Below w4.heap.size w4 u := SL6.ahead hS h20
            have hS2 : ∀ u', Below w4.heap.size w4 u' → SL6 17 w4 FN L u' := fun u' h => SL6.of h20 h
            exact Went6.same (HKR.out _ _) (hS2 _ hB) ⟨D3, m3, e3, rfl, fun _ _ => r103 h20 h20⟩
          refine EachOp.cons ?_ ?_
          · intro L a u hL hst hS hdep hq hno
            have h10 : a.tmps.getD 10 undef = .pointer (some ⟨rb, 0, none⟩) := hst.out 10 (by kernel_rfl)
            obtain ⟨D4, m4, e4, h104, r104⟩ := hdep 104 (by kernel_rfl)
            refine .inl ⟨trivial, ?_⟩
            have g10 := gd h10
            have g104 := gd h104
            have hB : Below w4.heap.size w4 u := SL6.ahead hS hL
            have hru := (hB.block rb (Array.getElem?_eq_some_iff.1 HR4.out).1).trans HR4.out
            obtain ⟨r0, f0⟩ := cellsAt hru 0 (v := .int .i64 0) rfl
            obtain ⟨r1, f1⟩ := cellsAt hru 1 (v := .int .u64 0) rfl
            obtain ⟨r2, f2⟩ := cellsAt hru 2 (v := .int .u64 0) rfl
            obtain ⟨r3, f3⟩ := cellsAt hru 3 (v := .slice none 0 0) rfl
            go_simp
            have hx5 := r104 hL hL
            have hq : ∀ k, k ≠ rb → ((((u.setCell ⟨rb, 0, none⟩ (.int .i64 0)).setCell ⟨rb, 1, none⟩ (.int .u64 n.ep)).setCell ⟨rb, 2, none⟩ (.int .u64 nl)).setCell ⟨rb, 3, none⟩ (.slice D4 m4 e4)).heap[k]? = u.heap[k]? := fun k hk => (set_other hk).trans ((set_other hk).trans ((set_other hk).trans (set_other hk)))
            have hb5 : Below w.heap.size w u := HB4X.out.trans (hB.mono HB4X.out.size)
            have hwb := Nat.le_of_eq HRB.out
            exact ⟨undef, rfl, SL6.last done_same ((HFNN.out _).2 ⟨D4, m4, e4, heap_setCell_same _ rb 3 _ _ (.slice D4 m4 e4) (heap_setCell_same _ rb 2 _ _ (.int .u64 nl) (heap_setCell_same _ rb 1 _ _ (.int .u64 n.ep) (heap_setCell_same u rb 0 _ _ (.int .i64 0) hru))), hx5.poke hru (by intro i s2; match i with | 0 => simp | 1 => simp | 2 => simp | 3 => simp | i + 4 => simp) hq (by rw [set_size, set_size, set_size, set_size]; exact Nat.le_refl _), (((hb5.setCell hwb _).setCell hwb _).setCell hwb _).setCell hwb _⟩), fun h _ => absurd rfl h, fun t e => by cases e⟩
          exact EachOp.nil
        · intro L a u hLs hst hS hdep
          have h88 : a.tmps.getD 88 undef = .pointer (some ⟨b, 0, none⟩) := hdep 88 (by kernel_rfl)
          have h89 : a.tmps.getD 89 undef = .pointer (some ⟨b, 0, none⟩) := hdep 89 (by kernel_rfl)
          have h90 : a.tmps.getD 90 undef = .pointer (some ⟨b, 0, none⟩) := hdep 90 (by kernel_rfl)
          have h91 : a.tmps.getD 91 undef = .int .u64 n.ep := hdep 91 (by kernel_rfl)
          have h92 : a.tmps.getD 92 undef = .pointer (some ⟨b, 0, none⟩) := hdep 92 (by kernel_rfl)
          have h93 : a.tmps.getD 93 undef = .pointer (some ⟨b, 0, none⟩) := hdep 93 (by kernel_rfl)
          have h94 : a.tmps.getD 94 undef = .pointer (some ⟨b, 2, none⟩) := hdep 94 (by kernel_rfl)
          have h95 : a.tmps.getD 95 undef = .slice AL nl cl := hdep 95 (by kernel_rfl)
          have h96 : a.tmps.getD 96 undef = .int .i64 nl := hdep 96 (by kernel_rfl)
          have h97 : a.tmps.getD 97 undef = .int .u64 nl := hdep 97 (by kernel_rfl)
          have h98 : a.tmps.getD 98 undef = .string s := hdep 98 (by kernel_rfl)
          obtain ⟨⟨pd, pk, pv, h99, g9⟩, _⟩ := hdep 99 (by kernel_rfl)
          have h100 : a.tmps.getD 100 undef = .pointer (some ⟨b, 0, none⟩) := hdep 100 (by kernel_rfl)
          have h101 : a.tmps.getD 101 undef = .slice (some ⟨w3.heap.size, 0, none⟩) 0 0 := hdep 101 (by kernel_rfl)
          obtain ⟨D2, m2, e2, h102, r102⟩ := hdep 102 (by kernel_rfl)
          obtain ⟨D3, m3, e3, h103, r103⟩ := hdep 103 (by kernel_rfl)
          obtain ⟨D4, m4, e4, h104, r104⟩ := hdep 104 (by kernel_rfl)
          have hfr := hst.frame [(88, .pointer (some ⟨b, 0, none⟩)), (89, .pointer (some ⟨b, 0, none⟩)), (90, .pointer (some ⟨b, 0, none⟩)), (91, .int .u64 n.ep), (92, .pointer (some ⟨b, 0, none⟩)), (93, .pointer (some ⟨b, 0, none⟩)), (94, .pointer (some ⟨b, 2, none⟩)), (95, .slice AL nl cl), (96, .int .i64 nl), (97, .int .u64 nl), (98, .string s), (99, .agg #[.int .i64 pd, .string pk, .string pv]), (100, .pointer (some ⟨b, 0, none⟩)), (101, .slice (some ⟨w3.heap.size, 0, none⟩) 0 0), (102, .slice D2 m2 e2), (103, .slice D3 m3 e3), (104, .agg #[.int .i64 0, .int .u64 n.ep, .int .u64 nl, .slice D4 m4 e4])] (by kernel_rfl) ⟨h88, h89, h90, h91, h92, h93, h94, h95, h96, h97, h98, h99, h100, h101, h102, h103, h104, trivial⟩
          clear hst hdep h88 h89 h90 h91 h92 h93 h94 h95 h96 h97 h98 h99 h100 h101 h102 h103 h104
          subst hfr
          simp only [List.foldl_cons, List.foldl_nil, List.setIfInBounds_toArray, List.set_cons_zero, List.set_cons_succ]
          obtain ⟨A9, m9, d9, hr9, hx9, hb9⟩ := (HFNN.out u).1 (SL6.done hS (hLs 17 (by kernel_rfl)))
          obtain ⟨r0, _⟩ := cellsAt hr9 0 (v := .int .i64 0) rfl
          obtain ⟨r1, _⟩ := cellsAt hr9 1 (v := .int .u64 n.ep) rfl
          obtain ⟨r2, _⟩ := cellsAt hr9 2 (v := .int .u64 nl) rfl
          obtain ⟨r3, _⟩ := cellsAt hr9 3 (v := .slice A9 m9 d9) rfl
          have HFX := Lib.hid hx9
          have HFB := Lib.hid hb9
          clear hS hLs hr9 hx9 hb9
          go_wp2_with fail
          refine bodyPost_ret (v := .agg #[.int .i64 0, .int .u64 n.ep, .int .u64 nl, .slice A9 m9 d9]) ?_ rfl (by first | exact ⟨A9, m9, d9, rfl, HFX.out, Turn.same HT.out HFB.out⟩ | exact ⟨A9, m9, ⟨d9, rfl⟩, HFX.out, Turn.same HT.out HFB.out⟩)
          rw [results_cell1 rfl]
          go_simp
      · obtain ⟨i, hi⟩ : ∃ i : Nat, idxOp c n.op = i := ⟨(idxOp c n.op).toNat, by omega⟩
        obtain ⟨hil, hop⟩ := idxOp_of hi
        have hts0 : n.op[i].ts = ts := by
          rw [← hts]
          unfold waitsNd
          rw [hop]
          rfl
        have hlen := HX.out.len
        have holen := HX.out.olen
        have hio : i < os.length := by omega
        have hin : (i : Int) < (no : Int) := by omega
        have hi0 : (0 : Int) ≤ (i : Int) := by omega
        obtain ⟨g, rfl, hSg, hgb, z0, z1, _⟩ := HX4.out.opat hio
        have hxr := (HX4.out.at_ i hio hil).2
        rw [hts0] at hxr
        obtain ⟨tA, hA⟩ : ∃ x, os[i].A = x := ⟨_, rfl⟩
        obtain ⟨tn, hn⟩ : ∃ x, os[i].n = x := ⟨_, rfl⟩
        obtain ⟨td, hd0⟩ : ∃ x, os[i].d = x := ⟨_, rfl⟩
        rw [hA, hn] at hxr
        rw [hA, hn, hd0] at z1
        have HWX0 := Lib.hid hxr
        have HWN : Hid (tn ≤ 200) := Lib.hid (by rw [← hxr.len]; exact HWL.out)
        rw [hi] at HFN
        clear hts hts0 hop hxr hA hn hd0 hlen holen hneg
        go_wp2_with fail
        rw [HW4.out]
        refine (HFN.out w4 HB4.out).mono ?_
        rintro e5 w5 ⟨rfl, rfl⟩
        clear HW4
        go_wp2_with fail
        go_quiet (first | (go_at_call 50; refine (HFN.out _ (HB4.out.trans ((kp_drewN w4 _).mono HB4.out.size))).mono ?_; rintro e6 w6 ⟨rfl, rfl⟩; refine ⟨rfl, _, rfl⟩))
        obtain ⟨w6, hw6⟩ : ∃ x, w4.drewN nq = x := ⟨_, rfl⟩
        have q6 : Below w4.heap.size w4 w6 := hw6 ▸ kp_drewN w4 nq
        rw [hw6]
        have HB4X := Lib.hid (HB4.out.trans (q6.mono HB4.out.size))
        have HWX := Lib.hid (HWX0.out.next q6)
        have HX4 := Lib.hid (HX4.out.keep (fun k e => q6.block k (HX4.out.lt k e)) q6.size)
        have HR4 := Lib.hid ((q6.block rb (Array.getElem?_eq_some_iff.1 HR4.out).1).trans HR4.out)
        clear hw6 q6
        go_wp2_with fail
        obtain ⟨FN, hFN⟩ : ∃ F : World → Prop, ∀ z, F z ↔ (∃ A m d, z.heap[rb]? = some (.cells #[.int .i64 0, .int .u64 n.ep, .int .u64 nl, .slice A m d] 36 (0, 0)) ∧ XR z A m rs ∧ Below w.heap.size w z) := ⟨_, fun _ => Iff.rfl⟩
        have HFNN := Lib.hid hFN
        clear hFN
        have HKR : Hid (∀ (i : Nat) (u : World), Kp2 17 17 i u u) := Lib.hid (Kp2.refl _ _)
        refine wp_region_specs6 (S := SL6 17 w6 FN) (Kp := Kp2 17 17) (Sp := [(88, Stl.eq (.pointer (some ⟨b, 0, none⟩))), (89, Stl.eq (.pointer (some ⟨b, 0, none⟩))), (90, Stl.eq (.pointer (some ⟨b, 0, none⟩))), (91, Stl.eq (.int .u64 n.ep)), (92, Stl.eq (.pointer (some ⟨b, 0, none⟩))), (93, Stl.eq (.pointer (some ⟨b, 0, none⟩))), (94, Stl.eq (.pointer (some ⟨b, 2, none⟩))), (95, Stl.eq (.slice AL nl cl)), (96, Stl.eq (.int .i64 nl)), (97, Stl.eq (.int .u64 nl)), (98, Stl.eq (.string s)), (99, belL 17 17 (fun _ _ => True) (fun _ _ _ _ _ => trivial) (fun v => ∃ d k v2, v = .agg #[.int .i64 d, .string k, .string v2] ∧ doing d k v2 = planA s.data.toList)), (100, Stl.eq (.pointer (some ⟨b, 0, none⟩))), (101, Stl.eq (.slice (tA) tn td)), (102, shL 17 17 (fun D m e => .slice D m e) (fun u D m => KR u D m tb) (fun _ _ _ _ h hb => h.next hb)), (103, shL 17 17 (fun D m e => .slice D m e) (fun u D m => XR u D m rs) (fun _ _ _ _ h hb => h.next hb)), (104, shL 17 17 (fun D m e => .agg #[.int .i64 0, .int .u64 n.ep, .int .u64 nl, .slice D m e]) (fun u D m => XR u D m rs) (fun _ _ _ _ h hb => h.next hb))]) (by kernel_rfl) (by kernel_rfl) (SL6.of rfl (kp_drewN _ 1)) ?_ ?_
        · refine EachOp.cons ?_ ?_
          · intro L a u hL hst hS hdep hq hno
            have h0 : a.tmps.getD 0 undef = .pointer (some ⟨b, 0, none⟩) := hst.out 0 (by kernel_rfl)
            refine .inl ⟨trivial, ?_⟩
            have g0 := gd h0
            go_simp
            exact Went6.same (HKR.out _ _) hS rfl
          refine EachOp.cons ?_ ?_
          · intro L a u hL hst hS hdep hq hno
            have h88 : a.tmps.getD 88 undef = .pointer (some ⟨b, 0, none⟩) := hdep 88 (by kernel_rfl)
            refine .inl ⟨trivial, ?_⟩
            have g88 := gd h88
            go_simp
            exact Went6.same (HKR.out _ _) hS rfl
          refine EachOp.cons ?_ ?_
          · intro L a u hL hst hS hdep hq hno
            have h89 : a.tmps.getD 89 undef = .pointer (some ⟨b, 0, none⟩) := hdep 89 (by kernel_rfl)
            refine .inl ⟨trivial, ?_⟩
            have g89 := gd h89
            go_simp
            exact Went6.same (HKR.out _ _) hS rfl
          refine EachOp.cons ?_ ?_
          · intro L a u hL hst hS hdep hq hno
            have h90 : a.tmps.getD 90 undef = .pointer (some ⟨b, 0, none⟩) := hdep 90 (by kernel_rfl)
            refine .inl ⟨trivial, ?_⟩
            have g90 := gd h90
            have h20 : L 17 = false := hno 12 17 (by kernel_rfl)
            have hB : Below w6.heap.size w6 u := SL6.ahead hS h20
            have hS2 : ∀ u', Below w6.heap.size w6 u' → SL6 17 w6 FN L u' := fun u' h => SL6.of h20 h
            obtain ⟨y0, _, y2, _⟩ := (HX4.out.keep (fun k e => hB.block k (HX4.out.lt k e)) hB.size).tops
            go_simp
            exact Went6.same (HKR.out _ _) hS rfl
          refine EachOp.cons ?_ ?_
          · intro L a u hL hst hS hdep hq hno
            have h0 : a.tmps.getD 0 undef = .pointer (some ⟨b, 0, none⟩) := hst.out 0 (by kernel_rfl)
            refine .inl ⟨trivial, ?_⟩
            have g0 := gd h0
            go_simp
            exact Went6.same (HKR.out _ _) hS rfl
          refine EachOp.cons ?_ ?_
          · intro L a u hL hst hS hdep hq hno
            have h92 : a.tmps.getD 92 undef = .pointer (some ⟨b, 0, none⟩) := hdep 92 (by kernel_rfl)
            refine .inl ⟨trivial, ?_⟩
            have g92 := gd h92
            go_simp
            exact Went6.same (HKR.out _ _) hS rfl
          refine EachOp.cons ?_ ?_
          · intro L a u hL hst hS hdep hq hno
            have h93 : a.tmps.getD 93 undef = .pointer (some ⟨b, 0, none⟩) := hdep 93 (by kernel_rfl)
            refine .inl ⟨trivial, ?_⟩
            have g93 := gd h93
            go_simp
            exact Went6.same (HKR.out _ _) hS rfl
          refine EachOp.cons ?_ ?_
          · intro L a u hL hst hS hdep hq hno
            have h94 : a.tmps.getD 94 undef = .pointer (some ⟨b, 2, none⟩) := hdep 94 (by kernel_rfl)
            refine .inl ⟨trivial, ?_⟩
            have g94 := gd h94
            have h20 : L 17 = false := hno 12 17 (by kernel_rfl)
            have hB : Below w6.heap.size w6 u := SL6.ahead hS h20
            have hS2 : ∀ u', Below w6.heap.size w6 u' → SL6 17 w6 FN L u' := fun u' h => SL6.of h20 h
            obtain ⟨y0, _, y2, _⟩ := (HX4.out.keep (fun k e => hB.block k (HX4.out.lt k e)) hB.size).tops
            go_simp
            exact Went6.same (HKR.out _ _) hS rfl
          refine EachOp.cons ?_ ?_
          · intro L a u hL hst hS hdep hq hno
            have h95 : a.tmps.getD 95 undef = .slice AL nl cl := hdep 95 (by kernel_rfl)
            refine .inl ⟨trivial, ?_⟩
            have g95 := gd h95
            go_simp
            exact Went6.same (HKR.out _ _) hS rfl
          refine EachOp.cons ?_ ?_
          · intro L a u hL hst hS hdep hq hno
            have h96 : a.tmps.getD 96 undef = .int .i64 nl := hdep 96 (by kernel_rfl)
            refine .inl ⟨trivial, ?_⟩
            have g96 := gd h96
            go_simp
            exact Went6.same (HKR.out _ _) hS rfl
          refine EachOp.cons ?_ ?_
          · intro L a u hL hst hS hdep hq hno
            have h4 : a.tmps.getD 4 undef = .string s := hst.out 4 (by kernel_rfl)
            refine .inl ⟨trivial, ?_⟩
            have g4 := gd h4
            go_simp
            exact Went6.same (HKR.out _ _) hS rfl
          refine EachOp.cons ?_ ?_
          · intro L a u hL hst hS hdep hq hno
            have h98 : a.tmps.getD 98 undef = .string s := hdep 98 (by kernel_rfl)
            refine .inl ⟨trivial, ?_⟩
            have g98 := gd h98
            go_simp
            have h20 : L 17 = false := hno 12 17 (by kernel_rfl)
            have hB : Below w6.heap.size w6 u := SL6.ahead hS h20
            have hS2 : ∀ u', Below w6.heap.size w6 u' → SL6 17 w6 FN L u' := fun u' h => SL6.of h20 h
            have hof := rof_ok s u (by have := HS.out; unfold Sm at this; unfold maxLen; omega)
            unfold OfTo at hof
            refine hof.mono ?_
            rintro e' u' ⟨pd, pk, pv, rfl, g9, hb'⟩
            exact Went6.next (hS2 _ (hB.trans (hb'.mono hB.size))) (fun _ _ => hb') ⟨⟨pd, pk, pv, rfl, g9⟩, fun _ _ => trivial⟩
          refine EachOp.cons ?_ ?_
          · intro L a u hL hst hS hdep hq hno
            have h0 : a.tmps.getD 0 undef = .pointer (some ⟨b, 0, none⟩) := hst.out 0 (by kernel_rfl)
            refine .inl ⟨trivial, ?_⟩
            have g0 := gd h0
            go_simp
            exact Went6.same (HKR.out _ _) hS rfl
          refine EachOp.cons ?_ ?_
          · intro L a u hL hst hS hdep hq hno
            have h13 : a.tmps.getD 13 undef = .slice (tA) tn td := hst.out 13 (by kernel_rfl)
            refine .inl ⟨trivial, ?_⟩
            have g13 := gd h13
            go_simp
            exact Went6.same (HKR.out _ _) hS rfl
          refine EachOp.cons ?_ ?_
          · intro L a u hL hst hS hdep hq hno
            have h100 : a.tmps.getD 100 undef = .pointer (some ⟨b, 0, none⟩) := hdep 100 (by kernel_rfl)
            have h101 : a.tmps.getD 101 undef = .slice (tA) tn td := hdep 101 (by kernel_rfl)
            refine .inl ⟨trivial, ?_⟩
            have g100 := gd h100
            have g101 := gd h101
            go_simp
            have h20 : L 17 = false := hno 12 17 (by kernel_rfl)
            have hB : Below w6.heap.size w6 u := SL6.ahead hS h20
            have hS2 : ∀ u', Below w6.heap.size w6 u' → SL6 17 w6 FN L u' := fun u' h => SL6.of h20 h
            have hbw : Below w.heap.size w u := HB4X.out.trans (hB.mono HB4X.out.size)
            have htl := rtable15_ok (tA) (tn) (td) ts (Thing.next HT.out hbw) HI.out.lg (fun x hx => (HI.out.lt x hx).1) (HWX.out.next hB) (HWN.out) HWS.out
            rw [HTB.out] at htl
            refine htl.mono ?_
            rintro e' u' ⟨D2, m2, e2, rfl, g2, hb'⟩
            exact Went6.next (hS2 _ (hB.trans (hb'.mono hB.size))) (fun _ _ => hb') ⟨D2, m2, e2, rfl, fun _ _ => g2⟩
          refine EachOp.cons ?_ ?_
          · intro L a u hL hst hS hdep hq hno
            obtain ⟨⟨pd, pk, pv, h99, g9⟩, _⟩ := hdep 99 (by kernel_rfl)
            obtain ⟨D2, m2, e2, h102, r102⟩ := hdep 102 (by kernel_rfl)
            refine .inl ⟨trivial, ?_⟩
            have g99 := gd h99
            have g102 := gd h102
            go_simp
            have h20 : L 17 = false := hno 12 17 (by kernel_rfl)
            have hB : Below w6.heap.size w6 u := SL6.ahead hS h20
            have hS2 : ∀ u', Below w6.heap.size w6 u' → SL6 17 w6 FN L u' := fun u' h => SL6.of h20 h
            have hkr := r102 h20 h20
            refine (rreads_ok pd pk pv D2 m2 e2 tb u hkr HSRT.out (by have := hkr.len; have := HTBL.out; omega)).mono ?_
            rintro e' u' ⟨D3, m3, e3, rfl, g3, _, hb'⟩
            refine Went6.next (hS2 _ (hB.trans (hb'.mono hB.size))) (fun _ _ => hb') ⟨D3, m3, e3, rfl, fun _ _ => ?_⟩
            rw [← HRS.out, rdT_of g9]
            exact g3
          refine EachOp.cons ?_ ?_
          · intro L a u hL hst hS hdep hq hno
            have h91 : a.tmps.getD 91 undef = .int .u64 n.ep := hdep 91 (by kernel_rfl)
            have h97 : a.tmps.getD 97 undef = .int .u64 nl := hdep 97 (by kernel_rfl)
            obtain ⟨D3, m3, e3, h103, r103⟩ := hdep 103 (by kernel_rfl)
            refine .inl ⟨trivial, ?_⟩
            have g91 := gd h91
            have g97 := gd h97
            have g103 := gd h103
            go_simp
            have h20 : L 17 = false := hno 12 17 (by kernel_rfl)
            have hB : Below w6.heap.size w6 u := SL6.ahead hS h20
            have hS2 : ∀ u', Below w6.heap.size w6 u' → SL6 17 w6 FN L u' := fun u' h => SL6.of h20 h
            exact Went6.same (HKR.out _ _) (hS2 _ hB) ⟨D3, m3, e3, rfl, fun _ _ => r103 h20 h20⟩
          refine EachOp.cons ?_ ?_
          · intro L a u hL hst hS hdep hq hno
            have h10 : a.tmps.getD 10 undef = .pointer (some ⟨rb, 0, none⟩) := hst.out 10 (by kernel_rfl)
            obtain ⟨D4, m4, e4, h104, r104⟩ := hdep 104 (by kernel_rfl)
            refine .inl ⟨trivial, ?_⟩
            have g10 := gd h10
            have g104 := gd h104
            have hB : Below w6.heap.size w6 u := SL6.ahead hS hL
            have hru := (hB.block rb (Array.getElem?_eq_some_iff.1 HR4.out).1).trans HR4.out
            obtain ⟨r0, f0⟩ := cellsAt hru 0 (v := .int .i64 0) rfl
            obtain ⟨r1, f1⟩ := cellsAt hru 1 (v := .int .u64 0) rfl
            obtain ⟨r2, f2⟩ := cellsAt hru 2 (v := .int .u64 0) rfl
            obtain ⟨r3, f3⟩ := cellsAt hru 3 (v := .slice none 0 0) rfl
            go_simp
            have hx5 := r104 hL hL
            have hq : ∀ k, k ≠ rb → ((((u.setCell ⟨rb, 0, none⟩ (.int .i64 0)).setCell ⟨rb, 1, none⟩ (.int .u64 n.ep)).setCell ⟨rb, 2, none⟩ (.int .u64 nl)).setCell ⟨rb, 3, none⟩ (.slice D4 m4 e4)).heap[k]? = u.heap[k]? := fun k hk => (set_other hk).trans ((set_other hk).trans ((set_other hk).trans (set_other hk)))
            have hb5 : Below w.heap.size w u := HB4X.out.trans (hB.mono HB4X.out.size)
            have hwb := Nat.le_of_eq HRB.out
            exact ⟨undef, rfl, SL6.last done_same ((HFNN.out _).2 ⟨D4, m4, e4, heap_setCell_same _ rb 3 _ _ (.slice D4 m4 e4) (heap_setCell_same _ rb 2 _ _ (.int .u64 nl) (heap_setCell_same _ rb 1 _ _ (.int .u64 n.ep) (heap_setCell_same u rb 0 _ _ (.int .i64 0) hru))), hx5.poke hru (by intro i s2; match i with | 0 => simp | 1 => simp | 2 => simp | 3 => simp | i + 4 => simp) hq (by rw [set_size, set_size, set_size, set_size]; exact Nat.le_refl _), (((hb5.setCell hwb _).setCell hwb _).setCell hwb _).setCell hwb _⟩), fun h _ => absurd rfl h, fun t e => by cases e⟩
          exact EachOp.nil
        · intro L a u hLs hst hS hdep
          have h88 : a.tmps.getD 88 undef = .pointer (some ⟨b, 0, none⟩) := hdep 88 (by kernel_rfl)
          have h89 : a.tmps.getD 89 undef = .pointer (some ⟨b, 0, none⟩) := hdep 89 (by kernel_rfl)
          have h90 : a.tmps.getD 90 undef = .pointer (some ⟨b, 0, none⟩) := hdep 90 (by kernel_rfl)
          have h91 : a.tmps.getD 91 undef = .int .u64 n.ep := hdep 91 (by kernel_rfl)
          have h92 : a.tmps.getD 92 undef = .pointer (some ⟨b, 0, none⟩) := hdep 92 (by kernel_rfl)
          have h93 : a.tmps.getD 93 undef = .pointer (some ⟨b, 0, none⟩) := hdep 93 (by kernel_rfl)
          have h94 : a.tmps.getD 94 undef = .pointer (some ⟨b, 2, none⟩) := hdep 94 (by kernel_rfl)
          have h95 : a.tmps.getD 95 undef = .slice AL nl cl := hdep 95 (by kernel_rfl)
          have h96 : a.tmps.getD 96 undef = .int .i64 nl := hdep 96 (by kernel_rfl)
          have h97 : a.tmps.getD 97 undef = .int .u64 nl := hdep 97 (by kernel_rfl)
          have h98 : a.tmps.getD 98 undef = .string s := hdep 98 (by kernel_rfl)
          obtain ⟨⟨pd, pk, pv, h99, g9⟩, _⟩ := hdep 99 (by kernel_rfl)
          have h100 : a.tmps.getD 100 undef = .pointer (some ⟨b, 0, none⟩) := hdep 100 (by kernel_rfl)
          have h101 : a.tmps.getD 101 undef = .slice (tA) tn td := hdep 101 (by kernel_rfl)
          obtain ⟨D2, m2, e2, h102, r102⟩ := hdep 102 (by kernel_rfl)
          obtain ⟨D3, m3, e3, h103, r103⟩ := hdep 103 (by kernel_rfl)
          obtain ⟨D4, m4, e4, h104, r104⟩ := hdep 104 (by kernel_rfl)
          have hfr := hst.frame [(88, .pointer (some ⟨b, 0, none⟩)), (89, .pointer (some ⟨b, 0, none⟩)), (90, .pointer (some ⟨b, 0, none⟩)), (91, .int .u64 n.ep), (92, .pointer (some ⟨b, 0, none⟩)), (93, .pointer (some ⟨b, 0, none⟩)), (94, .pointer (some ⟨b, 2, none⟩)), (95, .slice AL nl cl), (96, .int .i64 nl), (97, .int .u64 nl), (98, .string s), (99, .agg #[.int .i64 pd, .string pk, .string pv]), (100, .pointer (some ⟨b, 0, none⟩)), (101, .slice (tA) tn td), (102, .slice D2 m2 e2), (103, .slice D3 m3 e3), (104, .agg #[.int .i64 0, .int .u64 n.ep, .int .u64 nl, .slice D4 m4 e4])] (by kernel_rfl) ⟨h88, h89, h90, h91, h92, h93, h94, h95, h96, h97, h98, h99, h100, h101, h102, h103, h104, trivial⟩
          clear hst hdep h88 h89 h90 h91 h92 h93 h94 h95 h96 h97 h98 h99 h100 h101 h102 h103 h104
          subst hfr
          simp only [List.foldl_cons, List.foldl_nil, List.setIfInBounds_toArray, List.set_cons_zero, List.set_cons_succ]
          obtain ⟨A9, m9, d9, hr9, hx9, hb9⟩ := (HFNN.out u).1 (SL6.done hS (hLs 17 (by kernel_rfl)))
          obtain ⟨r0, _⟩ := cellsAt hr9 0 (v := .int .i64 0) rfl
          obtain ⟨r1, _⟩ := cellsAt hr9 1 (v := .int .u64 n.ep) rfl
          obtain ⟨r2, _⟩ := cellsAt hr9 2 (v := .int .u64 nl) rfl
          obtain ⟨r3, _⟩ := cellsAt hr9 3 (v := .slice A9 m9 d9) rfl
          have HFX := Lib.hid hx9
          have HFB := Lib.hid hb9
          clear hS hLs hr9 hx9 hb9
          go_wp2_with fail
          refine bodyPost_ret (v := .agg #[.int .i64 0, .int .u64 n.ep, .int .u64 nl, .slice A9 m9 d9]) ?_ rfl (by first | exact ⟨A9, m9, d9, rfl, HFX.out, Turn.same HT.out HFB.out⟩ | exact ⟨A9, m9, ⟨d9, rfl⟩, HFX.out, Turn.same HT.out HFB.out⟩)
          rw [results_cell1 rfl]
          go_simp
end
end
end Go.Proofs.YtaoegiohnebnhaaGreatDoor
