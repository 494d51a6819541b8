/-
  Contracts and plain functions that the law stands on, part 10 of 24.
-/
import Derived.Test.YtaoegiohnebnhaaGreatDoorQD9
import Derived.Laws.EntriesVeiled
namespace Go.Proofs.YtaoegiohnebnhaaGreatDoor
/- What a statement does, by the call Of of package plan: contract. -/
section
open Go.RowKit
set_option maxRecDepth 100000

/-- a plan's number and texts -/
def doing (d : Int) (k v : ByteArray) : Doing := (d, k.data.toList, v.data.toList)
/-- the answer of Of -/
def OfTo (f : FuncId) (s : ByteArray) (w : World) : Prop :=
  Calls Tryz.prog f #[.string s] w fun e w' => ∃ d k v, e = .returned (planV d k v) ∧ doing d k v = planA s.data.toList ∧ Below w.heap.size w w'

theorem text_iff {r t : ByteArray} : r = t ↔ r.data.toList = t.data.toList := ⟨fun h => by rw [h], text_ext⟩
/-- what the shape and the texts tell -/
theorem pick_by {L : List Tok} {r : ByteArray} {ss : List ByteArray} (hL : ∀ t ∈ L, t.1 ≠ 5 → rightF t.1 t.2 = true) (hr : r.data.toList = shapeF (keptF L)) (hs : bts ss = strsF (keptF L)) :
    (r = tGet → ∃ x rest, ss = x :: rest ∧ planF (bodyF L) = doing 1 x ⟨#[]⟩) ∧
    (r = tAll → planF (bodyF L) = doing 2 ⟨#[]⟩ ⟨#[]⟩) ∧
    (r = tPut → ∃ x y rest, ss = x :: y :: rest ∧ planF (bodyF L) = doing 3 x y) ∧
    (r = tChg → ∃ x y rest, ss = x :: y :: rest ∧ planF (bodyF L) = doing 4 y x) ∧
    (r = tDel → ∃ x rest, ss = x :: rest ∧ planF (bodyF L) = doing 5 x ⟨#[]⟩) ∧
    (r ≠ tGet → r ≠ tAll → r ≠ tPut → r ≠ tChg → r ≠ tDel → planF (bodyF L) = doing 0 ⟨#[]⟩ ⟨#[]⟩) := by
  have key : ∀ (f : List Tok) (t : ByteArray), (∀ t ∈ f, rightF t.1 t.2 = true ∧ t.1 ≠ 5) → writeF f = t.data.toList → (r = t ↔ (bodyF L).map emptyF = f) := fun f t hf ht => by
    rw [text_iff, hr, ← ht]
    exact shape_iff hL f hf
  have k1 := key fGet tGet (by decide) tGet_is
  have k2 := key fAll tAll (by decide) tAll_is
  have k3 := key fPut tPut (by decide) tPut_is
  have k4 := key fChg tChg (by decide) tChg_is
  have k5 := key fDel tDel (by decide) tDel_is
  rw [strs_body] at hs
  have hlen : ∀ f, (bodyF L).map emptyF = f → ss.length = (strsF f).length := fun f h => by
    rw [← strs_len h, ← hs]
    simp [bts]
  have one : ∀ n, ss.length = n + 1 → ∃ x rest, ss = x :: rest := fun n h => by
    cases ss with
    | nil => cases h
    | cons x rest => exact ⟨x, rest, rfl⟩
  have two : ∀ n, ss.length = n + 2 → ∃ x y rest, ss = x :: y :: rest := fun n h => by
    cases ss with
    | nil => cases h
    | cons x rest =>
      cases rest with
      | nil => simp at h
      | cons y rest => exact ⟨x, y, rest, rfl⟩
  unfold planF
  rw [← hs]
  refine ⟨fun h => ?_, fun h => ?_, fun h => ?_, fun h => ?_, fun h => ?_, fun h1 h2 h3 h4 h5 => ?_⟩
  · have e := k1.1 h
    obtain ⟨x, rest, rfl⟩ := one 0 (hlen _ e)
    exact ⟨x, rest, rfl, by rw [e]; rfl⟩
  · have e := k2.1 h
    rw [e]
    rfl
  · have e := k3.1 h
    obtain ⟨x, y, rest, rfl⟩ := two 0 (hlen _ e)
    exact ⟨x, y, rest, rfl, by rw [e]; rfl⟩
  · have e := k4.1 h
    obtain ⟨x, y, rest, rfl⟩ := two 0 (hlen _ e)
    exact ⟨x, y, rest, rfl, by rw [e]; rfl⟩
  · have e := k5.1 h
    obtain ⟨x, rest, rfl⟩ := one 0 (hlen _ e)
    exact ⟨x, rest, rfl, by rw [e]; rfl⟩
  · unfold pickF
    rw [if_neg (fun e => h1 (k1.2 e)), if_neg (fun e => h2 (k2.2 e)), if_neg (fun e => h3 (k3.2 e)), if_neg (fun e => h4 (k4.2 e)), if_neg (fun e => h5 (k5.2 e))]
    rfl

theorem txt_eq (r t : ByteArray) : (t.toList == r.toList) = decide (r = t) := by
  rw [Bool.eq_iff_iff]
  simp only [beq_iff_eq, decide_eq_true_eq]
  exact ⟨fun h => (bytes_ext h).symm, fun h => by rw [h]⟩

theorem says_short {ts : List Tk} {m : Nat} (h : ∀ t ∈ saysT ts, t.2.length ≤ m) : ∀ t ∈ ts, t.t.size ≤ m := fun t ht => by
  have := h t.says (List.mem_map.2 ⟨t, ht, rfl⟩)
  simpa [Tk.says, text_len] using this
theorem cells3f {w : World} {b : Nat} {x y z : Value} {t : TypeId} (h : w.heap[b]? = some (.cells #[x, y, z] t (0, 0))) : w.cell? ⟨b, 0, none⟩ = some x ∧ w.cell? ⟨b, 1, none⟩ = some y ∧ w.cell? ⟨b, 2, none⟩ = some z ∧ w.frozen? ⟨b, 0, none⟩ = false ∧ w.frozen? ⟨b, 1, none⟩ = false ∧ w.frozen? ⟨b, 2, none⟩ = false := by
  obtain ⟨a1, a2, a3⟩ := cells3 h
  refine ⟨a1, a2, a3, ?_, ?_, ?_⟩ <;> simp [World.frozen?, h]

set_option maxHeartbeats 8000000 in
theorem of_ok (s : ByteArray) (w : World) (hm : s.size ≤ maxLen) (hL : Lw w) : OfTo 53 s w := by
  have kw := kp_new w (.cells #[.int .i64 0, .string ⟨#[]⟩, .string ⟨#[]⟩] 122)
  have hlx := lex_ok s _ hm (hL.next kw)
  unfold LexTo at hlx
  have hlen := lexA_len s.data.toList
  have hok := lexA_ok s.data.toList
  have hright := lexA_right s.data.toList
  have hP : planA s.data.toList = planF (bodyF (lexA s.data.toList).1) := rfl
  unfold OfTo
  generalize planA s.data.toList = R at *
  have HP := Lib.hid hP
  have HX := Lib.hid hlx
  have HLN := Lib.hid hlen
  have HOK := Lib.hid hok
  have HRT := Lib.hid hright
  have HLw := Lib.hid hL
  clear hP hlx hlen hok hright hL
  go_enter Tryz.func53, Tryz.ntmps53
  go_wp2_with fail
  refine HX.out.mono ?_
  rintro e w1 ⟨A, n, c, er, ts, rfl, ho, hla, k1⟩
  rw [← hla] at HLN HOK HRT HP
  have HLA := Lib.hid hla
  have K1 := kp_trans kw k1
  have hn : n ≤ 200 := by rw [← ho.len, ← saysT_length]; exact HLN.out
  have hb1 : Hid (w1.heap[w.heap.size]? = some (.cells #[.int .i64 0, .string ⟨#[]⟩, .string ⟨#[]⟩] 122 (0, 0))) := Lib.hid ((k1.block _ (by simp)).trans (heap_alloc_new w _))
  have HS := Lib.hid (shaped_ok A n c ts w1 ho.tr (by omega) (fun t ht => Nat.le_trans (says_short (m := 200) (fun t ht => (HOK.out t ht).1) t ht) (by decide)) (HLw.out.next K1))
  clear hla HX k1
  go_wp2_with fail
  refine HS.out.mono ?_
  rintro e w2 ⟨r, A2, n2, c2, ss, rfl, hr, hx, hs, k2⟩
  have HPK := Lib.hid (pick_by HRT.out hr hs)
  have HXR := Lib.hid hx
  have K2 := kp_trans K1 k2
  have hlt1 : w.heap.size < w1.heap.size := (Array.getElem?_eq_some_iff.1 hb1.out).1
  have hb2 : Hid (w2.heap[w.heap.size]? = some (.cells #[.int .i64 0, .string ⟨#[]⟩, .string ⟨#[]⟩] 122 (0, 0))) := Lib.hid ((k2.block _ hlt1).trans hb1.out)
  clear HS hr hs hx k2
  go_wp2_with fail
  refine (forms_ok w2).mono ?_
  rintro e w3 ⟨rfl, hw3⟩
  have hlt2 : w.heap.size < w2.heap.size := (Array.getElem?_eq_some_iff.1 hb2.out).1
  have k3 : Below w2.heap.size w2 w3 := by rw [hw3]; exact kp_new _ _
  have hF : w3.heap[w2.heap.size]? = some (.cells formC.toArray 163 (0, 0)) := by rw [hw3]; exact heap_alloc_new w2 _
  have hb3 : Hid (w3.heap[w.heap.size]? = some (.cells #[.int .i64 0, .string ⟨#[]⟩, .string ⟨#[]⟩] 122 (0, 0))) := Lib.hid ((k3.block _ hlt2).trans hb2.out)
  have hlt3 : w2.heap.size < w3.heap.size := (Array.getElem?_eq_some_iff.1 hF).1
  have K3 := kp_trans K2 k3
  have HX3 := Lib.hid (HXR.out.next k3)
  have HF := Lib.hid hF
  have HK3 := Lib.hid K3
  clear hw3 hF hb1 hb2 HXR
  generalize w2.heap.size = F at *
  go_wp2_with fail
  go_loopw [21] (fun i wr => ∃ k : Nat, k ≤ 5 ∧ i = .int .i64 k ∧ Hid ((0 < k → r ≠ tGet) ∧ (1 < k → r ≠ tAll) ∧ (2 < k → r ≠ tPut) ∧ (3 < k → r ≠ tChg) ∧ (4 < k → r ≠ tDel)) ∧ Below w3.heap.size w3 wr) (fun i _ => 5 - (intOf i).toNat)
  case atStart => exact ⟨0, by omega, rfl, Lib.hid ⟨by omega, by omega, by omega, by omega, by omega⟩, Below.refl _ _⟩
  case round =>
    obtain ⟨k, hk, rfl, hne, k4⟩ := hrel
    have hFr : wr.heap[F]? = some (.cells formC.toArray 163 (0, 0)) := (k4.block _ hlt3).trans HF.out
    have hbr : wr.heap[w.heap.size]? = some (.cells #[.int .i64 0, .string ⟨#[]⟩, .string ⟨#[]⟩] 122 (0, 0)) := (k4.block _ (by omega)).trans hb3.out
    have hc : ∀ j u, formC[j]? = some u → wr.cell? ⟨F, j, none⟩ = some u := fun j u hu => by
      rw [cell_of_row _ _ j formC.toArray _ (0, 0) hFr]
      simpa using hu
    rcases (by omega : k = 0 ∨ k = 1 ∨ k = 2 ∨ k = 3 ∨ k = 4 ∨ k = 5) with rfl | rfl | rfl | rfl | rfl | rfl
    · have c0 := hc 0 _ rfl
      have c1 := hc 1 _ rfl
      clear hc hFr
      by_cases he : r = tGet
      · have hq : (tGet.toList == r.toList) = true := by rw [txt_eq, decide_eq_true he]
        obtain ⟨x, rest, hss, hpl⟩ := HPK.out.1 he
        subst hss
        have HPL := Lib.hid (hpl.symm.trans HP.out.symm)
        have HB := Lib.hid hbr
        clear he hpl hne hbr
        generalize tGet = g at *
        go_wp2_with fail
        refine (do1_ok A2 n2 c2 x rest _ ((HX3.out.next k4).next (kp_new wr _))).mono ?_
        rintro e w5 ⟨rfl, k5⟩
        have K4 := kp_new wr (.cells #[.string g, .func (.func 117) #[] #[]] 163)
        have K5 : Below wr.heap.size wr w5 := kp_trans K4 k5
        obtain ⟨d0, d1, d2, f0, f1, f2⟩ := cells3f ((K5.block _ ((Array.getElem?_eq_some_iff.1 HB.out).1)).trans HB.out)
        have KW : Below w.heap.size w w5 := kp_trans (kp_trans HK3.out k4) K5
        clear k5 K4 K5
        unfold planV
        go_wp2_with fail
        refine bodyPost_ret (v := planV 1 x ⟨#[]⟩) ?_ rfl ⟨1, x, ⟨#[]⟩, rfl, HPL.out, ((KW.setCell (Nat.le_refl _) _).setCell (Nat.le_refl _) _).setCell (Nat.le_refl _) _⟩
        rw [results_cell1 rfl]
        unfold planV
        go_simp
      · have hq : (tGet.toList == r.toList) = false := by rw [txt_eq, decide_eq_false he]
        have hne2 : Hid ((0 < 1 → r ≠ tGet) ∧ (1 < 1 → r ≠ tAll) ∧ (2 < 1 → r ≠ tPut) ∧ (3 < 1 → r ≠ tChg) ∧ (4 < 1 → r ≠ tDel)) := Lib.hid ⟨fun _ => he, (by omega), (by omega), (by omega), (by omega)⟩
        clear he hne hbr
        obtain ⟨g, hg⟩ : ∃ g, g = tGet := ⟨_, rfl⟩
        rw [← hg] at c0 hq
        clear hg
        go_wp2_with fail
        go_roundw
        case rel => exact ⟨1, by omega, by go_num, hne2, kp_alloc k4 _⟩
        case measure => simp [intOf]
    · have c0 := hc 2 _ rfl
      have c1 := hc 3 _ rfl
      clear hc hFr
      by_cases he : r = tAll
      · have hq : (tAll.toList == r.toList) = true := by rw [txt_eq, decide_eq_true he]
        have hpl := HPK.out.2.1 he
        have hss := True.intro
        have HPL := Lib.hid (hpl.symm.trans HP.out.symm)
        have HB := Lib.hid hbr
        clear he hpl hne hbr
        generalize tAll = g at *
        go_wp2_with fail
        refine (do2_ok A2 n2 c2 _).mono ?_
        rintro e w5 ⟨rfl, k5⟩
        have K4 := kp_new wr (.cells #[.string g, .func (.func 118) #[] #[]] 163)
        have K5 : Below wr.heap.size wr w5 := kp_trans K4 k5
        obtain ⟨d0, d1, d2, f0, f1, f2⟩ := cells3f ((K5.block _ ((Array.getElem?_eq_some_iff.1 HB.out).1)).trans HB.out)
        have KW : Below w.heap.size w w5 := kp_trans (kp_trans HK3.out k4) K5
        clear k5 K4 K5
        unfold planV
        go_wp2_with fail
        refine bodyPost_ret (v := planV 2 ⟨#[]⟩ ⟨#[]⟩) ?_ rfl ⟨2, ⟨#[]⟩, ⟨#[]⟩, rfl, HPL.out, ((KW.setCell (Nat.le_refl _) _).setCell (Nat.le_refl _) _).setCell (Nat.le_refl _) _⟩
        rw [results_cell1 rfl]
        unfold planV
        go_simp
      · have hq : (tAll.toList == r.toList) = false := by rw [txt_eq, decide_eq_false he]
        have hne2 : Hid ((0 < 2 → r ≠ tGet) ∧ (1 < 2 → r ≠ tAll) ∧ (2 < 2 → r ≠ tPut) ∧ (3 < 2 → r ≠ tChg) ∧ (4 < 2 → r ≠ tDel)) := Lib.hid ⟨fun _ => hne.out.1 (by omega), fun _ => he, (by omega), (by omega), (by omega)⟩
        clear he hne hbr
        obtain ⟨g, hg⟩ : ∃ g, g = tAll := ⟨_, rfl⟩
        rw [← hg] at c0 hq
        clear hg
        go_wp2_with fail
        go_roundw
        case rel => exact ⟨2, by omega, by go_num, hne2, kp_alloc k4 _⟩
        case measure => simp [intOf]
    · have c0 := hc 4 _ rfl
      have c1 := hc 5 _ rfl
      clear hc hFr
      by_cases he : r = tPut
      · have hq : (tPut.toList == r.toList) = true := by rw [txt_eq, decide_eq_true he]
        obtain ⟨x, y, rest, hss, hpl⟩ := HPK.out.2.2.1 he
        subst hss
        have HPL := Lib.hid (hpl.symm.trans HP.out.symm)
        have HB := Lib.hid hbr
        clear he hpl hne hbr
        generalize tPut = g at *
        go_wp2_with fail
        refine (do3_ok A2 n2 c2 x y rest _ ((HX3.out.next k4).next (kp_new wr _))).mono ?_
        rintro e w5 ⟨rfl, k5⟩
        have K4 := kp_new wr (.cells #[.string g, .func (.func 119) #[] #[]] 163)
        have K5 : Below wr.heap.size wr w5 := kp_trans K4 k5
        obtain ⟨d0, d1, d2, f0, f1, f2⟩ := cells3f ((K5.block _ ((Array.getElem?_eq_some_iff.1 HB.out).1)).trans HB.out)
        have KW : Below w.heap.size w w5 := kp_trans (kp_trans HK3.out k4) K5
        clear k5 K4 K5
        unfold planV
        go_wp2_with fail
        refine bodyPost_ret (v := planV 3 x y) ?_ rfl ⟨3, x, y, rfl, HPL.out, ((KW.setCell (Nat.le_refl _) _).setCell (Nat.le_refl _) _).setCell (Nat.le_refl _) _⟩
        rw [results_cell1 rfl]
        unfold planV
        go_simp
      · have hq : (tPut.toList == r.toList) = false := by rw [txt_eq, decide_eq_false he]
        have hne2 : Hid ((0 < 3 → r ≠ tGet) ∧ (1 < 3 → r ≠ tAll) ∧ (2 < 3 → r ≠ tPut) ∧ (3 < 3 → r ≠ tChg) ∧ (4 < 3 → r ≠ tDel)) := Lib.hid ⟨fun _ => hne.out.1 (by omega), fun _ => hne.out.2.1 (by omega), fun _ => he, (by omega), (by omega)⟩
        clear he hne hbr
        obtain ⟨g, hg⟩ : ∃ g, g = tPut := ⟨_, rfl⟩
        rw [← hg] at c0 hq
        clear hg
        go_wp2_with fail
        go_roundw
        case rel => exact ⟨3, by omega, by go_num, hne2, kp_alloc k4 _⟩
        case measure => simp [intOf]
    · have c0 := hc 6 _ rfl
      have c1 := hc 7 _ rfl
      clear hc hFr
      by_cases he : r = tChg
      · have hq : (tChg.toList == r.toList) = true := by rw [txt_eq, decide_eq_true he]
        obtain ⟨x, y, rest, hss, hpl⟩ := HPK.out.2.2.2.1 he
        subst hss
        have HPL := Lib.hid (hpl.symm.trans HP.out.symm)
        have HB := Lib.hid hbr
        clear he hpl hne hbr
        generalize tChg = g at *
        go_wp2_with fail
        refine (do4_ok A2 n2 c2 x y rest _ ((HX3.out.next k4).next (kp_new wr _))).mono ?_
        rintro e w5 ⟨rfl, k5⟩
        have K4 := kp_new wr (.cells #[.string g, .func (.func 120) #[] #[]] 163)
        have K5 : Below wr.heap.size wr w5 := kp_trans K4 k5
        obtain ⟨d0, d1, d2, f0, f1, f2⟩ := cells3f ((K5.block _ ((Array.getElem?_eq_some_iff.1 HB.out).1)).trans HB.out)
        have KW : Below w.heap.size w w5 := kp_trans (kp_trans HK3.out k4) K5
        clear k5 K4 K5
        unfold planV
        go_wp2_with fail
        refine bodyPost_ret (v := planV 4 y x) ?_ rfl ⟨4, y, x, rfl, HPL.out, ((KW.setCell (Nat.le_refl _) _).setCell (Nat.le_refl _) _).setCell (Nat.le_refl _) _⟩
        rw [results_cell1 rfl]
        unfold planV
        go_simp
      · have hq : (tChg.toList == r.toList) = false := by rw [txt_eq, decide_eq_false he]
        have hne2 : Hid ((0 < 4 → r ≠ tGet) ∧ (1 < 4 → r ≠ tAll) ∧ (2 < 4 → r ≠ tPut) ∧ (3 < 4 → r ≠ tChg) ∧ (4 < 4 → r ≠ tDel)) := Lib.hid ⟨fun _ => hne.out.1 (by omega), fun _ => hne.out.2.1 (by omega), fun _ => hne.out.2.2.1 (by omega), fun _ => he, (by omega)⟩
        clear he hne hbr
        obtain ⟨g, hg⟩ : ∃ g, g = tChg := ⟨_, rfl⟩
        rw [← hg] at c0 hq
        clear hg
        go_wp2_with fail
        go_roundw
        case rel => exact ⟨4, by omega, by go_num, hne2, kp_alloc k4 _⟩
        case measure => simp [intOf]
    · have c0 := hc 8 _ rfl
      have c1 := hc 9 _ rfl
      clear hc hFr
      by_cases he : r = tDel
      · have hq : (tDel.toList == r.toList) = true := by rw [txt_eq, decide_eq_true he]
        obtain ⟨x, rest, hss, hpl⟩ := HPK.out.2.2.2.2.1 he
        subst hss
        have HPL := Lib.hid (hpl.symm.trans HP.out.symm)
        have HB := Lib.hid hbr
        clear he hpl hne hbr
        generalize tDel = g at *
        go_wp2_with fail
        refine (do5_ok A2 n2 c2 x rest _ ((HX3.out.next k4).next (kp_new wr _))).mono ?_
        rintro e w5 ⟨rfl, k5⟩
        have K4 := kp_new wr (.cells #[.string g, .func (.func 121) #[] #[]] 163)
        have K5 : Below wr.heap.size wr w5 := kp_trans K4 k5
        obtain ⟨d0, d1, d2, f0, f1, f2⟩ := cells3f ((K5.block _ ((Array.getElem?_eq_some_iff.1 HB.out).1)).trans HB.out)
        have KW : Below w.heap.size w w5 := kp_trans (kp_trans HK3.out k4) K5
        clear k5 K4 K5
        unfold planV
        go_wp2_with fail
        refine bodyPost_ret (v := planV 5 x ⟨#[]⟩) ?_ rfl ⟨5, x, ⟨#[]⟩, rfl, HPL.out, ((KW.setCell (Nat.le_refl _) _).setCell (Nat.le_refl _) _).setCell (Nat.le_refl _) _⟩
        rw [results_cell1 rfl]
        unfold planV
        go_simp
      · have hq : (tDel.toList == r.toList) = false := by rw [txt_eq, decide_eq_false he]
        have hne2 : Hid ((0 < 5 → r ≠ tGet) ∧ (1 < 5 → r ≠ tAll) ∧ (2 < 5 → r ≠ tPut) ∧ (3 < 5 → r ≠ tChg) ∧ (4 < 5 → r ≠ tDel)) := Lib.hid ⟨fun _ => hne.out.1 (by omega), fun _ => hne.out.2.1 (by omega), fun _ => hne.out.2.2.1 (by omega), fun _ => hne.out.2.2.2.1 (by omega), fun _ => he⟩
        clear he hne hbr
        obtain ⟨g, hg⟩ : ∃ g, g = tDel := ⟨_, rfl⟩
        rw [← hg] at c0 hq
        clear hg
        go_wp2_with fail
        go_roundw
        case rel => exact ⟨5, by omega, by go_num, hne2, kp_alloc k4 _⟩
        case measure => simp [intOf]
    · obtain ⟨d0, d1, d2, f0, f1, f2⟩ := cells3f hbr
      have HPL := Lib.hid ((HPK.out.2.2.2.2.2 (hne.out.1 (by omega)) (hne.out.2.1 (by omega)) (hne.out.2.2.1 (by omega)) (hne.out.2.2.2.1 (by omega)) (hne.out.2.2.2.2 (by omega))).symm.trans HP.out.symm)
      have KW : Below w.heap.size w wr := kp_trans HK3.out k4
      clear hne hc hFr hbr
      go_wp2_with fail
      refine bodyPost_ret (v := planV 0 ⟨#[]⟩ ⟨#[]⟩) ?_ rfl ⟨0, ⟨#[]⟩, ⟨#[]⟩, rfl, HPL.out, ((KW.setCell (Nat.le_refl _) _).setCell (Nat.le_refl _) _).setCell (Nat.le_refl _) _⟩
      rw [results_cell1 rfl]
      unfold planV
      go_simp
end

/- Rows of tokens and words of package class: contracts. -/
section
open Go.RowKit
set_option maxRecDepth 100000

/-- the first one's cells -/
theorem TR.head {w : World} {A : Option Addr} {n : Nat} {t : Tk} {r : List Tk} (h : TR w A n (t :: r)) : ∃ ad, A = some ad ∧ ad.block < w.heap.size ∧ ∀ w', Below w.heap.size w w' → w'.cell? ad = some (.int .i64 t.k) ∧ w'.cell? ⟨ad.block, ad.off + 1, none⟩ = some (.string t.t) := by
  obtain ⟨ad, hA, hb, hc⟩ := h.at_ (j := 0) (by simp)
  exact ⟨ad, hA, hb, fun w' hw => by simpa [Addr.add] using hc w' hw⟩

/-- a token is a word, or none, at a place of a row -/
theorem hasWord_ok (A : Option Addr) (n c : Nat) (ts : List Tk) (B : Option Addr) (m d : Nat) (ws : List ByteArray) (w : World) (h : TR w A n ts) (hs : SR w B m ws) (hn : n ≤ 1000000) (hm : m ≤ 1000000) :
    Calls Tryz.prog 68 #[.slice A n c, .slice B m d] w fun e w' => e = .returned (.bool (hasF (saysT ts) (txs ws))) ∧ Below w.heap.size w w' := by
  have hlen := Lib.hid h.len
  go_enter Tryz.func68, Tryz.ntmps68
  go_wp2
  go_loopw [9] (fun i wr => ∃ k : Nat, k ≤ n ∧ i = .int .i64 k ∧ Hid (hasF (saysT ts) (txs ws) = hasF (saysT (ts.drop k)) (txs ws)) ∧ Below w.heap.size w wr) (fun i _ => n - (intOf i).toNat)
  case atStart => exact ⟨0, Nat.zero_le _, rfl, Lib.hid rfl, Below.refl _ _⟩
  case round =>
    obtain ⟨k, hk, rfl, hx, kw⟩ := hrel
    by_cases hlt : k < n
    · have hkl : k < ts.length := by rw [hlen.out]; exact hlt
      obtain ⟨ad, rfl, _, hc⟩ := h.at_ hkl
      obtain ⟨c0, c1⟩ := hc _ kw
      have hst : hasF (saysT (ts.drop k)) (txs ws) = (wordF (txs ws) ts[k].says || hasF (saysT (ts.drop (k + 1))) (txs ws)) := by
        rw [List.drop_eq_getElem_cons hkl]
        rfl
      rw [hst] at hx
      have kw2 := kp_trans kw (kp_new wr (.cells #[.int .i64 ts[k].k, .string ts[k].t] 135))
      have hC := Lib.hid (isWord_ok ts[k] B m d ws _ (hs.next kw2) hm)
      clear hc hst
      generalize wordF (txs ws) ts[k].says = b at *
      generalize ts[k].k = x at *
      generalize ts[k].t = s at *
      cases b
      · have hx2 : Hid (hasF (saysT ts) (txs ws) = hasF (saysT (ts.drop (k + 1))) (txs ws)) := Lib.hid (by rw [hx.out]; rfl)
        clear hx
        go_wp2_with fail
        refine hC.out.mono ?_
        rintro e w1 ⟨rfl, k1⟩
        go_wp2_with fail
        go_roundw
        case rel => exact ⟨k + 1, by omega, by go_num, hx2, kp_trans kw2 k1⟩
        case measure => simp [intOf]; omega
      · have hF : hasF (saysT ts) (txs ws) = true := by rw [hx.out]; rfl
        have HF := Lib.hid hF
        clear hF hx
        go_wp2_with fail
        refine hC.out.mono ?_
        rintro e w1 ⟨rfl, k1⟩
        go_wp2_with fail
        go_ret
        exact ⟨by rw [HF.out]; rfl, kp_trans kw2 k1⟩
    · obtain rfl : k = n := by omega
      have hF : hasF (saysT ts) (txs ws) = false := by rw [hx.out, List.drop_eq_nil_of_le (by rw [hlen.out]; exact Nat.le_refl _)]; rfl
      have HF := Lib.hid hF
      clear hF hx
      go_wp2_with fail
      go_ret
      exact ⟨by rw [HF.out]; rfl, kw⟩

theorem beginsWith_ok (A : Option Addr) (n c : Nat) (ts : List Tk) (B : Option Addr) (m d : Nat) (ws : List ByteArray) (w : World) (h : TR w A n ts) (hs : SR w B m ws) (hm : m ≤ 1000000) :
    Calls Tryz.prog 71 #[.slice A n c, .slice B m d] w fun e w' => e = .returned (.bool (headF (saysT ts) (txs ws))) ∧ Below w.heap.size w w' := by
  cases ts with
  | nil =>
    obtain rfl : 0 = n := h.len
    go_enter Tryz.func71, Tryz.ntmps71
    go_wp2_with fail
    go_ret
    exact ⟨rfl, Below.refl _ _⟩
  | cons t r =>
    have hn : 0 < n := by have := h.len; simp at this; omega
    obtain ⟨ad, rfl, _, hc⟩ := h.head
    obtain ⟨c0, c1⟩ := hc _ (Below.refl _ _)
    have hC := Lib.hid (isWord_ok t B m d ws w hs hm)
    have hF : headF (saysT (t :: r)) (txs ws) = wordF (txs ws) t.says := rfl
    rw [hF]
    clear hc hF
    generalize wordF (txs ws) t.says = b at *
    obtain ⟨k, s⟩ := t
    go_enter Tryz.func71, Tryz.ntmps71
    go_wp2_with fail
    refine hC.out.mono ?_
    rintro e w1 ⟨rfl, k1⟩
    go_wp2_with fail
    go_ret
    exact ⟨rfl, k1⟩

theorem isBare_ok (A : Option Addr) (n c : Nat) (ts : List Tk) (B : Option Addr) (m d : Nat) (ws : List ByteArray) (w : World) (h : TR w A n ts) (hs : SR w B m ws) (hm : m ≤ 1000000) (hn : n ≤ 1000000) :
    Calls Tryz.prog 70 #[.slice A n c, .slice B m d] w fun e w' => e = .returned (.bool (bareF (saysT ts) (txs ws))) ∧ Below w.heap.size w w' := by
  cases ts with
  | nil =>
    obtain rfl : 0 = n := h.len
    go_enter Tryz.func70, Tryz.ntmps70
    go_wp2_with fail
    go_ret
    exact ⟨rfl, Below.refl _ _⟩
  | cons t r =>
    have hl : r.length + 1 = n := by have := h.len; simpa using this
    by_cases h1 : n = 1
    · subst h1
      obtain rfl : r = [] := List.eq_nil_of_length_eq_zero (by omega)
      obtain ⟨ad, rfl, _, hc⟩ := h.head
      obtain ⟨c0, c1⟩ := hc _ (Below.refl _ _)
      have hC := Lib.hid (isWord_ok t B m d ws w hs hm)
      have hF : bareF (saysT [t]) (txs ws) = wordF (txs ws) t.says := rfl
      rw [hF]
      clear hc hF
      generalize wordF (txs ws) t.says = b at *
      obtain ⟨k, s⟩ := t
      go_enter Tryz.func70, Tryz.ntmps70
      go_wp2_with fail
      refine hC.out.mono ?_
      rintro e w1 ⟨rfl, k1⟩
      go_wp2_with fail
      go_ret
      exact ⟨rfl, k1⟩
    · have hF : bareF (saysT (t :: r)) (txs ws) = false := by
        unfold bareF
        rw [saysT_length, List.length_cons, hl, decide_eq_false h1, decide_eq_false (by omega)]
        rfl
      have h0 : ¬ n = 0 := by omega
      rw [hF]
      clear hF hl
      go_enter Tryz.func70, Tryz.ntmps70
      go_wp2_with fail
      go_ret
      exact ⟨ret_bool (by simpa using h0), Below.refl _ _⟩

theorem classIf_ok (c : Int) (b : Bool) (w : World) : Calls Tryz.prog 69 #[.int .i64 c, .bool b] w fun e w' => e = .returned (.int .i64 (ifF c b)) ∧ w = w' := by
  cases b
  all_goals
    go_enter Tryz.func69, Tryz.ntmps69
    go_wp2_with fail
    go_ret
    exact ⟨rfl, rfl⟩
end

/- selected, withoutEnd of package class: contracts. -/
section
open Go.RowKit
set_option maxRecDepth 100000

theorem selected_ok (A : Option Addr) (n c : Nat) (ts : List Tk) (b : Bool) (w : World) (h : TR w A n ts) (hn : n ≤ 1000000) :
    Calls Tryz.prog 67 #[.slice A n c, .bool b] w fun e w' => e = .returned (.int .i64 (selF (saysT ts) b)) ∧ Below w.heap.size w w' := by
  have kw := kp_new w (.cells #[.string ⟨#[73, 78, 83, 69, 82, 84]⟩, .string ⟨#[85, 80, 68, 65, 84, 69]⟩, .string ⟨#[68, 69, 76, 69, 84, 69]⟩, .string ⟨#[82, 69, 80, 76, 65, 67, 69]⟩, .string ⟨#[73, 78, 84, 79]⟩, .string ⟨#[83, 72, 65, 82, 69]⟩] 9)
  have hS := SR.new w 9 [⟨#[73, 78, 83, 69, 82, 84]⟩, ⟨#[85, 80, 68, 65, 84, 69]⟩, ⟨#[68, 69, 76, 69, 84, 69]⟩, ⟨#[82, 69, 80, 76, 65, 67, 69]⟩, ⟨#[73, 78, 84, 79]⟩, ⟨#[83, 72, 65, 82, 69]⟩]
  have hC := Lib.hid (hasWord_ok A n c ts _ 6 6 _ _ (h.next kw) hS hn (by decide))
  have hF : selF (saysT ts) b = if hasF (saysT ts) six then 2 else ifF 1 b := rfl
  have hE : txs [⟨#[73, 78, 83, 69, 82, 84]⟩, ⟨#[85, 80, 68, 65, 84, 69]⟩, ⟨#[68, 69, 76, 69, 84, 69]⟩, ⟨#[82, 69, 80, 76, 65, 67, 69]⟩, ⟨#[73, 78, 84, 79]⟩, ⟨#[83, 72, 65, 82, 69]⟩] = six := rfl
  rw [hE] at hC
  rw [hF]
  clear hS hF hE
  generalize hasF (saysT ts) six = x at *
  cases x
  · go_enter Tryz.func67, Tryz.ntmps67
    go_wp2_with fail
    refine hC.out.mono ?_
    rintro e w1 ⟨rfl, k1⟩
    go_wp2_with fail
    refine (classIf_ok 1 b w1).mono ?_
    rintro e w2 ⟨rfl, rfl⟩
    go_wp2_with fail
    go_ret
    exact ⟨rfl, kp_trans kw k1⟩
  · go_enter Tryz.func67, Tryz.ntmps67
    go_wp2_with fail
    refine hC.out.mono ?_
    rintro e w1 ⟨rfl, k1⟩
    go_wp2_with fail
    go_ret
    exact ⟨rfl, kp_trans kw k1⟩

theorem TR.front {w : World} {A : Option Addr} {n : Nat} {ts : List Tk} (h : TR w A n ts) {k : Nat} (hk : k ≤ n) : TR w A k (ts.take k) :=
  ⟨by rw [List.length_take, h.len]; omega, by
    have := h.rd.front (k * 2)
    have e : (tkC ts).take (k * 2) = tkC (ts.take k) := by
      have h1 : tkC ts = tkC (ts.take k) ++ tkC (ts.drop k) := by rw [← tkC_append, List.take_append_drop]
      rw [h1, List.take_append_of_le_length (by rw [tkC_length, List.length_take, h.len]; omega), List.take_of_length_le (by rw [tkC_length, List.length_take]; omega)]
    rwa [e] at this⟩

set_option maxHeartbeats 400000 in
theorem withoutEnd_ok (A : Option Addr) (n c : Nat) (ts : List Tk) (w : World) (h : TR w A n ts) (hc : n ≤ c) (hn : n ≤ 1000000) :
    Calls Tryz.prog 43 #[.slice A n c] w fun e w' => ∃ k, e = .returned (.slice A k c) ∧ k ≤ n ∧ saysT (ts.take k) = endF (saysT ts) ∧ Below w.heap.size w w' := by
  have hlen := Lib.hid h.len
  go_enter Tryz.func43, Tryz.ntmps43
  go_wp2
  go_loopw [0] (fun v wr => ∃ k : Nat, k ≤ n ∧ v = .slice A k c ∧ Hid (endF (saysT ts) = endF (saysT (ts.take k))) ∧ Below w.heap.size w wr) (fun v _ => match v with | .slice _ k _ => k | _ => 0)
  case atStart => exact ⟨n, Nat.le_refl _, rfl, Lib.hid (by rw [List.take_of_length_le (by rw [hlen.out]; exact Nat.le_refl _)]), Below.refl _ _⟩
  case round =>
    obtain ⟨k, hk, rfl, hx, kw⟩ := hrel
    cases k with
    | zero =>
      have hF : saysT (ts.take 0) = endF (saysT ts) := by rw [hx.out]; rfl
      have HF := Lib.hid hF
      clear hF hx
      go_wp2_with fail
      go_ret
      exact ⟨0, rfl, hk, HF.out, kw⟩
    | succ j =>
      have hjl : j < ts.length := by rw [hlen.out]; omega
      obtain ⟨ad, rfl, _, hcc⟩ := h.at_ hjl
      obtain ⟨c0, c1⟩ := hcc _ kw
      have hS := Lib.hid (isStop_ok ts[j] wr)
      have hst : saysT (ts.take (j + 1)) = saysT (ts.take j) ++ [ts[j].says] := by
        rw [List.take_succ_eq_append_getElem hjl, saysT_append]
        rfl
      rw [hst] at hx
      have HST := Lib.hid hst
      have e1 : ((j + 1 : Nat) : Int) - 1 = (j : Int) := by omega
      clear hcc hst
      cases hs : stopF ts[j].says with
      | false =>
        have hF : saysT (ts.take (j + 1)) = endF (saysT ts) := by rw [hx.out, endF_last hs, HST.out]
        have HF := Lib.hid hF
        rw [hs] at hS
        clear hF hx hs
        generalize ts[j].k = x at *
        generalize ts[j].t = s at *
        go_wp2_with fail
        refine hS.out.mono ?_
        rintro e w1 ⟨rfl, k1⟩
        go_wp2_with fail
        go_ret
        exact ⟨j + 1, rfl, hk, HF.out, kp_trans kw k1⟩
      | true =>
        have hx2 : Hid (endF (saysT ts) = endF (saysT (ts.take j))) := Lib.hid (by rw [hx.out, endF_stop hs])
        rw [hs] at hS
        clear hx hs
        generalize ts[j].k = x at *
        generalize ts[j].t = s at *
        go_wp2_with fail
        refine hS.out.mono ?_
        rintro e w1 ⟨rfl, k1⟩
        go_wp2_with fail
        go_roundw
        case rel => exact ⟨j, by omega, rfl, hx2, kp_trans kw k1⟩
        case measure => simp
end

/- The document's layer 6: are tokens a form's, and which are its Strings: contracts. -/
section
open Go.RowKit
set_option maxRecDepth 100000

theorem empty_eq {a b : Int} {x y : List UInt8} : emptyF (a, x) = emptyF (b, y) ↔ a = b ∧ (a = 3 ∨ x = y) := by
  unfold emptyF
  by_cases ha : a = 3
  · subst ha
    by_cases hb : b = 3
    · subst hb
      simp
    · rw [if_pos rfl, if_neg hb]
      constructor
      · intro h
        exact absurd (Prod.mk.inj h).1.symm hb
      · rintro ⟨h, _⟩
        exact absurd h.symm hb
  · by_cases hb : b = 3
    · subst hb
      rw [if_neg ha, if_pos rfl]
      constructor
      · intro h
        exact absurd (Prod.mk.inj h).1 ha
      · rintro ⟨h, _⟩
        exact absurd h ha
    · rw [if_neg ha, if_neg hb]
      constructor
      · intro h
        exact ⟨(Prod.mk.inj h).1, .inr (Prod.mk.inj h).2⟩
      · rintro ⟨h, h2⟩
        rw [h, h2.resolve_left ha]
theorem strs_push (l : List Tok) (a : Int) (x : List UInt8) : strsF (l ++ [(a, x)]) = if a = 3 then strsF l ++ [x] else strsF l := by
  rw [strsF_append]
  by_cases h : a = 3
  · subst h
    simp [strsF, isStrF]
  · rw [if_neg h]
    simp [strsF, isStrF, h]

/-- what strs answers -/
def StrsTo (ts fs : List Tk) (w : World) (e : Ending) (w' : World) : Prop :=
  ∃ (A' : Option Addr) (n' c' : Nat) (ss : List ByteArray) (b : Bool), e = .returned (.tuple #[.slice A' n' c', .bool b]) ∧ b = decide ((saysT ts).map emptyF = (saysT fs).map emptyF) ∧ (b = true → XR w' A' n' ss ∧ bts ss = strsF (saysT ts)) ∧ Below w.heap.size w w'

set_option maxHeartbeats 4000000 in
theorem strs_ok (A A' : Option Addr) (n n' c c' : Nat) (ts fs : List Tk) (w : World) (hx : TR w A n ts) (hy : TR w A' n' fs) (hn : n ≤ 1000) (hn' : n' ≤ 1000) :
    Calls Tryz.prog 55 #[.slice A n c, .slice A' n' c'] w (StrsTo ts fs w) := by
  obtain ⟨i0, hi, hz0, hz1, hz2⟩ := info_parts strinfo6
  have hlx := Lib.hid hx.len
  have hly := Lib.hid hy.len
  unfold StrsTo
  have hown0 := Lib.hid (own_new_s w w.heap.size 1 9 0 [] rfl (Nat.le_refl _) (by simp [maxLen]))
  have kw := kp_new w (.cells #[] 9)
  by_cases hll : n = n'
  · subst hll
    have HX := Lib.hid hx
    have HY := Lib.hid hy
    have HK0 := Lib.hid kw
    clear hx hy kw
    go_enter Tryz.func55, Tryz.ntmps55
    go_wp2_with fail
    go_loopw [6, 7] (fun o i wr => ∃ (q z : Nat) (B : Option Addr) (e : Nat) (ss : List ByteArray), q ≤ n ∧ z ≤ q ∧ i = .int .i64 q ∧ o = .slice B z e ∧ Hid (wr.ownsRow w.heap.size 9 1 (.slice B z e) z (tvs ss)) ∧ Hid (bts ss = strsF (saysT (ts.take q))) ∧ Hid ((saysT (ts.take q)).map emptyF = (saysT (fs.take q)).map emptyF) ∧ Below w.heap.size w wr) (fun _ i _ => n - (intOf i).toNat)
    case atStart => exact ⟨0, 0, _, 0, [], Nat.zero_le _, Nat.le_refl _, rfl, rfl, hown0, Lib.hid rfl, Lib.hid rfl, HK0.out⟩
    case round =>
      obtain ⟨q, z, B, e, ss, hq, hz, rfl, rfl, ho, hs, he, k0⟩ := hrel
      by_cases hlt : q < n
      · have hkx : q < ts.length := by rw [hlx.out]; omega
        have hky : q < fs.length := by rw [hly.out]; omega
        obtain ⟨ad, rfl, _, hc⟩ := HX.out.at_ hkx
        obtain ⟨ad', rfl, _, hc'⟩ := HY.out.at_ hky
        obtain ⟨c0, c1⟩ := hc _ k0
        obtain ⟨d0, d1⟩ := hc' _ k0
        have HC := Lib.hid hc
        have hsx := says_next ts q hkx
        have hsy := says_next fs q hky
        have htx : ts[q].says = (ts[q].k, ts[q].t.data.toList) := rfl
        have hty : fs[q].says = (fs[q].k, fs[q].t.data.toList) := rfl
        rw [htx] at hsx
        rw [hty] at hsy
        have hev : emptyF (ts[q].k, ts[q].t.data.toList) = emptyF (fs[q].k, fs[q].t.data.toList) ↔ _ := empty_eq
        have hno : ¬ emptyF (ts[q].k, ts[q].t.data.toList) = emptyF (fs[q].k, fs[q].t.data.toList) → Hid (decide ((saysT ts).map emptyF = (saysT fs).map emptyF) = false) := fun h => Lib.hid (decide_eq_false (fun hh => h (by
          have h1 : ((saysT ts).map emptyF)[q]? = ((saysT fs).map emptyF)[q]? := by rw [hh]
          rw [List.getElem?_map, List.getElem?_map] at h1
          have h2 : (saysT ts)[q]? = some ts[q].says := by simp [saysT, hkx]
          have h3 : (saysT fs)[q]? = some fs[q].says := by simp [saysT, hky]
          rw [h2, h3] at h1
          simpa [htx, hty] using h1)))
        have hyes : emptyF (ts[q].k, ts[q].t.data.toList) = emptyF (fs[q].k, fs[q].t.data.toList) → Hid ((saysT (ts.take (q + 1))).map emptyF = (saysT (fs.take (q + 1))).map emptyF) := fun h => Lib.hid (by
          rw [hsx, hsy, List.map_append, List.map_append, he.out]
          simp [h])
        have hst : Hid (strsF (saysT (ts.take (q + 1))) = if ts[q].k = 3 then strsF (saysT (ts.take q)) ++ [ts[q].t.data.toList] else strsF (saysT (ts.take q))) := Lib.hid (by rw [hsx, strs_push])
        clear hc hc' hsx hsy htx hty
        generalize ts[q].k = a at *
        generalize fs[q].k = b at *
        generalize ts[q].t = x at *
        generalize fs[q].t = y at *
        by_cases hab : a = b
        case neg =>
          have hN := hno (fun h => hab (hev.1 h).1)
          have hab2 : (a != b) = true := by simpa using hab
          clear hno hyes hev hst hab
          go_wp2_with fail
          go_quiet (fail)
          go_wp2_with fail
          go_ret2
          exact ⟨none, 0, 0, [], false, rfl, hN.out.symm, (fun h => by cases h), k0.trans ((kp_drewN wr nq).mono k0.size)⟩
        subst hab
        by_cases h3 : a = 3
        · subst h3
          have hY := hyes (hev.2 ⟨rfl, .inl rfl⟩)
          have hb2 : Hid (bts (ss ++ [x]) = strsF (saysT (ts.take (q + 1)))) := Lib.hid (by rw [hst.out, if_pos rfl, bts_append, hs.out]; rfl)
          clear hno hyes hev hst hs
          go_wp2_with fail
          go_quiet (fail)
          have kq : Below wr.heap.size wr (wr.drewN nq) := kp_drewN wr nq
          have hoq := own_below_s ho.out kq (Nat.le_refl _)
          have KQ := kp_trans k0 kq
          generalize wr.drewN nq = wq at *
          obtain ⟨g0, g1⟩ := HC.out _ KQ
          have HO := Lib.hid (hoq.alloc (.cells #[.string x] 9))
          have HSRC : Hid (Rd (wq.alloc (.cells #[.string x] 9)) (wq.heap.size + 1) (some ⟨wq.heap.size, 0, none⟩) [.string x]) := Lib.hid (Rd.new wq 9 [.string x])
          have HSW := Lib.hid (show w.heap.size ≤ (wq.alloc (.cells #[.string x] 9)).heap.size by simp; have := KQ.size; omega)
          have KA := kp_alloc KQ (.cells #[.string x] 9)
          clear ho hoq c0 c1 d0 d1 kq
          go_wp2_with (at_builtin; refine wpList_append_rd rfl _ _ _ rfl w.heap.size 9 i0 _ 16 Tryz.underlying34 hi hz0 hz1 hz2 rfl _ z _ rfl HO.out _ _ _ _ [.string x] rfl rfl HSRC.out (by simp [Value.oneCell']) (by unfold maxLen; omega) (by omega) HSW.out ?_; intro v3 w3 hown3 hg3; obtain ⟨A3, c3, rfl, _, _⟩ := own_form hown3)
          go_roundw
          case rel =>
            refine ⟨q + 1, z + 1, A3, c3, ss ++ [x], by omega, by omega, by go_num, rfl, Lib.hid ?_, hb2, hY, KA.trans (below_own_s HO.out hg3 HSW.out)⟩
            rw [tvs_append]
            exact hown3
          case measure => simp [intOf]; omega
        · have hn3 : (a != 3) = true := by simpa using h3
          have hn3b : (a == 3) = false := by simpa using h3
          have haa : (a != a) = false := by simp
          by_cases hxy : x = y
          · subst hxy
            have hxx : (x.toList == x.toList) = true := by simp
            have hY := hyes (hev.2 ⟨rfl, .inr rfl⟩)
            have hb2 : Hid (bts ss = strsF (saysT (ts.take (q + 1)))) := Lib.hid (by rw [hst.out, if_neg h3]; exact hs.out)
            clear hno hyes hev hst hs h3
            go_wp2_with fail
            go_quiet (fail)
            have kq : Below wr.heap.size wr (wr.drewN nq) := kp_drewN wr nq
            have hoq := Lib.hid (own_below_s ho.out kq (Nat.le_refl _))
            have KQ := kp_trans k0 kq
            generalize wr.drewN nq = wq at *
            obtain ⟨g0, g1⟩ := HC.out _ KQ
            clear ho c0 c1 d0 d1 kq
            go_wp2_with fail
            go_roundw
            case rel => exact ⟨q + 1, z, B, e, ss, by omega, by omega, by go_num, rfl, hoq, hb2, hY, KQ⟩
            case measure => simp [intOf]; omega
          · have hxy2 : (x.toList == y.toList) = false := by
              simp only [beq_eq_false_iff_ne, ne_eq]
              exact fun h => hxy (bytes_ext h)
            have hN := hno (fun h => (hev.1 h).2.elim h3 (fun hh => hxy (text_ext hh)))
            clear hno hyes hev hst h3 hxy
            go_wp2_with fail
            go_quiet (fail)
            go_wp2_with fail
            go_ret2
            exact ⟨none, 0, 0, [], false, rfl, hN.out.symm, (fun h => by cases h), k0.trans ((kp_drewN wr nq).mono k0.size)⟩
      · obtain rfl : q = n := by omega
        rw [List.take_of_length_le (by rw [hlx.out]; exact Nat.le_refl _)] at hs he
        rw [List.take_of_length_le (by rw [hly.out]; exact Nat.le_refl _)] at he
        go_wp2_with fail
        go_ret2
        exact ⟨B, z, e, ss, true, rfl, (decide_eq_true he.out).symm, fun _ => ⟨XR.of_own ho.out, hs.out⟩, k0⟩
  · have hN : Hid (decide ((saysT ts).map emptyF = (saysT fs).map emptyF) = false) := Lib.hid (decide_eq_false (fun hh => hll (by
      have := congrArg List.length hh
      rw [List.length_map, List.length_map, saysT_length, saysT_length, hlx.out, hly.out] at this
      exact this)))
    have ht : ((n : Int) != (n' : Int)) = true := by rw [bne_iff_ne]; omega
    go_enter Tryz.func55, Tryz.ntmps55
    go_wp2_with fail
    go_ret2
    exact ⟨none, 0, 0, [], false, rfl, hN.out.symm, (fun h => by cases h), kw⟩

theorem form_ok (s : ByteArray) (w : World) (hm : s.size ≤ maxLen) : Calls Tryz.prog 56 #[.string s] w fun e w' => ∃ A n c ts, e = .returned (.slice A n c) ∧ TR w' A n ts ∧ saysT ts = (lexA s.data.toList).1 ∧ Below w.heap.size w w' := by
  have hlx := rlex_ok s w hm
  unfold LexTo at hlx
  have HX := Lib.hid hlx
  clear hlx
  go_enter Tryz.func56, Tryz.ntmps56
  go_wp2_with fail
  refine HX.out.mono ?_
  rintro e w1 ⟨A, n, c, er, ts, rfl, ho, hla, k1⟩
  have HLA := Lib.hid (congrArg Prod.fst hla)
  have HO := Lib.hid ho
  clear hla ho HX
  go_wp2_with fail
  go_ret
  exact ⟨A, n, c, ts, rfl, HO.out.tr, HLA.out, k1⟩
end
end Go.Proofs.YtaoegiohnebnhaaGreatDoor
