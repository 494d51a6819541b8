/-
  Contracts and plain functions that the law stands on, part 6 of 19.
-/
import Derived.Test.YtdhnpmagapbmhaaGreatDoorQA5
import Derived.Laws.EntriesVeiled
import Derived.KernelRfl
import Derived.Laws.StructEq
namespace Go.Proofs.YtdhnpmagapbmhaaGreatDoor
/- What a statement does, by the call Of of package plan: contract. -/
section
open Go.RowKit
set_option maxRecDepth 100000

/-- a plan's number and texts -/
def doing (d : Int) (k v : ByteArray) : Doing := (d, k.data.toList, v.data.toList)
/-- the answer of Of -/
def OfTo (f : FuncId) (s : ByteArray) (w : World) : Prop :=
  Calls Tryz.prog f #[.string s] w fun e w' => ∃ d k v, e = .returned (planV d k v) ∧ doing d k v = planA s.data.toList ∧ Below w.heap.size w w'

theorem text_iff {r t : ByteArray} : r = t ↔ r.data.toList = t.data.toList := ⟨fun h => by rw [h], text_ext⟩
/-- what the shape and the texts tell -/
theorem pick_by {L : List Tok} {r : ByteArray} {ss : List ByteArray} (hL : ∀ t ∈ L, t.1 ≠ 5 → rightF t.1 t.2 = true) (hr : r.data.toList = shapeF (keptF L)) (hs : bts ss = strsF (keptF L)) :
    (r = tGet → ∃ x rest, ss = x :: rest ∧ planF (bodyF L) = doing 1 x ⟨#[]⟩) ∧
    (r = tAll → planF (bodyF L) = doing 2 ⟨#[]⟩ ⟨#[]⟩) ∧
    (r = tPut → ∃ x y rest, ss = x :: y :: rest ∧ planF (bodyF L) = doing 3 x y) ∧
    (r = tChg → ∃ x y rest, ss = x :: y :: rest ∧ planF (bodyF L) = doing 4 y x) ∧
    (r = tDel → ∃ x rest, ss = x :: rest ∧ planF (bodyF L) = doing 5 x ⟨#[]⟩) ∧
    (r ≠ tGet → r ≠ tAll → r ≠ tPut → r ≠ tChg → r ≠ tDel → planF (bodyF L) = doing 0 ⟨#[]⟩ ⟨#[]⟩) := by
  have key : ∀ (f : List Tok) (t : ByteArray), (∀ t ∈ f, rightF t.1 t.2 = true ∧ t.1 ≠ 5) → writeF f = t.data.toList → (r = t ↔ (bodyF L).map emptyF = f) := fun f t hf ht => by
    rw [text_iff, hr, ← ht]
    exact shape_iff hL f hf
  have k1 := key fGet tGet (by decide) tGet_is
  have k2 := key fAll tAll (by decide) tAll_is
  have k3 := key fPut tPut (by decide) tPut_is
  have k4 := key fChg tChg (by decide) tChg_is
  have k5 := key fDel tDel (by decide) tDel_is
  rw [strs_body] at hs
  have hlen : ∀ f, (bodyF L).map emptyF = f → ss.length = (strsF f).length := fun f h => by
    rw [← strs_len h, ← hs]
    simp [bts]
  have one : ∀ n, ss.length = n + 1 → ∃ x rest, ss = x :: rest := fun n h => by
    cases ss with
    | nil => cases h
    | cons x rest => exact ⟨x, rest, rfl⟩
  have two : ∀ n, ss.length = n + 2 → ∃ x y rest, ss = x :: y :: rest := fun n h => by
    cases ss with
    | nil => cases h
    | cons x rest =>
      cases rest with
      | nil => simp at h
      | cons y rest => exact ⟨x, y, rest, rfl⟩
  unfold planF
  rw [← hs]
  refine ⟨fun h => ?_, fun h => ?_, fun h => ?_, fun h => ?_, fun h => ?_, fun h1 h2 h3 h4 h5 => ?_⟩
  · have e := k1.1 h
    obtain ⟨x, rest, rfl⟩ := one 0 (hlen _ e)
    exact ⟨x, rest, rfl, by rw [e]; rfl⟩
  · have e := k2.1 h
    rw [e]
    rfl
  · have e := k3.1 h
    obtain ⟨x, y, rest, rfl⟩ := two 0 (hlen _ e)
    exact ⟨x, y, rest, rfl, by rw [e]; rfl⟩
  · have e := k4.1 h
    obtain ⟨x, y, rest, rfl⟩ := two 0 (hlen _ e)
    exact ⟨x, y, rest, rfl, by rw [e]; rfl⟩
  · have e := k5.1 h
    obtain ⟨x, rest, rfl⟩ := one 0 (hlen _ e)
    exact ⟨x, rest, rfl, by rw [e]; rfl⟩
  · unfold pickF
    rw [if_neg (fun e => h1 (k1.2 e)), if_neg (fun e => h2 (k2.2 e)), if_neg (fun e => h3 (k3.2 e)), if_neg (fun e => h4 (k4.2 e)), if_neg (fun e => h5 (k5.2 e))]
    rfl

theorem txt_eq (r t : ByteArray) : (t.toList == r.toList) = decide (r = t) := by
  rw [Bool.eq_iff_iff]
  simp only [beq_iff_eq, decide_eq_true_eq]
  exact ⟨fun h => (bytes_ext h).symm, fun h => by rw [h]⟩

theorem says_short {ts : List Tk} {m : Nat} (h : ∀ t ∈ saysT ts, t.2.length ≤ m) : ∀ t ∈ ts, t.t.size ≤ m := fun t ht => by
  have := h t.says (List.mem_map.2 ⟨t, ht, rfl⟩)
  simpa [Tk.says, text_len] using this
theorem cells3f {w : World} {b : Nat} {x y z : Value} {t : TypeId} (h : w.heap[b]? = some (.cells #[x, y, z] t (0, 0))) : w.cell? ⟨b, 0, none⟩ = some x ∧ w.cell? ⟨b, 1, none⟩ = some y ∧ w.cell? ⟨b, 2, none⟩ = some z ∧ w.frozen? ⟨b, 0, none⟩ = false ∧ w.frozen? ⟨b, 1, none⟩ = false ∧ w.frozen? ⟨b, 2, none⟩ = false := by
  obtain ⟨a1, a2, a3⟩ := cells3 h
  refine ⟨a1, a2, a3, ?_, ?_, ?_⟩ <;> simp [World.frozen?, h]

set_option maxHeartbeats 8000000 in
theorem of_ok (s : ByteArray) (w : World) (hm : s.size ≤ maxLen) (hL : Lw w) : OfTo 157 s w := by
  have kw := kp_new w (.cells #[.int .i64 0, .string ⟨#[]⟩, .string ⟨#[]⟩] 229)
  have hlx := lex_ok s _ hm (hL.next kw)
  unfold LexTo at hlx
  have hlen := lexA_len s.data.toList
  have hok := lexA_ok s.data.toList
  have hright := lexA_right s.data.toList
  have hP : planA s.data.toList = planF (bodyF (lexA s.data.toList).1) := rfl
  unfold OfTo
  generalize planA s.data.toList = R at *
  have HP := Lib.hid hP
  have HX := Lib.hid hlx
  have HLN := Lib.hid hlen
  have HOK := Lib.hid hok
  have HRT := Lib.hid hright
  have HLw := Lib.hid hL
  clear hP hlx hlen hok hright hL
  go_enter Tryz.func157, Tryz.ntmps157
  go_wp2_with fail
  refine HX.out.mono ?_
  rintro e w1 ⟨A, n, c, er, ts, rfl, ho, hla, k1⟩
  rw [← hla] at HLN HOK HRT HP
  have HLA := Lib.hid hla
  have K1 := kp_trans kw k1
  have hn : n ≤ 200 := by rw [← ho.len, ← saysT_length]; exact HLN.out
  have hb1 : Hid (w1.heap[w.heap.size]? = some (.cells #[.int .i64 0, .string ⟨#[]⟩, .string ⟨#[]⟩] 229 (0, 0))) := Lib.hid ((k1.block _ (by simp)).trans (heap_alloc_new w _))
  have HS := Lib.hid (shaped_ok A n c ts w1 ho.tr (by omega) (fun t ht => Nat.le_trans (says_short (m := 200) (fun t ht => (HOK.out t ht).1) t ht) (by decide)) (HLw.out.next K1))
  clear hla HX k1
  go_wp2_with fail
  refine HS.out.mono ?_
  rintro e w2 ⟨r, A2, n2, c2, ss, rfl, hr, hx, hs, k2⟩
  have HPK := Lib.hid (pick_by HRT.out hr hs)
  have HXR := Lib.hid hx
  have K2 := kp_trans K1 k2
  have hlt1 : w.heap.size < w1.heap.size := (Array.getElem?_eq_some_iff.1 hb1.out).1
  have hb2 : Hid (w2.heap[w.heap.size]? = some (.cells #[.int .i64 0, .string ⟨#[]⟩, .string ⟨#[]⟩] 229 (0, 0))) := Lib.hid ((k2.block _ hlt1).trans hb1.out)
  clear HS hr hs hx k2
  go_wp2_with fail
  refine (forms_ok w2).mono ?_
  rintro e w3 ⟨rfl, hw3⟩
  have hlt2 : w.heap.size < w2.heap.size := (Array.getElem?_eq_some_iff.1 hb2.out).1
  have k3 : Below w2.heap.size w2 w3 := by rw [hw3]; exact kp_new _ _
  have hF : w3.heap[w2.heap.size]? = some (.cells formC.toArray 259 (0, 0)) := by rw [hw3]; exact heap_alloc_new w2 _
  have hb3 : Hid (w3.heap[w.heap.size]? = some (.cells #[.int .i64 0, .string ⟨#[]⟩, .string ⟨#[]⟩] 229 (0, 0))) := Lib.hid ((k3.block _ hlt2).trans hb2.out)
  have hlt3 : w2.heap.size < w3.heap.size := (Array.getElem?_eq_some_iff.1 hF).1
  have K3 := kp_trans K2 k3
  have HX3 := Lib.hid (HXR.out.next k3)
  have HF := Lib.hid hF
  have HK3 := Lib.hid K3
  clear hw3 hF hb1 hb2 HXR
  generalize w2.heap.size = F at *
  go_wp2_with fail
  go_loopw [21] (fun i wr => ∃ k : Nat, k ≤ 5 ∧ i = .int .i64 k ∧ Hid ((0 < k → r ≠ tGet) ∧ (1 < k → r ≠ tAll) ∧ (2 < k → r ≠ tPut) ∧ (3 < k → r ≠ tChg) ∧ (4 < k → r ≠ tDel)) ∧ Below w3.heap.size w3 wr) (fun i _ => 5 - (intOf i).toNat)
  case atStart => exact ⟨0, by omega, rfl, Lib.hid ⟨by omega, by omega, by omega, by omega, by omega⟩, Below.refl _ _⟩
  case round =>
    obtain ⟨k, hk, rfl, hne, k4⟩ := hrel
    have hFr : wr.heap[F]? = some (.cells formC.toArray 259 (0, 0)) := (k4.block _ hlt3).trans HF.out
    have hbr : wr.heap[w.heap.size]? = some (.cells #[.int .i64 0, .string ⟨#[]⟩, .string ⟨#[]⟩] 229 (0, 0)) := (k4.block _ (by omega)).trans hb3.out
    have hc : ∀ j u, formC[j]? = some u → wr.cell? ⟨F, j, none⟩ = some u := fun j u hu => by
      rw [cell_of_row _ _ j formC.toArray _ (0, 0) hFr]
      simpa using hu
    rcases (by omega : k = 0 ∨ k = 1 ∨ k = 2 ∨ k = 3 ∨ k = 4 ∨ k = 5) with rfl | rfl | rfl | rfl | rfl | rfl
    · have c0 := hc 0 _ rfl
      have c1 := hc 1 _ rfl
      clear hc hFr
      by_cases he : r = tGet
      · have hq : (tGet.toList == r.toList) = true := by rw [txt_eq, decide_eq_true he]
        obtain ⟨x, rest, hss, hpl⟩ := HPK.out.1 he
        subst hss
        have HPL := Lib.hid (hpl.symm.trans HP.out.symm)
        have HB := Lib.hid hbr
        clear he hpl hne hbr
        generalize tGet = g at *
        go_wp2_with fail
        refine (do1_ok A2 n2 c2 x rest _ ((HX3.out.next k4).next (kp_new wr _))).mono ?_
        rintro e w5 ⟨rfl, k5⟩
        have K4 := kp_new wr (.cells #[.string g, .func (.func 202) #[] #[]] 259)
        have K5 : Below wr.heap.size wr w5 := kp_trans K4 k5
        obtain ⟨d0, d1, d2, f0, f1, f2⟩ := cells3f ((K5.block _ ((Array.getElem?_eq_some_iff.1 HB.out).1)).trans HB.out)
        have KW : Below w.heap.size w w5 := kp_trans (kp_trans HK3.out k4) K5
        clear k5 K4 K5
        unfold planV
        go_wp2_with fail
        refine bodyPost_ret (v := planV 1 x ⟨#[]⟩) ?_ rfl ⟨1, x, ⟨#[]⟩, rfl, HPL.out, ((KW.setCell (Nat.le_refl _) _).setCell (Nat.le_refl _) _).setCell (Nat.le_refl _) _⟩
        rw [results_cell1 rfl]
        unfold planV
        go_simp
      · have hq : (tGet.toList == r.toList) = false := by rw [txt_eq, decide_eq_false he]
        have hne2 : Hid ((0 < 1 → r ≠ tGet) ∧ (1 < 1 → r ≠ tAll) ∧ (2 < 1 → r ≠ tPut) ∧ (3 < 1 → r ≠ tChg) ∧ (4 < 1 → r ≠ tDel)) := Lib.hid ⟨fun _ => he, (by omega), (by omega), (by omega), (by omega)⟩
        clear he hne hbr
        obtain ⟨g, hg⟩ : ∃ g, g = tGet := ⟨_, rfl⟩
        rw [← hg] at c0 hq
        clear hg
        go_wp2_with fail
        go_roundw
        case rel => exact ⟨1, by omega, by go_num, hne2, kp_alloc k4 _⟩
        case measure => simp [intOf]
    · have c0 := hc 2 _ rfl
      have c1 := hc 3 _ rfl
      clear hc hFr
      by_cases he : r = tAll
      · have hq : (tAll.toList == r.toList) = true := by rw [txt_eq, decide_eq_true he]
        have hpl := HPK.out.2.1 he
        have hss := True.intro
        have HPL := Lib.hid (hpl.symm.trans HP.out.symm)
        have HB := Lib.hid hbr
        clear he hpl hne hbr
        generalize tAll = g at *
        go_wp2_with fail
        refine (do2_ok A2 n2 c2 _).mono ?_
        rintro e w5 ⟨rfl, k5⟩
        have K4 := kp_new wr (.cells #[.string g, .func (.func 203) #[] #[]] 259)
        have K5 : Below wr.heap.size wr w5 := kp_trans K4 k5
        obtain ⟨d0, d1, d2, f0, f1, f2⟩ := cells3f ((K5.block _ ((Array.getElem?_eq_some_iff.1 HB.out).1)).trans HB.out)
        have KW : Below w.heap.size w w5 := kp_trans (kp_trans HK3.out k4) K5
        clear k5 K4 K5
        unfold planV
        go_wp2_with fail
        refine bodyPost_ret (v := planV 2 ⟨#[]⟩ ⟨#[]⟩) ?_ rfl ⟨2, ⟨#[]⟩, ⟨#[]⟩, rfl, HPL.out, ((KW.setCell (Nat.le_refl _) _).setCell (Nat.le_refl _) _).setCell (Nat.le_refl _) _⟩
        rw [results_cell1 rfl]
        unfold planV
        go_simp
      · have hq : (tAll.toList == r.toList) = false := by rw [txt_eq, decide_eq_false he]
        have hne2 : Hid ((0 < 2 → r ≠ tGet) ∧ (1 < 2 → r ≠ tAll) ∧ (2 < 2 → r ≠ tPut) ∧ (3 < 2 → r ≠ tChg) ∧ (4 < 2 → r ≠ tDel)) := Lib.hid ⟨fun _ => hne.out.1 (by omega), fun _ => he, (by omega), (by omega), (by omega)⟩
        clear he hne hbr
        obtain ⟨g, hg⟩ : ∃ g, g = tAll := ⟨_, rfl⟩
        rw [← hg] at c0 hq
        clear hg
        go_wp2_with fail
        go_roundw
        case rel => exact ⟨2, by omega, by go_num, hne2, kp_alloc k4 _⟩
        case measure => simp [intOf]
    · have c0 := hc 4 _ rfl
      have c1 := hc 5 _ rfl
      clear hc hFr
      by_cases he : r = tPut
      · have hq : (tPut.toList == r.toList) = true := by rw [txt_eq, decide_eq_true he]
        obtain ⟨x, y, rest, hss, hpl⟩ := HPK.out.2.2.1 he
        subst hss
        have HPL := Lib.hid (hpl.symm.trans HP.out.symm)
        have HB := Lib.hid hbr
        clear he hpl hne hbr
        generalize tPut = g at *
        go_wp2_with fail
        refine (do3_ok A2 n2 c2 x y rest _ ((HX3.out.next k4).next (kp_new wr _))).mono ?_
        rintro e w5 ⟨rfl, k5⟩
        have K4 := kp_new wr (.cells #[.string g, .func (.func 204) #[] #[]] 259)
        have K5 : Below wr.heap.size wr w5 := kp_trans K4 k5
        obtain ⟨d0, d1, d2, f0, f1, f2⟩ := cells3f ((K5.block _ ((Array.getElem?_eq_some_iff.1 HB.out).1)).trans HB.out)
        have KW : Below w.heap.size w w5 := kp_trans (kp_trans HK3.out k4) K5
        clear k5 K4 K5
        unfold planV
        go_wp2_with fail
        refine bodyPost_ret (v := planV 3 x y) ?_ rfl ⟨3, x, y, rfl, HPL.out, ((KW.setCell (Nat.le_refl _) _).setCell (Nat.le_refl _) _).setCell (Nat.le_refl _) _⟩
        rw [results_cell1 rfl]
        unfold planV
        go_simp
      · have hq : (tPut.toList == r.toList) = false := by rw [txt_eq, decide_eq_false he]
        have hne2 : Hid ((0 < 3 → r ≠ tGet) ∧ (1 < 3 → r ≠ tAll) ∧ (2 < 3 → r ≠ tPut) ∧ (3 < 3 → r ≠ tChg) ∧ (4 < 3 → r ≠ tDel)) := Lib.hid ⟨fun _ => hne.out.1 (by omega), fun _ => hne.out.2.1 (by omega), fun _ => he, (by omega), (by omega)⟩
        clear he hne hbr
        obtain ⟨g, hg⟩ : ∃ g, g = tPut := ⟨_, rfl⟩
        rw [← hg] at c0 hq
        clear hg
        go_wp2_with fail
        go_roundw
        case rel => exact ⟨3, by omega, by go_num, hne2, kp_alloc k4 _⟩
        case measure => simp [intOf]
    · have c0 := hc 6 _ rfl
      have c1 := hc 7 _ rfl
      clear hc hFr
      by_cases he : r = tChg
      · have hq : (tChg.toList == r.toList) = true := by rw [txt_eq, decide_eq_true he]
        obtain ⟨x, y, rest, hss, hpl⟩ := HPK.out.2.2.2.1 he
        subst hss
        have HPL := Lib.hid (hpl.symm.trans HP.out.symm)
        have HB := Lib.hid hbr
        clear he hpl hne hbr
        generalize tChg = g at *
        go_wp2_with fail
        refine (do4_ok A2 n2 c2 x y rest _ ((HX3.out.next k4).next (kp_new wr _))).mono ?_
        rintro e w5 ⟨rfl, k5⟩
        have K4 := kp_new wr (.cells #[.string g, .func (.func 205) #[] #[]] 259)
        have K5 : Below wr.heap.size wr w5 := kp_trans K4 k5
        obtain ⟨d0, d1, d2, f0, f1, f2⟩ := cells3f ((K5.block _ ((Array.getElem?_eq_some_iff.1 HB.out).1)).trans HB.out)
        have KW : Below w.heap.size w w5 := kp_trans (kp_trans HK3.out k4) K5
        clear k5 K4 K5
        unfold planV
        go_wp2_with fail
        refine bodyPost_ret (v := planV 4 y x) ?_ rfl ⟨4, y, x, rfl, HPL.out, ((KW.setCell (Nat.le_refl _) _).setCell (Nat.le_refl _) _).setCell (Nat.le_refl _) _⟩
        rw [results_cell1 rfl]
        unfold planV
        go_simp
      · have hq : (tChg.toList == r.toList) = false := by rw [txt_eq, decide_eq_false he]
        have hne2 : Hid ((0 < 4 → r ≠ tGet) ∧ (1 < 4 → r ≠ tAll) ∧ (2 < 4 → r ≠ tPut) ∧ (3 < 4 → r ≠ tChg) ∧ (4 < 4 → r ≠ tDel)) := Lib.hid ⟨fun _ => hne.out.1 (by omega), fun _ => hne.out.2.1 (by omega), fun _ => hne.out.2.2.1 (by omega), fun _ => he, (by omega)⟩
        clear he hne hbr
        obtain ⟨g, hg⟩ : ∃ g, g = tChg := ⟨_, rfl⟩
        rw [← hg] at c0 hq
        clear hg
        go_wp2_with fail
        go_roundw
        case rel => exact ⟨4, by omega, by go_num, hne2, kp_alloc k4 _⟩
        case measure => simp [intOf]
    · have c0 := hc 8 _ rfl
      have c1 := hc 9 _ rfl
      clear hc hFr
      by_cases he : r = tDel
      · have hq : (tDel.toList == r.toList) = true := by rw [txt_eq, decide_eq_true he]
        obtain ⟨x, rest, hss, hpl⟩ := HPK.out.2.2.2.2.1 he
        subst hss
        have HPL := Lib.hid (hpl.symm.trans HP.out.symm)
        have HB := Lib.hid hbr
        clear he hpl hne hbr
        generalize tDel = g at *
        go_wp2_with fail
        refine (do5_ok A2 n2 c2 x rest _ ((HX3.out.next k4).next (kp_new wr _))).mono ?_
        rintro e w5 ⟨rfl, k5⟩
        have K4 := kp_new wr (.cells #[.string g, .func (.func 206) #[] #[]] 259)
        have K5 : Below wr.heap.size wr w5 := kp_trans K4 k5
        obtain ⟨d0, d1, d2, f0, f1, f2⟩ := cells3f ((K5.block _ ((Array.getElem?_eq_some_iff.1 HB.out).1)).trans HB.out)
        have KW : Below w.heap.size w w5 := kp_trans (kp_trans HK3.out k4) K5
        clear k5 K4 K5
        unfold planV
        go_wp2_with fail
        refine bodyPost_ret (v := planV 5 x ⟨#[]⟩) ?_ rfl ⟨5, x, ⟨#[]⟩, rfl, HPL.out, ((KW.setCell (Nat.le_refl _) _).setCell (Nat.le_refl _) _).setCell (Nat.le_refl _) _⟩
        rw [results_cell1 rfl]
        unfold planV
        go_simp
      · have hq : (tDel.toList == r.toList) = false := by rw [txt_eq, decide_eq_false he]
        have hne2 : Hid ((0 < 5 → r ≠ tGet) ∧ (1 < 5 → r ≠ tAll) ∧ (2 < 5 → r ≠ tPut) ∧ (3 < 5 → r ≠ tChg) ∧ (4 < 5 → r ≠ tDel)) := Lib.hid ⟨fun _ => hne.out.1 (by omega), fun _ => hne.out.2.1 (by omega), fun _ => hne.out.2.2.1 (by omega), fun _ => hne.out.2.2.2.1 (by omega), fun _ => he⟩
        clear he hne hbr
        obtain ⟨g, hg⟩ : ∃ g, g = tDel := ⟨_, rfl⟩
        rw [← hg] at c0 hq
        clear hg
        go_wp2_with fail
        go_roundw
        case rel => exact ⟨5, by omega, by go_num, hne2, kp_alloc k4 _⟩
        case measure => simp [intOf]
    · obtain ⟨d0, d1, d2, f0, f1, f2⟩ := cells3f hbr
      have HPL := Lib.hid ((HPK.out.2.2.2.2.2 (hne.out.1 (by omega)) (hne.out.2.1 (by omega)) (hne.out.2.2.1 (by omega)) (hne.out.2.2.2.1 (by omega)) (hne.out.2.2.2.2 (by omega))).symm.trans HP.out.symm)
      have KW : Below w.heap.size w wr := kp_trans HK3.out k4
      clear hne hc hFr hbr
      go_wp2_with fail
      refine bodyPost_ret (v := planV 0 ⟨#[]⟩ ⟨#[]⟩) ?_ rfl ⟨0, ⟨#[]⟩, ⟨#[]⟩, rfl, HPL.out, ((KW.setCell (Nat.le_refl _) _).setCell (Nat.le_refl _) _).setCell (Nat.le_refl _) _⟩
      rw [results_cell1 rfl]
      unfold planV
      go_simp
end

/- Rows of tokens and words of package class: contracts. -/
section
open Go.RowKit
set_option maxRecDepth 100000

/-- the first one's cells -/
theorem TR.head {w : World} {A : Option Addr} {n : Nat} {t : Tk} {r : List Tk} (h : TR w A n (t :: r)) : ∃ ad, A = some ad ∧ ad.block < w.heap.size ∧ ∀ w', Below w.heap.size w w' → w'.cell? ad = some (.int .i64 t.k) ∧ w'.cell? ⟨ad.block, ad.off + 1, none⟩ = some (.string t.t) := by
  obtain ⟨ad, hA, hb, hc⟩ := h.at_ (j := 0) (by simp)
  exact ⟨ad, hA, hb, fun w' hw => by simpa [Addr.add] using hc w' hw⟩

/-- a token is a word, or none, at a place of a row -/
theorem hasWord_ok (A : Option Addr) (n c : Nat) (ts : List Tk) (B : Option Addr) (m d : Nat) (ws : List ByteArray) (w : World) (h : TR w A n ts) (hs : SR w B m ws) (hn : n ≤ 1000000) (hm : m ≤ 1000000) :
    Calls Tryz.prog 77 #[.slice A n c, .slice B m d] w fun e w' => e = .returned (.bool (hasF (saysT ts) (txs ws))) ∧ Below w.heap.size w w' := by
  have hlen := Lib.hid h.len
  go_enter Tryz.func77, Tryz.ntmps77
  go_wp2
  go_loopw [9] (fun i wr => ∃ k : Nat, k ≤ n ∧ i = .int .i64 k ∧ Hid (hasF (saysT ts) (txs ws) = hasF (saysT (ts.drop k)) (txs ws)) ∧ Below w.heap.size w wr) (fun i _ => n - (intOf i).toNat)
  case atStart => exact ⟨0, Nat.zero_le _, rfl, Lib.hid rfl, Below.refl _ _⟩
  case round =>
    obtain ⟨k, hk, rfl, hx, kw⟩ := hrel
    by_cases hlt : k < n
    · have hkl : k < ts.length := by rw [hlen.out]; exact hlt
      obtain ⟨ad, rfl, _, hc⟩ := h.at_ hkl
      obtain ⟨c0, c1⟩ := hc _ kw
      have hst : hasF (saysT (ts.drop k)) (txs ws) = (wordF (txs ws) ts[k].says || hasF (saysT (ts.drop (k + 1))) (txs ws)) := by
        rw [List.drop_eq_getElem_cons hkl]
        rfl
      rw [hst] at hx
      have kw2 := kp_trans kw (kp_new wr (.cells #[.int .i64 ts[k].k, .string ts[k].t] 142))
      have hC := Lib.hid (isWord_ok ts[k] B m d ws _ (hs.next kw2) hm)
      clear hc hst
      generalize wordF (txs ws) ts[k].says = b at *
      generalize ts[k].k = x at *
      generalize ts[k].t = s at *
      cases b
      · have hx2 : Hid (hasF (saysT ts) (txs ws) = hasF (saysT (ts.drop (k + 1))) (txs ws)) := Lib.hid (by rw [hx.out]; rfl)
        clear hx
        go_wp2_with fail
        refine hC.out.mono ?_
        rintro e w1 ⟨rfl, k1⟩
        go_wp2_with fail
        go_roundw
        case rel => exact ⟨k + 1, by omega, by go_num, hx2, kp_trans kw2 k1⟩
        case measure => simp [intOf]; omega
      · have hF : hasF (saysT ts) (txs ws) = true := by rw [hx.out]; rfl
        have HF := Lib.hid hF
        clear hF hx
        go_wp2_with fail
        refine hC.out.mono ?_
        rintro e w1 ⟨rfl, k1⟩
        go_wp2_with fail
        go_ret
        exact ⟨by rw [HF.out]; rfl, kp_trans kw2 k1⟩
    · obtain rfl : k = n := by omega
      have hF : hasF (saysT ts) (txs ws) = false := by rw [hx.out, List.drop_eq_nil_of_le (by rw [hlen.out]; exact Nat.le_refl _)]; rfl
      have HF := Lib.hid hF
      clear hF hx
      go_wp2_with fail
      go_ret
      exact ⟨by rw [HF.out]; rfl, kw⟩

theorem beginsWith_ok (A : Option Addr) (n c : Nat) (ts : List Tk) (B : Option Addr) (m d : Nat) (ws : List ByteArray) (w : World) (h : TR w A n ts) (hs : SR w B m ws) (hm : m ≤ 1000000) :
    Calls Tryz.prog 80 #[.slice A n c, .slice B m d] w fun e w' => e = .returned (.bool (headF (saysT ts) (txs ws))) ∧ Below w.heap.size w w' := by
  cases ts with
  | nil =>
    obtain rfl : 0 = n := h.len
    go_enter Tryz.func80, Tryz.ntmps80
    go_wp2_with fail
    go_ret
    exact ⟨rfl, Below.refl _ _⟩
  | cons t r =>
    have hn : 0 < n := by have := h.len; simp at this; omega
    obtain ⟨ad, rfl, _, hc⟩ := h.head
    obtain ⟨c0, c1⟩ := hc _ (Below.refl _ _)
    have hC := Lib.hid (isWord_ok t B m d ws w hs hm)
    have hF : headF (saysT (t :: r)) (txs ws) = wordF (txs ws) t.says := rfl
    rw [hF]
    clear hc hF
    generalize wordF (txs ws) t.says = b at *
    obtain ⟨k, s⟩ := t
    go_enter Tryz.func80, Tryz.ntmps80
    go_wp2_with fail
    refine hC.out.mono ?_
    rintro e w1 ⟨rfl, k1⟩
    go_wp2_with fail
    go_ret
    exact ⟨rfl, k1⟩

theorem isBare_ok (A : Option Addr) (n c : Nat) (ts : List Tk) (B : Option Addr) (m d : Nat) (ws : List ByteArray) (w : World) (h : TR w A n ts) (hs : SR w B m ws) (hm : m ≤ 1000000) (hn : n ≤ 1000000) :
    Calls Tryz.prog 79 #[.slice A n c, .slice B m d] w fun e w' => e = .returned (.bool (bareF (saysT ts) (txs ws))) ∧ Below w.heap.size w w' := by
  cases ts with
  | nil =>
    obtain rfl : 0 = n := h.len
    go_enter Tryz.func79, Tryz.ntmps79
    go_wp2_with fail
    go_ret
    exact ⟨rfl, Below.refl _ _⟩
  | cons t r =>
    have hl : r.length + 1 = n := by have := h.len; simpa using this
    by_cases h1 : n = 1
    · subst h1
      obtain rfl : r = [] := List.eq_nil_of_length_eq_zero (by omega)
      obtain ⟨ad, rfl, _, hc⟩ := h.head
      obtain ⟨c0, c1⟩ := hc _ (Below.refl _ _)
      have hC := Lib.hid (isWord_ok t B m d ws w hs hm)
      have hF : bareF (saysT [t]) (txs ws) = wordF (txs ws) t.says := rfl
      rw [hF]
      clear hc hF
      generalize wordF (txs ws) t.says = b at *
      obtain ⟨k, s⟩ := t
      go_enter Tryz.func79, Tryz.ntmps79
      go_wp2_with fail
      refine hC.out.mono ?_
      rintro e w1 ⟨rfl, k1⟩
      go_wp2_with fail
      go_ret
      exact ⟨rfl, k1⟩
    · have hF : bareF (saysT (t :: r)) (txs ws) = false := by
        unfold bareF
        rw [saysT_length, List.length_cons, hl, decide_eq_false h1, decide_eq_false (by omega)]
        rfl
      have h0 : ¬ n = 0 := by omega
      rw [hF]
      clear hF hl
      go_enter Tryz.func79, Tryz.ntmps79
      go_wp2_with fail
      go_ret
      exact ⟨ret_bool (by simpa using h0), Below.refl _ _⟩

theorem classIf_ok (c : Int) (b : Bool) (w : World) : Calls Tryz.prog 78 #[.int .i64 c, .bool b] w fun e w' => e = .returned (.int .i64 (ifF c b)) ∧ w = w' := by
  cases b
  all_goals
    go_enter Tryz.func78, Tryz.ntmps78
    go_wp2_with fail
    go_ret
    exact ⟨rfl, rfl⟩
end

/- selected, withoutEnd of package class: contracts. -/
section
open Go.RowKit
set_option maxRecDepth 100000

theorem selected_ok (A : Option Addr) (n c : Nat) (ts : List Tk) (b : Bool) (w : World) (h : TR w A n ts) (hn : n ≤ 1000000) :
    Calls Tryz.prog 76 #[.slice A n c, .bool b] w fun e w' => e = .returned (.int .i64 (selF (saysT ts) b)) ∧ Below w.heap.size w w' := by
  have kw := kp_new w (.cells #[.string ⟨#[73, 78, 83, 69, 82, 84]⟩, .string ⟨#[85, 80, 68, 65, 84, 69]⟩, .string ⟨#[68, 69, 76, 69, 84, 69]⟩, .string ⟨#[82, 69, 80, 76, 65, 67, 69]⟩, .string ⟨#[73, 78, 84, 79]⟩, .string ⟨#[83, 72, 65, 82, 69]⟩] 9)
  have hS := SR.new w 9 [⟨#[73, 78, 83, 69, 82, 84]⟩, ⟨#[85, 80, 68, 65, 84, 69]⟩, ⟨#[68, 69, 76, 69, 84, 69]⟩, ⟨#[82, 69, 80, 76, 65, 67, 69]⟩, ⟨#[73, 78, 84, 79]⟩, ⟨#[83, 72, 65, 82, 69]⟩]
  have hC := Lib.hid (hasWord_ok A n c ts _ 6 6 _ _ (h.next kw) hS hn (by decide))
  have hF : selF (saysT ts) b = if hasF (saysT ts) six then 2 else ifF 1 b := rfl
  have hE : txs [⟨#[73, 78, 83, 69, 82, 84]⟩, ⟨#[85, 80, 68, 65, 84, 69]⟩, ⟨#[68, 69, 76, 69, 84, 69]⟩, ⟨#[82, 69, 80, 76, 65, 67, 69]⟩, ⟨#[73, 78, 84, 79]⟩, ⟨#[83, 72, 65, 82, 69]⟩] = six := rfl
  rw [hE] at hC
  rw [hF]
  clear hS hF hE
  generalize hasF (saysT ts) six = x at *
  cases x
  · go_enter Tryz.func76, Tryz.ntmps76
    go_wp2_with fail
    refine hC.out.mono ?_
    rintro e w1 ⟨rfl, k1⟩
    go_wp2_with fail
    refine (classIf_ok 1 b w1).mono ?_
    rintro e w2 ⟨rfl, rfl⟩
    go_wp2_with fail
    go_ret
    exact ⟨rfl, kp_trans kw k1⟩
  · go_enter Tryz.func76, Tryz.ntmps76
    go_wp2_with fail
    refine hC.out.mono ?_
    rintro e w1 ⟨rfl, k1⟩
    go_wp2_with fail
    go_ret
    exact ⟨rfl, kp_trans kw k1⟩

theorem TR.front {w : World} {A : Option Addr} {n : Nat} {ts : List Tk} (h : TR w A n ts) {k : Nat} (hk : k ≤ n) : TR w A k (ts.take k) :=
  ⟨by rw [List.length_take, h.len]; omega, by
    have := h.rd.front (k * 2)
    have e : (tkC ts).take (k * 2) = tkC (ts.take k) := by
      have h1 : tkC ts = tkC (ts.take k) ++ tkC (ts.drop k) := by rw [← tkC_append, List.take_append_drop]
      rw [h1, List.take_append_of_le_length (by rw [tkC_length, List.length_take, h.len]; omega), List.take_of_length_le (by rw [tkC_length, List.length_take]; omega)]
    rwa [e] at this⟩

set_option maxHeartbeats 400000 in
theorem withoutEnd_ok (A : Option Addr) (n c : Nat) (ts : List Tk) (w : World) (h : TR w A n ts) (hc : n ≤ c) (hn : n ≤ 1000000) :
    Calls Tryz.prog 49 #[.slice A n c] w fun e w' => ∃ k, e = .returned (.slice A k c) ∧ k ≤ n ∧ saysT (ts.take k) = endF (saysT ts) ∧ Below w.heap.size w w' := by
  have hlen := Lib.hid h.len
  go_enter Tryz.func49, Tryz.ntmps49
  go_wp2
  go_loopw [0] (fun v wr => ∃ k : Nat, k ≤ n ∧ v = .slice A k c ∧ Hid (endF (saysT ts) = endF (saysT (ts.take k))) ∧ Below w.heap.size w wr) (fun v _ => match v with | .slice _ k _ => k | _ => 0)
  case atStart => exact ⟨n, Nat.le_refl _, rfl, Lib.hid (by rw [List.take_of_length_le (by rw [hlen.out]; exact Nat.le_refl _)]), Below.refl _ _⟩
  case round =>
    obtain ⟨k, hk, rfl, hx, kw⟩ := hrel
    cases k with
    | zero =>
      have hF : saysT (ts.take 0) = endF (saysT ts) := by rw [hx.out]; rfl
      have HF := Lib.hid hF
      clear hF hx
      go_wp2_with fail
      go_ret
      exact ⟨0, rfl, hk, HF.out, kw⟩
    | succ j =>
      have hjl : j < ts.length := by rw [hlen.out]; omega
      obtain ⟨ad, rfl, _, hcc⟩ := h.at_ hjl
      obtain ⟨c0, c1⟩ := hcc _ kw
      have hS := Lib.hid (isStop_ok ts[j] wr)
      have hst : saysT (ts.take (j + 1)) = saysT (ts.take j) ++ [ts[j].says] := by
        rw [List.take_succ_eq_append_getElem hjl, saysT_append]
        rfl
      rw [hst] at hx
      have HST := Lib.hid hst
      have e1 : ((j + 1 : Nat) : Int) - 1 = (j : Int) := by omega
      clear hcc hst
      cases hs : stopF ts[j].says with
      | false =>
        have hF : saysT (ts.take (j + 1)) = endF (saysT ts) := by rw [hx.out, endF_last hs, HST.out]
        have HF := Lib.hid hF
        rw [hs] at hS
        clear hF hx hs
        generalize ts[j].k = x at *
        generalize ts[j].t = s at *
        go_wp2_with fail
        refine hS.out.mono ?_
        rintro e w1 ⟨rfl, k1⟩
        go_wp2_with fail
        go_ret
        exact ⟨j + 1, rfl, hk, HF.out, kp_trans kw k1⟩
      | true =>
        have hx2 : Hid (endF (saysT ts) = endF (saysT (ts.take j))) := Lib.hid (by rw [hx.out, endF_stop hs])
        rw [hs] at hS
        clear hx hs
        generalize ts[j].k = x at *
        generalize ts[j].t = s at *
        go_wp2_with fail
        refine hS.out.mono ?_
        rintro e w1 ⟨rfl, k1⟩
        go_wp2_with fail
        go_roundw
        case rel => exact ⟨j, by omega, rfl, hx2, kp_trans kw k1⟩
        case measure => simp
end

/- The document's layer 6: are tokens a form's, and which are its Strings: contracts. -/
section
open Go.RowKit
set_option maxRecDepth 100000
end

/- The document's layer 6: what a statement does: contract. -/
section
open Go.RowKit
set_option maxRecDepth 100000
end

/- The document's layer 5: word, has, tokens: contracts. -/
section
open Go.RowKit
set_option maxRecDepth 100000
end

/- The document's layer 5: the class of tokens: contract. -/
section
open Go.RowKit
set_option maxRecDepth 100000
end

/- The document's layer 5: the class of tokens: contract. -/
section
open Go.RowKit
set_option maxRecDepth 100000
end

/- The document's layer 5: Asks, Class: contracts. -/
section
open Go.RowKit
set_option maxRecDepth 100000
end

/- The document's layer 15: Table: contract. -/
section
open Go.RowKit
set_option maxRecDepth 100000

theorem wrT_of {d : Int} {k v s : ByteArray} (h : doing d k v = planA s.data.toList) (l : List Kv) : wrT l s = (writesF d k v l).1 := by
  unfold wrT
  rw [← h]
  show (writesF d (ba k.data.toList) (ba v.data.toList) l).1 = _
  rw [ba_text, ba_text]
theorem rdT_of {d : Int} {k v s : ByteArray} (h : doing d k v = planA s.data.toList) (l : List Kv) : rdT s l = readsF d k l := by
  unfold rdT
  rw [← h]
  show readsF d (ba k.data.toList) l = _
  rw [ba_text]
section
variable {b : Nat} {n : Nd} {S : Nat → Prop} {w : World}
end
end

/- The document's layer 15: do: contract. -/
section
open Go.RowKit
set_option maxRecDepth 100000

section
variable {b : Nat} {n : Nd} {AL : Option Addr} {nl cl : Nat} {AO : Option Addr} {no co : Nat} {os : List OpR} {S : Nat → Prop} {w u : World}
end
section
variable {b : Nat} {n : Nd} {S : Nat → Prop} {w : World}
end
end

/- The document's layer 15: Run: contract. -/
section
open Go.RowKit
set_option maxRecDepth 100000

def rpV (r : Rp) (A : Option Addr) (m d : Nat) : Value := .agg #[.int .i64 r.e, .int .u64 r.ep, .int .u64 r.pl, .slice A m d]
section
variable {b : Nat} {n : Nd} {S : Nat → Prop} {w : World} {k : Nat}
end
end

/- Layer 15: what the laws ask of the project's node, as one statement (to be proved of the landed code), over a thing that is the node; the law's of, entries, reply. -/
section
open Go.RowKit
set_option maxRecDepth 100000

/-- what a call on a thing leaves that tells a row: it lies in a new block, none of the thing's -/
structure Told1 (Y : Thing) (S : Nat → Prop) (A : Option Addr) (w w' : World) : Prop where
  at_ : ∃ S', Y.p S' w' ∧ (∀ k, S' k → S k ∨ w.heap.size ≤ k) ∧ ∀ ad, A = some ad → w.heap.size ≤ ad.block ∧ ad.block < w'.heap.size ∧ ¬ S' ad.block
  off : Off S w w'
theorem Told1.turn {Y : Thing} {S : Nat → Prop} {A : Option Addr} {w w' : World} (h : Told1 Y S A w w') : Turn Y S w w' := by
  obtain ⟨⟨S', h1, h2, _⟩, h4⟩ := h
  exact ⟨⟨S', h1, h2⟩, h4⟩
def I64n (i : Int) : Prop := -9223372036854775808 ≤ i ∧ i ≤ 9223372036854775807
def U64n (n : Int) : Prop := 0 ≤ n ∧ n < 18446744073709551616
end

/- Three things of one kind, in blocks of their own, as one thing (no function of the program is named here). -/
section
open Go.RowKit
set_option maxRecDepth 100000

section
variable {α : Type} {Y : Nat → α → Thing} {bs : Nat → Nat} {ns : Nat → α} {S : Nat → Prop} {w w' : World} {P : Program}
/-- one of them is another -/
def upd3 (ns : Nat → α) (i : Nat) (x : α) : Nat → α := fun j => if j = i then x else ns j
theorem upd3_at (ns : Nat → α) (i : Nat) (x : α) : upd3 ns i x i = x := if_pos rfl
theorem upd3_ne (ns : Nat → α) {i j : Nat} (x : α) (h : j ≠ i) : upd3 ns i x j = ns j := if_neg h
end
end

/- Layer 15: acts, plain and as rows; the law's large: contract. -/
section
open Go.RowKit
set_option maxRecDepth 100000

/-- an act -/
structure Ac8 where
  d : Int
  nd : Int
  fr : Int
  c : Int
  m : Int
  e : Int
  rd : Bool
  t : ByteArray
instance : Inhabited Ac8 := ⟨⟨0, 0, 0, 0, 0, 0, false, ⟨#[]⟩⟩⟩
/-- what an act answers -/
structure To15 where
  r : Rp
  is : Bool
  many : Int
def noRp : Rp := ⟨0, 0, 0, []⟩
end

/- Layer 15, plain: what follows of a node's acts (no function of the program is named here). -/
section
open Go.RowKit
set_option maxRecDepth 100000

/-- what doing leaves: the same epoch, more entries of it, or none -/
structure Grew (n n' : Nd) (er : Int) : Prop where
  ep : n'.ep = n.ep
  ld : n'.ld = n.ld
  lg : ∃ es, n'.lg = n.lg ++ es ∧ ∀ x ∈ es, x.e = n.ep
  no : er ≠ 0 → n'.lg = n.lg
theorem Grew.same (n : Nd) (op : List Op15) (er : Int) : Grew n { n with op := op } er := ⟨rfl, rfl, ⟨[], by simp, fun _ h => nomatch h⟩, fun _ => rfl⟩
theorem layNd_grew (n : Nd) (op : List Op15) (ts : List ByteArray) : Grew n (layNd { n with op := op } ts).2 (layNd { n with op := op } ts).1 := by
  unfold layNd
  split
  · exact Grew.same n op 5
  · refine ⟨rfl, rfl, ⟨_, rfl, fun x hx => ?_⟩, fun h => absurd rfl h⟩
    obtain ⟨t, _, rfl⟩ := List.mem_map.1 hx
    rfl
theorem doNd_grew (n : Nd) (c is : Int) (s : ByteArray) : Grew n (doNd n c is s).2 (doNd n c is s).1 := by
  unfold doNd
  split
  · split
    · exact Grew.same n n.op 7
    split
    · exact layNd_grew n (dropOp c n.op) _
    split
    · exact Grew.same n _ 0
    split
    · split
      · exact Grew.same n n.op 5
      · exact Grew.same n _ 0
    · exact Grew.same n n.op 0
  · split
    · exact Grew.same n n.op 7
    split
    · exact Grew.same n _ 0
    split
    · exact layNd_grew n n.op _
    · exact Grew.same n n.op 0
theorem why_none {n : Nd} {e : Int} {rd : Bool} {is : Int} (h : whyNd n e rd is = 0) : e = n.ep ∧ is ≠ 0 ∧ (rd = true → is = 1) ∧ (rd = false → n.ld = true) := by
  unfold whyNd at h
  split at h
  · omega
  rename_i h1
  split at h
  · omega
  rename_i h2
  split at h
  · omega
  rename_i h3
  refine ⟨Decidable.not_not.1 h1, fun e => h2 (.inl e), fun e => Decidable.not_not.1 fun e2 => h2 (.inr ⟨e, e2⟩), fun e => ?_⟩
  cases hl : n.ld with
  | true => rfl
  | false => exact absurd ⟨e, hl⟩ h3
/-- what a statement lays, and who -/
structure Fenced (n : Nd) (e : Int) (rd : Bool) (s : ByteArray) (r : Rp) (n' : Nd) : Prop where
  grew : Grew n n' r.e
  ep : r.ep = n.ep
  pl : r.pl = n'.lg.length
  who : n'.lg ≠ n.lg → r.e = 0 ∧ e = n.ep ∧ n.ld = true ∧ rd = false ∧ clsT s ≠ 1 ∧ clsT s ≠ 0
  stale : e ≠ n.ep → r.e = 8
  leads : n.ld = false → rd = false → r.e ≠ 0
  texts : r.ts ≠ [] → clsT s = 1
theorem run_fenced (n : Nd) (c e : Int) (rd : Bool) (s : ByteArray) : Fenced n e rd s (runNd n c e rd s).1 (runNd n c e rd s).2 := by
  unfold runNd
  by_cases h1 : whyNd n e rd (clsT s) ≠ 0
  · rw [if_pos h1]
    exact ⟨Grew.same n n.op _, rfl, rfl, fun h => absurd rfl h, fun h => by show whyNd n e rd (clsT s) = 8; unfold whyNd; rw [if_pos h], fun _ _ => h1, fun h => absurd rfl h⟩
  · obtain ⟨he, h0, hr, hl⟩ := why_none (Decidable.not_not.1 h1)
    rw [if_neg h1]
    by_cases h2 : clsT s ≠ 1
    · rw [if_pos h2]
      have g := doNd_grew n c (clsT s) s
      have hrd : rd = false := by
        cases hrd : rd with
        | false => rfl
        | true => exact absurd (hr hrd) h2
      refine ⟨g, g.ep, rfl, fun h => ⟨?_, he, hl hrd, hrd, h2, h0⟩, fun h => absurd he h, (fun a b => by rw [hl b] at a; cases a), fun h => absurd rfl h⟩
      exact Decidable.not_not.1 fun h3 => h (g.no h3)
    · rw [if_neg h2]
      exact ⟨Grew.same n n.op _, rfl, rfl, fun h => absurd rfl h, fun h => absurd he h, fun a b => (by rw [hl b] at a; cases a), fun _ => Decidable.not_not.1 h2⟩
/-- who reads changes nothing -/
theorem run_read (n : Nd) (c : Int) (s : ByteArray) : (runNd n c n.ep true s).2 = n ∧ ((runNd n c n.ep true s).1.e = 0 ↔ clsT s = 1) := by
  unfold runNd
  by_cases h1 : whyNd n n.ep true (clsT s) ≠ 0
  · rw [if_pos h1]
    refine ⟨rfl, fun h => absurd h h1, fun h => ?_⟩
    exfalso
    apply h1
    unfold whyNd
    simp [h]
  · obtain ⟨_, _, hr, _⟩ := why_none (Decidable.not_not.1 h1)
    rw [if_neg h1, if_neg (fun h => h (hr rfl))]
    exact ⟨rfl, fun _ => hr rfl, fun _ => rfl⟩
section
variable {n : Nd} {E : Int} {L : List Lg} {m : Int}
end
end

/- A cluster, plain: its nodes, the newest promotion; what each call answers and leaves; what it comes to be (no function of the program is named here). -/
section
open Go.RowKit
set_option maxRecDepth 100000

/-- a promotion: the epoch, who leads, how many entries both begin with alike -/
structure Pr16 where
  e : Int
  p : Int
  c : Int
deriving DecidableEq
instance : Inhabited Pr16 := ⟨⟨0, 0, 0⟩⟩
/-- a cluster: how many nodes, these, the newest promotion -/
structure Cu where
  n : Nat
  ns : Nat → Nd
  pm : Pr16
def newCu (n : Nat) : Cu := ⟨n, upd3 (fun _ => newNd) 0 (leadNd newNd 1), ⟨1, 0, 0⟩⟩
def Cu.Is (c : Cu) (n : Int) : Prop := 0 ≤ n ∧ n < c.n
instance (c : Cu) (n : Int) : Decidable (c.Is n) := inferInstanceAs (Decidable (_ ∧ _))
def Cu.at (c : Cu) (n : Int) : Nd := c.ns n.toNat
def Cu.first (c : Cu) : Nd := c.at c.pm.p
def Cu.put (c : Cu) (n : Int) (x : Nd) : Cu := ⟨c.n, upd3 c.ns n.toNat x, c.pm⟩
def nextPm (c : Cu) (n : Int) : Pr16 := ⟨c.pm.e + 1, n, sameLg (c.at n).lg c.first.lg⟩
def proCu (c : Cu) (n : Int) : (Pr16 × Int) × Cu :=
  if ¬ c.Is n then ((⟨0, 0, 0⟩, 6), c) else if n = c.pm.p then ((⟨0, 0, 0⟩, 7), c)
  else ((nextPm c n, 0), ⟨c.n, upd3 c.ns n.toNat (leadNd (c.at n) (c.pm.e + 1)), nextPm c n⟩)
def cpyCu (c : Cu) (n m : Int) : Int × Cu :=
  if ¬ c.Is n ∨ n = c.pm.p then (0, c) else ((copyNd (c.at n) c.first m).1, c.put n (copyNd (c.at n) c.first m).2)
def runCu (c : Cu) (n cn e : Int) (rd : Bool) (s : ByteArray) : Rp × Cu :=
  if ¬ c.Is n then (⟨6, 0, 0, []⟩, c) else ((runNd (c.at n) cn e rd s).1, c.put n (runNd (c.at n) cn e rd s).2)
def clsCu (c : Cu) (n cn : Int) : Bool × Cu :=
  if ¬ c.Is n then (false, c) else (decide (0 ≤ idxOp cn (c.at n).op), c.put n (closeNd (c.at n) cn))
def epCu (c : Cu) (n : Int) : Int := if c.Is n then (c.at n).ep else 0
def ldCu (c : Cu) (n : Int) : Bool := if c.Is n then (c.at n).ld else false
def lgCu (c : Cu) (n : Int) : List Lg := if c.Is n then (c.at n).lg else []
def lagCu (c : Cu) (n : Int) : Int := if ¬ c.Is n then 0 else if (c.at n).ep ≠ c.pm.e then c.first.lg.length else c.first.lg.length - (c.at n).lg.length
/-- an act -/
structure Ac7 where
  d : Int
  nd : Int
  c : Int
  m : Int
  e : Int
  rd : Bool
  t : ByteArray
instance : Inhabited Ac7 := ⟨⟨0, 0, 0, 0, 0, false, ⟨#[]⟩⟩⟩
structure Ac7.Fine (x : Ac7) : Prop where
  d : I64n x.d
  nd : I64n x.nd
  c : I64n x.c
  m : I64n x.m
  e : U64n x.e
/-- what an act answers -/
structure To16 where
  r : Rp
  is : Bool
  p : Pr16
  e : Int
  many : Int
def noPr : Pr16 := ⟨0, 0, 0⟩
def epX (c : Cu) (x : Ac7) : Int := if x.e = 0 then epCu c x.nd else x.e
def actCu (c : Cu) (x : Ac7) : To16 × Cu :=
  if x.d = 0 then (⟨(runCu c x.nd x.c (epX c x) x.rd x.t).1, false, noPr, 0, 0⟩, (runCu c x.nd x.c (epX c x) x.rd x.t).2)
  else if x.d = 1 then (⟨noRp, (clsCu c x.nd x.c).1, noPr, 0, 0⟩, (clsCu c x.nd x.c).2)
  else if x.d = 2 then (⟨noRp, false, (proCu c x.nd).1.1, (proCu c x.nd).1.2, 0⟩, (proCu c x.nd).2)
  else (⟨noRp, false, noPr, 0, (cpyCu c x.nd x.m).1⟩, (cpyCu c x.nd x.m).2)

/-- a cluster as it comes to be -/
structure CuI (k : Nat) (c : Cu) : Prop where
  n1 : 1 ≤ c.n
  n6 : c.n ≤ 6
  nd : ∀ i, NdI k (c.ns i)
  is : c.Is c.pm.p
  e1 : 1 ≤ c.pm.e
  ek : c.pm.e ≤ k + 1
  fe : c.first.ep = c.pm.e
  fl : c.first.ld = true
  ep : ∀ i, i < c.n → (c.ns i).ep ≤ c.pm.e
  pre : ∀ i, i < c.n → (c.ns i).ep = c.pm.e → (c.ns i).lg = c.first.lg.take (c.ns i).lg.length
  one : ∀ i j, i < c.n → j < c.n → i ≠ j → (c.ns i).ld = true → (c.ns j).ld = true → (c.ns i).ep ≠ (c.ns j).ep
  c0 : 0 ≤ c.pm.c
  cl : c.pm.c ≤ c.first.lg.length
theorem Cu.Is.lt {c : Cu} {n : Int} (h : c.Is n) : n.toNat < c.n ∧ ((n.toNat : Nat) : Int) = n := by
  unfold Cu.Is at h
  omega
theorem Cu.Is.ne {c : Cu} {n m : Int} (h : c.Is n) (k : c.Is m) (e : n ≠ m) : n.toNat ≠ m.toNat := by
  unfold Cu.Is at h k
  omega
theorem CuI.new {n : Nat} (h1 : 1 ≤ n) (h6 : n ≤ 6) : CuI 0 (newCu n) := by
  have h0 : (newCu n).ns 0 = ⟨1, true, [], []⟩ := rfl
  have hj : ∀ j, j ≠ 0 → (newCu n).ns j = newNd := fun j hj => upd3_ne (fun _ => newNd) (leadNd newNd 1) hj
  have hall : ∀ i, NdI 0 ((newCu n).ns i) := fun i => by
    by_cases hi : i = 0
    · subst hi
      exact NdI.new.lead (e := 1) (by decide) (by decide)
    · rw [hj i hi]; exact NdI.new
  refine ⟨h1, h6, hall, ⟨Int.le_refl _, by show (0 : Int) < n; omega⟩, Int.le_refl _, Int.le_refl _, rfl, rfl, fun i _ => ?_, fun i _ _ => ?_, fun i j _ _ hij hi hj' => ?_, Int.le_refl _, Int.le_refl _⟩
  · by_cases hi : i = 0
    · subst hi; exact Int.le_refl _
    · rw [hj i hi]; exact Int.le_refl _
  · by_cases hi : i = 0
    · subst hi; rfl
    · rw [hj i hi]; rfl
  · by_cases h : i = 0
    · subst h
      rw [hj j (fun e => hij e.symm)] at hj'
      cases hj'
    · rw [hj i h] at hi
      cases hi
section
variable {k : Nat} {c : Cu}
theorem CuI.more {k' : Nat} (h : CuI k c) (hk : k ≤ k') : CuI k' c := { h with nd := fun i => (h.nd i).more hk, ek := by have := h.ek; omega }
/-- how long a node's log is -/
theorem CuI.pre_le (h : CuI k c) {i : Nat} (hi : i < c.n) (he : (c.ns i).ep = c.pm.e) : (c.ns i).lg.length ≤ c.first.lg.length := by
  have := congrArg List.length (h.pre i hi he)
  rw [List.length_take] at this
  omega
/-- a node that isn't the first is another one -/
theorem CuI.other (h : CuI k c) {n : Int} (hn : c.Is n) (hp : n ≠ c.pm.p) {x : Nd} (hx : NdI (k + 1) x) (he : x.ep ≤ c.pm.e) (hpre : x.ep = c.pm.e → x.lg = c.first.lg.take x.lg.length) (ho : x.ld = true → (c.at n).ld = true ∧ x.ep = (c.at n).ep) : CuI (k + 1) (c.put n x) := by
  obtain ⟨hn1, hn2⟩ := hn.lt
  obtain ⟨hp1, hp2⟩ := h.is.lt
  have hne : c.pm.p.toNat ≠ n.toNat := fun e => hp (by omega)
  have hf : (c.put n x).first = c.first := upd3_ne c.ns x hne
  have hat : (c.put n x).ns n.toNat = x := upd3_at _ _ _
  have hot : ∀ j, j ≠ n.toNat → (c.put n x).ns j = c.ns j := fun j hj => upd3_ne c.ns x hj
  refine ⟨h.n1, h.n6, fun i => ?_, h.is, h.e1, by have := h.ek; show c.pm.e ≤ _; omega, by rw [hf]; exact h.fe, by rw [hf]; exact h.fl, fun i hi => ?_, fun i hi => ?_, fun i j hi hj hij => ?_, h.c0, by rw [hf]; exact h.cl⟩
  · by_cases hi : i = n.toNat
    · subst hi; rw [hat]; exact hx
    · rw [hot i hi]; exact (h.nd i).more (Nat.le_succ k)
  · by_cases hi' : i = n.toNat
    · subst hi'; rw [hat]; exact he
    · rw [hot i hi']; exact h.ep i hi
  · rw [hf]
    by_cases hi' : i = n.toNat
    · subst hi'; rw [hat]; exact hpre
    · rw [hot i hi']; exact h.pre i hi
  · by_cases hi' : i = n.toNat
    · subst hi'
      rw [hat, hot j (fun e => hij e.symm)]
      intro a b
      obtain ⟨a1, a2⟩ := ho a
      rw [a2]
      exact h.one _ j hi hj hij a1 b
    · rw [hot i hi']
      by_cases hj' : j = n.toNat
      · subst hj'
        rw [hat]
        intro a b
        obtain ⟨b1, b2⟩ := ho b
        rw [b2]
        exact h.one i _ hi hj hij a b1
      · rw [hot j hj']
        exact h.one i j hi hj hij
/-- the first one grows -/
theorem CuI.grown (h : CuI k c) {x : Nd} (hx : NdI (k + 1) x) (he : x.ep = c.first.ep) (hl : x.ld = c.first.ld) (es : List Lg) (hg : x.lg = c.first.lg ++ es) : CuI (k + 1) (c.put c.pm.p x) := by
  obtain ⟨hp1, hp2⟩ := h.is.lt
  have hf : (c.put c.pm.p x).first = x := upd3_at _ _ _
  have hat : (c.put c.pm.p x).ns c.pm.p.toNat = x := upd3_at _ _ _
  have hot : ∀ j, j ≠ c.pm.p.toNat → (c.put c.pm.p x).ns j = c.ns j := fun j hj => upd3_ne c.ns x hj
  have hep : x.ep = (c.ns c.pm.p.toNat).ep := he
  have hld : x.ld = (c.ns c.pm.p.toNat).ld := hl
  refine ⟨h.n1, h.n6, fun i => ?_, h.is, h.e1, by have := h.ek; show c.pm.e ≤ _; omega, by rw [hf, he]; exact h.fe, by rw [hf, hl]; exact h.fl, fun i hi => ?_, fun i hi => ?_, fun i j hi hj hij => ?_, h.c0, ?_⟩
  · by_cases hi : i = c.pm.p.toNat
    · subst hi; rw [hat]; exact hx
    · rw [hot i hi]; exact (h.nd i).more (Nat.le_succ k)
  · by_cases hi' : i = c.pm.p.toNat
    · subst hi'; rw [hat, he]; exact Int.le_of_eq h.fe
    · rw [hot i hi']; exact h.ep i hi
  · rw [hf]
    by_cases hi' : i = c.pm.p.toNat
    · subst hi'; rw [hat]; intro _; rw [List.take_length]
    · rw [hot i hi']
      intro a
      have h1 := h.pre_le hi a
      have h2 := h.pre i hi a
      rw [hg, List.take_append_of_le_length h1]
      exact h2
  · by_cases hi' : i = c.pm.p.toNat
    · subst hi'
      rw [hat, hot j (fun e => hij e.symm), hep, hld]
      exact h.one _ j hi hj hij
    · rw [hot i hi']
      by_cases hj' : j = c.pm.p.toNat
      · subst hj'
        rw [hat, hep, hld]
        exact h.one i _ hi hj hij
      · rw [hot j hj']
        exact h.one i j hi hj hij
  · have := h.cl
    rw [hf, hg, List.length_append]
    show c.pm.c ≤ _
    omega
theorem CuI.run (h : CuI k c) {n cn e : Int} {rd : Bool} {s : ByteArray} (hs : Sm s) (hc : I64n cn) : CuI (k + 1) (runCu c n cn e rd s).2 := by
  unfold runCu
  by_cases hn : c.Is n
  · rw [if_neg (Decidable.not_not.2 hn)]
    have hf := run_fenced (c.at n) cn e rd s
    have hx : NdI (k + 1) (runNd (c.at n) cn e rd s).2 := (h.nd _).run hs hc.1 hc.2
    obtain ⟨es, hes, _⟩ := hf.grew.lg
    by_cases hp : n = c.pm.p
    · subst hp
      exact h.grown hx hf.grew.ep hf.grew.ld es hes
    · refine h.other hn hp hx (by rw [hf.grew.ep]; exact h.ep _ hn.lt.1) (fun he => ?_) fun hl => ⟨by rw [← hf.grew.ld]; exact hl, hf.grew.ep⟩
      by_cases hsame : (runNd (c.at n) cn e rd s).2.lg = (c.at n).lg
      · rw [hsame]
        exact h.pre _ hn.lt.1 (by rw [← he]; exact hf.grew.ep.symm)
      · obtain ⟨_, _, hl, _⟩ := hf.who hsame
        refine absurd ?_ (h.one _ _ hn.lt.1 h.is.lt.1 (hn.ne h.is hp) hl h.fl)
        rw [show (c.ns n.toNat).ep = c.pm.e from by rw [← he]; exact hf.grew.ep.symm]
        exact h.fe.symm
  · rw [if_pos hn]
    exact h.more (Nat.le_succ k)
theorem CuI.close (h : CuI k c) (n cn : Int) : CuI (k + 1) (clsCu c n cn).2 := by
  unfold clsCu
  by_cases hn : c.Is n
  · rw [if_neg (Decidable.not_not.2 hn)]
    have hx : NdI (k + 1) (closeNd (c.at n) cn) := ((h.nd _).close cn).more (Nat.le_succ k)
    by_cases hp : n = c.pm.p
    · subst hp
      exact h.grown hx rfl rfl [] (List.append_nil _).symm
    · exact h.other hn hp hx (h.ep _ hn.lt.1) (fun he => h.pre _ hn.lt.1 he) fun hl => ⟨hl, rfl⟩
  · rw [if_pos hn]
    exact h.more (Nat.le_succ k)
theorem take_take_len {l : List Lg} (m : Nat) : l.take m = l.take (l.take m).length := by
  rw [List.length_take]
  rcases Nat.le_total m l.length with h | h
  · rw [Nat.min_eq_left h]
  · rw [Nat.min_eq_right h, List.take_length, List.take_of_length_le h]
/-- what a node is that copied -/
theorem copy_does (n f : Nd) (m : Int) : (copyNd n f m = (0, n) ∧ (f.ep < n.ep ∨ (f.ep = n.ep ∧ n.ld = true))) ∨ (n.ep ≤ f.ep ∧ (copyNd n f m).2.ep = f.ep ∧ (copyNd n f m).2.ld = false ∧ (copyNd n f m).2.lg = f.lg.take (sameLg n.lg f.lg + manyNd n f m) ∧ (copyNd n f m).1 = manyNd n f m) := by
  unfold copyNd
  by_cases h : f.ep < n.ep ∨ (f.ep = n.ep ∧ n.ld = true)
  · rw [if_pos h]
    exact .inl ⟨rfl, h⟩
  · rw [if_neg h]
    refine .inr ⟨by omega, ?_, ?_, rfl, rfl⟩
    · unfold turnNd
      by_cases h2 : n.ep < f.ep
      · rw [if_pos h2]
      · rw [if_neg h2]; show n.ep = f.ep; omega
    · unfold turnNd
      by_cases h2 : n.ep < f.ep
      · rw [if_pos h2]
      · rw [if_neg h2]
        cases hl : n.ld with
        | false => rfl
        | true => exact absurd (.inr ⟨by omega, hl⟩) h
theorem CuI.copy (h : CuI k c) (n m : Int) : CuI (k + 1) (cpyCu c n m).2 := by
  unfold cpyCu
  by_cases hn : ¬ c.Is n ∨ n = c.pm.p
  · rw [if_pos hn]
    exact h.more (Nat.le_succ k)
  · rw [if_neg hn]
    have hi : c.Is n := Decidable.not_not.1 fun e => hn (.inl e)
    have hp : n ≠ c.pm.p := fun e => hn (.inr e)
    have hx : NdI (k + 1) (copyNd (c.at n) c.first m).2 := ((h.nd _).copy (h.nd _) m).more (Nat.le_succ k)
    rcases copy_does (c.at n) c.first m with ⟨e, _⟩ | ⟨h1, h2, h3, h4, _⟩
    · rw [e] at hx ⊢
      exact h.other hi hp hx (h.ep _ hi.lt.1) (fun he => h.pre _ hi.lt.1 he) fun hl => ⟨hl, rfl⟩
    · refine h.other hi hp hx (by rw [h2]; exact Int.le_of_eq h.fe) (fun _ => ?_) fun hl => by rw [h3] at hl; cases hl
      rw [h4]
      exact take_take_len _
theorem CuI.lead_ (h : CuI k c) {n : Int} (hn : c.Is n) : leadNd (c.at n) (c.pm.e + 1) = ⟨c.pm.e + 1, true, (c.at n).lg, []⟩ := by
  unfold leadNd
  have := h.ep _ hn.lt.1
  rw [if_neg (by show ¬ c.pm.e + 1 < (c.ns n.toNat).ep; omega)]
theorem CuI.promote (h : CuI k c) (hk : k ≤ 100000) (n : Int) : CuI (k + 1) (proCu c n).2 := by
  unfold proCu
  by_cases hn : c.Is n
  · rw [if_neg (Decidable.not_not.2 hn)]
    by_cases hp : n = c.pm.p
    · rw [if_pos hp]
      exact h.more (Nat.le_succ k)
    · rw [if_neg hp, h.lead_ hn]
      have hek := h.ek
      have he1 := h.e1
      obtain ⟨x, hx⟩ : ∃ x, (⟨c.pm.e + 1, true, (c.at n).lg, []⟩ : Nd) = x := ⟨_, rfl⟩
      have hxe : x.ep = c.pm.e + 1 := by rw [← hx]
      have hxd : x.ld = true := by rw [← hx]
      have hxl : x.lg = (c.at n).lg := by rw [← hx]
      have hxi : NdI (k + 1) x := by
        have := ((h.nd n.toNat).lead (e := c.pm.e + 1) (by omega) (by omega)).more (Nat.le_succ k)
        rw [show leadNd (c.ns n.toNat) (c.pm.e + 1) = x from (h.lead_ hn).trans hx] at this
        exact this
      rw [hx]
      dsimp only
      have hat : upd3 c.ns n.toNat x n.toNat = x := upd3_at _ _ _
      have hot : ∀ j, j ≠ n.toNat → upd3 c.ns n.toNat x j = c.ns j := fun j hj => upd3_ne c.ns x hj
      have hs := sameLg_le (c.at n).lg c.first.lg
      refine ⟨h.n1, h.n6, fun i => ?_, hn, by show (1 : Int) ≤ c.pm.e + 1; omega, by show c.pm.e + 1 ≤ _; omega, by show (upd3 c.ns n.toNat x n.toNat).ep = c.pm.e + 1; rw [hat]; exact hxe, by show (upd3 c.ns n.toNat x n.toNat).ld = true; rw [hat]; exact hxd, fun i hi => ?_, fun i hi => ?_, fun i j hi hj hij => ?_, ?_, ?_⟩
      · by_cases hi : i = n.toNat
        · subst hi; show NdI _ (upd3 _ _ _ _); rw [hat]; exact hxi
        · show NdI _ (upd3 _ _ _ _); rw [hot i hi]; exact (h.nd i).more (Nat.le_succ k)
      · show (upd3 c.ns n.toNat x i).ep ≤ c.pm.e + 1
        by_cases hi' : i = n.toNat
        · subst hi'; rw [hat]; omega
        · rw [hot i hi']; have := h.ep i hi; omega
      · show (upd3 c.ns n.toNat x i).ep = c.pm.e + 1 → (upd3 c.ns n.toNat x i).lg = (upd3 c.ns n.toNat x n.toNat).lg.take (upd3 c.ns n.toNat x i).lg.length
        by_cases hi' : i = n.toNat
        · subst hi'; intro _; rw [List.take_length]
        · rw [hot i hi']; intro e; have := h.ep i hi; omega
      · show (upd3 c.ns n.toNat x i).ld = true → (upd3 c.ns n.toNat x j).ld = true → (upd3 c.ns n.toNat x i).ep ≠ (upd3 c.ns n.toNat x j).ep
        by_cases hi' : i = n.toNat
        · subst hi'
          rw [hat, hot j (fun e => hij e.symm)]
          intro _ _ e
          have := h.ep j hj
          omega
        · rw [hot i hi']
          by_cases hj' : j = n.toNat
          · subst hj'
            rw [hat]
            intro _ _ e
            have := h.ep i hi
            omega
          · rw [hot j hj']
            exact h.one i j hi hj hij
      · show (0 : Int) ≤ (sameLg (c.at n).lg c.first.lg : Nat)
        omega
      · show ((sameLg (c.at n).lg c.first.lg : Nat) : Int) ≤ ((upd3 c.ns n.toNat x n.toNat).lg.length : Nat)
        rw [hat, hxl]
        omega
  · rw [if_pos hn]
    exact h.more (Nat.le_succ k)
theorem CuI.act (h : CuI k c) (hk : k ≤ 100000) {x : Ac7} (hx : x.Fine) (ht : Sm x.t) : CuI (k + 1) (actCu c x).2 := by
  unfold actCu
  split
  · exact h.run ht hx.c
  split
  · exact h.close _ _
  split
  · exact h.promote hk _
  · exact h.copy _ _
end
end

/- The document's layer 15: entries that are compared; Same, Alike: contracts. -/
section
open Go.RowKit
set_option maxRecDepth 100000

theorem neq_ents (T : TypeId) (hT : T = 100) (k k' : Int) (t t' : ByteArray) (w : World) : (binOp .neq T (.agg #[.int .u64 k, .string t]) (.agg #[.int .u64 k', .string t'])).run Tryz.prog w = .ok (.bool (!decide ((⟨k, t⟩ : Lg) = ⟨k', t'⟩))) w := by
  subst hT
  have hf : (Tryz.prog.fieldsOf 100) = (match Tryz.prog.underlying 100 with | some (.struct fs) => fs | _ => #[]) := rfl
  have hu := Tryz.underlying100
  rw [hu] at hf
  rw [run_neq_struct, run_equalIn_agg (P := Tryz.prog) w 9999 _ _ _ (by rw [hf]; exact hu) (by kernel_rfl), hf]
  have h9 := Tryz.underlying9
  have hz9 := Tryz.sizeOf9
  have ha9 := Tryz.isAgg9
  have h8 := Tryz.underlying32
  have hz8 := Tryz.sizeOf32
  have ha8 := Tryz.isAgg32
  have p1 : ∀ (x : Int) (u : ByteArray) (w : World), (part 32 #[.int .u64 x, .string u] 0).run Tryz.prog w = .ok (.int .u64 x) w := fun x u w => by simp [part, hz8, ha8]
  have p2 : ∀ (x : Int) (u : ByteArray) (w : World), (part 9 #[.int .u64 x, .string u] 1).run Tryz.prog w = .ok (.string u) w := fun x u w => by simp [part, hz9, ha9]
  have e1 : ∀ (x y : Int) (w : World), (Op.equalIn 9999 32 (.int .u64 x) (.int .u64 y)).run Tryz.prog w = .ok (x == y) w := fun x y w => run_equalIn_int w 9998 32 .u64 .u64 x y h8
  have e2 : ∀ (x y : ByteArray) (w : World), (Op.equalIn 9999 9 (.string x) (.string y)).run Tryz.prog w = .ok (x.toList == y.toList) w := fun x y w => run_equalIn_string w 9998 9 x y h9
  have ht : t.toList = t'.toList ↔ t = t' := ⟨bytes_ext, fun h => by rw [h]⟩
  by_cases h1 : k = k'
  · by_cases h2 : t = t'
    · simp [Op.eqFields, p1, p2, e1, e2, h1, h2]
    · simp [Op.eqFields, p1, p2, e1, e2, ht, h1, h2]
  · simp [Op.eqFields, p1, p2, e1, e2, h1]

set_option maxHeartbeats 2000000 in
theorem rsame15_ok (A A' : Option Addr) (n n' c c' : Nat) (xs ys : List Lg) (w : World) (hx : LR w A n xs) (hy : LR w A' n' ys) (hn : n ≤ 1000000) (hn' : n' ≤ 1000000) (b : Bool) (hb : Hid (decide (xs = ys) = b)) :
    Calls Tryz.prog 19 #[.slice A n c, .slice A' n' c'] w fun e w' => e = .returned (.bool b) ∧ ∃ m, w' = w.drewN m := by
  by_cases hll : n = n'
  · subst hll
    have hlx := Lib.hid hx.len
    have hly := Lib.hid hy.len
    go_enter Tryz.func19, Tryz.ntmps19
    go_wp2
    go_loopw [5] (fun i wr => ∃ k m : Nat, k ≤ n ∧ i = .int .i64 k ∧ Hid (xs.take k = ys.take k) ∧ wr = w.drewN m) (fun i _ => n - (intOf i).toNat)
    case atStart => exact ⟨0, 0, Nat.zero_le _, rfl, Lib.hid (by simp), rfl⟩
    case round =>
      obtain ⟨k, m, hk, rfl, he, hw⟩ := hrel
      have hx' : LR wr A n xs := by subst hw; exact hx.next (kp_drewN _ _)
      have hy' : LR wr A' n ys := by subst hw; exact hy.next (kp_drewN _ _)
      have HW := Lib.hid hw
      clear hw hx hy
      by_cases hlt : k < n
      · have hkx : k < xs.length := by rw [hlx.out]; omega
        have hky : k < ys.length := by rw [hly.out]; omega
        obtain ⟨ad, rfl, _, hc⟩ := hx'.at_ hkx
        obtain ⟨ad', rfl, _, hc'⟩ := hy'.at_ hky
        obtain ⟨c0, c1⟩ := hc _ (Below.refl _ _)
        obtain ⟨d0, d1⟩ := hc' _ (Below.refl _ _)
        clear hc hc' hx' hy'
        have hE := fun u => neq_ents 100 rfl xs[k].e ys[k].e xs[k].t ys[k].t u
        by_cases hee : xs[k] = ys[k]
        · have hsn : Hid (xs.take (k + 1) = ys.take (k + 1)) := Lib.hid (take_same6 hkx hky he.out hee)
          have hd : (!decide ((⟨xs[k].e, xs[k].t⟩ : Lg) = ⟨ys[k].e, ys[k].t⟩)) = false := by
            rw [decide_eq_true (by exact hee)]; rfl
          rw [hd] at hE
          clear hee hd
          generalize xs[k].e = x at *
          generalize ys[k].e = y at *
          generalize xs[k].t = s at *
          generalize ys[k].t = t at *
          go_wp2
          go_quiet (fail)
          go_wp2
          go_roundw
          case rel => exact ⟨k + 1, m + nq, by omega, by go_num, hsn, by rw [HW.out, World.drewN_drewN]⟩
          case measure => simp [intOf]; omega
        · have hf : b = false := by
            rw [← hb.out]
            simp only [decide_eq_false_iff_not]
            rintro rfl
            exact hee rfl
          subst hf
          have hd : (!decide ((⟨xs[k].e, xs[k].t⟩ : Lg) = ⟨ys[k].e, ys[k].t⟩)) = true := by
            rw [decide_eq_false (by exact hee)]; rfl
          rw [hd] at hE
          clear hee hd
          generalize xs[k].e = x at *
          generalize ys[k].e = y at *
          generalize xs[k].t = s at *
          generalize ys[k].t = t at *
          go_wp2
          go_quiet (fail)
          go_wp2
          go_ret
          exact ⟨rfl, m + nq, by rw [HW.out, World.drewN_drewN]⟩
      · have hf : b = true := by
          rw [← hb.out]
          have h1 := he.out
          rw [List.take_of_length_le (by rw [hlx.out]; omega), List.take_of_length_le (by rw [hly.out]; omega)] at h1
          simp [h1]
        subst hf
        go_wp2
        go_ret
        exact ⟨rfl, m, HW.out⟩
  · have hf : b = false := by
      rw [← hb.out]
      simp only [decide_eq_false_iff_not]
      rintro rfl
      have := hx.len
      have := hy.len
      omega
    subst hf
    have ht : ((n : Int) != (n' : Int)) = true := by rw [bne_iff_ne]; omega
    go_enter Tryz.func19, Tryz.ntmps19
    go_wp2
    go_ret
    exact ⟨rfl, 0, rfl⟩
end

/- The document's layer 15: Copy: contracts (of two nodes; of one from itself). -/
section
open Go.RowKit
set_option maxRecDepth 100000

section
variable {b f : Nat} {n fn : Nd} {S T : Nat → Prop} {w : World}
end
end

/- Layer 15: the law's own: contract. -/
section
open Go.RowKit
set_option maxRecDepth 100000

/-- three pointers that are read -/
structure P3 (w : World) (A : Option Addr) (bs : Nat → Nat) : Prop where
  rd : Rd w w.heap.size A [.pointer (some ⟨bs 0, 0, none⟩), .pointer (some ⟨bs 1, 0, none⟩), .pointer (some ⟨bs 2, 0, none⟩)]
section
variable {a b : Nat} {W u : World} {G F : World → Prop} {L : Nat → Bool}
end
theorem Turn.ahead {Y : Thing} {S : Nat → Prop} {w u w' : World} (ht : Turn Y S u w') (hb : Below w.heap.size w u) : Turn Y S w w' := by
  obtain ⟨⟨S', h1, h2⟩, h3⟩ := ht
  exact ⟨⟨S', h1, fun k hk => (h2 k hk).imp id fun e => Nat.le_trans hb.size e⟩, (Off.of S hb).trans h3 fun i hi => .inl hi⟩
section
variable {bs : Nat → Nat} {ns : Nat → Nd} {S : Nat → Prop} {w : World} {k : Nat}
end
end

/- Three things, one of which is asked for a row; a row that is told, and what is done behind it (no function of the program is named here). -/
section
open Go.RowKit
set_option maxRecDepth 100000

section
variable {α : Type} {P : Program} {w0 w w' : World} {X X' : Thing} {Y : Nat → α → Thing} {bs : Nat → Nat} {ns : Nat → α} {N S : Nat → Prop}
theorem upd3_self (ns : Nat → α) (i : Nat) : upd3 ns i (ns i) = ns := funext fun j => by
  unfold upd3
  split
  · rename_i h; rw [h]
  · rfl
end
theorem Turn.none {Y : Thing} {S : Nat → Prop} {w w' : World} (h : Turn Y S w w') : Told1 Y S none w w' := by
  obtain ⟨⟨S', h1, h2⟩, h3⟩ := h
  exact ⟨⟨S', h1, h2, fun ad h => by cases h⟩, h3⟩
theorem Told1.below {Y : Thing} {S : Nat → Prop} {A : Option Addr} {w w' w'' : World} (h : Told1 Y S A w w') (hb : Below w'.heap.size w' w'') : Told1 Y S A w w'' := by
  obtain ⟨⟨S', h1, h2, h4⟩, h3⟩ := h
  exact ⟨⟨S', Thing.next h1 hb, h2, fun ad hA => ⟨(h4 ad hA).1, Nat.lt_of_lt_of_le (h4 ad hA).2.1 hb.size, (h4 ad hA).2.2⟩⟩, h3.trans (Off.of (fun _ => False) hb) fun _ h => h.elim⟩
theorem Told1.behind {Y : Thing} {S : Nat → Prop} {A : Option Addr} {w w3 w5 w6 : World} {xb : Nat} (hxb : w.heap.size = xb) (hz : w3.heap.size = xb + 3) (hb : Below w.heap.size w w3) (hs : ∀ k, S k → k < w.heap.size) (ht : Told1 Y S A w3 w5) (ho : Off (fun k => xb ≤ k ∧ k < xb + 3) w5 w6) : Told1 Y S A w w6 := by
  obtain ⟨⟨S', h1, h2, h4⟩, h3⟩ := ht
  refine ⟨⟨S', Thing.off h1 ho fun k hk e => ?_, fun k hk => ?_, fun ad hA => ⟨by have := (h4 ad hA).1; omega, Nat.lt_of_lt_of_le (h4 ad hA).2.1 ho.size, (h4 ad hA).2.2⟩⟩, ((Off.of S hb).trans h3 fun i hi => .inl hi).trans ho fun i hi => .inr (by omega)⟩
  · rcases h2 k hk with h | h
    · have := hs k h; omega
    · omega
  · rcases h2 k hk with h | h
    · exact .inl h
    · exact .inr (by omega)
end

/- Layer 15: the law's do, over NodeC: contract. -/
section
open Go.RowKit
set_option maxRecDepth 100000

section
variable {X : Nat → Nd → Thing} {bs : Nat → Nat} {ns : Nat → Nd} {S : Nat → Prop} {w : World} {k : Nat}
end
end

/- Layer 15: three new nodes: contracts (the law's nodes; three of the document's). -/
section
open Go.RowKit
set_option maxRecDepth 100000

section
variable {X : Nat → Nd → Thing} {w : World}
end
end

/- Layer 15: the texts that the law's own calls say, plain. -/
section
open Go.RowKit
set_option maxRecDepth 100000
end

/- Layer 15: the law's own calls: they answer so. -/
section
open Go.RowKit
set_option maxRecDepth 100000

section
variable {P : Program} {w0 w w' : World} {X X' Y : Thing} {N K : Nat → Prop}
/-- a call on the first that tells a row: its block is marked -/
theorem Duo.told {f : FuncId} {args : Array Value} {Q : Ending → World → Option Addr → Nat → Nat → Prop} (h : Duo w0 X Y N w) (hop : ∀ S, X.p S w → Calls P f args w fun e w' => ∃ A m d, Q e w' A m d ∧ Told1 X' S A w w') :
    Calls P f args w fun e w' => ∃ A m d, Q e w' A m d ∧ Duo w0 X' Y (fun k => (∃ ad, A = some ad ∧ k = ad.block) ∨ N k) w' ∧ ∀ k, N k → w'.heap[k]? = w.heap[k]? := by
  obtain ⟨⟨S, T, h1, h2, h3, h4⟩, h5, h6⟩ := h
  refine (hop S h1).mono fun e w' ⟨A, m, d, hq, ⟨S', g1, g2, g4⟩, g3⟩ => ⟨A, m, d, hq, ⟨⟨S', T, g1, Thing.off h2 g3 (fun k hk hk2 => h3 k hk2 hk), fun k hk hk2 => ?_, fun k hk => ?_⟩, h5.trans (g3.below (fun k hk => (h4 k (.inl hk)).1) h5.size), fun k hk => ?_⟩, fun k hk => g3.block k (h6 k hk) fun e => (h4 k (.inl e)).2 hk⟩
  · rcases g2 k hk with e | e
    · exact h3 k e hk2
    · have := Y.lt h2 k hk2; omega
  · have hz := h5.size
    rcases hk with hk | hk
    · refine ⟨?_, fun hN => ?_⟩
      · rcases g2 k hk with e | e
        · exact (h4 k (.inl e)).1
        · omega
      · rcases hN with ⟨ad, hA, rfl⟩ | hN
        · exact (g4 ad hA).2.2 hk
        · rcases g2 k hk with e | e
          · exact (h4 k (.inl e)).2 hN
          · have := h6 k hN; omega
    · refine ⟨(h4 k (.inr hk)).1, fun hN => ?_⟩
      rcases hN with ⟨ad, hA, rfl⟩ | hN
      · have := (g4 ad hA).1; have := Y.lt h2 _ hk; omega
      · exact (h4 k (.inr hk)).2 hN
  · rcases hk with ⟨ad, hA, rfl⟩ | hk
    · exact (g4 ad hA).2.1
    · exact Nat.lt_of_lt_of_le (h6 k hk) g3.size
end
/-- blocks that lie so -/
def At15 (l : List (Nat × Obj)) (N : Nat → Prop) (u : World) : Prop := ∀ p ∈ l, N p.1 ∧ u.heap[p.1]? = some p.2
theorem At15.kept {l : List (Nat × Obj)} {N : Nat → Prop} {u u' : World} (h : At15 l N u) (hk : ∀ k, N k → u'.heap[k]? = u.heap[k]?) : At15 l N u' := fun p hp => ⟨(h p hp).1, (hk _ (h p hp).1).trans (h p hp).2⟩
theorem At15.wide {l : List (Nat × Obj)} {N N' : Nat → Prop} {u : World} (h : At15 l N u) (hk : ∀ k, N k → N' k) : At15 l N' u := fun p hp => ⟨hk _ (h p hp).1, (h p hp).2⟩
/-- behind a call that tells a row -/
theorem Duo.told15 {P : Program} {w0 u : World} {X X' Y : Thing} {N : Nat → Prop} {l : List (Nat × Obj)} {f : FuncId} {args : Array Value} {Q : Ending → World → Option Addr → Nat → Nat → Prop} (h : Duo w0 X Y N u) (hl : At15 l N u) (hop : ∀ S, X.p S u → Calls P f args u fun e w' => ∃ A m d, Q e w' A m d ∧ Told1 X' S A u w') :
    Calls P f args u fun e u' => ∃ A m d N', Q e u' A m d ∧ Duo w0 X' Y N' u' ∧ At15 l N' u' ∧ (∀ ad, A = some ad → N' ad.block) ∧ (∀ k, N k → N' k ∧ u'.heap[k]? = u.heap[k]?) ∧ u.heap.size ≤ u'.heap.size :=
  (h.told (Q := fun e w' A m d => Q e w' A m d ∧ u.heap.size ≤ w'.heap.size) fun S hS => (hop S hS).mono fun _ _ ⟨A, m, d, hq, ht⟩ => ⟨A, m, d, ⟨hq, ht.off.size⟩, ht⟩).mono fun _ _ ⟨A, m, d, ⟨hq, hz⟩, hd, hk⟩ => ⟨A, m, d, _, hq, hd, (hl.kept hk).wide fun _ h => .inr h, fun ad h => .inl ⟨ad, h, rfl⟩, fun k h => ⟨.inr h, hk k h⟩, hz⟩
section
variable {X : Nat → Nd → Thing} {w : World}
end
end
end Go.Proofs.YtdhnpmagapbmhaaGreatDoor
