/-
  Contracts and plain functions that the law stands on, part 3 of 6.
-/
import Derived.Test.YtkbaljdpnopbmaaGreatQE2
import Derived.Laws.StructEq
namespace Go.Proofs.YtkbaljdpnopbmaaGreat
/- What is done with some of a pool's connections (each): contract. -/
section
open Go.RowKit
set_option maxRecDepth 100000
attribute [local go_sem] Oper.semAt_some wide_depth wide_fn

theorem map_step {α : Type} (F : α → α) : ∀ (l : List α) (k : Nat) (hk : k < l.length), (l.take (k + 1)).map F ++ l.drop (k + 1) = ((l.take k).map F ++ l.drop k).set k (F l[k])
  | [], _, h => by simp at h
  | x :: r, 0, _ => by simp
  | x :: r, k + 1, h => by
    have := map_step F r k (by simpa using h)
    simpa using this
theorem map_mid {α : Type} (F : α → α) (l : List α) (k : Nat) (hk : k < l.length) : ((l.take k).map F ++ l.drop k)[k]'(by simp; omega) = l[k] := by
  rw [List.getElem_append_right (by simp; omega)]
  simp
  congr 1
  omega
theorem map_step_same {α : Type} (F : α → α) (l : List α) (k : Nat) (hk : k < l.length) (he : F l[k] = l[k]) : (l.take (k + 1)).map F ++ l.drop (k + 1) = (l.take k).map F ++ l.drop k := by
  rw [map_step F l k hk, he]
  have hl : k < ((l.take k).map F ++ l.drop k).length := by simp; omega
  have := map_mid F l k hk
  rw [← this]
  exact List.set_getElem_self hl
section
variable {b : Nat} {mo idl m : Int} {p : Pl} {rs : List Lr} {A : Option Addr} {n c rb : Nat} {SR S T : Nat → Prop} {w w' : World}
/-- one turned -/
theorem PPm.turn (h : PPm b mo idl m p rs A n c rb SR S w) {j : Nat} (hj : j < rs.length) {h' : Hd} (hl : LK w' (rs[j].set h')) (hT : ∀ k, T k → ¬ S k) (ho : Off (fun k => lkS rs[j] k ∨ T k) w w') :
    PPm b mo idl m { p with l := p.l.set j h' } (rs.set j (rs[j].set h')) A n c rb SR S w' := by
  have hm : ∀ k, lkS rs[j] k → llS A n c rs k := fun k hk => .inr ⟨_, List.getElem_mem hj, hk⟩
  refine ⟨(ho.block b (h.lt b h.sb) fun e => e.elim (fun e => h.al (hm b e)) fun e => hT b e h.sb).trans h.top, ?_, h.hl.turn hj hl (fun k hk hn => ho.block k (h.hl.lt k hk) fun e => e.elim hn fun e => hT k e (h.sl k hk)) ho.size, ?_, h.sb, h.sr, fun k hk => h.sl k ((llS_set hj h' k).1 hk), fun k hk => Nat.lt_of_lt_of_le (h.lt k hk) ho.size, fun k hk => ⟨(h.ar k hk).1, fun e => (h.ar k hk).2 ((llS_set hj h' k).1 e)⟩, fun e => h.al ((llS_set hj h' b).1 e), ?_⟩
  · rw [List.map_set, h.l]
    rfl
  · exact Thing.off h.row ho fun k hk e => e.elim (fun e => (h.ar k hk).2 (hm k e)) fun e => hT k e (h.sr k hk)
  · have := h.few
    simpa using this
/-- a row of fewer, laid where the row lay -/
theorem PPm.less (h : PPm b mo idl m p rs A n c rb SR S w) {k : Nat} {us : List Lr} (hu : us.Sublist rs) (hl : LL w' A k c us) (ho : Off (fun j => (Value.slice A n c).ownBlock = some j) w w') :
    PPm b mo idl m { p with l := us.map Lr.h } us A k c rb SR S (w'.setCell ⟨b, 0, none⟩ (.slice A k c)) := by
  have hob : (Value.slice A n c).ownBlock = (Value.slice A k c).ownBlock := by cases A <;> rfl
  have hs : ∀ j, llS A k c us j → llS A n c rs j := by
    rintro j (hj | ⟨r, hr, hj⟩)
    · exact .inl (hob.trans hj)
    · exact .inr ⟨r, hu.subset hr, hj⟩
  have hb : w'.heap[b]? = w.heap[b]? := ho.block b (h.lt b h.sb) fun e => h.al (.inl e)
  have hz : (w'.setCell ⟨b, 0, none⟩ (.slice A k c)).heap.size = w'.heap.size := by simp [World.setCell]
  have hk : ∀ j, j ≠ b → (w'.setCell ⟨b, 0, none⟩ (.slice A k c)).heap[j]? = w'.heap[j]? := fun j hj => Below.heap_setCell _ _ _ _ fun e => hj (by first | exact e.symm | exact e)
  refine ⟨cset (hb.trans h.top) 0 _ rfl, rfl, hl.keep (fun j hj => hk j fun e => h.al (e ▸ hs j hj)) (by rw [hz]; exact Nat.le_refl _), ?_, h.sb, h.sr, fun j hj => h.sl j (hs j hj), fun j hj => ?_, fun j hj => ⟨(h.ar j hj).1, fun e => (h.ar j hj).2 (hs j e)⟩, fun e => h.al (hs b e), ?_⟩
  · have h1 : (PW rb m p.row).p SR w' := Thing.off h.row ho fun j hj e => (h.ar j hj).2 (.inl e)
    exact (PW rb m p.row).keep h1 (fun j hj => hk j (h.ar j hj).1) (by rw [hz]; exact Nat.le_refl _)
  · rw [hz]
    exact Nat.lt_of_lt_of_le (h.lt j hj) ho.size
  · have h1 := h.few
    have h2 := hu.length_le
    have h3 : rs.length = p.l.length := by rw [← h.l, List.length_map]
    simp only [List.length_map]
    omega
/-- within the loop: so many are over -/
def EachI (b : Nat) (mo idl m : Int) (p : Pl) (rs : List Lr) (A : Option Addr) (n c rb : Nat) (SR S : Nat → Prop) (f : Hd → Hd) (T : Nat → Prop) (Zf : Nat → World → Prop) (w : World) (k : Nat) (W : World) : Prop :=
  PPm b mo idl m { p with l := (p.l.take k).map f ++ p.l.drop k } ((rs.take k).map (fun r => r.set (f r.h)) ++ rs.drop k) A n c rb SR S W ∧ Zf k W ∧ Off (fun k => S k ∨ T k) w W
theorem filter_live_map (us : List Lr) : (us.filter fun r => r.h.live).map Lr.h = (us.map Lr.h).filter Hd.live := by
  rw [List.filter_map]
  rfl
theorem foldl_step {σ : Type} (g : σ → Hd → σ) (l : List Hd) (k : Nat) (hk : k < l.length) (s : σ) : (l.take (k + 1)).foldl g s = g ((l.take k).foldl g s) l[k] := by
  rw [List.take_succ_eq_append_getElem hk, List.foldl_append]
  rfl

set_option maxHeartbeats 4000000 in
theorem each_ok (fi fd : Fn) (ci cd : Array Value) (pis : Hd → Bool) (pdo : Hd → Hd) {σ : Type} (upd : Hd → σ → σ) (Z : σ → World → Prop) (s0 : σ)
    (h : (PP b mo idl m p).p S w) (hT : ∀ k, T k → ¬ S k) (hTl : ∀ k, T k → k < w.heap.size) (hz0 : Z s0 w)
    (hZ : ∀ s W W', Z s W → (∀ k, T k → W'.heap[k]? = W.heap[k]?) → Z s W')
    (his : ∀ r s W, LK W r → Z s W → W.heap[b]? = w.heap[b]? → ∃ f args, (invoke (.fn fi ci) #[lkV r]).run Tryz.prog W = .ok (.enter f args) W ∧ Calls Tryz.prog f args W fun e w' => e = .returned (.bool (pis r.h)) ∧ Below W.heap.size W w')
    (hdo : ∀ r s W, LK W r → Z s W → (∀ k, lkS r k → ¬ T k) → pis r.h = true → ∃ f args, (invoke (.fn fd cd) #[lkV r]).run Tryz.prog W = .ok (.enter f args) W ∧ Calls Tryz.prog f args W fun e w' => (∃ v, e = .returned v) ∧ LK w' (r.set (pdo r.h)) ∧ Z (upd r.h s) w' ∧ Off (fun k => lkS r k ∨ T k) W w') :
    Calls Tryz.prog 57 #[.pointer (some ⟨b, 0, none⟩), .func fi #[] ci, .func fd #[] cd] w fun e w' => (∃ v, e = .returned v) ∧ Z (p.l.foldl (fun s h => if pis h then upd h s else s) s0) w' ∧
      (PP b mo idl m { p with l := sweepH (p.l.map fun h => if pis h then pdo h else h) }).p S w' ∧ Off (fun k => S k ∨ T k) w w' := by
  obtain ⟨rs, A, n, c, rb, SR, hP⟩ := PP.at_ h
  have hSl := hP.lt
  clear h
  obtain ⟨w2, hw2⟩ : ∃ u, (w.alloc (.cells #[.func fi #[] ci] 96)).alloc (.cells #[.func fd #[] cd] 111) = u := ⟨_, rfl⟩
  have hk2 : Below w.heap.size w w2 := hw2 ▸ kp_alloc (kp_new _ _) _
  have hz2 : w2.heap.size = w.heap.size + 2 := by rw [← hw2]; simp
  have hP2 := hP.keep (fun k hk => hk2.block k (hSl k hk)) hk2.size
  have b0 : w2.heap[w.heap.size]? = some (.cells #[.func fi #[] ci] 96 (0, 0)) := by
    rw [← hw2]
    exact (Below.heap_alloc _ _ _ (by simp)).trans (heap_alloc_new w _)
  have b1 : w2.heap[w.heap.size + 1]? = some (.cells #[.func fd #[] cd] 111 (0, 0)) := by
    rw [← hw2]
    have := heap_alloc_new (w.alloc (.cells #[.func fi #[] ci] 96)) (.cells #[.func fd #[] cd] 111)
    rwa [World.size_alloc] at this
  have hZ2 : Z s0 w2 := hZ s0 w w2 hz0 fun k hk => hk2.block k (hTl k hk)
  obtain ⟨hrl, hpl, hn6⟩ := hP2.len
  have hbb : w2.heap[b]? = w.heap[b]? := hk2.block b (hSl b hP.sb)
  obtain ⟨⟨d0, _⟩, _⟩ := ppcells hP2.top
  have HW := Lib.hid hw2
  have HK2 := Lib.hid hk2
  clear hw2
  refine (callsIn_wide (n := 3)).1 ?_
  refine callsIn_of_wp_marks Tryz.func57 rfl trivial ?_
  simp only [Tryz.ntmps57, List.size_toArray, List.length_cons, List.length_nil, Nat.reduceAdd, Nat.reduceSub, Array.replicate_succ, Array.replicate_zero, List.push_toArray, List.append_toArray, List.nil_append, List.cons_append]
  gi_wp2
  rw [HW.out]
  clear HW hk2
  have hrp : rs.length = p.l.length := by omega
  have hfm : ∀ k, ((p.l.take k).map (fun h => if pis h then pdo h else h) ++ p.l.drop k) = ((rs.take k).map (fun r => r.set (if pis r.h then pdo r.h else r.h)) ++ rs.drop k).map Lr.h := fun k => by
    rw [List.map_append, List.map_map, ← hP.l, ← List.map_take, ← List.map_drop, List.map_map]
    rfl
  have hSlt : ∀ k, S k → k < w2.heap.size := fun k hk => by have := hSl k hk; omega
  have hTlt : ∀ k, T k → k < w2.heap.size := fun k hk => by have := hTl k hk; omega
  refine wpIn_rangeAll (b := b) (n := n) (c := c) (A := A) (rs := rs) rfl hrl hn6 d0
    (EachI b mo idl m p rs A n c rb SR S (fun h => if pis h then pdo h else h) T (fun k W => Z ((p.l.take k).foldl (fun s h => if pis h then upd h s else s) s0) W) w2) (fun _ => False) ?stI (fun _ _ h _ => h) ?hat ?h0
    (fun r => { tmps := #[.pointer (some ⟨b, 0, none⟩), .func fi #[] ci, .func fd #[] cd, undef, .pointer (some ⟨w.heap.size, 0, none⟩), .pointer (some ⟨w.heap.size + 1, 0, none⟩), lkV r, .pointer (some ⟨b, 0, none⟩), .func (.func 37) #[.pointer (some ⟨b, 0, none⟩)] #[], lkV r, undef, undef, undef, undef, undef, undef, undef, undef, undef, undef, undef, undef, undef, undef], defers := [] }) ?assign ?body ?done ?stop
  case stI =>
    rintro k W W' ⟨h1, h2, h3⟩ ho
    have hq : ∀ j, j < w2.heap.size → W'.heap[j]? = W.heap[j]? := fun j hj => ho.block j (by have := h3.size; omega) fun e => by rcases e with e | e <;> omega
    exact ⟨h1.keep (fun j hj => hq j (hSlt j hj)) ho.size, hZ _ _ _ h2 fun j hj => hq j (hTlt j hj), h3.trans ho fun j hj => .inr (by rcases hj with e | e <;> omega)⟩
  case hat =>
    rintro k hk W ⟨h1, _, _⟩
    obtain ⟨g, q1, _, _, q2, _⟩ := h1.hl.at_ (j := k) (by simp; omega)
    rw [map_mid _ _ _ hk] at q2
    exact ⟨g, q1, q2⟩
  case h0 =>
    refine ⟨?_, hZ2, Off.refl _ _⟩
    simpa using hP2
  case assign =>
    intro l r W K hK
    gi_wp2
    exact hK
  case body =>
    rintro l k hk W ⟨h1, h2, h3⟩ hsz
    have hkp : k < p.l.length := by omega
    have hmem : rs[k] ∈ (rs.take k).map (fun r => r.set (if pis r.h then pdo r.h else r.h)) ++ rs.drop k := by
      rw [← map_mid (fun r : Lr => r.set (if pis r.h then pdo r.h else r.h)) rs k hk]
      exact List.getElem_mem _
    have hlk := h1.hl.lk _ hmem
    have hph : rs[k].h = p.l[k] := hP.at_ hk hkp
    have hS0 : ∀ j, lkS rs[k] j → S j := fun j hj => h1.sl j (.inr ⟨_, hmem, hj⟩)
    have hbx0 := (h3.block w.heap.size (by omega) fun e => e.elim (fun e => by have := hSl _ e; omega) fun e => by have := hTl _ e; omega).trans b0
    have hbx1 := (h3.block (w.heap.size + 1) (by omega) fun e => e.elim (fun e => by have := hSl _ e; omega) fun e => by have := hTl _ e; omega).trans b1
    obtain ⟨f1, a1, hi1, hc1⟩ := his rs[k] _ W hlk h2 (h1.top.trans hP.top.symm)
    have HC1 := Lib.hid hc1
    obtain ⟨x0, _⟩ := cellsAt hbx0 0 (v := .func fi #[] ci) rfl
    have HX1 := Lib.hid hbx1
    have H1 := Lib.hid h1
    have H2 := Lib.hid h2
    have H3 := Lib.hid h3
    have HLK := Lib.hid hlk
    clear hc1 hbx0 hbx1 h1 h2 h3 hlk
    have hFn : ∀ f, (Fence.wide.inRound l).fn f := fun _ => trivial
    have hDp : (Fence.wide.inRound l).depth = none := rfl
    have hrl2 : rs[k].set rs[k].h = rs[k] := rfl
    cases hq : pis rs[k].h with
    | false =>
      rw [hq] at HC1
      have HN : Hid (∀ W', Below W.heap.size W W' → EachI b mo idl m p rs A n c rb SR S (fun h => if pis h then pdo h else h) T (fun k W => Z ((p.l.take k).foldl (fun s h => if pis h then upd h s else s) s0) W) w2 (k + 1) W' ∧ ∀ j, bkS w2.heap.size j → W'.heap[j]? = W.heap[j]?) := Lib.hid fun W' hb => by
        refine ⟨⟨?_, ?_, H3.out.trans (Off.of (fun _ => False) hb) fun _ e => e.elim⟩, fun j hj => hb.block j (by rcases hj with e | e <;> omega)⟩
        · rw [map_step_same _ _ k hkp (by show (if pis p.l[k] = true then pdo p.l[k] else p.l[k]) = p.l[k]; rw [← hph, hq]; rfl), map_step_same _ _ k hk (by show rs[k].set (if pis rs[k].h = true then pdo rs[k].h else rs[k].h) = rs[k]; rw [hq]; exact hrl2)]
          exact H1.out.keep (fun j hj => hb.block j (by have := hSlt j hj; omega)) hb.size
        · show Z ((p.l.take (k + 1)).foldl (fun s h => if pis h = true then upd h s else s) s0) W'
          rw [foldl_step _ _ k hkp, ← hph, hq]
          exact hZ _ _ _ H2.out fun j hj => hb.block j (by have := hTlt j hj; omega)
      clear H1 H2 H3 HLK hq
      generalize lkV rs[k] = la at *
      gi_wp2_with (with_reducible refine wpListIn_callv hFn hDp rfl rfl rfl rfl ?_ ?_ hi1 (CallsIn.inRound l (callsIn_wide.2 HC1.out)) (fun e w3 he => ?_); rotate_left 2; obtain ⟨rfl, hb⟩ := he; refine ⟨_, rfl, ?_⟩; have HB := Lib.hid (HN.out w3 hb); clear hb HN)
      exact HB.out
    | true =>
      rw [hq] at HC1
      have hTn : ∀ j, lkS rs[k] j → ¬ T j := fun j hj e => hT j e (hS0 j hj)
      have HDO : Hid (∀ W', Below W.heap.size W W' → W'.cell? ⟨w.heap.size + 1, 0, none⟩ = some (.func fd #[] cd) ∧ ∃ f args, (invoke (.fn fd cd) #[lkV rs[k]]).run Tryz.prog W' = .ok (.enter f args) W' ∧ Calls Tryz.prog f args W' fun e w' => (∃ v, e = .returned v) ∧ EachI b mo idl m p rs A n c rb SR S (fun h => if pis h then pdo h else h) T (fun k W => Z ((p.l.take k).foldl (fun s h => if pis h then upd h s else s) s0) W) w2 (k + 1) w' ∧ ∀ j, bkS w2.heap.size j → w'.heap[j]? = W.heap[j]?) := Lib.hid fun W' hb => by
        have hz' := hb.size
        have hx' := (hb.block (w.heap.size + 1) (by omega)).trans HX1.out
        refine ⟨(cellsAt hx' 0 rfl).1, ?_⟩
        have hZ' := hZ _ _ _ H2.out fun j hj => hb.block j (by have := hTlt j hj; omega)
        obtain ⟨f2, a2, hi2, hc2⟩ := hdo rs[k] _ W' (HLK.out.next hb) hZ' hTn hq
        refine ⟨f2, a2, hi2, hc2.mono ?_⟩
        rintro e w' ⟨hv, hl', hz2', ho'⟩
        have hP' := H1.out.keep (fun j hj => hb.block j (by have := hSlt j hj; omega)) hb.size
        have hjl : k < ((rs.take k).map (fun r => r.set (if pis r.h then pdo r.h else r.h)) ++ rs.drop k).length := by simp; omega
        have hmid := map_mid (fun r : Lr => r.set (if pis r.h then pdo r.h else r.h)) rs k hk
        have hT' := hP'.turn hjl (h' := pdo rs[k].h) (by rw [hmid]; exact hl') hT (by rw [hmid]; exact ho')
        refine ⟨hv, ⟨?_, ?_, (H3.out.trans (Off.of (fun _ => False) hb) fun _ e => e.elim).trans ho' fun j hj => .inl (hj.elim (fun e => .inl (hS0 j e)) .inr)⟩, fun j hj => (ho'.block j (by rcases hj with e | e <;> omega) fun e => e.elim (fun e => by have := hSlt j (hS0 j e); rcases hj with e | e <;> omega) fun e => by have := hTlt j e; rcases hj with e | e <;> omega).trans (hb.block j (by rcases hj with e | e <;> omega))⟩
        · have e1 := map_step (fun h : Hd => if pis h then pdo h else h) p.l k hkp
          have e2 := map_step (fun r : Lr => r.set (if pis r.h then pdo r.h else r.h)) rs k hk
          rw [hmid] at hT'
          simp only [← hph, hq, if_true] at e1 e2
          rw [e1, e2]
          exact hT'
        · show Z ((p.l.take (k + 1)).foldl (fun s h => if pis h = true then upd h s else s) s0) w'
          rw [foldl_step _ _ k hkp, ← hph, hq]
          exact hz2'
      clear H1 H2 H3 HLK hq HX1
      generalize lkV rs[k] = la at *
      gi_wp2_with (first
        | (with_reducible refine wpListIn_callv hFn hDp rfl rfl rfl rfl ?_ ?_ hi1 (CallsIn.inRound l (callsIn_wide.2 HC1.out)) (fun e w3 he => ?_); rotate_left 2; obtain ⟨rfl, hb⟩ := he; refine ⟨_, rfl, ?_⟩; obtain ⟨x1, f2, a2, hi2, hc2⟩ := HDO.out w3 hb; have HC2 := Lib.hid hc2; clear hb HDO hc2 hi1)
        | (with_reducible refine wpListIn_callv hFn hDp rfl rfl rfl rfl ?_ ?_ hi2 (CallsIn.inRound l (callsIn_wide.2 HC2.out)) (fun e w4 he => ?_); rotate_left 2; obtain ⟨⟨v, rfl⟩, h5, h6⟩ := he; refine ⟨_, rfl, ?_⟩; have HB := Lib.hid (And.intro h5 h6); clear h5 h6))
      exact HB.out
  case done =>
    rintro W ⟨h1, h2, h3⟩ hd
    have HD := Lib.hid hd
    have et : (rs.take n).map (fun r => r.set (if pis r.h then pdo r.h else r.h)) ++ rs.drop n = rs.map (fun r => r.set (if pis r.h then pdo r.h else r.h)) := by rw [List.take_of_length_le (by omega), List.drop_of_length_le (by omega), List.append_nil]
    have ep : (p.l.take n).map (fun h => if pis h then pdo h else h) ++ p.l.drop n = p.l.map (fun h => if pis h then pdo h else h) := by rw [List.take_of_length_le (by omega), List.drop_of_length_le (by omega), List.append_nil]
    rw [et, ep] at h1
    rw [List.take_of_length_le (by omega)] at h2
    obtain ⟨⟨y0, _⟩, _⟩ := ppcells h1.top
    have HC := Lib.hid (deleteL_ok h1.hl hn6)
    have HE : Hid (∀ k W', LL W' A k c ((rs.map (fun r => r.set (if pis r.h then pdo r.h else r.h))).filter fun r => r.h.live) → Off (fun j => (Value.slice A n c).ownBlock = some j) W W' → W'.frozen? ⟨b, 0, none⟩ = false ∧ (∃ z, W'.cell? ⟨b, 0, none⟩ = some z) ∧ W'.heap[w2.heap.size]? = some (.deferred (some [])) ∧ ∀ o, Z (p.l.foldl (fun s h => if pis h then upd h s else s) s0) ((W'.setCell ⟨b, 0, none⟩ (.slice A k c)).putObj w2.heap.size o) ∧ (PP b mo idl m { p with l := sweepH (p.l.map fun h => if pis h then pdo h else h) }).p S ((W'.setCell ⟨b, 0, none⟩ (.slice A k c)).putObj w2.heap.size o) ∧ Off (fun k => S k ∨ T k) w ((W'.setCell ⟨b, 0, none⟩ (.slice A k c)).putObj w2.heap.size o)) := Lib.hid fun k W' hl ho => by
      have hP4 := h1.less List.filter_sublist hl ho
      have el : ((rs.map (fun r => r.set (if pis r.h then pdo r.h else r.h))).filter fun r => r.h.live).map Lr.h = sweepH (p.l.map fun h => if pis h then pdo h else h) := by
        rw [filter_live_map, h1.l]
        rfl
      rw [el] at hP4
      have hrow : ∀ j, (Value.slice A n c).ownBlock = some j → S j := fun j hj => h1.sl j (.inl hj)
      have htop := (ho.block b (h1.lt b h1.sb) fun e => h1.al (.inl e)).trans h1.top
      obtain ⟨⟨y1, _⟩, y2, _⟩ := ppcells htop
      have hzz := h3.size
      have hdl := (Array.getElem?_eq_some_iff.1 HD.out).1
      refine ⟨y2, ⟨_, y1⟩, (ho.block _ hdl fun e => by have := hSlt _ (hrow _ e); omega).trans HD.out, fun o => ⟨?_, ⟨_, A, k, c, rb, SR, hP4.keep (fun j hj => World.putObj_heap_other (by have := hSlt j hj; omega)) (by simp)⟩, ?_⟩⟩
      · refine hZ _ _ _ h2 fun j hj => ?_
        rw [World.putObj_heap_other (by have := hTlt j hj; omega), Below.heap_setCell _ _ _ _ (fun e => hT j hj (by first | (rw [← e]; exact h1.sb) | (rw [e]; exact h1.sb)))]
        exact ho.block j (by have := hTlt j hj; omega) fun e => hT j hj (hrow j e)
      · have ho1 : Off (fun k => S k ∨ T k) w (W'.setCell ⟨b, 0, none⟩ (.slice A k c)) := (((Off.of (fun k => S k ∨ T k) HK2.out).trans h3 fun i e => .inl e).trans ho fun i e => .inl (.inl (hrow i e))).setCell (.inl (.inl h1.sb)) _
        exact ho1.trans (off_putObj (B := w2.heap.size) _ o (.inl rfl)) fun i e => .inr (by rcases e with e | e <;> omega)
    clear h1 h2 h3 hd
    gi_wp2_with (gi_at_call 98; refine CallsIn.mono (callsIn_wide.2 HC.out) ?_; rintro e w3 ⟨k, rfl, hl3, ho3⟩; obtain ⟨q1, ⟨z, q2⟩, q3, q4⟩ := HE.out k w3 hl3 ho3; have HQ3 := Lib.hid q3; have HQ4 := Lib.hid q4; clear hl3 ho3 HE q3 q4)
    have hd5 : (w3.setCell ⟨b, 0, none⟩ (.slice A k c)).heap[w2.heap.size]? = some (.deferred (some [])) := (Below.heap_setCell _ _ _ _ (by have := hSlt b hP.sb; intro e; first | (have e' : b = w2.heap.size := e; omega) | (have e' : w2.heap.size = b := e; omega))).trans HQ3.out
    rw [hz2] at hd5 HQ4
    refine ⟨by simp, .inl ⟨_, _, rfl, run_takeDeferred hd5, ?_⟩⟩
    obtain ⟨k1, k2, k3⟩ := HQ4.out (.deferred none)
    exact ⟨_, results_none rfl _ _ _, ⟨_, rfl⟩, k1, k2, k3⟩
  case stop =>
    intro W h
    exact h.elim
end
end

/- What is done with one link, by the method's name; one of an id among those that are held. -/
section
open Go.RowKit
set_option maxRecDepth 100000
attribute [local go_sem] Oper.semAt_some wide_depth wide_fn

theorem fold_id {σ : Type} {id : Int} (ans : Hd → σ) : ∀ (s : σ) (l : List Hd), (l.Pairwise fun a b => a.id ≠ b.id) → l.foldl (fun s h => if (h.id == id) = true then ans h else s) s = if findH id l < 0 then s else ans (l.getD (findH id l).toNat default)
  | s, [], _ => by simp [findH, firstH]
  | s, x :: r, hp => by
    obtain ⟨h1, h2⟩ := List.pairwise_cons.1 hp
    rw [List.foldl_cons, fold_id ans _ r h2]
    have hge := firstH_ge (p := fun h : Hd => h.id == id) r
    cases hx : (x.id == id) with
    | true =>
      have hn : findH id r = -1 := firstH_none fun y hy => by
        have := h1 y hy
        have hx' : x.id = id := by simpa using hx
        simp only [beq_eq_false_iff_ne]
        omega
      have h0 : findH id (x :: r) = 0 := by simp [findH, firstH, hx]
      rw [hn, h0]
      simp
    | false =>
      by_cases hr : findH id r < 0
      · have h0 : findH id (x :: r) = -1 := by
          unfold findH at hr ⊢
          simp [firstH, hx, hr]
        rw [if_pos hr, h0]
        simp
      · have h0 : findH id (x :: r) = findH id r + 1 := by
          unfold findH at hr ⊢
          simp [firstH, hx, hr]
        rw [if_neg hr, h0, if_neg (by omega)]
        obtain ⟨k, hk⟩ : ∃ k : Nat, findH id r = k := ⟨(findH id r).toNat, by omega⟩
        rw [hk]
        have e : ((k : Int) + 1).toNat = k + 1 := by omega
        rw [e]
        simp
theorem map_id {id : Int} (f : Hd → Hd) (p : Pl) (hp : p.l.Pairwise fun a b => a.id ≠ b.id) : ({ p with l := sweepH (p.l.map fun h => if (h.id == id) = true then f h else h) } : Pl) = sweepP (if findH id p.l < 0 then p else onH id f p) := by
  have key : ∀ l : List Hd, (l.Pairwise fun a b => a.id ≠ b.id) → (l.map fun h => if (h.id == id) = true then f h else h) = if findH id l < 0 then l else turnH l (findH id l) f := by
    intro l
    induction l with
    | nil => intro _; simp [findH, firstH]
    | cons x r ih =>
      intro hp
      obtain ⟨h1, h2⟩ := List.pairwise_cons.1 hp
      have hge := firstH_ge (p := fun h : Hd => h.id == id) r
      rw [List.map_cons, ih h2]
      cases hx : (x.id == id) with
      | true =>
        have hn : findH id r = -1 := firstH_none fun y hy => by
          have := h1 y hy
          have hx' : x.id = id := by simpa using hx
          simp only [beq_eq_false_iff_ne]
          omega
        have h0 : findH id (x :: r) = 0 := by simp [findH, firstH, hx]
        rw [hn, h0]
        simp [turnH]
      | false =>
        simp only [Bool.false_eq_true, if_false]
        by_cases hr : findH id r < 0
        · have h0 : findH id (x :: r) = -1 := by
            unfold findH at hr ⊢
            simp [firstH, hx, hr]
          rw [if_pos hr, h0]
          simp
        · have h0 : findH id (x :: r) = findH id r + 1 := by
            unfold findH at hr ⊢
            simp [firstH, hx, hr]
          rw [if_neg hr, h0, if_neg (by omega)]
          obtain ⟨k, hk⟩ : ∃ k : Nat, findH id r = k := ⟨(findH id r).toNat, by omega⟩
          rw [hk]
          have e : ((k : Int) + 1).toNat = k + 1 := by omega
          unfold turnH
          rw [e]
          simp
  rw [key p.l hp]
  unfold sweepP onH
  split <;> rfl
/-- a method of the connection, called by its name, of a link -/
theorem inv_named {W : World} {r : Lr} (h : LK W r) (name : String) (f : FuncId) (args : Array Value)
    (hm : (Go.method (Tryz.prog.types.size + Made.depth) 77 (lkV r) name).run Tryz.prog W = ((fun v => (f, v)) <$> loadVar 92 ⟨r.l, 0, none⟩).run Tryz.prog W)
    (eg : ∀ args w, (callFunc f args).run Tryz.prog w = .ok (.enter f args) w) :
    (invoke (.fn (.methodOf 77 name) #[]) (#[lkV r] ++ args)).run Tryz.prog W = .ok (.enter f (#[.pointer (some ⟨r.a, 0, none⟩)] ++ args)) W := by
  have c0 := h.cells.1.1
  have hm2 : (Go.method (Tryz.prog.types.size + 100) 77 (lkV r) name).run Tryz.prog W = .ok (f, .pointer (some ⟨r.a, 0, none⟩)) W := by
    have e : Tryz.prog.types.size + 100 = Tryz.prog.types.size + Made.depth := rfl
    rw [e, hm]
    simp [loadVar, go_sem, c0]
  have hx : (#[lkV r] ++ args).extract 1 (#[lkV r] ++ args).size = args := by simp
  have hu : (underlying 77).run Tryz.prog W = .ok (.pointer 94) W := by kernel_rfl
  have h0 : (#[lkV r] ++ args)[0]? = some (lkV r) := by
    rw [Array.getElem?_append_left (by simp)]
    rfl
  unfold invoke
  simp only [hx, h0]
  have hm3 : ∀ n, n = Tryz.prog.types.size + 100 → (Go.method n 77 (lkV r) name).run Tryz.prog W = .ok (f, .pointer (some ⟨r.a, 0, none⟩)) W := fun n e => by rw [e]; exact hm2
  simp [go_sem, hu]
  rw [hm3 _ (by kernel_rfl)]
  exact eg _ _
end

/- What is done with the connection of an id (done): contracts, one for each type of answer. -/
section
open Go.RowKit
set_option maxRecDepth 100000
attribute [local go_sem] Oper.semAt_some wide_depth wide_fn

section
variable {b : Nat} {mo idl m : Int} {p : Pl} {S T0 : Nat → Prop} {w W : World}
theorem dnis_B (r : Lr) (B : Nat) (id : Int) (h : LK W r) (hB : W.heap[B]? = some (.cells #[.int .i64 id] 3 (0, 0))) : Calls Tryz.prog 87 #[lkV r, .pointer (some ⟨B, 0, none⟩)] W fun e w' => e = .returned (.bool (r.h.id == id)) ∧ Below W.heap.size W w' := by
  obtain ⟨⟨_, c1, _⟩, _⟩ := h.cells
  obtain ⟨x0, _⟩ := cellsAt hB 0 (v := .int .i64 id) rfl
  unfold lkV
  clear h hB
  generalize r.h.id = i at *
  generalize r.l = l at *
  go_enter Tryz.func87, Tryz.ntmps87
  go_wp2_with fail
  go_quiet (fail)
  go_wp2_with fail
  go_ret
  exact ⟨rfl, kp_drewN _ _⟩
theorem dndo_B (r : Lr) (B B2 : Nat) (fd : Fn) (cd : Array Value) (x0 y : Bool) {f : FuncId} {args : Array Value} {R : World → Prop} (hB : W.heap[B]? = some (.cells #[.func fd #[] cd] 96 (0, 0)))
    (hi : (invoke (.fn fd cd) #[lkV r]).run Tryz.prog W = .ok (.enter f args) W) (hc : Calls Tryz.prog f args W fun e w' => e = .returned (.bool y) ∧ w'.heap[B2]? = some (.cells #[.bool x0] 4 (0, 0)) ∧ R w') :
    Calls Tryz.prog 88 #[lkV r, .pointer (some ⟨B, 0, none⟩), .pointer (some ⟨B2, 0, none⟩)] W fun e w' => (∃ v, e = .returned v) ∧ ∃ w1, R w1 ∧ w1.heap[B2]? = some (.cells #[.bool x0] 4 (0, 0)) ∧ w' = w1.setCell ⟨B2, 0, none⟩ (.bool y) := by
  obtain ⟨q0, _⟩ := cellsAt hB 0 (v := .func fd #[] cd) rfl
  have HC := Lib.hid hc
  have hFn : ∀ f, Fence.wide.fn f := fun _ => trivial
  have hDp : Fence.wide.depth = none := rfl
  clear hB hc
  generalize lkV r = la at *
  refine (callsIn_wide (n := 3)).1 ?_
  refine callsIn_of_wp Tryz.func88 rfl trivial ?_ rfl
  simp only [Tryz.ntmps88, List.size_toArray, List.length_cons, List.length_nil, Nat.reduceAdd, Nat.reduceSub, Array.replicate_succ, Array.replicate_zero, List.push_toArray, List.append_toArray, List.nil_append, List.cons_append]
  gi_wp2_with (with_reducible refine wpListIn_callv hFn hDp rfl rfl rfl rfl ?_ ?_ hi (callsIn_wide.2 HC.out) (fun e w3 he => ?_); rotate_left 2; obtain ⟨rfl, hb, hr⟩ := he; refine ⟨_, rfl, ?_⟩; obtain ⟨z0, z1⟩ := cellsAt hb 0 (v := .bool x0) rfl; have HR := Lib.hid hr; have HB2 := Lib.hid hb; clear hb hr)
  go_end0
  exact ⟨⟨_, rfl⟩, _, HR.out, HB2.out, rfl⟩

set_option maxHeartbeats 4000000 in
theorem done_B (id : Int) (none_ : Bool) (fd : Fn) (cd : Array Value) (Z0 : World → Prop) (ans : Hd → Bool) (pdo : Hd → Hd)
    (h : (PP b mo idl m p).p S w) (hT : ∀ k, T0 k → ¬ S k) (hTl : ∀ k, T0 k → k < w.heap.size) (hz0 : Z0 w) (hZ : ∀ W W', Z0 W → (∀ k, T0 k → W'.heap[k]? = W.heap[k]?) → Z0 W')
    (hdo : ∀ r W, LK W r → Z0 W → ∃ f args, (invoke (.fn fd cd) #[lkV r]).run Tryz.prog W = .ok (.enter f args) W ∧ Calls Tryz.prog f args W fun e w' => e = .returned (.bool (ans r.h)) ∧ LK w' (r.set (pdo r.h)) ∧ Off (lkS r) W w')
    (hid : p.l.Pairwise fun a b => a.id ≠ b.id) :
    Calls Tryz.prog 47 #[.pointer (some ⟨b, 0, none⟩), .int .i64 id, .func fd #[] cd, .bool none_] w fun e w' => e = .returned (.bool (if findH id p.l < 0 then none_ else ans (theH id p))) ∧ (PP b mo idl m (sweepP (if findH id p.l < 0 then p else onH id pdo p))).p S w' ∧ Off (fun k => S k ∨ T0 k) w w' := by
  have HF : Hid (p.l.foldl (fun s h => if (h.id == id) = true then ans h else s) none_ = if findH id p.l < 0 then none_ else ans (theH id p)) := Lib.hid (fold_id ans none_ p.l hid)
  have HM : Hid (({ p with l := sweepH (p.l.map fun h => if (h.id == id) = true then pdo h else h) } : Pl) = sweepP (if findH id p.l < 0 then p else onH id pdo p)) := Lib.hid (map_id pdo p hid)
  have HR : Hid (∀ v, v = (if findH id p.l < 0 then none_ else ans (theH id p)) → (.bool v : Value) = .bool (if findH id p.l < 0 then none_ else ans (theH id p))) := Lib.hid fun v e => by rw [e]
  rw [← HM.out]
  clear HM
  obtain ⟨res, hres⟩ : ∃ v : Value, .bool (if findH id p.l < 0 then none_ else ans (theH id p)) = v := ⟨_, rfl⟩
  rw [hres] at HR ⊢
  clear hres
  have HS : Hid (∀ o1 o2 o3 (wz : World), wz.heap.size = w.heap.size + 3 → wz.heap[w.heap.size]? = some o1 → wz.heap[w.heap.size + 1]? = some o2 → wz.heap[w.heap.size + 2]? = some o3 → Below w.heap.size w wz → o1 = .cells #[.int .i64 id] 3 (0, 0) → o2 = .cells #[.func fd #[] cd] 96 (0, 0) → o3 = .cells #[.bool none_] 4 (0, 0) →
      Calls Tryz.prog 57 #[.pointer (some ⟨b, 0, none⟩), .func (.func 87) #[] #[.pointer (some ⟨w.heap.size, 0, none⟩)], .func (.func 88) #[] #[.pointer (some ⟨w.heap.size + 1, 0, none⟩), .pointer (some ⟨w.heap.size + 2, 0, none⟩)]] wz fun e w' => (∃ v, e = .returned v) ∧
        (∃ v, w'.cell? ⟨w.heap.size + 2, 0, none⟩ = some (.bool v) ∧ v = p.l.foldl (fun s h => if (h.id == id) = true then ans h else s) none_) ∧ (PP b mo idl m { p with l := sweepH (p.l.map fun h => if (h.id == id) = true then pdo h else h) }).p S w' ∧ Off (fun k => S k ∨ T0 k) w w') := Lib.hid fun o1 o2 o3 wz hsz h1 h2 h3 hk e1 e2 e3 => by
    subst e1 e2 e3
    have hSl := (PP b mo idl m p).lt h
    refine (each_ok (T := fun k => (k = w.heap.size ∨ k = w.heap.size + 1 ∨ k = w.heap.size + 2) ∨ T0 k) (.func 87) (.func 88) #[.pointer (some ⟨w.heap.size, 0, none⟩)] #[.pointer (some ⟨w.heap.size + 1, 0, none⟩), .pointer (some ⟨w.heap.size + 2, 0, none⟩)] (fun h => h.id == id) pdo (fun h _ => ans h)
      (fun (v : Bool) W => W.heap[w.heap.size]? = some (.cells #[.int .i64 id] 3 (0, 0)) ∧ W.heap[w.heap.size + 1]? = some (.cells #[.func fd #[] cd] 96 (0, 0)) ∧ W.heap[w.heap.size + 2]? = some (.cells #[.bool v] 4 (0, 0)) ∧ Z0 W) none_
      (Thing.next h hk) ?_ ?_ ⟨h1, h2, h3, hZ _ _ hz0 fun k hk2 => hk.block k (hTl k hk2)⟩ ?_ ?_ ?_).mono ?_
    · rintro k (hk2 | hk2) hs
      · have := hSl k hs
        omega
      · exact hT k hk2 hs
    · rintro k (hk2 | hk2)
      · omega
      · have := hTl k hk2
        omega
    · rintro v W1 W2 ⟨q1, q2, q3, q4⟩ hq
      exact ⟨(hq _ (.inl (.inl rfl))).trans q1, (hq _ (.inl (.inr (.inl rfl)))).trans q2, (hq _ (.inl (.inr (.inr rfl)))).trans q3, hZ _ _ q4 fun k hk2 => hq k (.inr hk2)⟩
    · rintro r v W1 hl ⟨q1, _, _, _⟩ _
      exact ⟨87, #[lkV r, .pointer (some ⟨w.heap.size, 0, none⟩)], by simp [invoke, go_sem], dnis_B r _ id hl q1⟩
    · rintro r v W1 hl ⟨q1, q2, q3, q4⟩ hTn _
      obtain ⟨f, args, hi, hc⟩ := hdo r W1 hl q4
      refine ⟨88, #[lkV r, .pointer (some ⟨w.heap.size + 1, 0, none⟩), .pointer (some ⟨w.heap.size + 2, 0, none⟩)], by simp [invoke, go_sem], (dndo_B (R := fun w' => LK w' (r.set (pdo r.h)) ∧ Off (lkS r) W1 w') r _ (w.heap.size + 2) fd cd v (ans r.h) q2 hi (hc.mono ?_)).mono ?_⟩
      · rintro e w' ⟨rfl, k1, k2⟩
        exact ⟨rfl, (k2.block _ ((Array.getElem?_eq_some_iff.1 q3).1) fun e => hTn _ e (.inl (.inr (.inr rfl)))).trans q3, k1, k2⟩
      · rintro e w' ⟨hv, w1, ⟨k1, k2⟩, k3, rfl⟩
        have hne : ∀ k, k ≠ w.heap.size + 2 → (w1.setCell ⟨w.heap.size + 2, 0, none⟩ (.bool (ans r.h))).heap[k]? = w1.heap[k]? := fun k hk2 => Below.heap_setCell _ _ _ _ fun e => hk2 (by first | exact e.symm | exact e)
        have hlt : ∀ k, ((k = w.heap.size ∨ k = w.heap.size + 1 ∨ k = w.heap.size + 2) ∨ T0 k) → k ≠ w.heap.size + 2 → k < W1.heap.size := by
          have l1 := (Array.getElem?_eq_some_iff.1 q1).1
          have l2 := (Array.getElem?_eq_some_iff.1 q2).1
          rintro k (hk2 | hk2) hk3
          · omega
          · have := hTl k hk2
            omega
        have hoff : ∀ k, ((k = w.heap.size ∨ k = w.heap.size + 1 ∨ k = w.heap.size + 2) ∨ T0 k) → k ≠ w.heap.size + 2 → (w1.setCell ⟨w.heap.size + 2, 0, none⟩ (.bool (ans r.h))).heap[k]? = W1.heap[k]? := fun k hk2 hk3 => (hne k hk3).trans (k2.block k (hlt k hk2 hk3) fun e => hTn k e hk2)
        refine ⟨hv, k1.keep (fun k hk2 => hne k fun e => hTn k hk2 (.inl (.inr (.inr e)))) (by simp [World.setCell]), ⟨(hoff _ (.inl (.inl rfl)) (by omega)).trans q1, (hoff _ (.inl (.inr (.inl rfl))) (by omega)).trans q2, cset k3 0 _ rfl, hZ _ _ q4 fun k hk2 => hoff k (.inr hk2) (by have := hTl k hk2; omega)⟩, (k2.wide fun k hk2 => .inl hk2).setCell (p := ⟨w.heap.size + 2, 0, none⟩) (.inl (.inr (.inl (.inr (.inr rfl))))) _⟩
    · rintro e w' ⟨hv, ⟨_, _, q3, _⟩, hp, ho⟩
      have hsub : ∀ i, (S i ∨ ((i = w.heap.size ∨ i = w.heap.size + 1 ∨ i = w.heap.size + 2) ∨ T0 i)) → (S i ∨ T0 i) ∨ w.heap.size ≤ i := by
        rintro i (e | (e | e))
        · exact .inl (.inl e)
        · exact .inr (by omega)
        · exact .inl (.inr e)
      exact ⟨hv, ⟨_, (cellsAt q3 0 rfl).1, rfl⟩, hp, (Off.of (fun k => S k ∨ T0 k) hk).trans ho hsub⟩
  clear h hT hTl hz0 hZ hdo hid
  obtain ⟨wz, hwz⟩ : ∃ u, ((w.alloc (.cells #[.int .i64 id] 3)).alloc (.cells #[.func fd #[] cd] 96)).alloc (.cells #[.bool none_] 4 (0, 0)) = u := ⟨_, rfl⟩
  have HC := Lib.hid (HS.out _ _ _ wz (by rw [← hwz]; simp) (by rw [← hwz]; exact (Below.heap_alloc _ _ _ (by simp; omega)).trans ((Below.heap_alloc _ _ _ (by simp)).trans (heap_alloc_new w _))) (by
      rw [← hwz]
      have := heap_alloc_new (w.alloc (.cells #[.int .i64 id] 3)) (.cells #[.func fd #[] cd] 96)
      rw [World.size_alloc] at this
      exact (Below.heap_alloc _ _ _ (by simp)).trans this) (by
      rw [← hwz]
      have := heap_alloc_new ((w.alloc (.cells #[.int .i64 id] 3)).alloc (.cells #[.func fd #[] cd] 96)) (.cells #[.bool none_] 4 (0, 0))
      rw [World.size_alloc, World.size_alloc] at this
      exact this) (hwz ▸ kp_alloc (kp_alloc (kp_new _ _) _) _) rfl rfl rfl)
  have HWZ := Lib.hid hwz
  clear hwz HS
  go_enter Tryz.func47, Tryz.ntmps47
  go_wp2_with fail
  rw [HWZ.out]
  refine HC.out.mono ?_
  rintro e w4 ⟨⟨v0, rfl⟩, ⟨v, hv, hf⟩, hp, ho⟩
  have HQ := Lib.hid (And.intro hp ho)
  have hr := HR.out v (hf.trans HF.out)
  rw [hr] at hv
  clear hf hp ho hr HC HR HF
  go_wp2_with fail
  go_ret
  exact ⟨rfl, HQ.out⟩
end

section
variable {b : Nat} {mo idl m : Int} {p : Pl} {S T0 : Nat → Prop} {w W : World}
theorem dnis_E (r : Lr) (B : Nat) (id : Int) (h : LK W r) (hB : W.heap[B]? = some (.cells #[.int .i64 id] 3 (0, 0))) : Calls Tryz.prog 82 #[lkV r, .pointer (some ⟨B, 0, none⟩)] W fun e w' => e = .returned (.bool (r.h.id == id)) ∧ Below W.heap.size W w' := by
  obtain ⟨⟨_, c1, _⟩, _⟩ := h.cells
  obtain ⟨x0, _⟩ := cellsAt hB 0 (v := .int .i64 id) rfl
  unfold lkV
  clear h hB
  generalize r.h.id = i at *
  generalize r.l = l at *
  go_enter Tryz.func82, Tryz.ntmps82
  go_wp2_with fail
  go_quiet (fail)
  go_wp2_with fail
  go_ret
  exact ⟨rfl, kp_drewN _ _⟩
theorem dndo_E (r : Lr) (B B2 : Nat) (fd : Fn) (cd : Array Value) (x0 y : Int) {f : FuncId} {args : Array Value} {R : World → Prop} (hB : W.heap[B]? = some (.cells #[.func fd #[] cd] 88 (0, 0)))
    (hi : (invoke (.fn fd cd) #[lkV r]).run Tryz.prog W = .ok (.enter f args) W) (hc : Calls Tryz.prog f args W fun e w' => e = .returned (.int .i64 y) ∧ w'.heap[B2]? = some (.cells #[.int .i64 x0] 26 (0, 0)) ∧ R w') :
    Calls Tryz.prog 83 #[lkV r, .pointer (some ⟨B, 0, none⟩), .pointer (some ⟨B2, 0, none⟩)] W fun e w' => (∃ v, e = .returned v) ∧ ∃ w1, R w1 ∧ w1.heap[B2]? = some (.cells #[.int .i64 x0] 26 (0, 0)) ∧ w' = w1.setCell ⟨B2, 0, none⟩ (.int .i64 y) := by
  obtain ⟨q0, _⟩ := cellsAt hB 0 (v := .func fd #[] cd) rfl
  have HC := Lib.hid hc
  have hFn : ∀ f, Fence.wide.fn f := fun _ => trivial
  have hDp : Fence.wide.depth = none := rfl
  clear hB hc
  generalize lkV r = la at *
  refine (callsIn_wide (n := 3)).1 ?_
  refine callsIn_of_wp Tryz.func83 rfl trivial ?_ rfl
  simp only [Tryz.ntmps83, List.size_toArray, List.length_cons, List.length_nil, Nat.reduceAdd, Nat.reduceSub, Array.replicate_succ, Array.replicate_zero, List.push_toArray, List.append_toArray, List.nil_append, List.cons_append]
  gi_wp2_with (with_reducible refine wpListIn_callv hFn hDp rfl rfl rfl rfl ?_ ?_ hi (callsIn_wide.2 HC.out) (fun e w3 he => ?_); rotate_left 2; obtain ⟨rfl, hb, hr⟩ := he; refine ⟨_, rfl, ?_⟩; obtain ⟨z0, z1⟩ := cellsAt hb 0 (v := .int .i64 x0) rfl; have HR := Lib.hid hr; have HB2 := Lib.hid hb; clear hb hr)
  go_end0
  exact ⟨⟨_, rfl⟩, _, HR.out, HB2.out, rfl⟩

set_option maxHeartbeats 4000000 in
theorem done_E (id : Int) (none_ : Int) (fd : Fn) (cd : Array Value) (Z0 : World → Prop) (ans : Hd → Int) (pdo : Hd → Hd)
    (h : (PP b mo idl m p).p S w) (hT : ∀ k, T0 k → ¬ S k) (hTl : ∀ k, T0 k → k < w.heap.size) (hz0 : Z0 w) (hZ : ∀ W W', Z0 W → (∀ k, T0 k → W'.heap[k]? = W.heap[k]?) → Z0 W')
    (hdo : ∀ r W, LK W r → Z0 W → ∃ f args, (invoke (.fn fd cd) #[lkV r]).run Tryz.prog W = .ok (.enter f args) W ∧ Calls Tryz.prog f args W fun e w' => e = .returned (.int .i64 (ans r.h)) ∧ LK w' (r.set (pdo r.h)) ∧ Off (lkS r) W w')
    (hid : p.l.Pairwise fun a b => a.id ≠ b.id) :
    Calls Tryz.prog 44 #[.pointer (some ⟨b, 0, none⟩), .int .i64 id, .func fd #[] cd, .int .i64 none_] w fun e w' => e = .returned (.int .i64 (if findH id p.l < 0 then none_ else ans (theH id p))) ∧ (PP b mo idl m (sweepP (if findH id p.l < 0 then p else onH id pdo p))).p S w' ∧ Off (fun k => S k ∨ T0 k) w w' := by
  have HF : Hid (p.l.foldl (fun s h => if (h.id == id) = true then ans h else s) none_ = if findH id p.l < 0 then none_ else ans (theH id p)) := Lib.hid (fold_id ans none_ p.l hid)
  have HM : Hid (({ p with l := sweepH (p.l.map fun h => if (h.id == id) = true then pdo h else h) } : Pl) = sweepP (if findH id p.l < 0 then p else onH id pdo p)) := Lib.hid (map_id pdo p hid)
  have HR : Hid (∀ v, v = (if findH id p.l < 0 then none_ else ans (theH id p)) → (.int .i64 v : Value) = .int .i64 (if findH id p.l < 0 then none_ else ans (theH id p))) := Lib.hid fun v e => by rw [e]
  rw [← HM.out]
  clear HM
  obtain ⟨res, hres⟩ : ∃ v : Value, .int .i64 (if findH id p.l < 0 then none_ else ans (theH id p)) = v := ⟨_, rfl⟩
  rw [hres] at HR ⊢
  clear hres
  have HS : Hid (∀ o1 o2 o3 (wz : World), wz.heap.size = w.heap.size + 3 → wz.heap[w.heap.size]? = some o1 → wz.heap[w.heap.size + 1]? = some o2 → wz.heap[w.heap.size + 2]? = some o3 → Below w.heap.size w wz → o1 = .cells #[.int .i64 id] 3 (0, 0) → o2 = .cells #[.func fd #[] cd] 88 (0, 0) → o3 = .cells #[.int .i64 none_] 26 (0, 0) →
      Calls Tryz.prog 57 #[.pointer (some ⟨b, 0, none⟩), .func (.func 82) #[] #[.pointer (some ⟨w.heap.size, 0, none⟩)], .func (.func 83) #[] #[.pointer (some ⟨w.heap.size + 1, 0, none⟩), .pointer (some ⟨w.heap.size + 2, 0, none⟩)]] wz fun e w' => (∃ v, e = .returned v) ∧
        (∃ v, w'.cell? ⟨w.heap.size + 2, 0, none⟩ = some (.int .i64 v) ∧ v = p.l.foldl (fun s h => if (h.id == id) = true then ans h else s) none_) ∧ (PP b mo idl m { p with l := sweepH (p.l.map fun h => if (h.id == id) = true then pdo h else h) }).p S w' ∧ Off (fun k => S k ∨ T0 k) w w') := Lib.hid fun o1 o2 o3 wz hsz h1 h2 h3 hk e1 e2 e3 => by
    subst e1 e2 e3
    have hSl := (PP b mo idl m p).lt h
    refine (each_ok (T := fun k => (k = w.heap.size ∨ k = w.heap.size + 1 ∨ k = w.heap.size + 2) ∨ T0 k) (.func 82) (.func 83) #[.pointer (some ⟨w.heap.size, 0, none⟩)] #[.pointer (some ⟨w.heap.size + 1, 0, none⟩), .pointer (some ⟨w.heap.size + 2, 0, none⟩)] (fun h => h.id == id) pdo (fun h _ => ans h)
      (fun (v : Int) W => W.heap[w.heap.size]? = some (.cells #[.int .i64 id] 3 (0, 0)) ∧ W.heap[w.heap.size + 1]? = some (.cells #[.func fd #[] cd] 88 (0, 0)) ∧ W.heap[w.heap.size + 2]? = some (.cells #[.int .i64 v] 26 (0, 0)) ∧ Z0 W) none_
      (Thing.next h hk) ?_ ?_ ⟨h1, h2, h3, hZ _ _ hz0 fun k hk2 => hk.block k (hTl k hk2)⟩ ?_ ?_ ?_).mono ?_
    · rintro k (hk2 | hk2) hs
      · have := hSl k hs
        omega
      · exact hT k hk2 hs
    · rintro k (hk2 | hk2)
      · omega
      · have := hTl k hk2
        omega
    · rintro v W1 W2 ⟨q1, q2, q3, q4⟩ hq
      exact ⟨(hq _ (.inl (.inl rfl))).trans q1, (hq _ (.inl (.inr (.inl rfl)))).trans q2, (hq _ (.inl (.inr (.inr rfl)))).trans q3, hZ _ _ q4 fun k hk2 => hq k (.inr hk2)⟩
    · rintro r v W1 hl ⟨q1, _, _, _⟩ _
      exact ⟨82, #[lkV r, .pointer (some ⟨w.heap.size, 0, none⟩)], by simp [invoke, go_sem], dnis_E r _ id hl q1⟩
    · rintro r v W1 hl ⟨q1, q2, q3, q4⟩ hTn _
      obtain ⟨f, args, hi, hc⟩ := hdo r W1 hl q4
      refine ⟨83, #[lkV r, .pointer (some ⟨w.heap.size + 1, 0, none⟩), .pointer (some ⟨w.heap.size + 2, 0, none⟩)], by simp [invoke, go_sem], (dndo_E (R := fun w' => LK w' (r.set (pdo r.h)) ∧ Off (lkS r) W1 w') r _ (w.heap.size + 2) fd cd v (ans r.h) q2 hi (hc.mono ?_)).mono ?_⟩
      · rintro e w' ⟨rfl, k1, k2⟩
        exact ⟨rfl, (k2.block _ ((Array.getElem?_eq_some_iff.1 q3).1) fun e => hTn _ e (.inl (.inr (.inr rfl)))).trans q3, k1, k2⟩
      · rintro e w' ⟨hv, w1, ⟨k1, k2⟩, k3, rfl⟩
        have hne : ∀ k, k ≠ w.heap.size + 2 → (w1.setCell ⟨w.heap.size + 2, 0, none⟩ (.int .i64 (ans r.h))).heap[k]? = w1.heap[k]? := fun k hk2 => Below.heap_setCell _ _ _ _ fun e => hk2 (by first | exact e.symm | exact e)
        have hlt : ∀ k, ((k = w.heap.size ∨ k = w.heap.size + 1 ∨ k = w.heap.size + 2) ∨ T0 k) → k ≠ w.heap.size + 2 → k < W1.heap.size := by
          have l1 := (Array.getElem?_eq_some_iff.1 q1).1
          have l2 := (Array.getElem?_eq_some_iff.1 q2).1
          rintro k (hk2 | hk2) hk3
          · omega
          · have := hTl k hk2
            omega
        have hoff : ∀ k, ((k = w.heap.size ∨ k = w.heap.size + 1 ∨ k = w.heap.size + 2) ∨ T0 k) → k ≠ w.heap.size + 2 → (w1.setCell ⟨w.heap.size + 2, 0, none⟩ (.int .i64 (ans r.h))).heap[k]? = W1.heap[k]? := fun k hk2 hk3 => (hne k hk3).trans (k2.block k (hlt k hk2 hk3) fun e => hTn k e hk2)
        refine ⟨hv, k1.keep (fun k hk2 => hne k fun e => hTn k hk2 (.inl (.inr (.inr e)))) (by simp [World.setCell]), ⟨(hoff _ (.inl (.inl rfl)) (by omega)).trans q1, (hoff _ (.inl (.inr (.inl rfl))) (by omega)).trans q2, cset k3 0 _ rfl, hZ _ _ q4 fun k hk2 => hoff k (.inr hk2) (by have := hTl k hk2; omega)⟩, (k2.wide fun k hk2 => .inl hk2).setCell (p := ⟨w.heap.size + 2, 0, none⟩) (.inl (.inr (.inl (.inr (.inr rfl))))) _⟩
    · rintro e w' ⟨hv, ⟨_, _, q3, _⟩, hp, ho⟩
      have hsub : ∀ i, (S i ∨ ((i = w.heap.size ∨ i = w.heap.size + 1 ∨ i = w.heap.size + 2) ∨ T0 i)) → (S i ∨ T0 i) ∨ w.heap.size ≤ i := by
        rintro i (e | (e | e))
        · exact .inl (.inl e)
        · exact .inr (by omega)
        · exact .inl (.inr e)
      exact ⟨hv, ⟨_, (cellsAt q3 0 rfl).1, rfl⟩, hp, (Off.of (fun k => S k ∨ T0 k) hk).trans ho hsub⟩
  clear h hT hTl hz0 hZ hdo hid
  obtain ⟨wz, hwz⟩ : ∃ u, ((w.alloc (.cells #[.int .i64 id] 3)).alloc (.cells #[.func fd #[] cd] 88)).alloc (.cells #[.int .i64 none_] 26 (0, 0)) = u := ⟨_, rfl⟩
  have HC := Lib.hid (HS.out _ _ _ wz (by rw [← hwz]; simp) (by rw [← hwz]; exact (Below.heap_alloc _ _ _ (by simp; omega)).trans ((Below.heap_alloc _ _ _ (by simp)).trans (heap_alloc_new w _))) (by
      rw [← hwz]
      have := heap_alloc_new (w.alloc (.cells #[.int .i64 id] 3)) (.cells #[.func fd #[] cd] 88)
      rw [World.size_alloc] at this
      exact (Below.heap_alloc _ _ _ (by simp)).trans this) (by
      rw [← hwz]
      have := heap_alloc_new ((w.alloc (.cells #[.int .i64 id] 3)).alloc (.cells #[.func fd #[] cd] 88)) (.cells #[.int .i64 none_] 26 (0, 0))
      rw [World.size_alloc, World.size_alloc] at this
      exact this) (hwz ▸ kp_alloc (kp_alloc (kp_new _ _) _) _) rfl rfl rfl)
  have HWZ := Lib.hid hwz
  clear hwz HS
  go_enter Tryz.func44, Tryz.ntmps44
  go_wp2_with fail
  rw [HWZ.out]
  refine HC.out.mono ?_
  rintro e w4 ⟨⟨v0, rfl⟩, ⟨v, hv, hf⟩, hp, ho⟩
  have HQ := Lib.hid (And.intro hp ho)
  have hr := HR.out v (hf.trans HF.out)
  rw [hr] at hv
  clear hf hp ho hr HC HR HF
  go_wp2_with fail
  go_ret
  exact ⟨rfl, HQ.out⟩
end

section
variable {b : Nat} {mo idl m : Int} {p : Pl} {S T0 : Nat → Prop} {w W : World}
theorem dnis_U (r : Lr) (B : Nat) (id : Int) (h : LK W r) (hB : W.heap[B]? = some (.cells #[.int .i64 id] 3 (0, 0))) : Calls Tryz.prog 95 #[lkV r, .pointer (some ⟨B, 0, none⟩)] W fun e w' => e = .returned (.bool (r.h.id == id)) ∧ Below W.heap.size W w' := by
  obtain ⟨⟨_, c1, _⟩, _⟩ := h.cells
  obtain ⟨x0, _⟩ := cellsAt hB 0 (v := .int .i64 id) rfl
  unfold lkV
  clear h hB
  generalize r.h.id = i at *
  generalize r.l = l at *
  go_enter Tryz.func95, Tryz.ntmps95
  go_wp2_with fail
  go_quiet (fail)
  go_wp2_with fail
  go_ret
  exact ⟨rfl, kp_drewN _ _⟩
theorem dndo_U (r : Lr) (B B2 : Nat) (fd : Fn) (cd : Array Value) (x0 y : Int) {f : FuncId} {args : Array Value} {R : World → Prop} (hB : W.heap[B]? = some (.cells #[.func fd #[] cd] 108 (0, 0)))
    (hi : (invoke (.fn fd cd) #[lkV r]).run Tryz.prog W = .ok (.enter f args) W) (hc : Calls Tryz.prog f args W fun e w' => e = .returned (.int .u64 y) ∧ w'.heap[B2]? = some (.cells #[.int .u64 x0] 22 (0, 0)) ∧ R w') :
    Calls Tryz.prog 96 #[lkV r, .pointer (some ⟨B, 0, none⟩), .pointer (some ⟨B2, 0, none⟩)] W fun e w' => (∃ v, e = .returned v) ∧ ∃ w1, R w1 ∧ w1.heap[B2]? = some (.cells #[.int .u64 x0] 22 (0, 0)) ∧ w' = w1.setCell ⟨B2, 0, none⟩ (.int .u64 y) := by
  obtain ⟨q0, _⟩ := cellsAt hB 0 (v := .func fd #[] cd) rfl
  have HC := Lib.hid hc
  have hFn : ∀ f, Fence.wide.fn f := fun _ => trivial
  have hDp : Fence.wide.depth = none := rfl
  clear hB hc
  generalize lkV r = la at *
  refine (callsIn_wide (n := 3)).1 ?_
  refine callsIn_of_wp Tryz.func96 rfl trivial ?_ rfl
  simp only [Tryz.ntmps96, List.size_toArray, List.length_cons, List.length_nil, Nat.reduceAdd, Nat.reduceSub, Array.replicate_succ, Array.replicate_zero, List.push_toArray, List.append_toArray, List.nil_append, List.cons_append]
  gi_wp2_with (with_reducible refine wpListIn_callv hFn hDp rfl rfl rfl rfl ?_ ?_ hi (callsIn_wide.2 HC.out) (fun e w3 he => ?_); rotate_left 2; obtain ⟨rfl, hb, hr⟩ := he; refine ⟨_, rfl, ?_⟩; obtain ⟨z0, z1⟩ := cellsAt hb 0 (v := .int .u64 x0) rfl; have HR := Lib.hid hr; have HB2 := Lib.hid hb; clear hb hr)
  go_end0
  exact ⟨⟨_, rfl⟩, _, HR.out, HB2.out, rfl⟩

set_option maxHeartbeats 4000000 in
theorem done_U (id : Int) (none_ : Int) (fd : Fn) (cd : Array Value) (Z0 : World → Prop) (ans : Hd → Int) (pdo : Hd → Hd)
    (h : (PP b mo idl m p).p S w) (hT : ∀ k, T0 k → ¬ S k) (hTl : ∀ k, T0 k → k < w.heap.size) (hz0 : Z0 w) (hZ : ∀ W W', Z0 W → (∀ k, T0 k → W'.heap[k]? = W.heap[k]?) → Z0 W')
    (hdo : ∀ r W, LK W r → Z0 W → ∃ f args, (invoke (.fn fd cd) #[lkV r]).run Tryz.prog W = .ok (.enter f args) W ∧ Calls Tryz.prog f args W fun e w' => e = .returned (.int .u64 (ans r.h)) ∧ LK w' (r.set (pdo r.h)) ∧ Off (lkS r) W w')
    (hid : p.l.Pairwise fun a b => a.id ≠ b.id) :
    Calls Tryz.prog 55 #[.pointer (some ⟨b, 0, none⟩), .int .i64 id, .func fd #[] cd, .int .u64 none_] w fun e w' => e = .returned (.int .u64 (if findH id p.l < 0 then none_ else ans (theH id p))) ∧ (PP b mo idl m (sweepP (if findH id p.l < 0 then p else onH id pdo p))).p S w' ∧ Off (fun k => S k ∨ T0 k) w w' := by
  have HF : Hid (p.l.foldl (fun s h => if (h.id == id) = true then ans h else s) none_ = if findH id p.l < 0 then none_ else ans (theH id p)) := Lib.hid (fold_id ans none_ p.l hid)
  have HM : Hid (({ p with l := sweepH (p.l.map fun h => if (h.id == id) = true then pdo h else h) } : Pl) = sweepP (if findH id p.l < 0 then p else onH id pdo p)) := Lib.hid (map_id pdo p hid)
  have HR : Hid (∀ v, v = (if findH id p.l < 0 then none_ else ans (theH id p)) → (.int .u64 v : Value) = .int .u64 (if findH id p.l < 0 then none_ else ans (theH id p))) := Lib.hid fun v e => by rw [e]
  rw [← HM.out]
  clear HM
  obtain ⟨res, hres⟩ : ∃ v : Value, .int .u64 (if findH id p.l < 0 then none_ else ans (theH id p)) = v := ⟨_, rfl⟩
  rw [hres] at HR ⊢
  clear hres
  have HS : Hid (∀ o1 o2 o3 (wz : World), wz.heap.size = w.heap.size + 3 → wz.heap[w.heap.size]? = some o1 → wz.heap[w.heap.size + 1]? = some o2 → wz.heap[w.heap.size + 2]? = some o3 → Below w.heap.size w wz → o1 = .cells #[.int .i64 id] 3 (0, 0) → o2 = .cells #[.func fd #[] cd] 108 (0, 0) → o3 = .cells #[.int .u64 none_] 22 (0, 0) →
      Calls Tryz.prog 57 #[.pointer (some ⟨b, 0, none⟩), .func (.func 95) #[] #[.pointer (some ⟨w.heap.size, 0, none⟩)], .func (.func 96) #[] #[.pointer (some ⟨w.heap.size + 1, 0, none⟩), .pointer (some ⟨w.heap.size + 2, 0, none⟩)]] wz fun e w' => (∃ v, e = .returned v) ∧
        (∃ v, w'.cell? ⟨w.heap.size + 2, 0, none⟩ = some (.int .u64 v) ∧ v = p.l.foldl (fun s h => if (h.id == id) = true then ans h else s) none_) ∧ (PP b mo idl m { p with l := sweepH (p.l.map fun h => if (h.id == id) = true then pdo h else h) }).p S w' ∧ Off (fun k => S k ∨ T0 k) w w') := Lib.hid fun o1 o2 o3 wz hsz h1 h2 h3 hk e1 e2 e3 => by
    subst e1 e2 e3
    have hSl := (PP b mo idl m p).lt h
    refine (each_ok (T := fun k => (k = w.heap.size ∨ k = w.heap.size + 1 ∨ k = w.heap.size + 2) ∨ T0 k) (.func 95) (.func 96) #[.pointer (some ⟨w.heap.size, 0, none⟩)] #[.pointer (some ⟨w.heap.size + 1, 0, none⟩), .pointer (some ⟨w.heap.size + 2, 0, none⟩)] (fun h => h.id == id) pdo (fun h _ => ans h)
      (fun (v : Int) W => W.heap[w.heap.size]? = some (.cells #[.int .i64 id] 3 (0, 0)) ∧ W.heap[w.heap.size + 1]? = some (.cells #[.func fd #[] cd] 108 (0, 0)) ∧ W.heap[w.heap.size + 2]? = some (.cells #[.int .u64 v] 22 (0, 0)) ∧ Z0 W) none_
      (Thing.next h hk) ?_ ?_ ⟨h1, h2, h3, hZ _ _ hz0 fun k hk2 => hk.block k (hTl k hk2)⟩ ?_ ?_ ?_).mono ?_
    · rintro k (hk2 | hk2) hs
      · have := hSl k hs
        omega
      · exact hT k hk2 hs
    · rintro k (hk2 | hk2)
      · omega
      · have := hTl k hk2
        omega
    · rintro v W1 W2 ⟨q1, q2, q3, q4⟩ hq
      exact ⟨(hq _ (.inl (.inl rfl))).trans q1, (hq _ (.inl (.inr (.inl rfl)))).trans q2, (hq _ (.inl (.inr (.inr rfl)))).trans q3, hZ _ _ q4 fun k hk2 => hq k (.inr hk2)⟩
    · rintro r v W1 hl ⟨q1, _, _, _⟩ _
      exact ⟨95, #[lkV r, .pointer (some ⟨w.heap.size, 0, none⟩)], by simp [invoke, go_sem], dnis_U r _ id hl q1⟩
    · rintro r v W1 hl ⟨q1, q2, q3, q4⟩ hTn _
      obtain ⟨f, args, hi, hc⟩ := hdo r W1 hl q4
      refine ⟨96, #[lkV r, .pointer (some ⟨w.heap.size + 1, 0, none⟩), .pointer (some ⟨w.heap.size + 2, 0, none⟩)], by simp [invoke, go_sem], (dndo_U (R := fun w' => LK w' (r.set (pdo r.h)) ∧ Off (lkS r) W1 w') r _ (w.heap.size + 2) fd cd v (ans r.h) q2 hi (hc.mono ?_)).mono ?_⟩
      · rintro e w' ⟨rfl, k1, k2⟩
        exact ⟨rfl, (k2.block _ ((Array.getElem?_eq_some_iff.1 q3).1) fun e => hTn _ e (.inl (.inr (.inr rfl)))).trans q3, k1, k2⟩
      · rintro e w' ⟨hv, w1, ⟨k1, k2⟩, k3, rfl⟩
        have hne : ∀ k, k ≠ w.heap.size + 2 → (w1.setCell ⟨w.heap.size + 2, 0, none⟩ (.int .u64 (ans r.h))).heap[k]? = w1.heap[k]? := fun k hk2 => Below.heap_setCell _ _ _ _ fun e => hk2 (by first | exact e.symm | exact e)
        have hlt : ∀ k, ((k = w.heap.size ∨ k = w.heap.size + 1 ∨ k = w.heap.size + 2) ∨ T0 k) → k ≠ w.heap.size + 2 → k < W1.heap.size := by
          have l1 := (Array.getElem?_eq_some_iff.1 q1).1
          have l2 := (Array.getElem?_eq_some_iff.1 q2).1
          rintro k (hk2 | hk2) hk3
          · omega
          · have := hTl k hk2
            omega
        have hoff : ∀ k, ((k = w.heap.size ∨ k = w.heap.size + 1 ∨ k = w.heap.size + 2) ∨ T0 k) → k ≠ w.heap.size + 2 → (w1.setCell ⟨w.heap.size + 2, 0, none⟩ (.int .u64 (ans r.h))).heap[k]? = W1.heap[k]? := fun k hk2 hk3 => (hne k hk3).trans (k2.block k (hlt k hk2 hk3) fun e => hTn k e hk2)
        refine ⟨hv, k1.keep (fun k hk2 => hne k fun e => hTn k hk2 (.inl (.inr (.inr e)))) (by simp [World.setCell]), ⟨(hoff _ (.inl (.inl rfl)) (by omega)).trans q1, (hoff _ (.inl (.inr (.inl rfl))) (by omega)).trans q2, cset k3 0 _ rfl, hZ _ _ q4 fun k hk2 => hoff k (.inr hk2) (by have := hTl k hk2; omega)⟩, (k2.wide fun k hk2 => .inl hk2).setCell (p := ⟨w.heap.size + 2, 0, none⟩) (.inl (.inr (.inl (.inr (.inr rfl))))) _⟩
    · rintro e w' ⟨hv, ⟨_, _, q3, _⟩, hp, ho⟩
      have hsub : ∀ i, (S i ∨ ((i = w.heap.size ∨ i = w.heap.size + 1 ∨ i = w.heap.size + 2) ∨ T0 i)) → (S i ∨ T0 i) ∨ w.heap.size ≤ i := by
        rintro i (e | (e | e))
        · exact .inl (.inl e)
        · exact .inr (by omega)
        · exact .inl (.inr e)
      exact ⟨hv, ⟨_, (cellsAt q3 0 rfl).1, rfl⟩, hp, (Off.of (fun k => S k ∨ T0 k) hk).trans ho hsub⟩
  clear h hT hTl hz0 hZ hdo hid
  obtain ⟨wz, hwz⟩ : ∃ u, ((w.alloc (.cells #[.int .i64 id] 3)).alloc (.cells #[.func fd #[] cd] 108)).alloc (.cells #[.int .u64 none_] 22 (0, 0)) = u := ⟨_, rfl⟩
  have HC := Lib.hid (HS.out _ _ _ wz (by rw [← hwz]; simp) (by rw [← hwz]; exact (Below.heap_alloc _ _ _ (by simp; omega)).trans ((Below.heap_alloc _ _ _ (by simp)).trans (heap_alloc_new w _))) (by
      rw [← hwz]
      have := heap_alloc_new (w.alloc (.cells #[.int .i64 id] 3)) (.cells #[.func fd #[] cd] 108)
      rw [World.size_alloc] at this
      exact (Below.heap_alloc _ _ _ (by simp)).trans this) (by
      rw [← hwz]
      have := heap_alloc_new ((w.alloc (.cells #[.int .i64 id] 3)).alloc (.cells #[.func fd #[] cd] 108)) (.cells #[.int .u64 none_] 22 (0, 0))
      rw [World.size_alloc, World.size_alloc] at this
      exact this) (hwz ▸ kp_alloc (kp_alloc (kp_new _ _) _) _) rfl rfl rfl)
  have HWZ := Lib.hid hwz
  clear hwz HS
  go_enter Tryz.func55, Tryz.ntmps55
  go_wp2_with fail
  rw [HWZ.out]
  refine HC.out.mono ?_
  rintro e w4 ⟨⟨v0, rfl⟩, ⟨v, hv, hf⟩, hp, ho⟩
  have HQ := Lib.hid (And.intro hp ho)
  have hr := HR.out v (hf.trans HF.out)
  rw [hr] at hv
  clear hf hp ho hr HC HR HF
  go_wp2_with fail
  go_ret
  exact ⟨rfl, HQ.out⟩
end
end

/- Rows of held connections, as they lie in memory: of whatever package's type (no function of the program is named here). -/
section
open Go.RowKit
set_option maxRecDepth 100000

/-- one that is held, and the block of its connection -/
structure Hr where
  a : Nat
  h : Hd
instance : Inhabited Hr := ⟨⟨0, default⟩⟩
def Hr.cells (r : Hr) : List Value := [.int .i64 r.h.id, .pointer (some ⟨r.a, 0, none⟩), .int .u64 r.h.t]
def hrC (rs : List Hr) : List Value := rs.flatMap Hr.cells
theorem hrC_length : ∀ rs : List Hr, (hrC rs).length = rs.length * 3
  | [] => rfl
  | r :: rs => by
    have := hrC_length rs
    simp only [hrC, List.flatMap_cons, List.length_append, List.length_cons, Hr.cells, List.length_nil] at this ⊢
    omega
theorem hrC_append (a b : List Hr) : hrC (a ++ b) = hrC a ++ hrC b := by simp [hrC]
theorem hrC_at : ∀ (rs : List Hr) (j : Nat) (h : j < rs.length), (hrC rs)[j * 3]? = some (.int .i64 rs[j].h.id) ∧ (hrC rs)[j * 3 + 1]? = some (.pointer (some ⟨rs[j].a, 0, none⟩)) ∧ (hrC rs)[j * 3 + 2]? = some (.int .u64 rs[j].h.t)
  | [], _, h => by simp at h
  | r :: rs, 0, _ => by simp [hrC, Hr.cells]
  | r :: rs, j + 1, h => by
    have := hrC_at rs j (by simpa using h)
    have e1 : (j + 1) * 3 = j * 3 + 3 := by omega
    simp only [hrC, List.flatMap_cons] at this ⊢
    rw [e1]
    simpa [Hr.cells] using this
theorem hrC_one (rs : List Hr) : ∀ u ∈ hrC rs, u.oneCell' = true := by
  intro u hu
  simp only [hrC, List.mem_flatMap] at hu
  obtain ⟨r, _, h⟩ := hu
  simp only [Hr.cells, List.mem_cons, List.not_mem_nil, or_false] at h
  rcases h with rfl | rfl | rfl <;> rfl
/-- what is written of one is its cells: another connection's state changes none -/
theorem hrC_set_same : ∀ (rs : List Hr) (j : Nat) (r : Hr) (hj : j < rs.length), r.cells = rs[j].cells → hrC (rs.set j r) = hrC rs
  | [], _, _, h, _ => by simp at h
  | x :: rs, 0, r, _, e => by
    have e' : r.cells = x.cells := e
    simp [hrC, e']
  | x :: rs, j + 1, r, h, e => by
    have := hrC_set_same rs j r (by simpa using h) e
    simp only [hrC, List.set_cons_succ, List.flatMap_cons] at this ⊢
    rw [this]
theorem hrC_set : ∀ (rs : List Hr) (j : Nat) (v : Int) (hj : j < rs.length), hrC (rs.set j ⟨rs[j].a, { rs[j].h with t := v }⟩) = (hrC rs).set (j * 3 + 2) (.int .u64 v)
  | [], _, _, h => by simp at h
  | x :: rs, 0, v, _ => by simp [hrC, Hr.cells]
  | x :: rs, j + 1, v, h => by
    have := hrC_set rs j v (by simpa using h)
    have e1 : (j + 1) * 3 + 2 = (j * 3 + 2) + 3 := by omega
    simp only [hrC, List.set_cons_succ, List.flatMap_cons, List.getElem_cons_succ] at this ⊢
    rw [e1, this]
    simp [Hr.cells]
/-- a kind of connection: it lies in one block -/
structure CK (K : Nat → Int → Cn → Thing) : Prop where
  own : ∀ {a ep c S w}, (K a ep c).p S w → S a
  only : ∀ {a ep c S w}, (K a ep c).p S w → (K a ep c).p (fun k => k = a) w
/-- a row of held connections -/
structure HL (e : TypeId) (K : Nat → Int → Cn → Thing) (w : World) (A : Option Addr) (n c : Nat) (rs : List Hr) : Prop where
  own : w.ownsRow 0 e 3 (.slice A n c) n (hrC rs)
  cs : ∀ r ∈ rs, (K r.a r.h.ep r.h.c).p (fun k => k = r.a) w
  nd : (rs.map Hr.a).Nodup
  ap : ∀ r ∈ rs, (Value.slice A n c).ownBlock ≠ some r.a
/-- its blocks -/
def hlS (A : Option Addr) (n c : Nat) (rs : List Hr) (k : Nat) : Prop := (Value.slice A n c).ownBlock = some k ∨ ∃ r ∈ rs, r.a = k
section
variable {e : TypeId} {K : Nat → Int → Cn → Thing} {w w' : World} {A : Option Addr} {n c : Nat} {rs : List Hr}
theorem HL.len (h : HL e K w A n c rs) : rs.length = n := by
  have := h.own.1
  rw [hrC_length] at this
  omega
theorem HL.nil (e : TypeId) (K : Nat → Int → Cn → Thing) (w : World) : HL e K w none 0 0 [] := ⟨World.ownsRow_nil _ _ _ _, (fun _ h => by cases h), List.nodup_nil, (fun _ h => by cases h)⟩
theorem HL.keep (h : HL e K w A n c rs) (hk : ∀ k, hlS A n c rs k → w'.heap[k]? = w.heap[k]?) (hz : w.heap.size ≤ w'.heap.size) : HL e K w' A n c rs :=
  ⟨own_keep h.own fun g e => hk g (.inl e), fun r hr => (K r.a r.h.ep r.h.c).keep (h.cs r hr) (fun k e => hk k (.inr ⟨r, hr, e.symm⟩)) hz, h.nd, h.ap⟩
theorem HL.lt (h : HL e K w A n c rs) : ∀ k, hlS A n c rs k → k < w.heap.size := by
  rintro k (hk | ⟨r, hr, rfl⟩)
  · exact (h.own.lt k hk).2
  · exact (K r.a r.h.ep r.h.c).lt (h.cs r hr) _ rfl
theorem HL.next (h : HL e K w A n c rs) (hb : Below w.heap.size w w') : HL e K w' A n c rs := h.keep (fun k hk => hb.block k (h.lt k hk)) hb.size
theorem HL.cap (h : HL e K w A n c rs) : n ≤ c := by
  obtain ⟨A', c', h1, h2, _⟩ := own_form_s h.own
  simp only [Value.slice.injEq] at h1
  obtain ⟨_, _, rfl⟩ := h1
  exact h2
/-- one at a place -/
theorem HL.at_ (h : HL e K w A n c rs) {j : Nat} (hj : j < rs.length) : ∃ g : Nat, A = some ⟨g, 0, none⟩ ∧ g < w.heap.size ∧ (∃ cur, w.heap[g]? = some (.cells cur e (0, 0))) ∧
    w.cell? ⟨g, j * 3, none⟩ = some (.int .i64 rs[j].h.id) ∧ w.cell? ⟨g, j * 3 + 1, none⟩ = some (.pointer (some ⟨rs[j].a, 0, none⟩)) ∧ w.cell? ⟨g, j * 3 + 2, none⟩ = some (.int .u64 rs[j].h.t) ∧
    w.frozen? ⟨g, j * 3 + 2, none⟩ = false := by
  have hh := h.own
  have hl := h.len
  rcases h.own.2 with ⟨_, h2⟩ | ⟨g, cap, cur, h1, _, hg, _⟩
  · have h3 : (Value.slice A n c) = .slice none 0 0 ∨ n = 0 := by first | exact .inr h2 | exact .inl (by assumption)
    rcases h3 with h3 | h3
    · simp only [Value.slice.injEq] at h3
      omega
    · omega
  · injection h1 with h1 _ _
    subst h1
    obtain ⟨e0, e1, e2⟩ := hrC_at rs j hj
    have key : ∀ i v, (hrC rs)[i]? = some v → w.cell? ⟨g, i, none⟩ = some v := fun i v hv => by
      have := hh.cells (g := g) rfl i v hv
      have ha : (⟨g, 0, none⟩ : Addr).add i = ⟨g, i, none⟩ := by unfold Addr.add; split <;> simp_all
      rwa [ha] at this
    exact ⟨g, rfl, (Array.getElem?_eq_some_iff.1 hg).1, ⟨cur, hg⟩, key _ _ e0, key _ _ e1, key _ _ e2, frozen_of_row w g _ cur e hg⟩
/-- one connection turned -/
theorem HL.turn (hK : CK K) (h : HL e K w A n c rs) {j : Nat} (hj : j < rs.length) {c' : Cn} (ht : Turn (K rs[j].a rs[j].h.ep c') (fun k => k = rs[j].a) w w') : HL e K w' A n c (rs.set j ⟨rs[j].a, rs[j].h.set c'⟩) := by
  obtain ⟨⟨S', p', _⟩, ho⟩ := ht
  have hmem : rs[j] ∈ rs := List.getElem_mem hj
  refine ⟨?_, ?_, ?_, ?_⟩
  · rw [hrC_set_same rs j ⟨rs[j].a, rs[j].h.set c'⟩ hj rfl]
    exact own_keep h.own fun g hg => ho.block g (h.own.lt g hg).2 fun e => h.ap _ hmem (e ▸ hg)
  · intro r hr
    obtain ⟨i, hi, rfl⟩ := List.mem_iff_getElem.1 hr
    have hi' : i < rs.length := by simpa using hi
    by_cases hij : j = i
    · subst hij
      rw [List.getElem_set_self]
      exact hK.only p'
    · rw [List.getElem_set_ne hij]
      have hra : rs[i].a ≠ rs[j].a := fun e => hij ((List.getElem_inj (i := i) (j := j) (h₀ := by simpa using hi') (h₁ := by simpa using hj) h.nd).1 (by simpa using e)).symm
      exact (K _ _ _).keep (h.cs _ (List.getElem_mem hi')) (fun k e => ho.block k ((K _ _ _).lt (h.cs _ (List.getElem_mem hi')) k e) (fun e2 => hra (e.symm.trans e2))) ho.size
  · rw [List.map_set]
    have : (rs.map Hr.a).set j rs[j].a = rs.map Hr.a := by
      apply List.ext_getElem
      · simp
      · intro i h1 h2
        by_cases hij : j = i
        · subst hij; simp
        · simp [List.getElem_set_ne hij]
    rw [this]
    exact h.nd
  · intro r hr
    rcases List.mem_or_eq_of_mem_set hr with hr | rfl
    · exact h.ap r hr
    · exact h.ap rs[j] hmem
end
end

/- The document's layer 8: Drop, Same: contracts. -/
section
open Go.RowKit
set_option maxRecDepth 100000

section
variable {b : Nat} {m : Int} {l : List Int} {S : Nat → Prop} {w : World}
set_option maxHeartbeats 8000000 in
theorem rdrop_ok (x : Int) (h : (RW b m l).p S w) :
    Calls Tryz.prog 29 #[.pointer (some ⟨b, 0, none⟩), .int .i64 x] w fun e w' => e = .returned (.bool (decide (0 ≤ atW x l))) ∧ Turn (RW b m (dropW x l)) S w w' := by
  have HF := Lib.hid (rat_ok x h)
  have H := Lib.hid h
  obtain ⟨A, n, c, hb, hx, hS, hA, hlt, hm, hm2⟩ := RW.at_ h
  obtain ⟨b0, b1, f0, f1⟩ := cells2t hb
  have hl := hx.nr.len
  have hge := atW_ge x l
  clear h
  by_cases hp : atW x l < 0
  · have hi : atW x l = -1 := by omega
    rw [dropW_not hi, hi]
    rw [hi] at HF
    clear hp hi hge hb
    go_enter Tryz.func29, Tryz.ntmps29
    go_wp2_with fail
    refine HF.out.mono ?_
    rintro e w1 ⟨rfl, rfl⟩
    go_wp2_with fail
    go_ret
    exact ⟨rfl, Turn.here H.out⟩
  · obtain ⟨i, hi⟩ : ∃ i : Nat, atW x l = i := ⟨(atW x l).toNat, by omega⟩
    have hil := (atW_is hi).1
    have hdl : ((dropW x l).length : Int) ≤ m := by have := dropW_len x l; omega
    have HD := Lib.hid (dropW_at hi)
    rw [hi] at HF
    rw [hi]
    have hin : i < n := by omega
    obtain ⟨A1, run1, hx1⟩ := hx.cut0 Tryz.prog 45 (by kernel_rfl) (by kernel_rfl) (j := i) i rfl (by omega)
    obtain ⟨A2, run2, hx2⟩ := hx.cut1 Tryz.prog 45 (by kernel_rfl) (by kernel_rfl) (i := i + 1) ((i : Int) + 1) (by omega) (by omega)
    have hltb : b < w.heap.size := hlt b hS
    have HLB := Lib.hid hltb
    have HB1 : Hid ((w.drew.alloc (.cells #[] 3)).heap[b]? = some (.cells #[.slice A n c, .int .i64 m] 48 (0, 0))) := Lib.hid (((World.grownBy_alloc w.drew _ none).block _ (by simpa using hltb) (by simp)).trans hb)
    obtain ⟨g0, g1, q0, q1⟩ := cells2t HB1.out
    have HO1 : Hid ((w.drew.alloc (.cells #[] 3)).ownsRow w.heap.size 3 1 (.slice (some ⟨w.heap.size, 0, none⟩) 0 0) 0 []) := Lib.hid (own_new_s w.drew w.heap.size 1 3 0 [] rfl (Nat.le_refl _) (Nat.zero_le _))
    have HR1 := Lib.hid (hx1.nr.next (kp_new w (.cells #[] 3)))
    have HX2 := Lib.hid hx2.nr
    have HKA := Lib.hid (kp_alloc (Below.refl w.heap.size w).drew (.cells #[] 3))
    have HS1 := Lib.hid (show w.heap.size ≤ (w.drew.alloc (.cells #[] 3)).heap.size by simp)
    obtain ⟨n2, hn2⟩ : ∃ n2, n2 = n - (i + 1) := ⟨_, rfl⟩
    obtain ⟨c2, hc2⟩ : ∃ c2, c2 = c - (i + 1) := ⟨_, rfl⟩
    rw [← hn2, ← hc2] at run2
    rw [← hn2] at HX2
    have hwr : IntKind.i64.wrap ((i : Int) + 1) = (i : Int) + 1 := by rw [IntKind.wrap_i64]; omega
    have HN1 := Lib.hid (show i ≤ 12 by omega)
    have HN2 := Lib.hid (show n2 ≤ 12 by omega)
    obtain ⟨i0, hi0, hz0, hz1, hz2⟩ := info_parts intinfo8
    clear hb hx hx1 hx2 hl hm hm2 hlt hA hge hp hi hn2 hc2 hil
    go_enter Tryz.func29, Tryz.ntmps29
    go_wp2_with fail
    refine HF.out.mono ?_
    rintro e w1 ⟨rfl, rfl⟩
    go_wp2_with fail
    go_region_law? (first | (refine step_append_rd rfl (.tmp 12) (.tmp 18) _ rfl w.heap.size 3 i0 _ 8 Tryz.underlying45 hi0 hz0 hz1 hz2 rfl _ 0 _ rfl HO1.out _ _ _ _ (ivs (l.take i)) rfl (by rw [ivs_length]; exact HR1.out.len) HR1.out.rd (ivs_one _) (by have := HN1.out; unfold maxLen; omega) (by have := HN1.out; omega) HS1.out ?_; intro v3 w3 hown3 hg3; rw [Nat.zero_add, List.nil_append] at hown3; obtain ⟨A3, c3, rfl, _, _⟩ := own_form hown3; have HO3 := Lib.hid hown3; have HG3 := Lib.hid hg3; have HR3 := Lib.hid (HX2.out.next (HKA.out.trans (below_own_s HO1.out hg3 HS1.out))); have HS3 := Lib.hid (Nat.le_trans HS1.out hg3.size); have HB3 : Hid (w3.heap[b]? = some (.cells #[.slice A n c, .int .i64 m] 48 (0, 0))) := Lib.hid ((hg3.block b (Nat.lt_of_lt_of_le HLB.out HS1.out) (fun e => by have := (HO1.out.lt _ e.symm).1; have := HLB.out; omega)).trans HB1.out); obtain ⟨k0, k1, p0, p1⟩ := cells2t HB3.out) | (refine step_append_rd rfl (.tmp 19) (.tmp 26) _ rfl w.heap.size 3 i0 _ 8 Tryz.underlying45 hi0 hz0 hz1 hz2 rfl _ i _ rfl HO3.out _ _ _ _ (ivs (l.drop (i + 1))) rfl (by rw [ivs_length]; exact HR3.out.len) HR3.out.rd (ivs_one _) (by have := HN1.out; have := HN2.out; unfold maxLen; omega) (by have := HN1.out; have := HN2.out; omega) HS3.out ?_; intro v5 w5 hown5 hg5; obtain ⟨A5, c5, rfl, _, _⟩ := own_form hown5; have HO5 := Lib.hid hown5; have HG5 := Lib.hid hg5; have HB5 : Hid (w5.heap[b]? = some (.cells #[.slice A n c, .int .i64 m] 48 (0, 0))) := Lib.hid ((hg5.block b (Nat.lt_of_lt_of_le HLB.out HS3.out) (fun e => by have := (HO3.out.lt _ e.symm).1; have := HLB.out; omega)).trans HB3.out); obtain ⟨m0, m1, s0, s1⟩ := cells2t HB5.out))
    all_goals
      go_wp2_with fail
      go_ret
      refine ⟨rfl, RW.turn H.out (heap_setCell_same w5 b 0 _ _ _ HB5.out) ?_ (Off.setCell (Off.of S ?_) (.inl hS) _) hdl⟩
      · rw [HD.out, ivs_append]
        exact ownsRow_setCell_other (a := ⟨b, 0, none⟩) HO5.out (own_type_ne HO5.out HB5.out (by decide)) _
      · exact (HKA.out.trans (below_own_s HO1.out HG3.out HS1.out)).trans (below_own_s HO3.out HG5.out HS3.out)
end
end

/- The document's layer 10: a pool in memory; find, sweep: contracts. -/
section
open Go.RowKit
set_option maxRecDepth 100000

theorem RC.ck : CK RC where
  own := fun ⟨_, h, _, _⟩ => h
  only := fun ⟨h1, h2, h3, h4⟩ => ⟨h1, rfl, fun _ e => e ▸ h3 _ h2, h4⟩
/-- a pool of the document's, as it lies -/
structure RPm (b : Nat) (mo idl m : Int) (p : Pl) (rs : List Hr) (A : Option Addr) (n c rb : Nat) (SR : Nat → Prop) (S : Nat → Prop) (w : World) : Prop where
  top : w.heap[b]? = some (.cells #[.int .i64 mo, .int .u64 idl, .pointer (some ⟨rb, 0, none⟩), .slice A n c, .int .i64 p.last] 52 (0, 0))
  l : rs.map Hr.h = p.l
  hl : HL 81 RC w A n c rs
  row : (RW rb m p.row).p SR w
  sb : S b
  sr : ∀ k, SR k → S k
  sl : ∀ k, hlS A n c rs k → S k
  lt : ∀ k, S k → k < w.heap.size
  ar : ∀ k, SR k → k ≠ b ∧ ¬ hlS A n c rs k
  al : ¬ hlS A n c rs b
  few : (p.l.length : Int) ≤ mo ∧ mo ≤ 6
def RPp (b : Nat) (mo idl m : Int) (p : Pl) (S : Nat → Prop) (w : World) : Prop := ∃ rs A n c rb SR, RPm b mo idl m p rs A n c rb SR S w
theorem RPm.keep {b : Nat} {mo idl m : Int} {p : Pl} {rs : List Hr} {A : Option Addr} {n c rb : Nat} {SR S : Nat → Prop} {w w' : World} (h : RPm b mo idl m p rs A n c rb SR S w) (hk : ∀ k, S k → w'.heap[k]? = w.heap[k]?) (hz : w.heap.size ≤ w'.heap.size) : RPm b mo idl m p rs A n c rb SR S w' :=
  ⟨(hk b h.sb).trans h.top, h.l, h.hl.keep (fun k e => hk k (h.sl k e)) hz, (RW rb m p.row).keep h.row (fun k e => hk k (h.sr k e)) hz, h.sb, h.sr, h.sl, fun k e => Nat.lt_of_lt_of_le (h.lt k e) hz, h.ar, h.al, h.few⟩
def RP (b : Nat) (mo idl m : Int) (p : Pl) : Thing where
  p := RPp b mo idl m p
  keep := fun ⟨rs, A, n, c, rb, SR, h⟩ hk hz => ⟨rs, A, n, c, rb, SR, h.keep hk hz⟩
  lt := fun ⟨_, _, _, _, _, _, h⟩ => h.lt

section
variable {b : Nat} {mo idl m : Int} {p : Pl} {S : Nat → Prop} {w : World}
theorem RP.at_ (h : (RP b mo idl m p).p S w) : ∃ rs A n c rb SR, RPm b mo idl m p rs A n c rb SR S w := h
theorem rpcells {rb n c : Nat} {A : Option Addr} {la : Int} (h : w.heap[b]? = some (.cells #[.int .i64 mo, .int .u64 idl, .pointer (some ⟨rb, 0, none⟩), .slice A n c, .int .i64 la] 52 (0, 0))) :
    (w.cell? ⟨b, 0, none⟩ = some (.int .i64 mo) ∧ w.cell? ⟨b, 1, none⟩ = some (.int .u64 idl) ∧ w.cell? ⟨b, 2, none⟩ = some (.pointer (some ⟨rb, 0, none⟩)) ∧ w.cell? ⟨b, 3, none⟩ = some (.slice A n c) ∧ w.cell? ⟨b, 4, none⟩ = some (.int .i64 la)) ∧ w.frozen? ⟨b, 3, none⟩ = false ∧ w.frozen? ⟨b, 4, none⟩ = false :=
  ⟨⟨(cellsAt h 0 rfl).1, (cellsAt h 1 rfl).1, (cellsAt h 2 rfl).1, (cellsAt h 3 rfl).1, (cellsAt h 4 rfl).1⟩, (cellsAt h 3 rfl).2, (cellsAt h 4 rfl).2⟩
/-- how long its row is -/
theorem RP.len (h : (RP b mo idl m p).p S w) : ∃ A c, w.cell? ⟨b, 3, none⟩ = some (.slice A p.l.length c) ∧ p.l.length ≤ 6 := by
  obtain ⟨rs, A, n, c, rb, SR, h⟩ := RP.at_ h
  have hn : p.l.length = n := by rw [← h.l, List.length_map]; exact h.hl.len
  have := h.few
  refine ⟨A, c, ?_, by omega⟩
  rw [hn]
  exact (rpcells h.top).1.2.2.2.1
/-- one that it holds: what becomes of the pool if its connection turns -/
theorem RPm.call {rs : List Hr} {A : Option Addr} {n c rb : Nat} {SR : Nat → Prop} {w' : World} (h : RPm b mo idl m p rs A n c rb SR S w) {i : Nat} (hi : i < p.l.length) (hj : i < rs.length) (he : rs[i].h = p.l[i]) {c' : Cn}
    (ht : Turn (RC rs[i].a p.l[i].ep c') (fun k => k = rs[i].a) w w') : Turn (RP b mo idl m { p with l := p.l.set i (p.l[i].set c') }) S w w' := by
  have ho := ht.off
  have hm : hlS A n c rs rs[i].a := .inr ⟨_, List.getElem_mem hj, rfl⟩
  have hb : b ≠ rs[i].a := fun e => h.al (e ▸ hm)
  have ht' : Turn (RC rs[i].a rs[i].h.ep c') (fun k => k = rs[i].a) w w' := by rw [he]; exact ht
  have hl' := h.hl.turn RC.ck hj ht'
  have hs : ∀ k, hlS A n c (rs.set i ⟨rs[i].a, rs[i].h.set c'⟩) k → hlS A n c rs k := by
    rintro k (hk | ⟨r, hr, hk⟩)
    · exact .inl hk
    · rcases List.mem_or_eq_of_mem_set hr with hr | rfl
      · exact .inr ⟨r, hr, hk⟩
      · exact .inr ⟨rs[i], List.getElem_mem hj, hk⟩
  refine ⟨⟨S, ⟨rs.set i ⟨rs[i].a, rs[i].h.set c'⟩, _, n, c, rb, SR, ⟨(ho.block b (h.lt b h.sb) hb).trans h.top, ?_, hl', ?_, h.sb, h.sr, fun k hk => h.sl k (hs k hk), fun k hk => Nat.lt_of_lt_of_le (h.lt k hk) ho.size, fun k hk => ⟨(h.ar k hk).1, fun e => (h.ar k hk).2 (hs k e)⟩, fun e => h.al (hs b e), ?_⟩⟩, fun k hk => .inl hk⟩, ho.wide fun k e => e ▸ h.sl _ hm⟩
  · rw [List.map_set, h.l, he]
  · exact Thing.off h.row ho fun k hk e => (h.ar k hk).2 (e ▸ hm)
  · have := h.few
    simpa using this
/-- one that it holds: where it lies, here and in whatever world leaves alone what is here -/
theorem RP.get (h : (RP b mo idl m p).p S w) {i : Nat} (hi : i < p.l.length) : ∃ g c a : Nat, g < w.heap.size ∧ ∀ u, Below w.heap.size w u → w.cell? ⟨b, 3, none⟩ = some (.slice (some ⟨g, 0, none⟩) p.l.length c) ∧ u.cell? ⟨b, 1, none⟩ = some (.int .u64 idl) ∧ u.cell? ⟨b, 3, none⟩ = some (.slice (some ⟨g, 0, none⟩) p.l.length c) ∧
    u.cell? ⟨g, i * 3, none⟩ = some (.int .i64 p.l[i].id) ∧ u.cell? ⟨g, i * 3 + 1, none⟩ = some (.pointer (some ⟨a, 0, none⟩)) ∧ u.cell? ⟨g, i * 3 + 2, none⟩ = some (.int .u64 p.l[i].t) ∧
    (RC a p.l[i].ep p.l[i].c).p (fun k => k = a) u ∧ ∀ c' w', Turn (RC a p.l[i].ep c') (fun k => k = a) u w' → Turn (RP b mo idl m { p with l := p.l.set i (p.l[i].set c') }) S u w' := by
  obtain ⟨rs, A, n, c, rb, SR, h⟩ := RP.at_ h
  have hlen : rs.length = p.l.length := by rw [← h.l, List.length_map]
  have hn : p.l.length = n := by rw [← hlen]; exact h.hl.len
  have hj : i < rs.length := by omega
  have he : rs[i].h = p.l[i] := by
    have h1 : (rs.map Hr.h)[i]'(by simpa using hj) = p.l[i] := by simp only [h.l]
    simpa using h1
  obtain ⟨g, hA, hg, _, e0, e1, e2, _⟩ := h.hl.at_ hj
  subst hA
  have hcs := h.hl.cs _ (List.getElem_mem hj)
  rw [he] at e0 e2 hcs
  refine ⟨g, c, rs[i].a, hg, fun u hu => ?_⟩
  have hk := h.keep (fun k e => hu.block k (h.lt k e)) hu.size
  have hgu : u.heap[g]? = w.heap[g]? := hu.block g hg
  rw [hn]
  exact ⟨(rpcells h.top).1.2.2.2.1, (rpcells hk.top).1.2.1, (rpcells hk.top).1.2.2.2.1, (World.cell?_of_block (a := ⟨g, i * 3, none⟩) hgu).trans e0, (World.cell?_of_block (a := ⟨g, i * 3 + 1, none⟩) hgu).trans e1, (World.cell?_of_block (a := ⟨g, i * 3 + 2, none⟩) hgu).trans e2,
    Thing.next hcs hu, fun c' w' ht => hk.call hi hj he ht⟩

set_option maxHeartbeats 2000000 in
theorem rfind_ok10 (id : Int) (h : (RP b mo idl m p).p S w) :
    Calls Tryz.prog 67 #[.pointer (some ⟨b, 0, none⟩), .int .i64 id] w fun e w' => e = .returned (.int .i64 (findH id p.l)) ∧ w = w' := by
  have H := Lib.hid h
  obtain ⟨A, c, c3, hl6⟩ := RP.len h
  have HR := Lib.hid (rfl : findH id p.l = findH id p.l)
  clear h
  obtain ⟨N, hN⟩ : ∃ N, p.l.length = N := ⟨_, rfl⟩
  have HN := Lib.hid hN
  rw [hN] at c3 hl6
  clear hN
  go_enter Tryz.func67, Tryz.ntmps67
  go_wp2
  go_loopw [5] (fun i wr => ∃ k : Nat, k ≤ N ∧ i = .int .i64 k ∧ Hid (∀ j (hj : j < p.l.length), j < k → (p.l[j].id == id) = false) ∧ wr = w) (fun i _ => N - (intOf i).toNat)
  case atStart => exact ⟨0, Nat.zero_le _, rfl, Lib.hid (fun j _ h => absurd h (Nat.not_lt_zero _)), rfl⟩
  case round =>
    obtain ⟨k, hk, rfl, hne, rfl⟩ := hrel
    by_cases hlt : k < N
    · have hkl : k < p.l.length := by rw [HN.out]; exact hlt
      obtain ⟨g, cc, a, _, hu⟩ := RP.get H.out hkl
      obtain ⟨_, _, q3, q0, _⟩ := hu wr (Below.refl _ _)
      clear hu
      rw [HN.out] at q3
      have hAc : A = some ⟨g, 0, none⟩ ∧ c = cc := by
        rw [c3] at q3
        simp only [Option.some.injEq, Value.slice.injEq, true_and] at q3
        exact q3
      obtain ⟨rfl, rfl⟩ := hAc
      clear q3
      by_cases he : p.l[k].id = id
      · have hp : Hid (findH id p.l = k) := Lib.hid (firstH_at hkl hne.out (by simpa using he))
        have hq : (p.l[k].id == id) = true := by simpa using he
        clear he hne HR
        generalize p.l[k].id = y at *
        go_wp2_with fail
        go_ret
        exact ⟨by rw [hp.out]; rfl, rfl⟩
      · have hne2 : Hid (∀ j (hj : j < p.l.length), j < k + 1 → (p.l[j].id == id) = false) := Lib.hid (fun j hj hjk => by
          by_cases h : j = k
          · subst h; simpa using he
          · exact hne.out j hj (by omega))
        have hq : (p.l[k].id == id) = false := by simpa using he
        clear he hne HR
        generalize p.l[k].id = y at *
        go_wp2_with fail
        go_roundw
        case rel => exact ⟨k + 1, by omega, by go_num, hne2, trivial⟩
        case measure => simp [intOf]; omega
    · have hp : Hid (findH id p.l = -1) := Lib.hid (firstH_none fun y hy => by
        obtain ⟨j, hj, rfl⟩ := List.getElem_of_mem hy
        exact hne.out j hj (by have := HN.out; omega))
      clear hne HR
      go_wp2_with fail
      go_ret
      exact ⟨by rw [hp.out]; rfl, rfl⟩
end
end

/- The document's layer 10: a pool's row laid anew; sweep, Drain: contracts. -/
section
open Go.RowKit
set_option maxRecDepth 100000

theorem heldinfo : (Tryz.prog.info? 81).map (fun i => (i.zero, i.size, i.bytes)) = some (some (.agg #[.int .i64 0, .pointer none, .int .u64 0]), 3, 24) := by kernel_rfl
theorem hrF_next (f : Hr → Bool) (rs : List Hr) (k : Nat) (h : k < rs.length) : (rs.take (k + 1)).filter f = (rs.take k).filter f ++ (if f rs[k] then [rs[k]] else []) := by
  rw [List.take_succ_eq_append_getElem h, List.filter_append]
  congr 1
  simp only [List.filter_cons, List.filter_nil]
section
variable {b : Nat} {mo idl m : Int} {p : Pl} {S : Nat → Prop} {w : World}
theorem RPm.relist {rs rs' : List Hr} {A D : Option Addr} {n c q e rb : Nat} {SR : Nat → Prop} {w1 : World} (h : RPm b mo idl m p rs A n c rb SR S w) (hb : Below w.heap.size w w1) (ho : w1.ownsRow w.heap.size 81 3 (.slice D q e) q (hrC rs'))
    (hcs : ∀ r ∈ rs', (RC r.a r.h.ep r.h.c).p (fun k => k = r.a) w1) (hnd : (rs'.map Hr.a).Nodup) (hnew : ∀ r ∈ rs', r ∈ rs ∨ ¬ S r.a) (ha : ∀ r ∈ rs', r.a < w.heap.size) (hf : (rs'.length : Int) ≤ mo) :
    RPm b mo idl m { p with l := rs'.map Hr.h } rs' D q e rb SR (fun k => S k ∨ (w.heap.size ≤ k ∧ k < w1.heap.size) ∨ ∃ r ∈ rs', r.a = k) (w1.setCell ⟨b, 3, none⟩ (.slice D q e)) ∧ Off S w (w1.setCell ⟨b, 3, none⟩ (.slice D q e)) := by
  have h1 := h.keep (fun k e => hb.block k (h.lt k e)) hb.size
  have hz : (w1.setCell ⟨b, 3, none⟩ (.slice D q e)).heap.size = w1.heap.size := by simp
  have hDb : ∀ k, (Value.slice D q e).ownBlock = some k → w.heap.size ≤ k ∧ k < w1.heap.size := fun k e => ho.lt k e
  have hbl := h.lt b h.sb
  have hrb : ∀ r ∈ rs', r.a ≠ b := fun r hr e => (hnew r hr).elim (fun h2 => h.al (.inr ⟨r, h2, e⟩)) (fun h2 => h2 (e ▸ h.sb))
  refine ⟨⟨rset h1.top 3 _ rfl, rfl, ⟨?_, fun r hr => ?_, hnd, fun r hr e => ?_⟩, ?_, .inl h.sb, fun k e => .inl (h.sr k e), ?_, ?_, ?_, ?_, ⟨by simpa using hf, h.few.2⟩⟩, (Off.of S hb).setr h.sb 3 _⟩
  · exact ownsRow_setCell_other (a := ⟨b, 3, none⟩) (own_base_s ho (Nat.zero_le _)) (fun e => by have := (hDb b e).1; omega) _
  · exact (RC r.a r.h.ep r.h.c).keep (hcs r hr) (fun k e => Below.heap_setCell _ _ _ _ (fun e2 => hrb r hr (e.symm.trans e2))) (by rw [hz]; exact Nat.le_refl _)
  · have := (hDb _ e).1
    have := ha r hr
    omega
  · exact (RW rb m p.row).keep h1.row (fun k e => Below.heap_setCell _ _ _ _ (fun e2 => (h.ar k e).1 e2)) (by rw [hz]; exact Nat.le_refl _)
  · rintro k (e | ⟨r, hr, e⟩)
    · exact .inr (.inl (hDb k e))
    · exact .inr (.inr ⟨r, hr, e⟩)
  · intro k hk
    rw [hz]
    rcases hk with hk | hk | ⟨r, hr, rfl⟩
    · exact Nat.lt_of_lt_of_le (h.lt k hk) hb.size
    · exact hk.2
    · exact Nat.lt_of_lt_of_le (ha r hr) hb.size
  · intro k hk
    refine ⟨(h.ar k hk).1, ?_⟩
    rintro (e | ⟨r, hr, rfl⟩)
    · have := (hDb k e).1
      have := h.lt k (h.sr k hk)
      omega
    · rcases hnew r hr with h2 | h2
      · exact (h.ar _ hk).2 (.inr ⟨r, h2, rfl⟩)
      · exact h2 (h.sr _ hk)
  · rintro (e | ⟨r, hr, e⟩)
    · have := (hDb b e).1
      omega
    · exact hrb r hr e

set_option maxHeartbeats 4000000 in
theorem rsweep_ok (h : (RP b mo idl m p).p S w) :
    Calls Tryz.prog 70 #[.pointer (some ⟨b, 0, none⟩)] w fun e w' => e = .returned (.tuple #[]) ∧ Turn (RP b mo idl m (sweepP p)) S w w' := by
  obtain ⟨rs, A, n, c, rb, SR, hm⟩ := RP.at_ h
  have hlen : rs.length = p.l.length := by rw [← hm.l, List.length_map]
  have hn := hm.hl.len
  have hn6 : n ≤ 6 := by have := hm.few; omega
  have hlive : (rs.filter fun r => r.h.live).map Hr.h = (sweepP p).l := by
    unfold sweepP sweepH
    rw [← hm.l, List.filter_map]
    rfl
  have HM := Lib.hid hm
  have HLV := Lib.hid hlive
  have HN := Lib.hid hn
  obtain ⟨⟨_, _, _, c3, _⟩, _⟩ := rpcells hm.top
  have kw := Lib.hid (kp_new w (.cells #[] 81))
  have HO0 : Hid ((w.alloc (.cells #[] 81)).ownsRow w.heap.size 81 3 (.slice (some ⟨w.heap.size, 0, none⟩) 0 0) 0 (hrC ((rs.take 0).filter fun r => r.h.live))) := Lib.hid (own_new_s w w.heap.size 3 81 0 [] rfl (Nat.le_refl _) (Nat.zero_le _))
  obtain ⟨i0, hi, hz0, hz1, hz2⟩ := info_parts heldinfo
  clear h hm hlive hn hlen
  go_enter Tryz.func70, Tryz.ntmps70
  go_wp2_with fail
  clear c3
  go_loopw [2, 3] (fun o i wr => ∃ (k q e : Nat) (D : Option Addr), k ≤ n ∧ q ≤ k ∧ i = .int .i64 k ∧ o = .slice D q e ∧ Hid (wr.ownsRow w.heap.size 81 3 (.slice D q e) q (hrC ((rs.take k).filter fun r => r.h.live))) ∧ Hid (Below w.heap.size w wr)) (fun _ i _ => n - (intOf i).toNat)
  case atStart => exact ⟨0, 0, 0, _, Nat.zero_le _, Nat.le_refl _, rfl, rfl, HO0, kw⟩
  case round =>
    obtain ⟨k, q, e, D, hk, hqk, rfl, rfl, ho, hb⟩ := hrel
    have hmr := HM.out.keep (fun k e => hb.out.block k (HM.out.lt k e)) hb.out.size
    obtain ⟨⟨_, _, _, c3, _⟩, f3, _⟩ := rpcells hmr.top
    by_cases hlt : k < n
    · have hkl : k < rs.length := by rw [HN.out]; exact hlt
      obtain ⟨g, hA, hg, _, e0, e1, e2, _⟩ := hmr.hl.at_ hkl
      subst hA
      obtain ⟨⟨_, s1, _⟩, _⟩ := rcell (RC.at_ (hmr.hl.cs _ (List.getElem_mem hkl))).1
      have hnx := hrF_next (fun r => r.h.live) rs k hkl
      have hwr : w.heap.size ≤ wr.heap.size := hb.out.size
      by_cases hv : rs[k].h.live = true
      · rw [if_pos hv] at hnx
        have hs : (rs[k].h.c.s != 4) = true := hv
        have hs2 : (rs[k].h.c.s == 4) = false := by simpa [bne] using hs
        have HNX := Lib.hid hnx
        have HR1 : Hid (hrC [rs[k]] = [.int .i64 rs[k].h.id, .pointer (some ⟨rs[k].a, 0, none⟩), .int .u64 rs[k].h.t]) := Lib.hid rfl
        clear hnx hv hmr
        generalize rs[k] = r at *
        obtain ⟨a, ⟨id, ep, cc, t⟩⟩ := r
        dsimp only at e0 e1 e2 s1 hs hs2 HR1
        generalize cc.s = s at *
        have HSRC : Hid (Rd (wr.alloc (.cells #[.int .i64 id, .pointer (some ⟨a, 0, none⟩), .int .u64 t] 81)) (wr.heap.size + 1) (some ⟨wr.heap.size, 0, none⟩) [.int .i64 id, .pointer (some ⟨a, 0, none⟩), .int .u64 t]) := Lib.hid (Rd.new wr 81 [.int .i64 id, .pointer (some ⟨a, 0, none⟩), .int .u64 t])
        have HO1 := Lib.hid (ho.out.alloc (.cells #[.int .i64 id, .pointer (some ⟨a, 0, none⟩), .int .u64 t] 81))
        have KA := Lib.hid (kp_alloc hb.out (.cells #[.int .i64 id, .pointer (some ⟨a, 0, none⟩), .int .u64 t] 81))
        have HSW : Hid (w.heap.size ≤ (wr.alloc (.cells #[.int .i64 id, .pointer (some ⟨a, 0, none⟩), .int .u64 t] 81)).heap.size) := Lib.hid (by simp; omega)
        go_wp2_with (at_builtin; refine wpList_append_rds rfl _ _ _ rfl w.heap.size 81 i0 _ 3 24 Tryz.underlying50 hi hz0 hz1 hz2 rfl (by omega) _ q _ rfl HO1.out _ _ _ _ [.int .i64 id, .pointer (some ⟨a, 0, none⟩), .int .u64 t] rfl rfl HSRC.out (by simp [Value.oneCell']) (by unfold maxLen; omega) (by omega) HSW.out ?_; intro v3 w3 hown3 hg3; obtain ⟨D3, e3, rfl, _, _⟩ := own_form_s hown3; have HO3 := Lib.hid hown3; have HK3 := Lib.hid (KA.out.trans (below_own_s HO1.out hg3 HSW.out)); clear hown3 hg3)
        go_roundw
        case rel =>
          refine ⟨k + 1, q + 1, e3, D3, by omega, by omega, by go_num, rfl, Lib.hid ?_, HK3⟩
          rw [HNX.out, hrC_append, HR1.out]
          exact HO3.out
        case measure => simp [intOf]; omega
      · rw [if_neg hv, List.append_nil] at hnx
        have hs : (rs[k].h.c.s != 4) = false := by simpa [Hd.live] using hv
        have hs2 : (rs[k].h.c.s == 4) = true := by simpa [Hd.live] using hv
        have HNX := Lib.hid hnx
        clear hnx hv hmr
        generalize rs[k].h.c.s = s at *
        generalize rs[k].a = a at *
        go_wp2_with fail
        go_roundw
        case rel =>
          refine ⟨k + 1, q, e, D, by omega, by omega, by go_num, rfl, Lib.hid ?_, hb⟩
          rw [HNX.out]
          exact ho.out
        case measure => simp [intOf]; omega
    · obtain rfl : k = n := by omega
      rw [List.take_of_length_le (by rw [HN.out]; exact Nat.le_refl _)] at ho
      clear hmr
      go_wp2_with fail
      go_end0
      have hmr := HM.out.keep (fun k e => hb.out.block k (HM.out.lt k e)) hb.out.size
      obtain ⟨t1, t2⟩ := HM.out.relist hb.out ho.out (fun r hr => hmr.hl.cs r (List.mem_filter.1 hr).1) (HM.out.hl.nd.sublist (List.Sublist.map _ List.filter_sublist)) (fun r hr => .inl (List.mem_filter.1 hr).1) (fun r hr => (RC r.a r.h.ep r.h.c).lt (HM.out.hl.cs r (List.mem_filter.1 hr).1) _ rfl) (by
        have h1 := List.length_filter_le (fun r : Hr => r.h.live) rs
        have h2 := HM.out.few
        have h3 : rs.length = p.l.length := by rw [← HM.out.l, List.length_map]
        omega)
      rw [HLV.out] at t1
      refine ⟨rfl, ⟨⟨_, ⟨_, _, _, _, _, _, t1⟩, ?_⟩, t2⟩⟩
      rintro k (hk | hk | ⟨r, hr, rfl⟩)
      · exact .inl hk
      · exact .inr hk.1
      · exact .inl (HM.out.sl _ (.inr ⟨r, (List.mem_filter.1 hr).1, rfl⟩))
end
end

/- A row of which the first ones are turned (no function of the program is named here). -/
section
open Go.RowKit
set_option maxRecDepth 100000

/-- the first k are turned -/
def upto (f : Hd → Hd) (k : Nat) (l : List Hd) : List Hd := (l.take k).map f ++ l.drop k
section
variable {f : Hd → Hd} {l : List Hd} {k : Nat}
theorem upto_zero : upto f 0 l = l := by simp [upto]
theorem upto_all (h : l.length ≤ k) : upto f k l = l.map f := by simp [upto, List.take_of_length_le h, List.drop_of_length_le h]
theorem upto_length : (upto f k l).length = l.length := by
  simp only [upto, List.length_append, List.length_map, List.length_take, List.length_drop]
  omega
theorem upto_get (h : k < l.length) (h' : k < (upto f k l).length) : (upto f k l)[k] = l[k] := by
  have e : (upto f k l)[k]? = l[k]? := by
    unfold upto
    rw [List.getElem?_append_right (by simp; omega)]
    simp [Nat.min_eq_left (Nat.le_of_lt h)]
  rw [List.getElem?_eq_getElem h, List.getElem?_eq_getElem h'] at e
  exact Option.some.inj e
theorem upto_next (h : k < l.length) : upto f (k + 1) l = (upto f k l).set k (f l[k]) := by
  unfold upto
  rw [List.take_succ_eq_append_getElem h, List.set_append_right _ _ (by simp; omega)]
  simp only [List.length_map, List.length_take, Nat.min_eq_left (Nat.le_of_lt h), Nat.sub_self, List.map_append, List.map_cons, List.map_nil, List.append_assoc]
  congr 1
  rw [List.drop_eq_getElem_cons h]
  rfl
theorem upto_same (h : k < l.length) (e : f l[k] = l[k]) : upto f (k + 1) l = upto f k l := by
  rw [upto_next h, e]
  have h' : k < (upto f k l).length := by rw [upto_length]; exact h
  rw [← upto_get h h']
  exact List.set_getElem_self h'
end
theorem Turn.comp {Z : Thing} {S S' : Nat → Prop} {w w' w'' : World} (h2 : ∀ k, S' k → S k ∨ w.heap.size ≤ k) (h3 : Off S w w') (k : Turn Z S' w' w'') : Turn Z S w w'' := by
  obtain ⟨⟨S'', k1, k2⟩, k3⟩ := k
  have hz := h3.size
  exact ⟨⟨S'', k1, fun i hi => (k2 i hi).elim (fun e => h2 i e) (fun e => .inr (by omega))⟩, h3.trans k3 h2⟩
end

/- The document's layer 10: Drain, Reap: contracts. -/
section
open Go.RowKit
set_option maxRecDepth 100000

section
variable {b : Nat} {mo idl m : Int} {p : Pl} {S : Nat → Prop} {w : World}
set_option maxHeartbeats 4000000 in
theorem rpdrain_ok (ep : Int) (h : (RP b mo idl m p).p S w) :
    Calls Tryz.prog 35 #[.pointer (some ⟨b, 0, none⟩), .int .u64 ep] w fun e w' => e = .returned (.tuple #[]) ∧ Turn (RP b mo idl m (drainP ep p)) S w w' := by
  have H := Lib.hid h
  obtain ⟨N, hN⟩ : ∃ N, p.l.length = N := ⟨_, rfl⟩
  have HN := Lib.hid hN
  obtain ⟨_, _, _, h6⟩ := RP.len h
  have hn6 : N ≤ 6 := by omega
  clear h6
  clear h hN
  go_enter Tryz.func35, Tryz.ntmps35
  go_wp2_with fail
  go_loopw [4] (fun i wr => ∃ k : Nat, k ≤ N ∧ i = .int .i64 k ∧ Hid (Turn (RP b mo idl m { p with l := upto (drain1 ep) k p.l }) S w wr)) (fun i _ => N - (intOf i).toNat)
  case atStart => exact ⟨0, Nat.zero_le _, rfl, Lib.hid (by rw [upto_zero]; exact Turn.here H.out)⟩
  case round =>
    obtain ⟨k, hk, rfl, hT⟩ := hrel
    obtain ⟨S', hp, hS'⟩ := hT.out.at_
    obtain ⟨A, cc, c3, _⟩ := RP.len hp
    have hlen : ({ p with l := upto (drain1 ep) k p.l } : Pl).l.length = N := by rw [← HN.out]; exact upto_length
    rw [hlen] at c3
    by_cases hlt : k < N
    · have hkl : k < p.l.length := by rw [HN.out]; exact hlt
      have hk2 : k < ({ p with l := upto (drain1 ep) k p.l } : Pl).l.length := by rw [hlen]; exact hlt
      obtain ⟨g, cc2, a, _, hu⟩ := RP.get hp hk2
      obtain ⟨_, _, q3, q0, q1, q2, hc, hnx⟩ := hu wr (Below.refl _ _)
      clear hu
      have hel : ({ p with l := upto (drain1 ep) k p.l } : Pl).l[k] = p.l[k] := upto_get hkl hk2
      rw [hel] at q0 q2 hc hnx
      rw [hlen] at q3
      obtain ⟨rfl, rfl⟩ : A = some ⟨g, 0, none⟩ ∧ cc = cc2 := by
        rw [c3] at q3
        simp only [Option.some.injEq, Value.slice.injEq, true_and] at q3
        exact q3
      obtain ⟨⟨r0, _⟩, _⟩ := rcell (RC.at_ hc).1
      by_cases he : p.l[k].ep = ep
      · have hsame : Hid (Turn (RP b mo idl m { p with l := upto (drain1 ep) (k + 1) p.l }) S w wr) := Lib.hid (by rw [upto_same hkl (by simp [drain1, he])]; exact hT.out)
        rw [he] at r0
        have hq : (ep == ep) = true := by simp
        clear he hnx hc hel q0 q2 q3 hp hS' hT
        go_wp2_with fail
        go_roundw
        case rel => exact ⟨k + 1, by omega, by go_num, hsame⟩
        case measure => simp [intOf]; omega
      · have hd : drain1 ep p.l[k] = p.l[k].set p.l[k].c.drainC := by simp [drain1, he]
        have hq : (p.l[k].ep == ep) = false := by simpa using he
        have hq2 : (p.l[k].ep != ep) = true := by simpa [bne] using he
        have HD := Lib.hid (rdrain_ok hc)
        have HNX : Hid (∀ w', Turn (RC a p.l[k].ep p.l[k].c.drainC) (fun k => k = a) wr w' → Turn (RP b mo idl m { p with l := upto (drain1 ep) (k + 1) p.l }) S w w') := Lib.hid fun w' ht => by
          rw [upto_next hkl, hd]
          exact Turn.comp hS' hT.out.off (hnx _ w' ht)
        clear he hd hnx hc hel q0 q2 q3 hp hS' hT
        generalize p.l[k].ep = pe at *
        generalize p.l[k].c = pc at *
        go_wp2_with fail
        refine HD.out.mono ?_
        rintro e w4 ⟨rfl, ht⟩
        have HT := Lib.hid (HNX.out w4 ht)
        clear ht HNX HD
        go_wp2_with fail
        go_roundw
        case rel => exact ⟨k + 1, by omega, by go_num, HT⟩
        case measure => simp [intOf]; omega
    · obtain rfl : k = N := by omega
      have HS := Lib.hid (rsweep_ok hp)
      have hfin : Hid (∀ w', Turn (RP b mo idl m (sweepP { p with l := upto (drain1 ep) k p.l })) S' wr w' → Turn (RP b mo idl m (drainP ep p)) S w w') := Lib.hid fun w' ht => by
        rw [upto_all (by rw [HN.out]; exact Nat.le_refl _)] at ht
        exact Turn.comp hS' hT.out.off ht
      clear hp hS' hT
      go_wp2_with fail
      refine HS.out.mono ?_
      rintro e w4 ⟨rfl, ht⟩
      have HT := Lib.hid (hfin.out w4 ht)
      clear ht hfin HS
      go_wp2_with fail
      go_end0
      exact ⟨rfl, HT.out⟩

/-- how many of the first ones are old -/
def oldN (idl now : Int) (k : Nat) (l : List Hd) : Nat := ((l.take k).filter (isOld idl now)).length
theorem oldN_next {idl now : Int} {k : Nat} {l : List Hd} (h : k < l.length) : oldN idl now (k + 1) l = oldN idl now k l + (if isOld idl now l[k] then 1 else 0) := by
  unfold oldN
  rw [List.take_succ_eq_append_getElem h, List.filter_append, List.length_append, List.filter_cons, List.filter_nil]
  split <;> rfl
theorem oldN_le (idl now : Int) (k : Nat) (l : List Hd) : oldN idl now k l ≤ k := Nat.le_trans (List.length_filter_le _ _) (by simp [List.length_take]; omega)

set_option maxHeartbeats 8000000 in
theorem rpreap_ok (now : Int) (h : (RP b mo idl m p).p S w) :
    Calls Tryz.prog 36 #[.pointer (some ⟨b, 0, none⟩), .int .u64 now] w fun e w' => e = .returned (.int .i64 (reapP idl now p).2) ∧ Turn (RP b mo idl m (reapP idl now p).1) S w w' := by
  have H := Lib.hid h
  obtain ⟨N, hN⟩ : ∃ N, p.l.length = N := ⟨_, rfl⟩
  have HN := Lib.hid hN
  obtain ⟨_, _, _, h6⟩ := RP.len h
  have hn6 : N ≤ 6 := by omega
  clear h6
  clear h hN
  go_enter Tryz.func36, Tryz.ntmps36
  go_wp2_with fail
  go_loopw [5, 6] (fun z i wr => ∃ k : Nat, k ≤ N ∧ i = .int .i64 k ∧ z = .int .i64 (oldN idl now k p.l) ∧ Hid (Turn (RP b mo idl m { p with l := upto (reap1 idl now) k p.l }) S w wr)) (fun _ i _ => N - (intOf i).toNat)
  case atStart => exact ⟨0, Nat.zero_le _, rfl, rfl, Lib.hid (by rw [upto_zero]; exact Turn.here H.out)⟩
  case round =>
    obtain ⟨k, hk, rfl, rfl, hT⟩ := hrel
    obtain ⟨S', hp, hS'⟩ := hT.out.at_
    obtain ⟨A, cc, c3, _⟩ := RP.len hp
    have hlen : ({ p with l := upto (reap1 idl now) k p.l } : Pl).l.length = N := by rw [← HN.out]; exact upto_length
    rw [hlen] at c3
    have hz := oldN_le idl now k p.l
    by_cases hlt : k < N
    · have hkl : k < p.l.length := by rw [HN.out]; exact hlt
      have hk2 : k < ({ p with l := upto (reap1 idl now) k p.l } : Pl).l.length := by rw [hlen]; exact hlt
      obtain ⟨g, cc2, a, _, hu⟩ := RP.get hp hk2
      have hel : ({ p with l := upto (reap1 idl now) k p.l } : Pl).l[k] = p.l[k] := upto_get hkl hk2
      rw [hel, hlen] at hu
      obtain ⟨_, b1, q3, q0, q1, q2, _, _⟩ := hu wr (Below.refl _ _)
      obtain ⟨rfl, rfl⟩ : A = some ⟨g, 0, none⟩ ∧ cc = cc2 := by
        rw [c3] at q3
        simp only [Option.some.injEq, Value.slice.injEq, true_and] at q3
        exact q3
      clear q3
      have hnx := oldN_next (idl := idl) (now := now) hkl
      have hr1 : reap1 idl now p.l[k] = if isOld idl now p.l[k] then p.l[k].set p.l[k].c.drainC else p.l[k] := rfl
      have hold : isOld idl now p.l[k] = (p.l[k].c.s == 1 && decide (p.l[k].t ≤ now) && decide (idl ≤ IntKind.u64.wrap (now - p.l[k].t))) := rfl
      have hsame : isOld idl now p.l[k] = false → Turn (RP b mo idl m { p with l := upto (reap1 idl now) (k + 1) p.l }) S w wr := fun e => by
        rw [upto_same hkl (by rw [hr1, e]; rfl)]
        exact hT.out
      have hturn : isOld idl now p.l[k] = true → ∀ u w', Below wr.heap.size wr u → Turn (RC a p.l[k].ep p.l[k].c.drainC) (fun k => k = a) u w' → Turn (RP b mo idl m { p with l := upto (reap1 idl now) (k + 1) p.l }) S w w' := fun e u w' hb ht => by
        rw [upto_next hkl, hr1, e]
        have hoff : Off S w u := hT.out.off.trans (Off.of (fun _ => False) hb) fun _ h => h.elim
        exact Turn.comp hS' hoff ((hu u hb).2.2.2.2.2.2.2 _ w' ht)
      have hcu : ∀ u, Below wr.heap.size wr u → (RC a p.l[k].ep p.l[k].c).p (fun k => k = a) u := fun u hb => (hu u hb).2.2.2.2.2.2.1
      have hbu : ∀ u, Below wr.heap.size wr u → u.cell? ⟨b, 1, none⟩ = some (.int .u64 idl) := fun u hb => (hu u hb).2.1
      clear hu hel hT hp hS' hr1
      generalize p.l[k] = h at *
      obtain ⟨id, ep, pc, t⟩ := h
      dsimp only at hcu hturn hold q0 q1 q2
      have kx := kp_new wr (.cells #[.int .i64 id, .pointer (some ⟨a, 0, none⟩), .int .u64 t] 81)
      have y0 : (wr.alloc (.cells #[.int .i64 id, .pointer (some ⟨a, 0, none⟩), .int .u64 t] 81)).cell? ⟨wr.heap.size, 0, none⟩ = some (.int .i64 id) := by simp
      have y1 : (wr.alloc (.cells #[.int .i64 id, .pointer (some ⟨a, 0, none⟩), .int .u64 t] 81)).cell? ⟨wr.heap.size, 1, none⟩ = some (.pointer (some ⟨a, 0, none⟩)) := by simp
      have y2 : (wr.alloc (.cells #[.int .i64 id, .pointer (some ⟨a, 0, none⟩), .int .u64 t] 81)).cell? ⟨wr.heap.size, 2, none⟩ = some (.int .u64 t) := by simp
      obtain ⟨⟨_, s1, _⟩, _⟩ := rcell (RC.at_ (hcu _ kx)).1
      have bx := hbu _ kx
      obtain ⟨wx, hwx⟩ : ∃ u, wr.alloc (.cells #[.int .i64 id, .pointer (some ⟨a, 0, none⟩), .int .u64 t] 81) = u := ⟨_, rfl⟩
      rw [hwx] at kx y0 y1 y2 s1 bx
      have HWX := Lib.hid hwx
      have HKX := Lib.hid kx
      have HCU := Lib.hid hcu
      have HTU := Lib.hid hturn
      have HSM := Lib.hid hsame
      have HNX := Lib.hid hnx
      have HOL := Lib.hid hold
      clear hwx kx hcu hbu hturn hsame hnx hold
      generalize oldN idl now k p.l = z at *
      have hout : Hid (isOld idl now ⟨id, ep, pc, t⟩ = false → ∀ u, Below wr.heap.size wr u → Turn (RP b mo idl m { p with l := upto (reap1 idl now) (k + 1) p.l }) S w u) := Lib.hid fun e u hb => (HSM.out e).below hb
      clear HSM
      go_wp2_with fail
      rw [HWX.out]
      clear HWX
      generalize pc.s = s at *
      by_cases hs : s = 1
      · have hs1 : (s == 1) = true := by simpa using hs
        by_cases ht : t ≤ now
        · have ht1 : decide (t ≤ now) = true := decide_eq_true ht
          by_cases hd : idl ≤ IntKind.u64.wrap (now - t)
          · have hd1 : decide (idl ≤ IntKind.u64.wrap (now - t)) = true := decide_eq_true hd
            have ho : isOld idl now ⟨id, ep, pc, t⟩ = true := by rw [HOL.out, hs1, ht1, hd1]; rfl
            clear HOL hs
            go_wp2_with fail
            go_quiet (fail)
            obtain ⟨wq, hwq⟩ : ∃ y, y = wx.drewN nq := ⟨_, rfl⟩
            have kq : Below wr.heap.size wr wq := HKX.out.trans (hwq ▸ below_drewN (Below.refl _ wx) nq)
            have v1 : wq.cell? ⟨wr.heap.size, 1, none⟩ = some (.pointer (some ⟨a, 0, none⟩)) := by rw [hwq]; exact y1
            rw [← hwq]
            clear hwq y0 y1 y2 s1 bx
            have HD := Lib.hid (rdrain_ok (HCU.out wq kq))
            have HT0 := Lib.hid (fun w' ht => HTU.out ho wq w' kq ht)
            clear kq hout HTU HCU HKX
            go_wp2_with fail
            refine HD.out.mono ?_
            rintro e w4 ⟨rfl, ht4⟩
            have HT := Lib.hid (HT0.out w4 ht4)
            clear ht4 HT0 HD
            go_wp2_with fail
            go_roundw
            case rel => exact ⟨k + 1, by omega, by go_num, by rw [HNX.out, ho, if_pos rfl]; go_num, HT⟩
            case measure => simp [intOf]; omega
          · have hd1 : decide (idl ≤ IntKind.u64.wrap (now - t)) = false := decide_eq_false hd
            have ho : isOld idl now ⟨id, ep, pc, t⟩ = false := by rw [HOL.out, hs1, ht1, hd1]; rfl
            clear HOL hs
            go_wp2_with fail
            go_quiet (fail)
            obtain ⟨wq, hwq⟩ : ∃ y, y = wx.drewN nq := ⟨_, rfl⟩
            have kq : Below wr.heap.size wr wq := HKX.out.trans (hwq ▸ below_drewN (Below.refl _ wx) nq)
            have v1 : wq.cell? ⟨wr.heap.size, 1, none⟩ = some (.pointer (some ⟨a, 0, none⟩)) := by rw [hwq]; exact y1
            rw [← hwq]
            clear hwq y0 y1 y2 s1 bx
            have HT := Lib.hid (hout.out ho wq kq)
            clear kq v1 hout HTU HCU HKX
            go_wp2_with fail
            go_roundw
            case rel => exact ⟨k + 1, by omega, by go_num, by rw [HNX.out, ho]; rfl, HT⟩
            case measure => simp [intOf]; omega
        · have ht1 : decide (t ≤ now) = false := decide_eq_false ht
          have ho : isOld idl now ⟨id, ep, pc, t⟩ = false := by rw [HOL.out, hs1, ht1]; rfl
          clear HOL hs
          go_wp2_with fail
          go_quiet (fail)
          obtain ⟨wq, hwq⟩ : ∃ y, y = wx.drewN nq := ⟨_, rfl⟩
          have kq : Below wr.heap.size wr wq := HKX.out.trans (hwq ▸ below_drewN (Below.refl _ wx) nq)
          have v1 : wq.cell? ⟨wr.heap.size, 1, none⟩ = some (.pointer (some ⟨a, 0, none⟩)) := by rw [hwq]; exact y1
          rw [← hwq]
          clear hwq y0 y1 y2 s1 bx
          have HT := Lib.hid (hout.out ho wq kq)
          clear kq v1 hout HTU HCU HKX
          go_wp2_with fail
          go_roundw
          case rel => exact ⟨k + 1, by omega, by go_num, by rw [HNX.out, ho]; rfl, HT⟩
          case measure => simp [intOf]; omega
      · have hs1 : (s == 1) = false := by simpa using hs
        have ho : isOld idl now ⟨id, ep, pc, t⟩ = false := by rw [HOL.out, hs1]; rfl
        clear HOL hs
        go_wp2_with fail
        go_quiet (fail)
        obtain ⟨wq, hwq⟩ : ∃ y, y = wx.drewN nq := ⟨_, rfl⟩
        have kq : Below wr.heap.size wr wq := HKX.out.trans (hwq ▸ below_drewN (Below.refl _ wx) nq)
        have v1 : wq.cell? ⟨wr.heap.size, 1, none⟩ = some (.pointer (some ⟨a, 0, none⟩)) := by rw [hwq]; exact y1
        rw [← hwq]
        clear hwq y0 y1 y2 s1 bx
        have HT := Lib.hid (hout.out ho wq kq)
        clear kq v1 hout HTU HCU HKX
        go_wp2_with fail
        go_roundw
        case rel => exact ⟨k + 1, by omega, by go_num, by rw [HNX.out, ho]; rfl, HT⟩
        case measure => simp [intOf]; omega
    · obtain rfl : k = N := by omega
      have HS := Lib.hid (rsweep_ok hp)
      have hfin : Hid (∀ w', Turn (RP b mo idl m (sweepP { p with l := upto (reap1 idl now) k p.l })) S' wr w' → Turn (RP b mo idl m (reapP idl now p).1) S w w') := Lib.hid fun w' ht => by
        rw [upto_all (by rw [HN.out]; exact Nat.le_refl _)] at ht
        exact Turn.comp hS' hT.out.off ht
      have hz2 : ((reapP idl now p).2 : Int) = oldN idl now k p.l := by
        unfold oldN
        rw [List.take_of_length_le (by rw [HN.out]; exact Nat.le_refl _)]
        rfl
      have HZ2 := Lib.hid hz2
      clear hp hS' hT hz2
      generalize oldN idl now k p.l = z at *
      go_wp2_with fail
      refine HS.out.mono ?_
      rintro e w4 ⟨rfl, ht⟩
      have HT := Lib.hid (hfin.out w4 ht)
      clear ht hfin HS
      go_wp2_with fail
      go_ret
      exact ⟨by rw [HZ2.out]; rfl, HT.out⟩
end
end

/- The document's layer 10: one is given: contract. -/
section
open Go.RowKit
set_option maxRecDepth 100000

section
variable {P : Program} {w : World}
theorem step_append_rds {ops : Array Oper} {o : Oper} {a : Act} {K : Act → World → Prop} {Q : Exit → Act → World → Prop} {E : Prop} (hw : Region.wanted o (yielded ops a.tmps) = true) (s x : Operand) (t : TypeId)
    (ho : o.op = .call { callee := .builtin .append, args := #[s, x], argTypes := #[t, t] })
    (base : Nat) (e : TypeId) (i : TypeInfo) (z : Value) (size bytes : Nat) (ht : P.underlying t = some (.slice e)) (hi : P.info? e = some i) (hz : i.zero = some z)
    (hsize : i.size = size) (hby : i.bytes = bytes) (hzs : z.cells.size = size) (hsz : 0 < size)
    (v : Value) (n : Nat) (xs : List Value) (hs : a.eval s = v) (hown : w.ownsRow base e size v n xs)
    (B : Nat) (A : Option Addr) (m c : Nat) (news : List Value) (hx : a.eval x = .slice A m c) (hm : news.length = m * size) (hr : Rd w B A news) (h1 : ∀ u ∈ news, u.oneCell' = true)
    (h63 : n + m ≤ maxLen) (hbytes : (n + m) * bytes ≤ 140737488355328) (hbase : base ≤ w.heap.size)
    (h : ∀ v' w', w'.ownsRow base e size v' (n + m) (xs ++ news) → w.grownBy w' v.ownBlock → K (a.put o.dst v') w') :
    if Region.wanted o (yielded ops a.tmps) = true then Oper.wp P o a w K Q else E := by
  rw [if_pos hw]
  exact wp_append_rds s x t ho base e i z size bytes ht hi hz hsize hby hzs hsz v n xs hs hown B A m c news hx hm hr h1 h63 hbytes hbase h
end
section
variable {b : Nat} {mo idl m : Int} {p : Pl} {S : Nat → Prop} {w : World}
theorem turnH_at {l : List Hd} {q : Nat} (h : q < l.length) (f : Hd → Hd) : turnH l q f = l.set q (f l[q]) := by
  unfold turnH
  rw [Int.toNat_natCast]
  refine List.ext_getElem (by simp) fun i h1 h2 => ?_
  rw [List.getElem_modify, List.getElem_set]
  split
  · rename_i e; subst e; rfl
  · rfl
theorem Rd.of_own3 {w : World} {A : Option Addr} {xs : List Value} {base n c : Nat} {e : TypeId} (h : w.ownsRow base e 3 (.slice A n c) n xs) : Rd w w.heap.size A xs := by
  rcases h.2 with ⟨_, hn⟩ | ⟨g, cap, cur, hv, _, hg, _⟩
  · exact .inl (List.eq_nil_of_length_eq_zero (by have := h.1; omega))
  · have hA : A = some ⟨g, 0, none⟩ := by injection hv
    subst hA
    exact .inr ⟨_, rfl, (Array.getElem?_eq_some_iff.1 hg).1, h.cells (g := g) rfl⟩
/-- the last id is written -/
theorem RP.last (h : (RP b mo idl m p).p S w) (v : Int) : Turn (RP b mo idl m { p with last := v }) S w (w.setCell ⟨b, 4, none⟩ (.int .i64 v)) := by
  obtain ⟨rs, A, n, c, rb, SR, h⟩ := RP.at_ h
  have ho : Off (fun k => k = b) w (w.setCell ⟨b, 4, none⟩ (.int .i64 v)) := (Off.refl (fun k => k = b) w).setr rfl 4 _
  exact ⟨⟨S, ⟨rs, A, n, c, rb, SR, ⟨rset h.top 4 _ rfl, h.l, h.hl.keep (fun k e => ho.block k (h.hl.lt k e) (fun e2 => h.al (e2 ▸ e))) ho.size, Thing.off h.row ho fun k hk e => (h.ar k hk).1 e, h.sb, h.sr, h.sl, fun k hk => Nat.lt_of_lt_of_le (h.lt k hk) ho.size, h.ar, h.al, h.few⟩⟩, fun k hk => .inl hk⟩, ho.wide fun k e => e ▸ h.sb⟩

/-- a new one, behind all -/
theorem RPm.gave {rs : List Hr} {A D : Option Addr} {n c q e rb a : Nat} {SR S6 : Nat → Prop} {w8 w5 : World} {x : Hd} (h : RPm b mo idl m p rs A n c rb SR S6 w8) (hb : Below w8.heap.size w8 w5)
    (ho : w5.ownsRow w8.heap.size 81 3 (.slice D q e) q (hrC rs ++ [.int .i64 x.id, .pointer (some ⟨a, 0, none⟩), .int .u64 x.t])) (hc : (RC a x.ep x.c).p (fun k => k = a) w8)
    (hS6 : ∀ k, S6 k → S k ∨ w.heap.size ≤ k) (hlt : ∀ k, S6 k → k < a) (ha : w.heap.size ≤ a) (hoff : Off S w w8) (hfew : ¬ mo ≤ (rs.length : Int)) : Turn (RP b mo idl m { p with l := p.l ++ [x] }) S w (w5.setCell ⟨b, 3, none⟩ (.slice D q e)) := by
  have hk := h.keep (fun k e => hb.block k (h.lt k e)) hb.size
  have hal : a < w8.heap.size := (RC a x.ep x.c).lt hc a rfl
  have hlow : ∀ r ∈ rs, r.a < a := fun r hr => hlt _ (h.sl _ (.inr ⟨r, hr, rfl⟩))
  have hcc : hrC (rs ++ [⟨a, x⟩]) = hrC rs ++ [.int .i64 x.id, .pointer (some ⟨a, 0, none⟩), .int .u64 x.t] := by rw [hrC_append]; rfl
  obtain ⟨t1, t2⟩ := h.relist (rs' := rs ++ [⟨a, x⟩]) hb (by rw [hcc]; exact ho)
    (fun r hr => by
      rcases List.mem_append.1 hr with hr | hr
      · exact hk.hl.cs r hr
      · obtain rfl := List.mem_singleton.1 hr
        exact Thing.next hc hb)
    (by
      rw [List.map_append, List.nodup_append]
      refine ⟨h.hl.nd, by simp, fun y hy z hz => ?_⟩
      obtain ⟨r, hr, rfl⟩ := List.mem_map.1 hy
      have hz' : z = a := by simpa using hz
      have := hlow r hr
      omega)
    (fun r hr => by
      rcases List.mem_append.1 hr with hr | hr
      · exact .inl hr
      · obtain rfl := List.mem_singleton.1 hr
        exact .inr fun e => by have := hlt _ e; dsimp only at this; omega)
    (fun r hr => by
      rcases List.mem_append.1 hr with hr | hr
      · exact h.hl.lt _ (.inr ⟨r, hr, rfl⟩)
      · obtain rfl := List.mem_singleton.1 hr
        exact hal)
    (by simp only [List.length_append, List.length_singleton]; omega)
  have he : (rs ++ [(⟨a, x⟩ : Hr)]).map Hr.h = p.l ++ [x] := by rw [List.map_append, h.l]; rfl
  rw [he] at t1
  have hz := hoff.size
  have t3 : (RP b mo idl m { p with l := p.l ++ [x] }).p _ _ := ⟨_, _, _, _, _, _, t1⟩
  refine ⟨⟨_, t3, ?_⟩, hoff.trans t2 hS6⟩
  rintro k (hk | hk | ⟨r, hr, rfl⟩)
  · exact hS6 k hk
  · exact .inr (by omega)
  · rcases List.mem_append.1 hr with hr | hr
    · exact hS6 _ (h.sl _ (.inr ⟨r, hr, rfl⟩))
    · obtain rfl := List.mem_singleton.1 hr
      exact .inr ha

end
end

/- Rows of what is known of connections, as they lie; the document's layer 10: Conns, Same: contracts. -/
section
open Go.RowKit
set_option maxRecDepth 100000

/-- what is known of a connection -/
structure Inf where
  id : Int
  s : Int
  o : Int
  ep : Int
  f : Int
  t : Int
deriving DecidableEq
instance : Inhabited Inf := ⟨⟨0, 0, 0, 0, 0, 0⟩⟩
def Inf.cells (x : Inf) : List Value := [.int .i64 x.id, .int .i64 x.s, .int .i64 x.o, .int .u64 x.ep, .int .u64 x.f, .int .u64 x.t]
def inC (l : List Inf) : List Value := l.flatMap Inf.cells
def infoH (h : Hd) : Inf := ⟨h.id, h.c.s, h.c.o, h.ep, h.c.f, h.t⟩
theorem inC_length : ∀ l : List Inf, (inC l).length = l.length * 6
  | [] => rfl
  | r :: rs => by
    have := inC_length rs
    simp only [inC, List.flatMap_cons, List.length_append, List.length_cons, Inf.cells, List.length_nil] at this ⊢
    omega
theorem inC_append (a b : List Inf) : inC (a ++ b) = inC a ++ inC b := by simp [inC]
theorem inC_at : ∀ (rs : List Inf) (j : Nat) (h : j < rs.length), (inC rs)[j * 6]? = some (.int .i64 rs[j].id) ∧ (inC rs)[j * 6 + 1]? = some (.int .i64 rs[j].s) ∧ (inC rs)[j * 6 + 2]? = some (.int .i64 rs[j].o) ∧ (inC rs)[j * 6 + 3]? = some (.int .u64 rs[j].ep) ∧ (inC rs)[j * 6 + 4]? = some (.int .u64 rs[j].f) ∧ (inC rs)[j * 6 + 5]? = some (.int .u64 rs[j].t)
  | [], _, h => by simp at h
  | r :: rs, 0, _ => by simp [inC, Inf.cells]
  | r :: rs, j + 1, h => by
    have := inC_at rs j (by simpa using h)
    have e1 : (j + 1) * 6 = j * 6 + 6 := by omega
    simp only [inC, List.flatMap_cons] at this ⊢
    rw [e1]
    simpa [Inf.cells] using this
theorem inC_next (rs : List Inf) (k : Nat) (h : k < rs.length) : inC (rs.take (k + 1)) = inC (rs.take k) ++ rs[k].cells := by
  rw [List.take_succ_eq_append_getElem h, inC_append]
  simp [inC]
theorem inC_one (rs : List Inf) : ∀ u ∈ inC rs, u.oneCell' = true := by
  intro u hu
  simp only [inC, List.mem_flatMap] at hu
  obtain ⟨r, _, h⟩ := hu
  simp only [Inf.cells, List.mem_cons, List.not_mem_nil, or_false] at h
  rcases h with rfl | rfl | rfl | rfl | rfl | rfl <;> rfl
/-- a row of these that is read -/
structure IR (w : World) (A : Option Addr) (n : Nat) (l : List Inf) : Prop where
  len : l.length = n
  rd : Rd w w.heap.size A (inC l)
section
variable {w w' : World} {A : Option Addr} {n c : Nat} {l : List Inf}
theorem IR.next (h : IR w A n l) (hb : Below w.heap.size w w') : IR w' A n l := ⟨h.len, (h.rd.below hb (Nat.le_refl _)).more hb.size⟩
theorem IR.of_own {base : Nat} {e : TypeId} (h : w.ownsRow base e 6 (.slice A n c) n (inC l)) : IR w A n l := by
  have hl : l.length = n := by
    have := h.1
    rw [inC_length] at this
    omega
  refine ⟨hl, ?_⟩
  rcases h.2 with ⟨_, hn⟩ | ⟨g, cap, cur, hv, _, hg, _⟩
  · exact .inl (List.eq_nil_of_length_eq_zero (by have := h.1; omega))
  · have hA : A = some ⟨g, 0, none⟩ := by injection hv
    subst hA
    exact .inr ⟨_, rfl, (Array.getElem?_eq_some_iff.1 hg).1, h.cells (g := g) rfl⟩
theorem IR.at_ (h : IR w A n l) {j : Nat} (hj : j < l.length) : ∃ ad, A = some ad ∧ ad.block < w.heap.size ∧ ∀ w', Below w.heap.size w w' → w'.cell? (ad.add (j * 6)) = some (.int .i64 l[j].id) ∧ w'.cell? ⟨(ad.add (j * 6)).block, (ad.add (j * 6)).off + 1, none⟩ = some (.int .i64 l[j].s) ∧ w'.cell? ⟨(ad.add (j * 6)).block, (ad.add (j * 6)).off + 2, none⟩ = some (.int .i64 l[j].o) ∧
    w'.cell? ⟨(ad.add (j * 6)).block, (ad.add (j * 6)).off + 3, none⟩ = some (.int .u64 l[j].ep) ∧ w'.cell? ⟨(ad.add (j * 6)).block, (ad.add (j * 6)).off + 4, none⟩ = some (.int .u64 l[j].f) ∧ w'.cell? ⟨(ad.add (j * 6)).block, (ad.add (j * 6)).off + 5, none⟩ = some (.int .u64 l[j].t) := by
  obtain ⟨ad, hA, hb, hc⟩ := h.rd.addr (by rw [inC_length]; omega)
  have key : ∀ (w' : World) (i : Nat) (v : Value), Below w.heap.size w w' → (inC l)[j * 6 + i]? = some v → w'.cell? (ad.add (j * 6 + i)) = some v := fun w' i v hw hv => by
    rw [hw.cell (by rw [add_block]; exact hb)]
    exact hc _ _ hv
  obtain ⟨e0, e1, e2, e3, e4, e5⟩ := inC_at l j hj
  have a1 : ∀ i, i ≠ 0 → (⟨(ad.add (j * 6)).block, (ad.add (j * 6)).off + i, none⟩ : Addr) = ad.add (j * 6 + i) := fun i hi => by rw [← add_add]; unfold Addr.add; simp [hi]
  refine ⟨ad, hA, hb, fun w' hw => ⟨key w' 0 _ hw e0, ?_, ?_, ?_, ?_, ?_⟩⟩
  · rw [a1 1 (by decide)]; exact key w' 1 _ hw e1
  · rw [a1 2 (by decide)]; exact key w' 2 _ hw e2
  · rw [a1 3 (by decide)]; exact key w' 3 _ hw e3
  · rw [a1 4 (by decide)]; exact key w' 4 _ hw e4
  · rw [a1 5 (by decide)]; exact key w' 5 _ hw e5
end
theorem rinfinfo : (Tryz.prog.info? 75).map (fun i => (i.zero, i.size, i.bytes)) = some (some (.agg #[.int .i64 0, .int .i64 0, .int .i64 0, .int .u64 0, .int .u64 0, .int .u64 0]), 6, 48) := by kernel_rfl

theorem neq_infos (x y : Inf) (w : World) : (binOp .neq 75 (.agg #[.int .i64 x.id, .int .i64 x.s, .int .i64 x.o, .int .u64 x.ep, .int .u64 x.f, .int .u64 x.t]) (.agg #[.int .i64 y.id, .int .i64 y.s, .int .i64 y.o, .int .u64 y.ep, .int .u64 y.f, .int .u64 y.t])).run Tryz.prog w = .ok (.bool (!decide (x = y))) w := by
  have hf : (Tryz.prog.fieldsOf 75) = (match Tryz.prog.underlying 75 with | some (.struct fs) => fs | _ => #[]) := rfl
  have hu := Tryz.underlying75
  rw [hu] at hf
  rw [run_neq_struct, run_equalIn_agg (P := Tryz.prog) w 9999 _ _ _ (by rw [hf]; exact hu) (by kernel_rfl), hf]
  have h3 := Tryz.underlying3
  have h9 := Tryz.underlying22
  have hz3 := Tryz.sizeOf3
  have hz9 := Tryz.sizeOf22
  have ha3 := Tryz.isAgg3
  have ha9 := Tryz.isAgg22
  have p0 : ∀ (a b c d e f : Int) (w : World), (part 3 #[.int .i64 a, .int .i64 b, .int .i64 c, .int .u64 d, .int .u64 e, .int .u64 f] 0).run Tryz.prog w = .ok (.int .i64 a) w := fun a b c d e f w => by simp [part, hz3, ha3]
  have p1 : ∀ (a b c d e f : Int) (w : World), (part 3 #[.int .i64 a, .int .i64 b, .int .i64 c, .int .u64 d, .int .u64 e, .int .u64 f] 1).run Tryz.prog w = .ok (.int .i64 b) w := fun a b c d e f w => by simp [part, hz3, ha3]
  have p2 : ∀ (a b c d e f : Int) (w : World), (part 3 #[.int .i64 a, .int .i64 b, .int .i64 c, .int .u64 d, .int .u64 e, .int .u64 f] 2).run Tryz.prog w = .ok (.int .i64 c) w := fun a b c d e f w => by simp [part, hz3, ha3]
  have p3 : ∀ (a b c d e f : Int) (w : World), (part 22 #[.int .i64 a, .int .i64 b, .int .i64 c, .int .u64 d, .int .u64 e, .int .u64 f] 3).run Tryz.prog w = .ok (.int .u64 d) w := fun a b c d e f w => by simp [part, hz9, ha9]
  have p4 : ∀ (a b c d e f : Int) (w : World), (part 22 #[.int .i64 a, .int .i64 b, .int .i64 c, .int .u64 d, .int .u64 e, .int .u64 f] 4).run Tryz.prog w = .ok (.int .u64 e) w := fun a b c d e f w => by simp [part, hz9, ha9]
  have p5 : ∀ (a b c d e f : Int) (w : World), (part 22 #[.int .i64 a, .int .i64 b, .int .i64 c, .int .u64 d, .int .u64 e, .int .u64 f] 5).run Tryz.prog w = .ok (.int .u64 f) w := fun a b c d e f w => by simp [part, hz9, ha9]
  have e1 : ∀ (x y : Int) (w : World), (Op.equalIn 9999 3 (.int .i64 x) (.int .i64 y)).run Tryz.prog w = .ok (x == y) w := fun x y w => run_equalIn_int w 9998 3 .i64 .i64 x y h3
  have e2 : ∀ (x y : Int) (w : World), (Op.equalIn 9999 22 (.int .u64 x) (.int .u64 y)).run Tryz.prog w = .ok (x == y) w := fun x y w => run_equalIn_int w 9998 22 .u64 .u64 x y h9
  obtain ⟨a1, b1, c1, d1, f1, g1⟩ := x
  obtain ⟨a2, b2, c2, d2, f2, g2⟩ := y
  simp only [Inf.mk.injEq]
  by_cases ha : a1 = a2
  · by_cases hb : b1 = b2
    · by_cases hc : c1 = c2
      · by_cases hd : d1 = d2
        · by_cases he : f1 = f2
          · by_cases hg : g1 = g2
            · simp [Op.eqFields, p0, p1, p2, p3, p4, p5, e1, e2, ha, hb, hc, hd, he, hg]
            · simp [Op.eqFields, p0, p1, p2, p3, p4, p5, e1, e2, ha, hb, hc, hd, he, hg]
          · simp [Op.eqFields, p0, p1, p2, p3, p4, e1, e2, ha, hb, hc, hd, he]
        · simp [Op.eqFields, p0, p1, p2, p3, e1, e2, ha, hb, hc, hd]
      · simp [Op.eqFields, p0, p1, p2, e1, ha, hb, hc]
    · simp [Op.eqFields, p0, p1, e1, ha, hb]
  · simp [Op.eqFields, p0, e1, ha]

set_option maxHeartbeats 8000000 in
theorem rsame10_ok (A B : Option Addr) (n k c d : Nat) (xs ys : List Inf) (w : World) (hx : IR w A n xs) (hy : IR w B k ys) (hn : n ≤ 1000) (hk : k ≤ 1000) (bo : Bool) (hbo : Hid (decide (xs = ys) = bo)) :
    Calls Tryz.prog 9 #[.slice A n c, .slice B k d] w fun e w' => e = .returned (.bool bo) ∧ Below w.heap.size w w' := by
  have HX := Lib.hid hx
  have HY := Lib.hid hy
  have hlx := hx.len
  have hly := hy.len
  clear hx hy
  by_cases hnk : n = k
  · subst hnk
    have HLX := Lib.hid hlx
    have HLY := Lib.hid hly
    clear hlx hly
    go_enter Tryz.func9, Tryz.ntmps9
    go_wp2_with fail
    go_loopw [5] (fun i wr => ∃ q : Nat, q ≤ n ∧ i = .int .i64 q ∧ Hid (∀ j (hj : j < xs.length) (hj2 : j < ys.length), j < q → xs[j] = ys[j]) ∧ Hid (Below w.heap.size w wr)) (fun i _ => n - (intOf i).toNat)
    case atStart => exact ⟨0, Nat.zero_le _, rfl, Lib.hid (fun j _ _ h => absurd h (Nat.not_lt_zero _)), Lib.hid (Below.refl _ _)⟩
    case round =>
      obtain ⟨q, hq, rfl, he, hw⟩ := hrel
      by_cases hlt : q < n
      · have hqx : q < xs.length := by rw [HLX.out]; exact hlt
        have hqy : q < ys.length := by rw [HLY.out]; exact hlt
        obtain ⟨ax, rfl, _, cx⟩ := HX.out.at_ hqx
        obtain ⟨ay, rfl, _, cy⟩ := HY.out.at_ hqy
        obtain ⟨x0, x1, x2, x3, x4, x5⟩ := cx wr hw.out
        obtain ⟨y0, y1, y2, y3, y4, y5⟩ := cy wr hw.out
        clear cx cy
        have hi0 : (0 : Int) ≤ (q : Int) := by omega
        have hi1 : (q : Int) < (n : Int) := by omega
        by_cases hxy : xs[q] = ys[q]
        · have he2 : Hid (∀ j (hj : j < xs.length) (hj2 : j < ys.length), j < q + 1 → xs[j] = ys[j]) := Lib.hid fun j hj hj2 hjq => by
            by_cases h : j = q
            · subst h; exact hxy
            · exact he.out j hj hj2 (by omega)
          rw [hxy] at x0 x1 x2 x3 x4 x5
          clear he hxy
          generalize ys[q] = y at *
          obtain ⟨i1, s1, o1, p1, f1, t1⟩ := y
          dsimp only at x0 x1 x2 x3 x4 x5 y0 y1 y2 y3 y4 y5
          go_wp2_with fail
          go_quiet (fail)
          go_wp2_with fail
          go_roundw
          case rel => exact ⟨q + 1, by omega, by go_num, he2, Lib.hid (kp_trans hw.out (kp_drewN _ _))⟩
          case measure => simp [intOf]; omega
        · have hb : bo = false := by
            rw [← hbo.out]
            exact decide_eq_false fun h => hxy (by subst h; rfl)
          subst hb
          have hcmp := neq_infos xs[q] ys[q]
          rw [decide_eq_false hxy] at hcmp
          have HCM := hcmp
          clear he hxy hcmp
          generalize xs[q] = x at *
          generalize ys[q] = y at *
          obtain ⟨i1, s1, o1, p1, f1, t1⟩ := x
          obtain ⟨i2, s2, o2, p2, f2, t2⟩ := y
          dsimp only at x0 x1 x2 x3 x4 x5 y0 y1 y2 y3 y4 y5 HCM
          go_wp2_with fail
          go_quiet (fail)
          go_wp2_with fail
          go_ret
          exact ⟨rfl, kp_trans hw.out (kp_drewN _ _)⟩
      · obtain rfl : q = n := by omega
        have hb : bo = true := by
          rw [← hbo.out]
          exact decide_eq_true (List.ext_getElem (by rw [HLX.out, HLY.out]) fun j h1 h2 => he.out j h1 h2 (by have := HLX.out; omega))
        subst hb
        clear he
        go_wp2_with fail
        go_ret
        exact ⟨rfl, hw.out⟩
  · have hb : bo = false := by
      rw [← hbo.out]
      exact decide_eq_false fun h => hnk (by subst h; omega)
    subst hb
    have hne : ((n : Int) == (k : Int)) = false := by simp; omega
    clear hlx hly hbo
    go_enter Tryz.func9, Tryz.ntmps9
    go_wp2_with fail
    go_ret
    exact ⟨rfl, Below.refl _ _⟩
end

/- What is known of the connection of an id (done, at Info): contract. -/
section
open Go.RowKit
set_option maxRecDepth 100000
attribute [local go_sem] Oper.semAt_some wide_depth wide_fn

def Inf.vals (x : Inf) : Array Value := #[.int .i64 x.id, .int .i64 x.s, .int .i64 x.o, .int .u64 x.ep, .int .u64 x.f, .int .u64 x.t]
def infB (x : Inf) : Obj := .cells x.vals 61 (0, 0)
theorem inf_cells {w : World} {B : Nat} {x : Inf} (h : w.heap[B]? = some (infB x)) : (w.cell? ⟨B, 0, none⟩ = some (.int .i64 x.id) ∧ w.cell? ⟨B, 1, none⟩ = some (.int .i64 x.s) ∧ w.cell? ⟨B, 2, none⟩ = some (.int .i64 x.o) ∧ w.cell? ⟨B, 3, none⟩ = some (.int .u64 x.ep) ∧ w.cell? ⟨B, 4, none⟩ = some (.int .u64 x.f) ∧ w.cell? ⟨B, 5, none⟩ = some (.int .u64 x.t)) ∧
    (w.frozen? ⟨B, 0, none⟩ = false ∧ w.frozen? ⟨B, 1, none⟩ = false ∧ w.frozen? ⟨B, 2, none⟩ = false ∧ w.frozen? ⟨B, 3, none⟩ = false ∧ w.frozen? ⟨B, 4, none⟩ = false ∧ w.frozen? ⟨B, 5, none⟩ = false) :=
  ⟨⟨(cellsAt h 0 rfl).1, (cellsAt h 1 rfl).1, (cellsAt h 2 rfl).1, (cellsAt h 3 rfl).1, (cellsAt h 4 rfl).1, (cellsAt h 5 rfl).1⟩, (cellsAt h 0 (v := .int .i64 x.id) rfl).2, (cellsAt h 1 (v := .int .i64 x.s) rfl).2, (cellsAt h 2 (v := .int .i64 x.o) rfl).2, (cellsAt h 3 (v := .int .u64 x.ep) rfl).2, (cellsAt h 4 (v := .int .u64 x.f) rfl).2, (cellsAt h 5 (v := .int .u64 x.t) rfl).2⟩
theorem inf_set {w : World} {B : Nat} {x : Inf} (y : Inf) (h : w.heap[B]? = some (infB x)) : ((((((w.setCell ⟨B, 0, none⟩ (.int .i64 y.id)).setCell ⟨B, 1, none⟩ (.int .i64 y.s)).setCell ⟨B, 2, none⟩ (.int .i64 y.o)).setCell ⟨B, 3, none⟩ (.int .u64 y.ep)).setCell ⟨B, 4, none⟩ (.int .u64 y.f)).setCell ⟨B, 5, none⟩ (.int .u64 y.t)).heap[B]? = some (infB y) :=
  cset (cset (cset (cset (cset (cset h 0 _ rfl) 1 _ rfl) 2 _ rfl) 3 _ rfl) 4 _ rfl) 5 _ rfl
theorem inf_off {w w1 : World} {B : Nat} (y : Inf) (h : Off (fun k => k = B) w w1) : Off (fun k => k = B) w ((((((w1.setCell ⟨B, 0, none⟩ (.int .i64 y.id)).setCell ⟨B, 1, none⟩ (.int .i64 y.s)).setCell ⟨B, 2, none⟩ (.int .i64 y.o)).setCell ⟨B, 3, none⟩ (.int .u64 y.ep)).setCell ⟨B, 4, none⟩ (.int .u64 y.f)).setCell ⟨B, 5, none⟩ (.int .u64 y.t)) :=
  (((((h.set1 rfl 0 _).set1 rfl 1 _).set1 rfl 2 _).set1 rfl 3 _).set1 rfl 4 _).set1 rfl 5 _
section
variable {b : Nat} {mo idl m : Int} {p : Pl} {S : Nat → Prop} {w W : World}
theorem dnis_I (r : Lr) (B : Nat) (id : Int) (h : LK W r) (hB : W.heap[B]? = some (.cells #[.int .i64 id] 3 (0, 0))) : Calls Tryz.prog 93 #[lkV r, .pointer (some ⟨B, 0, none⟩)] W fun e w' => e = .returned (.bool (r.h.id == id)) ∧ Below W.heap.size W w' := by
  obtain ⟨⟨_, c1, _⟩, _⟩ := h.cells
  obtain ⟨x0, _⟩ := cellsAt hB 0 (v := .int .i64 id) rfl
  unfold lkV
  clear h hB
  generalize r.h.id = i at *
  generalize r.l = l at *
  go_enter Tryz.func93, Tryz.ntmps93
  go_wp2_with fail
  go_quiet (fail)
  go_wp2_with fail
  go_ret
  exact ⟨rfl, kp_drewN _ _⟩
theorem dndo_I (r : Lr) (B B2 : Nat) (x y : Inf) (h : LK W r) (hB : W.heap[B]? = some (.cells #[.func (.func 38) #[] #[]] 106 (0, 0))) (hB2 : W.heap[B2]? = some (infB x)) (hy : infoH r.h = y) :
    Calls Tryz.prog 94 #[lkV r, .pointer (some ⟨B, 0, none⟩), .pointer (some ⟨B2, 0, none⟩)] W fun e w' => (∃ v, e = .returned v) ∧ w'.heap[B2]? = some (infB y) ∧ Off (fun k => k = B2) W w' := by
  obtain ⟨q0, _⟩ := cellsAt hB 0 (v := .func (.func 38) #[] #[]) rfl
  have HC : Hid (Calls Tryz.prog 38 #[lkV r] W fun e w' => e = .returned (.agg y.vals) ∧ Below W.heap.size W w') := Lib.hid (by subst hy; exact info_ok h)
  have HB2 := Lib.hid hB2
  have HL := Lib.hid (Array.getElem?_eq_some_iff.1 hB2).1
  clear hB hB2 h hy
  obtain ⟨y0, y1, y2, y3, y4, y5⟩ := y
  unfold Inf.vals at HC
  dsimp only at HC
  generalize lkV r = la at *
  go_enter Tryz.func94, Tryz.ntmps94
  go_wp2_with fail
  refine HC.out.mono ?_
  rintro e w1 ⟨rfl, hb⟩
  have h2 := (hb.block B2 HL.out).trans HB2.out
  obtain ⟨⟨x0, x1, x2, x3, x4, x5⟩, z0, z1, z2, z3, z4, z5⟩ := inf_cells h2
  have HS := Lib.hid (inf_set ⟨y0, y1, y2, y3, y4, y5⟩ h2)
  have HO := Lib.hid (inf_off (w := W) (B := B2) ⟨y0, y1, y2, y3, y4, y5⟩ (Off.of _ hb))
  clear hb h2
  go_wp2_with fail
  go_end0
  exact ⟨⟨_, rfl⟩, HS.out, HO.out⟩
def inf0 : Inf := ⟨0, 0, 0, 0, 0, 0⟩
theorem onH_none (id : Int) (p : Pl) : onH id (fun h => h) p = p := by
  have : turnH p.l (findH id p.l) (fun h => h) = p.l := by
    unfold turnH
    refine List.ext_getElem (by simp) fun i h1 h2 => ?_
    rw [List.getElem_modify]
    split <;> rfl
  unfold onH
  rw [this]

set_option maxHeartbeats 4000000 in
theorem done_I (id : Int) (h : (PP b mo idl m p).p S w) (hid : p.l.Pairwise fun a b => a.id ≠ b.id) (hlive : ∀ h ∈ p.l, h.live = true) (x : Inf) (hx : x = if findH id p.l < 0 then inf0 else infoH (theH id p)) :
    Calls Tryz.prog 54 #[.pointer (some ⟨b, 0, none⟩), .int .i64 id, .func (.func 38) #[] #[], .agg inf0.vals] w fun e w' => e = .returned (.agg x.vals) ∧ (PP b mo idl m p).p S w' ∧ Off S w w' := by
  have HS : Hid (∀ (wz : World), wz.heap[w.heap.size]? = some (.cells #[.int .i64 id] 3 (0, 0)) → wz.heap[w.heap.size + 1]? = some (.cells #[.func (.func 38) #[] #[]] 106 (0, 0)) → wz.heap[w.heap.size + 3]? = some (infB inf0) → wz.heap[w.heap.size + 4]? = some (infB inf0) → Below w.heap.size w wz →
      Calls Tryz.prog 57 #[.pointer (some ⟨b, 0, none⟩), .func (.func 93) #[] #[.pointer (some ⟨w.heap.size, 0, none⟩)], .func (.func 94) #[] #[.pointer (some ⟨w.heap.size + 1, 0, none⟩), .pointer (some ⟨w.heap.size + 4, 0, none⟩)]] wz fun e w' => (∃ v, e = .returned v) ∧
        w'.heap[w.heap.size + 4]? = some (infB x) ∧ w'.heap[w.heap.size + 3]? = some (infB inf0) ∧ (PP b mo idl m p).p S w' ∧ Off S w w') := Lib.hid fun wz h1 h2 h4 h3 hk => by
    have hSl := (PP b mo idl m p).lt h
    have hf := fold_id (id := id) infoH inf0 p.l hid
    have hm := map_id (id := id) (fun h => h) p hid
    rw [onH_none, ite_self] at hm
    have hsw : sweepP p = p := by unfold sweepP; rw [sweep_live hlive]
    rw [hsw] at hm
    have hx' : x = p.l.foldl (fun s h => if (h.id == id) = true then infoH h else s) inf0 := by rw [hf]; exact hx
    have l3 := (Array.getElem?_eq_some_iff.1 h3).1
    refine (each_ok (T := fun k => k = w.heap.size ∨ k = w.heap.size + 1 ∨ k = w.heap.size + 3 ∨ k = w.heap.size + 4) (.func 93) (.func 94) #[.pointer (some ⟨w.heap.size, 0, none⟩)] #[.pointer (some ⟨w.heap.size + 1, 0, none⟩), .pointer (some ⟨w.heap.size + 4, 0, none⟩)] (fun h => h.id == id) (fun h => h) (fun h _ => infoH h)
      (fun (v : Inf) W => W.heap[w.heap.size]? = some (.cells #[.int .i64 id] 3 (0, 0)) ∧ W.heap[w.heap.size + 1]? = some (.cells #[.func (.func 38) #[] #[]] 106 (0, 0)) ∧ W.heap[w.heap.size + 3]? = some (infB inf0) ∧ W.heap[w.heap.size + 4]? = some (infB v)) inf0
      (Thing.next h hk) ?_ ?_ ⟨h1, h2, h4, h3⟩ ?_ ?_ ?_).mono ?_
    · rintro k hk2 hs
      have := hSl k hs
      omega
    · rintro k hk2
      omega
    · rintro v W1 W2 ⟨q1, q2, q4, q3⟩ hq
      exact ⟨(hq _ (.inl rfl)).trans q1, (hq _ (.inr (.inl rfl))).trans q2, (hq _ (.inr (.inr (.inl rfl)))).trans q4, (hq _ (.inr (.inr (.inr rfl)))).trans q3⟩
    · rintro r v W1 hl ⟨q1, _, _, _⟩ _
      exact ⟨93, #[lkV r, .pointer (some ⟨w.heap.size, 0, none⟩)], by simp [invoke, go_sem], dnis_I r _ id hl q1⟩
    · rintro r v W1 hl ⟨q1, q2, q4, q3⟩ hTn _
      refine ⟨94, #[lkV r, .pointer (some ⟨w.heap.size + 1, 0, none⟩), .pointer (some ⟨w.heap.size + 4, 0, none⟩)], by simp [invoke, go_sem], (dndo_I r _ (w.heap.size + 4) v (infoH r.h) hl q2 q3 rfl).mono ?_⟩
      rintro e w' ⟨hv, k1, k2⟩
      have l2 := (Array.getElem?_eq_some_iff.1 q3).1
      exact ⟨hv, hl.keep (fun k hk2 => k2.block k (hl.lt k hk2) fun e => hTn k hk2 (.inr (.inr (.inr e)))) k2.size, ⟨(k2.block _ (by omega) (by omega)).trans q1, (k2.block _ (by omega) (by omega)).trans q2, (k2.block _ (by omega) (by omega)).trans q4, k1⟩, k2.wide fun k e => .inr (.inr (.inr (.inr e)))⟩
    · rintro e w' ⟨hv, ⟨_, _, q4, q3⟩, hp, ho⟩
      rw [← hx'] at q3
      have hp' : (PP b mo idl m p).p S w' := by
        have := hp
        rw [hm] at this
        exact this
      exact ⟨hv, q3, q4, hp', (Off.of S hk).trans ho fun i hi => by rcases hi with e | e; exact .inl e; exact .inr (by omega)⟩
  have HSL := Lib.hid ((PP b mo idl m p).lt h)
  clear h hid hlive hx
  obtain ⟨wz, hwz⟩ : ∃ u, ((((w.alloc (.cells #[.int .i64 id] 3)).alloc (.cells #[.func (.func 38) #[] #[]] 106)).alloc (.cells #[.int .i64 0, .int .i64 0, .int .i64 0, .int .u64 0, .int .u64 0, .int .u64 0] 61)).alloc (.cells #[.int .i64 0, .int .i64 0, .int .i64 0, .int .u64 0, .int .u64 0, .int .u64 0] 61)).alloc (.cells #[.int .i64 0, .int .i64 0, .int .i64 0, .int .u64 0, .int .u64 0, .int .u64 0] 61) = u := ⟨_, rfl⟩
  have hat : ∀ (u : World) (o1 o2 o3 o4 o5 : Obj), ((((((u.alloc o1).alloc o2).alloc o3).alloc o4).alloc o5).heap[u.heap.size]? = some o1) ∧ ((((((u.alloc o1).alloc o2).alloc o3).alloc o4).alloc o5).heap[u.heap.size + 1]? = some o2) ∧ ((((((u.alloc o1).alloc o2).alloc o3).alloc o4).alloc o5).heap[u.heap.size + 3]? = some o4) ∧ ((((((u.alloc o1).alloc o2).alloc o3).alloc o4).alloc o5).heap[u.heap.size + 4]? = some o5) := fun u o1 o2 o3 o4 o5 => by
    simp only [World.alloc, Array.getElem?_push, Array.size_push]
    refine ⟨?_, ?_, ?_, ?_⟩
    · rw [if_neg (by omega), if_neg (by omega), if_neg (by omega), if_neg (by omega), if_pos trivial]
    · rw [if_neg (by omega), if_neg (by omega), if_neg (by omega), if_pos trivial]
    · rw [if_neg (by omega), if_pos trivial]
    · rw [if_pos trivial]
  obtain ⟨a1, a2, a4, a5⟩ := hat w (.cells #[.int .i64 id] 3) (.cells #[.func (.func 38) #[] #[]] 106) (.cells #[.int .i64 0, .int .i64 0, .int .i64 0, .int .u64 0, .int .u64 0, .int .u64 0] 61) (.cells #[.int .i64 0, .int .i64 0, .int .i64 0, .int .u64 0, .int .u64 0, .int .u64 0] 61) (.cells #[.int .i64 0, .int .i64 0, .int .i64 0, .int .u64 0, .int .u64 0, .int .u64 0] 61)
  rw [hwz] at a1 a2 a4 a5
  have HC := Lib.hid (HS.out wz a1 a2 a4 a5 (hwz ▸ kp_alloc (kp_alloc (kp_alloc (kp_alloc (kp_new _ _) _) _) _) _))
  have HWZ := Lib.hid hwz
  clear hwz HS a1 a2 a4 a5 hat
  unfold inf0 Inf.vals
  dsimp only
  go_enter Tryz.func54, Tryz.ntmps54
  go_wp2_with fail
  rw [HWZ.out]
  refine HC.out.mono ?_
  rintro e w4 ⟨⟨v0, rfl⟩, h4, h3, hp, ho⟩
  have hS : (PP b mo idl m p).p S ((((((w4.setCell ⟨w.heap.size + 3, 0, none⟩ (.int .i64 x.id)).setCell ⟨w.heap.size + 3, 1, none⟩ (.int .i64 x.s)).setCell ⟨w.heap.size + 3, 2, none⟩ (.int .i64 x.o)).setCell ⟨w.heap.size + 3, 3, none⟩ (.int .u64 x.ep)).setCell ⟨w.heap.size + 3, 4, none⟩ (.int .u64 x.f)).setCell ⟨w.heap.size + 3, 5, none⟩ (.int .u64 x.t)) ∧ Off S w ((((((w4.setCell ⟨w.heap.size + 3, 0, none⟩ (.int .i64 x.id)).setCell ⟨w.heap.size + 3, 1, none⟩ (.int .i64 x.s)).setCell ⟨w.heap.size + 3, 2, none⟩ (.int .i64 x.o)).setCell ⟨w.heap.size + 3, 3, none⟩ (.int .u64 x.ep)).setCell ⟨w.heap.size + 3, 4, none⟩ (.int .u64 x.f)).setCell ⟨w.heap.size + 3, 5, none⟩ (.int .u64 x.t)) := by
    have h1 := inf_off x (Off.refl (fun k => k = w.heap.size + 3) w4)
    exact ⟨Thing.off hp h1 fun k hk e => by have := HSL.out k hk; omega, ho.trans h1 fun i e => .inr (by omega)⟩
  have HQ := Lib.hid hS
  obtain ⟨⟨c0, c1, c2, c3, c4, c5⟩, _⟩ := inf_cells h4
  obtain ⟨⟨d0, d1, d2, d3, d4, d5⟩, z0, z1, z2, z3, z4, z5⟩ := inf_cells h3
  clear h4 h3 hp ho hS HC
  unfold inf0 at d0 d1 d2 d3 d4 d5
  dsimp only at d0 d1 d2 d3 d4 d5
  go_wp2_with fail
  refine bodyPost_ret (v := .agg x.vals) ?_ rfl ⟨rfl, HQ.out⟩
  rw [results_cell1 rfl]
  unfold Inf.vals
  go_simp
end
end

/- What is done with a number that is said ahead (bound): contracts; plain facts of one that a pool has. -/
section
open Go.RowKit
set_option maxRecDepth 100000
attribute [local go_sem] Oper.semAt_some wide_depth wide_fn

theorem wpListIn_callv2 {F : Fence} {n : Nat} {P : Program} {ops : Array Oper} {Q : Exit → Act → World → Prop} {a : Act} {w : World} {rest : List Oper} {o : Oper} {c : Call} {t u u2 : Tmp} {fn : Fn} {cap : Array Value} {x y : Value} {f : FuncId} {args : Array Value} {R : Ending → World → Prop}
    (hF : ∀ f, F.fn f) (hd : F.depth = none) (hg : o.guard = none) (ho : o.op = .call c) (hcal : c.callee = .value (.tmp t)) (hca : c.args = #[.tmp u, .tmp u2])
    (hv : a.tmps.getD t undef = .func fn #[] cap) (hx : a.tmps.getD u undef = x) (hy : a.tmps.getD u2 undef = y)
    (hi : (invoke (.fn fn cap) #[x, y]).run P w = .ok (.enter f args) w) (hc : CallsIn F (n - 1) P f args w R)
    (hR : ∀ e w', R e w' → ∃ v, e = .returned v ∧ wpListIn F n P ops Q rest (a.put o.dst v) w') :
    wpListIn F n P ops Q (o :: rest) a w := by
  refine wpListIn_plain hg fun K hK => ⟨fun f _ => hF f, ?_⟩
  have e1 : Oper.semAt F.round a.eval o = execOp a.eval o := by
    unfold Oper.semAt
    rw [ho]
    cases F.round <;> rfl
  have e2 : (execOp a.eval o).run P w = .ok (.enter f args) w := by
    have hv' : a.tmps[t]?.getD undef = .func fn #[] cap := by rw [← Array.getD_eq_getD_getElem?]; exact hv
    have hx' : a.tmps[u]?.getD undef = x := by rw [← Array.getD_eq_getD_getElem?]; exact hx
    have hy' : a.tmps[u2]?.getD undef = y := by rw [← Array.getD_eq_getD_getElem?]; exact hy
    simp only [execOp, ho]
    rw [Sem.run_bind]
    have e3 : (resolve a.eval c o.type).run P w = .ok { target := .fn fn cap, args := #[x, y] } w := by
      simp [resolve, hcal, hca, hv', hx', hy', Deferred.ofValue, go_sem]
    rw [e3]
    exact hi
  rw [e1, e2]
  refine ⟨fun h => (by rw [hd] at h; cases h), CallsIn.mono hc fun e w' hr => ?_⟩
  obtain ⟨v, rfl, hw⟩ := hR e w' hr
  exact hK _ _ hw
section
variable {w W : World}
theorem bnd_B (fd : Fn) (n : Int) : Calls Tryz.prog 48 #[.func fd #[] #[], .int .u64 n] w fun e w' => e = .returned (.func (.func 89) #[] #[.pointer (some ⟨w.heap.size, 0, none⟩), .pointer (some ⟨w.heap.size + 1, 0, none⟩)]) ∧ w'.heap[w.heap.size]? = some (.cells #[.func fd #[] #[]] 98 (0, 0)) ∧ w'.heap[w.heap.size + 1]? = some (.cells #[.int .u64 n] 22 (0, 0)) ∧ w'.heap.size = w.heap.size + 2 ∧ Below w.heap.size w w' := by
  go_enter Tryz.func48, Tryz.ntmps48
  go_wp2_with fail
  go_ret
  refine ⟨rfl, ?_, ?_, by simp, kp_alloc (kp_new _ _) _⟩
  · exact (Below.heap_alloc _ _ _ (by simp)).trans (heap_alloc_new w _)
  · have := heap_alloc_new (w.alloc (.cells #[.func fd #[] #[]] 98)) (.cells #[.int .u64 n] 22)
    rwa [World.size_alloc] at this
theorem bnd_E (fd : Fn) (n : Int) : Calls Tryz.prog 45 #[.func fd #[] #[], .int .u64 n] w fun e w' => e = .returned (.func (.func 84) #[] #[.pointer (some ⟨w.heap.size, 0, none⟩), .pointer (some ⟨w.heap.size + 1, 0, none⟩)]) ∧ w'.heap[w.heap.size]? = some (.cells #[.func fd #[] #[]] 90 (0, 0)) ∧ w'.heap[w.heap.size + 1]? = some (.cells #[.int .u64 n] 22 (0, 0)) ∧ w'.heap.size = w.heap.size + 2 ∧ Below w.heap.size w w' := by
  go_enter Tryz.func45, Tryz.ntmps45
  go_wp2_with fail
  go_ret
  refine ⟨rfl, ?_, ?_, by simp, kp_alloc (kp_new _ _) _⟩
  · exact (Below.heap_alloc _ _ _ (by simp)).trans (heap_alloc_new w _)
  · have := heap_alloc_new (w.alloc (.cells #[.func fd #[] #[]] 90)) (.cells #[.int .u64 n] 22)
    rwa [World.size_alloc] at this
theorem bnd1_B (r : Lr) (B0 B1 : Nat) (fd : Fn) (n : Int) (v : Bool) {f : FuncId} {args : Array Value} {R : World → Prop} (h0 : W.heap[B0]? = some (.cells #[.func fd #[] #[]] 98 (0, 0))) (h1 : W.heap[B1]? = some (.cells #[.int .u64 n] 22 (0, 0)))
    (hi : (invoke (.fn fd #[]) #[lkV r, .int .u64 n]).run Tryz.prog W = .ok (.enter f args) W) (hc : Calls Tryz.prog f args W fun e w' => e = .returned (.bool v) ∧ R w') :
    Calls Tryz.prog 89 #[lkV r, .pointer (some ⟨B0, 0, none⟩), .pointer (some ⟨B1, 0, none⟩)] W fun e w' => e = .returned (.bool v) ∧ R w' := by
  obtain ⟨q0, _⟩ := cellsAt h0 0 (v := .func fd #[] #[]) rfl
  obtain ⟨q1, _⟩ := cellsAt h1 0 (v := .int .u64 n) rfl
  have HC := Lib.hid hc
  have hFn : ∀ f, Fence.wide.fn f := fun _ => trivial
  have hDp : Fence.wide.depth = none := rfl
  clear h0 h1 hc
  generalize lkV r = la at *
  refine (callsIn_wide (n := 3)).1 ?_
  refine callsIn_of_wp Tryz.func89 rfl trivial ?_ rfl
  simp only [Tryz.ntmps89, List.size_toArray, List.length_cons, List.length_nil, Nat.reduceAdd, Nat.reduceSub, Array.replicate_succ, Array.replicate_zero, List.push_toArray, List.append_toArray, List.nil_append, List.cons_append]
  gi_wp2_with (with_reducible refine wpListIn_callv2 hFn hDp rfl rfl rfl rfl ?_ ?_ ?_ hi (callsIn_wide.2 HC.out) (fun e w3 he => ?_); rotate_left 3; obtain ⟨rfl, hr⟩ := he; refine ⟨_, rfl, ?_⟩; have HR := Lib.hid hr; clear hr)
  go_ret
  exact ⟨rfl, HR.out⟩
theorem bnd1_E (r : Lr) (B0 B1 : Nat) (fd : Fn) (n : Int) (v : Int) {f : FuncId} {args : Array Value} {R : World → Prop} (h0 : W.heap[B0]? = some (.cells #[.func fd #[] #[]] 90 (0, 0))) (h1 : W.heap[B1]? = some (.cells #[.int .u64 n] 22 (0, 0)))
    (hi : (invoke (.fn fd #[]) #[lkV r, .int .u64 n]).run Tryz.prog W = .ok (.enter f args) W) (hc : Calls Tryz.prog f args W fun e w' => e = .returned (.int .i64 v) ∧ R w') :
    Calls Tryz.prog 84 #[lkV r, .pointer (some ⟨B0, 0, none⟩), .pointer (some ⟨B1, 0, none⟩)] W fun e w' => e = .returned (.int .i64 v) ∧ R w' := by
  obtain ⟨q0, _⟩ := cellsAt h0 0 (v := .func fd #[] #[]) rfl
  obtain ⟨q1, _⟩ := cellsAt h1 0 (v := .int .u64 n) rfl
  have HC := Lib.hid hc
  have hFn : ∀ f, Fence.wide.fn f := fun _ => trivial
  have hDp : Fence.wide.depth = none := rfl
  clear h0 h1 hc
  generalize lkV r = la at *
  refine (callsIn_wide (n := 3)).1 ?_
  refine callsIn_of_wp Tryz.func84 rfl trivial ?_ rfl
  simp only [Tryz.ntmps84, List.size_toArray, List.length_cons, List.length_nil, Nat.reduceAdd, Nat.reduceSub, Array.replicate_succ, Array.replicate_zero, List.push_toArray, List.append_toArray, List.nil_append, List.cons_append]
  gi_wp2_with (with_reducible refine wpListIn_callv2 hFn hDp rfl rfl rfl rfl ?_ ?_ ?_ hi (callsIn_wide.2 HC.out) (fun e w3 he => ?_); rotate_left 3; obtain ⟨rfl, hr⟩ := he; refine ⟨_, rfl, ?_⟩; have HR := Lib.hid hr; clear hr)
  go_ret
  exact ⟨rfl, HR.out⟩
end
/-- what stays true of a pool, its ids told too -/
structure KInv (mo m : Int) (k : Nat) (p : Pl) : Prop where
  inv : PInv mo m p
  ids : IInv k p
  pos : ∀ h ∈ p.l, 1 ≤ h.id
section
variable {mo m : Int} {k : Nat} {p : Pl}
theorem KInv.new (hmo : 0 ≤ mo) (hm : 0 ≤ m) : KInv mo m 0 ⟨[], [], 0⟩ := ⟨PInv.new hmo hm, IInv.new, by simp⟩
theorem KInv.do (h : KInv mo m k p) (hk : k ≤ 1000) (idl : Int) (t : Act6) : KInv mo m (k + 1) (doP mo idl m t p) := by
  have hs := IStep.do h.ids hk mo idl m t
  refine ⟨h.inv.do idl t, hs.inv, fun x hx => ?_⟩
  rcases hs.old x hx with ⟨y, hy, e, _⟩ | e
  · rw [← e]
    exact h.pos y hy
  · have := h.ids.low
    omega
theorem KInv.ne (h : KInv mo m k p) : p.l.Pairwise fun a b => a.id ≠ b.id := h.ids.up.imp fun h => by omega
theorem KInv.swept (h : KInv mo m k p) : sweepP p = p := by unfold sweepP; rw [sweep_live h.inv.live]
theorem KInv.at_ (h : KInv mo m k p) {id : Int} (hf : ¬ findH id p.l < 0) : theH id p ∈ p.l := by
  obtain ⟨i, hi⟩ : ∃ i : Nat, findH id p.l = i := ⟨(findH id p.l).toNat, by omega⟩
  obtain ⟨h1, _⟩ := firstH_is hi
  have := h.inv.few
  unfold theH
  rw [hi]
  simp [List.getD_eq_getElem?_getD, h1]
end
theorem onH_congr {id : Int} {p : Pl} {f g : Hd → Hd} (he : f (theH id p) = g (theH id p)) : onH id f p = onH id g p := by
  unfold onH turnH
  congr 1
  refine List.ext_getElem (by simp) fun i h1 h2 => ?_
  rw [List.getElem_modify, List.getElem_modify]
  split
  · rename_i e
    have hi : i < p.l.length := by simpa using h1
    have : theH id p = p.l[i] := by
      unfold theH
      rw [List.getD_eq_getElem?_getD, e, List.getElem?_eq_getElem hi]
      rfl
    rw [← this, he]
  · rfl
end
end Go.Proofs.YtkbaljdpnopbmaaGreat
