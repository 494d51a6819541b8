/-
  Contracts and plain functions that the law stands on, part 17 of 24.
-/
import Derived.Test.YtaoegiohnebnhaaGreatDoorQD16
import Derived.KernelRfl
namespace Go.Proofs.YtaoegiohnebnhaaGreatDoor
/- Layer 15: the law's own: contract. -/
section
open Go.RowKit
set_option maxRecDepth 100000

/-- three pointers that are read -/
structure P3 (w : World) (A : Option Addr) (bs : Nat → Nat) : Prop where
  rd : Rd w w.heap.size A [.pointer (some ⟨bs 0, 0, none⟩), .pointer (some ⟨bs 1, 0, none⟩), .pointer (some ⟨bs 2, 0, none⟩)]
theorem P3.next {w w' : World} {A : Option Addr} {bs : Nat → Nat} (h : P3 w A bs) (hb : Below w.heap.size w w') : P3 w' A bs := ⟨(h.rd.below hb (Nat.le_refl _)).more hb.size⟩
theorem P3.at_ {w : World} {A : Option Addr} {bs : Nat → Nat} (h : P3 w A bs) {i : Nat} (hi : i < 3) : ∃ ad, A = some ad ∧ ad.block < w.heap.size ∧ w.cell? (ad.add i) = some (.pointer (some ⟨bs i, 0, none⟩)) := by
  obtain ⟨ad, hA, hb, hc⟩ := h.rd.addr (by simp)
  refine ⟨ad, hA, hb, hc i _ ?_⟩
  match i, hi with
  | 0, _ => rfl
  | 1, _ => rfl
  | 2, _ => rfl
/-- ahead of one operation what is left is new; behind it G holds, and behind another F -/
def SL7 (a b : Nat) (W : World) (G F : World → Prop) (L : Nat → Bool) (u : World) : Prop := bif L b then F u else bif L a then G u else Below W.heap.size W u
section
variable {a b : Nat} {W u : World} {G F : World → Prop} {L : Nat → Bool}
theorem SL7.ahead (h : SL7 a b W G F L u) (h0 : L a = false) (h1 : L b = false) : Below W.heap.size W u := by
  unfold SL7 at h
  rw [h0, h1] at h
  exact h
theorem SL7.of (h0 : L a = false) (h1 : L b = false) (h : Below W.heap.size W u) : SL7 a b W G F L u := by
  unfold SL7
  rw [h0, h1]
  exact h
theorem SL7.mid (h : SL7 a b W G F L u) (h0 : L a = true) (h1 : L b = false) : G u := by
  unfold SL7 at h
  rw [h0, h1] at h
  exact h
theorem SL7.now (h0 : L a = true) (h1 : L b = false) (h : G u) : SL7 a b W G F L u := by
  unfold SL7
  rw [h0, h1]
  exact h
theorem SL7.done (h : SL7 a b W G F L u) (h1 : L b = true) : F u := by
  unfold SL7 at h
  rw [h1] at h
  exact h
theorem SL7.last (h1 : L b = true) (h : F u) : SL7 a b W G F L u := by
  unfold SL7
  rw [h1]
  exact h
end
theorem Turn.ahead {Y : Thing} {S : Nat → Prop} {w u w' : World} (ht : Turn Y S u w') (hb : Below w.heap.size w u) : Turn Y S w w' := by
  obtain ⟨⟨S', h1, h2⟩, h3⟩ := ht
  exact ⟨⟨S', h1, fun k hk => (h2 k hk).imp id fun e => Nat.le_trans hb.size e⟩, (Off.of S hb).trans h3 fun i hi => .inl hi⟩
/-- what is written behind a call, into blocks that were new then -/
theorem Turn.behind {Y : Thing} {S : Nat → Prop} {w w3 w5 w6 : World} {xb : Nat} (hxb : w.heap.size = xb) (hz : w3.heap.size = xb + 3) (hb : Below w.heap.size w w3) (hs : ∀ k, S k → k < w.heap.size) (ht : Turn Y S w3 w5) (ho : Off (fun k => xb ≤ k ∧ k < xb + 3) w5 w6) : Turn Y S w w6 := by
  obtain ⟨⟨S', h1, h2⟩, h3⟩ := ht
  refine ⟨⟨S', Thing.off h1 ho fun k hk e => ?_, fun k hk => ?_⟩, ((Off.of S hb).trans h3 fun i hi => .inl hi).trans ho fun i hi => .inr (by omega)⟩
  · rcases h2 k hk with h | h
    · have := hs k h; omega
    · omega
  · rcases h2 k hk with h | h
    · exact .inl h
    · exact .inr (by omega)
theorem lof3_ok (n : Int) (w : World) : Calls Tryz.prog 15 #[.int .i64 n] w fun e w' => e = .returned (.int .i64 (of3 n : Nat)) ∧ w = w' := by
  rw [of3_val]
  exact lof_ok n w
def toO (r : Rp) (A : Option Addr) (m d : Nat) (is : Bool) (many : Int) : Obj := .cells #[.int .i64 r.e, .int .u64 r.ep, .int .u64 r.pl, .slice A m d, .bool is, .int .i64 many] 38 (0, 0)
def toV (t : To15) (A : Option Addr) (m d : Nat) : Value := .agg #[.int .i64 t.r.e, .int .u64 t.r.ep, .int .u64 t.r.pl, .slice A m d, .bool t.is, .int .i64 t.many]
/-- texts lie in no block that holds none -/
theorem XR.past {w w' : World} {xb : Nat} {A : Option Addr} {m : Nat} {ss : List ByteArray} (h : XR w A m ss) (h1 : w.heap[xb + 1]? = some (toO noRp none 0 0 false 0)) (h2 : w.heap[xb + 1 + 1]? = some (toO noRp none 0 0 false 0)) (ho : Off (fun k => k = xb + 1 ∨ k = xb + 1 + 1) w w') : XR w' A m ss := by
  rcases ss with _ | ⟨s, ss⟩
  · exact ⟨h.len, .inl rfl⟩
  · refine h.offO ho fun ad hA e => ?_
    obtain ⟨ad', hA', _, hc⟩ := h.at_ (j := 0) (by simp)
    rw [hA] at hA'
    obtain rfl : ad = ad' := Option.some.inj hA'
    have hh : w.heap[(ad.add 0).block]? = some (toO noRp none 0 0 false 0) := by
      rw [add_block]
      rcases e with e | e
      · rw [e]; exact h1
      · rw [e]; exact h2
    have : ∃ o : Nat, (#[.int .i64 0, .int .u64 0, .int .u64 0, .slice none 0 0, .bool false, .int .i64 0] : Array Value)[o]? = some (Value.string (s :: ss)[0]) := by
      refine ⟨(ad.add 0).off, ?_⟩
      unfold World.cell? at hc
      rw [hh] at hc
      unfold toO noRp at hc
      dsimp only at hc
      split at hc
      · cases hc
      · exact hc
    obtain ⟨o, ho⟩ := this
    match o with
    | 0 => cases ho
    | 1 => cases ho
    | 2 => cases ho
    | 3 => cases ho
    | 4 => cases ho
    | 5 => cases ho
    | (n + 6) => simp at ho
section
variable {bs : Nat → Nat} {ns : Nat → Nd} {S : Nat → Prop} {w : World} {k : Nat}
set_option maxHeartbeats 16000000 in
theorem lown_ok (A : Option Addr) (c0 : Nat) (x : Ac8) (h : (Tri RN bs ns).p S w) (hp : P3 w A bs) (hI : ∀ i, NdI k (ns i)) (hk : k ≤ 800) (hx : x.Fine) (ht : Sm x.t) :
    Calls Tryz.prog 13 #[.slice A 3 c0, .agg #[.int .i64 x.d, .int .i64 x.nd, .int .i64 x.fr, .int .i64 x.c, .int .i64 x.m, .int .u64 x.e, .bool x.rd, .string x.t]] w fun e w' => ∃ (A' : Option Addr) (m' d' : Nat), e = .returned (toV (actN ns x).1 A' m' d') ∧ XR w' A' m' (actN ns x).1.r.ts ∧ Turn (Tri RN bs (actN ns x).2) S w w' := by
  obtain ⟨i, hi⟩ : ∃ i, of3 x.nd = i := ⟨_, rfl⟩
  have hi3 : i < 3 := hi ▸ of3_lt x.nd
  have HOF := Lib.hid (fun w => lof3_ok x.nd w)
  rw [hi] at HOF
  obtain ⟨w3, hw3⟩ : ∃ u, ((w.alloc (acO x)).alloc (toO noRp none 0 0 false 0)).alloc (toO noRp none 0 0 false 0) = u := ⟨_, rfl⟩
  have k3 : Below w.heap.size w w3 := hw3 ▸ kp_alloc (kp_alloc (kp_new _ _) _) _
  obtain ⟨xb, hxb⟩ : ∃ b, w.heap.size = b := ⟨_, rfl⟩
  have hz3 : w3.heap.size = xb + 3 := by rw [← hw3, ← hxb]; simp
  have bx : w3.heap[xb]? = some (acO x) := by
    rw [← hxb, ← hw3, heap_alloc_old _ _ (by simp; omega), heap_alloc_old _ _ (by simp)]
    exact heap_alloc_new w _
  have b4 : w3.heap[xb + 1]? = some (toO noRp none 0 0 false 0) := by
    rw [← hxb, ← hw3, heap_alloc_old _ _ (by simp)]
    have := heap_alloc_new (w.alloc (acO x)) (toO noRp none 0 0 false 0)
    rwa [World.size_alloc] at this
  have b5 : w3.heap[xb + 1 + 1]? = some (toO noRp none 0 0 false 0) := by
    rw [← hxb, ← hw3]
    have := heap_alloc_new ((w.alloc (acO x)).alloc (toO noRp none 0 0 false 0)) (toO noRp none 0 0 false 0)
    rwa [World.size_alloc, World.size_alloc] at this
  obtain ⟨ad, rfl, hadl, z0⟩ := (hp.next k3).at_ hi3
  obtain ⟨x0, _⟩ := cellsAt bx 0 (v := .int .i64 x.d) rfl
  obtain ⟨x1, _⟩ := cellsAt bx 1 (v := .int .i64 x.nd) rfl
  obtain ⟨x2, _⟩ := cellsAt bx 2 (v := .int .i64 x.fr) rfl
  obtain ⟨x3, _⟩ := cellsAt bx 3 (v := .int .i64 x.c) rfl
  obtain ⟨x4, _⟩ := cellsAt bx 4 (v := .int .i64 x.m) rfl
  obtain ⟨x5, _⟩ := cellsAt bx 5 (v := .int .u64 x.e) rfl
  obtain ⟨x6, _⟩ := cellsAt bx 6 (v := .bool x.rd) rfl
  obtain ⟨x7, _⟩ := cellsAt bx 7 (v := .string x.t) rfl
  have hi0 : (0 : Int) ≤ (i : Int) := by omega
  have hi1 : (i : Int) < 3 := by omega
  have HT := Lib.hid h
  have HT3 := Lib.hid (Thing.next h k3)
  have HK3 := Lib.hid k3
  have HW3 := Lib.hid hw3
  have HXB := Lib.hid hxb
  have HB4 := Lib.hid b4
  have HB5 := Lib.hid b5
  have HZ3 := Lib.hid hz3
  have HS := Lib.hid (fun k (hk : S k) => (Tri RN bs ns).lt h k hk)
  unfold acO toO noRp at HW3
  dsimp only at HW3
  clear h k3 hw3 hxb b4 b5 hz3 bx
  by_cases h1 : x.d = 1
  · have ha : actN ns x = (⟨noRp, decide (0 ≤ idxOp x.c (ns i).op), 0⟩, upd3 ns i (closeNd (ns i) x.c)) := by
      unfold actN
      rw [if_neg (by omega), if_pos h1, hi]
    rw [ha]
    have HQ := Lib.hid (Tri.op HT3.out hi3 (x := closeNd (ns i) x.c) fun S' hS' => (rclose15_ok x.c hS' (hI i).nd (by have := (hI i).ol; omega)).mono fun _ _ ⟨he, hl⟩ => ⟨he, hl.turn (RN.own hS')⟩)
    rw [h1] at x0 HW3
    clear ha hi
    go_enter Tryz.func13, Tryz.ntmps13
    rw [h1]
    go_wp2_with fail
    rw [HW3.out, HXB.out]
    refine (HOF.out _).mono ?_
    rintro e w4 ⟨rfl, rfl⟩
    go_wp2_with fail
    refine HQ.out.mono ?_
    rintro e w5 ⟨rfl, ht⟩
    have c5 : w5.heap[xb + 1 + 1]? = some (toO noRp none 0 0 false 0) := (ht.off.block _ (by have := HZ3.out; omega) (fun e => by have := HS.out _ e; have := HXB.out; omega)).trans HB5.out
    have c4 : w5.heap[xb + 1]? = some (toO noRp none 0 0 false 0) := (ht.off.block _ (by have := HZ3.out; omega) (fun e => by have := HS.out _ e; have := HXB.out; omega)).trans HB4.out
    have HTT := Lib.hid ht
    have HZ5 := Lib.hid ht.off.size
    have HC4 := Lib.hid c4
    have HC5 := Lib.hid c5
    clear ht
    obtain ⟨u0, p0⟩ := cellsAt c5 0 (v := .int .i64 0) rfl
    obtain ⟨u1, p1⟩ := cellsAt c5 1 (v := .int .u64 0) rfl
    obtain ⟨u2, p2⟩ := cellsAt c5 2 (v := .int .u64 0) rfl
    obtain ⟨u3, p3⟩ := cellsAt c5 3 (v := .slice none 0 0) rfl
    obtain ⟨u4, p4⟩ := cellsAt c5 4 (v := .bool false) rfl
    obtain ⟨u5, p5⟩ := cellsAt c5 5 (v := .int .i64 0) rfl
    obtain ⟨s0, q0⟩ := cellsAt c4 0 (v := .int .i64 0) rfl
    obtain ⟨s1, q1⟩ := cellsAt c4 1 (v := .int .u64 0) rfl
    obtain ⟨s2, q2⟩ := cellsAt c4 2 (v := .int .u64 0) rfl
    obtain ⟨s3, q3⟩ := cellsAt c4 3 (v := .slice none 0 0) rfl
    obtain ⟨s4, q4⟩ := cellsAt c4 4 (v := .bool false) rfl
    obtain ⟨s5, q5⟩ := cellsAt c4 5 (v := .int .i64 0) rfl
    clear c5 c4
    go_wp2_with fail
    refine bodyPost_ret (v := toV ⟨noRp, decide (0 ≤ idxOp x.c (ns i).op), 0⟩ none 0 0) ?_ rfl ⟨none, 0, 0, rfl, XR.nil _, Turn.behind HXB.out HZ3.out HK3.out HS.out HTT.out (Off.wide (S := fun k => k = xb + 1 ∨ k = xb + 1 + 1) (Off.setCell (Off.setCell (Off.setCell (Off.setCell (Off.setCell (Off.setCell (Off.setCell (Off.refl _ _) (.inl (.inr rfl)) _) (.inl (.inl rfl)) _) (.inl (.inl rfl)) _) (.inl (.inl rfl)) _) (.inl (.inl rfl)) _) (.inl (.inl rfl)) _) (.inl (.inl rfl)) _) fun k hk => by omega)⟩
    rw [results_cell1 rfl]
    unfold toV noRp
    go_simp
  by_cases h2 : x.d = 2
  · have ha : actN ns x = (⟨noRp, decide ((ns i).ep ≤ x.e), 0⟩, upd3 ns i (leadNd (ns i) x.e)) := by
      unfold actN
      rw [if_neg (by omega), if_neg h1, if_pos h2, hi]
    rw [ha]
    have HQ := Lib.hid (Tri.op HT3.out hi3 (x := leadNd (ns i) x.e) fun S' hS' => rlead15_ok x.e hS')
    rw [h2] at x0 HW3
    clear ha hi
    go_enter Tryz.func13, Tryz.ntmps13
    rw [h2]
    go_wp2_with fail
    rw [HW3.out, HXB.out]
    refine (HOF.out _).mono ?_
    rintro e w4 ⟨rfl, rfl⟩
    go_wp2_with fail
    refine HQ.out.mono ?_
    rintro e w5 ⟨rfl, ht⟩
    have c5 : w5.heap[xb + 1 + 1]? = some (toO noRp none 0 0 false 0) := (ht.off.block _ (by have := HZ3.out; omega) (fun e => by have := HS.out _ e; have := HXB.out; omega)).trans HB5.out
    have c4 : w5.heap[xb + 1]? = some (toO noRp none 0 0 false 0) := (ht.off.block _ (by have := HZ3.out; omega) (fun e => by have := HS.out _ e; have := HXB.out; omega)).trans HB4.out
    have HTT := Lib.hid ht
    have HZ5 := Lib.hid ht.off.size
    have HC4 := Lib.hid c4
    have HC5 := Lib.hid c5
    clear ht
    obtain ⟨u0, p0⟩ := cellsAt c5 0 (v := .int .i64 0) rfl
    obtain ⟨u1, p1⟩ := cellsAt c5 1 (v := .int .u64 0) rfl
    obtain ⟨u2, p2⟩ := cellsAt c5 2 (v := .int .u64 0) rfl
    obtain ⟨u3, p3⟩ := cellsAt c5 3 (v := .slice none 0 0) rfl
    obtain ⟨u4, p4⟩ := cellsAt c5 4 (v := .bool false) rfl
    obtain ⟨u5, p5⟩ := cellsAt c5 5 (v := .int .i64 0) rfl
    obtain ⟨s0, q0⟩ := cellsAt c4 0 (v := .int .i64 0) rfl
    obtain ⟨s1, q1⟩ := cellsAt c4 1 (v := .int .u64 0) rfl
    obtain ⟨s2, q2⟩ := cellsAt c4 2 (v := .int .u64 0) rfl
    obtain ⟨s3, q3⟩ := cellsAt c4 3 (v := .slice none 0 0) rfl
    obtain ⟨s4, q4⟩ := cellsAt c4 4 (v := .bool false) rfl
    obtain ⟨s5, q5⟩ := cellsAt c4 5 (v := .int .i64 0) rfl
    clear c5 c4
    go_wp2_with fail
    refine bodyPost_ret (v := toV ⟨noRp, decide ((ns i).ep ≤ x.e), 0⟩ none 0 0) ?_ rfl ⟨none, 0, 0, rfl, XR.nil _, Turn.behind HXB.out HZ3.out HK3.out HS.out HTT.out (Off.wide (S := fun k => k = xb + 1 ∨ k = xb + 1 + 1) (Off.setCell (Off.setCell (Off.setCell (Off.setCell (Off.setCell (Off.setCell (Off.setCell (Off.refl _ _) (.inl (.inr rfl)) _) (.inl (.inl rfl)) _) (.inl (.inl rfl)) _) (.inl (.inl rfl)) _) (.inl (.inl rfl)) _) (.inl (.inl rfl)) _) (.inl (.inl rfl)) _) fun k hk => by omega)⟩
    rw [results_cell1 rfl]
    unfold toV noRp
    go_simp
  by_cases h0 : x.d = 0
  · have ha : actN ns x = (⟨(runNd (ns i) x.c x.e x.rd x.t).1, false, 0⟩, upd3 ns i (runNd (ns i) x.c x.e x.rd x.t).2) := by
      unfold actN
      rw [if_pos h0, hi]
    rw [ha]
    have HQ := Lib.hid (Tri.op HT3.out hi3 (x := (runNd (ns i) x.c x.e x.rd x.t).2) fun S' hS' => (rrun15_ok x.c x.e x.rd x.t hS' (hI i) hk ht hx.c.1 hx.c.2).mono fun _ _ ⟨A, m, d, he, hr, hl⟩ => (⟨⟨A, m, d, he, hr⟩, hl⟩ : (∃ A m d, _ = Ending.returned (rpV (runNd (ns i) x.c x.e x.rd x.t).1 A m d) ∧ XR _ A m (runNd (ns i) x.c x.e x.rd x.t).1.ts) ∧ _))
    generalize hR : runNd (ns i) x.c x.e x.rd x.t = R at HQ ⊢
    rw [h0] at x0 HW3
    clear ha hi
    go_enter Tryz.func13, Tryz.ntmps13
    rw [h0]
    go_wp2_with fail
    rw [HW3.out, HXB.out]
    refine (HOF.out _).mono ?_
    rintro e w4 ⟨rfl, rfl⟩
    go_wp2_with fail
    refine HQ.out.mono ?_
    rintro e w5 ⟨⟨A, m, d, rfl, hr⟩, ht⟩
    have HR := Lib.hid hr
    clear hr hR
    unfold rpV
    have c5 : w5.heap[xb + 1 + 1]? = some (toO noRp none 0 0 false 0) := (ht.off.block _ (by have := HZ3.out; omega) (fun e => by have := HS.out _ e; have := HXB.out; omega)).trans HB5.out
    have c4 : w5.heap[xb + 1]? = some (toO noRp none 0 0 false 0) := (ht.off.block _ (by have := HZ3.out; omega) (fun e => by have := HS.out _ e; have := HXB.out; omega)).trans HB4.out
    have HTT := Lib.hid ht
    have HZ5 := Lib.hid ht.off.size
    have HC4 := Lib.hid c4
    have HC5 := Lib.hid c5
    clear ht
    obtain ⟨u0, p0⟩ := cellsAt c5 0 (v := .int .i64 0) rfl
    obtain ⟨u1, p1⟩ := cellsAt c5 1 (v := .int .u64 0) rfl
    obtain ⟨u2, p2⟩ := cellsAt c5 2 (v := .int .u64 0) rfl
    obtain ⟨u3, p3⟩ := cellsAt c5 3 (v := .slice none 0 0) rfl
    obtain ⟨u4, p4⟩ := cellsAt c5 4 (v := .bool false) rfl
    obtain ⟨u5, p5⟩ := cellsAt c5 5 (v := .int .i64 0) rfl
    obtain ⟨s0, q0⟩ := cellsAt c4 0 (v := .int .i64 0) rfl
    obtain ⟨s1, q1⟩ := cellsAt c4 1 (v := .int .u64 0) rfl
    obtain ⟨s2, q2⟩ := cellsAt c4 2 (v := .int .u64 0) rfl
    obtain ⟨s3, q3⟩ := cellsAt c4 3 (v := .slice none 0 0) rfl
    obtain ⟨s4, q4⟩ := cellsAt c4 4 (v := .bool false) rfl
    obtain ⟨s5, q5⟩ := cellsAt c4 5 (v := .int .i64 0) rfl
    clear c5 c4
    go_wp2_with fail
    refine bodyPost_ret (v := toV ⟨R.1, false, 0⟩ A m d) ?_ rfl ⟨A, m, d, rfl, XR.past HR.out HC4.out HC5.out (Off.setCell (Off.setCell (Off.setCell (Off.setCell (Off.setCell (Off.setCell (Off.setCell (Off.setCell (Off.setCell (Off.setCell (Off.refl _ _) (.inl (.inr rfl)) _) (.inl (.inr rfl)) _) (.inl (.inr rfl)) _) (.inl (.inr rfl)) _) (.inl (.inl rfl)) _) (.inl (.inl rfl)) _) (.inl (.inl rfl)) _) (.inl (.inl rfl)) _) (.inl (.inl rfl)) _) (.inl (.inl rfl)) _), Turn.behind HXB.out HZ3.out HK3.out HS.out HTT.out (Off.wide (S := fun k => k = xb + 1 ∨ k = xb + 1 + 1) (Off.setCell (Off.setCell (Off.setCell (Off.setCell (Off.setCell (Off.setCell (Off.setCell (Off.setCell (Off.setCell (Off.setCell (Off.refl _ _) (.inl (.inr rfl)) _) (.inl (.inr rfl)) _) (.inl (.inr rfl)) _) (.inl (.inr rfl)) _) (.inl (.inl rfl)) _) (.inl (.inl rfl)) _) (.inl (.inl rfl)) _) (.inl (.inl rfl)) _) (.inl (.inl rfl)) _) (.inl (.inl rfl)) _) fun k hk => by omega)⟩
    rw [results_cell1 rfl]
    unfold toV
    go_simp
  · have ha : actN ns x = (⟨noRp, false, (copyNd (ns i) (ns (of3 x.fr)) x.m).1⟩, upd3 ns i (copyNd (ns i) (ns (of3 x.fr)) x.m).2) := by
      unfold actN
      rw [if_neg h0, if_neg h1, if_neg h2, hi]
    rw [ha]
    obtain ⟨j, hj⟩ : ∃ j, of3 x.fr = j := ⟨_, rfl⟩
    have hj3 : j < 3 := hj ▸ of3_lt x.fr
    have HOF2 := Lib.hid (fun w => lof3_ok x.fr w)
    rw [hj] at HOF2 ⊢
    have hj0 : (0 : Int) ≤ (j : Int) := by omega
    have hj1 : (j : Int) < 3 := by omega
    have HCP : Hid (∀ u, Below w3.heap.size w3 u → Calls Tryz.prog 36 #[.pointer (some ⟨bs i, 0, none⟩), .pointer (some ⟨bs j, 0, none⟩), .int .i64 x.m] u fun e w' => e = .returned (.int .i64 (copyNd (ns i) (ns j) x.m).1) ∧ Turn (Tri RN bs (upd3 ns i (copyNd (ns i) (ns j) x.m).2)) S u w') := Lib.hid fun u hu => by
      by_cases hij : i = j
      · subst hij
        exact Tri.op (Thing.next HT3.out hu) hi3 fun S' hS' => (rcopy15_self x.m hS' (hI i).lg).mono fun _ _ ⟨he, hl⟩ => ⟨he, hl.turn (RN.own hS')⟩
      · exact Tri.op2 (Thing.next HT3.out hu) hi3 hj3 hij fun S' T' hS' hT' hd => (rcopy15_ok x.m hS' hT' hd (hI i).lg (hI j).lg).mono fun _ _ ⟨he, hl⟩ => ⟨he, hl.turn (RN.own hS')⟩
    obtain ⟨ad', had', _, zj⟩ := (hp.next HK3.out).at_ hj3
    obtain rfl : ad = ad' := Option.some.inj had'
    obtain ⟨cp, hcp⟩ : ∃ c, copyNd (ns i) (ns j) x.m = c := ⟨_, rfl⟩
    rw [hcp] at HCP ⊢
    have g0 : (x.d == 0) = false := by simpa using h0
    have g1 : (x.d == 1) = false := by simpa using h1
    have g2 : (x.d == 2) = false := by simpa using h2
    obtain ⟨GN, hGN⟩ : ∃ G : World → Prop, ∀ z, G z ↔ Turn (Tri RN bs (upd3 ns i cp.2)) S w3 z := ⟨_, fun _ => Iff.rfl⟩
    obtain ⟨FN, hFN⟩ : ∃ F : World → Prop, ∀ z, F z ↔ (∃ u0, Turn (Tri RN bs (upd3 ns i cp.2)) S w3 u0 ∧ Off (fun k => k = xb + 1 ∨ k = xb + 1 + 1) u0 z ∧ z.heap[xb + 1]? = some (toO noRp none 0 0 false 0) ∧ z.heap[xb + 1 + 1]? = some (toO noRp none 0 0 false cp.1)) := ⟨_, fun _ => Iff.rfl⟩
    have HGN := Lib.hid hGN
    have HFN := Lib.hid hFN
    have HKR : Hid (∀ (i : Nat) (u : World), Kp2 9 11 i u u) := Lib.hid (Kp2.refl _ _)
    clear hGN hFN ha hi hj hcp h0 h1 h2 had' hI
    go_enter Tryz.func13, Tryz.ntmps13
    go_wp2_with fail
    rw [HW3.out, HXB.out]
    refine (HOF.out _).mono ?_
    rintro e w4 ⟨rfl, rfl⟩
    go_wp2_with fail
    refine wp_region_specs6 (S := SL7 9 11 w3 GN FN) (Kp := Kp2 9 11) (Sp := [(15, Stl.eq (.pointer (some ⟨bs i, 0, none⟩))), (16, Stl.eq (.slice (some ad) 3 c0)), (17, Stl.eq (.pointer (some ⟨xb, 2, none⟩))), (18, Stl.eq (.int .i64 x.fr)), (19, Stl.eq (.int .i64 (j : Nat))), (20, Stl.eq (.pointer (some (ad.add j)))), (21, Stl.eq (.pointer (some ⟨bs j, 0, none⟩))), (22, Stl.eq (.pointer (some ⟨xb, 4, none⟩))), (23, Stl.eq (.int .i64 x.m)), (24, Stl.eq (.int .i64 cp.1)), (25, Stl.eq (.pointer (some ⟨xb + 1 + 1, 5, none⟩)))]) (by kernel_rfl) (by kernel_rfl) (SL7.of rfl rfl (kp_drewN _ 1)) ?_ ?_
    · refine EachOp.cons ?_ ?_
      · intro L a u hL hst hS hdep hq hno
        have h6 : a.tmps.getD 6 undef = .pointer (some ⟨bs i, 0, none⟩) := hst.out 6 (by kernel_rfl)
        refine .inl ⟨trivial, ?_⟩
        have g6 := gd h6
        go_simp
        exact Went6.same (HKR.out _ _) hS rfl
      refine EachOp.cons ?_ ?_
      · intro L a u hL hst hS hdep hq hno
        have h0 : a.tmps.getD 0 undef = .slice (some ad) 3 c0 := hst.out 0 (by kernel_rfl)
        refine .inl ⟨trivial, ?_⟩
        have g0 := gd h0
        go_simp
        exact Went6.same (HKR.out _ _) hS rfl
      refine EachOp.cons ?_ ?_
      · intro L a u hL hst hS hdep hq hno
        have h3 : a.tmps.getD 3 undef = .pointer (some ⟨xb, 0, none⟩) := hst.out 3 (by kernel_rfl)
        refine .inl ⟨trivial, ?_⟩
        have g3 := gd h3
        go_simp
        exact Went6.same (HKR.out _ _) hS rfl
      refine EachOp.cons ?_ ?_
      · intro L a u hL hst hS hdep hq hno
        have h17 : a.tmps.getD 17 undef = .pointer (some ⟨xb, 2, none⟩) := hdep 17 (by kernel_rfl)
        refine .inl ⟨trivial, ?_⟩
        have g17 := gd h17
        have h9 : L 9 = false := hno 12 9 (by kernel_rfl)
        have h11 : L 11 = false := hno 12 11 (by kernel_rfl)
        have hB : Below w3.heap.size w3 u := SL7.ahead hS h9 h11
        have yy := (World.cell?_of_block (a := ⟨xb, 2, none⟩) (hB.block xb (by have := HZ3.out; omega))).trans x2
        go_simp
        exact Went6.same (HKR.out _ _) hS rfl
      refine EachOp.cons ?_ ?_
      · intro L a u hL hst hS hdep hq hno
        have h18 : a.tmps.getD 18 undef = .int .i64 x.fr := hdep 18 (by kernel_rfl)
        refine .inl ⟨trivial, ?_⟩
        have g18 := gd h18
        go_simp
        refine (HOF2.out u).mono ?_
        rintro e' u' ⟨rfl, rfl⟩
        exact Went6.next hS (HKR.out _ _) rfl
      refine EachOp.cons ?_ ?_
      · intro L a u hL hst hS hdep hq hno
        have h16 : a.tmps.getD 16 undef = .slice (some ad) 3 c0 := hdep 16 (by kernel_rfl)
        have h19 : a.tmps.getD 19 undef = .int .i64 (j : Nat) := hdep 19 (by kernel_rfl)
        refine .inl ⟨trivial, ?_⟩
        have g16 := gd h16
        have g19 := gd h19
        go_simp
        exact Went6.same (HKR.out _ _) hS rfl
      refine EachOp.cons ?_ ?_
      · intro L a u hL hst hS hdep hq hno
        have h20 : a.tmps.getD 20 undef = .pointer (some (ad.add j)) := hdep 20 (by kernel_rfl)
        refine .inl ⟨trivial, ?_⟩
        have g20 := gd h20
        have h9 : L 9 = false := hno 12 9 (by kernel_rfl)
        have h11 : L 11 = false := hno 12 11 (by kernel_rfl)
        have hB : Below w3.heap.size w3 u := SL7.ahead hS h9 h11
        have yy : u.cell? (ad.add j) = some (.pointer (some ⟨bs j, 0, none⟩)) := (World.cell?_of_block (by rw [add_block]; exact hB.block _ hadl)).trans zj
        go_simp
        exact Went6.same (HKR.out _ _) hS rfl
      refine EachOp.cons ?_ ?_
      · intro L a u hL hst hS hdep hq hno
        have h3 : a.tmps.getD 3 undef = .pointer (some ⟨xb, 0, none⟩) := hst.out 3 (by kernel_rfl)
        refine .inl ⟨trivial, ?_⟩
        have g3 := gd h3
        go_simp
        exact Went6.same (HKR.out _ _) hS rfl
      refine EachOp.cons ?_ ?_
      · intro L a u hL hst hS hdep hq hno
        have h22 : a.tmps.getD 22 undef = .pointer (some ⟨xb, 4, none⟩) := hdep 22 (by kernel_rfl)
        refine .inl ⟨trivial, ?_⟩
        have g22 := gd h22
        have h9 : L 9 = false := hno 12 9 (by kernel_rfl)
        have h11 : L 11 = false := hno 12 11 (by kernel_rfl)
        have hB : Below w3.heap.size w3 u := SL7.ahead hS h9 h11
        have yy := (World.cell?_of_block (a := ⟨xb, 4, none⟩) (hB.block xb (by have := HZ3.out; omega))).trans x4
        go_simp
        exact Went6.same (HKR.out _ _) hS rfl
      refine EachOp.cons ?_ ?_
      · intro L a u hL hst hS hdep hq hno
        have h15 : a.tmps.getD 15 undef = .pointer (some ⟨bs i, 0, none⟩) := hdep 15 (by kernel_rfl)
        have h21 : a.tmps.getD 21 undef = .pointer (some ⟨bs j, 0, none⟩) := hdep 21 (by kernel_rfl)
        have h23 : a.tmps.getD 23 undef = .int .i64 x.m := hdep 23 (by kernel_rfl)
        refine .inl ⟨trivial, ?_⟩
        have g15 := gd h15
        have g21 := gd h21
        have g23 := gd h23
        go_simp
        have h11 : L 11 = false := hno 12 11 (by kernel_rfl)
        have hB : Below w3.heap.size w3 u := SL7.ahead hS hL h11
        refine (HCP.out u hB).mono ?_
        rintro e' u' ⟨rfl, ht'⟩
        exact Went6.next (SL7.now done_same h11 ((HGN.out _).2 (ht'.ahead hB))) (fun h _ => absurd rfl h) rfl
      refine EachOp.cons ?_ ?_
      · intro L a u hL hst hS hdep hq hno
        have h5 : a.tmps.getD 5 undef = .pointer (some ⟨xb + 1 + 1, 0, none⟩) := hst.out 5 (by kernel_rfl)
        refine .inl ⟨trivial, ?_⟩
        have g5 := gd h5
        go_simp
        exact Went6.same (HKR.out _ _) hS rfl
      refine EachOp.cons ?_ ?_
      · intro L a u hL hst hS hdep hq hno
        have h24 : a.tmps.getD 24 undef = .int .i64 cp.1 := hdep 24 (by kernel_rfl)
        have h25 : a.tmps.getD 25 undef = .pointer (some ⟨xb + 1 + 1, 5, none⟩) := hdep 25 (by kernel_rfl)
        refine .inl ⟨trivial, ?_⟩
        have g24 := gd h24
        have g25 := gd h25
        have h9 : L 9 = true := hq 12 9 (by kernel_rfl)
        have hG := (HGN.out u).1 (SL7.mid hS h9 hL)
        have c5 : u.heap[xb + 1 + 1]? = some (toO noRp none 0 0 false 0) := (hG.off.block _ (by have := HZ3.out; omega) (fun e => by have := HS.out _ e; have := HXB.out; omega)).trans HB5.out
        have c4 : u.heap[xb + 1]? = some (toO noRp none 0 0 false 0) := (hG.off.block _ (by have := HZ3.out; omega) (fun e => by have := HS.out _ e; have := HXB.out; omega)).trans HB4.out
        obtain ⟨u5, p5⟩ := cellsAt c5 5 (v := .int .i64 0) rfl
        go_simp
        exact ⟨undef, rfl, SL7.last done_same ((HFN.out _).2 ⟨u, hG, Off.setCell (Off.refl _ _) (.inl (.inr rfl)) _, (set_other (by show xb + 1 ≠ xb + 1 + 1; omega)).trans c4, heap_setCell_same u (xb + 1 + 1) 5 _ _ _ c5⟩), fun _ h => absurd rfl h, fun t e => by cases e⟩
      exact EachOp.nil
    · intro L a u hLs hst hS hdep
      have h15 : a.tmps.getD 15 undef = .pointer (some ⟨bs i, 0, none⟩) := hdep 15 (by kernel_rfl)
      have h16 : a.tmps.getD 16 undef = .slice (some ad) 3 c0 := hdep 16 (by kernel_rfl)
      have h17 : a.tmps.getD 17 undef = .pointer (some ⟨xb, 2, none⟩) := hdep 17 (by kernel_rfl)
      have h18 : a.tmps.getD 18 undef = .int .i64 x.fr := hdep 18 (by kernel_rfl)
      have h19 : a.tmps.getD 19 undef = .int .i64 (j : Nat) := hdep 19 (by kernel_rfl)
      have h20 : a.tmps.getD 20 undef = .pointer (some (ad.add j)) := hdep 20 (by kernel_rfl)
      have h21 : a.tmps.getD 21 undef = .pointer (some ⟨bs j, 0, none⟩) := hdep 21 (by kernel_rfl)
      have h22 : a.tmps.getD 22 undef = .pointer (some ⟨xb, 4, none⟩) := hdep 22 (by kernel_rfl)
      have h23 : a.tmps.getD 23 undef = .int .i64 x.m := hdep 23 (by kernel_rfl)
      have h24 : a.tmps.getD 24 undef = .int .i64 cp.1 := hdep 24 (by kernel_rfl)
      have h25 : a.tmps.getD 25 undef = .pointer (some ⟨xb + 1 + 1, 5, none⟩) := hdep 25 (by kernel_rfl)
      have hfr := hst.frame [(15, .pointer (some ⟨bs i, 0, none⟩)), (16, .slice (some ad) 3 c0), (17, .pointer (some ⟨xb, 2, none⟩)), (18, .int .i64 x.fr), (19, .int .i64 (j : Nat)), (20, .pointer (some (ad.add j))), (21, .pointer (some ⟨bs j, 0, none⟩)), (22, .pointer (some ⟨xb, 4, none⟩)), (23, .int .i64 x.m), (24, .int .i64 cp.1), (25, .pointer (some ⟨xb + 1 + 1, 5, none⟩))] (by kernel_rfl) ⟨h15, h16, h17, h18, h19, h20, h21, h22, h23, h24, h25, trivial⟩
      clear hst hdep h15 h16 h17 h18 h19 h20 h21 h22 h23 h24 h25
      subst hfr
      simp only [List.foldl_cons, List.foldl_nil, List.setIfInBounds_toArray, List.set_cons_zero, List.set_cons_succ]
      obtain ⟨w5, hG, ho5, c4, c5⟩ := (HFN.out u).1 (SL7.done hS (hLs 11 (by kernel_rfl)))
      obtain ⟨u0, p0⟩ := cellsAt c5 0 (v := .int .i64 0) rfl
      obtain ⟨u1, p1⟩ := cellsAt c5 1 (v := .int .u64 0) rfl
      obtain ⟨u2, p2⟩ := cellsAt c5 2 (v := .int .u64 0) rfl
      obtain ⟨u3, p3⟩ := cellsAt c5 3 (v := .slice none 0 0) rfl
      obtain ⟨u4, p4⟩ := cellsAt c5 4 (v := .bool false) rfl
      obtain ⟨u5, p5⟩ := cellsAt c5 5 (v := .int .i64 cp.1) rfl
      obtain ⟨s0, q0⟩ := cellsAt c4 0 (v := .int .i64 0) rfl
      obtain ⟨s1, q1⟩ := cellsAt c4 1 (v := .int .u64 0) rfl
      obtain ⟨s2, q2⟩ := cellsAt c4 2 (v := .int .u64 0) rfl
      obtain ⟨s3, q3⟩ := cellsAt c4 3 (v := .slice none 0 0) rfl
      obtain ⟨s4, q4⟩ := cellsAt c4 4 (v := .bool false) rfl
      obtain ⟨s5, q5⟩ := cellsAt c4 5 (v := .int .i64 0) rfl
      have HTT := Lib.hid hG
      have HO5 := Lib.hid ho5
      clear hS hLs c4 c5 hG ho5
      go_wp2_with fail
      refine bodyPost_ret (v := toV ⟨noRp, false, cp.1⟩ none 0 0) ?_ rfl ⟨none, 0, 0, rfl, XR.nil _, Turn.behind HXB.out HZ3.out HK3.out HS.out HTT.out (Off.wide (S := fun k => k = xb + 1 ∨ k = xb + 1 + 1) (Off.setCell (Off.setCell (Off.setCell (Off.setCell (Off.setCell (Off.setCell (HO5.out) (.inl (.inl rfl)) _) (.inl (.inl rfl)) _) (.inl (.inl rfl)) _) (.inl (.inl rfl)) _) (.inl (.inl rfl)) _) (.inl (.inl rfl)) _) fun k hk => by omega)⟩
      rw [results_cell1 rfl]
      unfold toV noRp
      go_simp
end
end

/- Three things, one of which is asked for a row; a row that is told, and what is done behind it (no function of the program is named here). -/
section
open Go.RowKit
set_option maxRecDepth 100000

section
variable {α : Type} {P : Program} {w0 w w' : World} {X X' : Thing} {Y : Nat → α → Thing} {bs : Nat → Nat} {ns : Nat → α} {N S : Nat → Prop}
theorem upd3_self (ns : Nat → α) (i : Nat) : upd3 ns i (ns i) = ns := funext fun j => by
  unfold upd3
  split
  · rename_i h; rw [h]
  · rfl
/-- a call on one of three that tells a row -/
theorem Tri.told {f : FuncId} {args : Array Value} {Q : Ending → World → Option Addr → Nat → Nat → Prop} {i : Nat} (h : (Tri Y bs ns).p S w) (hi : i < 3) {x : α} (hop : ∀ S', (Y (bs i) (ns i)).p S' w → Calls P f args w fun e w' => ∃ A m d, Q e w' A m d ∧ Told1 (Y (bs i) x) S' A w w') :
    Calls P f args w fun e w' => ∃ A m d, Q e w' A m d ∧ Told1 (Tri Y bs (upd3 ns i x)) S A w w' := by
  obtain ⟨Ss, h1, h2, h3⟩ := h
  refine (hop (Ss i) (h1 i hi)).mono fun e w' ⟨A, m, d, hq, ⟨S', k1, k2, k4⟩, ko⟩ => ⟨A, m, d, hq, ?_⟩
  have hlt : ∀ j, j < 3 → ∀ k, Ss j k → k < w.heap.size := fun j hj k hk => (Y (bs j) (ns j)).lt (h1 j hj) k hk
  refine ⟨⟨fun k => ∃ j, j < 3 ∧ (upd3 Ss i S') j k, ⟨upd3 Ss i S', fun j hj => ?_, fun a c ha hc hac k e1 e2 => ?_, fun _ => Iff.rfl⟩, fun k hk => ?_, fun ad hA => ⟨(k4 ad hA).1, (k4 ad hA).2.1, ?_⟩⟩, ko.wide fun k hk => (h3 k).2 ⟨i, hi, hk⟩⟩
  · by_cases hji : j = i
    · subst hji
      rw [upd3_at, upd3_at]
      exact k1
    · rw [upd3_ne ns x hji, upd3_ne Ss S' hji]
      exact Thing.off (h1 j hj) ko fun k e1 e2 => h2 j i hj hi hji k e1 e2
  · by_cases hai : a = i
    · subst hai
      rw [upd3_at] at e1
      rw [upd3_ne Ss S' (fun e => hac e.symm)] at e2
      rcases k2 k e1 with e | e
      · exact h2 a c ha hc hac k e e2
      · have := hlt c hc k e2; omega
    · rw [upd3_ne Ss S' hai] at e1
      by_cases hci : c = i
      · subst hci
        rw [upd3_at] at e2
        rcases k2 k e2 with e | e
        · exact h2 a c ha hc hac k e1 e
        · have := hlt a ha k e1; omega
      · rw [upd3_ne Ss S' hci] at e2
        exact h2 a c ha hc hac k e1 e2
  · obtain ⟨j, hj, e⟩ := hk
    by_cases hji : j = i
    · subst hji
      rw [upd3_at] at e
      exact (k2 k e).imp (fun e => (h3 k).2 ⟨j, hj, e⟩) id
    · rw [upd3_ne Ss S' hji] at e
      exact .inl ((h3 k).2 ⟨j, hj, e⟩)
  · rintro ⟨j, hj, e⟩
    by_cases hji : j = i
    · subst hji
      rw [upd3_at] at e
      exact (k4 ad hA).2.2 e
    · rw [upd3_ne Ss S' hji] at e
      have := hlt j hj _ e
      have := (k4 ad hA).1
      omega
end
theorem Turn.none {Y : Thing} {S : Nat → Prop} {w w' : World} (h : Turn Y S w w') : Told1 Y S none w w' := by
  obtain ⟨⟨S', h1, h2⟩, h3⟩ := h
  exact ⟨⟨S', h1, h2, fun ad h => by cases h⟩, h3⟩
theorem Told1.below {Y : Thing} {S : Nat → Prop} {A : Option Addr} {w w' w'' : World} (h : Told1 Y S A w w') (hb : Below w'.heap.size w' w'') : Told1 Y S A w w'' := by
  obtain ⟨⟨S', h1, h2, h4⟩, h3⟩ := h
  exact ⟨⟨S', Thing.next h1 hb, h2, fun ad hA => ⟨(h4 ad hA).1, Nat.lt_of_lt_of_le (h4 ad hA).2.1 hb.size, (h4 ad hA).2.2⟩⟩, h3.trans (Off.of (fun _ => False) hb) fun _ h => h.elim⟩
theorem Told1.behind {Y : Thing} {S : Nat → Prop} {A : Option Addr} {w w3 w5 w6 : World} {xb : Nat} (hxb : w.heap.size = xb) (hz : w3.heap.size = xb + 3) (hb : Below w.heap.size w w3) (hs : ∀ k, S k → k < w.heap.size) (ht : Told1 Y S A w3 w5) (ho : Off (fun k => xb ≤ k ∧ k < xb + 3) w5 w6) : Told1 Y S A w w6 := by
  obtain ⟨⟨S', h1, h2, h4⟩, h3⟩ := ht
  refine ⟨⟨S', Thing.off h1 ho fun k hk e => ?_, fun k hk => ?_, fun ad hA => ⟨by have := (h4 ad hA).1; omega, Nat.lt_of_lt_of_le (h4 ad hA).2.1 ho.size, (h4 ad hA).2.2⟩⟩, ((Off.of S hb).trans h3 fun i hi => .inl hi).trans ho fun i hi => .inr (by omega)⟩
  · rcases h2 k hk with h | h
    · have := hs k h; omega
    · omega
  · rcases h2 k hk with h | h
    · exact .inl h
    · exact .inr (by omega)
end

/- Layer 15: the law's do, over NodeC: contract. -/
section
open Go.RowKit
set_option maxRecDepth 100000

section
variable {X : Nat → Nd → Thing} {bs : Nat → Nat} {ns : Nat → Nd} {S : Nat → Prop} {w : World} {k : Nat}
set_option maxHeartbeats 16000000 in
theorem ldo_ok (C : NodeC X) (hL : Lw w) (A : Option Addr) (c0 : Nat) (x : Ac8) (h : (Tri X bs ns).p S w) (hp : P3 w A bs) (hI : ∀ i, NdI k (ns i)) (hk : k ≤ 800) (hx : x.Fine) (ht : Sm x.t) :
    Calls Tryz.prog 12 #[.slice A 3 c0, .agg #[.int .i64 x.d, .int .i64 x.nd, .int .i64 x.fr, .int .i64 x.c, .int .i64 x.m, .int .u64 x.e, .bool x.rd, .string x.t]] w fun e w' => ∃ (A' : Option Addr) (m' d' : Nat), e = .returned (toV (actN ns x).1 A' m' d') ∧ XR w' A' m' (actN ns x).1.r.ts ∧ Told1 (Tri X bs (actN ns x).2) S A' w w' := by
  obtain ⟨i, hi⟩ : ∃ i, of3 x.nd = i := ⟨_, rfl⟩
  have hi3 : i < 3 := hi ▸ of3_lt x.nd
  have HOF := Lib.hid (fun w => lof3_ok x.nd w)
  rw [hi] at HOF
  obtain ⟨w3, hw3⟩ : ∃ u, ((w.alloc (acO x)).alloc (toO noRp none 0 0 false 0)).alloc (toO noRp none 0 0 false 0) = u := ⟨_, rfl⟩
  have k3 : Below w.heap.size w w3 := hw3 ▸ kp_alloc (kp_alloc (kp_new _ _) _) _
  obtain ⟨xb, hxb⟩ : ∃ b, w.heap.size = b := ⟨_, rfl⟩
  have hz3 : w3.heap.size = xb + 3 := by rw [← hw3, ← hxb]; simp
  have bx : w3.heap[xb]? = some (acO x) := by
    rw [← hxb, ← hw3, heap_alloc_old _ _ (by simp; omega), heap_alloc_old _ _ (by simp)]
    exact heap_alloc_new w _
  have b4 : w3.heap[xb + 1]? = some (toO noRp none 0 0 false 0) := by
    rw [← hxb, ← hw3, heap_alloc_old _ _ (by simp)]
    have := heap_alloc_new (w.alloc (acO x)) (toO noRp none 0 0 false 0)
    rwa [World.size_alloc] at this
  have b5 : w3.heap[xb + 1 + 1]? = some (toO noRp none 0 0 false 0) := by
    rw [← hxb, ← hw3]
    have := heap_alloc_new ((w.alloc (acO x)).alloc (toO noRp none 0 0 false 0)) (toO noRp none 0 0 false 0)
    rwa [World.size_alloc, World.size_alloc] at this
  obtain ⟨ad, rfl, hadl, z0⟩ := (hp.next k3).at_ hi3
  obtain ⟨x0, _⟩ := cellsAt bx 0 (v := .int .i64 x.d) rfl
  obtain ⟨x1, _⟩ := cellsAt bx 1 (v := .int .i64 x.nd) rfl
  obtain ⟨x2, _⟩ := cellsAt bx 2 (v := .int .i64 x.fr) rfl
  obtain ⟨x3, _⟩ := cellsAt bx 3 (v := .int .i64 x.c) rfl
  obtain ⟨x4, _⟩ := cellsAt bx 4 (v := .int .i64 x.m) rfl
  obtain ⟨x5, _⟩ := cellsAt bx 5 (v := .int .u64 x.e) rfl
  obtain ⟨x6, _⟩ := cellsAt bx 6 (v := .bool x.rd) rfl
  obtain ⟨x7, _⟩ := cellsAt bx 7 (v := .string x.t) rfl
  have hi0 : (0 : Int) ≤ (i : Int) := by omega
  have hi1 : (i : Int) < 3 := by omega
  have HT := Lib.hid h
  have HT3 := Lib.hid (Thing.next h k3)
  have HK3 := Lib.hid k3
  have HW3 := Lib.hid hw3
  have HXB := Lib.hid hxb
  have HB4 := Lib.hid b4
  have HB5 := Lib.hid b5
  have HZ3 := Lib.hid hz3
  have HS := Lib.hid (fun k (hk : S k) => (Tri X bs ns).lt h k hk)
  unfold acO toO noRp at HW3
  dsimp only at HW3
  clear h k3 hw3 hxb b4 b5 hz3 bx
  by_cases h1 : x.d = 1
  · have ha : actN ns x = (⟨noRp, decide (0 ≤ idxOp x.c (ns i).op), 0⟩, upd3 ns i (closeNd (ns i) x.c)) := by
      unfold actN
      rw [if_neg (by omega), if_pos h1, hi]
    rw [ha]
    have HQ := Lib.hid (Tri.op HT3.out hi3 (x := closeNd (ns i) x.c) fun S' hS' => C.close _ _ _ x.c S' _ hS' (hI i) hk hx.c)
    rw [h1] at x0 HW3
    clear ha hi
    go_enter Tryz.func12, Tryz.ntmps12
    rw [h1]
    go_wp2_with fail
    rw [HW3.out, HXB.out]
    refine (HOF.out _).mono ?_
    rintro e w4 ⟨rfl, rfl⟩
    go_wp2_with fail
    refine HQ.out.mono ?_
    rintro e w5 ⟨rfl, ht⟩
    have c5 : w5.heap[xb + 1 + 1]? = some (toO noRp none 0 0 false 0) := (ht.off.block _ (by have := HZ3.out; omega) (fun e => by have := HS.out _ e; have := HXB.out; omega)).trans HB5.out
    have c4 : w5.heap[xb + 1]? = some (toO noRp none 0 0 false 0) := (ht.off.block _ (by have := HZ3.out; omega) (fun e => by have := HS.out _ e; have := HXB.out; omega)).trans HB4.out
    have HTT := Lib.hid ht
    have HZ5 := Lib.hid ht.off.size
    have HC4 := Lib.hid c4
    have HC5 := Lib.hid c5
    clear ht
    obtain ⟨u0, p0⟩ := cellsAt c5 0 (v := .int .i64 0) rfl
    obtain ⟨u1, p1⟩ := cellsAt c5 1 (v := .int .u64 0) rfl
    obtain ⟨u2, p2⟩ := cellsAt c5 2 (v := .int .u64 0) rfl
    obtain ⟨u3, p3⟩ := cellsAt c5 3 (v := .slice none 0 0) rfl
    obtain ⟨u4, p4⟩ := cellsAt c5 4 (v := .bool false) rfl
    obtain ⟨u5, p5⟩ := cellsAt c5 5 (v := .int .i64 0) rfl
    obtain ⟨s0, q0⟩ := cellsAt c4 0 (v := .int .i64 0) rfl
    obtain ⟨s1, q1⟩ := cellsAt c4 1 (v := .int .u64 0) rfl
    obtain ⟨s2, q2⟩ := cellsAt c4 2 (v := .int .u64 0) rfl
    obtain ⟨s3, q3⟩ := cellsAt c4 3 (v := .slice none 0 0) rfl
    obtain ⟨s4, q4⟩ := cellsAt c4 4 (v := .bool false) rfl
    obtain ⟨s5, q5⟩ := cellsAt c4 5 (v := .int .i64 0) rfl
    clear c5 c4
    go_wp2_with fail
    refine bodyPost_ret (v := toV ⟨noRp, decide (0 ≤ idxOp x.c (ns i).op), 0⟩ none 0 0) ?_ rfl ⟨none, 0, 0, rfl, XR.nil _, (Turn.behind HXB.out HZ3.out HK3.out HS.out HTT.out (Off.wide (S := fun k => k = xb + 1 ∨ k = xb + 1 + 1) (Off.setCell (Off.setCell (Off.setCell (Off.setCell (Off.setCell (Off.setCell (Off.setCell (Off.refl _ _) (.inl (.inr rfl)) _) (.inl (.inl rfl)) _) (.inl (.inl rfl)) _) (.inl (.inl rfl)) _) (.inl (.inl rfl)) _) (.inl (.inl rfl)) _) (.inl (.inl rfl)) _) fun k hk => by omega)).none⟩
    rw [results_cell1 rfl]
    unfold toV noRp
    go_simp
  by_cases h2 : x.d = 2
  · have ha : actN ns x = (⟨noRp, decide ((ns i).ep ≤ x.e), 0⟩, upd3 ns i (leadNd (ns i) x.e)) := by
      unfold actN
      rw [if_neg (by omega), if_neg h1, if_pos h2, hi]
    rw [ha]
    have HQ := Lib.hid (Tri.op HT3.out hi3 (x := leadNd (ns i) x.e) fun S' hS' => C.lead _ _ _ x.e S' _ hS' (hI i) hx.e)
    rw [h2] at x0 HW3
    clear ha hi
    go_enter Tryz.func12, Tryz.ntmps12
    rw [h2]
    go_wp2_with fail
    rw [HW3.out, HXB.out]
    refine (HOF.out _).mono ?_
    rintro e w4 ⟨rfl, rfl⟩
    go_wp2_with fail
    refine HQ.out.mono ?_
    rintro e w5 ⟨rfl, ht⟩
    have c5 : w5.heap[xb + 1 + 1]? = some (toO noRp none 0 0 false 0) := (ht.off.block _ (by have := HZ3.out; omega) (fun e => by have := HS.out _ e; have := HXB.out; omega)).trans HB5.out
    have c4 : w5.heap[xb + 1]? = some (toO noRp none 0 0 false 0) := (ht.off.block _ (by have := HZ3.out; omega) (fun e => by have := HS.out _ e; have := HXB.out; omega)).trans HB4.out
    have HTT := Lib.hid ht
    have HZ5 := Lib.hid ht.off.size
    have HC4 := Lib.hid c4
    have HC5 := Lib.hid c5
    clear ht
    obtain ⟨u0, p0⟩ := cellsAt c5 0 (v := .int .i64 0) rfl
    obtain ⟨u1, p1⟩ := cellsAt c5 1 (v := .int .u64 0) rfl
    obtain ⟨u2, p2⟩ := cellsAt c5 2 (v := .int .u64 0) rfl
    obtain ⟨u3, p3⟩ := cellsAt c5 3 (v := .slice none 0 0) rfl
    obtain ⟨u4, p4⟩ := cellsAt c5 4 (v := .bool false) rfl
    obtain ⟨u5, p5⟩ := cellsAt c5 5 (v := .int .i64 0) rfl
    obtain ⟨s0, q0⟩ := cellsAt c4 0 (v := .int .i64 0) rfl
    obtain ⟨s1, q1⟩ := cellsAt c4 1 (v := .int .u64 0) rfl
    obtain ⟨s2, q2⟩ := cellsAt c4 2 (v := .int .u64 0) rfl
    obtain ⟨s3, q3⟩ := cellsAt c4 3 (v := .slice none 0 0) rfl
    obtain ⟨s4, q4⟩ := cellsAt c4 4 (v := .bool false) rfl
    obtain ⟨s5, q5⟩ := cellsAt c4 5 (v := .int .i64 0) rfl
    clear c5 c4
    go_wp2_with fail
    refine bodyPost_ret (v := toV ⟨noRp, decide ((ns i).ep ≤ x.e), 0⟩ none 0 0) ?_ rfl ⟨none, 0, 0, rfl, XR.nil _, (Turn.behind HXB.out HZ3.out HK3.out HS.out HTT.out (Off.wide (S := fun k => k = xb + 1 ∨ k = xb + 1 + 1) (Off.setCell (Off.setCell (Off.setCell (Off.setCell (Off.setCell (Off.setCell (Off.setCell (Off.refl _ _) (.inl (.inr rfl)) _) (.inl (.inl rfl)) _) (.inl (.inl rfl)) _) (.inl (.inl rfl)) _) (.inl (.inl rfl)) _) (.inl (.inl rfl)) _) (.inl (.inl rfl)) _) fun k hk => by omega)).none⟩
    rw [results_cell1 rfl]
    unfold toV noRp
    go_simp
  by_cases h0 : x.d = 0
  · have ha : actN ns x = (⟨(runNd (ns i) x.c x.e x.rd x.t).1, false, 0⟩, upd3 ns i (runNd (ns i) x.c x.e x.rd x.t).2) := by
      unfold actN
      rw [if_pos h0, hi]
    rw [ha]
    have HQ := Lib.hid (Tri.told HT3.out hi3 (x := (runNd (ns i) x.c x.e x.rd x.t).2) (Q := fun e u A m d => e = .returned (rpV (runNd (ns i) x.c x.e x.rd x.t).1 A m d) ∧ XR u A m (runNd (ns i) x.c x.e x.rd x.t).1.ts) fun S' hS' => (C.run _ _ _ x.c x.e x.rd x.t S' _ (hL.next HK3.out) hS' (hI i) hk ht hx.c hx.e).mono fun _ _ ⟨A, m, d, he, hr, hl⟩ => ⟨A, m, d, ⟨he, hr⟩, hl⟩)
    generalize hR : runNd (ns i) x.c x.e x.rd x.t = R at HQ ⊢
    rw [h0] at x0 HW3
    clear ha hi
    go_enter Tryz.func12, Tryz.ntmps12
    rw [h0]
    go_wp2_with fail
    rw [HW3.out, HXB.out]
    refine (HOF.out _).mono ?_
    rintro e w4 ⟨rfl, rfl⟩
    go_wp2_with fail
    refine HQ.out.mono ?_
    rintro e w4 ⟨A, m, d, ⟨rfl, hr⟩, ht4⟩
    go_wp2_with fail
    refine (lreply_ok R.1 A m d _).mono ?_
    rintro e w5 ⟨rfl, hb5⟩
    have ht := ht4.below hb5
    have HR := Lib.hid (hr.next hb5)
    clear hr hR ht4 hb5
    unfold rpV
    have c5 : w5.heap[xb + 1 + 1]? = some (toO noRp none 0 0 false 0) := (ht.off.block _ (by have := HZ3.out; omega) (fun e => by have := HS.out _ e; have := HXB.out; omega)).trans HB5.out
    have c4 : w5.heap[xb + 1]? = some (toO noRp none 0 0 false 0) := (ht.off.block _ (by have := HZ3.out; omega) (fun e => by have := HS.out _ e; have := HXB.out; omega)).trans HB4.out
    have HTT := Lib.hid ht
    have HZ5 := Lib.hid ht.off.size
    have HC4 := Lib.hid c4
    have HC5 := Lib.hid c5
    clear ht
    obtain ⟨u0, p0⟩ := cellsAt c5 0 (v := .int .i64 0) rfl
    obtain ⟨u1, p1⟩ := cellsAt c5 1 (v := .int .u64 0) rfl
    obtain ⟨u2, p2⟩ := cellsAt c5 2 (v := .int .u64 0) rfl
    obtain ⟨u3, p3⟩ := cellsAt c5 3 (v := .slice none 0 0) rfl
    obtain ⟨u4, p4⟩ := cellsAt c5 4 (v := .bool false) rfl
    obtain ⟨u5, p5⟩ := cellsAt c5 5 (v := .int .i64 0) rfl
    obtain ⟨s0, q0⟩ := cellsAt c4 0 (v := .int .i64 0) rfl
    obtain ⟨s1, q1⟩ := cellsAt c4 1 (v := .int .u64 0) rfl
    obtain ⟨s2, q2⟩ := cellsAt c4 2 (v := .int .u64 0) rfl
    obtain ⟨s3, q3⟩ := cellsAt c4 3 (v := .slice none 0 0) rfl
    obtain ⟨s4, q4⟩ := cellsAt c4 4 (v := .bool false) rfl
    obtain ⟨s5, q5⟩ := cellsAt c4 5 (v := .int .i64 0) rfl
    clear c5 c4
    go_wp2_with fail
    refine bodyPost_ret (v := toV ⟨R.1, false, 0⟩ A m d) ?_ rfl ⟨A, m, d, rfl, XR.past HR.out HC4.out HC5.out (Off.setCell (Off.setCell (Off.setCell (Off.setCell (Off.setCell (Off.setCell (Off.setCell (Off.setCell (Off.setCell (Off.setCell (Off.refl _ _) (.inl (.inr rfl)) _) (.inl (.inr rfl)) _) (.inl (.inr rfl)) _) (.inl (.inr rfl)) _) (.inl (.inl rfl)) _) (.inl (.inl rfl)) _) (.inl (.inl rfl)) _) (.inl (.inl rfl)) _) (.inl (.inl rfl)) _) (.inl (.inl rfl)) _), Told1.behind HXB.out HZ3.out HK3.out HS.out HTT.out (Off.wide (S := fun k => k = xb + 1 ∨ k = xb + 1 + 1) (Off.setCell (Off.setCell (Off.setCell (Off.setCell (Off.setCell (Off.setCell (Off.setCell (Off.setCell (Off.setCell (Off.setCell (Off.refl _ _) (.inl (.inr rfl)) _) (.inl (.inr rfl)) _) (.inl (.inr rfl)) _) (.inl (.inr rfl)) _) (.inl (.inl rfl)) _) (.inl (.inl rfl)) _) (.inl (.inl rfl)) _) (.inl (.inl rfl)) _) (.inl (.inl rfl)) _) (.inl (.inl rfl)) _) fun k hk => by omega)⟩
    rw [results_cell1 rfl]
    unfold toV
    go_simp
  · have ha : actN ns x = (⟨noRp, false, (copyNd (ns i) (ns (of3 x.fr)) x.m).1⟩, upd3 ns i (copyNd (ns i) (ns (of3 x.fr)) x.m).2) := by
      unfold actN
      rw [if_neg h0, if_neg h1, if_neg h2, hi]
    rw [ha]
    obtain ⟨j, hj⟩ : ∃ j, of3 x.fr = j := ⟨_, rfl⟩
    have hj3 : j < 3 := hj ▸ of3_lt x.fr
    have HOF2 := Lib.hid (fun w => lof3_ok x.fr w)
    rw [hj] at HOF2 ⊢
    have hj0 : (0 : Int) ≤ (j : Int) := by omega
    have hj1 : (j : Int) < 3 := by omega
    have HCP : Hid (∀ u, Below w3.heap.size w3 u → Calls Tryz.prog 31 #[.pointer (some ⟨bs i, 0, none⟩), .pointer (some ⟨bs j, 0, none⟩), .int .i64 x.m] u fun e w' => e = .returned (.int .i64 (copyNd (ns i) (ns j) x.m).1) ∧ Turn (Tri X bs (upd3 ns i (copyNd (ns i) (ns j) x.m).2)) S u w') := Lib.hid fun u hu => by
      by_cases hij : i = j
      · subst hij
        exact Tri.op (Thing.next HT3.out hu) hi3 fun S' hS' => C.self _ _ _ x.m S' _ hS' (hI i) hx.m
      · exact Tri.op2 (Thing.next HT3.out hu) hi3 hj3 hij fun S' T' hS' hT' hd => C.copy _ _ _ _ _ _ x.m S' T' _ hS' hT' hd (hI i) (hI j) hx.m
    obtain ⟨ad', had', _, zj⟩ := (hp.next HK3.out).at_ hj3
    obtain rfl : ad = ad' := Option.some.inj had'
    obtain ⟨cp, hcp⟩ : ∃ c, copyNd (ns i) (ns j) x.m = c := ⟨_, rfl⟩
    rw [hcp] at HCP ⊢
    have g0 : (x.d == 0) = false := by simpa using h0
    have g1 : (x.d == 1) = false := by simpa using h1
    have g2 : (x.d == 2) = false := by simpa using h2
    obtain ⟨GN, hGN⟩ : ∃ G : World → Prop, ∀ z, G z ↔ Turn (Tri X bs (upd3 ns i cp.2)) S w3 z := ⟨_, fun _ => Iff.rfl⟩
    obtain ⟨FN, hFN⟩ : ∃ F : World → Prop, ∀ z, F z ↔ (∃ u0, Turn (Tri X bs (upd3 ns i cp.2)) S w3 u0 ∧ Off (fun k => k = xb + 1 ∨ k = xb + 1 + 1) u0 z ∧ z.heap[xb + 1]? = some (toO noRp none 0 0 false 0) ∧ z.heap[xb + 1 + 1]? = some (toO noRp none 0 0 false cp.1)) := ⟨_, fun _ => Iff.rfl⟩
    have HGN := Lib.hid hGN
    have HFN := Lib.hid hFN
    have HKR : Hid (∀ (i : Nat) (u : World), Kp2 9 11 i u u) := Lib.hid (Kp2.refl _ _)
    clear hGN hFN ha hi hj hcp h0 h1 h2 had' hI
    go_enter Tryz.func12, Tryz.ntmps12
    go_wp2_with fail
    rw [HW3.out, HXB.out]
    refine (HOF.out _).mono ?_
    rintro e w4 ⟨rfl, rfl⟩
    go_wp2_with fail
    refine wp_region_specs6 (S := SL7 9 11 w3 GN FN) (Kp := Kp2 9 11) (Sp := [(15, Stl.eq (.pointer (some ⟨bs i, 0, none⟩))), (16, Stl.eq (.slice (some ad) 3 c0)), (17, Stl.eq (.pointer (some ⟨xb, 2, none⟩))), (18, Stl.eq (.int .i64 x.fr)), (19, Stl.eq (.int .i64 (j : Nat))), (20, Stl.eq (.pointer (some (ad.add j)))), (21, Stl.eq (.pointer (some ⟨bs j, 0, none⟩))), (22, Stl.eq (.pointer (some ⟨xb, 4, none⟩))), (23, Stl.eq (.int .i64 x.m)), (24, Stl.eq (.int .i64 cp.1)), (25, Stl.eq (.pointer (some ⟨xb + 1 + 1, 5, none⟩)))]) (by kernel_rfl) (by kernel_rfl) (SL7.of rfl rfl (kp_drewN _ 1)) ?_ ?_
    · refine EachOp.cons ?_ ?_
      · intro L a u hL hst hS hdep hq hno
        have h6 : a.tmps.getD 6 undef = .pointer (some ⟨bs i, 0, none⟩) := hst.out 6 (by kernel_rfl)
        refine .inl ⟨trivial, ?_⟩
        have g6 := gd h6
        go_simp
        exact Went6.same (HKR.out _ _) hS rfl
      refine EachOp.cons ?_ ?_
      · intro L a u hL hst hS hdep hq hno
        have h0 : a.tmps.getD 0 undef = .slice (some ad) 3 c0 := hst.out 0 (by kernel_rfl)
        refine .inl ⟨trivial, ?_⟩
        have g0 := gd h0
        go_simp
        exact Went6.same (HKR.out _ _) hS rfl
      refine EachOp.cons ?_ ?_
      · intro L a u hL hst hS hdep hq hno
        have h3 : a.tmps.getD 3 undef = .pointer (some ⟨xb, 0, none⟩) := hst.out 3 (by kernel_rfl)
        refine .inl ⟨trivial, ?_⟩
        have g3 := gd h3
        go_simp
        exact Went6.same (HKR.out _ _) hS rfl
      refine EachOp.cons ?_ ?_
      · intro L a u hL hst hS hdep hq hno
        have h17 : a.tmps.getD 17 undef = .pointer (some ⟨xb, 2, none⟩) := hdep 17 (by kernel_rfl)
        refine .inl ⟨trivial, ?_⟩
        have g17 := gd h17
        have h9 : L 9 = false := hno 12 9 (by kernel_rfl)
        have h11 : L 11 = false := hno 12 11 (by kernel_rfl)
        have hB : Below w3.heap.size w3 u := SL7.ahead hS h9 h11
        have yy := (World.cell?_of_block (a := ⟨xb, 2, none⟩) (hB.block xb (by have := HZ3.out; omega))).trans x2
        go_simp
        exact Went6.same (HKR.out _ _) hS rfl
      refine EachOp.cons ?_ ?_
      · intro L a u hL hst hS hdep hq hno
        have h18 : a.tmps.getD 18 undef = .int .i64 x.fr := hdep 18 (by kernel_rfl)
        refine .inl ⟨trivial, ?_⟩
        have g18 := gd h18
        go_simp
        refine (HOF2.out u).mono ?_
        rintro e' u' ⟨rfl, rfl⟩
        exact Went6.next hS (HKR.out _ _) rfl
      refine EachOp.cons ?_ ?_
      · intro L a u hL hst hS hdep hq hno
        have h16 : a.tmps.getD 16 undef = .slice (some ad) 3 c0 := hdep 16 (by kernel_rfl)
        have h19 : a.tmps.getD 19 undef = .int .i64 (j : Nat) := hdep 19 (by kernel_rfl)
        refine .inl ⟨trivial, ?_⟩
        have g16 := gd h16
        have g19 := gd h19
        go_simp
        exact Went6.same (HKR.out _ _) hS rfl
      refine EachOp.cons ?_ ?_
      · intro L a u hL hst hS hdep hq hno
        have h20 : a.tmps.getD 20 undef = .pointer (some (ad.add j)) := hdep 20 (by kernel_rfl)
        refine .inl ⟨trivial, ?_⟩
        have g20 := gd h20
        have h9 : L 9 = false := hno 12 9 (by kernel_rfl)
        have h11 : L 11 = false := hno 12 11 (by kernel_rfl)
        have hB : Below w3.heap.size w3 u := SL7.ahead hS h9 h11
        have yy : u.cell? (ad.add j) = some (.pointer (some ⟨bs j, 0, none⟩)) := (World.cell?_of_block (by rw [add_block]; exact hB.block _ hadl)).trans zj
        go_simp
        exact Went6.same (HKR.out _ _) hS rfl
      refine EachOp.cons ?_ ?_
      · intro L a u hL hst hS hdep hq hno
        have h3 : a.tmps.getD 3 undef = .pointer (some ⟨xb, 0, none⟩) := hst.out 3 (by kernel_rfl)
        refine .inl ⟨trivial, ?_⟩
        have g3 := gd h3
        go_simp
        exact Went6.same (HKR.out _ _) hS rfl
      refine EachOp.cons ?_ ?_
      · intro L a u hL hst hS hdep hq hno
        have h22 : a.tmps.getD 22 undef = .pointer (some ⟨xb, 4, none⟩) := hdep 22 (by kernel_rfl)
        refine .inl ⟨trivial, ?_⟩
        have g22 := gd h22
        have h9 : L 9 = false := hno 12 9 (by kernel_rfl)
        have h11 : L 11 = false := hno 12 11 (by kernel_rfl)
        have hB : Below w3.heap.size w3 u := SL7.ahead hS h9 h11
        have yy := (World.cell?_of_block (a := ⟨xb, 4, none⟩) (hB.block xb (by have := HZ3.out; omega))).trans x4
        go_simp
        exact Went6.same (HKR.out _ _) hS rfl
      refine EachOp.cons ?_ ?_
      · intro L a u hL hst hS hdep hq hno
        have h15 : a.tmps.getD 15 undef = .pointer (some ⟨bs i, 0, none⟩) := hdep 15 (by kernel_rfl)
        have h21 : a.tmps.getD 21 undef = .pointer (some ⟨bs j, 0, none⟩) := hdep 21 (by kernel_rfl)
        have h23 : a.tmps.getD 23 undef = .int .i64 x.m := hdep 23 (by kernel_rfl)
        refine .inl ⟨trivial, ?_⟩
        have g15 := gd h15
        have g21 := gd h21
        have g23 := gd h23
        go_simp
        have h11 : L 11 = false := hno 12 11 (by kernel_rfl)
        have hB : Below w3.heap.size w3 u := SL7.ahead hS hL h11
        refine (HCP.out u hB).mono ?_
        rintro e' u' ⟨rfl, ht'⟩
        exact Went6.next (SL7.now done_same h11 ((HGN.out _).2 (ht'.ahead hB))) (fun h _ => absurd rfl h) rfl
      refine EachOp.cons ?_ ?_
      · intro L a u hL hst hS hdep hq hno
        have h5 : a.tmps.getD 5 undef = .pointer (some ⟨xb + 1 + 1, 0, none⟩) := hst.out 5 (by kernel_rfl)
        refine .inl ⟨trivial, ?_⟩
        have g5 := gd h5
        go_simp
        exact Went6.same (HKR.out _ _) hS rfl
      refine EachOp.cons ?_ ?_
      · intro L a u hL hst hS hdep hq hno
        have h24 : a.tmps.getD 24 undef = .int .i64 cp.1 := hdep 24 (by kernel_rfl)
        have h25 : a.tmps.getD 25 undef = .pointer (some ⟨xb + 1 + 1, 5, none⟩) := hdep 25 (by kernel_rfl)
        refine .inl ⟨trivial, ?_⟩
        have g24 := gd h24
        have g25 := gd h25
        have h9 : L 9 = true := hq 12 9 (by kernel_rfl)
        have hG := (HGN.out u).1 (SL7.mid hS h9 hL)
        have c5 : u.heap[xb + 1 + 1]? = some (toO noRp none 0 0 false 0) := (hG.off.block _ (by have := HZ3.out; omega) (fun e => by have := HS.out _ e; have := HXB.out; omega)).trans HB5.out
        have c4 : u.heap[xb + 1]? = some (toO noRp none 0 0 false 0) := (hG.off.block _ (by have := HZ3.out; omega) (fun e => by have := HS.out _ e; have := HXB.out; omega)).trans HB4.out
        obtain ⟨u5, p5⟩ := cellsAt c5 5 (v := .int .i64 0) rfl
        go_simp
        exact ⟨undef, rfl, SL7.last done_same ((HFN.out _).2 ⟨u, hG, Off.setCell (Off.refl _ _) (.inl (.inr rfl)) _, (set_other (by show xb + 1 ≠ xb + 1 + 1; omega)).trans c4, heap_setCell_same u (xb + 1 + 1) 5 _ _ _ c5⟩), fun _ h => absurd rfl h, fun t e => by cases e⟩
      exact EachOp.nil
    · intro L a u hLs hst hS hdep
      have h15 : a.tmps.getD 15 undef = .pointer (some ⟨bs i, 0, none⟩) := hdep 15 (by kernel_rfl)
      have h16 : a.tmps.getD 16 undef = .slice (some ad) 3 c0 := hdep 16 (by kernel_rfl)
      have h17 : a.tmps.getD 17 undef = .pointer (some ⟨xb, 2, none⟩) := hdep 17 (by kernel_rfl)
      have h18 : a.tmps.getD 18 undef = .int .i64 x.fr := hdep 18 (by kernel_rfl)
      have h19 : a.tmps.getD 19 undef = .int .i64 (j : Nat) := hdep 19 (by kernel_rfl)
      have h20 : a.tmps.getD 20 undef = .pointer (some (ad.add j)) := hdep 20 (by kernel_rfl)
      have h21 : a.tmps.getD 21 undef = .pointer (some ⟨bs j, 0, none⟩) := hdep 21 (by kernel_rfl)
      have h22 : a.tmps.getD 22 undef = .pointer (some ⟨xb, 4, none⟩) := hdep 22 (by kernel_rfl)
      have h23 : a.tmps.getD 23 undef = .int .i64 x.m := hdep 23 (by kernel_rfl)
      have h24 : a.tmps.getD 24 undef = .int .i64 cp.1 := hdep 24 (by kernel_rfl)
      have h25 : a.tmps.getD 25 undef = .pointer (some ⟨xb + 1 + 1, 5, none⟩) := hdep 25 (by kernel_rfl)
      have hfr := hst.frame [(15, .pointer (some ⟨bs i, 0, none⟩)), (16, .slice (some ad) 3 c0), (17, .pointer (some ⟨xb, 2, none⟩)), (18, .int .i64 x.fr), (19, .int .i64 (j : Nat)), (20, .pointer (some (ad.add j))), (21, .pointer (some ⟨bs j, 0, none⟩)), (22, .pointer (some ⟨xb, 4, none⟩)), (23, .int .i64 x.m), (24, .int .i64 cp.1), (25, .pointer (some ⟨xb + 1 + 1, 5, none⟩))] (by kernel_rfl) ⟨h15, h16, h17, h18, h19, h20, h21, h22, h23, h24, h25, trivial⟩
      clear hst hdep h15 h16 h17 h18 h19 h20 h21 h22 h23 h24 h25
      subst hfr
      simp only [List.foldl_cons, List.foldl_nil, List.setIfInBounds_toArray, List.set_cons_zero, List.set_cons_succ]
      obtain ⟨w5, hG, ho5, c4, c5⟩ := (HFN.out u).1 (SL7.done hS (hLs 11 (by kernel_rfl)))
      obtain ⟨u0, p0⟩ := cellsAt c5 0 (v := .int .i64 0) rfl
      obtain ⟨u1, p1⟩ := cellsAt c5 1 (v := .int .u64 0) rfl
      obtain ⟨u2, p2⟩ := cellsAt c5 2 (v := .int .u64 0) rfl
      obtain ⟨u3, p3⟩ := cellsAt c5 3 (v := .slice none 0 0) rfl
      obtain ⟨u4, p4⟩ := cellsAt c5 4 (v := .bool false) rfl
      obtain ⟨u5, p5⟩ := cellsAt c5 5 (v := .int .i64 cp.1) rfl
      obtain ⟨s0, q0⟩ := cellsAt c4 0 (v := .int .i64 0) rfl
      obtain ⟨s1, q1⟩ := cellsAt c4 1 (v := .int .u64 0) rfl
      obtain ⟨s2, q2⟩ := cellsAt c4 2 (v := .int .u64 0) rfl
      obtain ⟨s3, q3⟩ := cellsAt c4 3 (v := .slice none 0 0) rfl
      obtain ⟨s4, q4⟩ := cellsAt c4 4 (v := .bool false) rfl
      obtain ⟨s5, q5⟩ := cellsAt c4 5 (v := .int .i64 0) rfl
      have HTT := Lib.hid hG
      have HO5 := Lib.hid ho5
      clear hS hLs c4 c5 hG ho5
      go_wp2_with fail
      refine bodyPost_ret (v := toV ⟨noRp, false, cp.1⟩ none 0 0) ?_ rfl ⟨none, 0, 0, rfl, XR.nil _, (Turn.behind HXB.out HZ3.out HK3.out HS.out HTT.out (Off.wide (S := fun k => k = xb + 1 ∨ k = xb + 1 + 1) (Off.setCell (Off.setCell (Off.setCell (Off.setCell (Off.setCell (Off.setCell (HO5.out) (.inl (.inl rfl)) _) (.inl (.inl rfl)) _) (.inl (.inl rfl)) _) (.inl (.inl rfl)) _) (.inl (.inl rfl)) _) (.inl (.inl rfl)) _) fun k hk => by omega)).none⟩
      rw [results_cell1 rfl]
      unfold toV noRp
      go_simp
end
end

/- Layer 15: three new nodes: contracts (the law's nodes; three of the document's). -/
section
open Go.RowKit
set_option maxRecDepth 100000

/-- three places out of three -/
def pick3 {α : Type} (a b c : α) : Nat → α
  | 0 => a
  | 1 => b
  | _ => c
/-- three that were made one behind another, and what is made behind them -/
theorem Tri.new3 {α : Type} {Y : Nat → α → Thing} {x : α} {b0 b1 b2 : Nat} {w w1 w2 w3 w4 : World} {S0 S1 S2 : Nat → Prop} (p0 : (Y b0 x).p S0 w1) (s0 : ∀ k, S0 k → w.heap.size ≤ k) (k1 : Below w.heap.size w w1) (p1 : (Y b1 x).p S1 w2) (s1 : ∀ k, S1 k → w1.heap.size ≤ k) (k2 : Below w1.heap.size w1 w2)
    (p2 : (Y b2 x).p S2 w3) (s2 : ∀ k, S2 k → w2.heap.size ≤ k) (k3 : Below w2.heap.size w2 w3) (k4 : Below w3.heap.size w3 w4) : (∃ S, (Tri Y (pick3 b0 b1 b2) fun _ => x).p S w4 ∧ ∀ k, S k → w.heap.size ≤ k ∧ k < w3.heap.size) ∧ Below w.heap.size w w4 := by
  have z1 := k1.size
  have z2 := k2.size
  have z3 := k3.size
  have l0 := (Y b0 x).lt p0
  have l1 := (Y b1 x).lt p1
  have l2 := (Y b2 x).lt p2
  refine ⟨⟨_, Tri.make (Ss := pick3 S0 S1 S2) (fun i hi => ?_) (fun i j hi hj hij k e1 e2 => ?_), fun k hk => ?_⟩, ((k1.trans (k2.mono z1)).trans (k3.mono (by omega))).trans (k4.mono (by omega))⟩
  · match i, hi with
    | 0, _ => exact Thing.next (Thing.next (Thing.next p0 k2) k3) k4
    | 1, _ => exact Thing.next (Thing.next p1 k3) k4
    | 2, _ => exact Thing.next p2 k4
  · match i, hi, j, hj with
    | 0, _, 0, _ => exact hij rfl
    | 0, _, 1, _ => have := l0 k e1; have := s1 k e2; omega
    | 0, _, 2, _ => have := l0 k e1; have := s2 k e2; omega
    | 1, _, 0, _ => have := l0 k e2; have := s1 k e1; omega
    | 1, _, 1, _ => exact hij rfl
    | 1, _, 2, _ => have := l1 k e1; have := s2 k e2; omega
    | 2, _, 0, _ => have := l0 k e2; have := s2 k e1; omega
    | 2, _, 1, _ => have := l1 k e2; have := s2 k e1; omega
    | 2, _, 2, _ => exact hij rfl
  · obtain ⟨i, hi, e⟩ := hk
    match i, hi with
    | 0, _ => have := s0 k e; have := l0 k e; omega
    | 1, _ => have := s1 k e; have := l1 k e; omega
    | 2, _ => have := s2 k e; have := l2 k e; omega
theorem P3.new (w : World) (b0 b1 b2 : Nat) (t : TypeId) : P3 (w.alloc (.cells #[.pointer (some ⟨b0, 0, none⟩), .pointer (some ⟨b1, 0, none⟩), .pointer (some ⟨b2, 0, none⟩)] t)) (some ⟨w.heap.size, 0, none⟩) (pick3 b0 b1 b2) := by
  refine ⟨.inr ⟨_, rfl, by simp, fun j u hj => ?_⟩⟩
  have hh := heap_alloc_new w (.cells #[.pointer (some ⟨b0, 0, none⟩), .pointer (some ⟨b1, 0, none⟩), .pointer (some ⟨b2, 0, none⟩)] t)
  match j with
  | 0 => exact (cellsAt hh 0 rfl).1.trans hj
  | 1 => exact (cellsAt hh 1 rfl).1.trans hj
  | 2 => exact (cellsAt hh 2 rfl).1.trans hj
  | n + 3 => simp at hj
section
variable {X : Nat → Nd → Thing} {w : World}
end
end

/- Layer 15: the texts that the law's own calls say, plain. -/
section
open Go.RowKit
set_option maxRecDepth 100000

theorem lex15_0 : lexF [120] = some [(1, [88])] := by
  rw [lexF_tok (k := 1) (t := [88]) (n := 1) (by simp) (by kernel_rfl) (by decide)]
  simp only [List.drop_succ_cons, List.drop_zero]
  rw [lexF_nil]
  rfl
theorem lex15_1 : lexF [105, 110, 115, 101, 114, 116, 32, 105, 110, 116, 111, 32, 107, 118, 32, 118, 97, 108, 117, 101, 115, 32, 40, 39, 97, 39, 44, 32, 39, 98, 39, 41] = some [(1, [73, 78, 83, 69, 82, 84]), (1, [73, 78, 84, 79]), (1, [75, 86]), (1, [86, 65, 76, 85, 69, 83]), (6, [40]), (3, [97]), (6, [44]), (3, [98]), (6, [41])] := by
  rw [lexF_tok (k := 1) (t := [73, 78, 83, 69, 82, 84]) (n := 6) (by simp) (by kernel_rfl) (by decide)]
  simp only [List.drop_succ_cons, List.drop_zero]
  rw [lexF_skip (n := 1) (by simp) (by kernel_rfl) (by decide)]
  simp only [List.drop_succ_cons, List.drop_zero]
  rw [lexF_tok (k := 1) (t := [73, 78, 84, 79]) (n := 4) (by simp) (by kernel_rfl) (by decide)]
  simp only [List.drop_succ_cons, List.drop_zero]
  rw [lexF_skip (n := 1) (by simp) (by kernel_rfl) (by decide)]
  simp only [List.drop_succ_cons, List.drop_zero]
  rw [lexF_tok (k := 1) (t := [75, 86]) (n := 2) (by simp) (by kernel_rfl) (by decide)]
  simp only [List.drop_succ_cons, List.drop_zero]
  rw [lexF_skip (n := 1) (by simp) (by kernel_rfl) (by decide)]
  simp only [List.drop_succ_cons, List.drop_zero]
  rw [lexF_tok (k := 1) (t := [86, 65, 76, 85, 69, 83]) (n := 6) (by simp) (by kernel_rfl) (by decide)]
  simp only [List.drop_succ_cons, List.drop_zero]
  rw [lexF_skip (n := 1) (by simp) (by kernel_rfl) (by decide)]
  simp only [List.drop_succ_cons, List.drop_zero]
  rw [lexF_tok (k := 6) (t := [40]) (n := 1) (by simp) (by kernel_rfl) (by decide)]
  simp only [List.drop_succ_cons, List.drop_zero]
  rw [lexF_tok (k := 3) (t := [97]) (n := 3) (by simp) (by kernel_rfl) (by decide)]
  simp only [List.drop_succ_cons, List.drop_zero]
  rw [lexF_tok (k := 6) (t := [44]) (n := 1) (by simp) (by kernel_rfl) (by decide)]
  simp only [List.drop_succ_cons, List.drop_zero]
  rw [lexF_skip (n := 1) (by simp) (by kernel_rfl) (by decide)]
  simp only [List.drop_succ_cons, List.drop_zero]
  rw [lexF_tok (k := 3) (t := [98]) (n := 3) (by simp) (by kernel_rfl) (by decide)]
  simp only [List.drop_succ_cons, List.drop_zero]
  rw [lexF_tok (k := 6) (t := [41]) (n := 1) (by simp) (by kernel_rfl) (by decide)]
  simp only [List.drop_succ_cons, List.drop_zero]
  rw [lexF_nil]
  rfl
theorem lex15_2 : lexF [115, 101, 108, 101, 99, 116, 32, 42, 32, 102, 114, 111, 109, 32, 107, 118] = some [(1, [83, 69, 76, 69, 67, 84]), (6, [42]), (1, [70, 82, 79, 77]), (1, [75, 86])] := by
  rw [lexF_tok (k := 1) (t := [83, 69, 76, 69, 67, 84]) (n := 6) (by simp) (by kernel_rfl) (by decide)]
  simp only [List.drop_succ_cons, List.drop_zero]
  rw [lexF_skip (n := 1) (by simp) (by kernel_rfl) (by decide)]
  simp only [List.drop_succ_cons, List.drop_zero]
  rw [lexF_tok (k := 6) (t := [42]) (n := 1) (by simp) (by kernel_rfl) (by decide)]
  simp only [List.drop_succ_cons, List.drop_zero]
  rw [lexF_skip (n := 1) (by simp) (by kernel_rfl) (by decide)]
  simp only [List.drop_succ_cons, List.drop_zero]
  rw [lexF_tok (k := 1) (t := [70, 82, 79, 77]) (n := 4) (by simp) (by kernel_rfl) (by decide)]
  simp only [List.drop_succ_cons, List.drop_zero]
  rw [lexF_skip (n := 1) (by simp) (by kernel_rfl) (by decide)]
  simp only [List.drop_succ_cons, List.drop_zero]
  rw [lexF_tok (k := 1) (t := [75, 86]) (n := 2) (by simp) (by kernel_rfl) (by decide)]
  simp only [List.drop_succ_cons, List.drop_zero]
  rw [lexF_nil]
  rfl
/-- an unknown word; one that writes; one that reads all -/
def tx15_0 : ByteArray := ⟨#[120]⟩
def tx15_1 : ByteArray := ⟨#[105, 110, 115, 101, 114, 116, 32, 105, 110, 116, 111, 32, 107, 118, 32, 118, 97, 108, 117, 101, 115, 32, 40, 39, 97, 39, 44, 32, 39, 98, 39, 41]⟩
def tx15_2 : ByteArray := ⟨#[115, 101, 108, 101, 99, 116, 32, 42, 32, 102, 114, 111, 109, 32, 107, 118]⟩
theorem cls15_0 : clsT tx15_0 = 7 := by
  unfold clsT tx15_0
  rw [classA_lex lex15_0 (by decide)]
  kernel_rfl
theorem cls15_1 : clsT tx15_1 = 2 := by
  unfold clsT tx15_1
  rw [classA_lex lex15_1 (by decide)]
  kernel_rfl
theorem cls15_2 : clsT tx15_2 = 1 := by
  unfold clsT tx15_2
  rw [classA_lex lex15_2 (by decide)]
  kernel_rfl
theorem plan15_1 : planA tx15_1.data.toList = (3, [97], [98]) := by
  unfold tx15_1
  rw [planA_lex lex15_1 (by decide)]
  kernel_rfl
theorem plan15_2 : planA tx15_2.data.toList = (2, [], []) := by
  unfold tx15_2
  rw [planA_lex lex15_2 (by decide)]
  kernel_rfl
theorem rd15_all : rdT tx15_2 (tabN [⟨1, tx15_1⟩] []) = [⟨#[97]⟩, ⟨#[98]⟩] := by
  unfold rdT tabN wrT
  simp only [List.map_cons, List.map_nil, List.foldl_cons, List.foldl_nil, plan15_1, plan15_2]
  kernel_rfl
/-- the node of the law's own calls: new, led, written to -/
def led15 : Nd := leadNd newNd 1
theorem run15_0 : runNd newNd 1 1 false tx15_0 = (⟨7, 1, 0, []⟩, newNd) := by
  unfold runNd whyNd
  rw [cls15_0]
  rfl
theorem run15_1 : runNd led15 1 1 false tx15_1 = (⟨0, 1, 1, []⟩, ⟨1, true, [⟨1, tx15_1⟩], []⟩) := by
  unfold runNd whyNd
  rw [cls15_1]
  rfl
theorem run15_2 : runNd ⟨1, true, [⟨1, tx15_1⟩], []⟩ 1 1 true tx15_2 = (⟨0, 1, 1, [⟨#[97]⟩, ⟨#[98]⟩]⟩, ⟨1, true, [⟨1, tx15_1⟩], []⟩) := by
  unfold runNd whyNd
  rw [cls15_2]
  simp only [waitsNd, opOf, Option.getD]
  rw [rd15_all]
  rfl
theorem run15_3 : runNd ⟨1, true, [⟨1, tx15_1⟩], []⟩ 1 2 true tx15_2 = (⟨8, 1, 1, []⟩, ⟨1, true, [⟨1, tx15_1⟩], []⟩) := by
  unfold runNd whyNd
  rw [cls15_2]
  rfl
theorem copy15_0 : copyNd newNd ⟨1, true, [⟨1, tx15_1⟩], []⟩ 5 = (1, ⟨1, false, [⟨1, tx15_1⟩], []⟩) := by
  rfl
end
end Go.Proofs.YtaoegiohnebnhaaGreatDoor
