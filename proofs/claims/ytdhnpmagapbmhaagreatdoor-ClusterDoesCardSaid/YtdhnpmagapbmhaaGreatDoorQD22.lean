/-
  Contracts and plain functions that the law stands on, part 22 of 24.
-/
import Derived.Test.YtdhnpmagapbmhaaGreatDoorQD21
namespace Go.Proofs.YtdhnpmagapbmhaaGreatDoor
/- The landed cluster: New: contract. -/
section
open Go.RowKit
set_option maxRecDepth 100000
theorem pptrinfo16 : (Tryz.prog.info? 87).map (fun i => (i.zero, i.size, i.bytes)) = some (some (.pointer none), 1, 8) := by kernel_rfl
structure NewP (w : World) (cb q : Nat) (A : Option Addr) (cap : Nat) (bs : Nat → Nat) (T : Nat → Prop) (wr : World) : Prop where
 top : wr.heap[cb]? = some (.cells #[.slice A q cap, .int .u64 0, .int .i64 0, .int .u64 0] 86 (0, 0))
 own : wr.ownsRow 0 87 1 (.slice A q cap) q (ptC bs q)
 ob : ∀ g, (Value.slice A q cap).ownBlock = some g → cb < g
 nd : (Many PN q bs fun _ => newNd).p T wr
 tt : ∀ k, T k → cb < k ∧ (Value.slice A q cap).ownBlock ≠ some k
 low : Below w.heap.size w wr
section
variable {w wr u0 w2 : World} {cb q : Nat} {A : Option Addr} {cap nb : Nat} {bs : Nat → Nat} {T S2 : Nat → Prop}
theorem NewP.step (h : NewP w cb q A cap bs T wr) (hcb : w.heap.size = cb) (hq : q ≤ 100) (hb0 : Below wr.heap.size wr u0) (hp2 : (PN nb newNd).p S2 w2) (hS2 : ∀ k, S2 k → u0.heap.size ≤ k) (hb2 : Below u0.heap.size u0 w2) :
 ∃ A5 c5 w5, (Builtin.append_ #[84, 84] 84 #[.slice A q cap, .slice (some ⟨w2.heap.size, 0, none⟩) 1 1]).run Tryz.prog (w2.alloc (.cells #[.pointer (some ⟨nb, 0, none⟩)] 87)) = .ok (.slice A5 (q + 1) c5) w5 ∧
  w5.heap[cb]? = some (.cells #[.slice A q cap, .int .u64 0, .int .i64 0, .int .u64 0] 86 (0, 0)) ∧ NewP w cb (q + 1) A5 c5 (upd3 bs q nb) (fun k => T k ∨ S2 k) (w5.setCell ⟨cb, 0, none⟩ (.slice A5 (q + 1) c5)) := by
 obtain ⟨i0, hi, hz0, hz1, hz2⟩ := info_parts pptrinfo16; have hB2 : Below wr.heap.size wr w2 := hb0.trans (hb2.mono hb0.size); have hB3 : Below wr.heap.size wr (w2.alloc (.cells #[.pointer (some ⟨nb, 0, none⟩)] 87)) := kp_alloc hB2 _; have hz3 : (w2.alloc (.cells #[.pointer (some ⟨nb, 0, none⟩)] 87)).heap.size = w2.heap.size + 1 := by simp
 have hk3 : ∀ k, k < w2.heap.size → (w2.alloc (.cells #[.pointer (some ⟨nb, 0, none⟩)] 87)).heap[k]? = w2.heap[k]? := fun k hk => Below.heap_alloc _ _ k hk; have hrd : Rd (w2.alloc (.cells #[.pointer (some ⟨nb, 0, none⟩)] 87)) (w2.heap.size + 1) (some ⟨w2.heap.size, 0, none⟩) [.pointer (some ⟨nb, 0, none⟩)] := Rd.new w2 87 [.pointer (some ⟨nb, 0, none⟩)]; generalize w2.alloc (.cells #[.pointer (some ⟨nb, 0, none⟩)] 87) = w3 at *; have hrow : ∀ g, (Value.slice A q cap).ownBlock = some g → g < wr.heap.size := fun g e => (h.own.lt g e).2; have hcbl : cb < wr.heap.size := (Array.getElem?_eq_some_iff.1 h.top).1; have hown3 : w3.ownsRow 0 87 1 (.slice A q cap) q (ptC bs q) := own_keep h.own fun g hg => hB3.block g (hrow g hg); obtain ⟨A5, c5, w5, hrun, hown5, hg5, hwh⟩ := run_append_many (P := Tryz.prog) 84 84 87 i0 _ 1 8 Tryz.underlying84 hi hz0 hz1 hz2 rfl (by omega) hown3 _ _ 1 1 [.pointer (some ⟨nb, 0, none⟩)] rfl hrd (by simp [Value.oneCell']) (by omega) (by omega); rw [← ptC_more] at hown5; have hz2' := hB2.size; have hzu := hb0.size; have hk5 : ∀ k, k < w3.heap.size → (Value.slice A q cap).ownBlock ≠ some k → w5.heap[k]? = w3.heap[k]? := fun k hk hne => hg5.block k hk fun e => hne e.symm; have ht5 : w5.heap[cb]? = some (.cells #[.slice A q cap, .int .u64 0, .int .i64 0, .int .u64 0] 86 (0, 0)) := (hk5 cb (by omega) fun e => by have := h.ob cb e; omega).trans ((hk3 cb (by omega)).trans ((hB2.block cb hcbl).trans h.top))
 have hob5 : ∀ g, (Value.slice A5 (q + 1) c5).ownBlock = some g → cb < g := fun g e => by
  rcases hwh with e2 | ⟨g', e2, hgl⟩
  · rw [e2] at e; exact h.ob g e
  · rw [e2] at e; injection e with e; omega
 have hTlt : ∀ k, T k → k < wr.heap.size := fun k hk => (Many PN q bs fun _ => newNd).lt h.nd k hk; have hSlt : ∀ k, S2 k → k < w2.heap.size := fun k hk => (PN nb newNd).lt hp2 k hk; have hset : ∀ k, k ≠ cb → (w5.setCell ⟨cb, 0, none⟩ (.slice A5 (q + 1) c5)).heap[k]? = w5.heap[k]? := fun k hk => set_other hk; have hsz : (w5.setCell ⟨cb, 0, none⟩ (.slice A5 (q + 1) c5)).heap.size = w5.heap.size := set_size _ _ _; have hz5 := hg5.size; refine ⟨A5, c5, w5, hrun, ht5, ⟨heap_setCell_same w5 cb 0 _ _ _ ht5, ownsRow_setCell_other (a := ⟨cb, 0, none⟩) hown5 (fun e => Nat.lt_irrefl _ (hob5 cb e)) _, hob5, ?_, ?_, ?_⟩⟩
 · have hm := Many.as (bs' := upd3 bs q nb) (ns' := fun _ => newNd) (Many.more (x := newNd) (b := nb) h.nd hp2 (fun k hk => Nat.le_trans hzu (hS2 k hk)) hB2) (fun _ _ => rfl) fun i _ => by
    by_cases e : i = q
    · subst e; rw [upd3_at]
    · rw [upd3_ne _ _ e]
   refine (Many PN (q + 1) (upd3 bs q nb) fun _ => newNd).keep hm (fun k hk => ?_) (by omega); rcases hk with hk | hk
   · have h1 := hTlt k hk; have h2 := h.tt k hk; exact (hset k (by omega)).trans ((hk5 k (by omega) h2.2).trans (hk3 k (by omega)))
   · have h1 := hSlt k hk; have h2 := hS2 k hk; exact (hset k (by omega)).trans ((hk5 k (by omega) fun e => by have := hrow k e; omega).trans (hk3 k h1))
 · intro k hk; rcases hk with hk | hk
   · refine ⟨(h.tt k hk).1, fun e => ?_⟩; have h1 := hTlt k hk; rcases hwh with e2 | ⟨g', e2, hgl⟩
     · rw [e2] at e; exact (h.tt k hk).2 e
     · rw [e2] at e; injection e with e; omega
   · have h1 := hSlt k hk; have h2 := hS2 k hk; refine ⟨by omega, fun e => ?_⟩; rcases hwh with e2 | ⟨g', e2, hgl⟩
     · rw [e2] at e; have := hrow k e; omega
     · rw [e2] at e; injection e with e; omega
 · have h1 : Below w.heap.size w w3 := h.low.trans (hB3.mono h.low.size); exact (h1.grown hg5 h1.size fun k e => by have := h.ob k e; omega).setCell (by show w.heap.size ≤ cb; omega) _
end
set_option maxHeartbeats 8000000 in
theorem pnew16_ok (n : Int) (w : World) (h1 : 1 ≤ n) (h6 : n ≤ 6) :
 Calls Tryz.prog 10 #[.int .i64 n] w fun e w' => ∃ b, e = .returned (.tuple #[.pointer (some ⟨b, 0, none⟩), .int .i64 0]) ∧ (∃ S, (PU b (newCu n.toNat)).p S w' ∧ ∀ k, S k → w.heap.size ≤ k) ∧ Below w.heap.size w w' := by
 obtain ⟨w1, hw1⟩ : ∃ u, w.alloc (.cells #[.slice none 0 0, .int .u64 0, .int .i64 0, .int .u64 0] 86) = u := ⟨_, rfl⟩; obtain ⟨cb, hcb⟩ : ∃ z, w.heap.size = z := ⟨_, rfl⟩; have HN0 : Hid (NewP w cb 0 none 0 (fun _ => 0) (fun _ => False) w1) := hid ⟨hw1 ▸ alloc_at hcb _ _, World.ownsRow_nil _ _ _ _, fun g e => by simp [Value.ownBlock] at e, Many.none _, fun k e => e.elim, hw1 ▸ kp_new w _⟩; have HCB := hid hcb; have HW1 := hid hw1; have HH1 := hid h1; have HH6 := hid h6; have hc1 : ¬ n < 1 := by omega
 have hc2 : ¬ 6 < n := by omega
 clear hw1 h1 h6 hcb; go_enter Tryz.func10, Tryz.ntmps10; go_wp2_with fail; rw [HW1.out, HCB.out]
 go_loopw [14] (fun i wr => ∃ (q : Nat) (A : Option Addr) (cap : Nat) (bs : Nat → Nat) (T : Nat → Prop), (q : Int) ≤ n ∧ i = .int .i64 q ∧ Hid (NewP w cb q A cap bs T wr)) (fun i _ => n.toNat - (intOf i).toNat)
 case atStart => exact ⟨0, none, 0, _, _, by have := HH1.out; omega, rfl, HN0⟩
 case round =>
  obtain ⟨q, A, cap, bs, T, hq, rfl, hs⟩ := hrel; clear HN0; by_cases hlt : (q : Int) < n
  · obtain ⟨y0, _⟩ := cellsAt hs.out.top 0 (v := .slice A q cap) rfl; have y1 : wr.drew.cell? ⟨cb, 0, none⟩ = some (.slice A q cap) := y0; have hcl : cb < wr.heap.size := (Array.getElem?_eq_some_iff.1 hs.out.top).1
    have HST : Hid (∀ w2 nb S2, (PN nb newNd).p S2 w2 → (∀ k, S2 k → wr.drew.heap.size ≤ k) → Below wr.drew.heap.size wr.drew w2 → w2.cell? ⟨cb, 0, none⟩ = some (.slice A q cap) ∧ (w2.alloc (.cells #[.pointer (some ⟨nb, 0, none⟩)] 87)).cell? ⟨cb, 0, none⟩ = some (.slice A q cap) ∧ ∃ A5 c5 w5, (Builtin.append_ #[84, 84] 84 #[.slice A q cap, .slice (some ⟨w2.heap.size, 0, none⟩) 1 1]).run Tryz.prog (w2.alloc (.cells #[.pointer (some ⟨nb, 0, none⟩)] 87)) = .ok (.slice A5 (q + 1) c5) w5 ∧
     (w5.cell? ⟨cb, 0, none⟩ = some (.slice A q cap) ∧ w5.frozen? ⟨cb, 0, none⟩ = false) ∧ ∃ bs' T', Hid (NewP w cb (q + 1) A5 c5 bs' T' (w5.setCell ⟨cb, 0, none⟩ (.slice A5 (q + 1) c5)))) := hid fun w2 nb S2 hp2 hS2 hb2 => by
     obtain ⟨A5, c5, w5, g1, g2, g3⟩ := hs.out.step HCB.out (by have := HH6.out; omega) (kp_drewN wr 1) hp2 hS2 hb2; have hx2 := (hb2.cell (p := ⟨cb, 0, none⟩) hcl).trans y1; exact ⟨hx2, ((kp_new w2 _).cell (p := ⟨cb, 0, none⟩) (Nat.lt_of_lt_of_le hcl hb2.size)).trans hx2, A5, c5, w5, g1, cellsAt g2 0 rfl, _, _, hid g3⟩
    have HNW := hid fun u => pnew15_ok u; clear hs hcl; go_wp2_with fail
    go_region_law (first
     | (refine step_append_run rfl (.tmp 20) (.tmp 22) _ rfl _ _ rfl rfl HRUN.out ?_)
     | (go_simp; go_at_call 32; refine (HNW.out _).mono ?_; rintro e w2 ⟨nb, rfl, ⟨S2, hp2, hS2⟩, hb2⟩; obtain ⟨x2, x3, A5, c5, w5, hrun, ⟨x5, f5⟩, bs5, T5, HN5⟩ := HST.out w2 nb S2 hp2 hS2 hb2; have HRUN := hid hrun; clear hp2 hS2 hb2 hrun HST HNW))
    all_goals
     go_wp2_with fail; go_roundw
     case rel => exact ⟨q + 1, A5, c5, bs5, T5, by omega, by go_num, HN5⟩
     case measure => simp [intOf]; omega
  · obtain rfl : (q : Int) = n := by omega
    obtain ⟨g, hA⟩ : ∃ g, A = some ⟨g, 0, none⟩ := by
     have h1 := HH1.out; rcases hs.out.own.2 with ⟨h2, _⟩ | ⟨g, cap', cur, h2, _⟩
     · injection h2 with _ h2 _; omega
     · injection h2 with h2 _ _; exact ⟨g, h2⟩
    subst hA; have hob := hs.out.ob g rfl; have hgl := (hs.out.own.lt g rfl).2; have hcl : cb < wr.heap.size := (Array.getElem?_eq_some_iff.1 hs.out.top).1; have hz := hs.out.low.size; have hTl : ∀ k, T k → k < wr.heap.size := fun k hk => (Many PN q bs fun _ => newNd).lt hs.out.nd k hk; have htb : ¬ T cb := fun e => by have := (hs.out.tt cb e).1; omega
    have hlt3 : ∀ k, (k = cb ∨ k = g ∨ T k) → k < wr.heap.size := fun k e => by
     rcases e with e | e | e
     · omega
     · omega
     · exact hTl k e
    have hpt : ∀ i, i < q → wr.cell? ⟨g, i, none⟩ = some (.pointer (some ⟨bs i, 0, none⟩)) := fun i hi => by
     rw [← show (⟨g, 0, none⟩ : Addr).add i = ⟨g, i, none⟩ from by unfold Addr.add; split <;> simp_all]; exact hs.out.own.cells (g := g) rfl i _ (ptC_at bs hi)
    have hgb : g ≠ cb := by omega
    have hx : PUx cb ⟨q, fun _ => newNd, ⟨0, 0, 0⟩⟩ g cap bs T (fun k => k = cb ∨ k = g ∨ T k) wr := { top := hs.out.top, pt := hpt, nd := hs.out.nd, sb := .inl rfl, sg := .inr (.inl rfl), gb := hgb, tg := fun e => (hs.out.tt g e).2 rfl, tb := htb, ts := fun k e => .inr (.inr e), lt := hlt3 }; have HBG := hid (pbegin16_ok ⟨1, 0, 0⟩ hx (by unfold Cu.Is; have := HH1.out; dsimp only; omega)); have HLW := hid hs.out.low
    have HSB : Hid (∀ k, (k = cb ∨ k = g ∨ T k) → w.heap.size ≤ k) := hid fun k e => by
     have h1 := HCB.out; rcases e with e | e | e
     · omega
     · omega
     · have := (hs.out.tt k e).1; omega
    clear hx hs hob hgl hcl hz hTl htb hlt3 hpt hgb; unfold prP at HBG; go_wp2_with fail; refine HBG.out.mono ?_; rintro e w3 ⟨rfl, ht⟩; have HTU := hid ht; clear ht; go_wp2_with fail; go_ret2; obtain ⟨⟨S', h1, h2⟩, h3⟩ := HTU.out; refine ⟨cb, rfl, ⟨S', h1, fun k e => (h2 k e).elim (HSB.out k) fun e => Nat.le_trans HLW.out.size e⟩, ?_⟩; exact HLW.out.trans (h3.below HSB.out HLW.out.size)
end

/- The landed cluster does what the laws ask of a cluster. -/
section
open Go.RowKit
set_option maxRecDepth 100000
theorem pnew16_no (n : Int) (w : World) (hn : ¬ (1 ≤ n ∧ n ≤ 6)) :
 Calls Tryz.prog 10 #[.int .i64 n] w fun e w' => e = .returned (.tuple #[.pointer none, .int .i64 1]) ∧ Below w.heap.size w w' := by
 by_cases h1 : n < 1
 · clear hn; go_enter Tryz.func10, Tryz.ntmps10; go_wp2_with fail; go_ret2; exact ⟨rfl, Below.refl _ _⟩
 · have h2 : 6 < n := by omega
   clear hn; go_enter Tryz.func10, Tryz.ntmps10; go_wp2_with fail; go_ret2; exact ⟨rfl, Below.refl _ _⟩
theorem clusterc_ok : ClusterC PU where
 new := fun n w _ h1 h6 => pnew16_ok n w h1 h6
 no := fun n w _ hn => pnew16_no n w hn
 nodes := fun _ _ _ _ _ h _ => pnodes16_ok h
 newest := fun _ _ _ _ _ h _ => pnewest16_ok h
 promote := fun _ _ _ n _ _ h hI hk _ => ppro16_ok n h hI hk
 copy := fun _ _ _ n m _ _ h hI _ _ _ => pcopy16_ok n m h hI
 run := fun _ _ _ n cn e rd s _ _ hL h hI hk hs _ hc _ => prun16_ok n cn e rd s hL h hI hk hs hc
 close := fun _ _ _ n cn _ _ h hI _ _ hc => pclose16_ok n cn h hI hc
 epoch := fun _ _ _ n _ _ h _ _ => pepoch16_ok n h
 leads := fun _ _ _ n _ _ h _ _ => pleads16_ok n h
 log := fun _ _ _ n _ _ h hI _ => plog16_ok n h hI
 lag := fun _ _ _ n _ _ h hI _ => plag16_ok n h hI
end

/- Layer 16: within a region that lets both clusters do an act and lays down what they tell. -/
section
open Go.RowKit
set_option maxRecDepth 100000
theorem toV16_inj {t : To16} {A A' : Option Addr} {m d m' d' : Nat} (h : toV16 t A m d = toV16 t A' m' d') : A = A' ∧ m = m' ∧ d = d' := by
 unfold toV16 at h; injection h with h; have e := congrArg (fun z : Array Value => z[3]?) h; have e2 : (some (Value.slice A m d) : Option Value) = some (.slice A' m' d') := e; injection e2 with e2; injection e2 with a b c; exact ⟨a, b, c⟩
def toB16 (t : To16) (A : Option Addr) (m d : Nat) : Obj := .cells #[.int .i64 t.r.e, .int .u64 t.r.ep, .int .u64 t.r.pl, .slice A m d, .bool t.is, .int .u64 t.p.e, .int .i64 t.p.p, .int .u64 t.p.c, .int .i64 t.e, .int .i64 t.many] 41 (0, 0)
def ptB16 (b : Nat) : Value := .pointer (some ⟨b, 0, none⟩)
def put10 (u : World) (b : Nat) (t : To16) (A : Option Addr) (m d : Nat) : World := (((((((((u.setCell ⟨b, 0, none⟩ (.int .i64 t.r.e)).setCell ⟨b, 1, none⟩ (.int .u64 t.r.ep)).setCell ⟨b, 2, none⟩ (.int .u64 t.r.pl)).setCell ⟨b, 3, none⟩ (.slice A m d)).setCell ⟨b, 4, none⟩ (.bool t.is)).setCell ⟨b, 5, none⟩ (.int .u64 t.p.e)).setCell ⟨b, 6, none⟩ (.int .i64 t.p.p)).setCell ⟨b, 7, none⟩ (.int .u64 t.p.c)).setCell ⟨b, 8, none⟩ (.int .i64 t.e)).setCell ⟨b, 9, none⟩ (.int .i64 t.many)
theorem Off.own1 {b : Nat} {u u' : World} (h : Off (fun k => k = b) u u') (i : Nat) (v : Value) : Off (fun k => k = b) u (u'.setCell ⟨b, i, none⟩ v) := h.setCell (.inl rfl) v
theorem put10_ok {u : World} {b : Nat} (t : To16) (A : Option Addr) (m d : Nat) (h : u.heap[b]? = some toZ16) : (put10 u b t A m d).heap[b]? = some (toB16 t A m d) ∧ Off (fun k => k = b) u (put10 u b t A m d) := by
 unfold toZ16 at h; unfold put10 toB16; have o0 := (Off.refl (fun k => k = b) u).own1 0 (.int .i64 t.r.e); obtain ⟨u0, hu0⟩ : ∃ z, u.setCell ⟨b, 0, none⟩ (.int .i64 t.r.e) = z := ⟨_, rfl⟩; have h0 : u0.heap[b]? = some (.cells #[.int .i64 t.r.e, .int .u64 0, .int .u64 0, .slice none 0 0, .bool false, .int .u64 0, .int .i64 0, .int .u64 0, .int .i64 0, .int .i64 0] 41 (0, 0)) := hu0 ▸ heap_setCell_same u b 0 _ _ (.int .i64 t.r.e) h; rw [hu0] at o0; obtain ⟨u1, hu1⟩ : ∃ z, u0.setCell ⟨b, 1, none⟩ (.int .u64 t.r.ep) = z := ⟨_, rfl⟩; have h1 : u1.heap[b]? = some (.cells #[.int .i64 t.r.e, .int .u64 t.r.ep, .int .u64 0, .slice none 0 0, .bool false, .int .u64 0, .int .i64 0, .int .u64 0, .int .i64 0, .int .i64 0] 41 (0, 0)) := hu1 ▸ heap_setCell_same u0 b 1 _ _ (.int .u64 t.r.ep) h0; have o1 := o0.own1 1 (.int .u64 t.r.ep); rw [hu1] at o1; obtain ⟨u2, hu2⟩ : ∃ z, u1.setCell ⟨b, 2, none⟩ (.int .u64 t.r.pl) = z := ⟨_, rfl⟩; have h2 : u2.heap[b]? = some (.cells #[.int .i64 t.r.e, .int .u64 t.r.ep, .int .u64 t.r.pl, .slice none 0 0, .bool false, .int .u64 0, .int .i64 0, .int .u64 0, .int .i64 0, .int .i64 0] 41 (0, 0)) := hu2 ▸ heap_setCell_same u1 b 2 _ _ (.int .u64 t.r.pl) h1; have o2 := o1.own1 2 (.int .u64 t.r.pl); rw [hu2] at o2; obtain ⟨u3, hu3⟩ : ∃ z, u2.setCell ⟨b, 3, none⟩ (.slice A m d) = z := ⟨_, rfl⟩; have h3 : u3.heap[b]? = some (.cells #[.int .i64 t.r.e, .int .u64 t.r.ep, .int .u64 t.r.pl, .slice A m d, .bool false, .int .u64 0, .int .i64 0, .int .u64 0, .int .i64 0, .int .i64 0] 41 (0, 0)) := hu3 ▸ heap_setCell_same u2 b 3 _ _ (.slice A m d) h2; have o3 := o2.own1 3 (.slice A m d); rw [hu3] at o3; obtain ⟨u4, hu4⟩ : ∃ z, u3.setCell ⟨b, 4, none⟩ (.bool t.is) = z := ⟨_, rfl⟩; have h4 : u4.heap[b]? = some (.cells #[.int .i64 t.r.e, .int .u64 t.r.ep, .int .u64 t.r.pl, .slice A m d, .bool t.is, .int .u64 0, .int .i64 0, .int .u64 0, .int .i64 0, .int .i64 0] 41 (0, 0)) := hu4 ▸ heap_setCell_same u3 b 4 _ _ (.bool t.is) h3; have o4 := o3.own1 4 (.bool t.is); rw [hu4] at o4; obtain ⟨u5, hu5⟩ : ∃ z, u4.setCell ⟨b, 5, none⟩ (.int .u64 t.p.e) = z := ⟨_, rfl⟩; have h5 : u5.heap[b]? = some (.cells #[.int .i64 t.r.e, .int .u64 t.r.ep, .int .u64 t.r.pl, .slice A m d, .bool t.is, .int .u64 t.p.e, .int .i64 0, .int .u64 0, .int .i64 0, .int .i64 0] 41 (0, 0)) := hu5 ▸ heap_setCell_same u4 b 5 _ _ (.int .u64 t.p.e) h4; have o5 := o4.own1 5 (.int .u64 t.p.e); rw [hu5] at o5; obtain ⟨u6, hu6⟩ : ∃ z, u5.setCell ⟨b, 6, none⟩ (.int .i64 t.p.p) = z := ⟨_, rfl⟩; have h6 : u6.heap[b]? = some (.cells #[.int .i64 t.r.e, .int .u64 t.r.ep, .int .u64 t.r.pl, .slice A m d, .bool t.is, .int .u64 t.p.e, .int .i64 t.p.p, .int .u64 0, .int .i64 0, .int .i64 0] 41 (0, 0)) := hu6 ▸ heap_setCell_same u5 b 6 _ _ (.int .i64 t.p.p) h5; have o6 := o5.own1 6 (.int .i64 t.p.p); rw [hu6] at o6; obtain ⟨u7, hu7⟩ : ∃ z, u6.setCell ⟨b, 7, none⟩ (.int .u64 t.p.c) = z := ⟨_, rfl⟩; have h7 : u7.heap[b]? = some (.cells #[.int .i64 t.r.e, .int .u64 t.r.ep, .int .u64 t.r.pl, .slice A m d, .bool t.is, .int .u64 t.p.e, .int .i64 t.p.p, .int .u64 t.p.c, .int .i64 0, .int .i64 0] 41 (0, 0)) := hu7 ▸ heap_setCell_same u6 b 7 _ _ (.int .u64 t.p.c) h6
 have o7 := o6.own1 7 (.int .u64 t.p.c); rw [hu7] at o7; obtain ⟨u8, hu8⟩ : ∃ z, u7.setCell ⟨b, 8, none⟩ (.int .i64 t.e) = z := ⟨_, rfl⟩; have h8 : u8.heap[b]? = some (.cells #[.int .i64 t.r.e, .int .u64 t.r.ep, .int .u64 t.r.pl, .slice A m d, .bool t.is, .int .u64 t.p.e, .int .i64 t.p.p, .int .u64 t.p.c, .int .i64 t.e, .int .i64 0] 41 (0, 0)) := hu8 ▸ heap_setCell_same u7 b 8 _ _ (.int .i64 t.e) h7; have o8 := o7.own1 8 (.int .i64 t.e); rw [hu8] at o8; obtain ⟨u9, hu9⟩ : ∃ z, u8.setCell ⟨b, 9, none⟩ (.int .i64 t.many) = z := ⟨_, rfl⟩; have h9 : u9.heap[b]? = some (.cells #[.int .i64 t.r.e, .int .u64 t.r.ep, .int .u64 t.r.pl, .slice A m d, .bool t.is, .int .u64 t.p.e, .int .i64 t.p.p, .int .u64 t.p.c, .int .i64 t.e, .int .i64 t.many] 41 (0, 0)) := hu9 ▸ heap_setCell_same u8 b 9 _ _ (.int .i64 t.many) h8; have o9 := o8.own1 9 (.int .i64 t.many); rw [hu9] at o9; rw [hu0, hu1, hu2, hu3, hu4, hu5, hu6, hu7, hu8, hu9]; exact ⟨h9, o9⟩
structure SEp (W : World) (X0 X1 Y0 Y1 : Thing) (t6 : Nat) (act : Obj) (tt : To16) (f g p q : Bool) (va vb wa wb : Value) (l : List (Nat × Obj)) (xs : List (Option Addr × Nat × List ByteArray)) (u : World) : Prop where
 st : St15 W (bif f then X1 else X0) (bif g then Y1 else Y0) [] l [] xs u
 a6 : (t6, act) ∈ l
 ha : f = true → ∃ A m d, va = toV16 tt A m d ∧ (A, m, tt.r.ts) ∈ xs
 hb : g = true → ∃ A m d, vb = toV16 tt A m d ∧ XR u A m tt.r.ts
 pa : p = true → ∃ b, wa = ptB16 b ∧ (b, toZ16) ∈ l ∧ W.heap.size ≤ b
 pb : q = true → ∃ b, wb = ptB16 b ∧ (b, toZ16) ∈ l ∧ W.heap.size ≤ b
 ne : p = true → q = true → wa ≠ wb
section
variable {W : World} {X0 X1 Y0 Y1 : Thing} {t6 : Nat} {act : Obj} {tt : To16} {f g p q : Bool} {va vb wa wb : Value} {l : List (Nat × Obj)} {xs : List (Option Addr × Nat × List ByteArray)} {u u' : World} {A : Option Addr} {m d : Nat}
theorem SEp.do1 (h : SEp W X0 X1 Y0 Y1 t6 act tt false false p q va vb wa wb l xs u) (h2 : St15 W X1 Y0 [] l [] ((A, m, tt.r.ts) :: xs) u') : SEp W X0 X1 Y0 Y1 t6 act tt true false p q (toV16 tt A m d) vb wa wb l ((A, m, tt.r.ts) :: xs) u' :=
 ⟨h2, h.a6, fun _ => ⟨A, m, d, rfl, .head _⟩, (fun h => by cases h), h.pa, h.pb, h.ne⟩
theorem SEp.do2 (h : SEp W X0 X1 Y0 Y1 t6 act tt true false p q va vb wa wb l xs u) (h2 : St15 W X1 Y1 [] l [] xs u') (hx : XR u' A m tt.r.ts) : SEp W X0 X1 Y0 Y1 t6 act tt true true p q va (toV16 tt A m d) wa wb l xs u' :=
 ⟨h2, h.a6, h.ha, fun _ => ⟨A, m, d, rfl, hx⟩, h.pa, h.pb, h.ne⟩
theorem SEp.al1 (h : SEp W X0 X1 Y0 Y1 t6 act tt f g false q va vb wa wb l xs u) : SEp W X0 X1 Y0 Y1 t6 act tt f g true q va vb (ptB16 u.heap.size) wb ((u.heap.size, toZ16) :: l) xs (u.alloc toZ16) :=
 ⟨h.st.mark toZ16 rfl rfl, .tail _ h.a6, h.ha, fun hg => by obtain ⟨A, m, d, h1, h2⟩ := h.hb hg; exact ⟨A, m, d, h1, h2.next (kp_new u _)⟩, fun _ => ⟨_, rfl, .head _, h.st.low.size⟩, fun hq => by obtain ⟨b, h1, h2, h3⟩ := h.pb hq; exact ⟨b, h1, .tail _ h2, h3⟩, fun _ hq e => by
  obtain ⟨b, h1, h2, _⟩ := h.pb hq; rw [h1] at e; injection e with e; injection e with e; injection e with e; have := (Array.getElem?_eq_some_iff.1 (h.st.at_ h2)).1; simp only at this
  omega⟩
theorem SEp.al2 (h : SEp W X0 X1 Y0 Y1 t6 act tt f g p false va vb wa wb l xs u) : SEp W X0 X1 Y0 Y1 t6 act tt f g p true va vb wa (ptB16 u.heap.size) ((u.heap.size, toZ16) :: l) xs (u.alloc toZ16) :=
 ⟨h.st.mark toZ16 rfl rfl, .tail _ h.a6, h.ha, fun hg => by obtain ⟨A, m, d, h1, h2⟩ := h.hb hg; exact ⟨A, m, d, h1, h2.next (kp_new u _)⟩, fun hp => by obtain ⟨b, h1, h2, h3⟩ := h.pa hp; exact ⟨b, h1, .tail _ h2, h3⟩, fun _ => ⟨_, rfl, .head _, h.st.low.size⟩, fun hp _ e => by
  obtain ⟨b, h1, h2, _⟩ := h.pa hp; rw [h1] at e; injection e with e; injection e with e; injection e with e; have := (Array.getElem?_eq_some_iff.1 (h.st.at_ h2)).1; simp only at this
  omega⟩
set_option maxHeartbeats 4000000 in
theorem SEp.put1 (h : SEp W X0 X1 Y0 Y1 t6 act tt true true true true va vb wa wb l xs u) (hact : act ≠ toZ16) : ∃ b c A m d A' m' d', wa = ptB16 b ∧ wb = ptB16 c ∧ va = toV16 tt A m d ∧ vb = toV16 tt A' m' d' ∧ u.heap[b]? = some toZ16 ∧ St15 W X1 Y1 [] [(c, toZ16), (b, toB16 tt A m d), (t6, act)] [] [] (put10 u b tt A m d) ∧ W.heap.size ≤ c ∧ c ≠ b ∧ c ≠ t6 ∧ XR (put10 u b tt A m d) A m tt.r.ts ∧ XR (put10 u b tt A m d) A' m' tt.r.ts := by
 obtain ⟨A, m, d, a1, a2⟩ := h.ha rfl; obtain ⟨A', m', d', b1, b2⟩ := h.hb rfl; obtain ⟨b, c1, c2, c3⟩ := h.pa rfl; obtain ⟨c, d1, d2, d3⟩ := h.pb rfl; have hz := h.st.at_ c2; have hz2 := h.st.at_ d2; have h6 := h.st.at_ h.a6; simp only at hz hz2 h6; have hbc : c ≠ b := fun e => h.ne rfl rfl (by rw [c1, d1, e]); have hb6 : t6 ≠ b := fun e => hact (by rw [e, hz] at h6; injection h6 with h6; exact h6.symm); have hc6 : c ≠ t6 := fun e => hact (by rw [← e, hz2] at h6; injection h6 with h6; exact h6.symm); obtain ⟨e1, e2⟩ := put10_ok tt A m d hz
 have hs := h.st.less (ps' := []) (l' := [(b, toZ16), (c, toZ16), (t6, act)]) (rs' := []) (xs' := []) (fun _ h => h) (fun q hq => by
  rcases List.mem_cons.1 hq with rfl | hq
  · exact c2
  rcases List.mem_cons.1 hq with rfl | hq
  · exact d2
  · rw [List.mem_singleton.1 hq]; exact h.a6) (fun _ h => h) (fun _ h => nomatch h)
 have hp := hs.poke c3 e2 e1 (fun q hq => by
  rcases List.mem_cons.1 hq with rfl | hq
  · exact hbc
  · rw [List.mem_singleton.1 hq]; exact hb6) (fun _ h => nomatch h) (fun _ h => nomatch h) (fun _ h => nomatch h)
 exact ⟨b, c, A, m, d, A', m', d', c1, d1, a1, b1, hz, hp.less (fun _ h => h) (fun q hq => by
  rcases List.mem_cons.1 hq with rfl | hq
  · exact .tail _ (.head _)
  rcases List.mem_cons.1 hq with rfl | hq
  · exact .head _
  · rw [List.mem_singleton.1 hq]; exact .tail _ (.tail _ (.head _))) (fun _ h => h) (fun _ h => h), d3, hbc, hc6, (h.st.xr a2).pastT hz to16_none e2, b2.pastT hz to16_none e2⟩
def SE (W : World) (X0 X1 Y0 Y1 : Thing) (t6 : Nat) (act : Obj) (tt : To16) (sa sb pa pb : Nat) (L : Nat → Bool) (T : Nat → Value) (u : World) : Prop :=
 bif L 9 then ∃ b c A m d A' m' d', T pa = ptB16 b ∧ T pb = ptB16 c ∧ St15 W X1 Y1 [] [(c, toB16 tt A' m' d'), (b, toB16 tt A m d), (t6, act)] [] [] u ∧ XR u A m tt.r.ts ∧ XR u A' m' tt.r.ts
 else bif L 8 then ∃ b c A m d A' m' d', T pa = ptB16 b ∧ T pb = ptB16 c ∧ T sb = toV16 tt A' m' d' ∧ St15 W X1 Y1 [] [(c, toZ16), (b, toB16 tt A m d), (t6, act)] [] [] u ∧ W.heap.size ≤ c ∧ c ≠ b ∧ c ≠ t6 ∧ XR u A m tt.r.ts ∧ XR u A' m' tt.r.ts
 else ∃ l xs, SEp W X0 X1 Y0 Y1 t6 act tt (L 2) (L 5) (L 6) (L 7) (T sa) (T sb) (T pa) (T pb) l xs u
variable {sa sb pa pb : Nat} {L : Nat → Bool} {T : Nat → Value}
theorem SE.pre (h : SE W X0 X1 Y0 Y1 t6 act tt sa sb pa pb L T u) (h9 : L 9 = false) (h8 : L 8 = false) : ∃ l xs, SEp W X0 X1 Y0 Y1 t6 act tt (L 2) (L 5) (L 6) (L 7) (T sa) (T sb) (T pa) (T pb) l xs u := by
 unfold SE at h; rw [h9, h8] at h; exact h
theorem SE.of (h9 : L 9 = false) (h8 : L 8 = false) (h : ∃ l xs, SEp W X0 X1 Y0 Y1 t6 act tt (L 2) (L 5) (L 6) (L 7) (T sa) (T sb) (T pa) (T pb) l xs u) : SE W X0 X1 Y0 Y1 t6 act tt sa sb pa pb L T u := by
 unfold SE; rw [h9, h8]; exact h
set_option maxHeartbeats 4000000 in
theorem SE.put2 {b c : Nat} {A' : Option Addr} {m' d' : Nat} (h : St15 W X1 Y1 [] [(c, toZ16), (b, toB16 tt A m d), (t6, act)] [] [] u) (hc : W.heap.size ≤ c) (hcb : c ≠ b) (hc6 : c ≠ t6) (hx : XR u A m tt.r.ts) (hy : XR u A' m' tt.r.ts) :
 u.heap[c]? = some toZ16 ∧ St15 W X1 Y1 [] [(c, toB16 tt A' m' d'), (b, toB16 tt A m d), (t6, act)] [] [] (put10 u c tt A' m' d') ∧ XR (put10 u c tt A' m' d') A m tt.r.ts ∧ XR (put10 u c tt A' m' d') A' m' tt.r.ts := by
 have hz := h.at_ (.head _); simp only at hz; obtain ⟨e1, e2⟩ := put10_ok tt A' m' d' hz
 exact ⟨hz, h.poke hc e2 e1 (fun q hq => by
  rcases List.mem_cons.1 hq with rfl | hq
  · exact hcb.symm
  · rw [List.mem_singleton.1 hq]; exact hc6.symm) (fun _ h => nomatch h) (fun _ h => nomatch h) (fun _ h => nomatch h), hx.pastT hz to16_none e2, hy.pastT hz to16_none e2⟩
end
end

/- Layer 16: the document's cluster, some of whose places are pinned down, as the second thing; its moves. -/
section
open Go.RowKit
set_option maxRecDepth 100000
def PC (b : Nat) (c : Cu) (g cap : Nat) (bs : Nat → Nat) : Thing where
 p := fun S w => ∃ T, RCx b c g cap bs T S w
 keep := fun ⟨_, h⟩ hk hz => ⟨_, h.keep hk hz⟩
 lt := fun ⟨_, h⟩ => h.lt
def PD (b : Nat) (c : Cu) (g cap : Nat) (bs : Nat → Nat) (i : Nat) (AL : Option Addr) (nl cl : Nat) : Thing where
 p := fun S w => ∃ T, RCx b c g cap bs T S w ∧ ∃ AO no co os S', RNx (bs i) (c.ns i) AL nl cl AO no co os S' w ∧ ∀ k, S' k → T k
 keep := fun ⟨_, h, _, _, _, _, _, h1, h2⟩ hk hz => ⟨_, h.keep hk hz, _, _, _, _, _, h1.keep (fun k e => hk k (h.ts k (h2 k e))) hz, h2⟩
 lt := fun ⟨_, h, _⟩ => h.lt
section
variable {w0 w : World} {X : Thing} {b g cap i nl cl k : Nat} {c : Cu} {bs : Nat → Nat} {AL : Option Addr} {ps : List (Nat × (Nat → Nat))} {l : List (Nat × Obj)} {rs : List (Option Addr × Nat × List Lg)} {xs : List (Option Addr × Nat × List ByteArray)}
theorem St15.pinc (h : St15 w0 X (RC b c) ps l rs xs w) : ∃ g cap bs, St15 w0 X (PC b c g cap bs) ps l rs xs w := by
 obtain ⟨N, ⟨⟨S, T, h1, ⟨g, cap, bs, T', h2⟩, h3, h4⟩, h5, h6⟩, r⟩ := h; exact ⟨g, cap, bs, N, ⟨⟨S, T, h1, ⟨T', h2⟩, h3, h4⟩, h5, h6⟩, r⟩
theorem St15.unpinc (h : St15 w0 X (PC b c g cap bs) ps l rs xs w) : St15 w0 X (RC b c) ps l rs xs w := by
 obtain ⟨N, ⟨⟨S, T, h1, ⟨T', h2⟩, h3, h4⟩, h5, h6⟩, r⟩ := h; exact ⟨N, ⟨⟨S, T, h1, ⟨g, cap, bs, T', h2⟩, h3, h4⟩, h5, h6⟩, r⟩
theorem St15.pind (h : St15 w0 X (PC b c g cap bs) ps l rs xs w) (hi : i < c.n) : ∃ AL nl cl, St15 w0 X (PD b c g cap bs i AL nl cl) ps l rs xs w := by
 obtain ⟨N, ⟨⟨S, T, h1, ⟨T', h2⟩, h3, h4⟩, h5, h6⟩, r⟩ := h; obtain ⟨AL, nl, cl, AO, no, co, os, S', hx, hS'⟩ := h2.node hi; exact ⟨AL, nl, cl, N, ⟨⟨S, T, h1, ⟨T', h2, AO, no, co, os, S', hx, hS'⟩, h3, h4⟩, h5, h6⟩, r⟩
theorem St15.unpind (h : St15 w0 X (PD b c g cap bs i AL nl cl) ps l rs xs w) : St15 w0 X (PC b c g cap bs) ps l rs xs w := by
 obtain ⟨N, ⟨⟨S, T, h1, ⟨T', h2, _⟩, h3, h4⟩, h5, h6⟩, r⟩ := h; exact ⟨N, ⟨⟨S, T, h1, ⟨T', h2⟩, h3, h4⟩, h5, h6⟩, r⟩
theorem St15.ctops (h : St15 w0 X (PC b c g cap bs) ps l rs xs w) : w.cell? ⟨b, 0, none⟩ = some (.slice (some ⟨g, 0, none⟩) c.n cap) ∧ w.cell? ⟨b, 1, none⟩ = some (.int .u64 c.pm.e) ∧ w.cell? ⟨b, 2, none⟩ = some (.int .i64 c.pm.p) ∧ w.cell? ⟨b, 3, none⟩ = some (.int .u64 c.pm.c) := by
 obtain ⟨_, _, h⟩ := h.snd; exact h.tops
theorem St15.cptr (h : St15 w0 X (PC b c g cap bs) ps l rs xs w) (hi : i < c.n) : w.cell? ⟨g, i, none⟩ = some (.pointer (some ⟨bs i, 0, none⟩)) := by
 obtain ⟨_, _, h⟩ := h.snd; exact h.pt i hi
theorem St15.dtops (h : St15 w0 X (PD b c g cap bs i AL nl cl) ps l rs xs w) : (w.cell? ⟨bs i, 0, none⟩ = some (.int .u64 (c.ns i).ep) ∧ w.cell? ⟨bs i, 1, none⟩ = some (.bool (c.ns i).ld) ∧ w.cell? ⟨bs i, 2, none⟩ = some (.slice AL nl cl)) ∧ LR w AL nl (c.ns i).lg := by
 obtain ⟨_, _, _, _, _, _, _, _, h, _⟩ := h.snd; obtain ⟨c0, c1, c2, _⟩ := h.tops; exact ⟨⟨c0, c1, c2⟩, h.lg⟩
theorem St15.cown (h : St15 w0 X (RC b c) ps l rs xs w) {x : Ac7} (hI : CuI k c) (hk : k ≤ 800) (hx : x.Fine) (ht : Sm x.t) :
 Calls Tryz.prog 13 #[.pointer (some ⟨b, 0, none⟩), .agg #[.int .i64 x.d, .int .i64 x.nd, .int .i64 x.c, .int .i64 x.m, .int .u64 x.e, .bool x.rd, .string x.t]] w fun e w' => (∃ (A' : Option Addr) (m' d' : Nat), e = .returned (toV16 (actCu c x).1 A' m' d') ∧ XR w' A' m' (actCu c x).1.r.ts) ∧ St15 w0 X (RC b (actCu c x).2) ps l rs xs w' :=
 h.right (Q := fun e w' => ∃ (A' : Option Addr) (m' d' : Nat), e = .returned (toV16 (actCu c x).1 A' m' d') ∧ XR w' A' m' (actCu c x).1.r.ts) fun _ hS => (lown16_ok x hS hI hk hx ht).mono fun _ _ ⟨A', m', d', he, hr, ht⟩ => ⟨⟨A', m', d', he, hr⟩, ht⟩
theorem St15.crlag (h : St15 w0 X (PD b c g cap bs i AL nl cl) ps l rs xs w) (hI : CuI k c) (n : Int) :
 Calls Tryz.prog 23 #[.pointer (some ⟨b, 0, none⟩), .int .i64 n] w fun e w' => e = .returned (.int .u64 (lagCu c n)) ∧ St15 w0 X (PD b c g cap bs i AL nl cl) ps l rs xs w' :=
 (h.swap.asks (Q := fun e _ => e = .returned (.int .u64 (lagCu c n))) fun _ ⟨T, hS, _⟩ => rclag_ok n ⟨g, cap, bs, T, hS⟩ hI).mono fun _ _ ⟨h1, h2⟩ => ⟨h1, h2.swap⟩
theorem St15.cris (h : St15 w0 X (PC b c g cap bs) ps l rs xs w) (n : Int) :
 Calls Tryz.prog 24 #[.pointer (some ⟨b, 0, none⟩), .int .i64 n] w fun e w' => e = .returned (.bool (decide (c.Is n))) ∧ St15 w0 X (PC b c g cap bs) ps l rs xs w' :=
 (h.swap.asks (Q := fun e _ => e = .returned (.bool (decide (c.Is n)))) fun _ ⟨_, hS⟩ => (rcis_ok n hS).mono fun _ _ ⟨h1, h2⟩ => ⟨h1, h2 ▸ Below.refl _ _⟩).mono fun _ _ ⟨h1, h2⟩ => ⟨h1, h2.swap⟩
end
theorem act16_ts (c : Cu) (x : Ac7) : (actCu c x).1.r.ts.length ≤ 20 := by
 unfold actCu; split
 · unfold runCu; split
   · first | exact run_ts _ _ _ _ _ | simp
   · first | exact run_ts _ _ _ _ _ | simp
 split
 · simp [noRp]
 split
 · simp [noRp]
 · simp [noRp]
end

/- Layer 16: promotions that are compared. -/
section
open Go.RowKit
set_option maxRecDepth 100000
theorem eql_prom (k k' p p' q q' : Int) (w : World) : (binOp .eql 45 (.agg #[.int .u64 k, .int .i64 p, .int .u64 q]) (.agg #[.int .u64 k', .int .i64 p', .int .u64 q'])).run Tryz.prog w = .ok (.bool (decide ((⟨k, p, q⟩ : Pr16) = ⟨k', p', q'⟩))) w := by
 have hf : (Tryz.prog.fieldsOf 45) = (match Tryz.prog.underlying 45 with | some (.struct fs) => fs | _ => #[]) := rfl; have hu := Tryz.underlying45; rw [hu] at hf; rw [run_eql_struct, run_equalIn_agg (P := Tryz.prog) w 9999 _ _ _ (by rw [hf]; exact hu) (by kernel_rfl), hf]; have h9 := Tryz.underlying3; have hz9 := Tryz.sizeOf3; have ha9 := Tryz.isAgg3; have h8 := Tryz.underlying32; have hz8 := Tryz.sizeOf32; have ha8 := Tryz.isAgg32; have p1 : ∀ (x y z : Int) (w : World), (part 32 #[.int .u64 x, .int .i64 y, .int .u64 z] 0).run Tryz.prog w = .ok (.int .u64 x) w := fun x y z w => by simp [part, hz8, ha8]
 have p2 : ∀ (x y z : Int) (w : World), (part 3 #[.int .u64 x, .int .i64 y, .int .u64 z] 1).run Tryz.prog w = .ok (.int .i64 y) w := fun x y z w => by simp [part, hz9, ha9]
 have p3 : ∀ (x y z : Int) (w : World), (part 32 #[.int .u64 x, .int .i64 y, .int .u64 z] 2).run Tryz.prog w = .ok (.int .u64 z) w := fun x y z w => by simp [part, hz8, ha8]
 have e1 : ∀ (x y : Int) (w : World), (Op.equalIn 9999 32 (.int .u64 x) (.int .u64 y)).run Tryz.prog w = .ok (x == y) w := fun x y w => run_equalIn_int w 9998 32 .u64 .u64 x y h8; have e2 : ∀ (x y : Int) (w : World), (Op.equalIn 9999 3 (.int .i64 x) (.int .i64 y)).run Tryz.prog w = .ok (x == y) w := fun x y w => run_equalIn_int w 9998 3 .i64 .i64 x y h9; by_cases h1 : k = k'
 · by_cases h2 : p = p'
   · by_cases h3 : q = q'
     · simp [Op.eqFields, p1, p2, p3, e1, e2, h1, h2, h3]
     · simp [Op.eqFields, p1, p2, p3, e1, e2, h1, h2, h3]
   · simp [Op.eqFields, p1, p2, p3, e1, e2, h1, h2]
 · simp [Op.eqFields, p1, p2, p3, e1, e2, h1]
theorem neq_rprom (k k' p p' q q' : Int) (w : World) : (binOp .neq 39 (.agg #[.int .u64 k, .int .i64 p, .int .u64 q]) (.agg #[.int .u64 k', .int .i64 p', .int .u64 q'])).run Tryz.prog w = .ok (.bool (!decide ((⟨k, p, q⟩ : Pr16) = ⟨k', p', q'⟩))) w := by
 have hf : (Tryz.prog.fieldsOf 39) = (match Tryz.prog.underlying 39 with | some (.struct fs) => fs | _ => #[]) := rfl; have hu := Tryz.underlying39; rw [hu] at hf; rw [run_neq_struct, run_equalIn_agg (P := Tryz.prog) w 9999 _ _ _ (by rw [hf]; exact hu) (by kernel_rfl), hf]; have h9 := Tryz.underlying3; have hz9 := Tryz.sizeOf3; have ha9 := Tryz.isAgg3; have h8 := Tryz.underlying32; have hz8 := Tryz.sizeOf32; have ha8 := Tryz.isAgg32; have p1 : ∀ (x y z : Int) (w : World), (part 32 #[.int .u64 x, .int .i64 y, .int .u64 z] 0).run Tryz.prog w = .ok (.int .u64 x) w := fun x y z w => by simp [part, hz8, ha8]
 have p2 : ∀ (x y z : Int) (w : World), (part 3 #[.int .u64 x, .int .i64 y, .int .u64 z] 1).run Tryz.prog w = .ok (.int .i64 y) w := fun x y z w => by simp [part, hz9, ha9]
 have p3 : ∀ (x y z : Int) (w : World), (part 32 #[.int .u64 x, .int .i64 y, .int .u64 z] 2).run Tryz.prog w = .ok (.int .u64 z) w := fun x y z w => by simp [part, hz8, ha8]
 have e1 : ∀ (x y : Int) (w : World), (Op.equalIn 9999 32 (.int .u64 x) (.int .u64 y)).run Tryz.prog w = .ok (x == y) w := fun x y w => run_equalIn_int w 9998 32 .u64 .u64 x y h8; have e2 : ∀ (x y : Int) (w : World), (Op.equalIn 9999 3 (.int .i64 x) (.int .i64 y)).run Tryz.prog w = .ok (x == y) w := fun x y w => run_equalIn_int w 9998 3 .i64 .i64 x y h9; by_cases h1 : k = k'
 · by_cases h2 : p = p'
   · by_cases h3 : q = q'
     · simp [Op.eqFields, p1, p2, p3, e1, e2, h1, h2, h3]
     · simp [Op.eqFields, p1, p2, p3, e1, e2, h1, h2, h3]
   · simp [Op.eqFields, p1, p2, p3, e1, e2, h1, h2]
 · simp [Op.eqFields, p1, p2, p3, e1, e2, h1]
end

/- A region that draws its order, as XReg6, but an operation whose guard was itself left out may be left out too. -/
section
open Go.RowKit
def WantsNo (ops : Array Oper) (a : Act) (o : Oper) : Prop :=
 match o.guard with
 | none => False
 | some (j, b) => ∃ t, dstOf ops j = some t ∧ (a.tmps.getD t undef = .bool (!b) ∨ a.tmps.getD t undef = undef)
theorem wants_no {ops : Array Oper} {a : Act} {o : Oper} (h : WantsNo ops a o) : Region.wanted o (yielded ops a.tmps) = false := by
 unfold WantsNo at h; unfold Region.wanted; split at h
 · cases h
 · rename_i j b hg
   obtain ⟨t, ht, hv⟩ := h; rw [hg]; unfold dstOf at ht; rcases Nat.lt_or_ge t a.tmps.size with hlt | hge
   · rw [Array.getD_eq_getD_getElem?, Array.getElem?_eq_getElem hlt] at hv; simp only [Option.getD_some] at hv; rcases hv with hv | hv
     · simp [yielded, ht, Array.getElem?_eq_getElem hlt, hv]
     · simp [yielded, ht, Array.getElem?_eq_getElem hlt, hv, undef]
   · simp [yielded, ht, Array.getElem?_eq_none hge]
section
variable {P : Program} {ops : Array Oper} {Q : Exit → Act → World → Prop}
def OkOp8 (P : Program) (ops : Array Oper) (Q : Exit → Act → World → Prop) (S : (Nat → Bool) → World → Prop) {Kp : Nat → World → World → Prop} (Sp : Nat → Stl Kp) (a0 : Act) (i : Nat) (o : Oper) : Prop :=
 ∀ L a w, L i = false → StandI ops i a0 a → S L w → (∀ t, (_ : (waitsFor ops o).contains t = true := by kernel_rfl) → (Sp t).p L (a.tmps.getD t undef) w) → (∀ f j, (_ : needB ops f i j = true := by kernel_rfl) → L j = true) → (∀ f k, (_ : needB ops f k i = true := by kernel_rfl) → L k = false) →
  (Wants ops a o ∧ o.wp P a w (Went6 S Sp L i a o.dst w) Q) ∨ (WantsNo ops a o ∧ S (doneB L i) w ∧ Kp i w w ∧ ∀ t, o.dst = some t → (Sp t).p (doneB L i) undef w)
theorem wpAny_specs8 (S : (Nat → Bool) → World → Prop) {Kp : Nat → World → World → Prop} (Sp : Nat → Stl Kp) (a0 : Act) (hok : regOk5 ops a0.tmps.size = true)
 (each : EachOp (OkOp8 P ops Q S Sp a0) 0 ops.toList)
 (fin : ∀ L a w, (∀ j, j < ops.size → L j = true) → Stand ops a0 a → S L w → (∀ t, (dstsOf ops).contains t = true → (Sp t).p L (a.tmps.getD t undef) w) → Q .normal a w) :
 ∀ (fuel : Nat) (listed : Array Bool) (a : Act) (w : World), listed.size = ops.size → ((List.range ops.size).filter fun i => !listed.getD i true).length ≤ fuel →
  Stand ops a0 a → S (fun j => listed.getD j false) w → (∀ i d, listed.getD i false = true → dstOf ops i = some d → (Sp d).p (fun j => listed.getD j false) (a.tmps.getD d undef) w) →
  (∀ j d, j < ops.size → listed.getD j false = false → dstOf ops j = some d → a.tmps.getD d undef = a0.tmps.getD d undef) →
  (∀ j o, listed.getD j false = true → ops[j]? = some o → ∀ e ∈ o.after, Region.binds .any e = true → listed.getD e.on false = true) → wpAny P .any ops Q fuel listed a w := by
 simp only [regOk5, Bool.and_eq_true, List.all_eq_true, decide_eq_true_eq] at hok; obtain ⟨⟨hdst, hnd⟩, hlow⟩ := hok
 have hdst' : ∀ o ∈ ops.toList, ∀ d, o.dst = some d → d < a0.tmps.size := fun o ho d hd => by
  have := hdst o ho; rw [hd] at this; simpa using this
 have hinj : ∀ i j d, dstOf ops i = some d → dstOf ops j = some d → i = j := fun i j d hi hj => by
  unfold dstOf at hi hj; obtain ⟨x, hx, hxd⟩ := Option.bind_eq_some_iff.1 hi; obtain ⟨y, hy, hyd⟩ := Option.bind_eq_some_iff.1 hj; exact once_filterMap (l := ops.toList) (fun o : Oper => o.dst) hnd (by simpa using hx) (by simpa using hy) hxd hyd
 have hready0 : ∀ listed : Array Bool, listed.size = ops.size → Region.ready .any ops listed = [] → ∀ i, i < ops.size → listed.getD i false = true := by
  intro listed hsz hr i
  induction i using Nat.strongRecOn with
  | _ i ih =>
    intro hi
    cases hl : listed.getD i false with
    | true => rfl
    | false =>
      exfalso
      have hl2 : listed.getD i true = false := by
       rw [Array.getD_eq_getD_getElem?, Array.getElem?_eq_getElem (by omega)] at hl ⊢; simpa using hl
      have hm : i ∈ Region.ready .any ops listed := by
       unfold Region.ready; rw [List.mem_filter]; refine ⟨List.mem_range.2 hi, ?_⟩; rw [hl2, Array.getElem?_eq_getElem hi]; simp only [Bool.not_false, Bool.true_and, Option.map_some, Option.getD_some, Array.all_eq_true_iff_forall_mem]; intro e he; have h1 := hlow (ops[i], i) (by rw [List.mem_zipIdx_iff_getElem?]; simp [hi]); simp only [Array.all_eq_true_iff_forall_mem] at h1; have h2 := h1 e he
       cases hb : Region.binds .any e with
       | false => simp
       | true =>
         rw [hb] at h2; have h3 : e.on < i := by simpa using h2
         simp [ih e.on h3 (by omega)]
      rw [hr] at hm; cases hm
 have hfin : ∀ listed a w, listed.size = ops.size → Stand ops a0 a → S (fun j => listed.getD j false) w → (∀ i d, listed.getD i false = true → dstOf ops i = some d → (Sp d).p (fun j => listed.getD j false) (a.tmps.getD d undef) w) → Region.ready .any ops listed = [] → Q .normal a w := by
  intro listed a w hsz hst hS hsp hr; refine fin _ a w (hready0 listed hsz hr) hst hS fun t ht => ?_; obtain ⟨o, ho, he⟩ := List.mem_filterMap.1 (List.contains_iff_mem.1 ht); obtain ⟨i, hi, hio⟩ := List.mem_iff_getElem.1 ho; have hi' : i < ops.size := by simpa using hi
  have hd : dstOf ops i = some t := by
   unfold dstOf; rw [Array.getElem?_eq_getElem hi', show ops[i] = o by rw [← hio]; simp]; exact he
  exact hsp i t (hready0 listed hsz hr i hi') hd
 intro fuel
 induction fuel with
 | zero =>
   intro listed a w hsz hc hst hS hsp _ _
   have hr : Region.ready .any ops listed = [] := by
    have h0 : ((List.range ops.size).filter fun i => !listed.getD i true) = [] := List.eq_nil_of_length_eq_zero (by omega); unfold Region.ready; rw [List.filter_eq_nil_iff] at h0 ⊢; intro i hi; have := h0 i hi; simp only [Bool.not_eq_true] at this ⊢; rw [this, Bool.false_and]
   exact ⟨hr, hfin listed a w hsz hst hS hsp hr⟩
 | succ fuel ih =>
   intro listed a w hsz hc hst hS hsp hun0 hcl; refine ⟨hfin listed a w hsz hst hS hsp, fun i hi => ?_⟩; unfold Region.ready at hi; rw [List.mem_filter, List.mem_range] at hi; obtain ⟨hilt, hi2⟩ := hi; rw [Array.getElem?_eq_getElem hilt] at hi2; simp only [Bool.and_eq_true, Option.map_some, Option.getD_some, Array.all_eq_true_iff_forall_mem] at hi2; obtain ⟨hun, hdeps⟩ := hi2; have hdi : dstOf ops i = (ops[i]).dst := by unfold dstOf; rw [Array.getElem?_eq_getElem hilt]; rfl
   have hthis := each.at_ i ops[i] (by simp [hilt]); rw [Nat.zero_add] at hthis
   have hni : listed.getD i false = false := by
    have hl : listed.getD i true = false := by simpa using hun
    rw [Array.getD_eq_getD_getElem?, Array.getElem?_eq_getElem (by omega)] at hl ⊢; simpa using hl
   have hold : ∀ t, (laterOf ops i).contains t = true → a.tmps.getD t undef = a0.tmps.getD t undef := fun t ht => by
    unfold laterOf at ht; obtain ⟨o, ho, hot⟩ := List.mem_filterMap.1 (List.contains_iff_mem.1 ht); rw [List.mem_filter] at ho; obtain ⟨j, hj, hje⟩ := List.mem_iff_getElem.1 ho.1; have hj' : j < ops.size := by simpa using hj
    have hjo : ops[j]? = some o := by rw [Array.getElem?_eq_getElem hj', ← hje]; simp
    have hdj : dstOf ops j = some t := by unfold dstOf; rw [hjo]; exact hot
    refine hun0 j t hj' ?_ hdj; rw [Bool.eq_false_iff]; intro hlj; obtain ⟨e, he, h2⟩ := Array.any_eq_true'.1 ho.2; simp only [Bool.and_eq_true, beq_iff_eq] at h2; have := hcl j o hlj hjo e he h2.1; rw [h2.2, hni] at this; cases this
   have hclB : ∀ k q, (fun j => listed.getD j false) k = true → depB ops k q = true → (fun j => listed.getD j false) q = true := fun k q hk hq => by
    unfold depB at hq
    cases hko : ops[k]? with
    | none => rw [hko] at hq; cases hq
    | some o =>
      rw [hko] at hq; obtain ⟨e, he, h3⟩ := Array.any_eq_true'.1 hq; simp only [Bool.and_eq_true, beq_iff_eq] at h3; have h4 := hcl k o hk hko e he h3.1; rw [h3.2] at h4; exact h4
   have hor := hthis _ a w hni ⟨hst, hold⟩ hS (fun t ht => by
    unfold waitsFor at ht; obtain ⟨e, he, het⟩ := List.mem_filterMap.1 (List.contains_iff_mem.1 ht); rw [List.mem_filter] at he; have := hdeps e (by simpa using he.1); rw [he.2] at this
    exact hsp e.on t (by simpa using this) het) (fun f j hj => needB_done (L := fun j => listed.getD j false) (fun k q hk hq => by
     unfold depB at hq
     cases hko : ops[k]? with
     | none => rw [hko] at hq; cases hq
     | some o =>
       rw [hko] at hq; obtain ⟨e, he, h3⟩ := Array.any_eq_true'.1 hq; simp only [Bool.and_eq_true, beq_iff_eq] at h3; have h4 := hcl k o hk hko e he h3.1; rw [h3.2] at h4
       exact h4) f i j (fun k hk => by
     unfold depB at hk; rw [Array.getElem?_eq_getElem hilt] at hk; obtain ⟨e, he, h3⟩ := Array.any_eq_true'.1 hk; simp only [Bool.and_eq_true, beq_iff_eq] at h3; have h4 := hdeps e he; rw [h3.1, h3.2] at h4
     simpa using h4) hj) (fun f k hk => by
     cases hlk : listed.getD k false with
     | false => rfl
     | true =>
       have h6 : listed.getD i false = true := needB_done (L := fun j => listed.getD j false) hclB f k i (fun q hq => hclB k q hlk hq) hk; rw [hni] at h6
       cases h6)
   suffices key : ∀ a' w', Went6 S Sp (fun j => listed.getD j false) i a (ops[i]).dst w a' w' → wpAny P .any ops Q fuel (listed.setIfInBounds i true) a' w' by
    unfold wpOp; simp only [Array.getElem?_eq_getElem hilt]; rcases hor with ⟨hw, hwp⟩ | ⟨hw, hS', hk', hsp'⟩
    · simp only [wants hw, if_true]; exact .inl (Oper.wp_mono (fun a' w' h => key a' w' h) hwp)
    · rw [wants_no hw]; simp only [Bool.false_eq_true, if_false]; exact key _ _ ⟨undef, rfl, hS', hk', hsp'⟩
   rintro a' w' ⟨v, rfl, hS', hb, hsp'⟩
   have hval : ∀ d, (ops[i]).dst = some d → ((a.put (ops[i]).dst v).tmps.getD d undef) = v := fun d hd => by
    rw [hd]; simp only [Act.put]; rw [Array.getD_eq_getD_getElem?, Array.getElem?_setIfInBounds_self_of_lt (by rw [hst.size]; exact hdst' ops[i] (by simp) d hd)]; rfl
   have hoth : ∀ t, (ops[i]).dst ≠ some t → (a.put (ops[i]).dst v).tmps.getD t undef = a.tmps.getD t undef := fun t ht => by
    cases hd : (ops[i]).dst with
    | none => rfl
    | some d =>
      simp only [Act.put]; rw [Array.getD_eq_getD_getElem?, Array.getD_eq_getD_getElem?, Array.getElem?_setIfInBounds_ne (fun h => ht (by rw [hd, h]))]
   have hput : (a.put (ops[i]).dst v).tmps.size = a0.tmps.size ∧ (a.put (ops[i]).dst v).defers = a0.defers := by
    cases (ops[i]).dst <;> simp [Act.put, hst.size, hst.defers]
   have hset : ∀ j, j ≠ i → (listed.setIfInBounds i true).getD j false = listed.getD j false := fun j hji => by
    rw [Array.getD_eq_getD_getElem?, Array.getElem?_setIfInBounds_ne (fun h => hji h.symm), ← Array.getD_eq_getD_getElem?]
   have hseti : (listed.setIfInBounds i true).getD i false = true := by
    rw [Array.getD_eq_getD_getElem?, Array.getElem?_setIfInBounds_self_of_lt (by omega)]; rfl
   refine ih _ _ _ (by simp [hsz]) ?_ ⟨hput.1, hput.2, fun t ht => ?_⟩ (by rw [doneB_ext (L := fun j => listed.getD j false) (i := i) (M := fun j => (listed.setIfInBounds i true).getD j false) hseti hset]; exact hS') (fun j dj hj hdj => ?_) (fun j dj hj hlj hdj => ?_) (fun j o hlj hjo e he hb2 => ?_)
   · have hl : listed.getD i true = false := by simpa using hun
     have := filter_lt (l := List.range ops.size) (p := fun j => !listed.getD j true) (q := fun j => !(listed.setIfInBounds i true).getD j true) (fun x hx => by
      by_cases hxi : i = x
      · subst hxi; rw [Array.getD_eq_getD_getElem?, Array.getElem?_setIfInBounds_self_of_lt (by omega)] at hx; simp at hx
      · rw [Array.getD_eq_getD_getElem?, Array.getElem?_setIfInBounds_ne hxi, ← Array.getD_eq_getD_getElem?] at hx
        exact hx) (i := i) (List.mem_range.2 hilt) (by simp [hl]) (by
        rw [Array.getD_eq_getD_getElem?, Array.getElem?_setIfInBounds_self_of_lt (by omega)]; simp)
     omega
   · rw [hoth t, hst.out t ht]; intro e; have : (dstsOf ops).contains t = true := List.contains_iff_mem.2 (List.mem_filterMap.2 ⟨ops[i], by simp, e⟩); rw [this] at ht; cases ht
   · by_cases hji : j = i
     · subst hji; rw [hdi] at hdj; rw [hval dj hdj, doneB_ext (L := fun q => listed.getD q false) (i := j) (M := fun q => (listed.setIfInBounds j true).getD q false) hseti hset]; exact hsp' dj hdj
     · have hne : (ops[i]).dst ≠ some dj := fun e => hji (hinj j i dj hdj (hdi.trans e)); rw [hoth dj hne]; rw [Array.getD_eq_getD_getElem?, Array.getElem?_setIfInBounds_ne (fun h => hji h.symm), ← Array.getD_eq_getD_getElem?] at hj; rw [doneB_ext (L := fun j => listed.getD j false) (i := i) (M := fun j => (listed.setIfInBounds i true).getD j false) hseti hset]; exact (Sp dj).st i _ _ _ _ hni (hsp j dj hj hdj) hb
   · have hji : j ≠ i := fun h => by rw [h, hseti] at hlj; cases hlj
     rw [hset j hji] at hlj; rw [hoth dj (fun e => hji (hinj j i dj hdj (hdi.trans e)))]; exact hun0 j dj hj hlj hdj
   · have hon : listed.getD e.on false = true := by
      by_cases hji : j = i
      · subst hji; rw [Array.getElem?_eq_getElem hilt] at hjo; injection hjo with hjo; subst hjo; have := hdeps e he; rw [hb2] at this; simpa using this
      · rw [hset j hji] at hlj; exact hcl j o hlj hjo e he hb2
     by_cases hei : e.on = i
     · rw [hei]; exact hseti
     · rw [hset _ hei]; exact hon
theorem wp_region_specs8 {id : Nat} {a0 : Act} {w0 : World} (S : (Nat → Bool) → World → Prop) {Kp : Nat → World → World → Prop} (Sp : List (Nat × Stl Kp)) (hm : P.follows .mixedOrders = true) (hok : regOk5 ops a0.tmps.size = true) (hS : S (fun _ => false) w0.drew)
 (each : EachOp (OkOp8 P ops Q S (Stl.find Sp) a0) 0 ops.toList)
 (fin : ∀ L a w, (∀ j, Nat.blt j ops.size = true → L j = true) → Stand ops a0 a → S L w → (∀ t, (_ : (dstsOf ops).contains t = true := by kernel_rfl) → (Stl.find Sp t).p L (a.tmps.getD t undef) w) → Q .normal a w) :
 (Code.region id ops true).wp P Q a0 w0 :=
 wp_region_any hm (wpAny_specs8 S (Stl.find Sp) a0 hok each (fun L a w hL => fin L a w fun j hj => hL j (Nat.le_of_ble_eq_true hj)) _ _ _ _ (by simp) (by
  refine Nat.le_trans (List.length_filter_le _ _) (by simp)) ⟨rfl, rfl, fun _ _ => rfl⟩ (by rw [show (fun j => (Array.replicate ops.size false).getD j false) = fun _ => false from by funext j; rw [Array.getD_eq_getD_getElem?, Array.getElem?_replicate]; split <;> rfl]; exact hS) (fun i d h => by
  exfalso; rw [Array.getD_eq_getD_getElem?, Array.getElem?_replicate] at h
  split at h <;> simp at h) (fun _ _ _ _ _ => rfl) (fun j o h => by
  exfalso; rw [Array.getD_eq_getD_getElem?, Array.getElem?_replicate] at h
  split at h <;> simp at h))
theorem wp_region_specs8q {id : Nat} {a0 : Act} {w0 : World} (S : (Nat → Bool) → World → Prop) {Kp : Nat → World → World → Prop} (Sp : List (Nat × Stl Kp)) (hm : P.follows .mixedOrders = true) (hok : regOk5 ops a0.tmps.size = true) (hS : S (fun _ => false) w0.drew)
 (each : ∀ Q' : Exit → Act → World → Prop, EachOp (OkOp8 P ops Q' S (Stl.find Sp) a0) 0 ops.toList)
 (fin : ∀ L a w, (∀ j, Nat.blt j ops.size = true → L j = true) → Stand ops a0 a → S L w → (∀ t, (_ : (dstsOf ops).contains t = true := by kernel_rfl) → (Stl.find Sp t).p L (a.tmps.getD t undef) w) → Q .normal a w) :
 (Code.region id ops true).wp P Q a0 w0 := wp_region_specs8 S Sp hm hok hS (each Q) fin
end
end
end Go.Proofs.YtdhnpmagapbmhaaGreatDoor
