/-
  Contracts and plain functions that the law stands on, part 16 of 24.
-/
import Derived.Test.YtdhnpmagapbmhaaGreatDoorQD15
import Derived.Deep.AppendSrc
import Derived.Maps.OwnSet
namespace Go.Proofs.YtdhnpmagapbmhaaGreatDoor
/- Layer 15: where a law's walk stands: two things, blocks that lie so, rows of pointers, of entries and of texts, all of them kept. -/
section
open Go.RowKit
set_option maxRecDepth 100000
structure St15 (w0 : World) (X Y : Thing) (ps : List (Nat × (Nat → Nat))) (l : List (Nat × Obj)) (rs : List (Option Addr × Nat × List Lg)) (xs : List (Option Addr × Nat × List ByteArray)) (w : World) : Prop where
 ex : ∃ N, Duo w0 X Y N w ∧ At15 l N w ∧ (∀ q ∈ ps, P3 w (some ⟨q.1, 0, none⟩) q.2 ∧ N q.1) ∧ (∀ r ∈ rs, LR w r.1 r.2.1 r.2.2 ∧ ∀ ad, r.1 = some ad → N ad.block) ∧ ∀ r ∈ xs, XR w r.1 r.2.1 r.2.2 ∧ ∀ ad, r.1 = some ad → N ad.block
section
variable {w0 w w' : World} {X X' Y Y' : Thing} {ps : List (Nat × (Nat → Nat))} {l : List (Nat × Obj)} {rs : List (Option Addr × Nat × List Lg)} {xs : List (Option Addr × Nat × List ByteArray)} {P : Program} {f : FuncId} {args : Array Value}
theorem St15.low (h : St15 w0 X Y ps l rs xs w) : Below w0.heap.size w0 w := by
 obtain ⟨N, h1, _⟩ := h; exact h1.low
theorem St15.less {ps' : List (Nat × (Nat → Nat))} {l' : List (Nat × Obj)} {rs' : List (Option Addr × Nat × List Lg)} {xs' : List (Option Addr × Nat × List ByteArray)} (h : St15 w0 X Y ps l rs xs w) (h1 : ∀ q ∈ ps', q ∈ ps) (h2 : ∀ q ∈ l', q ∈ l) (h3 : ∀ q ∈ rs', q ∈ rs) (h4 : ∀ q ∈ xs', q ∈ xs) : St15 w0 X Y ps' l' rs' xs' w := by
 obtain ⟨N, a, b, c, d, e⟩ := h; exact ⟨N, a, fun q hq => b q (h2 q hq), fun q hq => c q (h1 q hq), fun q hq => d q (h3 q hq), fun q hq => e q (h4 q hq)⟩
theorem St15.swap (h : St15 w0 X Y ps l rs xs w) : St15 w0 Y X ps l rs xs w := by
 obtain ⟨N, a, b⟩ := h; exact ⟨N, a.swap, b⟩
theorem St15.make (h : Duo w0 X Y noneB w) : St15 w0 X Y [] [] [] [] w := ⟨noneB, h, (fun _ h => nomatch h), (fun _ h => nomatch h), (fun _ h => nomatch h), fun _ h => nomatch h⟩
theorem St15.at_ (h : St15 w0 X Y ps l rs xs w) {q : Nat × Obj} (hq : q ∈ l) : w.heap[q.1]? = some q.2 := by
 obtain ⟨N, _, b, _⟩ := h; exact (b q hq).2
theorem St15.lr (h : St15 w0 X Y ps l rs xs w) {r : Option Addr × Nat × List Lg} (hr : r ∈ rs) : LR w r.1 r.2.1 r.2.2 := by
 obtain ⟨N, _, _, _, d, _⟩ := h; exact (d r hr).1
theorem St15.xr (h : St15 w0 X Y ps l rs xs w) {r : Option Addr × Nat × List ByteArray} (hr : r ∈ xs) : XR w r.1 r.2.1 r.2.2 := by
 obtain ⟨N, _, _, _, _, e⟩ := h; exact (e r hr).1
theorem St15.keep {N N' : Nat → Prop} (_ : Duo w0 X' Y' N' w') (b : At15 l N w) (c : ∀ q ∈ ps, P3 w (some ⟨q.1, 0, none⟩) q.2 ∧ N q.1) (d : ∀ r ∈ rs, LR w r.1 r.2.1 r.2.2 ∧ ∀ ad, r.1 = some ad → N ad.block) (e : ∀ r ∈ xs, XR w r.1 r.2.1 r.2.2 ∧ ∀ ad, r.1 = some ad → N ad.block)
 (hk : ∀ k, N k → N' k ∧ w'.heap[k]? = w.heap[k]?) (hz : w.heap.size ≤ w'.heap.size) : At15 l N' w' ∧ (∀ q ∈ ps, P3 w' (some ⟨q.1, 0, none⟩) q.2 ∧ N' q.1) ∧ (∀ r ∈ rs, LR w' r.1 r.2.1 r.2.2 ∧ ∀ ad, r.1 = some ad → N' ad.block) ∧ ∀ r ∈ xs, XR w' r.1 r.2.1 r.2.2 ∧ ∀ ad, r.1 = some ad → N' ad.block :=
 ⟨(b.kept fun k h => (hk k h).2).wide fun k h => (hk k h).1, fun q hq => ⟨(c q hq).1.kept hz (hk _ (c q hq).2).2, (hk _ (c q hq).2).1⟩, fun r hr => ⟨(d r hr).1.off hz fun ad h => (hk _ ((d r hr).2 ad h)).2, fun ad h => (hk _ ((d r hr).2 ad h)).1⟩, fun r hr => ⟨(e r hr).1.off hz fun ad h => (hk _ ((e r hr).2 ad h)).2, fun ad h => (hk _ ((e r hr).2 ad h)).1⟩⟩
theorem St15.next (h : St15 w0 X Y ps l rs xs w) (hb : Below w.heap.size w w') : St15 w0 X Y ps l rs xs w' := by
 obtain ⟨N, a, b, c, d, e⟩ := h; exact ⟨N, a.next hb, St15.keep (a.next hb) b c d e (fun k hk => ⟨hk, hb.block k (a.nlt k hk)⟩) hb.size⟩
theorem St15.mark (h : St15 w0 X Y ps l rs xs w) (o : Obj) {t : Nat} (ho : w.alloc o = w') (ht : w.heap.size = t) : St15 w0 X Y ps ((t, o) :: l) rs xs w' := by
 obtain ⟨N, a, b, c, d, e⟩ := h; subst ho ht; have k := kp_new w o; obtain ⟨b', c', d', e'⟩ := St15.keep (a.mark o) b c d e (fun i hi => ⟨.inr hi, k.block i (a.nlt i hi)⟩) k.size; exact ⟨_, a.mark o, fun p hp => (List.mem_cons.1 hp).elim (fun e => by subst e; exact ⟨.inl rfl, heap_alloc_new w o⟩) (b' p), c', d', e'⟩
theorem St15.poke {t : Nat} {o o' : Obj} (h : St15 w0 X Y ps ((t, o) :: l) rs xs w) (ht : w0.heap.size ≤ t) (ho : Off (fun k => k = t) w w') (hn : w'.heap[t]? = some o') (hl : ∀ q ∈ l, q.1 ≠ t) (hps : ∀ q ∈ ps, q.1 ≠ t) (hrs : ∀ r ∈ rs, ∀ ad, r.1 = some ad → ad.block ≠ t) (hxs : ∀ r ∈ xs, ∀ ad, r.1 = some ad → ad.block ≠ t) : St15 w0 X Y ps ((t, o') :: l) rs xs w' := by
 obtain ⟨N, a, b, c, d, e⟩ := h; have a' := a.poke ho fun k hk => by subst hk; exact ⟨(b _ (.head _)).1, ht⟩
 have key : ∀ k, N k → k ≠ t → w'.heap[k]? = w.heap[k]? := fun k hk hne => ho.block k (a.nlt k hk) hne; refine ⟨N, a', fun p hp => (List.mem_cons.1 hp).elim (fun e => by subst e; exact ⟨(b _ (.head _)).1, hn⟩) fun hp => ⟨(b p (.tail _ hp)).1, (key _ (b p (.tail _ hp)).1 (hl p hp)).trans (b p (.tail _ hp)).2⟩, fun q hq => ⟨(c q hq).1.kept ho.size (key _ (c q hq).2 (hps q hq)), (c q hq).2⟩, fun r hr => ⟨(d r hr).1.off ho.size fun ad h => key _ ((d r hr).2 ad h) (hrs r hr ad h), (d r hr).2⟩, fun r hr => ⟨(e r hr).1.off ho.size fun ad h => key _ ((e r hr).2 ad h) (hxs r hr ad h), (e r hr).2⟩⟩
theorem St15.left {Q : Ending → World → Prop} (h : St15 w0 X Y ps l rs xs w) (hop : ∀ S, X.p S w → Calls P f args w fun e w' => Q e w' ∧ Turn X' S w w') : Calls P f args w fun e w' => Q e w' ∧ St15 w0 X' Y ps l rs xs w' := by
 obtain ⟨N, a, b, c, d, e⟩ := h; refine (a.left (X' := X') (Q := fun e w' => Q e w' ∧ w.heap.size ≤ w'.heap.size) fun S hS => (hop S hS).mono fun _ _ ⟨hq, ht⟩ => ⟨⟨hq, ht.off.size⟩, ht⟩).mono ?_; rintro _ _ ⟨⟨hq, hz⟩, hd, hk⟩; exact ⟨hq, N, hd, St15.keep hd b c d e (fun k h => ⟨h, hk k h⟩) hz⟩
theorem St15.right {Q : Ending → World → Prop} (h : St15 w0 X Y ps l rs xs w) (hop : ∀ S, Y.p S w → Calls P f args w fun e w' => Q e w' ∧ Turn Y' S w w') : Calls P f args w fun e w' => Q e w' ∧ St15 w0 X Y' ps l rs xs w' :=
 (h.swap.left hop).mono fun _ _ ⟨h1, h2⟩ => ⟨h1, h2.swap⟩
theorem St15.asks {Q : Ending → World → Prop} (h : St15 w0 X Y ps l rs xs w) (hop : ∀ S, X.p S w → Calls P f args w fun e w' => Q e w' ∧ Below w.heap.size w w') : Calls P f args w fun e w' => Q e w' ∧ St15 w0 X Y ps l rs xs w' := by
 obtain ⟨N, ⟨⟨S, T, h1, _⟩, _⟩, _⟩ := id h; exact (hop S h1).mono fun _ _ ⟨hq, hb⟩ => ⟨hq, h.next hb⟩
theorem St15.toldL {Q : Ending → Option Addr → Nat → Nat → Prop} {lg : List Lg} (h : St15 w0 X Y ps l rs xs w) (hop : ∀ S, X.p S w → Calls P f args w fun e w' => ∃ A m d, (Q e A m d ∧ LR w' A m lg) ∧ Told1 X' S A w w') :
 Calls P f args w fun e w' => ∃ A m d, Q e A m d ∧ St15 w0 X' Y ps l ((A, m, lg) :: rs) xs w' := by
 obtain ⟨N, a, b, c, d, e⟩ := h; refine (a.told15 b (X' := X') (Q := fun e w' A m d => Q e A m d ∧ LR w' A m lg) hop).mono ?_; rintro _ w' ⟨A, m, dd, N', ⟨hq, hl⟩, hd, hat, hA, hk, hz⟩; obtain ⟨b', c', d', e'⟩ := St15.keep hd b c d e hk hz; exact ⟨A, m, dd, hq, N', hd, b', c', fun r hr => (List.mem_cons.1 hr).elim (fun e => by subst e; exact ⟨hl, hA⟩) (d' r), e'⟩
theorem St15.toldX {Q : Ending → Option Addr → Nat → Nat → Prop} {ss : List ByteArray} (h : St15 w0 X Y ps l rs xs w) (hop : ∀ S, X.p S w → Calls P f args w fun e w' => ∃ A m d, (Q e A m d ∧ XR w' A m ss) ∧ Told1 X' S A w w') :
 Calls P f args w fun e w' => ∃ A m d, Q e A m d ∧ St15 w0 X' Y ps l rs ((A, m, ss) :: xs) w' := by
 obtain ⟨N, a, b, c, d, e⟩ := h; refine (a.told15 b (X' := X') (Q := fun e w' A m d => Q e A m d ∧ XR w' A m ss) hop).mono ?_; rintro _ w' ⟨A, m, dd, N', ⟨hq, hl⟩, hd, hat, hA, hk, hz⟩; obtain ⟨b', c', d', e'⟩ := St15.keep hd b c d e hk hz; exact ⟨A, m, dd, hq, N', hd, b', c', d', fun r hr => (List.mem_cons.1 hr).elim (fun e => by subst e; exact ⟨hl, hA⟩) (e' r)⟩
end
section
variable {X : Nat → Nd → Thing} {w0 w : World} {Y : Thing} {bs : Nat → Nat} {ns : Nat → Nd} {ps : List (Nat × (Nat → Nat))} {l : List (Nat × Obj)} {rs : List (Option Addr × Nat × List Lg)} {xs : List (Option Addr × Nat × List ByteArray)}
end
end

/- A region that draws its order, gone through once an operation: as XReg6, but the state S sees what the slots hold (rows that a call told, and the world that has them, in one). -/
section
open Go.RowKit
def slotsOf (a : Act) : Nat → Value := fun t => a.tmps.getD t undef
theorem slots_ne {a : Act} {d t : Nat} {v : Value} (h : Nat.beq d t = false) : slotsOf { tmps := a.tmps.setIfInBounds d v, defers := a.defers } t = slotsOf a t := by
 have hne : d ≠ t := fun e => by subst e; rw [Nat.beq_refl] at h; cases h
 unfold slotsOf; rw [Array.getD_eq_getD_getElem?, Array.getD_eq_getD_getElem?, Array.getElem?_setIfInBounds_ne hne]
theorem slots_eq {a : Act} {d : Nat} {v : Value} (h : d < a.tmps.size) : slotsOf { tmps := a.tmps.setIfInBounds d v, defers := a.defers } d = v := by
 unfold slotsOf; rw [Array.getD_eq_getD_getElem?, Array.getElem?_setIfInBounds_self_of_lt h]; rfl
section
variable {P : Program} {ops : Array Oper} {Q : Exit → Act → World → Prop}
def Went7 (S : (Nat → Bool) → (Nat → Value) → World → Prop) {Kp : Nat → World → World → Prop} (Sp : Nat → Stl Kp) (L : Nat → Bool) (i : Nat) (a : Act) (d : Option Tmp) (w : World) (a' : Act) (w' : World) : Prop :=
 ∃ v, a' = a.put d v ∧ S (doneB L i) (slotsOf a') w' ∧ Kp i w w' ∧ ∀ t, d = some t → (Sp t).p (doneB L i) v w'
theorem Went7.same {S : (Nat → Bool) → (Nat → Value) → World → Prop} {Kp : Nat → World → World → Prop} {Sp : Nat → Stl Kp} {L : Nat → Bool} {i : Nat} {a : Act} {t : Nat} {w : World} {v : Value} (hr : Kp i w w) (hS : S (doneB L i) (slotsOf { tmps := a.tmps.setIfInBounds t v, defers := a.defers }) w) (h : (Sp t).p (doneB L i) v w)  : Went7 S Sp L i a (some t) w { tmps := a.tmps.setIfInBounds t v, defers := a.defers } w :=
 ⟨v, rfl, hS, hr, fun _ e => by injection e with e; subst e; exact h⟩
theorem Went7.next {S : (Nat → Bool) → (Nat → Value) → World → Prop} {Kp : Nat → World → World → Prop} {Sp : Nat → Stl Kp} {L : Nat → Bool} {i : Nat} {a : Act} {t : Nat} {w w' : World} {v : Value} (hS : S (doneB L i) (slotsOf { tmps := a.tmps.setIfInBounds t v, defers := a.defers }) w') (hb : Kp i w w') (h : (Sp t).p (doneB L i) v w')  : Went7 S Sp L i a (some t) w { tmps := a.tmps.setIfInBounds t v, defers := a.defers } w' :=
 ⟨v, rfl, hS, hb, fun _ e => by injection e with e; subst e; exact h⟩
end
section
variable {P : Program} {ops : Array Oper} {Q : Exit → Act → World → Prop}
def OkOp7 (P : Program) (ops : Array Oper) (Q : Exit → Act → World → Prop) (S : (Nat → Bool) → (Nat → Value) → World → Prop) {Kp : Nat → World → World → Prop} (Sp : Nat → Stl Kp) (a0 : Act) (i : Nat) (o : Oper) : Prop :=
 ∀ L a w, L i = false → StandI ops i a0 a → S L (slotsOf a) w → (∀ t, (_ : (waitsFor ops o).contains t = true := by kernel_rfl) → (Sp t).p L (a.tmps.getD t undef) w) → (∀ f j, (_ : needB ops f i j = true := by kernel_rfl) → L j = true) → (∀ f k, (_ : needB ops f k i = true := by kernel_rfl) → L k = false) →
  (Wants ops a o ∧ o.wp P a w (Went7 S Sp L i a o.dst w) Q) ∨ (WantsNot ops a o ∧ S (doneB L i) (slotsOf (a.put o.dst undef)) w ∧ Kp i w w ∧ ∀ t, o.dst = some t → (Sp t).p (doneB L i) undef w)
theorem wpAny_specs7 (S : (Nat → Bool) → (Nat → Value) → World → Prop) {Kp : Nat → World → World → Prop} (Sp : Nat → Stl Kp) (a0 : Act) (hok : regOk5 ops a0.tmps.size = true)
 (each : EachOp (OkOp7 P ops Q S Sp a0) 0 ops.toList)
 (fin : ∀ L a w, (∀ j, j < ops.size → L j = true) → Stand ops a0 a → S L (slotsOf a) w → (∀ t, (dstsOf ops).contains t = true → (Sp t).p L (a.tmps.getD t undef) w) → Q .normal a w) :
 ∀ (fuel : Nat) (listed : Array Bool) (a : Act) (w : World), listed.size = ops.size → ((List.range ops.size).filter fun i => !listed.getD i true).length ≤ fuel →
  Stand ops a0 a → S (fun j => listed.getD j false) (slotsOf a) w → (∀ i d, listed.getD i false = true → dstOf ops i = some d → (Sp d).p (fun j => listed.getD j false) (a.tmps.getD d undef) w) →
  (∀ j d, j < ops.size → listed.getD j false = false → dstOf ops j = some d → a.tmps.getD d undef = a0.tmps.getD d undef) →
  (∀ j o, listed.getD j false = true → ops[j]? = some o → ∀ e ∈ o.after, Region.binds .any e = true → listed.getD e.on false = true) → wpAny P .any ops Q fuel listed a w := by
 simp only [regOk5, Bool.and_eq_true, List.all_eq_true, decide_eq_true_eq] at hok; obtain ⟨⟨hdst, hnd⟩, hlow⟩ := hok
 have hdst' : ∀ o ∈ ops.toList, ∀ d, o.dst = some d → d < a0.tmps.size := fun o ho d hd => by
  have := hdst o ho; rw [hd] at this; simpa using this
 have hinj : ∀ i j d, dstOf ops i = some d → dstOf ops j = some d → i = j := fun i j d hi hj => by
  unfold dstOf at hi hj; obtain ⟨x, hx, hxd⟩ := Option.bind_eq_some_iff.1 hi; obtain ⟨y, hy, hyd⟩ := Option.bind_eq_some_iff.1 hj; exact once_filterMap (l := ops.toList) (fun o : Oper => o.dst) hnd (by simpa using hx) (by simpa using hy) hxd hyd
 have hready0 : ∀ listed : Array Bool, listed.size = ops.size → Region.ready .any ops listed = [] → ∀ i, i < ops.size → listed.getD i false = true := by
  intro listed hsz hr i
  induction i using Nat.strongRecOn with
  | _ i ih =>
    intro hi
    cases hl : listed.getD i false with
    | true => rfl
    | false =>
      exfalso
      have hl2 : listed.getD i true = false := by
       rw [Array.getD_eq_getD_getElem?, Array.getElem?_eq_getElem (by omega)] at hl ⊢; simpa using hl
      have hm : i ∈ Region.ready .any ops listed := by
       unfold Region.ready; rw [List.mem_filter]; refine ⟨List.mem_range.2 hi, ?_⟩; rw [hl2, Array.getElem?_eq_getElem hi]; simp only [Bool.not_false, Bool.true_and, Option.map_some, Option.getD_some, Array.all_eq_true_iff_forall_mem]; intro e he; have h1 := hlow (ops[i], i) (by rw [List.mem_zipIdx_iff_getElem?]; simp [hi]); simp only [Array.all_eq_true_iff_forall_mem] at h1; have h2 := h1 e he
       cases hb : Region.binds .any e with
       | false => simp
       | true =>
         rw [hb] at h2; have h3 : e.on < i := by simpa using h2
         simp [ih e.on h3 (by omega)]
      rw [hr] at hm; cases hm
 have hfin : ∀ listed a w, listed.size = ops.size → Stand ops a0 a → S (fun j => listed.getD j false) (slotsOf a) w → (∀ i d, listed.getD i false = true → dstOf ops i = some d → (Sp d).p (fun j => listed.getD j false) (a.tmps.getD d undef) w) → Region.ready .any ops listed = [] → Q .normal a w := by
  intro listed a w hsz hst hS hsp hr; refine fin _ a w (hready0 listed hsz hr) hst hS fun t ht => ?_; obtain ⟨o, ho, he⟩ := List.mem_filterMap.1 (List.contains_iff_mem.1 ht); obtain ⟨i, hi, hio⟩ := List.mem_iff_getElem.1 ho; have hi' : i < ops.size := by simpa using hi
  have hd : dstOf ops i = some t := by
   unfold dstOf; rw [Array.getElem?_eq_getElem hi', show ops[i] = o by rw [← hio]; simp]; exact he
  exact hsp i t (hready0 listed hsz hr i hi') hd
 intro fuel
 induction fuel with
 | zero =>
   intro listed a w hsz hc hst hS hsp _ _
   have hr : Region.ready .any ops listed = [] := by
    have h0 : ((List.range ops.size).filter fun i => !listed.getD i true) = [] := List.eq_nil_of_length_eq_zero (by omega); unfold Region.ready; rw [List.filter_eq_nil_iff] at h0 ⊢; intro i hi; have := h0 i hi; simp only [Bool.not_eq_true] at this ⊢; rw [this, Bool.false_and]
   exact ⟨hr, hfin listed a w hsz hst hS hsp hr⟩
 | succ fuel ih =>
   intro listed a w hsz hc hst hS hsp hun0 hcl; refine ⟨hfin listed a w hsz hst hS hsp, fun i hi => ?_⟩; unfold Region.ready at hi; rw [List.mem_filter, List.mem_range] at hi; obtain ⟨hilt, hi2⟩ := hi; rw [Array.getElem?_eq_getElem hilt] at hi2; simp only [Bool.and_eq_true, Option.map_some, Option.getD_some, Array.all_eq_true_iff_forall_mem] at hi2; obtain ⟨hun, hdeps⟩ := hi2; have hdi : dstOf ops i = (ops[i]).dst := by unfold dstOf; rw [Array.getElem?_eq_getElem hilt]; rfl
   have hthis := each.at_ i ops[i] (by simp [hilt]); rw [Nat.zero_add] at hthis
   have hni : listed.getD i false = false := by
    have hl : listed.getD i true = false := by simpa using hun
    rw [Array.getD_eq_getD_getElem?, Array.getElem?_eq_getElem (by omega)] at hl ⊢; simpa using hl
   have hold : ∀ t, (laterOf ops i).contains t = true → a.tmps.getD t undef = a0.tmps.getD t undef := fun t ht => by
    unfold laterOf at ht; obtain ⟨o, ho, hot⟩ := List.mem_filterMap.1 (List.contains_iff_mem.1 ht); rw [List.mem_filter] at ho; obtain ⟨j, hj, hje⟩ := List.mem_iff_getElem.1 ho.1; have hj' : j < ops.size := by simpa using hj
    have hjo : ops[j]? = some o := by rw [Array.getElem?_eq_getElem hj', ← hje]; simp
    have hdj : dstOf ops j = some t := by unfold dstOf; rw [hjo]; exact hot
    refine hun0 j t hj' ?_ hdj; rw [Bool.eq_false_iff]; intro hlj; obtain ⟨e, he, h2⟩ := Array.any_eq_true'.1 ho.2; simp only [Bool.and_eq_true, beq_iff_eq] at h2; have := hcl j o hlj hjo e he h2.1; rw [h2.2, hni] at this; cases this
   have hclB : ∀ k q, (fun j => listed.getD j false) k = true → depB ops k q = true → (fun j => listed.getD j false) q = true := fun k q hk hq => by
    unfold depB at hq
    cases hko : ops[k]? with
    | none => rw [hko] at hq; cases hq
    | some o =>
      rw [hko] at hq; obtain ⟨e, he, h3⟩ := Array.any_eq_true'.1 hq; simp only [Bool.and_eq_true, beq_iff_eq] at h3; have h4 := hcl k o hk hko e he h3.1; rw [h3.2] at h4; exact h4
   have hor := hthis _ a w hni ⟨hst, hold⟩ hS (fun t ht => by
    unfold waitsFor at ht; obtain ⟨e, he, het⟩ := List.mem_filterMap.1 (List.contains_iff_mem.1 ht); rw [List.mem_filter] at he; have := hdeps e (by simpa using he.1); rw [he.2] at this
    exact hsp e.on t (by simpa using this) het) (fun f j hj => needB_done (L := fun j => listed.getD j false) (fun k q hk hq => by
     unfold depB at hq
     cases hko : ops[k]? with
     | none => rw [hko] at hq; cases hq
     | some o =>
       rw [hko] at hq; obtain ⟨e, he, h3⟩ := Array.any_eq_true'.1 hq; simp only [Bool.and_eq_true, beq_iff_eq] at h3; have h4 := hcl k o hk hko e he h3.1; rw [h3.2] at h4
       exact h4) f i j (fun k hk => by
     unfold depB at hk; rw [Array.getElem?_eq_getElem hilt] at hk; obtain ⟨e, he, h3⟩ := Array.any_eq_true'.1 hk; simp only [Bool.and_eq_true, beq_iff_eq] at h3; have h4 := hdeps e he; rw [h3.1, h3.2] at h4
     simpa using h4) hj) (fun f k hk => by
     cases hlk : listed.getD k false with
     | false => rfl
     | true =>
       have h6 : listed.getD i false = true := needB_done (L := fun j => listed.getD j false) hclB f k i (fun q hq => hclB k q hlk hq) hk; rw [hni] at h6
       cases h6)
   suffices key : ∀ a' w', Went7 S Sp (fun j => listed.getD j false) i a (ops[i]).dst w a' w' → wpAny P .any ops Q fuel (listed.setIfInBounds i true) a' w' by
    unfold wpOp; simp only [Array.getElem?_eq_getElem hilt]; rcases hor with ⟨hw, hwp⟩ | ⟨hw, hS', hk', hsp'⟩
    · simp only [wants hw, if_true]; exact .inl (Oper.wp_mono (fun a' w' h => key a' w' h) hwp)
    · rw [wants_not hw]; simp only [Bool.false_eq_true, if_false]; exact key _ _ ⟨undef, rfl, hS', hk', hsp'⟩
   rintro a' w' ⟨v, rfl, hS', hb, hsp'⟩
   have hval : ∀ d, (ops[i]).dst = some d → ((a.put (ops[i]).dst v).tmps.getD d undef) = v := fun d hd => by
    rw [hd]; simp only [Act.put]; rw [Array.getD_eq_getD_getElem?, Array.getElem?_setIfInBounds_self_of_lt (by rw [hst.size]; exact hdst' ops[i] (by simp) d hd)]; rfl
   have hoth : ∀ t, (ops[i]).dst ≠ some t → (a.put (ops[i]).dst v).tmps.getD t undef = a.tmps.getD t undef := fun t ht => by
    cases hd : (ops[i]).dst with
    | none => rfl
    | some d =>
      simp only [Act.put]; rw [Array.getD_eq_getD_getElem?, Array.getD_eq_getD_getElem?, Array.getElem?_setIfInBounds_ne (fun h => ht (by rw [hd, h]))]
   have hput : (a.put (ops[i]).dst v).tmps.size = a0.tmps.size ∧ (a.put (ops[i]).dst v).defers = a0.defers := by
    cases (ops[i]).dst <;> simp [Act.put, hst.size, hst.defers]
   have hset : ∀ j, j ≠ i → (listed.setIfInBounds i true).getD j false = listed.getD j false := fun j hji => by
    rw [Array.getD_eq_getD_getElem?, Array.getElem?_setIfInBounds_ne (fun h => hji h.symm), ← Array.getD_eq_getD_getElem?]
   have hseti : (listed.setIfInBounds i true).getD i false = true := by
    rw [Array.getD_eq_getD_getElem?, Array.getElem?_setIfInBounds_self_of_lt (by omega)]; rfl
   refine ih _ _ _ (by simp [hsz]) ?_ ⟨hput.1, hput.2, fun t ht => ?_⟩ (by rw [doneB_ext (L := fun j => listed.getD j false) (i := i) (M := fun j => (listed.setIfInBounds i true).getD j false) hseti hset]; exact hS') (fun j dj hj hdj => ?_) (fun j dj hj hlj hdj => ?_) (fun j o hlj hjo e he hb2 => ?_)
   · have hl : listed.getD i true = false := by simpa using hun
     have := filter_lt (l := List.range ops.size) (p := fun j => !listed.getD j true) (q := fun j => !(listed.setIfInBounds i true).getD j true) (fun x hx => by
      by_cases hxi : i = x
      · subst hxi; rw [Array.getD_eq_getD_getElem?, Array.getElem?_setIfInBounds_self_of_lt (by omega)] at hx; simp at hx
      · rw [Array.getD_eq_getD_getElem?, Array.getElem?_setIfInBounds_ne hxi, ← Array.getD_eq_getD_getElem?] at hx
        exact hx) (i := i) (List.mem_range.2 hilt) (by simp [hl]) (by
        rw [Array.getD_eq_getD_getElem?, Array.getElem?_setIfInBounds_self_of_lt (by omega)]; simp)
     omega
   · rw [hoth t, hst.out t ht]; intro e; have : (dstsOf ops).contains t = true := List.contains_iff_mem.2 (List.mem_filterMap.2 ⟨ops[i], by simp, e⟩); rw [this] at ht; cases ht
   · by_cases hji : j = i
     · subst hji; rw [hdi] at hdj; rw [hval dj hdj, doneB_ext (L := fun q => listed.getD q false) (i := j) (M := fun q => (listed.setIfInBounds j true).getD q false) hseti hset]; exact hsp' dj hdj
     · have hne : (ops[i]).dst ≠ some dj := fun e => hji (hinj j i dj hdj (hdi.trans e)); rw [hoth dj hne]; rw [Array.getD_eq_getD_getElem?, Array.getElem?_setIfInBounds_ne (fun h => hji h.symm), ← Array.getD_eq_getD_getElem?] at hj; rw [doneB_ext (L := fun j => listed.getD j false) (i := i) (M := fun j => (listed.setIfInBounds i true).getD j false) hseti hset]; exact (Sp dj).st i _ _ _ _ hni (hsp j dj hj hdj) hb
   · have hji : j ≠ i := fun h => by rw [h, hseti] at hlj; cases hlj
     rw [hset j hji] at hlj; rw [hoth dj (fun e => hji (hinj j i dj hdj (hdi.trans e)))]; exact hun0 j dj hj hlj hdj
   · have hon : listed.getD e.on false = true := by
      by_cases hji : j = i
      · subst hji; rw [Array.getElem?_eq_getElem hilt] at hjo; injection hjo with hjo; subst hjo; have := hdeps e he; rw [hb2] at this; simpa using this
      · rw [hset j hji] at hlj; exact hcl j o hlj hjo e he hb2
     by_cases hei : e.on = i
     · rw [hei]; exact hseti
     · rw [hset _ hei]; exact hon
theorem wp_region_specs7 {id : Nat} {a0 : Act} {w0 : World} (S : (Nat → Bool) → (Nat → Value) → World → Prop) {Kp : Nat → World → World → Prop} (Sp : List (Nat × Stl Kp)) (hm : P.follows .mixedOrders = true) (hok : regOk5 ops a0.tmps.size = true) (hS : S (fun _ => false) (slotsOf a0) w0.drew)
 (each : EachOp (OkOp7 P ops Q S (Stl.find Sp) a0) 0 ops.toList)
 (fin : ∀ L a w, (∀ j, Nat.blt j ops.size = true → L j = true) → Stand ops a0 a → S L (slotsOf a) w → (∀ t, (_ : (dstsOf ops).contains t = true := by kernel_rfl) → (Stl.find Sp t).p L (a.tmps.getD t undef) w) → Q .normal a w) :
 (Code.region id ops true).wp P Q a0 w0 :=
 wp_region_any hm (wpAny_specs7 S (Stl.find Sp) a0 hok each (fun L a w hL => fin L a w fun j hj => hL j (Nat.le_of_ble_eq_true hj)) _ _ _ _ (by simp) (by
  refine Nat.le_trans (List.length_filter_le _ _) (by simp)) ⟨rfl, rfl, fun _ _ => rfl⟩ (by rw [show (fun j => (Array.replicate ops.size false).getD j false) = fun _ => false from by funext j; rw [Array.getD_eq_getD_getElem?, Array.getElem?_replicate]; split <;> rfl]; exact hS) (fun i d h => by
  exfalso; rw [Array.getD_eq_getD_getElem?, Array.getElem?_replicate] at h
  split at h <;> simp at h) (fun _ _ _ _ _ => rfl) (fun j o h => by
  exfalso; rw [Array.getD_eq_getD_getElem?, Array.getElem?_replicate] at h
  split at h <;> simp at h))
end
end

/- Layer 15: what the laws' walks share: rows that a call made, a node copied from another, a node that leads; regions that draw their order around one call. -/
section
open Go.RowKit
set_option maxRecDepth 100000
theorem own_blk15 {w : World} {base n size c : Nat} {e : TypeId} {A : Option Addr} {xs : List Value} (h : w.ownsRow base e size (.slice A n c) n xs) : ∀ ad, A = some ad → base ≤ ad.block ∧ ad.block < w.heap.size := by
 rintro ad rfl; rcases h.2 with ⟨h1, _⟩ | ⟨g, cap, cur, h1, hb, hg, _⟩
 · cases h1
 · injection h1 with h1 _ _; injection h1 with h1; subst h1; exact ⟨hb, (Array.getElem?_eq_some_iff.1 hg).1⟩
section
variable {w0 w w' : World} {X Y : Thing} {ps : List (Nat × (Nat → Nat))} {l : List (Nat × Obj)} {rs : List (Option Addr × Nat × List Lg)} {xs : List (Option Addr × Nat × List ByteArray)}
theorem St15.row (h : St15 w0 X Y ps l rs xs w) (hb : Below w.heap.size w w') {A : Option Addr} {m : Nat} {lg : List Lg} (hl : LR w' A m lg) (hn : ∀ ad, A = some ad → w.heap.size ≤ ad.block ∧ ad.block < w'.heap.size) : St15 w0 X Y ps l ((A, m, lg) :: rs) xs w' := by
 obtain ⟨N, a, b, c, d, e⟩ := h; obtain ⟨⟨S, T, h1, h2, h3, h4⟩, h5, h6⟩ := id a; have hlt : ∀ k, S k ∨ T k → k < w.heap.size := fun k hk => hk.elim (X.lt h1 k) (Y.lt h2 k)
 have a' : Duo w0 X Y (fun k => (∃ ad, A = some ad ∧ k = ad.block) ∨ N k) w' := by
  obtain ⟨_, b1, b2⟩ := a.next hb; refine ⟨⟨S, T, Thing.next h1 hb, Thing.next h2 hb, h3, fun k hk => ⟨(h4 k hk).1, fun e => e.elim (fun ⟨ad, hA, e⟩ => ?_) (h4 k hk).2⟩⟩, b1, fun k hk => hk.elim (fun ⟨ad, hA, e⟩ => by rw [e]; exact (hn ad hA).2) (b2 k)⟩; have := hlt k hk; have := (hn ad hA).1; omega
 obtain ⟨b', c', d', e'⟩ := St15.keep a' b c d e (fun k hk => ⟨.inr hk, hb.block k (h6 k hk)⟩) hb.size; exact ⟨_, a', b', c', fun r hr => (List.mem_cons.1 hr).elim (fun e => by subst e; exact ⟨hl, fun ad h => .inl ⟨ad, h, rfl⟩⟩) (d' r), e'⟩
end
section
variable {X : Nat → Nd → Thing} {w0 w : World} {Y : Thing} {bs : Nat → Nat} {ns : Nat → Nd} {ps : List (Nat × (Nat → Nat))} {l : List (Nat × Obj)} {rs : List (Option Addr × Nat × List Lg)} {xs : List (Option Addr × Nat × List ByteArray)}
end
section
variable {a : Nat} {W u : World} {G : World → Prop} {L : Nat → Bool}
end
end

/- What plan.Reads answers lies in a new block: the contracts of XPlD, said again with that. -/
section
open Go.RowKit
set_option maxRecDepth 100000
set_option maxHeartbeats 2000000 in
theorem first6_new (A : Option Addr) (n c : Nat) (ts : List Kv) (w : World) (h : KR w A n ts) (hc : n ≤ c) (hn : n ≤ 700000) :
 Calls Tryz.prog 181 #[.slice A n c, .int .i64 10] w fun e w' => ∃ A' n' c', e = .returned (.slice A' n' c') ∧ XR w' A' n' (firstsF ts) ∧ (∀ ad, A' = some ad → w.heap.size ≤ ad.block ∧ ad.block < w'.heap.size) ∧ Below w.heap.size w w' := by
 obtain ⟨i0, hi, hz0, hz1, hz2⟩ := info_parts strinfo6
 obtain ⟨m, hm, hm10, hmn⟩ : ∃ m : Nat, ts.take m = ts.take 10 ∧ m ≤ 10 ∧ m ≤ n ∧ (m : Int) = (if (10 : Int) < (n : Int) then 10 else (n : Int)) := by
  by_cases h10 : 10 < n
  · exact ⟨10, rfl, Nat.le_refl _, by omega, by rw [if_pos (by omega)]; rfl⟩
  · exact ⟨n, by rw [List.take_of_length_le (by rw [h.len]; exact Nat.le_refl _), List.take_of_length_le (by rw [h.len]; omega)], by omega, Nat.le_refl _, by rw [if_neg (by omega)]⟩
 obtain ⟨hmn, hme⟩ := hmn
 have hrun : ∀ (u : World) (ts : Array TypeId) (ty : TypeId), (Builtin.min_ ts ty #[.int .i64 (n : Int), .int .i64 10]).run Tryz.prog u = .ok (.int .i64 (m : Int)) u := fun u ts ty => by
  rw [run_min_int2 (P := Tryz.prog) (w := u) ts ty .i64 .i64 (n : Int) 10, ← hme]
 have hF : firstsF ts = (ts.take m).flatMap fun p => [p.k, p.v] := by rw [hm]; rfl
 rw [hF]; obtain ⟨A0, s0, r0⟩ := h.cut0 hc Tryz.prog 225 Tryz.underlying225 kvsize (j := m) (m : Int) rfl hmn; clear hm hme h hF hmn; generalize ts.take m = us at *; have HR := hid r0; have HL := hid r0.len; clear r0; go_enter Tryz.func181, Tryz.ntmps181; go_wp2_with fail
 go_loopw [5, 15] (fun v i wr => ∃ (k z : Nat) (A' : Option Addr) (c' : Nat), k ≤ m ∧ Hid (z = 2 * k) ∧ i = .int .i64 k ∧ v = .slice A' z c' ∧ wr.ownsRow w.heap.size 9 1 (.slice A' z c') z (tvs ((us.take k).flatMap fun p => [p.k, p.v])) ∧ Below w.heap.size w wr) (fun _ i _ => m - (intOf i).toNat)
 case atStart => exact ⟨0, 0, none, 0, Nat.zero_le _, hid rfl, rfl, rfl, World.ownsRow_nil _ _ _ _, Below.refl _ _⟩
 case round =>
  obtain ⟨k, z, A1, c1, hk, hz, rfl, rfl, ho, k0⟩ := hrel; have hsz := k0.size; by_cases hlt : k < m
  · have hkl : k < us.length := by rw [HL.out]; exact hlt
    obtain ⟨ad, rfl, had, hcc⟩ := HR.out.at_ hkl; obtain ⟨x0, x1⟩ := hcc _ k0; have HN := hid (firsts_next us k hkl); clear hcc; generalize us[k].k = x at *; generalize us[k].v = y at *; have ho' : ((wr.alloc (.cells #[.string x, .string y] 250)).alloc (.cells #[.string x, .string y] 9)).ownsRow w.heap.size 9 1 (.slice A1 z c1) z (tvs ((us.take k).flatMap fun p => [p.k, p.v])) := (ho.alloc _).alloc _
    have HSRC : Hid (∀ B, Rd ((wr.alloc (.cells #[.string x, .string y] 250)).alloc (.cells #[.string x, .string y] 9)) (wr.heap.size + 1 + 1 + B) (some ⟨wr.heap.size + 1, 0, none⟩) [.string x, .string y]) := hid (fun B => by
     have := Rd.new (wr.alloc (.cells #[.string x, .string y] 250)) 9 [.string x, .string y]; rw [show (wr.alloc (.cells #[.string x, .string y] 250)).heap.size = wr.heap.size + 1 from by simp] at this
     exact this.more (by omega))
    have kk : Below w.heap.size w ((wr.alloc (.cells #[.string x, .string y] 250)).alloc (.cells #[.string x, .string y] 9)) := kp_alloc (kp_alloc k0 _) _; have hz20 : z ≤ 20 := by rw [hz.out]; omega
    have HO := hid ho'; clear ho ho'; go_wp2_with (at_builtin; refine wpList_append_rd rfl _ _ _ rfl w.heap.size 9 i0 _ 16 Tryz.underlying35 hi hz0 hz1 hz2 rfl _ z _ rfl HO.out _ _ _ _ [.string x, .string y] rfl rfl (HSRC.out 0) (by simp [Value.oneCell']) (by unfold maxLen; omega) (by omega) (by simp; omega) ?_; intro v3 w3 hown3 hg3; obtain ⟨A3, c3, rfl, _, _⟩ := own_form hown3); go_roundw
    case rel =>
     refine ⟨k + 1, z + 2, A3, c3, by omega, hid (by rw [hz.out]; omega), by go_num, rfl, ?_, kk.trans (below_own HO.out hg3 (by simp; omega))⟩; rw [HN.out, tvs_append]; exact hown3
    case measure => simp [intOf]; omega
  · obtain rfl : k = m := by omega
    rw [List.take_of_length_le (by rw [HL.out]; exact Nat.le_refl _)] at ho; go_wp2_with fail; go_ret; exact ⟨A1, z, c1, rfl, XR.of_own ho, own_blk15 ho, k0⟩
set_option maxHeartbeats 2000000 in
theorem reads_new (d : Int) (k v : ByteArray) (A : Option Addr) (n c : Nat) (ts : List Kv) (w : World) (h : KR w A n ts) (hc : n ≤ c) (hs : Srt ts) (hn : n ≤ 700000) :
 Calls Tryz.prog 156 #[.agg #[.int .i64 d, .string k, .string v], .slice A n c] w fun e w' => ∃ A' n' c', e = .returned (.slice A' n' c') ∧ XR w' A' n' (readsF d k ts) ∧ (∀ ad, A' = some ad → w.heap.size ≤ ad.block ∧ ad.block < w'.heap.size) ∧ Below w.heap.size w w' := by
 have kw := kp_new w (.cells #[.int .i64 d, .string k, .string v] 229); have HK := hid h; have hR : readsF d k ts = if d = 1 then (if thereF k ts then [(ts.getD (posF k ts) default).v] else []) else if d = 2 then firstsF ts else [] := rfl; by_cases h1 : d = 1
 · subst h1; rw [if_pos rfl] at hR; have HP := hid (place_ok A n c ts k _ (h.next kw) hs (by omega)); have hlt := fun h => (there_lt (k := k) (l := ts) h).1; generalize posF k ts = p at *; generalize thereF k ts = b at *; rw [hR]; clear hR
   cases b with
   | true =>
     have hpl := hlt rfl; obtain ⟨ad, rfl, had, hcc⟩ := h.at_ hpl; have hpn : (p : Int) < (n : Int) := by have := h.len; omega
     rw [if_pos rfl, show ts.getD p default = ts[p] from by rw [List.getD_eq_getElem?_getD, List.getElem?_eq_getElem hpl]; rfl]; have HC := hid hcc; clear hcc h hs hlt; generalize ts[p].k = x at *; generalize ts[p].v = y at *; go_enter Tryz.func156, Tryz.ntmps156; go_wp2_with fail; refine HP.out.mono ?_; rintro e w1 ⟨rfl, k1⟩; have K1 := kp_trans kw k1; obtain ⟨_, c1⟩ := HC.out _ K1; clear HP k1; go_wp2_with fail; go_ret; exact ⟨_, 1, 1, rfl, XR.new w1 9 [y], (fun ad h => by injection h with h; subst h; exact ⟨K1.size, by simp⟩), kp_alloc K1 _⟩
   | false =>
     rw [if_neg (by simp)]; clear hlt; go_enter Tryz.func156, Tryz.ntmps156; go_wp2_with fail; refine HP.out.mono ?_; rintro e w1 ⟨rfl, k1⟩; have K1 := kp_trans kw k1; clear HP k1; go_wp2_with fail; go_ret; exact ⟨none, 0, 0, rfl, XR.nil _, (fun _ h => nomatch h), K1⟩
 · rw [if_neg h1] at hR; have n1 : (d == 1) = false := by simpa using h1
   by_cases h2 : d = 2
   · subst h2; rw [hR, if_pos rfl]; clear hR h1 n1; go_enter Tryz.func156, Tryz.ntmps156; go_wp2_with fail; refine (first6_new A n c ts _ (HK.out.next kw) hc hn).mono ?_; rintro e w1 ⟨A1, n1, c1, rfl, hx, hb1, k1⟩; go_wp2_with fail; go_ret; exact ⟨A1, n1, c1, rfl, hx, (fun ad h => ⟨Nat.le_trans kw.size (hb1 ad h).1, (hb1 ad h).2⟩), kp_trans kw k1⟩
   · rw [hR, if_neg h2]; have n2 : (d == 2) = false := by simpa using h2
     clear hR h1 h2; go_enter Tryz.func156, Tryz.ntmps156; go_wp2_with fail; go_ret; exact ⟨none, 0, 0, rfl, XR.nil _, (fun _ h => nomatch h), kw⟩
end

/- An append of some elements of several cells that tells where the row lies: where it lay, or in a new block (no function of the program is named here). -/
section
open Go.RowKit
set_option maxRecDepth 100000
theorem run_append_many {P : Program} {w : World} (t ty e : TypeId) (i : TypeInfo) (z : Value) (size bytes : Nat) (ht : P.underlying t = some (.slice e)) (hi : P.info? e = some i) (hz : i.zero = some z)
 (hsize : i.size = size) (hby : i.bytes = bytes) (hzs : z.cells.size = size) (hsz : 0 < size) {A : Option Addr} {n c : Nat} {xs : List Value} (hown : w.ownsRow 0 e size (.slice A n c) n xs) (B : Nat) (A1 : Option Addr) (m c1 : Nat) (news : List Value) (hm : news.length = m * size)
 (hrd : Rd w B A1 news) (h1 : ∀ u ∈ news, u.oneCell' = true) (hn : n + m ≤ 10000) (hbytes : bytes ≤ 1000) :
 ∃ A' c' w', (Builtin.append_ #[t, t] ty #[.slice A n c, .slice A1 m c1]).run P w = .ok (.slice A' (n + m) c') w' ∧ w'.ownsRow 0 e size (.slice A' (n + m) c') (n + m) (xs ++ news) ∧ w.grownBy w' (Value.slice A n c).ownBlock ∧
  ((Value.slice A' (n + m) c').ownBlock = (Value.slice A n c).ownBlock ∨ ∃ g, (Value.slice A' (n + m) c').ownBlock = some g ∧ w.heap.size ≤ g) := by
 have hs : Src P i.size t (.slice A1 m c1) m news w := by
  rcases hrd with h | ⟨ad, rfl, _, hc⟩
  · subst h
    cases A1 with
    | none =>
      obtain rfl : m = 0 := by
       rcases Nat.eq_zero_or_pos m with h | h
       · exact h
       · have := Nat.mul_pos h hsz; simp only [List.length_nil] at hm; omega
      exact Src.ofNil w ht c1
    | some ad => exact Src.ofSlice w ht ad m c1 _ (by rw [hsize, hm]) (fun j u hu => by simp at hu) h1
  · exact Src.ofSlice w ht ad m c1 _ (by rw [hsize, hm]) hc h1
 have hb1 : (n + m) * bytes ≤ 140737488355328 := by
  have : (n + m) * bytes ≤ 10000 * 1000 := Nat.mul_le_mul hn hbytes; omega
 obtain ⟨v', w', hr, h2, h3⟩ := run_append_rds (P := P) (w := w) 0 t ty e i z size bytes ht hi hz hsize hby hzs hsz (.slice A n c) n xs hown B A1 m c1 news (by omega) hrd h1 (by unfold maxLen; omega) hb1 (Nat.zero_le _); obtain ⟨A', c', rfl, _, _⟩ := own_form_s h2; refine ⟨A', c', w', hr, h2, h3, ?_⟩; rcases hown.2 with ⟨h4, h5⟩ | ⟨g, cap, cur, h4, hbg, hg, hnc, hcm, hcs, htake⟩
 · injection h4 with e1 e2 e3; subst e1 e2 e3; obtain ⟨v2, w2, hr2, h22, _⟩ := run_append_rds (P := P) (w := w) w.heap.size t ty e i z size bytes ht hi hz hsize hby hzs hsz (.slice none 0 0) 0 xs ⟨hown.1, .inl ⟨rfl, rfl⟩⟩ B A1 m c1 news (by omega) hrd h1 (by unfold maxLen; omega) hb1 (Nat.le_refl _); rw [hr] at hr2; injection hr2 with e1 e2; subst e1
   cases hq : (Value.slice A' (0 + m) c').ownBlock with
   | none => exact .inl rfl
   | some g => exact .inr ⟨g, rfl, (h22.lt g hq).1⟩
 · injection h4 with e1 _ e3; subst e1 e3; by_cases hroom : n + m ≤ c
   · have hmul : (n + m) * size ≤ c * size := Nat.mul_le_mul_right _ hroom; rw [Nat.add_mul] at hmul
     have hr2 := run_append_room_src (P := P) w t t ty e i ht hi g 0 n c _ m news hs hroom (fun j hj => by
      have hj' : j < m * size := by rw [← hm]; exact hj
      rw [hsize, Nat.zero_add, cell_of_row _ _ (n * size + j) cur e (0, 0) hg, Array.getElem?_eq_getElem (by omega)]
      rfl) (fun j hj => frozen_of_row w g _ cur e hg)
     rw [hr] at hr2; injection hr2 with e1 _; injection e1 with e1 _ _; subst e1; exact .inl rfl
   · have hold : (Builtin.firstCells i.size n (.slice (some ⟨g, 0, none⟩) n c)).run P w.drew = .ok xs.toArray w.drew := run_firstCells_some _ _ _ _ _ _ _ (by rw [hown.1, hsize]) fun j u hu => hown.cells (g := g) rfl j u hu; have hr2 := run_append_grow_src (P := P) w t t ty e i z ht hi hz (some ⟨g, 0, none⟩) n c xs hold _ m news hs (by omega) (by omega) (growslice_fits (by omega) (by rw [hby]; exact hb1)); rw [hr] at hr2; injection hr2 with e1 _; injection e1 with e1 _ _; subst e1; exact .inr ⟨_, rfl, Nat.le_refl _⟩
end

/- The landed node as it lies: a block of five cells, its Classer, its log (a row that is written in place), a map of its transactions, each a row of its own. -/
section
open Go.RowKit Go.Maps Go.WideMaps
set_option maxRecDepth 100000
def slD (A : Option Addr) (n c : Nat) : DataW Unit := match A with
 | none => .agg [.lit (.int .i64 n), .lit (.int .i64 c)]
 | some a => .agg [.lit (.int .i64 n), .lit (.int .i64 c), .lit (.int .i64 a.block)]
def flat (A : Option Addr) : Prop := ∀ a, A = some a → a = ⟨a.block, 0, none⟩
def slR : Value → Option (DataW Unit × List MemPlace)
 | .slice none n c => some (slD none n c, [])
 | .slice (some ⟨g, 0, none⟩) n c => some (slD (some ⟨g, 0, none⟩) n c, [])
 | _ => none
theorem slR_mk {A : Option Addr} (h : flat A) (n c : Nat) : slR (.slice A n c) = some (slD A n c, []) := by
 cases A with
 | none => rfl
 | some a => rw [h a rfl]; rfl
theorem slR_inv {v : Value} {A : Option Addr} (hA : flat A) {n c : Nat} {ps : List MemPlace} (h : slR v = some (slD A n c, ps)) : v = .slice A n c := by
 unfold slR at h; split at h
 · cases A with
   | none =>
     simp only [slD, Option.some.injEq, Prod.mk.injEq, DataW.agg.injEq, List.cons.injEq, DataW.lit.injEq, Lit.int.injEq, true_and, and_true] at h; obtain ⟨⟨h1, h2⟩, _⟩ := h; rw [Int.ofNat.inj h1, Int.ofNat.inj h2]
   | some a => simp [slD] at h
 · cases A with
   | none => simp [slD] at h
   | some a =>
     simp only [slD, Option.some.injEq, Prod.mk.injEq, DataW.agg.injEq, List.cons.injEq, DataW.lit.injEq, Lit.int.injEq, true_and, and_true] at h; obtain ⟨⟨h1, h2, h3⟩, _⟩ := h; rw [hA a rfl, Int.ofNat.inj h1, Int.ofNat.inj h2, Int.ofNat.inj h3]
 · cases h
theorem iKey : Keyed Tryz.prog 3 := int_keyed Tryz.underlying3
theorem iKeyOf {c : Int} (hc : I64n c) : keyOf Tryz.prog 3 (.int .i64 c) = some (.int .i64 c) := keyOf_int_mk Tryz.underlying3 (by
 have e1 : IntKind.i64.min = -9223372036854775808 := rfl; have e2 : IntKind.i64.max = 9223372036854775807 := rfl; simp only [Lit.wf, Bool.and_eq_true, decide_eq_true_eq]
 exact ⟨by rw [e1]; exact hc.1, by rw [e2]; exact hc.2⟩)
theorem slZero (w : World) : (zeroValue 35).run Tryz.prog w = .ok (.slice none 0 0) w := by kernel_rfl
abbrev Wts := Int → Option (Option Addr × Nat × Nat)
def slV : Option (Option Addr × Nat × Nat) → Value
 | none => .slice none 0 0
 | some (A, m, d) => .slice A m d
def updW (W : Wts) (c : Int) (x : Option (Option Addr × Nat × Nat)) : Wts := fun k => if k = c then x else W k
structure MapW (w : World) (bm N : Nat) (W : Wts) : Prop where
 at_ : ∃ D : DataW Unit, w.ownsMap Tryz.prog 3 slR bm (Maps.size D) D ∧ Maps.size D ≤ N ∧ ∀ c, I64n c → match W c with
  | none => Maps.has D (.int .i64 c) = false
  | some (A, m, d) => flat A ∧ ∀ z, D.atKey (.int .i64 c) z = slD A m d
theorem ownsMap_tight {w : World} {b n : Nat} {D : DataW Unit} {k : TypeId} (h : w.ownsMap Tryz.prog k slR b n D) : w.ownsMap Tryz.prog k slR b (Maps.size D) D := by
 obtain ⟨es, clock, hb, F, hs, rfl⟩ := h; exact ⟨es, clock, hb, F, by simp [Maps.size, length_sorted], rfl⟩
section
variable {w w' : World} {bm N : Nat} {W : Wts}
theorem MapW.keep (h : MapW w bm N W) (hk : w'.heap[bm]? = w.heap[bm]?) : MapW w' bm N W := by
 obtain ⟨D, ⟨es, clock, hb, r⟩, h2⟩ := h; exact ⟨D, ⟨es, clock, hk.trans hb, r⟩, h2⟩
theorem MapW.made (w : World) : MapW (w.alloc (.map #[] 0)) w.heap.size 0 fun _ => none :=
 ⟨.map [], World.ownsMap_made _ _ _ _, Nat.le_refl _, fun _ _ => rfl⟩
theorem MapW.look (h : MapW w bm N W) {c : Int} (hc : I64n c) : (Instr.lookup 131 (.map (some bm)) (.int .i64 c) true).run Tryz.prog w = .ok (.tuple #[slV (W c), .bool (W c).isSome]) w := by
 obtain ⟨D, h1, _, h3⟩ := h; obtain ⟨v, ps, hrun, hv⟩ := World.ownsMap.look_ok h1 iKey Tryz.underlying131 (slZero w) (slR_mk (A := none) (fun _ e => nomatch e) 0 0) (iKeyOf hc); have h4 := h3 c hc; rw [hrun]
 cases hW : W c with
 | none =>
   rw [hW] at h4; have h4 : Maps.has D (.int .i64 c) = false := h4; rw [Maps.atKey_of_not_has h4] at hv; rw [h4, slR_inv (A := none) (fun _ e => nomatch e) hv]; rfl
 | some x =>
   obtain ⟨A, m, d⟩ := x; rw [hW] at h4; obtain ⟨h5, h6⟩ := h4; rw [h6] at hv; rw [Maps.has_true_of_atKey h6, slR_inv h5 hv]; rfl
theorem MapW.look1 (h : MapW w bm N W) {c : Int} (hc : I64n c) : (Instr.lookup 131 (.map (some bm)) (.int .i64 c) false).run Tryz.prog w = .ok (slV (W c)) w := by
 obtain ⟨D, h1, _, h3⟩ := h; obtain ⟨v, ps, hrun, hv⟩ := World.ownsMap.lookup h1 iKey Tryz.underlying131 (slZero w) (slR_mk (A := none) (fun _ e => nomatch e) 0 0) (iKeyOf hc); have h4 := h3 c hc; rw [hrun]
 cases hW : W c with
 | none =>
   rw [hW] at h4; have h4 : Maps.has D (.int .i64 c) = false := h4; rw [Maps.atKey_of_not_has h4] at hv; rw [slR_inv (A := none) (fun _ e => nomatch e) hv]; rfl
 | some x =>
   obtain ⟨A, m, d⟩ := x; rw [hW] at h4; obtain ⟨h5, h6⟩ := h4; rw [h6] at hv; rw [slR_inv h5 hv]; rfl
theorem has_of {D : DataW Unit} {c : Int} {x : Option (Option Addr × Nat × Nat)} (h : match x with
 | none => Maps.has D (.int .i64 c) = false
 | some (A, m, d) => flat A ∧ ∀ z, D.atKey (.int .i64 c) z = slD A m d) : Maps.has D (.int .i64 c) = x.isSome := by
 cases x with
 | none => exact h
 | some x => exact Maps.has_true_of_atKey h.2
theorem iLit (c : Int) : WideAt.IsKeyLit (.int .i64 c) := by simp [WideAt.IsKeyLit]
theorem iNe {c k : Int} (h : k ≠ c) : (Lit.int .i64 k) ≠ Lit.int .i64 c := fun e => h (by injection e)
theorem MapW.put (h : MapW w bm N W) (hn : N < 100000) {c : Int} (hc : I64n c) {A : Option Addr} (hA : flat A) (m d : Nat) :
 ∃ w', (Instr.mapUpdate 131 (.map (some bm)) (.int .i64 c) (.slice A m d)).run Tryz.prog w = .ok () w' ∧ MapW w' bm (if (W c).isSome = true then N else N + 1) (updW W c (some (A, m, d))) ∧ w.grownBy w' (some bm) := by
 obtain ⟨D, h1, h2, h3⟩ := h; obtain ⟨w', hrun, r1, r2⟩ := World.ownsMap.store h1 iKey Tryz.underlying131 (by unfold maxLen; omega) (iKeyOf hc) (slR_mk hA m d); refine ⟨w', hrun, ⟨D.put (.int .i64 c) (slD A m d), ownsMap_tight r1, ?_, fun k hk => ?_⟩, r2.grown⟩
 · rw [Maps.size_put (World.ownsMap.tidy h1 iKey), has_of (h3 c hc)]; split <;> omega
 · unfold updW; by_cases e : k = c
   · subst e; rw [if_pos rfl]; exact ⟨hA, fun z => Maps.atKey_put_same (World.ownsMap.isMap h1) (iLit _) _ _⟩
   · rw [if_neg e]; have h4 := h3 k hk
     cases hW : W k with
     | none =>
       rw [hW] at h4; exact (Maps.has_put_other (iNe e) _).trans h4
     | some x =>
       rw [hW] at h4; exact ⟨h4.1, fun z => (Maps.atKey_put_other (iNe e) _ _).trans (h4.2 z)⟩
theorem MapW.drop (h : MapW w bm N W) {c : Int} (hc : I64n c) :
 ∃ w', (∀ ty, (Builtin.delete_ #[131, 3] ty #[.map (some bm), .int .i64 c]).run Tryz.prog w = .ok (.tuple #[]) w') ∧ MapW w' bm (if (W c).isSome = true then N - 1 else N) (updW W c none) ∧ w.grownBy w' (some bm) := by
 obtain ⟨D, h1, h2, h3⟩ := h; obtain ⟨w', hrun, r1, r2⟩ := World.ownsMap.drop h1 iKey Tryz.underlying131 (iKeyOf hc) 0; refine ⟨w', fun _ => hrun, ⟨D.del (.int .i64 c), ownsMap_tight r1, ?_, fun k hk => ?_⟩, r2.grown⟩
 · have := Maps.size_del (k := .int .i64 c) (World.ownsMap.tidy h1 iKey); rw [has_of (h3 c hc)] at this; split <;> simp_all <;> omega
 · unfold updW; by_cases e : k = c
   · subst e; rw [if_pos rfl]; exact Maps.has_del_same
   · rw [if_neg e]; have h4 := h3 k hk
     cases hW : W k with
     | none =>
       rw [hW] at h4; exact (Maps.has_del_other (iNe e)).trans h4
     | some x =>
       rw [hW] at h4; exact ⟨h4.1, fun z => (Maps.atKey_del_other (iNe e) _).trans (h4.2 z)⟩
theorem MapW.clear (h : MapW w bm N W) :
 ∃ w', (∀ ty, (Builtin.clear_ #[131] ty #[.map (some bm)]).run Tryz.prog w = .ok (.tuple #[]) w') ∧ MapW w' bm 0 (fun _ => none) ∧ w.grownBy w' (some bm) := by
 obtain ⟨D, ⟨es, clock, hb, F, hs, rfl⟩, h2, h3⟩ := h; have r2 : w.mapTurned (ChangeMaps.setBlock w bm (.map #[] clock)) bm := ⟨es, clock, #[], clock, hb, rfl⟩; refine ⟨ChangeMaps.setBlock w bm (.map #[] clock), fun ty => ?_, ⟨.map [], ⟨#[], clock, ChangeMaps.heap_setBlock_same hb _, ⟨by simp, MapKept.stamped_empty clock, by simp⟩, Nat.le_refl _, rfl⟩, Nat.le_refl _, fun _ _ => rfl⟩, r2.grown⟩; simp [Builtin.clear_, run_underlying Tryz.underlying131, MapKept.run_getObj_map hb, MapKept.run_setObj_map _ hb, Result.andThen, ChangeMaps.setBlock]
end
end

/- The landed node as a thing: its blocks and what each of them is for; what is left when one part of it is changed. -/
section
open Go.RowKit Go.Maps Go.WideMaps
set_option maxRecDepth 100000
inductive Role where
 | top | cls | log | map
 | tx (c : Int)
structure TxR (w : World) (S : Nat → Prop) (col : Nat → Role) (c : Int) (A : Option Addr) (m d : Nat) (ts : List ByteArray) : Prop where
 own : w.ownsRow 0 9 1 (.slice A m d) m (tvs ts)
 at_ : ∀ g, (Value.slice A m d).ownBlock = some g → S g ∧ col g = .tx c
structure PNx (b : Nat) (n : Nd) (cb bm : Nat) (AL : Option Addr) (nl cl : Nat) (W : Wts) (col : Nat → Role) (S : Nat → Prop) (w : World) : Prop where
 top : w.heap[b]? = some (.cells #[.pointer (some ⟨cb, 0, none⟩), .int .u64 n.ep, .bool n.ld, .slice AL nl cl, .map (some bm)] 133 (0, 0))
 lg : w.ownsRow 0 69 2 (.slice AL nl cl) nl (lgC n.lg)
 map : MapW w bm n.op.length W
 op : ∀ c, I64n c → (opOf c n.op = none ∧ W c = none) ∨ ∃ ts A m d, opOf c n.op = some ts ∧ W c = some (A, m, d) ∧ TxR w S col c A m d ts
 cls : (CT cb).p (fun k => S k ∧ col k = .cls) w
 sb : S b ∧ col b = .top
 sm : S bm ∧ col bm = .map
 sl : ∀ g, (Value.slice AL nl cl).ownBlock = some g → S g ∧ col g = .log
 lt : ∀ k, S k → k < w.heap.size
theorem flat_own {w : World} {base n c size : Nat} {e : TypeId} {A : Option Addr} {xs : List Value} (h : w.ownsRow base e size (.slice A n c) n xs) : flat A := by
 intro a ha; subst ha; rcases h.2 with ⟨h1, _⟩ | ⟨g, cap, cur, h1, _⟩
 · cases h1
 · injection h1 with h1 _ _; injection h1 with h1; rw [h1]
def colN (col : Nat → Role) (z : Nat) (r : Role) : Nat → Role := fun k => if k < z then col k else r
theorem colN_old {col : Nat → Role} {z k : Nat} {r : Role} (h : k < z) : colN col z r k = col k := if_pos h
theorem colN_new {col : Nat → Role} {z k : Nat} {r : Role} (h : z ≤ k) : colN col z r k = r := if_neg (by omega)
section
variable {b : Nat} {n : Nd} {cb bm : Nat} {AL : Option Addr} {nl cl : Nat} {W : Wts} {col : Nat → Role} {S : Nat → Prop} {w w' : World}
theorem PNx.llen (h : PNx b n cb bm AL nl cl W col S w) : n.lg.length = nl := by
 have := h.lg.1; rw [lgC_length] at this; omega
theorem PNx.lr (h : PNx b n cb bm AL nl cl W col S w) : LR w AL nl n.lg := LR.of_own h.lg
theorem TxR.xr {c : Int} {A : Option Addr} {m d : Nat} {ts : List ByteArray} (h : TxR w S col c A m d ts) : XR w A m ts := XR.of_own h.own
theorem PNx.keep (h : PNx b n cb bm AL nl cl W col S w) (hk : ∀ k, S k → w'.heap[k]? = w.heap[k]?) (hz : w.heap.size ≤ w'.heap.size) : PNx b n cb bm AL nl cl W col S w' :=
 { h with
  top := (hk _ h.sb.1).trans h.top
  lg := own_keep h.lg fun g hg => hk _ (h.sl g hg).1
  map := h.map.keep (hk _ h.sm.1)
  op := fun c hc => (h.op c hc).imp id fun ⟨ts, A, m, d, h1, h2, h3⟩ => ⟨ts, A, m, d, h1, h2, own_keep h3.own fun g hg => hk _ (h3.at_ g hg).1, h3.at_⟩
  cls := (CT cb).keep h.cls (fun k hk2 => hk k hk2.1) hz
  lt := fun k hk => Nat.lt_of_lt_of_le (h.lt k hk) hz }
theorem PNx.tops (h : PNx b n cb bm AL nl cl W col S w) : w.cell? ⟨b, 0, none⟩ = some (.pointer (some ⟨cb, 0, none⟩)) ∧ w.cell? ⟨b, 1, none⟩ = some (.int .u64 n.ep) ∧ w.cell? ⟨b, 2, none⟩ = some (.bool n.ld) ∧ w.cell? ⟨b, 3, none⟩ = some (.slice AL nl cl) ∧ w.cell? ⟨b, 4, none⟩ = some (.map (some bm)) :=
 ⟨(cellsAt h.top 0 rfl).1, (cellsAt h.top 1 rfl).1, (cellsAt h.top 2 rfl).1, (cellsAt h.top 3 rfl).1, (cellsAt h.top 4 rfl).1⟩
theorem PNx.thaw (h : PNx b n cb bm AL nl cl W col S w) : w.frozen? ⟨b, 1, none⟩ = false ∧ w.frozen? ⟨b, 2, none⟩ = false ∧ w.frozen? ⟨b, 3, none⟩ = false :=
 ⟨(cellsAt h.top 1 (v := .int .u64 n.ep) rfl).2, (cellsAt h.top 2 (v := .bool n.ld) rfl).2, (cellsAt h.top 3 (v := .slice AL nl cl) rfl).2⟩
theorem PNx.relog (h : PNx b n cb bm AL nl cl W col S w) {A' : Option Addr} {n' c' : Nat} {l' : List Lg} (ht : w'.heap[b]? = some (.cells #[.pointer (some ⟨cb, 0, none⟩), .int .u64 n.ep, .bool n.ld, .slice A' n' c', .map (some bm)] 133 (0, 0)))
 (hl : w'.ownsRow 0 69 2 (.slice A' n' c') n' (lgC l')) (hn : ∀ g, (Value.slice A' n' c').ownBlock = some g → (S g ∧ col g = .log) ∨ w.heap.size ≤ g)
 (hk : ∀ k, S k → k ≠ b → col k ≠ .log → w'.heap[k]? = w.heap[k]?) (hz : w.heap.size ≤ w'.heap.size) :
 PNx b { n with lg := l' } cb bm A' n' c' W (colN col w.heap.size .log) (fun k => S k ∨ (w.heap.size ≤ k ∧ k < w'.heap.size)) w' where
 top := ht
 lg := hl
 map := h.map.keep (hk _ h.sm.1 (fun e => by have := h.sb.2; rw [← e, h.sm.2] at this; cases this) (by rw [h.sm.2]; exact fun e => nomatch e))
 op := fun c hc => (h.op c hc).imp id fun ⟨ts, A, m, d, h1, h2, h3⟩ => ⟨ts, A, m, d, h1, h2, own_keep h3.own fun g hg => hk _ (h3.at_ g hg).1 (fun e => by have := h.sb.2; rw [← e, (h3.at_ g hg).2] at this; cases this) (by rw [(h3.at_ g hg).2]; exact fun e => nomatch e), fun g hg => ⟨.inl (h3.at_ g hg).1, by rw [colN_old (h.lt g (h3.at_ g hg).1)]; exact (h3.at_ g hg).2⟩⟩
 cls := by
  have h1 := (CT cb).keep h.cls (w' := w') (fun k hk2 => hk k hk2.1 (fun e => by have := h.sb.2; rw [← e, hk2.2] at this; cases this) (by rw [hk2.2]; exact fun e => nomatch e)) hz; obtain ⟨h2, h3, x, h4⟩ := h1; refine ⟨⟨.inl h2.1, by rw [colN_old (h.lt cb h2.1)]; exact h2.2⟩, fun k hk => ?_, x, h4.imp id fun ⟨q, a1, a2, a3, a4⟩ => ⟨q, a1, a2, a3, .inl a4.1, by rw [colN_old (h.lt q a4.1)]; exact a4.2⟩⟩; rcases hk.1 with h5 | h5
  · exact Nat.lt_of_lt_of_le (h.lt k h5) hz
  · exact h5.2
 sb := ⟨.inl h.sb.1, by rw [colN_old (h.lt b h.sb.1)]; exact h.sb.2⟩
 sm := ⟨.inl h.sm.1, by rw [colN_old (h.lt bm h.sm.1)]; exact h.sm.2⟩
 sl := fun g hg => by
  rcases hn g hg with h1 | h1
  · exact ⟨.inl h1.1, by rw [colN_old (h.lt g h1.1)]; exact h1.2⟩
  · refine ⟨.inr ⟨h1, ?_⟩, colN_new h1⟩; exact (hl.lt g hg).2
 lt := fun k hk => hk.elim (fun hk => Nat.lt_of_lt_of_le (h.lt k hk) hz) (fun hk => hk.2)
theorem PNx.remap (h : PNx b n cb bm AL nl cl W col S w) {n' : Nd} (hlg : n'.lg = n.lg) {W' : Wts} (c0 : Int)
 (ht : w'.heap[b]? = some (.cells #[.pointer (some ⟨cb, 0, none⟩), .int .u64 n'.ep, .bool n'.ld, .slice AL nl cl, .map (some bm)] 133 (0, 0)))
 (hm : MapW w' bm n'.op.length W') (ho : ∀ c, I64n c → c ≠ c0 → (opOf c n'.op = none ∧ W' c = none) ∨ (opOf c n'.op = opOf c n.op ∧ W' c = W c))
 (h0 : I64n c0 → (opOf c0 n'.op = none ∧ W' c0 = none) ∨ ∃ ts A m d, opOf c0 n'.op = some ts ∧ W' c0 = some (A, m, d) ∧ w'.ownsRow 0 9 1 (.slice A m d) m (tvs ts) ∧ ∀ g, (Value.slice A m d).ownBlock = some g → (S g ∧ col g = .tx c0) ∨ w.heap.size ≤ g)
 (hk : ∀ k, S k → k ≠ b → k ≠ bm → col k ≠ .tx c0 → w'.heap[k]? = w.heap[k]?) (hz : w.heap.size ≤ w'.heap.size) :
 PNx b n' cb bm AL nl cl W' (colN col w.heap.size (.tx c0)) (fun k => S k ∨ (w.heap.size ≤ k ∧ k < w'.heap.size)) w' := by
 have nb : ∀ k, S k → col k ≠ .top → k ≠ b := fun k _ hc e => hc (e ▸ h.sb.2); have nm : ∀ k, S k → col k ≠ .map → k ≠ bm := fun k _ hc e => hc (e ▸ h.sm.2); have hold : ∀ k, S k → colN col w.heap.size (.tx c0) k = col k := fun k hk => colN_old (h.lt k hk); refine ⟨ht, ?_, hm, fun c hc => ?_, ?_, ⟨.inl h.sb.1, (hold b h.sb.1).trans h.sb.2⟩, ⟨.inl h.sm.1, (hold bm h.sm.1).trans h.sm.2⟩, fun g hg => ⟨.inl (h.sl g hg).1, (hold g (h.sl g hg).1).trans (h.sl g hg).2⟩, fun k hk => hk.elim (fun hk => Nat.lt_of_lt_of_le (h.lt k hk) hz) (fun hk => hk.2)⟩
 · rw [hlg]
   exact own_keep h.lg fun g hg => by
    have h2 := (h.sl g hg).2; exact hk g (h.sl g hg).1 (nb g (h.sl g hg).1 (by rw [h2]; exact fun e => nomatch e)) (nm g (h.sl g hg).1 (by rw [h2]; exact fun e => nomatch e)) (by rw [h2]; exact fun e => nomatch e)
 · by_cases e : c = c0
   · subst e; refine (h0 hc).imp id fun ⟨ts, A, m, d, a1, a2, a3, a4⟩ => ⟨ts, A, m, d, a1, a2, a3, fun g hg => ?_⟩; rcases a4 g hg with a5 | a5
     · exact ⟨.inl a5.1, (hold g a5.1).trans a5.2⟩
     · exact ⟨.inr ⟨a5, (a3.lt g hg).2⟩, colN_new a5⟩
   · rcases ho c hc e with h1 | ⟨h1, h2⟩
     · exact .inl h1
     · rw [h1, h2]; refine (h.op c hc).imp id fun ⟨ts, A, m, d, a1, a2, a3⟩ => ⟨ts, A, m, d, a1, a2, own_keep a3.own fun g hg => ?_, fun g hg => ⟨.inl (a3.at_ g hg).1, (hold g (a3.at_ g hg).1).trans (a3.at_ g hg).2⟩⟩; have h2 := (a3.at_ g hg).2; exact hk g (a3.at_ g hg).1 (nb g (a3.at_ g hg).1 (by rw [h2]; exact fun e => nomatch e)) (nm g (a3.at_ g hg).1 (by rw [h2]; exact fun e => nomatch e)) (by rw [h2]; exact fun e2 => e (by injection e2))
 · have h1 := (CT cb).keep h.cls (w' := w') (fun k hk2 => hk k hk2.1 (nb k hk2.1 (by rw [hk2.2]; exact fun e => nomatch e)) (nm k hk2.1 (by rw [hk2.2]; exact fun e => nomatch e)) (by rw [hk2.2]; exact fun e => nomatch e)) hz; obtain ⟨h2, h3, x, h4⟩ := h1; refine ⟨⟨.inl h2.1, (hold cb h2.1).trans h2.2⟩, fun k hk => ?_, x, h4.imp id fun ⟨q, a1, a2, a3, a4⟩ => ⟨q, a1, a2, a3, .inl a4.1, (hold q a4.1).trans a4.2⟩⟩; rcases hk.1 with h5 | h5
   · exact Nat.lt_of_lt_of_le (h.lt k h5) hz
   · exact h5.2
theorem PNx.classed (h : PNx b n cb bm AL nl cl W col S w) {x : Value} (hx : Cls w' cb (.int .u32 0) (.int .i32 0) x (.map none) ∨ ∃ q, Cls w' cb (.int .u32 1) (.int .i32 0) x (.map (some q)) ∧ MapAt w' q famL ∧ q ≠ cb ∧ ((S q ∧ col q = .cls) ∨ w.heap.size ≤ q))
 (hk : ∀ k, S k → k ≠ cb → w'.heap[k]? = w.heap[k]?) (hz : w.heap.size ≤ w'.heap.size) : PNx b n cb bm AL nl cl W (colN col w.heap.size .cls) (fun k => S k ∨ (w.heap.size ≤ k ∧ k < w'.heap.size)) w' := by
 have hcb := h.cls.1; have nc : ∀ k, S k → col k ≠ .cls → k ≠ cb := fun k _ hc e => hc (e ▸ hcb.2); have hold : ∀ k, S k → colN col w.heap.size .cls k = col k := fun k hk => colN_old (h.lt k hk); refine ⟨(hk _ h.sb.1 (nc b h.sb.1 (by rw [h.sb.2]; exact fun e => nomatch e))).trans h.top, own_keep h.lg fun g hg => hk g (h.sl g hg).1 (nc g (h.sl g hg).1 (by rw [(h.sl g hg).2]; exact fun e => nomatch e)), h.map.keep (hk _ h.sm.1 (nc bm h.sm.1 (by rw [h.sm.2]; exact fun e => nomatch e))), fun c hc => ?_, ?_, ⟨.inl h.sb.1, (hold b h.sb.1).trans h.sb.2⟩, ⟨.inl h.sm.1, (hold bm h.sm.1).trans h.sm.2⟩, fun g hg => ⟨.inl (h.sl g hg).1, (hold g (h.sl g hg).1).trans (h.sl g hg).2⟩, fun k hk => hk.elim (fun hk => Nat.lt_of_lt_of_le (h.lt k hk) hz) (fun hk => hk.2)⟩
 · refine (h.op c hc).imp id fun ⟨ts, A, m, d, a1, a2, a3⟩ => ⟨ts, A, m, d, a1, a2, own_keep a3.own fun g hg => ?_, fun g hg => ⟨.inl (a3.at_ g hg).1, (hold g (a3.at_ g hg).1).trans (a3.at_ g hg).2⟩⟩; exact hk g (a3.at_ g hg).1 (nc g (a3.at_ g hg).1 (by rw [(a3.at_ g hg).2]; exact fun e => nomatch e))
 · refine ⟨⟨.inl hcb.1, (hold cb hcb.1).trans hcb.2⟩, fun k hk => ?_, x, hx.imp id fun ⟨q, a1, a2, a3, a4⟩ => ⟨q, a1, a2, a3, ?_⟩⟩
   · rcases hk.1 with h5 | h5
     · exact Nat.lt_of_lt_of_le (h.lt k h5) hz
     · exact h5.2
   · rcases a4 with a4 | a4
     · exact ⟨.inl a4.1, (hold q a4.1).trans a4.2⟩
     · exact ⟨.inr ⟨a4, a2.lt⟩, colN_new a4⟩
end
def PN (b : Nat) (n : Nd) : Thing where
 p := fun S w => ∃ cb bm AL nl cl W col, PNx b n cb bm AL nl cl W col S w
 keep := fun ⟨_, _, _, _, _, _, _, h⟩ hk hz => ⟨_, _, _, _, _, _, _, h.keep hk hz⟩
 lt := fun ⟨_, _, _, _, _, _, _, h⟩ => h.lt
end

/- The landed node: Epoch, Leads, enter, Lead, Close, begin, rollback, pass: contracts. -/
section
open Go.RowKit Go.Maps Go.WideMaps
set_option maxRecDepth 100000
theorem idx_some {c : Int} {l : List Op15} : decide (0 ≤ idxOp c l) = (opOf c l).isSome := by
 cases h : opOf c l with
 | none =>
   rw [idxOp_none (opOf_none.1 h)]; rfl
 | some ts =>
   have h1 : ¬ idxOp c l = -1 := fun e => by
    have h2 : ∀ o ∈ l, o.c ≠ c := by
     intro o ho hc; obtain ⟨j, hj, rfl⟩ := List.getElem_of_mem ho; have h3 := idxOp_ge c l; clear h h3
     induction l generalizing j with
     | nil => simp at hj
     | cons q r ih =>
       unfold idxOp at e; split at e
       · omega
       · rename_i hq
         cases j with
         | zero => exact hq hc
         | succ j =>
           have h4 := idxOp_ge c r; split at e
           · exact ih (by omega) j (by simpa using hj) (List.getElem_mem _) hc
           · omega
    rw [opOf_none.2 h2] at h; cases h
   have h2 := idxOp_ge c l; simp; omega
theorem dropOp_len {c : Int} {l : List Op15} (hn : (l.map Op15.c).Nodup) : (dropOp c l).length = if (opOf c l).isSome = true then l.length - 1 else l.length := by
 cases h : opOf c l with
 | none => rw [dropOp_no (opOf_none.1 h)]; rfl
 | some ts =>
   obtain ⟨o, ho, hc, _⟩ := opOf_mem h; obtain ⟨j, hj, rfl⟩ := List.getElem_of_mem ho; rw [dropOp_at hj hn hc]; simp; omega
theorem Off.grownS {S : Nat → Prop} {w w1 w2 : World} {row : Option Nat} (h : Off S w w1) (hg : w1.grownBy w2 row) (hr : ∀ g, row = some g → S g ∨ w.heap.size ≤ g) : Off S w w2 :=
 ⟨hg.os.trans h.os, hg.tape.trans h.tape, hg.output.trans h.output, Nat.le_trans h.size hg.size, fun k hk hn => (hg.block k (Nat.lt_of_lt_of_le hk h.size) (fun e => (hr k e.symm).elim hn (fun e2 => by omega))).trans (h.block k hk hn)⟩
section
variable {b : Nat} {n n' : Nd} {cb bm : Nat} {AL : Option Addr} {nl cl : Nat} {W W' : Wts} {col col' : Nat → Role} {S : Nat → Prop} {w w' : World}
theorem PN.turn (h : PNx b n' cb bm AL nl cl W' col' (fun k => S k ∨ (w.heap.size ≤ k ∧ k < w'.heap.size)) w') (ho : Off S w w') : Turn (PN b n') S w w' :=
 ⟨⟨_, ⟨_, _, _, _, _, _, _, h⟩, fun _ hk => hk.imp id (·.1)⟩, ho⟩
theorem PNx.some_ (h : PNx b n cb bm AL nl cl W col S w) {c : Int} (hc : I64n c) : (W c).isSome = (opOf c n.op).isSome := by
 rcases h.op c hc with ⟨h1, h2⟩ | ⟨ts, A, m, d, h1, h2, _⟩
 · rw [h1, h2]; rfl
 · rw [h1, h2]; rfl
theorem PNx.mne (h : PNx b n cb bm AL nl cl W col S w) : bm ≠ b := fun e => by
 have := h.sb.2; rw [← e, h.sm.2] at this; cases this
theorem pepoch15_ok (h : (PN b n).p S w) :
 Calls Tryz.prog 41 #[.pointer (some ⟨b, 0, none⟩)] w fun e w' => e = .returned (.int .u64 n.ep) ∧ Below w.heap.size w w' := by
 obtain ⟨cb, bm, AL, nl, cl, W, col, hx⟩ := h; obtain ⟨_, c1, _⟩ := hx.tops; clear hx; go_enter Tryz.func41, Tryz.ntmps41; go_wp2_with fail; go_ret; exact ⟨rfl, Below.refl _ _⟩
theorem pleads15_ok (h : (PN b n).p S w) :
 Calls Tryz.prog 43 #[.pointer (some ⟨b, 0, none⟩)] w fun e w' => e = .returned (.bool n.ld) ∧ Below w.heap.size w w' := by
 obtain ⟨cb, bm, AL, nl, cl, W, col, hx⟩ := h; obtain ⟨_, _, c2, _⟩ := hx.tops; clear hx; go_enter Tryz.func43, Tryz.ntmps43; go_wp2_with fail; go_ret; exact ⟨rfl, Below.refl _ _⟩
theorem penter_ok (e : Int) (l : Bool) (h : (PN b n).p S w) :
 Calls Tryz.prog 84 #[.pointer (some ⟨b, 0, none⟩), .int .u64 e, .bool l] w fun e' w' => e' = .returned (.tuple #[]) ∧ Turn (PN b ⟨e, l, n.lg, []⟩) S w w' := by
 obtain ⟨cb, bm, AL, nl, cl, W, col, hx⟩ := h; obtain ⟨c0, c1, c2, c3, c4⟩ := hx.tops; obtain ⟨f1, f2, f3⟩ := hx.thaw; have hne := hx.mne; have hz : ((w.setCell ⟨b, 1, none⟩ (.int .u64 e)).setCell ⟨b, 2, none⟩ (.bool l)).heap.size = w.heap.size := by rw [set_size, set_size]
 have hoq : Off S w ((w.setCell ⟨b, 1, none⟩ (.int .u64 e)).setCell ⟨b, 2, none⟩ (.bool l)) := Off.setCell (Off.setCell (Off.refl S w) (.inl hx.sb.1) _) (.inl hx.sb.1) _; have hbq := heap_setCell_same _ b 2 _ _ (.bool l) (heap_setCell_same w b 1 _ _ (.int .u64 e) hx.top); have hkq : ∀ k, k ≠ b → ((w.setCell ⟨b, 1, none⟩ (.int .u64 e)).setCell ⟨b, 2, none⟩ (.bool l)).heap[k]? = w.heap[k]? := fun k hk => (set_other hk).trans (set_other hk); obtain ⟨w2, hrun, hm2, hg2⟩ := (hx.map.keep (hkq bm hne)).clear; have hb2 := (hg2.block b (by rw [hz]; exact hx.lt b hx.sb.1) (fun e => hne (by injection e with e; exact e.symm))).trans hbq
 have hfin : Turn (PN b ⟨e, l, n.lg, []⟩) S w w2 := PN.turn (hx.remap (n' := ⟨e, l, n.lg, []⟩) rfl 0 hb2 hm2 (fun _ _ _ => .inl ⟨rfl, rfl⟩) (fun _ => .inl ⟨rfl, rfl⟩) (fun k hk h1 h2 _ => (hg2.block k (by rw [hz]; exact hx.lt k hk) (fun e => h2 (by injection e))).trans (hkq k h1)) (by have := hg2.size; omega))
  (hoq.grownS hg2 (fun g hg => by injection hg with hg; exact .inl (hg ▸ hx.sm.1)))
 have HF := hid hfin; clear hx hne hz hoq hbq hkq hm2 hg2 hb2 hfin; go_enter Tryz.func84, Tryz.ntmps84; go_wp2_with fail; go_end0; exact ⟨rfl, HF.out⟩
theorem plead15_ok (e : Int) (h : (PN b n).p S w) :
 Calls Tryz.prog 61 #[.pointer (some ⟨b, 0, none⟩), .int .u64 e] w fun e' w' => e' = .returned (.bool (decide (n.ep ≤ e))) ∧ Turn (PN b (leadNd n e)) S w w' := by
 have HT := hid h; have HE := hid (penter_ok e true h); obtain ⟨cb, bm, AL, nl, cl, W, col, hx⟩ := h; obtain ⟨_, c1, _⟩ := hx.tops; clear hx; by_cases he : e < n.ep
 · rw [decide_eq_false (by omega), show leadNd n e = n from if_pos he]; go_enter Tryz.func61, Tryz.ntmps61; go_wp2_with fail; go_ret; exact ⟨rfl, Turn.here HT.out⟩
 · rw [decide_eq_true (by omega), show leadNd n e = ⟨e, true, n.lg, []⟩ from if_neg he]; go_enter Tryz.func61, Tryz.ntmps61; go_wp2_with fail; refine HE.out.mono ?_; rintro e' w2 ⟨rfl, ht⟩; have HF := hid ht; clear ht HE; go_wp2_with fail; go_ret; exact ⟨rfl, HF.out⟩
theorem PNx.closed (h : PNx b n cb bm AL nl cl W col S w) (hn : (n.op.map Op15.c).Nodup) {c : Int} (hc : I64n c) (hm : MapW w' bm (if (W c).isSome = true then n.op.length - 1 else n.op.length) (updW W c none)) (hg : w.grownBy w' (some bm)) :
 PNx b (closeNd n c) cb bm AL nl cl (updW W c none) (colN col w.heap.size (.tx c)) (fun k => S k ∨ (w.heap.size ≤ k ∧ k < w'.heap.size)) w' := by
 have hne := h.mne; refine h.remap (n' := closeNd n c) rfl c ((hg.block b (h.lt b h.sb.1) (fun e => hne (by injection e with e; exact e.symm))).trans h.top) ?_ (fun k hk e => .inr ⟨(dropOp_of c k n.op).trans (if_neg e), if_neg e⟩) (fun _ => .inl ⟨(dropOp_of c c n.op).trans (if_pos rfl), if_pos rfl⟩) (fun k hk _ h2 _ => hg.block k (h.lt k hk) (fun e => h2 (by injection e))) hg.size
 have e1 : (closeNd n c).op.length = if (W c).isSome = true then n.op.length - 1 else n.op.length := by
  rw [h.some_ hc]; exact dropOp_len hn
 rw [e1]; exact hm
theorem pclosex_ok (c : Int) (hc : I64n c) (hn : (n.op.map Op15.c).Nodup) (hx : PNx b n cb bm AL nl cl W col S w) :
 Calls Tryz.prog 60 #[.pointer (some ⟨b, 0, none⟩), .int .i64 c] w fun e w' => e = .returned (.bool (opOf c n.op).isSome) ∧ PNx b (closeNd n c) cb bm AL nl cl (updW W c none) (colN col w.heap.size (.tx c)) (fun k => S k ∨ (w.heap.size ≤ k ∧ k < w'.heap.size)) w' ∧ w.grownBy w' (some bm) := by
 obtain ⟨c0, c1, c2, c3, c4⟩ := hx.tops; have hl := hx.map.look hc; rw [hx.some_ hc] at hl; obtain ⟨w2, hrun, hm2, hg2⟩ := hx.map.drop hc; have HF := hid (And.intro (hx.closed hn hc hm2 hg2) hg2); clear hx hm2 hg2 hn; generalize slV (W c) = v at *; generalize (opOf c n.op).isSome = x at *; go_enter Tryz.func60, Tryz.ntmps60; go_wp2_with fail; go_ret; exact ⟨rfl, HF.out⟩
theorem PNx.clturn (h : PNx b n cb bm AL nl cl W col S w) (hp : PNx b n' cb bm AL nl cl W' col' (fun k => S k ∨ (w.heap.size ≤ k ∧ k < w'.heap.size)) w') (hg : w.grownBy w' (some bm)) : Turn (PN b n') S w w' :=
 PN.turn hp ((Off.refl S w).grownS hg (fun g hg => by injection hg with hg; exact .inl (hg ▸ h.sm.1)))
theorem pclose15_ok (c : Int) (hc : I64n c) (hn : (n.op.map Op15.c).Nodup) (h : (PN b n).p S w) :
 Calls Tryz.prog 60 #[.pointer (some ⟨b, 0, none⟩), .int .i64 c] w fun e w' => e = .returned (.bool (decide (0 ≤ idxOp c n.op))) ∧ Turn (PN b (closeNd n c)) S w w' := by
 obtain ⟨cb, bm, AL, nl, cl, W, col, hx⟩ := h; refine (pclosex_ok c hc hn hx).mono ?_; rintro e w' ⟨rfl, hp, hg⟩; exact ⟨by rw [idx_some], hx.clturn hp hg⟩
end
end
end Go.Proofs.YtdhnpmagapbmhaaGreatDoor
