/-
  Contracts and plain functions that the law stands on, part 16 of 19.
-/
import Derived.Test.YtdhnpmagapbmhaaGreatDoorQA15
namespace Go.Proofs.YtdhnpmagapbmhaaGreatDoor
/- A region that draws its order, as XReg6, but an operation whose guard was itself left out may be left out too. -/
section
open Go.RowKit

/-- an operation's guard fails, or was itself left out -/
def WantsNo (ops : Array Oper) (a : Act) (o : Oper) : Prop :=
  match o.guard with
  | none => False
  | some (j, b) => ∃ t, dstOf ops j = some t ∧ (a.tmps.getD t undef = .bool (!b) ∨ a.tmps.getD t undef = undef)

theorem wants_no {ops : Array Oper} {a : Act} {o : Oper} (h : WantsNo ops a o) : Region.wanted o (yielded ops a.tmps) = false := by
  unfold WantsNo at h
  unfold Region.wanted
  split at h
  · cases h
  · rename_i j b hg
    obtain ⟨t, ht, hv⟩ := h
    rw [hg]
    unfold dstOf at ht
    rcases Nat.lt_or_ge t a.tmps.size with hlt | hge
    · rw [Array.getD_eq_getD_getElem?, Array.getElem?_eq_getElem hlt] at hv
      simp only [Option.getD_some] at hv
      rcases hv with hv | hv
      · simp [yielded, ht, Array.getElem?_eq_getElem hlt, hv]
      · simp [yielded, ht, Array.getElem?_eq_getElem hlt, hv, undef]
    · simp [yielded, ht, Array.getElem?_eq_none hge]

section
variable {P : Program} {ops : Array Oper} {Q : Exit → Act → World → Prop}
/-- what is asked of one operation -/
def OkOp8 (P : Program) (ops : Array Oper) (Q : Exit → Act → World → Prop) (S : (Nat → Bool) → World → Prop) {Kp : Nat → World → World → Prop} (Sp : Nat → Stl Kp) (a0 : Act) (i : Nat) (o : Oper) : Prop :=
  ∀ L a w, L i = false → StandI ops i a0 a → S L w → (∀ t, (waitsFor ops o).contains t = true → (Sp t).p L (a.tmps.getD t undef) w) → (∀ f j, needB ops f i j = true → L j = true) → (∀ f k, needB ops f k i = true → L k = false) →
    (Wants ops a o ∧ o.wp P a w (Went6 S Sp L i a o.dst w) Q) ∨ (WantsNo ops a o ∧ S (doneB L i) w ∧ Kp i w w ∧ ∀ t, o.dst = some t → (Sp t).p (doneB L i) undef w)

theorem wpAny_specs8 (S : (Nat → Bool) → World → Prop) {Kp : Nat → World → World → Prop} (Sp : Nat → Stl Kp) (a0 : Act) (hok : regOk5 ops a0.tmps.size = true)
    (each : EachOp (OkOp8 P ops Q S Sp a0) 0 ops.toList)
    (fin : ∀ L a w, (∀ j, j < ops.size → L j = true) → Stand ops a0 a → S L w → (∀ t, (dstsOf ops).contains t = true → (Sp t).p L (a.tmps.getD t undef) w) → Q .normal a w) :
    ∀ (fuel : Nat) (listed : Array Bool) (a : Act) (w : World), listed.size = ops.size → ((List.range ops.size).filter fun i => !listed.getD i true).length ≤ fuel →
      Stand ops a0 a → S (fun j => listed.getD j false) w → (∀ i d, listed.getD i false = true → dstOf ops i = some d → (Sp d).p (fun j => listed.getD j false) (a.tmps.getD d undef) w) →
      (∀ j d, j < ops.size → listed.getD j false = false → dstOf ops j = some d → a.tmps.getD d undef = a0.tmps.getD d undef) →
      (∀ j o, listed.getD j false = true → ops[j]? = some o → ∀ e ∈ o.after, Region.binds .any e = true → listed.getD e.on false = true) → wpAny P .any ops Q fuel listed a w := by
  simp only [regOk5, Bool.and_eq_true, List.all_eq_true, decide_eq_true_eq] at hok
  obtain ⟨⟨hdst, hnd⟩, hlow⟩ := hok
  have hdst' : ∀ o ∈ ops.toList, ∀ d, o.dst = some d → d < a0.tmps.size := fun o ho d hd => by
    have := hdst o ho
    rw [hd] at this
    simpa using this
  have hinj : ∀ i j d, dstOf ops i = some d → dstOf ops j = some d → i = j := fun i j d hi hj => by
    unfold dstOf at hi hj
    obtain ⟨x, hx, hxd⟩ := Option.bind_eq_some_iff.1 hi
    obtain ⟨y, hy, hyd⟩ := Option.bind_eq_some_iff.1 hj
    exact once_filterMap (l := ops.toList) (fun o : Oper => o.dst) hnd (by simpa using hx) (by simpa using hy) hxd hyd
  have hready0 : ∀ listed : Array Bool, listed.size = ops.size → Region.ready .any ops listed = [] → ∀ i, i < ops.size → listed.getD i false = true := by
    intro listed hsz hr i
    induction i using Nat.strongRecOn with
    | _ i ih =>
      intro hi
      cases hl : listed.getD i false with
      | true => rfl
      | false =>
        exfalso
        have hl2 : listed.getD i true = false := by
          rw [Array.getD_eq_getD_getElem?, Array.getElem?_eq_getElem (by omega)] at hl ⊢; simpa using hl
        have hm : i ∈ Region.ready .any ops listed := by
          unfold Region.ready
          rw [List.mem_filter]
          refine ⟨List.mem_range.2 hi, ?_⟩
          rw [hl2, Array.getElem?_eq_getElem hi]
          simp only [Bool.not_false, Bool.true_and, Option.map_some, Option.getD_some, Array.all_eq_true_iff_forall_mem]
          intro e he
          have h1 := hlow (ops[i], i) (by rw [List.mem_zipIdx_iff_getElem?]; simp [hi])
          simp only [Array.all_eq_true_iff_forall_mem] at h1
          have h2 := h1 e he
          cases hb : Region.binds .any e with
          | false => simp
          | true =>
            rw [hb] at h2
            have h3 : e.on < i := by simpa using h2
            simp [ih e.on h3 (by omega)]
        rw [hr] at hm
        cases hm
  have hfin : ∀ listed a w, listed.size = ops.size → Stand ops a0 a → S (fun j => listed.getD j false) w → (∀ i d, listed.getD i false = true → dstOf ops i = some d → (Sp d).p (fun j => listed.getD j false) (a.tmps.getD d undef) w) → Region.ready .any ops listed = [] → Q .normal a w := by
    intro listed a w hsz hst hS hsp hr
    refine fin _ a w (hready0 listed hsz hr) hst hS fun t ht => ?_
    obtain ⟨o, ho, he⟩ := List.mem_filterMap.1 (List.contains_iff_mem.1 ht)
    obtain ⟨i, hi, hio⟩ := List.mem_iff_getElem.1 ho
    have hi' : i < ops.size := by simpa using hi
    have hd : dstOf ops i = some t := by
      unfold dstOf
      rw [Array.getElem?_eq_getElem hi', show ops[i] = o by rw [← hio]; simp]
      exact he
    exact hsp i t (hready0 listed hsz hr i hi') hd
  intro fuel
  induction fuel with
  | zero =>
    intro listed a w hsz hc hst hS hsp _ _
    have hr : Region.ready .any ops listed = [] := by
      have h0 : ((List.range ops.size).filter fun i => !listed.getD i true) = [] := List.eq_nil_of_length_eq_zero (by omega)
      unfold Region.ready
      rw [List.filter_eq_nil_iff] at h0 ⊢
      intro i hi
      have := h0 i hi
      simp only [Bool.not_eq_true] at this ⊢
      rw [this, Bool.false_and]
    exact ⟨hr, hfin listed a w hsz hst hS hsp hr⟩
  | succ fuel ih =>
    intro listed a w hsz hc hst hS hsp hun0 hcl
    refine ⟨hfin listed a w hsz hst hS hsp, fun i hi => ?_⟩
    unfold Region.ready at hi
    rw [List.mem_filter, List.mem_range] at hi
    obtain ⟨hilt, hi2⟩ := hi
    rw [Array.getElem?_eq_getElem hilt] at hi2
    simp only [Bool.and_eq_true, Option.map_some, Option.getD_some, Array.all_eq_true_iff_forall_mem] at hi2
    obtain ⟨hun, hdeps⟩ := hi2
    have hdi : dstOf ops i = (ops[i]).dst := by unfold dstOf; rw [Array.getElem?_eq_getElem hilt]; rfl
    have hthis := each.at_ i ops[i] (by simp [hilt])
    rw [Nat.zero_add] at hthis
    have hni : listed.getD i false = false := by
      have hl : listed.getD i true = false := by simpa using hun
      rw [Array.getD_eq_getD_getElem?, Array.getElem?_eq_getElem (by omega)] at hl ⊢
      simpa using hl
    have hold : ∀ t, (laterOf ops i).contains t = true → a.tmps.getD t undef = a0.tmps.getD t undef := fun t ht => by
      unfold laterOf at ht
      obtain ⟨o, ho, hot⟩ := List.mem_filterMap.1 (List.contains_iff_mem.1 ht)
      rw [List.mem_filter] at ho
      obtain ⟨j, hj, hje⟩ := List.mem_iff_getElem.1 ho.1
      have hj' : j < ops.size := by simpa using hj
      have hjo : ops[j]? = some o := by rw [Array.getElem?_eq_getElem hj', ← hje]; simp
      have hdj : dstOf ops j = some t := by unfold dstOf; rw [hjo]; exact hot
      refine hun0 j t hj' ?_ hdj
      rw [Bool.eq_false_iff]
      intro hlj
      obtain ⟨e, he, h2⟩ := Array.any_eq_true'.1 ho.2
      simp only [Bool.and_eq_true, beq_iff_eq] at h2
      have := hcl j o hlj hjo e he h2.1
      rw [h2.2, hni] at this
      cases this
    have hclB : ∀ k q, (fun j => listed.getD j false) k = true → depB ops k q = true → (fun j => listed.getD j false) q = true := fun k q hk hq => by
      unfold depB at hq
      cases hko : ops[k]? with
      | none => rw [hko] at hq; cases hq
      | some o =>
        rw [hko] at hq
        obtain ⟨e, he, h3⟩ := Array.any_eq_true'.1 hq
        simp only [Bool.and_eq_true, beq_iff_eq] at h3
        have h4 := hcl k o hk hko e he h3.1
        rw [h3.2] at h4
        exact h4
    have hor := hthis _ a w hni ⟨hst, hold⟩ hS (fun t ht => by
      unfold waitsFor at ht
      obtain ⟨e, he, het⟩ := List.mem_filterMap.1 (List.contains_iff_mem.1 ht)
      rw [List.mem_filter] at he
      have := hdeps e (by simpa using he.1)
      rw [he.2] at this
      exact hsp e.on t (by simpa using this) het) (fun f j hj => needB_done (L := fun j => listed.getD j false) (fun k q hk hq => by
        unfold depB at hq
        cases hko : ops[k]? with
        | none => rw [hko] at hq; cases hq
        | some o =>
          rw [hko] at hq
          obtain ⟨e, he, h3⟩ := Array.any_eq_true'.1 hq
          simp only [Bool.and_eq_true, beq_iff_eq] at h3
          have h4 := hcl k o hk hko e he h3.1
          rw [h3.2] at h4
          exact h4) f i j (fun k hk => by
        unfold depB at hk
        rw [Array.getElem?_eq_getElem hilt] at hk
        obtain ⟨e, he, h3⟩ := Array.any_eq_true'.1 hk
        simp only [Bool.and_eq_true, beq_iff_eq] at h3
        have h4 := hdeps e he
        rw [h3.1, h3.2] at h4
        simpa using h4) hj) (fun f k hk => by
        cases hlk : listed.getD k false with
        | false => rfl
        | true =>
          have h6 : listed.getD i false = true := needB_done (L := fun j => listed.getD j false) hclB f k i (fun q hq => hclB k q hlk hq) hk
          rw [hni] at h6
          cases h6)
    suffices key : ∀ a' w', Went6 S Sp (fun j => listed.getD j false) i a (ops[i]).dst w a' w' → wpAny P .any ops Q fuel (listed.setIfInBounds i true) a' w' by
      unfold wpOp
      simp only [Array.getElem?_eq_getElem hilt]
      rcases hor with ⟨hw, hwp⟩ | ⟨hw, hS', hk', hsp'⟩
      · simp only [wants hw, if_true]
        exact .inl (Oper.wp_mono (fun a' w' h => key a' w' h) hwp)
      · rw [wants_no hw]
        simp only [Bool.false_eq_true, if_false]
        exact key _ _ ⟨undef, rfl, hS', hk', hsp'⟩
    rintro a' w' ⟨v, rfl, hS', hb, hsp'⟩
    have hval : ∀ d, (ops[i]).dst = some d → ((a.put (ops[i]).dst v).tmps.getD d undef) = v := fun d hd => by
      rw [hd]
      simp only [Act.put]
      rw [Array.getD_eq_getD_getElem?, Array.getElem?_setIfInBounds_self_of_lt (by rw [hst.size]; exact hdst' ops[i] (by simp) d hd)]
      rfl
    have hoth : ∀ t, (ops[i]).dst ≠ some t → (a.put (ops[i]).dst v).tmps.getD t undef = a.tmps.getD t undef := fun t ht => by
      cases hd : (ops[i]).dst with
      | none => rfl
      | some d =>
        simp only [Act.put]
        rw [Array.getD_eq_getD_getElem?, Array.getD_eq_getD_getElem?, Array.getElem?_setIfInBounds_ne (fun h => ht (by rw [hd, h]))]
    have hput : (a.put (ops[i]).dst v).tmps.size = a0.tmps.size ∧ (a.put (ops[i]).dst v).defers = a0.defers := by
      cases (ops[i]).dst <;> simp [Act.put, hst.size, hst.defers]
    have hset : ∀ j, j ≠ i → (listed.setIfInBounds i true).getD j false = listed.getD j false := fun j hji => by
      rw [Array.getD_eq_getD_getElem?, Array.getElem?_setIfInBounds_ne (fun h => hji h.symm), ← Array.getD_eq_getD_getElem?]
    have hseti : (listed.setIfInBounds i true).getD i false = true := by
      rw [Array.getD_eq_getD_getElem?, Array.getElem?_setIfInBounds_self_of_lt (by omega)]; rfl
    refine ih _ _ _ (by simp [hsz]) ?_ ⟨hput.1, hput.2, fun t ht => ?_⟩ (by rw [doneB_ext (L := fun j => listed.getD j false) (i := i) (M := fun j => (listed.setIfInBounds i true).getD j false) hseti hset]; exact hS') (fun j dj hj hdj => ?_) (fun j dj hj hlj hdj => ?_) (fun j o hlj hjo e he hb2 => ?_)
    · have hl : listed.getD i true = false := by simpa using hun
      have := filter_lt (l := List.range ops.size) (p := fun j => !listed.getD j true) (q := fun j => !(listed.setIfInBounds i true).getD j true) (fun x hx => by
        by_cases hxi : i = x
        · subst hxi
          rw [Array.getD_eq_getD_getElem?, Array.getElem?_setIfInBounds_self_of_lt (by omega)] at hx
          simp at hx
        · rw [Array.getD_eq_getD_getElem?, Array.getElem?_setIfInBounds_ne hxi, ← Array.getD_eq_getD_getElem?] at hx
          exact hx) (i := i) (List.mem_range.2 hilt) (by simp [hl]) (by
          rw [Array.getD_eq_getD_getElem?, Array.getElem?_setIfInBounds_self_of_lt (by omega)]; simp)
      omega
    · rw [hoth t, hst.out t ht]
      intro e
      have : (dstsOf ops).contains t = true := List.contains_iff_mem.2 (List.mem_filterMap.2 ⟨ops[i], by simp, e⟩)
      rw [this] at ht
      cases ht
    · by_cases hji : j = i
      · subst hji
        rw [hdi] at hdj
        rw [hval dj hdj, doneB_ext (L := fun q => listed.getD q false) (i := j) (M := fun q => (listed.setIfInBounds j true).getD q false) hseti hset]
        exact hsp' dj hdj
      · have hne : (ops[i]).dst ≠ some dj := fun e => hji (hinj j i dj hdj (hdi.trans e))
        rw [hoth dj hne]
        rw [Array.getD_eq_getD_getElem?, Array.getElem?_setIfInBounds_ne (fun h => hji h.symm), ← Array.getD_eq_getD_getElem?] at hj
        rw [doneB_ext (L := fun j => listed.getD j false) (i := i) (M := fun j => (listed.setIfInBounds i true).getD j false) hseti hset]
        exact (Sp dj).st i _ _ _ _ hni (hsp j dj hj hdj) hb
    · have hji : j ≠ i := fun h => by rw [h, hseti] at hlj; cases hlj
      rw [hset j hji] at hlj
      rw [hoth dj (fun e => hji (hinj j i dj hdj (hdi.trans e)))]
      exact hun0 j dj hj hlj hdj
    · have hon : listed.getD e.on false = true := by
        by_cases hji : j = i
        · subst hji
          rw [Array.getElem?_eq_getElem hilt] at hjo
          injection hjo with hjo
          subst hjo
          have := hdeps e he
          rw [hb2] at this
          simpa using this
        · rw [hset j hji] at hlj
          exact hcl j o hlj hjo e he hb2
      by_cases hei : e.on = i
      · rw [hei]; exact hseti
      · rw [hset _ hei]; exact hon

theorem wp_region_specs8 {id : Nat} {a0 : Act} {w0 : World} (S : (Nat → Bool) → World → Prop) {Kp : Nat → World → World → Prop} (Sp : List (Nat × Stl Kp)) (hm : P.follows .mixedOrders = true) (hok : regOk5 ops a0.tmps.size = true) (hS : S (fun _ => false) w0.drew)
    (each : EachOp (OkOp8 P ops Q S (Stl.find Sp) a0) 0 ops.toList)
    (fin : ∀ L a w, (∀ j, Nat.blt j ops.size = true → L j = true) → Stand ops a0 a → S L w → (∀ t, (dstsOf ops).contains t = true → (Stl.find Sp t).p L (a.tmps.getD t undef) w) → Q .normal a w) :
    (Code.region id ops true).wp P Q a0 w0 :=
  wp_region_any hm (wpAny_specs8 S (Stl.find Sp) a0 hok each (fun L a w hL => fin L a w fun j hj => hL j (Nat.le_of_ble_eq_true hj)) _ _ _ _ (by simp) (by
    refine Nat.le_trans (List.length_filter_le _ _) (by simp)) ⟨rfl, rfl, fun _ _ => rfl⟩ (by rw [show (fun j => (Array.replicate ops.size false).getD j false) = fun _ => false from by funext j; rw [Array.getD_eq_getD_getElem?, Array.getElem?_replicate]; split <;> rfl]; exact hS) (fun i d h => by
    exfalso
    rw [Array.getD_eq_getD_getElem?, Array.getElem?_replicate] at h
    split at h <;> simp at h) (fun _ _ _ _ _ => rfl) (fun j o h => by
    exfalso
    rw [Array.getD_eq_getD_getElem?, Array.getElem?_replicate] at h
    split at h <;> simp at h))
/-- the same: what is asked of the operations, whatever goes on behind the region (so that the goals stay small) -/
theorem wp_region_specs8q {id : Nat} {a0 : Act} {w0 : World} (S : (Nat → Bool) → World → Prop) {Kp : Nat → World → World → Prop} (Sp : List (Nat × Stl Kp)) (hm : P.follows .mixedOrders = true) (hok : regOk5 ops a0.tmps.size = true) (hS : S (fun _ => false) w0.drew)
    (each : ∀ Q' : Exit → Act → World → Prop, EachOp (OkOp8 P ops Q' S (Stl.find Sp) a0) 0 ops.toList)
    (fin : ∀ L a w, (∀ j, Nat.blt j ops.size = true → L j = true) → Stand ops a0 a → S L w → (∀ t, (dstsOf ops).contains t = true → (Stl.find Sp t).p L (a.tmps.getD t undef) w) → Q .normal a w) :
    (Code.region id ops true).wp P Q a0 w0 := wp_region_specs8 S Sp hm hok hS (each Q) fin
end
end
end Go.Proofs.YtdhnpmagapbmhaaGreatDoor
