/-
  A region that draws its order, gone through once an operation; operations whose guard is known to fail are left out.
-/
import Derived.Test.YtpmkaceeomnijaaReg
namespace Go.Proofs.Ytpmkaceeomnijaa
open Go.RowKit

def WantsNot (ops : Array Oper) (a : Act) (o : Oper) : Prop :=
  match o.guard with
  | none => False
  | some (j, b) => ∃ t, dstOf ops j = some t ∧ a.tmps.getD t undef = .bool (!b)

theorem wants_not {ops : Array Oper} {a : Act} {o : Oper} (h : WantsNot ops a o) : Region.wanted o (yielded ops a.tmps) = false := by
  unfold WantsNot at h
  unfold Region.wanted
  split at h
  · cases h
  · rename_i j b hg
    obtain ⟨t, ht, hv⟩ := h
    rw [hg]
    have hlt : t < a.tmps.size := by
      rcases Nat.lt_or_ge t a.tmps.size with h | h
      · exact h
      · rw [Array.getD_eq_getD_getElem?, Array.getElem?_eq_none h] at hv
        simp [undef] at hv
    rw [Array.getD_eq_getD_getElem?, Array.getElem?_eq_getElem hlt] at hv
    simp only [Option.getD_some] at hv
    unfold dstOf at ht
    simp [yielded, ht, Array.getElem?_eq_getElem hlt, hv]

section
variable {P : Program} {ops : Array Oper} {Q : Exit → Act → World → Prop}

/-- what is asked of one operation: that it goes, or that its guard fails -/
def OkOp2 (P : Program) (ops : Array Oper) (Q : Exit → Act → World → Prop) (S : World → Prop) (Sp : Nat → Stb) (a0 : Act) (i : Nat) (o : Oper) : Prop :=
  ∀ a w, StandI ops i a0 a → S w → (∀ t, (waitsFor ops o).contains t = true → (Sp t).p (a.tmps.getD t undef) w) →
    (Wants ops a o ∧ o.wp P a w (Goes S Sp a o.dst w) Q) ∨ (WantsNot ops a o ∧ S w ∧ ∀ t, o.dst = some t → (Sp t).p undef w)

theorem wpAny_specs2 (S : World → Prop) (Sp : Nat → Stb) (a0 : Act) (hok : regOk ops a0.tmps.size = true)
    (each : EachOp (OkOp2 P ops Q S Sp a0) 0 ops.toList)
    (fin : ∀ a w, Stand ops a0 a → S w → (∀ t, (dstsOf ops).contains t = true → (Sp t).p (a.tmps.getD t undef) w) → Q .normal a w) :
    ∀ (fuel : Nat) (listed : Array Bool) (a : Act) (w : World), listed.size = ops.size → ((List.range ops.size).filter fun i => !listed.getD i true).length ≤ fuel →
      Stand ops a0 a → S w → (∀ i d, listed.getD i false = true → dstOf ops i = some d → (Sp d).p (a.tmps.getD d undef) w) →
      (∀ j d, j < ops.size → listed.getD j false = false → dstOf ops j = some d → a.tmps.getD d undef = a0.tmps.getD d undef) →
      (∀ j o, listed.getD j false = true → ops[j]? = some o → ∀ e ∈ o.after, Region.binds .any e = true → listed.getD e.on false = true) → wpAny P .any ops Q fuel listed a w := by
  simp only [regOk, Bool.and_eq_true, List.all_eq_true, decide_eq_true_eq] at hok
  obtain ⟨⟨⟨hdst, hlen⟩, hnd⟩, hlow⟩ := hok
  have hdst' : ∀ o ∈ ops.toList, ∃ d, o.dst = some d ∧ d < a0.tmps.size := fun o ho => by
    have := hdst o ho
    split at this
    · rename_i d hd; exact ⟨d, hd, by simpa using this⟩
    · cases this
  have hget := dsts_getElem (ops := ops) (fun o ho => (hdst' o ho).imp fun d h => h.1)
  have hinj : ∀ i j d, dstOf ops i = some d → dstOf ops j = some d → i = j := fun i j d hi hj => by
    rw [← hget] at hi hj
    obtain ⟨hi1, hi2⟩ := List.getElem?_eq_some_iff.1 hi
    obtain ⟨hj1, hj2⟩ := List.getElem?_eq_some_iff.1 hj
    have hp := List.pairwise_iff_getElem.1 hnd
    rcases Nat.lt_trichotomy i j with h | h | h
    · exact absurd (hi2.trans hj2.symm) (hp i j hi1 hj1 h)
    · exact h
    · exact absurd (hj2.trans hi2.symm) (hp j i hj1 hi1 h)
  have hready0 : ∀ listed : Array Bool, listed.size = ops.size → Region.ready .any ops listed = [] → ∀ i, i < ops.size → listed.getD i false = true := by
    intro listed hsz hr i
    induction i using Nat.strongRecOn with
    | _ i ih =>
      intro hi
      cases hl : listed.getD i false with
      | true => rfl
      | false =>
        exfalso
        have hl2 : listed.getD i true = false := by
          rw [Array.getD_eq_getD_getElem?, Array.getElem?_eq_getElem (by omega)] at hl ⊢; simpa using hl
        have hm : i ∈ Region.ready .any ops listed := by
          unfold Region.ready
          rw [List.mem_filter]
          refine ⟨List.mem_range.2 hi, ?_⟩
          rw [hl2, Array.getElem?_eq_getElem hi]
          simp only [Bool.not_false, Bool.true_and, Option.map_some, Option.getD_some, Array.all_eq_true_iff_forall_mem]
          intro e he
          have h1 := hlow (ops[i], i) (by rw [List.mem_zipIdx_iff_getElem?]; simp [hi])
          simp only [Array.all_eq_true_iff_forall_mem] at h1
          have h2 := h1 e he
          cases hb : Region.binds .any e with
          | false => simp
          | true =>
            rw [hb] at h2
            have h3 : e.on < i := by simpa using h2
            simp [ih e.on h3 (by omega)]
        rw [hr] at hm
        cases hm
  have hfin : ∀ listed a w, listed.size = ops.size → Stand ops a0 a → S w → (∀ i d, listed.getD i false = true → dstOf ops i = some d → (Sp d).p (a.tmps.getD d undef) w) → Region.ready .any ops listed = [] → Q .normal a w := by
    intro listed a w hsz hst hS hsp hr
    refine fin a w hst hS fun t ht => ?_
    obtain ⟨i, hi, he⟩ := List.mem_iff_getElem.1 (List.contains_iff_mem.1 ht)
    have hd : dstOf ops i = some t := by rw [← hget, List.getElem?_eq_getElem hi, he]
    exact hsp i t (hready0 listed hsz hr i (by omega)) hd
  intro fuel
  induction fuel with
  | zero =>
    intro listed a w hsz hc hst hS hsp _ _
    have hr : Region.ready .any ops listed = [] := by
      have h0 : ((List.range ops.size).filter fun i => !listed.getD i true) = [] := List.eq_nil_of_length_eq_zero (by omega)
      unfold Region.ready
      rw [List.filter_eq_nil_iff] at h0 ⊢
      intro i hi
      have := h0 i hi
      simp only [Bool.not_eq_true] at this ⊢
      rw [this, Bool.false_and]
    exact ⟨hr, hfin listed a w hsz hst hS hsp hr⟩
  | succ fuel ih =>
    intro listed a w hsz hc hst hS hsp hun0 hcl
    refine ⟨hfin listed a w hsz hst hS hsp, fun i hi => ?_⟩
    unfold Region.ready at hi
    rw [List.mem_filter, List.mem_range] at hi
    obtain ⟨hilt, hi2⟩ := hi
    rw [Array.getElem?_eq_getElem hilt] at hi2
    simp only [Bool.and_eq_true, Option.map_some, Option.getD_some, Array.all_eq_true_iff_forall_mem] at hi2
    obtain ⟨hun, hdeps⟩ := hi2
    obtain ⟨d, hd, hdl⟩ := hdst' ops[i] (by simp)
    have hdi : dstOf ops i = some d := by unfold dstOf; rw [Array.getElem?_eq_getElem hilt]; exact hd
    have hthis := each.at_ i ops[i] (by simp [hilt])
    rw [Nat.zero_add] at hthis
    have hni : listed.getD i false = false := by
      have hl : listed.getD i true = false := by simpa using hun
      rw [Array.getD_eq_getD_getElem?, Array.getElem?_eq_getElem (by omega)] at hl ⊢
      simpa using hl
    have hold : ∀ t, (laterOf ops i).contains t = true → a.tmps.getD t undef = a0.tmps.getD t undef := fun t ht => by
      unfold laterOf at ht
      obtain ⟨o, ho, hot⟩ := List.mem_filterMap.1 (List.contains_iff_mem.1 ht)
      rw [List.mem_filter] at ho
      obtain ⟨j, hj, hje⟩ := List.mem_iff_getElem.1 ho.1
      have hj' : j < ops.size := by simpa using hj
      have hjo : ops[j]? = some o := by rw [Array.getElem?_eq_getElem hj', ← hje]; simp
      have hdj : dstOf ops j = some t := by unfold dstOf; rw [hjo]; exact hot
      refine hun0 j t hj' ?_ hdj
      rw [Bool.eq_false_iff]
      intro hlj
      obtain ⟨e, he, h2⟩ := Array.any_eq_true'.1 ho.2
      simp only [Bool.and_eq_true, beq_iff_eq] at h2
      have := hcl j o hlj hjo e he h2.1
      rw [h2.2, hni] at this
      cases this
    have hor := hthis a w ⟨hst, hold⟩ hS (fun t ht => by
      unfold waitsFor at ht
      obtain ⟨e, he, het⟩ := List.mem_filterMap.1 (List.contains_iff_mem.1 ht)
      rw [List.mem_filter] at he
      have := hdeps e (by simpa using he.1)
      rw [he.2] at this
      exact hsp e.on t (by simpa using this) het)
    have key : ∀ a' w', Goes S Sp a (ops[i]).dst w a' w' → wpAny P .any ops Q fuel (listed.setIfInBounds i true) a' w' := by
      rintro a' w' ⟨v, rfl, hS', hb, hsp'⟩
      have hval : ((a.put (ops[i]).dst v).tmps.getD d undef) = v := by
        rw [hd]
        simp only [Act.put]
        rw [Array.getD_eq_getD_getElem?, Array.getElem?_setIfInBounds_self_of_lt (by rw [hst.size]; exact hdl)]
        rfl
      have hoth : ∀ t, t ≠ d → (a.put (ops[i]).dst v).tmps.getD t undef = a.tmps.getD t undef := fun t ht => by
        rw [hd]
        simp only [Act.put]
        rw [Array.getD_eq_getD_getElem?, Array.getD_eq_getD_getElem?, Array.getElem?_setIfInBounds_ne (fun h => ht h.symm)]
      have hset : ∀ j, j ≠ i → (listed.setIfInBounds i true).getD j false = listed.getD j false := fun j hji => by
        rw [Array.getD_eq_getD_getElem?, Array.getElem?_setIfInBounds_ne (fun h => hji h.symm), ← Array.getD_eq_getD_getElem?]
      have hseti : (listed.setIfInBounds i true).getD i false = true := by
        rw [Array.getD_eq_getD_getElem?, Array.getElem?_setIfInBounds_self_of_lt (by omega)]; rfl
      refine ih _ _ _ (by simp [hsz]) ?_ ⟨by rw [hd]; simp [Act.put, hst.size], by rw [hd]; simp [Act.put, hst.defers], fun t ht => ?_⟩ hS' (fun j dj hj hdj => ?_) (fun j dj hj hlj hdj => ?_) (fun j o hlj hjo e he hb2 => ?_)
      · have hl : listed.getD i true = false := by simpa using hun
        have := filter_lt (l := List.range ops.size) (p := fun j => !listed.getD j true) (q := fun j => !(listed.setIfInBounds i true).getD j true) (fun x hx => by
          by_cases hxi : i = x
          · subst hxi
            rw [Array.getD_eq_getD_getElem?, Array.getElem?_setIfInBounds_self_of_lt (by omega)] at hx
            simp at hx
          · rw [Array.getD_eq_getD_getElem?, Array.getElem?_setIfInBounds_ne hxi, ← Array.getD_eq_getD_getElem?] at hx
            exact hx) (i := i) (List.mem_range.2 hilt) (by simp [hl]) (by
            rw [Array.getD_eq_getD_getElem?, Array.getElem?_setIfInBounds_self_of_lt (by omega)]; simp)
        omega
      · rw [hoth t, hst.out t ht]
        rintro rfl
        have : (dstsOf ops).contains t = true := List.contains_iff_mem.2 (List.mem_of_getElem? (by rw [hget, hdi]))
        rw [this] at ht
        cases ht
      · by_cases hji : j = i
        · subst hji
          rw [hdi] at hdj
          injection hdj with hdj
          subst hdj
          rw [hval]
          exact hsp' d hd
        · have hne : dj ≠ d := fun e => hji (hinj j i d (e ▸ hdj) hdi)
          rw [hoth dj hne]
          refine (Sp dj).st _ _ _ (hsp j dj ?_ hdj) hb
          rw [Array.getD_eq_getD_getElem?, Array.getElem?_setIfInBounds_ne (fun h => hji h.symm), ← Array.getD_eq_getD_getElem?] at hj
          exact hj
      · have hji : j ≠ i := fun h => by rw [h, hseti] at hlj; cases hlj
        rw [hset j hji] at hlj
        rw [hoth dj (fun e => hji (hinj j i d (e ▸ hdj) hdi))]
        exact hun0 j dj hj hlj hdj
      · have hon : listed.getD e.on false = true := by
          by_cases hji : j = i
          · subst hji
            rw [Array.getElem?_eq_getElem hilt] at hjo
            injection hjo with hjo
            subst hjo
            have := hdeps e he
            rw [hb2] at this
            simpa using this
          · rw [hset j hji] at hlj
            exact hcl j o hlj hjo e he hb2
        by_cases hei : e.on = i
        · rw [hei]; exact hseti
        · rw [hset _ hei]; exact hon
    unfold wpOp
    simp only [Array.getElem?_eq_getElem hilt]
    rcases hor with ⟨hw, hwp⟩ | ⟨hw, hS', hsp'⟩
    · simp only [wants hw, if_true]
      exact .inl (Oper.wp_mono (fun a' w' h => key a' w' h) hwp)
    · rw [wants_not hw]
      simp only [Bool.false_eq_true, if_false]
      exact key _ _ ⟨undef, rfl, hS', Below.refl _ _, hsp'⟩

theorem wp_region_specs2 {id : Nat} {a0 : Act} {w0 : World} (S : World → Prop) (Sp : List (Nat × Stb)) (hm : P.follows .mixedOrders = true) (hok : regOk ops a0.tmps.size = true) (hS : S w0.drew)
    (each : EachOp (OkOp2 P ops Q S (Stb.find Sp) a0) 0 ops.toList)
    (fin : ∀ a w, Stand ops a0 a → S w → (∀ t, (dstsOf ops).contains t = true → (Stb.find Sp t).p (a.tmps.getD t undef) w) → Q .normal a w) :
    (Code.region id ops true).wp P Q a0 w0 :=
  wp_region_any hm (wpAny_specs2 S (Stb.find Sp) a0 hok each fin _ _ _ _ (by simp) (by
    refine Nat.le_trans (List.length_filter_le _ _) (by simp)) ⟨rfl, rfl, fun _ _ => rfl⟩ hS (fun i d h => by
    exfalso
    rw [Array.getD_eq_getD_getElem?, Array.getElem?_replicate] at h
    split at h <;> simp at h) (fun _ _ _ _ _ => rfl) (fun j o h => by
    exfalso
    rw [Array.getD_eq_getD_getElem?, Array.getElem?_replicate] at h
    split at h <;> simp at h))
end

end Go.Proofs.Ytpmkaceeomnijaa
