/-
  A region that draws its order, gone through once an operation: the world's state may turn as operations are done, and blocks of some things may be written.
-/
import Derived.Test.YtpmkaceeomnijaaReg
import Derived.Test.YtpmkaceeomnijaaOff
namespace Go.Proofs.Ytpmkaceeomnijaa
open Go.RowKit

/-- a fact of a value, kept by whatever leaves alone all but some blocks -/
structure Sta (Bad : Nat → Prop) where
  p : Value → World → Prop
  st : ∀ v u u', p v u → Off Bad u u' → p v u'
def Sta.any (Bad : Nat → Prop) : Sta Bad := ⟨fun _ _ => True, fun _ _ _ _ _ => trivial⟩
/-- the value is known -/
def Sta.eq {Bad : Nat → Prop} (c : Value) : Sta Bad := ⟨fun v _ => v = c, fun _ _ _ h _ => h⟩
def Sta.find {Bad : Nat → Prop} : List (Nat × Sta Bad) → Nat → Sta Bad
  | [], _ => Sta.any Bad
  | (t, s) :: r, u => bif Nat.beq t u then s else Sta.find r u
/-- one operation more is done -/
def doneB (L : Nat → Bool) (i : Nat) : Nat → Bool := fun j => bif Nat.beq j i then true else L j
theorem doneB_ext {L : Nat → Bool} {i : Nat} {M : Nat → Bool} (h : M i = true) (h2 : ∀ j, j ≠ i → M j = L j) : M = doneB L i := by
  funext j
  unfold doneB
  by_cases hj : j = i
  · subst hj
    rw [h, show Nat.beq j j = true from Nat.beq_refl j]
    rfl
  · rw [h2 j hj, show Nat.beq j i = false from by
      cases hb : Nat.beq j i with
      | false => rfl
      | true => exact absurd (Nat.eq_of_beq_eq_true hb) hj]
    rfl

section
variable {P : Program} {ops : Array Oper} {Q : Exit → Act → World → Prop}

/-- what one operation leaves -/
def Went (S : (Nat → Bool) → World → Prop) {Bad : Nat → Prop} (Sp : Nat → Sta Bad) (L : Nat → Bool) (i : Nat) (a : Act) (d : Option Tmp) (w : World) (a' : Act) (w' : World) : Prop :=
  ∃ v, a' = a.put d v ∧ S (doneB L i) w' ∧ Off Bad w w' ∧ ∀ t, d = some t → (Sp t).p v w'
theorem Went.same {S : (Nat → Bool) → World → Prop} {Bad : Nat → Prop} {Sp : Nat → Sta Bad} {L : Nat → Bool} {i : Nat} {a : Act} {t : Nat} {w : World} {v : Value} (hS : S (doneB L i) w) (h : (Sp t).p v w) : Went S Sp L i a (some t) w { tmps := a.tmps.setIfInBounds t v, defers := a.defers } w :=
  ⟨v, rfl, hS, Off.refl _ _, fun _ e => by injection e with e; subst e; exact h⟩
theorem Went.next {S : (Nat → Bool) → World → Prop} {Bad : Nat → Prop} {Sp : Nat → Sta Bad} {L : Nat → Bool} {i : Nat} {a : Act} {t : Nat} {w w' : World} {v : Value} (hS : S (doneB L i) w') (hb : Off Bad w w') (h : (Sp t).p v w') : Went S Sp L i a (some t) w { tmps := a.tmps.setIfInBounds t v, defers := a.defers } w' :=
  ⟨v, rfl, hS, hb, fun _ e => by injection e with e; subst e; exact h⟩

/-- what is asked of one operation -/
def OkOp3 (P : Program) (ops : Array Oper) (Q : Exit → Act → World → Prop) (S : (Nat → Bool) → World → Prop) {Bad : Nat → Prop} (Sp : Nat → Sta Bad) (a0 : Act) (i : Nat) (o : Oper) : Prop :=
  ∀ L a w, L i = false → StandI ops i a0 a → S L w → (∀ t, (waitsFor ops o).contains t = true → (Sp t).p (a.tmps.getD t undef) w) →
    Wants ops a o ∧ o.wp P a w (Went S Sp L i a o.dst w) Q

theorem wpAny_specs3 (S : (Nat → Bool) → World → Prop) {Bad : Nat → Prop} (Sp : Nat → Sta Bad) (a0 : Act) (hok : regOk ops a0.tmps.size = true)
    (each : EachOp (OkOp3 P ops Q S Sp a0) 0 ops.toList)
    (fin : ∀ L a w, (∀ j, j < ops.size → L j = true) → Stand ops a0 a → S L w → (∀ t, (dstsOf ops).contains t = true → (Sp t).p (a.tmps.getD t undef) w) → Q .normal a w) :
    ∀ (fuel : Nat) (listed : Array Bool) (a : Act) (w : World), listed.size = ops.size → ((List.range ops.size).filter fun i => !listed.getD i true).length ≤ fuel →
      Stand ops a0 a → S (fun j => listed.getD j false) w → (∀ i d, listed.getD i false = true → dstOf ops i = some d → (Sp d).p (a.tmps.getD d undef) w) →
      (∀ j d, j < ops.size → listed.getD j false = false → dstOf ops j = some d → a.tmps.getD d undef = a0.tmps.getD d undef) →
      (∀ j o, listed.getD j false = true → ops[j]? = some o → ∀ e ∈ o.after, Region.binds .any e = true → listed.getD e.on false = true) → wpAny P .any ops Q fuel listed a w := by
  simp only [regOk, Bool.and_eq_true, List.all_eq_true, decide_eq_true_eq] at hok
  obtain ⟨⟨⟨hdst, hlen⟩, hnd⟩, hlow⟩ := hok
  have hdst' : ∀ o ∈ ops.toList, ∃ d, o.dst = some d ∧ d < a0.tmps.size := fun o ho => by
    have := hdst o ho
    split at this
    · rename_i d hd; exact ⟨d, hd, by simpa using this⟩
    · cases this
  have hget := dsts_getElem (ops := ops) (fun o ho => (hdst' o ho).imp fun d h => h.1)
  have hinj : ∀ i j d, dstOf ops i = some d → dstOf ops j = some d → i = j := fun i j d hi hj => by
    rw [← hget] at hi hj
    obtain ⟨hi1, hi2⟩ := List.getElem?_eq_some_iff.1 hi
    obtain ⟨hj1, hj2⟩ := List.getElem?_eq_some_iff.1 hj
    have hp := List.pairwise_iff_getElem.1 hnd
    rcases Nat.lt_trichotomy i j with h | h | h
    · exact absurd (hi2.trans hj2.symm) (hp i j hi1 hj1 h)
    · exact h
    · exact absurd (hj2.trans hi2.symm) (hp j i hj1 hi1 h)
  have hready0 : ∀ listed : Array Bool, listed.size = ops.size → Region.ready .any ops listed = [] → ∀ i, i < ops.size → listed.getD i false = true := by
    intro listed hsz hr i
    induction i using Nat.strongRecOn with
    | _ i ih =>
      intro hi
      cases hl : listed.getD i false with
      | true => rfl
      | false =>
        exfalso
        have hl2 : listed.getD i true = false := by
          rw [Array.getD_eq_getD_getElem?, Array.getElem?_eq_getElem (by omega)] at hl ⊢; simpa using hl
        have hm : i ∈ Region.ready .any ops listed := by
          unfold Region.ready
          rw [List.mem_filter]
          refine ⟨List.mem_range.2 hi, ?_⟩
          rw [hl2, Array.getElem?_eq_getElem hi]
          simp only [Bool.not_false, Bool.true_and, Option.map_some, Option.getD_some, Array.all_eq_true_iff_forall_mem]
          intro e he
          have h1 := hlow (ops[i], i) (by rw [List.mem_zipIdx_iff_getElem?]; simp [hi])
          simp only [Array.all_eq_true_iff_forall_mem] at h1
          have h2 := h1 e he
          cases hb : Region.binds .any e with
          | false => simp
          | true =>
            rw [hb] at h2
            have h3 : e.on < i := by simpa using h2
            simp [ih e.on h3 (by omega)]
        rw [hr] at hm
        cases hm
  have hfin : ∀ listed a w, listed.size = ops.size → Stand ops a0 a → S (fun j => listed.getD j false) w → (∀ i d, listed.getD i false = true → dstOf ops i = some d → (Sp d).p (a.tmps.getD d undef) w) → Region.ready .any ops listed = [] → Q .normal a w := by
    intro listed a w hsz hst hS hsp hr
    refine fin _ a w (hready0 listed hsz hr) hst hS fun t ht => ?_
    obtain ⟨i, hi, he⟩ := List.mem_iff_getElem.1 (List.contains_iff_mem.1 ht)
    have hd : dstOf ops i = some t := by rw [← hget, List.getElem?_eq_getElem hi, he]
    exact hsp i t (hready0 listed hsz hr i (by omega)) hd
  intro fuel
  induction fuel with
  | zero =>
    intro listed a w hsz hc hst hS hsp _ _
    have hr : Region.ready .any ops listed = [] := by
      have h0 : ((List.range ops.size).filter fun i => !listed.getD i true) = [] := List.eq_nil_of_length_eq_zero (by omega)
      unfold Region.ready
      rw [List.filter_eq_nil_iff] at h0 ⊢
      intro i hi
      have := h0 i hi
      simp only [Bool.not_eq_true] at this ⊢
      rw [this, Bool.false_and]
    exact ⟨hr, hfin listed a w hsz hst hS hsp hr⟩
  | succ fuel ih =>
    intro listed a w hsz hc hst hS hsp hun0 hcl
    refine ⟨hfin listed a w hsz hst hS hsp, fun i hi => ?_⟩
    unfold Region.ready at hi
    rw [List.mem_filter, List.mem_range] at hi
    obtain ⟨hilt, hi2⟩ := hi
    rw [Array.getElem?_eq_getElem hilt] at hi2
    simp only [Bool.and_eq_true, Option.map_some, Option.getD_some, Array.all_eq_true_iff_forall_mem] at hi2
    obtain ⟨hun, hdeps⟩ := hi2
    obtain ⟨d, hd, hdl⟩ := hdst' ops[i] (by simp)
    have hdi : dstOf ops i = some d := by unfold dstOf; rw [Array.getElem?_eq_getElem hilt]; exact hd
    have hthis := each.at_ i ops[i] (by simp [hilt])
    rw [Nat.zero_add] at hthis
    have hni : listed.getD i false = false := by
      have hl : listed.getD i true = false := by simpa using hun
      rw [Array.getD_eq_getD_getElem?, Array.getElem?_eq_getElem (by omega)] at hl ⊢
      simpa using hl
    have hold : ∀ t, (laterOf ops i).contains t = true → a.tmps.getD t undef = a0.tmps.getD t undef := fun t ht => by
      unfold laterOf at ht
      obtain ⟨o, ho, hot⟩ := List.mem_filterMap.1 (List.contains_iff_mem.1 ht)
      rw [List.mem_filter] at ho
      obtain ⟨j, hj, hje⟩ := List.mem_iff_getElem.1 ho.1
      have hj' : j < ops.size := by simpa using hj
      have hjo : ops[j]? = some o := by rw [Array.getElem?_eq_getElem hj', ← hje]; simp
      have hdj : dstOf ops j = some t := by unfold dstOf; rw [hjo]; exact hot
      refine hun0 j t hj' ?_ hdj
      rw [Bool.eq_false_iff]
      intro hlj
      obtain ⟨e, he, h2⟩ := Array.any_eq_true'.1 ho.2
      simp only [Bool.and_eq_true, beq_iff_eq] at h2
      have := hcl j o hlj hjo e he h2.1
      rw [h2.2, hni] at this
      cases this
    obtain ⟨hw, hwp⟩ := hthis _ a w hni ⟨hst, hold⟩ hS (fun t ht => by
      unfold waitsFor at ht
      obtain ⟨e, he, het⟩ := List.mem_filterMap.1 (List.contains_iff_mem.1 ht)
      rw [List.mem_filter] at he
      have := hdeps e (by simpa using he.1)
      rw [he.2] at this
      exact hsp e.on t (by simpa using this) het)
    unfold wpOp
    simp only [Array.getElem?_eq_getElem hilt, wants hw, if_true]
    refine .inl (Oper.wp_mono ?_ hwp)
    rintro a' w' ⟨v, rfl, hS', hb, hsp'⟩
    have hval : ((a.put (ops[i]).dst v).tmps.getD d undef) = v := by
      rw [hd]
      simp only [Act.put]
      rw [Array.getD_eq_getD_getElem?, Array.getElem?_setIfInBounds_self_of_lt (by rw [hst.size]; exact hdl)]
      rfl
    have hoth : ∀ t, t ≠ d → (a.put (ops[i]).dst v).tmps.getD t undef = a.tmps.getD t undef := fun t ht => by
      rw [hd]
      simp only [Act.put]
      rw [Array.getD_eq_getD_getElem?, Array.getD_eq_getD_getElem?, Array.getElem?_setIfInBounds_ne (fun h => ht h.symm)]
    have hset : ∀ j, j ≠ i → (listed.setIfInBounds i true).getD j false = listed.getD j false := fun j hji => by
      rw [Array.getD_eq_getD_getElem?, Array.getElem?_setIfInBounds_ne (fun h => hji h.symm), ← Array.getD_eq_getD_getElem?]
    have hseti : (listed.setIfInBounds i true).getD i false = true := by
      rw [Array.getD_eq_getD_getElem?, Array.getElem?_setIfInBounds_self_of_lt (by omega)]; rfl
    refine ih _ _ _ (by simp [hsz]) ?_ ⟨by rw [hd]; simp [Act.put, hst.size], by rw [hd]; simp [Act.put, hst.defers], fun t ht => ?_⟩ (by rw [doneB_ext (L := fun j => listed.getD j false) (i := i) (M := fun j => (listed.setIfInBounds i true).getD j false) hseti hset]; exact hS') (fun j dj hj hdj => ?_) (fun j dj hj hlj hdj => ?_) (fun j o hlj hjo e he hb2 => ?_)
    · have hl : listed.getD i true = false := by simpa using hun
      have := filter_lt (l := List.range ops.size) (p := fun j => !listed.getD j true) (q := fun j => !(listed.setIfInBounds i true).getD j true) (fun x hx => by
        by_cases hxi : i = x
        · subst hxi
          rw [Array.getD_eq_getD_getElem?, Array.getElem?_setIfInBounds_self_of_lt (by omega)] at hx
          simp at hx
        · rw [Array.getD_eq_getD_getElem?, Array.getElem?_setIfInBounds_ne hxi, ← Array.getD_eq_getD_getElem?] at hx
          exact hx) (i := i) (List.mem_range.2 hilt) (by simp [hl]) (by
          rw [Array.getD_eq_getD_getElem?, Array.getElem?_setIfInBounds_self_of_lt (by omega)]; simp)
      omega
    · rw [hoth t, hst.out t ht]
      rintro rfl
      have : (dstsOf ops).contains t = true := List.contains_iff_mem.2 (List.mem_of_getElem? (by rw [hget, hdi]))
      rw [this] at ht
      cases ht
    · by_cases hji : j = i
      · subst hji
        rw [hdi] at hdj
        injection hdj with hdj
        subst hdj
        rw [hval]
        exact hsp' d hd
      · have hne : dj ≠ d := fun e => hji (hinj j i d (e ▸ hdj) hdi)
        rw [hoth dj hne]
        refine (Sp dj).st _ _ _ (hsp j dj ?_ hdj) hb
        rw [Array.getD_eq_getD_getElem?, Array.getElem?_setIfInBounds_ne (fun h => hji h.symm), ← Array.getD_eq_getD_getElem?] at hj
        exact hj
    · have hji : j ≠ i := fun h => by rw [h, hseti] at hlj; cases hlj
      rw [hset j hji] at hlj
      rw [hoth dj (fun e => hji (hinj j i d (e ▸ hdj) hdi))]
      exact hun0 j dj hj hlj hdj
    · have hon : listed.getD e.on false = true := by
        by_cases hji : j = i
        · subst hji
          rw [Array.getElem?_eq_getElem hilt] at hjo
          injection hjo with hjo
          subst hjo
          have := hdeps e he
          rw [hb2] at this
          simpa using this
        · rw [hset j hji] at hlj
          exact hcl j o hlj hjo e he hb2
      by_cases hei : e.on = i
      · rw [hei]; exact hseti
      · rw [hset _ hei]; exact hon

theorem wp_region_specs3 {id : Nat} {a0 : Act} {w0 : World} (S : (Nat → Bool) → World → Prop) {Bad : Nat → Prop} (Sp : List (Nat × Sta Bad)) (hm : P.follows .mixedOrders = true) (hok : regOk ops a0.tmps.size = true) (hS : S (fun _ => false) w0.drew)
    (each : EachOp (OkOp3 P ops Q S (Sta.find Sp) a0) 0 ops.toList)
    (fin : ∀ L a w, (∀ j, Nat.blt j ops.size = true → L j = true) → Stand ops a0 a → S L w → (∀ t, (dstsOf ops).contains t = true → (Sta.find Sp t).p (a.tmps.getD t undef) w) → Q .normal a w) :
    (Code.region id ops true).wp P Q a0 w0 :=
  wp_region_any hm (wpAny_specs3 S (Sta.find Sp) a0 hok each (fun L a w hL => fin L a w fun j hj => hL j (Nat.le_of_ble_eq_true hj)) _ _ _ _ (by simp) (by
    refine Nat.le_trans (List.length_filter_le _ _) (by simp)) ⟨rfl, rfl, fun _ _ => rfl⟩ (by rw [show (fun j => (Array.replicate ops.size false).getD j false) = fun _ => false from by funext j; rw [Array.getD_eq_getD_getElem?, Array.getElem?_replicate]; split <;> rfl]; exact hS) (fun i d h => by
    exfalso
    rw [Array.getD_eq_getD_getElem?, Array.getElem?_replicate] at h
    split at h <;> simp at h) (fun _ _ _ _ _ => rfl) (fun j o h => by
    exfalso
    rw [Array.getD_eq_getD_getElem?, Array.getElem?_replicate] at h
    split at h <;> simp at h))
end

end Go.Proofs.Ytpmkaceeomnijaa
